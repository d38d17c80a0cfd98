import PyProof.Rows.All
import Wide.All
import OpenK.AllK
import Wide.FinOn
import Lean
import PyProof.EqAt
import PyProof.EqKinds
import PyProof.TupleCall
import PySem.Challenge.RW_foreknown_k28_records_of_many_parts
set_option Elab.async false
set_option linter.all false
set_option maxRecDepth 100000
noncomputable section
abbrev Aa:=PySem.Value->PySem.Shared->Prop
abbrev Ab:=PySem.Str->Option PySem.Value
abbrev Ac:=List (PySem.Addr×PySem.Obj)
abbrev Ad:=List PySem.Str
abbrev Ae:=List PySem.Addr
abbrev Af:=List PySem.Value
def zm:=@PySem.wpAny_bind
def zU:=@PySem.Heap.get?_push_of_some
def zK:=@PySem.wpAny_pure
def yc:=@PySem.Heap.lt_size
def yK:=@PySem.Heap.get?_push_size
def y8:=@PySem.wpAny_field
def jQ:=@PySem.wpAny_call_entry
def g8:=@PySem.wpAny_newObj_type
def jZ:=@PySem.wpAny_holding
def yT:=@PySem.wpAny_mono
def ww:=@PySem.Heap.get?_update_other
def wO:=@PySem.wpAny_truthy_bool
def iH:=@PySem.lookup_relabel_local
def yb:=@List.getElem?_eq_getElem
def yN:=@List.getElem?_set_ne
def yu:=@List.getElem?_eq_some_iff
def jf:=@List.getElem?_set_self
def z0:=@Nat.le_refl
def yH:=@List.size_toArray
def yj:=@List.mem_cons_self
def yz:=@List.mem_cons_of_mem
def yX:=@List.mem_append_right
def iI:=@List.mem_append_left
def zp:=@if_pos
def zD:=@if_neg
def iJ:=@List.mem_singleton
def yP:=@List.getElem?_map
def yE:=@List.mem_cons
def jy:=@List.drop_eq_getElem_cons
def jg:=@Nat.le_trans
def qU:=@List.getElem_mem
def jo:=@List.length_append
def g9:=@if_false
def jF:=@if_true
def jh:=@Nat.zero_le
def jG:=@List.mem_of_getElem?
def y3:=@List.length_map
def wa:=@List.map_append
def y9:=@Nat.lt_of_lt_of_le
def ye:=@List.map_cons
def kF:=@List.getElem?_cons_zero
def yw:=@Nat.ne_of_lt
def qV:=@List.getElem_of_mem
def y4:=@Bool.and_eq_true
def wP:=@List.mem_map
def g_:=@List.mem_append
def yF:=@List.length_cons
def wb:=@List.nodup_cons
def iK:=@List.getElem?_append_left
def iL:=@List.getElem?_append_right
def wc:=@decide_eq_false
def kG:=@decide_eq_true
def iM:=@List.drop_of_length_le
def jR:=@List.lookup_cons
def qW:=@List.getElem?_eq_none
def gj:=@List.getElem?_eq_none_iff
def qX:=@List.append_assoc
def jH:=@decide_eq_true_eq
def yL:=@Ne.symm
def ma:=@List.length_singleton
def wy:=@Nat.lt_succ_self
namespace L2
open PySem PySem.Spec PyProof.Rows
abbrev Key:=Sum Int Str
def di:Key->Value->Bool
 |.inl k,v=>Value.isInt k v
 |.inr x,v=>Value.isStrOf x v
def Ce (w:World):Key->Int
 |.inl k=>hashInt k
 |.inr x=>hashStr w x
def wA:∀{k:Key}{v:Value},di k v=true->(∃i t,k=Sum.inl i/\v=Value.int i t)\/(∃x t,k=Sum.inr x/\v=Value.str x t)
 |.inl i,v,h=>by
  obtain ⟨t,e⟩:=Value.isInt_shape (k:=i) (v:=v) h
  exact .inl ⟨i,t,rfl,e⟩
 |.inr x,v,h=>by
  obtain ⟨t,e⟩:=Value.isStrOf_shape (x:=x) (v:=v) h
  exact .inr ⟨x,t,rfl,e⟩
def J3 (i:Int) (t:Tok):di (.inl i) (.int i t)=true:=by simp [di,Value.isInt]
def J4 (x:Str) (t:Tok):di (.inr x) (.str x t)=true:=by simp [di,Value.isStrOf]
def J5 (a b:Int):decide ((Sum.inl a:Key)=Sum.inl b)=(a==b):=by
 by_cases e:a=b
 ·subst e;simp
 ·have h:¬(Sum.inl a:Key)=Sum.inl b:=λq=>e (Sum.inl.inj q)
  rw [wc h]
  exact (beq_eq_false_iff_ne.mpr e).symm
def J6 (a b:Str):decide ((Sum.inr a:Key)=Sum.inr b)=decide (a=b):=by
 by_cases e:a=b
 ·subst e;simp
 ·have h:¬(Sum.inr a:Key)=Sum.inr b:=λq=>e (Sum.inr.inj q)
  rw [wc h,wc e]
def J7 (a:Int) (b:Str):decide ((Sum.inl a:Key)=Sum.inr b)=false:=wc (λq=>nomatch q)
def J8 (a:Str) (b:Int):decide ((Sum.inr a:Key)=Sum.inl b)=false:=wc (λq=>nomatch q)
def aU (prog:Program) (w:World):PySem.KeyKind prog w Key where
 is:=di
 hash:=Ce w
 inj:=λv a b ha hb=>by
  rcases wA ha with ⟨i,t,rfl,rfl⟩|⟨x,t,rfl,rfl⟩
  ·rcases wA hb with ⟨j,u,rfl,e⟩|⟨y,u,rfl,e⟩
   ·injection e with e1 _;rw [e1]
   ·exact nomatch e
  ·rcases wA hb with ⟨j,u,rfl,e⟩|⟨y,u,rfl,e⟩
   ·exact nomatch e
   ·injection e with e1 _;rw [e1]
 byValue:=λk v h=>by
  rcases wA h with ⟨i,t,rfl,rfl⟩|⟨x,t,rfl,rfl⟩<;>rfl
 pyHash:=λhv h=>by
  rcases wA hv with ⟨i,t,rfl,rfl⟩|⟨x,t,rfl,rfl⟩
  ·exact wpAny_pyHash_int h
  ·exact wpAny_pyHash_str h
 eqBool:=λhu hv h=>by
  rcases wA hu with ⟨i,t,rfl,rfl⟩|⟨x,t,rfl,rfl⟩
  ·rcases wA hv with ⟨j,u,rfl,rfl⟩|⟨y,u,rfl,rfl⟩
   ·rw [J5] at h;exact wpAny_eqBool_int h
   ·rw [J7] at h;exact SeqAt.EqAt.int_str i t y u _ _ _ _ h
  ·rcases wA hv with ⟨j,u,rfl,rfl⟩|⟨y,u,rfl,rfl⟩
   ·rw [J8] at h;exact SeqAt.EqAt.str_int x t j u _ _ _ _ h
   ·rw [J6] at h;exact wpAny_eqBool_str h
 «strs» := λk x t v h=>by
  rcases wA h with ⟨i,u,rfl,e⟩|⟨y,u,rfl,e⟩
  ·exact nomatch e
  ·injection e with e1 _
   subst e1
   cases v<;>rfl
def J9 (prog:Program) (w:World) (i:Int) (t:Tok):(aU prog w).is (.inl i) (.int i t)=true:=J3 i t
def J_ (prog:Program) (w:World) (x:Str) (t:Tok):(aU prog w).is (.inr x) (.str x t)=true:=J4 x t
inductive V where
 |non|bl (b:Bool)|int (i:Int)|str (x:Str)|byt (b:Array UInt8)|flt (b:UInt64)|ref (a:Addr)|ty (n:String)
 deriving DecidableEq
def RelV:V->Value->Prop
 |.non,u=>u=Value.none
 |.bl b,u=>u=Value.bool b
 |.int i,u=>∃t,u=Value.int i t
 |.str x,u=>∃t,u=Value.str x t
 |.byt b,u=>∃t,u=Value.bytes b t
 |.flt b,u=>∃t,u=Value.float b t
 |.ref a,u=>u=Value.ref a
 |.ty n,u=>u=Value.type n
abbrev Vals:List V->List Value->Prop:=Paired RelV
theorem Vals.length {xs:List V}{us:Af}(r:Vals xs us):xs.length=us.length:=Paired.length r
theorem Vals.get:∀{xs:List V}{us:Af}{i:Nat}{x:V},Vals xs us->xs[i]?=some x->∃u,us[i]?=some u/\RelV x u
 |_,_,_,_,.nil,e=>by simp at e
 |_,_,0,_,.cons r _,e=>by simp at e;subst e;exact ⟨_,rfl,r⟩
 |_,_,i+1,x,.cons _ t,e=>by
  obtain ⟨u,h1,h2⟩:=Vals.get (i:=i) (x:=x) t (by simpa using e)
  exact ⟨u,by simpa using h1,h2⟩
theorem Vals.set {x:V}{u:Value}(r:RelV x u):∀{xs:List V}{us:Af}(i:Nat),Vals xs us->Vals (xs.set i x) (us.set i u)
 |_,_,_,.nil=>.nil
 |_,_,0,.cons _ t=>.cons r t
 |_,_,i+1,.cons q t=>.cons q (Vals.set r i t)
theorem Vals.append:∀{xs ys:List V}{us ws:Af},Vals xs us->Vals ys ws->Vals (xs++ys) (us++ws)
 |_,_,_,_,.nil,s=>s
 |_,_,_,_,.cons r t,s=>.cons r (Vals.append t s)
theorem Vals.take:∀{xs:List V}{us:Af}(n:Nat),Vals xs us->Vals (xs.take n) (us.take n)
 |_,_,0,_=>.nil
 |_,_,_+1,.nil=>.nil
 |_,_,n+1,.cons r t=>.cons r (Vals.take n t)
theorem Vals.drop:∀{xs:List V}{us:Af}(n:Nat),Vals xs us->Vals (xs.drop n) (us.drop n)
 |_,_,0,r=>r
 |_,_,_+1,.nil=>.nil
 |_,_,n+1,.cons _ t=>Vals.drop n t
def bQ:Option V->Option Value->Prop
 |some v,some u=>RelV v u
 |none,none=>True
 |_,_=>False
def KV {κ:Type}:List (κ×V)->List (κ×Value)->Prop:=Paired λ(p:κ×V) (q:κ×Value)=>p.1=q.1/\RelV p.2 q.2
def kV:Key->V
 |.inl i=>.int i
 |.inr x=>.str x
inductive HO where
 |lst (xs:List V)
 |tup (xs:List V)
 |dK (kvs:List (Key×V))|dT (kvs:List (List Key×V))
 |set (S:Int->Bool) (n:Nat)
 |ins (C dx:Addr) (fs:List (Str×V))
 |own (x:Addr)
 |xd (fs:List (Str×V))
 |met (f x:Addr)
 |rng (lo hi:Int)
 |frz (o:Obj) (u:HO)
 |tbl (ps:Array Value)
 |ext (φ:Program->World->Heap->Prop)
abbrev Hp:=Addr->Option HO
def upd (H:Hp) (a:Addr) (o:HO):Hp:=λb=>if b=a then some o else H b
def yv {H:Hp}{a:Addr}{o:HO}:upd H a o a=some o:=by unfold upd;rw [zp rfl]
def zO {H:Hp}{a b:Addr}{o:HO}(h:b≠a):upd H a o b=H b:=by unfold upd;rw [zD h]
def Ka {H:Hp}{a:Addr}{o u:HO}:upd (upd H a o) a u=upd H a u:=by
 funext b;unfold upd;split<;>rfl
def Kb {H:Hp}{a b:Addr}{o u:HO}(h:H a=some o) (h':H b=some u) (d:o≠u):a≠b:=by
 intro e;subst e;rw [h] at h';exact d (Option.some.inj h')
def wB {H:Hp}{a b:Addr}{o:HO}(h:H a=some o) (h':H b=none):a≠b:=by
 intro e;subst e;rw [h] at h';cases h'
section
variable (P:Program) (w:World)
def aX (H:Hp) (h:Heap) (a:Addr):HO->Prop
 |.lst xs=>xs.length<=sizeLine/\∃(its:Af) (n:Nat),Vals xs its/\h.get? a=some { cls:=.type "list", data:=.seq its.toArray n }
 |.tup xs=>xs.length<=sizeLine/\∃its:Af,Vals xs its/\IsTup h a its.toArray
 |.dK kvs=>kvs.length<=sizeLine/\(a==sysModules)=false/\∃vs,KV kvs vs/\h.DictOf (aU P w) a vs
 | .dT kvs=>kvs.length<=sizeLine/\(a==sysModules)=false/\∃xs:List (List Key×Addr×Value),
   Paired (λ(p:List Key×V) (q:List Key×Addr×Value)=>p.1=q.1/\H q.2.1=some (.tup (p.1.map kV))/\RelV p.2 q.2.2) kvs xs /\
   ∃o es ep,h.get? a=some o/\o.ExactDict/\o.data=.dict es ep/\es.toList=xs.map (entryOfKey (tupleKind (aU P w)))/\(xs.map (·.1)).Nodup
 |.set S n=>h.SetOf (intKind P w) a S n
 | .ins C dx fs=>H dx=some (.own a)/\fs.length<=1000/\dx≠a/\h.get? a=some (PySem.W.instObj C dx) /\
   ∃mA,h.Ns1 dx mA/\(∀f,bQ (fs.lookup f) (mA f))/\PySem.Within mA (fs.map (·.1))
 |.own _=>∃o,h.get? a=some o
 |.xd fs=>∃mA,h.Ns1 a mA/\∀f,bQ (fs.lookup f) (mA f)
 |.rng lo hi=>∃t u v,h.get? a=some { cls:=.type "range", data:=.fields #[.int lo t,.int hi u,.int 1 v] }
 |.frz o u=>h.get? a=some o/\aX H h a u
 |.tbl ps=>h.get? a=some { cls:=.none,data:=.fields ps }
 |.met f x=>h.get? a=some (PySem.W.methodObj (.ref f) (.ref x))
 |.ext φ=>φ P w h/\(∃o,h.get? a=some o)/\∀h1 h2:Heap,φ P w h1->(∀o,h1.get? a=some o->h2.get? a=some o)->φ P w h2
def bV (H:Hp) (h:Heap):Prop:=∀a o,H a=some o->aX P w H h a o
end
section
variable {P:Program} {w:World} {H H':Hp} {h h':Heap} {a:Addr} {o:HO}
theorem aX.lt (x:aX P w H h a o):a<h.objs.size:=by
 cases o with
 |lst xs=>obtain ⟨_,_,_,_,e⟩:=x;exact yc e
 |tup xs=>obtain ⟨_,_,_,p⟩:=x;exact p.lt
 |dK kvs=>obtain ⟨_,_,_,_,o,_,_,e,_⟩:=x;exact yc e
 |dT kvs=>obtain ⟨_,_,_,_,o,_,_,e,_⟩:=x;exact yc e
 |set S n=>obtain ⟨o,_,_,_,e,_⟩:=x;exact yc e
 |ins C dx fs=>obtain ⟨_,_,_,e,_⟩:=x;exact yc e
 |own y=>obtain ⟨_,e⟩:=x;exact yc e
 |xd fs=>obtain ⟨_,⟨_,_,_,e,_⟩,_⟩:=x;exact yc e
 |rng lo hi=>obtain ⟨_,_,_,e⟩:=x;exact yc e
 |frz ob u=>obtain ⟨e,_⟩:=x;exact yc e
 |tbl ps=>exact yc (show h.get? a=some _ from x)
 |met f y=>exact yc (show h.get? a=some _ from x)
 |ext φ=>obtain ⟨_,⟨_,e⟩,_⟩:=x;exact yc e
theorem Paired.mapP {α β:Type}{F G:α->β->Prop}:∀{aG:List α}{aH:List β},Paired F aG aH->(∀a b,F a b->G a b)->Paired G aG aH
 |_,_,.nil,_=>.nil
 |_,_,.cons r t,f=>.cons (f _ _ r) (Paired.mapP t f)
def aX.stay (x:aX P w H h a o) (k:∀b u,(b=a\/H b=some (.own a))->h.get? b=some u->h'.get? b=some u)
  (ho:∀b,H b=some (.own a)->H' b=some (.own a)) (ht:∀b xs,H b=some (.tup xs)->H' b=some (.tup xs)):aX P w H' h' a o:=by
 induction o with
 |lst xs=>obtain ⟨z,its,n,r,e⟩:=x;exact ⟨z,its,n,r,k _ _ (.inl rfl) e⟩
 |tup xs=>obtain ⟨z,its,r,ob,e,c⟩:=x;exact ⟨z,its,r,ob,k _ _ (.inl rfl) e,c⟩
 |dK kvs=>obtain ⟨z,y,vs,r,ob,es,ep,e,c⟩:=x;exact ⟨z,y,vs,r,ob,es,ep,k _ _ (.inl rfl) e,c⟩
 |dT kvs =>
  obtain ⟨z,y,xs,r,ob,es,ep,e,c⟩:=x
  exact ⟨z,y,xs,Paired.mapP r λp q z=>⟨z.1,ht _ _ z.2.1,z.2.2⟩,ob,es,ep,k _ _ (.inl rfl) e,c⟩
 |set S n=>obtain ⟨ob,es,ep,t,e,c⟩:=x;exact ⟨ob,es,ep,t,k _ _ (.inl rfl) e,c⟩
 |ins C dx fs =>
  obtain ⟨d,z,ne,e,mA,⟨od,es,ep,e2,c⟩,r⟩:=x
  exact ⟨ho _ d,z,ne,k _ _ (.inl rfl) e,mA,⟨od,es,ep,k _ _ (.inr d) e2,c⟩,r⟩
 |own y=>obtain ⟨ob,e⟩:=x;exact ⟨ob,k _ _ (.inl rfl) e⟩
 |xd fs=>obtain ⟨mA,⟨od,es,ep,e,c⟩,r⟩:=x;exact ⟨mA,⟨od,es,ep,k _ _ (.inl rfl) e,c⟩,r⟩
 |rng lo hi=>obtain ⟨t,u,v,e⟩:=x;exact ⟨t,u,v,k _ _ (.inl rfl) e⟩
 |frz ob u ih=>obtain ⟨e,q⟩:=x;exact ⟨k _ _ (.inl rfl) e,ih q⟩
 |tbl ps =>
  have e:h.get? a=some { cls:=.none,data:=.fields ps }:=x
  show h'.get? a=some { cls:=.none,data:=.fields ps }
  exact k a _ (.inl rfl) e
 |met f y =>
  have e:h.get? a=some (PySem.W.methodObj (.ref f) (.ref y)):=x
  show h'.get? a=some (PySem.W.methodObj (.ref f) (.ref y))
  exact k a _ (.inl rfl) e
 |ext φ=>obtain ⟨p,⟨o,e⟩,st⟩:=x;exact ⟨st _ _ p λo q=>k _ _ (.inl rfl) q,⟨o,k _ _ (.inl rfl) e⟩,st⟩
theorem bV.lt (x:bV P w H h) (e:H a=some o):a<h.objs.size:=(x a o e).lt
def bV.fresh (x:bV P w H h) (e:h.objs.size<=a):H a=none:=by
 cases q:H a with
 |none=>rfl
 |some u=>exact absurd (y9 (x.lt q) e) (Nat.lt_irrefl _)
def bV.kept (x:bV P w H h) (k:∀b u,h.get? b=some u->h'.get? b=some u):bV P w H h':=λa o e =>
 (x a o e).stay (λb u _ q=>k b u q) (λ_ q=>q) λ_ _ q=>q
def bV.laid (x:bV P w H h) (k:∀b u,h.get? b=some u->h'.get? b=some u) (hp:h.objs.size<=a) (new:aX P w (upd H a o) h' a o):bV P w (upd H a o) h':=λb u e=>by
 have hn:=x.fresh hp
 by_cases hb:b=a
 ·subst hb;rw [yv] at e;cases e;exact new
 ·rw [zO hb] at e
  exact (x b u e).stay (λc v _ q=>k c v q) (λc q=>by rw [zO (wB q hn)];exact q) λc xs q=>by rw [zO (wB q hn)];exact q
end
def Rd (H:Hp) (a:Addr) (u:HO):Prop:=H a=some u\/∃o,H a=some (.frz o u)
def Rd.ok {P:Program}{w:World}{H:Hp}{h:Heap}{a:Addr}{u:HO}(r:Rd H a u) (x:bV P w H h):aX P w H h a u:=by
 rcases r with r|⟨o,r⟩
 ·exact x a u r
 ·obtain ⟨_,q⟩:=x a _ r
  exact q
def md:Option HO->Prop
 |some (.lst _)=>True
 |some (.dK _)=>True
 |some (.dT _)=>True
 |some (.set _ _)=>True
 |some (.ins _ _ _)=>True
 |some (.ext _)=>True
 |_=>False
section
variable {P:Program} {w:World} {H:Hp} {h h':Heap} {x e:Addr} {o':HO}
def bV.write (ok:bV P w H h) (mu:md (H x)) (he:e=x\/H e=some (.own x)) (k:∀b u,b≠e->h.get? b=some u->h'.get? b=some u) (mf:∃u,h'.get? e=some u)
  (new:aX P w (upd H x o') h' x o'):bV P w (upd H x o') h':=λb u q=>by
 have uT:∀c y,H c=some (.own y)->c≠x:=λc y r z=>by subst z;rw [r] at mu;exact mu
 have Cf:∀c xs,H c=some (.tup xs)->c≠x:=λc xs r z=>by subst z;rw [r] at mu;exact mu
 by_cases hb:b=x
 ·subst hb;rw [yv] at q;cases q;exact new
 ·rw [zO hb] at q
  by_cases hbe:b=e
  ·have q':H b=some (.own x):=by
    rcases he with z|z
    ·exact absurd (hbe.trans z) hb
    ·rw [hbe];exact z
   rw [q] at q';cases q'
   obtain ⟨v,hv⟩:=mf
   exact ⟨v,by rw [hbe];exact hv⟩
  ·refine (ok b u q).stay (λc v hc r=>k c v ?_ r) (λc r=>by rw [zO (uT c b r)];exact r) λc xs r=>by rw [zO (Cf c xs r)];exact r
   rcases hc with rfl|hc
   ·exact hbe
   ·rintro rfl
    rcases he with z|z
    ·exact uT c b hc z
    ·rw [hc] at z;cases z;exact hb rfl
end
structure Un (fs ex:Ae) (H H':Hp) (h h':Heap):Prop where
 keep:∀b o,h.get? b=some o->H b=none->b∉fs->b∉ex->h'.get? b=some o
 slot:∀b o,h.get? b=some o->H b=none->b∈fs->b∉ex->∃sl,h'.get? b=some { o with slots:=sl }
 free:∀b o,h.get? b=some o->H b=none->b∉ex->H' b=none
 there:∀b o,h.get? b=some o->b∉ex->∃o',h'.get? b=some o'
 tups:∀b xs,H b=some (.tup xs)->H' b=some (.tup xs)
 frzs:∀b o u,H b=some (.frz o u)->H' b=some (.frz o u)
 tbls:∀b ps,H b=some (.tbl ps)->∃more,H' b=some (.tbl (ps++more))
section
variable {fs iN ex Cg:Ae} {H H1:Hp} {h h1 h':Heap} {a x e:Addr} {o:HO}
def Un.any (u:Un fs ex H H1 h h1) {b:Addr}{ob:Obj}(q:h.get? b=some ob) (n:H b=none) (hx:b∉ex):∃sl,h1.get? b=some { ob with slots:=sl }:=by
 by_cases hb:b∈fs
 ·exact u.slot b ob q n hb hx
 ·exact ⟨ob.slots,u.keep b ob q n hb hx⟩
def Un.kept (k:∀b u,h.get? b=some u->h'.get? b=some u):Un fs ex H H h h' :=
 ⟨λb ob q _ _ _=>k b ob q,λb ob q _ _ _=>⟨ob.slots,k b ob q⟩,λ_ _ _ n _=>n,λb ob q _=>⟨ob,k b ob q⟩,λ_ _ q=>q,λ_ _ _ q=>q,λ_ ps q=>⟨#[],by rw [q];simp⟩⟩
def Un.refl:Un fs ex H H h h:=Un.kept λ_ _ q=>q
def Un.laid (k:∀b u,h.get? b=some u->h'.get? b=some u) (hp:h.objs.size<=a) (hn:H a=none):Un fs ex H (upd H a o) h h' where
 keep:=λb u q _ _ _=>k b u q
 slot:=λb u q _ _ _=>⟨u.slots,k b u q⟩
 free:=λb u q n _=>by rw [zO (yw (y9 (yc q) hp))];exact n
 there:=λb u q _=>⟨u,k b u q⟩
 tups:=λb xs q=>by rw [zO (wB q hn)];exact q
 frzs:=λb u xs q=>by rw [zO (wB q hn)];exact q
 tbls:=λb ps q=>⟨#[],by rw [zO (wB q hn),q];simp⟩
def Un.write (mu:md (H x)) (he:e=x\/H e=some (.own x)) (k:∀b u,b≠e->h.get? b=some u->h'.get? b=some u) (mf:∃u,h'.get? e=some u):Un fs ex H (upd H x o) h h':=by
 have hx:∀b,H b=none->b≠x:=λb n z=>by subst z;rw [n] at mu;exact mu
 have hb:∀b,H b=none->b≠e:=λb n z=>by
  subst z
  rcases he with r|r
  ·exact hx b n r
  ·rw [n] at r;cases r
 have hm:∀b u,H b=some u->¬md (some u)->b≠x:=λb u q nm z=>by subst z;rw [q] at mu;exact nm mu
 refine ⟨λb u q n _ _=>k b u (hb b n) q,λb u q n _ _=>⟨u.slots,k b u (hb b n) q⟩,λb u q n _=>by rw [zO (hx b n)];exact n,λb u q _=>?_,
  λb xs q=>by rw [zO (hm b _ q λz=>z)];exact q,λb u xs q=>by rw [zO (hm b _ q λz=>z)];exact q,λb ps q=>⟨#[],by rw [zO (hm b _ q λz=>z),q];simp⟩⟩
 by_cases hbe:b=e
 ·subst hbe;exact mf
 ·exact ⟨u,k b u hbe q⟩
def Un.mono (u:Un fs ex H H1 h h1) (hs:∀b∈fs,b∈iN) (hx:∀b∈ex,b∈Cg):Un iN Cg H H1 h h1 :=
 ⟨λb ob q n hb he=>u.keep b ob q n (λz=>hb (hs b z)) λz=>he (hx b z),λ_ _ q n _ he=>u.any q n λz=>he (hx _ z),λb ob q n he=>u.free b ob q n λz=>he (hx b z),λb ob q he=>u.there b ob q λz=>he (hx b z),u.tups,u.frzs,u.tbls⟩
end
def qY (h:Heap) (H:Hp):Ae:=(List.range h.objs.size).filter λa=>(H a).isSome
def eD (h:Heap) (H:Hp):Heap:=PySem.W.hideAll h (qY h H)
def Kc (h:Heap) (H:Hp):(eD h H).objs.size=h.objs.size:=PySem.W.hideAll_size _ _
def Kd {h:Heap}{H:Hp}{b:Addr}{o:Obj}(e:h.get? b=some o) (n:H b=none):(eD h H).get? b=some o :=
 PySem.W.hideAll_get _ e λhm=>by
  have q:(H b).isSome=true:=(List.mem_filter.mp hm).2
  rw [n] at q;simp at q
def Ke {h:Heap}{H:Hp}{b:Addr}{o:Obj}(e:(eD h H).get? b=some o):h.get? b=some o/\H b=none:=by
 have e':h.get? b=some o:=PySem.W.of_hideAll (qY h H) e
 refine ⟨e',?_⟩
 cases q:H b with
 |none=>rfl
 |some x =>
  have hm:b∈qY h H:=List.mem_filter.mpr ⟨List.mem_range.mpr (yc e'),by simp [q]⟩
  have z:(eD h H).get? b=none:=PySem.W.hideAll_none (qY h H) hm
  rw [z] at e;cases e
def nO (g h:Heap) (L:Addr):Ac:=(List.range h.objs.size).filterMap λa=>if a=L\/(g.get? a).isSome=true then none else (h.get? a).map λo=>(a,o)
def rest (g h:Heap) (L d:Addr):Ac:=(nO g h L).filter λp=>decide (p.1≠d)
structure Mod (K:PySem.W.Frag) (mg:Ab) (base:Heap):Prop where
 kin:K.In base
 glob:base.Ns mainGlobals mg
 blt:∃mb,base.Ns builtinsNs mb/\∀x:Str,x ≠ "__name__" -> mb x=bootBuiltins x
 nolimit:base.NoLimit
structure Cx where
 prog:Program
 w:World
 K:PySem.W.Frag
 mg:Ab
 base:Heap
 A:Around
 N:Ad
 s₀:Shared
 H₀:Hp
 env:Env
 outer:List Env
 stack:List Env
 ex:Ae
 fn:Str->Bool
 calm:Bool
 pn:Ac
 xe:Aa
def cN (l:List Env):Ae:=l.filterMap (·.frame)
abbrev Cx.fs (X:Cx):Ae:=cN X.outer
def nP (sc:Scope) (x:Str):Prop:=sc.names.lookup x=some .local\/sc.names.lookup x=some .cell\/sc.names.lookup x=some .free
def Loc (sc:Scope) (x:Str):Prop:=sc.names.lookup x=some .local\/sc.names.lookup x=some .cell
def Look (env:Env) (h:Heap) (m:Ab) (x:Str) (u:Value):Prop :=
 (env.kindOf x=some .local/\m x=some u)\/((env.kindOf x=some .cell\/env.kindOf x=some .free)/\∃c,env.cells.lookup x=some c/\h.IsCell c (some u))
structure Cx.Ok (X:Cx):Prop where
 mod:Mod X.K X.mg X.base
 kind:X.env.scope.kind=.function
 glob:X.env.globals=mainGlobals
 blt:X.env.builtins=builtinsNs
 above:X.s₀.heap.objs.size<=X.env.locals
 inj:∀x y c,X.env.cells.lookup x=some c->X.env.cells.lookup y=some c->x=y
 has:∀x,(X.env.kindOf x=some .cell\/X.env.kindOf x=some .free)->∃c,X.env.cells.lookup x=some c
 cab:∀x c,X.fn x=true->X.env.cells.lookup x=some c->X.s₀.heap.objs.size<=c
 hd:X.calm=true->X.A.handled=none
 frames:X.A.frames=some X.stack
 stk:X.stack=X.outer\/(X.stack=X.env::X.outer/\X.env.frame=some X.env.locals)
 exf:∀b∈X.ex,b≠X.env.locals/\∀x c,X.env.cells.lookup x=some c->c≠b
 bs:∀b o,X.base.get? b=some o->X.s₀.heap.get? b=some o/\X.H₀ b=none
 bsz:X.base.objs.size<=X.s₀.heap.objs.size
 noex:∀b o,X.base.get? b=some o->b∉X.ex
 exfs:∀b∈X.ex,b∉X.fs
 funs:X.s₀.heap.FunFrames X.base X.outer
 frf:∀b∈X.fs,X.H₀ b=none
structure Inv (X:Cx) (pins:Ac) (U:List (Option V)) (H:Hp) (s:Shared):Prop where
 ok:X.Ok
 os:s.os=X.s₀.os
 bare:AllBare s.gens
 base:Un X.fs X.ex X.H₀ H X.s₀.heap s.heap
 loc:∃m,s.heap.Ns X.env.locals m/\∀(i:Nat) (x:Str) (v:V),X.N[i]?=some x->U[i]?=some (some v)->nP X.env.scope x->∃u,RelV v u/\Look X.env s.heap m x u
 cell:∀x c,X.env.cells.lookup x=some c->∃v,s.heap.IsCell c v
 free:H X.env.locals=none
 freeC:∀x c,X.env.cells.lookup x=some c->H c=none
 pin:∀p∈X.pn++pins,s.heap.get? p.1=some p.2/\H p.1=none/\p.1≠X.env.locals/\p.1∉X.fs/\∀v,p.2.data ≠ .cell v
 hok:bV X.prog X.w H s.heap
 len:U.length=X.N.length
section
variable {X:Cx} {pins:Ac} {U:List (Option V)} {H H':Hp} {s:Shared} {h':Heap}
def Cx.Ok.nofr (ok:X.Ok) {b:Addr}{o:Obj}(e:X.base.get? b=some o):b∉X.fs:=λhb=>by
 have:=(ok.funs.mem hb).1
 rw [e] at this;cases this
theorem Inv.bs (I:Inv X pins U H s):∀b o,X.base.get? b=some o->s.heap.get? b=some o/\H b=none:=λb o e =>
 ⟨I.base.keep b o (I.ok.bs b o e).1 (I.ok.bs b o e).2 (I.ok.nofr e) (I.ok.noex b o e),I.base.free b o (I.ok.bs b o e).1 (I.ok.bs b o e).2 (I.ok.noex b o e)⟩
def Inv.bk (I:Inv X pins U H s):∀b o,X.base.get? b=some o->s.heap.get? b=some o:=λb o e=>(I.bs b o e).1
theorem Inv.mod (I:Inv X pins U H s):Mod X.K X.mg X.base:=I.ok.mod
def Inv.kIn (I:Inv X pins U H s):X.K.In s.heap:=I.ok.mod.kin.keeps I.bk
def Inv.fr (I:Inv X pins U H s):∃m,Fr X.base X.env.locals s.heap m :=
 let ⟨m,hn,_⟩:=I.loc
 ⟨m,hn,I.bk,jg I.ok.bsz I.ok.above⟩
theorem Inv.lt (I:Inv X pins U H s):X.env.locals<s.heap.objs.size:=let ⟨_,hn,_⟩:=I.loc;hn.lt
def Inv.sz (I:Inv X pins U H s):X.s₀.heap.objs.size<=s.heap.objs.size:=jg I.ok.above (Nat.le_of_lt I.lt)
def Inv.nofs (I:Inv X pins U H s) {a:Addr}(h:s.heap.objs.size<=a):a∉X.fs:=λhb=>by
 obtain ⟨_,o,ho,_⟩:=I.ok.funs.mem hb
 exact absurd (y9 (yc ho) (jg I.sz h)) (Nat.lt_irrefl _)
def Inv.cne (I:Inv X pins U H s):∀x c,X.env.cells.lookup x=some c->c≠X.env.locals:=λx c e z=>by
 obtain ⟨v,o,ho,hd⟩:=I.cell x c e
 obtain ⟨m,⟨o',es,ep,ho',aY,_⟩,_⟩:=I.loc
 rw [z,ho'] at ho;cases ho;rw [aY] at hd;cases hd
theorem Inv.funs (I:Inv X pins U H s):s.heap.FunFrames X.base X.outer:=by
 have all:∀(l:List Env),(∀b∈cN l,b∈X.fs)->X.s₀.heap.FunFrames X.base l->s.heap.FunFrames X.base l:=by
  intro l
  induction l with
  |nil=>intro _ _;trivial
  |cons env r ih =>
   intro hs hl
   obtain ⟨hk,⟨L,o,hf,hn,ho,hd⟩,hr⟩:=hl
   have hL:L∈X.fs:=hs L (by unfold cN;rw [List.filterMap_cons,hf];exact yj)
   obtain ⟨sl,e⟩:=I.base.slot L o ho (I.ok.frf L hL) hL λz=>I.ok.exfs L z hL
   exact ⟨hk,⟨L,_,hf,hn,e,hd⟩,ih (λb hb=>hs b (by unfold cN;rw [List.filterMap_cons,hf];exact yz _ hb)) hr⟩
 exact all X.outer (λ_ hb=>hb) I.ok.funs
theorem Inv.stack (I:Inv X pins U H s):s.heap.FunFrames X.base X.stack:=by
 rcases I.ok.stk with e|⟨e,hf⟩
 ·rw [e];exact I.funs
 ·rw [e]
  obtain ⟨m,hn,_⟩:=I.loc
  refine .cons (by rw [I.ok.kind];decide) hf hn ?_ I.funs
  exact Heap.get?_none_of_le (jg I.ok.bsz I.ok.above)
def Inv.stkSub (I:Inv X pins U H s):∀b∈cN X.stack,b∈X.env.locals::X.fs:=λb hb=>by
 rcases I.ok.stk with e|⟨e,hf⟩
 ·rw [e] at hb;exact yz _ hb
 ·rw [e] at hb
  unfold cN at hb
  rw [List.filterMap_cons,hf] at hb
  exact hb
def Inv.stkFree (I:Inv X pins U H s):∀b∈cN X.stack,H b=none:=λb hb=>by
 rcases yE.mp (I.stkSub b hb) with e|hb
 ·rw [e];exact I.free
 ·obtain ⟨_,o,ho,_⟩:=I.ok.funs.mem hb
  exact I.base.free b o ho (I.ok.frf b hb) λz=>I.ok.exfs b z hb
def Inv.step {g':Array GenState}{t':Nat}{d':Drawn}{ch:Ae}(I:Inv X pins U H s)
  (gm:∀b∈ch,(b∈X.ex\/X.s₀.heap.objs.size<=b)/\b≠X.env.locals/\(∀x c,X.env.cells.lookup x=some c->c≠b)/\∀p∈X.pn++pins,p.1≠b)
  (keep:∀b o,b≠X.env.locals->b∉X.fs->b∉ch->s.heap.get? b=some o->H b=none->h'.get? b=some o)
  (slot:∀b o,b≠X.env.locals->b∈X.fs->b∉ch->s.heap.get? b=some o->H b=none->∃sl,h'.get? b=some { o with slots:=sl }) (free:∀b o,b∉ch->s.heap.get? b=some o->H b=none->H' b=none)
  (there:∀b o,b∉ch->s.heap.get? b=some o->∃o',h'.get? b=some o')
  (tups:∀b xs,H b=some (.tup xs)->H' b=some (.tup xs)) (frzs:∀b o u,H b=some (.frz o u)->H' b=some (.frz o u)) (tbls:∀b ps,H b=some (.tbl ps)->∃more,H' b=some (.tbl (ps++more)))
  (ns:∀m,s.heap.Ns X.env.locals m->h'.Ns X.env.locals m) (hok:bV X.prog X.w H' h') (hg:AllBare g') :
  Inv X pins U H' { s with heap:=h',gens:=g',drawn:=d',toks:=t' }:=by
 have Ci:∀b o,X.s₀.heap.get? b=some o->b≠X.env.locals:=λb o e=>yw (y9 (yc e) I.ok.above)
 have gn:∀b o,X.s₀.heap.get? b=some o->b∉X.ex->b∉ch:=λb o e hx hb=>by
  rcases (gm b hb).1 with z|z
  ·exact hx z
  ·exact absurd (y9 (yc e) z) (Nat.lt_irrefl _)
 have cellK:∀x c,X.env.cells.lookup x=some c->∀v,s.heap.IsCell c v->h'.IsCell c v:=λx c e v ⟨o,ho,hd⟩=>by
  have fG:c∉ch:=λz=>(gm c z).2.2.1 x c e rfl
  by_cases hc:c∈X.fs
  ·obtain ⟨sl,q⟩:=slot c o (I.cne x c e) hc fG ho (I.freeC x c e)
   exact ⟨_,q,hd⟩
  ·exact ⟨o,keep c o (I.cne x c e) hc fG ho (I.freeC x c e),hd⟩
 refine ⟨I.ok,I.os,hg,⟨λb o e n hb hx=>?_,λb o e n hb hx=>?_,λb o e n hx=>?_,λb o e hx=>?_,λb xs e=>tups b xs (I.base.tups b xs e),λb o xs e=>frzs b o xs (I.base.frzs b o xs e),λb ps e=>?_⟩,?_,λx c e=>?_,?_,λx c e=>?_,λp hp=>?_,hok,I.len⟩
 ·exact keep b o (Ci b o e) hb (gn b o e hx) (I.base.keep b o e n hb hx) (I.base.free b o e n hx)
 ·obtain ⟨sl,e1⟩:=I.base.slot b o e n hb hx
  obtain ⟨Kf,e2⟩:=slot b _ (Ci b o e) hb (gn b o e hx) e1 (I.base.free b o e n hx)
  exact ⟨Kf,e2⟩
 ·obtain ⟨o',e1⟩:=I.base.there b o e hx
  exact free b o' (gn b o e hx) e1 (I.base.free b o e n hx)
 ·obtain ⟨o',e1⟩:=I.base.there b o e hx
  exact there b o' (gn b o e hx) e1
 ·obtain ⟨m1,e1⟩:=I.base.tbls b ps e
  obtain ⟨m2,e2⟩:=tbls b _ e1
  exact ⟨m1++m2,by rw [e2,Array.append_assoc]⟩
 ·obtain ⟨m,hn,hl⟩:=I.loc
  refine ⟨m,ns m hn,λi x v e1 e2 e3=>?_⟩
  obtain ⟨u,r,l⟩:=hl i x v e1 e2 e3
  refine ⟨u,r,?_⟩
  rcases l with l|⟨k,c,e,z⟩
  ·exact .inl l
  ·exact .inr ⟨k,c,e,cellK x c e _ z⟩
 ·obtain ⟨v,z⟩:=I.cell x c e
  exact ⟨v,cellK x c e v z⟩
 ·obtain ⟨m,⟨o,_,_,ho,_⟩,_⟩:=I.loc
  exact free _ o (λz=>(gm _ z).2.1 rfl) ho I.free
 ·obtain ⟨v,o,ho,hd⟩:=I.cell x c e
  exact free c o (λz=>(gm c z).2.2.1 x c e rfl) ho (I.freeC x c e)
 ·obtain ⟨e,n,ne,nf,d⟩:=I.pin p hp
  have fG:p.1∉ch:=λz=>(gm p.1 z).2.2.2 p hp rfl
  exact ⟨keep p.1 p.2 ne nf fG e n,free p.1 p.2 fG e n,ne,nf,d⟩
def Inv.un {t':Nat}(I:Inv X pins U H s) (u:Un X.fs [] H H' s.heap h') (hok:bV X.prog X.w H' h'):Inv X pins U H' { s with heap:=h',toks:=t' }:=by
 obtain ⟨m,⟨o,es,ep,ho,r⟩,_⟩:=id I.loc
 obtain ⟨sl,hL⟩:=u.any ho I.free (by simp)
 exact I.step (g':=s.gens) (d':=s.drawn) (ch:=[]) (λ_ z=>nomatch z) (λb o _ hb _ e n=>u.keep b o e n hb (by simp)) (λb o _ hb _ e n=>u.slot b o e n hb (by simp)) (λb o _ e n=>u.free b o e n (by simp)) (λb o _ e=>u.there b o e (by simp)) u.tups u.frzs u.tbls (λm' hm=>by
  obtain ⟨o',qZ,mh,ho',r'⟩:=hm
  rw [ho] at ho';cases ho'
  exact ⟨_,qZ,mh,hL,r'⟩) hok I.bare
def Inv.call {g':Array GenState}{t':Nat}{d':Drawn}{ch:Ae}(I:Inv X pins U H s) (u:Un (cN X.stack) ch H H' s.heap h') (hok:bV X.prog X.w H' h') (hg:AllBare g')
  (gm:∀b∈ch,(b∈X.ex\/X.s₀.heap.objs.size<=b)/\b≠X.env.locals/\(∀x c,X.env.cells.lookup x=some c->c≠b)/\∀p∈X.pn++pins,p.1≠b) :
  Inv X pins U H' { s with heap:=h',gens:=g',drawn:=d',toks:=t' }:=by
 obtain ⟨m,⟨o,es,ep,ho,r⟩,_⟩:=id I.loc
 obtain ⟨sl,hL⟩:=u.any ho I.free λz=>(gm _ z).2.1 rfl
 exact I.step (ch:=ch) gm (λb o hL hb hc e n=>u.keep b o e n (λz=>(yE.mp (I.stkSub b z)).elim hL hb) hc) (λb o _ _ hc e n=>u.any e n hc) (λb o hc e n=>u.free b o e n hc) (λb o hc e=>u.there b o e hc) u.tups u.frzs u.tbls (λm' hm=>by
  obtain ⟨o',qZ,mh,ho',r'⟩:=hm
  rw [ho] at ho';cases ho'
  exact ⟨_,qZ,mh,hL,r'⟩) hok hg
def Inv.turned {t':Nat}{it:Addr}(I:Inv X pins U H s) (k:∀b o,b≠it->s.heap.get? b=some o->h'.get? b=some o) (hn:H it=none) (hL:it≠X.env.locals)
  (h1:it∈X.ex\/X.s₀.heap.objs.size<=it) (h2:∀x c,X.env.cells.lookup x=some c->c≠it) (h3:∀p∈X.pn++pins,p.1≠it):Inv X pins U H { s with heap:=h',toks:=t' }:=by
 have Cj:∀b u,H b=some u->b≠it:=λb u e z=>by rw [z,hn] at e;cases e
 refine I.step (g':=s.gens) (d':=s.drawn) (ch:=[it]) (λb hb=>?_) (λb o _ _ hc e _=>k b o (λz=>hc (by simp [z])) e) (λb o _ _ hc e _=>⟨o.slots,k b o (λz=>hc (by simp [z])) e⟩) (λ_ _ _ _ n=>n)
  (λb o hc e=>⟨o,k b o (λz=>hc (by simp [z])) e⟩) (λ_ _ e=>e) (λ_ _ _ e=>e) (λb ps e=>⟨#[],by rw [e];simp⟩) (λm hm=>?_) (λb u e=>?_) I.bare
 ·have e:b=it:=by simpa using hb
  subst e
  exact ⟨h1,hL,h2,h3⟩
 ·obtain ⟨o,es,ep,ho,r⟩:=hm
  exact ⟨o,es,ep,k _ o (yL hL) ho,r⟩
 ·refine (I.hok b u e).stay (λc v hc q=>k c v ?_ q) (λ_ q=>q) λ_ _ q=>q
  rcases hc with z|z
  ·rw [z];exact Cj b u e
  ·exact Cj c _ z
def Inv.tok (I:Inv X pins U H s) (t:Nat):Inv X pins U H { s with toks:=t }:=I.un (h':=s.heap) (t':=t) Un.refl I.hok
theorem Inv.kept {t':Nat}(I:Inv X pins U H s) (k:∀b u,s.heap.get? b=some u->h'.get? b=some u):Inv X pins U H { s with heap:=h',toks:=t' }:=I.un (Un.kept k) (I.hok.kept k)
theorem Inv.laid {a:Addr}{o:HO}{t':Nat}(I:Inv X pins U H s) (k:∀b u,s.heap.get? b=some u->h'.get? b=some u) (hp:s.heap.objs.size<=a) (new:aX X.prog X.w (upd H a o) h' a o) :
  Inv X pins U (upd H a o) { s with heap:=h',toks:=t' }:=I.un (Un.laid k hp (I.hok.fresh hp)) (I.hok.laid k hp new)
theorem Inv.write {x e:Addr}{o:HO}{t':Nat}(I:Inv X pins U H s) (mu:md (H x)) (he:e=x\/H e=some (.own x)) (k:∀b u,b≠e->s.heap.get? b=some u->h'.get? b=some u) (mf:∃u,h'.get? e=some u)
  (new:aX X.prog X.w (upd H x o) h' x o):Inv X pins U (upd H x o) { s with heap:=h',toks:=t' }:=I.un (Un.write mu he k mf) (I.hok.write mu he k mf new)
def Inv.weak {ah:List (Option V)}(I:Inv X pins U H s) (hl:ah.length=U.length) (w:∀(i:Nat) v,ah[i]?=some (some v)->U[i]?=some (some v)):Inv X pins ah H s :=
 ⟨I.ok,I.os,I.bare,I.base,let ⟨m,hn,eY⟩:=I.loc;⟨m,hn,λi x v e1 e2 e3=>eY i x v e1 (w i v e2) e3⟩,I.cell,I.free,I.freeC,I.pin,I.hok,hl.trans I.len⟩
def Inv.pins_of {pins':Ac}(I:Inv X pins U H s) (h:∀p∈pins',s.heap.get? p.1=some p.2/\H p.1=none/\p.1≠X.env.locals/\p.1∉X.fs/\∀v,p.2.data ≠ .cell v):Inv X pins' U H s :=
 ⟨I.ok,I.os,I.bare,I.base,I.loc,I.cell,I.free,I.freeC,λp hp=>(g_.mp hp).elim (λz=>I.pin p (iI _ z)) (h p),I.hok,I.len⟩
def vb {N:Ad}(hN:N.Nodup) {i j:Nat}{x:Str}(a:N[i]?=some x) (b:N[j]?=some x):i=j:=by
 obtain ⟨h1,e1⟩:=yu.mp a
 obtain ⟨h2,e2⟩:=yu.mp b
 exact (List.getElem_inj hN).mp (e1.trans e2.symm)
def Kg {M:Model}{A:Around}{E:Aa}{i:Nat}{x:Str}{v:V}{u:Value}{Q:Unit->Shared->Prop}(I:Inv X pins U H s) (hN:X.N.Nodup) (hi:X.N[i]?=some x) (hx:Loc X.env.scope x) (r:RelV v u)
  (h:∀s',Inv X pins (U.set i (some v)) H s'->(∃a,Heap.SameBut a s.heap s'.heap/\(a=X.env.locals\/X.env.cells.lookup x=some a))->Q () s') (hf:X.fn x=true\/X.env.scope.names.lookup x=some .local:=by first|exact .inl rfl|exact .inr rfl|assumption):wpAny M A (storeName X.env x u) Q E s:=by
 obtain ⟨m,hn,hl⟩:=id I.loc
 have fH:(X.env.scope.kind == .class||(X.env.scope.kind == .module&&X.env.locals != X.env.globals))=false:=by rw [I.ok.kind];rfl
 have aD:i<U.length:=by rw [I.len];exact (yu.mp hi).1
 have cne:=I.cne
 have tracked:∀{a:Addr} {h':Heap},(∃o,s.heap.get? a=some o/\H a=none)->Heap.SameBut a s.heap h'->bV X.prog X.w H h':=λ{a h'} ha hs b ob e=>by
  obtain ⟨_,_,hG⟩:=ha
  refine (I.hok b ob e).stay (λc w' hc q=>(hs.2 c ?_).trans q) (λ_ q=>q) λ_ _ q=>q
  rintro rfl
  rcases hc with rfl|hc
  ·rw [hG] at e;cases e
  ·rw [hG] at hc;cases hc
 rcases hx with hk|hk
 ·refine wpAny_storeName_local hk hn (λh' fC hs=>?_) fH
  obtain ⟨oL,_,_,gp,_⟩:=id hn
  refine h _ ⟨I.ok,I.os,I.bare,⟨λb o e n hb hx=>?_,λb o e n hb hx=>?_,I.base.free,λb o e hx=>?_,I.base.tups,I.base.frzs,I.base.tbls⟩,⟨_,fC,λj y v' e1 e2 e3=>?_⟩,λy c e=>?_,I.free,I.freeC,λp hp=>?_,tracked ⟨oL,gp,I.free⟩ hs,by simpa using I.len⟩ ⟨_,hs,.inl rfl⟩
  ·exact (hs.2 b (yw (y9 (yc e) I.ok.above))).trans (I.base.keep b o e n hb hx)
  ·obtain ⟨sl,e1⟩:=I.base.slot b o e n hb hx
   exact ⟨sl,(hs.2 b (yw (y9 (yc e) I.ok.above))).trans e1⟩
  ·obtain ⟨o',e1⟩:=I.base.there b o e hx
   exact ⟨o',(hs.2 b (yw (y9 (yc e) I.ok.above))).trans e1⟩
  ·by_cases hj:j=i
   ·subst hj
    rw [hi] at e1;cases e1
    rw [jf aD] at e2
    cases e2
    exact ⟨u,r,.inl ⟨hk,by simp⟩⟩
   ·rw [yN (yL hj)] at e2
    obtain ⟨u',r',q⟩:=hl j y v' e1 e2 e3
    refine ⟨u',r',?_⟩
    rcases q with ⟨k,e⟩|⟨k,c,e,z⟩
    ·refine .inl ⟨k,?_⟩
     have:y≠x:=λe=>hj (vb hN e1 (e▸hi))
     simp [this,e]
    ·exact .inr ⟨k,c,e,z.sameBut hs (cne y c e)⟩
  ·obtain ⟨w',z⟩:=I.cell y c e
   exact ⟨w',z.sameBut hs (cne y c e)⟩
  ·obtain ⟨e,n,ne,nf,d⟩:=I.pin p hp
   exact ⟨(hs.2 p.1 ne).trans e,n,ne,nf,d⟩
 ·have nQ:X.fn x=true:=by
   rcases hf with z|z
   ·exact z
   ·rw [z] at hk;cases hk
  obtain ⟨c,hc⟩:=I.ok.has x (.inl hk)
  obtain ⟨w',z⟩:=I.cell x c hc
  refine wpAny_storeName_cell I.ok.kind hk hc z (λh' cA hs=>?_)
  obtain ⟨oc,Ck,Cm⟩:=id z
  refine h { s with heap:=h' } ⟨I.ok,I.os,I.bare,⟨λb o e n hb hx=>?_,λb o e n hb hx=>?_,I.base.free,λb o e hx=>?_,I.base.tups,I.base.frzs,I.base.tbls⟩,⟨m,hn.sameBut hs (yL (cne x c hc)),λj y v' e1 e2 e3=>?_⟩,λy c' e=>?_,I.free,I.freeC,λp hp=>?_,tracked ⟨oc,Ck,I.freeC x c hc⟩ hs,by simpa using I.len⟩ ⟨c,hs,.inr hc⟩
  ·exact (hs.2 b (yw (y9 (yc e) (I.ok.cab x c nQ hc)))).trans (I.base.keep b o e n hb hx)
  ·obtain ⟨sl,e1⟩:=I.base.slot b o e n hb hx
   exact ⟨sl,(hs.2 b (yw (y9 (yc e) (I.ok.cab x c nQ hc)))).trans e1⟩
  ·obtain ⟨o',e1⟩:=I.base.there b o e hx
   exact ⟨o',(hs.2 b (yw (y9 (yc e) (I.ok.cab x c nQ hc)))).trans e1⟩
  ·by_cases hj:j=i
   ·subst hj
    rw [hi] at e1;cases e1
    rw [jf aD] at e2
    cases e2
    exact ⟨u,r,.inr ⟨.inl hk,c,hc,cA⟩⟩
   ·rw [yN (yL hj)] at e2
    obtain ⟨u',r',q⟩:=hl j y v' e1 e2 e3
    refine ⟨u',r',?_⟩
    rcases q with q|⟨k,c',e,z'⟩
    ·exact .inl q
    ·refine .inr ⟨k,c',e,z'.sameBut hs ?_⟩
     rintro rfl
     exact hj (vb hN e1 (I.ok.inj _ _ _ e hc▸hi))
  ·by_cases iO:c'=c
   ·subst iO;exact ⟨_,cA⟩
   ·obtain ⟨w2,z2⟩:=I.cell y c' e
    exact ⟨w2,z2.sameBut hs iO⟩
  ·obtain ⟨e,n,ne,nf,d⟩:=I.pin p hp
   refine ⟨(hs.2 p.1 ?_).trans e,n,ne,nf,d⟩
   intro q
   rw [q,Ck] at e
   have q':oc=p.2:=Option.some.inj e
   exact d w' (by rw [<-q'];exact Cm)
def mi {M:Model}{A:Around}{E:Aa}{i:Nat}{x:Str}{v:V}{u:Value}{Q:Unit->Shared->Prop}(I:Inv X pins U H s) (hN:X.N.Nodup) (hi:X.N[i]?=some x) (hx:Loc X.env.scope x) (r:RelV v u)
  (h:∀s',Inv X pins (U.set i (some v)) H s'->Q () s') (hf:X.fn x=true\/X.env.scope.names.lookup x=some .local:=by first|exact .inl rfl|exact .inr rfl|assumption):wpAny M A (storeName X.env x u) Q E s :=
 Kg I hN hi hx r (λs' I' _=>h s' I') hf
def Inv.call' {s':Shared}{ch:Ae}(I:Inv X pins U H s) (ho:s'.os=s.os) (u:Un (cN X.stack) ch H H' s.heap s'.heap) (hok:bV X.prog X.w H' s'.heap) (hg:AllBare s'.gens)
  (gm:∀b∈ch,(b∈X.ex\/X.s₀.heap.objs.size<=b)/\b≠X.env.locals/\(∀x c,X.env.cells.lookup x=some c->c≠b)/\∀p∈X.pn++pins,p.1≠b):Inv X pins U H' s':=by
 obtain ⟨h',g',d',t',o'⟩:=s'
 have e:o'=s.os:=ho
 subst e
 exact I.call (g':=g') (t':=t') (d':=d') u hok hg gm
end
abbrev XK:=Value->Option Addr->Hp->Prop
abbrev St:=List (Option V)
abbrev VK:=V->Hp->Prop
abbrev TE:=St->Hp->VK->Prop
abbrev TT:=St->Hp->(Bool->Hp->Prop)->Prop
abbrev TA:=St->Hp->(List V->Hp->Prop)->Prop
structure Ends where
 nx:St->Hp->Prop
 rt:VK
 bk:St->Hp->Prop:=λ_ _=>False
 ct:St->Hp->Prop:=λ_ _=>False
abbrev TS:=Ends->St->Hp->Prop
def EP (X:Cx) (pins:Ac) (U:St) (Q:VK) (u:Value) (s':Shared):Prop:=∃v H',Inv X pins U H' s'/\RelV v u/\Q v H'
def TP (X:Cx) (pins:Ac) (U:St) (Q:Bool->Hp->Prop) (b:Bool) (s':Shared):Prop:=∃H',Inv X pins U H' s'/\Q b H'
def AP (X:Cx) (pins:Ac) (U:St) (Q:List V->Hp->Prop) (us:Af) (s':Shared):Prop:=∃vs H',Inv X pins U H' s'/\Vals vs us/\Q vs H'
def SP (X:Cx) (pins:Ac) (D:Ends) (f:Flow) (s':Shared):Prop :=
 match f with
 |.next=>∃ah H',Inv X pins ah H' s'/\D.nx ah H'
 |.brk=>∃ah H',Inv X pins ah H' s'/\D.bk ah H'
 |.cont=>∃ah H',Inv X pins ah H' s'/\D.ct ah H'
 |.ret u=>∃v ah H',Inv X pins ah H' s'/\RelV v u/\D.rt v H'
def PE (X:Cx) (e:Expr) (t:TE):Prop :=
 ∀(pins:Ac) (s:Shared) (U:St) (H:Hp) (Q:VK),Inv X pins U H s->t U H Q->wpAny (model X.prog X.w) X.A (eval e X.env) (EP X pins U Q) X.xe s
def PT (X:Cx) (e:Expr) (t:TT):Prop :=
 ∀(pins:Ac) (s:Shared) (U:St) (H:Hp) (Q:Bool->Hp->Prop),Inv X pins U H s->t U H Q->wpAny (model X.prog X.w) X.A (isTrue e X.env (eval e X.env)) (TP X pins U Q) X.xe s
def PW (X:Cx) (e:Expr) (t:TT):Prop :=
 ∀(whole:Sem Value) (pins:Ac) (s:Shared) (U:St) (H:Hp) (Q:Bool->Hp->Prop),Inv X pins U H s->t U H Q->wpAny (model X.prog X.w) X.A (isTrue e X.env whole) (TP X pins U Q) X.xe s
def PW.pt {X:Cx}{e:Expr}{t:TT}(h:PW X e t):PT X e t:=h _
def PA (X:Cx) (es:List Expr) (t:TA):Prop :=
 ∀(pos:Pos) (pins:Ac) (s:Shared) (U:St) (H:Hp) (Q:List V->Hp->Prop),Inv X pins U H s->t U H Q->wpAny (model X.prog X.w) X.A (spliced (backTo pos (starEach es X.env))) (AP X pins U Q) X.xe s
def PS (X:Cx) (st:Stmt) (t:TS):Prop :=
 ∀(pins:Ac) (s:Shared) (U:St) (H:Hp) (D:Ends),Inv X pins U H s->t D U H->wpAny (model X.prog X.w) X.A (exec st X.env) (SP X pins D) X.xe s
def ck (X:Cx) (st:List Stmt) (t:TS):Prop :=
 ∀(pins:Ac) (s:Shared) (U:St) (H:Hp) (D:Ends),Inv X pins U H s->t D U H->wpAny (model X.prog X.w) X.A (execs st X.env) (SP X pins D) X.xe s
def aR {α:Type}{t:Sem α}{Q Q':α->Shared->Prop}{M:Model}{A:Around}{E:Aa}{s:Shared}(h:wpAny M A t Q E s) (hQ:∀a s,Q a s->Q' a s):wpAny M A t Q' E s:=yT h hQ λ_ _ x=>x
section
variable {X:Cx}
def q9 (i:Nat):TE:=λU H Q=>∃v,U[i]?=some (some v)/\Q v H
def tC (v:V):TE:=λ_ H Q=>Q v H
def Cn {i:Nat} {x:Str} {pos:Pos} (hN:X.N[i]?=some x) (hv:nP X.env.scope x) (hd:(x==("__debug__" : Str))=false:=by decide) (d0:(x==("__classdict__" : Str))=false:=by decide):PE X (.Name x pos) (q9 i):=by
 intro pins s U H Q I h
 obtain ⟨v,e,h⟩:=h
 obtain ⟨m,hn,hl⟩:=I.loc
 obtain ⟨u,r,l⟩:=hl i x v hN e hv
 have fin:EP X pins U Q u s:=⟨v,H,I,r,h⟩
 rcases l with ⟨hk,hm⟩|⟨hk,c,hc,dC⟩
 ·exact wpAny_Name (wpAny_loadName_local I.ok.kind hk hn hm fin) hd
 ·rcases hk with hk|hk
  ·exact wpAny_Name (wpAny_loadName_cell I.ok.kind hk hc dC fin) hd
  ·exact wpAny_Name (wpAny_loadName_free I.ok.kind hk hc dC fin d0) hd
def Kh {i j pos}:PE X (.Constant (.int i) j pos) (tC (.int i)):=λ_ _ _ H _ I h=>wpAny_Constant_int ⟨.int i,H,I.tok _,⟨_,rfl⟩,h⟩
def Ki {b j pos}:PE X (.Constant (.bool b) j pos) (tC (.bl b)):=λ_ _ _ H _ I h=>Constant_bool ⟨.bl b,H,I,rfl,h⟩
def Kj {j pos}:PE X (.Constant .none j pos) (tC .non):=λ_ _ _ H _ I h=>Constant_none ⟨.non,H,I,rfl,h⟩
def Kk {x j pos}:PE X (.Constant (.str x) j pos) (tC (.str x)):=λ_ _ _ H _ I h=>Calls.Constant_str ⟨.str x,H,I.tok _,⟨_,rfl⟩,h⟩
def Gl (X:Cx) (x:Str):Prop:=X.env.kindOf x=some .globalImplicit
def iP {E:Aa}{pins:Ac}{s:Shared}{U:St}{H:Hp}{x:Str}{u:Value}{pos:Pos}{Q:Aa}(I:Inv X pins U H s) (hg:Gl X x) (hm:X.mg x=some u) (h:Q u s)
  (hd:(x==("__debug__" : Str))=false:=by decide):wpAny (model X.prog X.w) X.A (eval (.Name x pos) X.env) Q E s :=
 Calls.Name_function_global I.ok.kind hg (Calls.loadGlobal_global (by rw [I.ok.glob];exact I.mod.glob.keeps I.bk) hm h) hd
def kH {E:Aa}{pins:Ac}{s:Shared}{U:St}{H:Hp}{x:Str}{u:Value}{pos:Pos}{Q:Aa}(I:Inv X pins U H s) (hg:Gl X x) (hm:X.mg x=none) (hv:bootBuiltins x=some u) (h:Q u s)
  (hn:x ≠ "__name__" := by decide) (hd:(x==("__debug__" : Str))=false:=by decide):wpAny (model X.prog X.w) X.A (eval (.Name x pos) X.env) Q E s:=by
 obtain ⟨mb,h1,h2⟩:=I.mod.blt
 exact Calls.Name_function_global I.ok.kind hg (Calls.loadGlobal_builtin (by rw [I.ok.glob];exact I.mod.glob.keeps I.bk) hm (by rw [I.ok.blt];exact h1.keeps I.bk) ((h2 x hn).trans hv) h) hd
def vc {x:Str} {v:V} {u:Value} {pos:Pos} (hg:Gl X x) (hm:X.mg x=some u) (r:RelV v u) (hd:(x==("__debug__" : Str))=false:=by decide):PE X (.Name x pos) (tC v) :=
 λ_ _ _ H _ I h=>iP I hg hm ⟨v,H,I,r,h⟩ hd
def Kl {x:Str} {v:V} {u:Value} {pos:Pos} (hg:Gl X x) (hm:X.mg x=none) (hv:bootBuiltins x=some u) (r:RelV v u) (hn:x ≠ "__name__" := by decide) (hd:(x==("__debug__" : Str))=false:=by decide):PE X (.Name x pos) (tC v) :=
 λ_ _ _ H _ I h=>kH I hg hm hv ⟨v,H,I,r,h⟩ hn hd
variable {a b:Expr} {ta tb:TE} {pos:Pos}
def tB (t:TE):TT:=λU H Q=>t U H λx H1=>∃c,x=.bl c/\Q c H1
def Km {e:Expr}{t:TE}(h:PE X e t) (he:∀whole,isTrue e X.env whole=(do let v <-whole;standAt e.pos;holding [v] (truthy v)):=by intro _;rfl):PT X e (tB t):=by
 intro pins s U H Q I hw
 refine isTrue_plain (aR (h pins s U H _ I hw) λv s1 ⟨x,H1,I1,r1,q1⟩=>?_) (he _)
 obtain ⟨d,rfl,q⟩:=q1
 cases r1
 exact wO ⟨H1,I1,q⟩
variable {tA q_:TT} {rest:List Expr}
def Ko (t u:TT):TT:=λU H Q=>t U H λc H1=>if c=true then u U H1 Q else Q false H1
def Kp (t u:TT):TT:=λU H Q=>t U H λc H1=>if c=true then Q true H1 else u U H1 Q
def Kq (t:TT):TT:=λU H Q=>t U H λc H1=>Q (!c) H1
def Kr (ha:PT X a tA):PW X (.BoolOp .And [a] pos) tA:=by
 intro wh pins s U H Q I h
 refine isTrue_and (aR (ha pins s U H Q I h) λc s1 e=>?_)
 cases c with
 |true=>exact isTrue_and_nil e
 |false=>exact e
def Ks (ha:PT X a tA):PW X (.BoolOp .Or [a] pos) tA:=by
 intro wh pins s U H Q I h
 refine isTrue_or (aR (ha pins s U H Q I h) λc s1 e=>?_)
 cases c with
 |false=>exact isTrue_or_nil e
 |true=>exact e
def Kt (ha:PT X a tA) (hb:PW X (.BoolOp .And (b::rest) pos) q_):PW X (.BoolOp .And (a::b::rest) pos) (Ko tA q_):=by
 intro wh pins s U H Q I h
 refine isTrue_and (aR (ha pins s U H _ I h) λc s1 ⟨H1,I1,q1⟩=>?_)
 cases c with
 |true=>exact hb wh pins s1 U H1 Q I1 q1
 |false=>exact ⟨H1,I1,q1⟩
def Ku (ha:PT X a tA) (hb:PW X (.BoolOp .Or (b::rest) pos) q_):PW X (.BoolOp .Or (a::b::rest) pos) (Kp tA q_):=by
 intro wh pins s U H Q I h
 refine isTrue_or (aR (ha pins s U H _ I h) λc s1 ⟨H1,I1,q1⟩=>?_)
 cases c with
 |true=>exact ⟨H1,I1,q1⟩
 |false=>exact hb wh pins s1 U H1 Q I1 q1
def Kv (ha:PT X a tA):PT X (.UnaryOp .Not a pos) (Kq tA):=by
 intro pins s U H Q I h
 exact isTrue_not (ha pins s U H (λc H1=>Q (!c) H1) I h)
def Kw (ta tb:TE):TE:=λU H Q=>ta U H λx H1=>∃c,x=.bl c/\if c=true then tb U H1 Q else Q (.bl false) H1
def Kx {op}{t:TE}(h:PE X a t):PE X (.BoolOp op [a] pos) t:=λpins s U H Q I hw=>BoolOp_one (h pins s U H Q I hw)
def Ky (ha:PE X a ta) (hb:PE X (.BoolOp .And (b::rest) pos) tb):PE X (.BoolOp .And (a::b::rest) pos) (Kw ta tb):=by
 intro pins s U H Q I h
 refine BoolOp_and (aR (ha pins s U H _ I h) λv s1 ⟨x,H1,I1,r1,q1⟩=>?_)
 obtain ⟨c,rfl,q1⟩:=q1
 cases r1
 refine wO ?_
 cases c with
 |true=>exact hb pins s1 U H1 Q I1 q1
 |false=>exact ⟨.bl false,H1,I1,rfl,q1⟩
def Kz (t:TT) (ta tb:TE):TE:=λU H Q=>t U H λc H1=>if c=true then ta U H1 Q else tb U H1 Q
def KA {c:Expr}(hc:PT X c tA) (ha:PE X a ta) (hb:PE X b tb):PE X (.IfExp c a b pos) (Kz tA ta tb):=by
 intro pins s U H Q I h
 refine wpAny_IfExp (aR (hc pins s U H _ I h) λd s1 ⟨H1,I1,q1⟩=>?_)
 cases d with
 |true=>exact ha pins s1 U H1 Q I1 q1
 |false=>exact hb pins s1 U H1 Q I1 q1
end
def ba (K:PySem.W.Frag) (H:Hp) (a:Addr) (xs:List V):Prop :=
 Rd H a (.lst xs) \/
  ∃(o:Obj) (its:Array Value) (n:Nat),K.lookup a=some o/\o.cls=.type "list" /\ o.dict=none/\o.data=.seq its n/\its.size<=sizeLine/\Vals xs its.toList
def bC (K:PySem.W.Frag) (H:Hp) (a:Addr) (xs:List V):Prop :=
 Rd H a (.tup xs) \/
  ∃(o:Obj) (its:Array Value) (n:Nat),K.lookup a=some o/\o.cls=.type "tuple" /\ o.data=.seq its n/\its.size<=sizeLine/\Vals xs its.toList
def Co:Value->Option V
 |.none=>some .non
 |.bool b=>some (.bl b)
 |.int i _=>some (.int i)
 |.str x _=>some (.str x)
 |.bytes b _=>some (.byt b)
 |.float b _=>some (.flt b)
 |.ref a=>some (.ref a)
 |.type n=>some (.ty n)
 |_=>none
def RelV.abs {x:V}{u:Value}(r:RelV x u):Co u=some x:=by
 cases x with
 |non=>cases r;rfl
 |bl _=>cases r;rfl
 |int _=>obtain ⟨t,rfl⟩:=r;rfl
 |str _=>obtain ⟨t,rfl⟩:=r;rfl
 |byt _=>obtain ⟨t,rfl⟩:=r;rfl
 |flt _=>obtain ⟨t,rfl⟩:=r;rfl
 |ref _=>cases r;rfl
 |ty _=>cases r;rfl
theorem RelV.inj {x y:V}{u:Value}(r:RelV x u) (q:RelV y u):x=y:=Option.some.inj (r.abs.symm.trans q.abs)
theorem Vals.inj:∀{xs ys:List V}{us:Af},Vals xs us->Vals ys us->xs=ys
 |_,_,_,.nil,.nil=>rfl
 |_,_,_,.cons r t,.cons r' t'=>by rw [r.inj r',Vals.inj t t']
section
variable {X:Cx} {pins:Ac} {U:St} {H:Hp} {s:Shared} {a:Addr} {xs ys:List V}
def ba.of {K:PySem.W.Frag}(h:H a=some (.lst xs)):ba K H a xs:=.inl (.inl h)
def bC.of {K:PySem.W.Frag}(h:H a=some (.tup xs)):bC K H a xs:=.inl (.inl h)
def Inv.list (I:Inv X pins U H s) (h:ba X.K H a xs):∃its:Af,Vals xs its/\PlainL s.heap a its.toArray/\xs.length<=sizeLine:=by
 rcases h with h|⟨o,its,n,hk,hc,hd,hs,hz,r⟩
 ·obtain ⟨z,its,n,r,e⟩:=h.ok I.hok
  exact ⟨its,r,⟨_,n,e,rfl,rfl,rfl⟩,z⟩
 ·refine ⟨its.toList,r,⟨o,n,I.kIn a o hk,hc,hd,by simpa using hs⟩,?_⟩
  have e:=r.length
  simp only [Array.length_toList] at e
  omega
def Inv.tuple (I:Inv X pins U H s) (h:bC X.K H a xs):∃its:Af,Vals xs its/\IsTup s.heap a its.toArray/\xs.length<=sizeLine:=by
 rcases h with h|⟨o,its,n,hk,hc,hs,hz,r⟩
 ·obtain ⟨z,its,r,p⟩:=h.ok I.hok
  exact ⟨its,r,p,z⟩
 ·refine ⟨its.toList,r,⟨o,I.kIn a o hk,hc,n,by simpa using hs⟩,?_⟩
  have e:=r.length
  simp only [Array.length_toList] at e
  omega
def Inv.list_inj (I:Inv X pins U H s) (h:ba X.K H a xs) (h':ba X.K H a ys):xs=ys:=by
 obtain ⟨its,r,⟨o,n,e,_,_,d⟩,_⟩:=I.list h
 obtain ⟨its',r',⟨o',n',e',_,_,d'⟩,_⟩:=I.list h'
 rw [e] at e';cases e'
 rw [d] at d'
 injection d' with d1 _
 have:its=its':=by simpa using congrArg Array.toList d1
 subst this
 exact r.inj r'
def Inv.tuple_inj (I:Inv X pins U H s) (h:bC X.K H a xs) (h':bC X.K H a ys):xs=ys:=by
 obtain ⟨its,r,⟨o,e,_,n,d⟩,_⟩:=I.tuple h
 obtain ⟨its',r',⟨o',e',_,n',d'⟩,_⟩:=I.tuple h'
 rw [e] at e';cases e'
 rw [d] at d'
 injection d' with d1 _
 have:its=its':=by simpa using congrArg Array.toList d1
 subst this
 exact r.inj r'
end
abbrev Cx.wish (X:Cx) (E:Aa):Cx:={ X with xe:=E }
abbrev Cx.nox (X:Cx):Cx:=X.wish λ_ _=>False
theorem Cx.Ok.wish {X:Cx}(ok:X.Ok) (E:Aa):(X.wish E).Ok :=
 ⟨ok.mod,ok.kind,ok.glob,ok.blt,ok.above,ok.inj,ok.has,ok.cab,ok.hd,ok.frames,ok.stk,ok.exf,ok.bs,ok.bsz,ok.noex,ok.exfs,ok.funs,ok.frf⟩
def Cx.Ok.unwish {X:Cx}{E:Aa}(ok:(X.wish E).Ok):X.Ok :=
 ⟨ok.mod,ok.kind,ok.glob,ok.blt,ok.above,ok.inj,ok.has,ok.cab,ok.hd,ok.frames,ok.stk,ok.exf,ok.bs,ok.bsz,ok.noex,ok.exfs,ok.funs,ok.frf⟩
section
variable {X:Cx} {pins:Ac} {U:St} {H:Hp} {s:Shared} {E:Aa}
theorem Inv.wish (I:Inv X pins U H s) (E:Aa):Inv (X.wish E) pins U H s:=⟨I.ok.wish E,I.os,I.bare,I.base,I.loc,I.cell,I.free,I.freeC,I.pin,I.hok,I.len⟩
theorem Inv.unwish (I:Inv (X.wish E) pins U H s):Inv X pins U H s:=⟨I.ok.unwish,I.os,I.bare,I.base,I.loc,I.cell,I.free,I.freeC,I.pin,I.hok,I.len⟩
theorem SP.unwish {D:Ends}{f:Flow}{s':Shared}(h:SP (X.wish E) pins D f s'):SP X pins D f s':=by
 cases f with
 |next=>obtain ⟨ah,H',I,q⟩:=h;exact ⟨ah,H',I.unwish,q⟩
 |brk=>obtain ⟨ah,H',I,q⟩:=h;exact ⟨ah,H',I.unwish,q⟩
 |cont=>obtain ⟨ah,H',I,q⟩:=h;exact ⟨ah,H',I.unwish,q⟩
 |ret u=>obtain ⟨v,ah,H',I,r,q⟩:=h;exact ⟨v,ah,H',I.unwish,r,q⟩
theorem PE.nox {e:Expr}{t:TE}(h:PE X.nox e t):PE X e t:=λpins s U H Q I hw =>
 yT (h pins s U H Q (I.wish _) hw) (λ_ _ ⟨v,H',I',r,q⟩=>⟨v,H',I'.unwish,r,q⟩) λ_ _ z=>z.elim
theorem PT.nox {e:Expr}{t:TT}(h:PT X.nox e t):PT X e t:=λpins s U H Q I hw =>
 yT (h pins s U H Q (I.wish _) hw) (λ_ _ ⟨H',I',q⟩=>⟨H',I'.unwish,q⟩) λ_ _ z=>z.elim
theorem ck.nox {st:List Stmt}{t:TS}(h:ck X.nox st t):ck X st t:=λpins s U H D I hw =>
 yT (h pins s U H D (I.wish _) hw) (λ_ _ q=>q.unwish) λ_ _ z=>z.elim
end
section
variable {X:Cx} {st:Stmt} {rest:List Stmt} {t u:TS} {e:Expr} {te:TE} {pos:Pos}
def KC:TS:=λD U H=>D.nx U H
def KG (t u:TS):TS:=λD U H=>t { D with nx:=u D } U H
def KH:ck X [] KC:=λ_ _ U H _ I h=>wpAny_execs_nil ⟨U,H,I,h⟩
def KI (h1:PS X st t) (h2:ck X rest u):ck X (st::rest) (KG t u):=by
 intro pins s U H D I h
 refine wpAny_execs_cons (aR (h1 pins s U H { D with nx:=u D } I h) λf s1 q=>?_)
 cases f with
 |next =>
  obtain ⟨ah,H',I',q⟩:=q
  exact h2 pins s1 ah H' D I' q
 |ret v=>exact q
 |brk=>exact q
 |cont=>exact q
def Cp (h1:PS X st t):ck X [st] t:=by
 intro pins s U H D I h
 refine wpAny_execs_cons (aR (h1 pins s U H D I h) λf s1 q=>?_)
 cases f with
 |next=>exact wpAny_execs_nil q
 |ret v=>exact q
 |brk=>exact q
 |cont=>exact q
def Inv.quiet {pins:Ac}{U:St}{H:Hp}{s:Shared}(I:Inv X pins U H s):interactive X.env=false:=by simp [interactive,I.ok.kind]
def KJ (te:TE):TS:=λD U H=>te U H λ_ H1=>D.nx U H1
def KL (he:PE X e te) (hs:swapsWith e none pos.line X.env=pure false:=by rfl):PS X (.Expr e pos) (KJ te):=by
 intro pins s U H D I h
 exact wpAny_Expr_any (aR (he pins s U H _ I h) λv s1 ⟨x,H1,I1,r1,q1⟩=>⟨U,H1,I1,q1⟩) I.quiet hs
def KN (te:TE):TS:=λD U H=>te U H D.rt
def KO (he:PE X e te):PS X (.Return (some e) pos) (KN te):=by
 intro pins s U H D I h
 exact wpAny_Return_some (aR (he pins s U H _ I h) λv s1 ⟨x,H1,I1,r1,q1⟩=>⟨x,U,H1,I1,r1,q1⟩)
def KP (c:TT) (t u:TS):TS:=λD U H=>c U H λb H1=>if b=true then t D U H1 else u D U H1
def KQ {c:Expr}{a b:List Stmt}{tc:TT}(hc:PT X c tc) (ha:ck X a t) (hb:ck X b u):PS X (.If c a b pos) (KP tc t u):=by
 intro pins s U H D I h
 refine wpAny_If (aR (hc pins s U H _ I h) λd s1 ⟨H1,I1,q1⟩=>?_)
 cases d with
 |true=>exact ha pins s1 U H1 D I1 q1
 |false=>exact hb pins s1 U H1 D I1 q1
def Cq:TS:=λ_ _ _=>False
def KR:PS X st Cq:=λ_ _ _ _ _ _ h=>h.elim
def KS {dD:List Stmt}:ck X dD Cq:=λ_ _ _ _ _ _ h=>h.elim
end
abbrev TG:=V->St->Hp->(St->Hp->Prop)->Prop
abbrev kI:=List V->St->Hp->(St->Hp->Prop)->Prop
def PG (X:Cx) (target:Expr) (t:TG):Prop :=
 ∀(pins:Ac) (s:Shared) (U:St) (H:Hp) (v:V) (u:Value) (Q:St->Hp->Prop),Inv X pins U H s->RelV v u->t v U H Q ->
  wpAny (model X.prog X.w) X.A (assign target X.env u) (λ_ s'=>∃ah H',Inv X pins ah H' s'/\Q ah H') X.xe s
def rg (X:Cx) (ts:List Expr) (t:kI):Prop :=
 ∀(pins:Ac) (s:Shared) (U:St) (H:Hp) (vs:List V) (us:Af) (Q:St->Hp->Prop),Inv X pins U H s->Vals vs us->t vs U H Q ->
  wpAny (model X.prog X.w) X.A (assignInOrder ((assignEach ts X.env).map (·.2)) us) (λ_ s'=>∃ah H',Inv X pins ah H' s'/\Q ah H') X.xe s
abbrev rh:=V->V->Hp->VK->Prop
def vd (X:Cx) (op:Operator) (t:rh):Prop :=
 ∀(pins:Ac) (s:Shared) (U:St) (H:Hp) (x y:V) (v u:Value) (Q:VK),Inv X pins U H s->RelV x v->RelV y u->t x y H Q ->
  wpAny (model X.prog X.w) X.A (inplaceOp op v u) (EP X pins U Q) X.xe s
section
variable {X:Cx} {pos:Pos}
def iQ (i:Nat):TG:=λv U H Q=>Q (U.set i (some v)) H
def kJ {i:Nat}{x:Str}(hN:X.N.Nodup) (hi:X.N[i]?=some x) (hx:Loc X.env.scope x) (hf:X.fn x=true\/X.env.scope.names.lookup x=some .local:=by first|exact .inl rfl|exact .inr rfl|assumption):PG X (.Name x pos) (iQ i):=by
 intro pins s U H v u Q I r h
 exact wpAny_assign_Name (mi I hN hi hx r (λs' I'=>⟨_,H,I',h⟩) hf)
def Cr:kI:=λvs U H Q=>vs=[]/\Q U H
def ve (t:TG) (u:kI):kI:=λvs U H Q=>∃v r,vs=v::r/\t v U H λah H'=>u r ah H' Q
def Cs:rg X [] Cr:=by
 intro pins s U H vs us Q I r h
 obtain ⟨e,h⟩:=h
 subst e
 cases r
 exact assignInOrder_nil ⟨U,H,I,h⟩
def ri {e:Expr}{es:List Expr}{t:TG}{u:kI}(h1:PG X e t) (h2:rg X es u)
  (hs:(assignEach (e::es) X.env).map (·.2)=assign e X.env::(assignEach es X.env).map (·.2):=by rfl):rg X (e::es) (ve t u):=by
 intro pins s U H vs us Q I r h
 obtain ⟨v,vr,e1,h⟩:=h
 subst e1
 cases r with
 |cons r rr =>
  rw [hs]
  refine assignInOrder_cons (aR (h1 pins s U H _ _ _ I r h) λ_ s1 ⟨au,H1,I1,q1⟩=>?_)
  exact h2 pins s1 au H1 _ _ Q I1 rr q1
def Ct (K:PySem.W.Frag) (n:Nat) (t:kI):TG:=λv U H Q=>∃a xs,v=.ref a/\bC K H a xs/\xs.length=n/\t xs U H Q
def Cu {es:List Expr}{k:Nat}{t:kI}{n:Nat}(hc:X.calm=true) (h:rg X es t)
  (hn:(assignEach es X.env).length=n:=by rfl) (b8:(assignEach es X.env).findIdx? (·.1)=none:=by rfl):PG X (.Tuple es k pos) (Ct X.K n t):=by
 intro pins s U H v u Q I r hw
 obtain ⟨a,xs,e1,hq,hl,hw⟩:=hw
 subst e1
 cases r
 obtain ⟨its,rv,ht,hz⟩:=I.tuple hq
 refine assign_Tuple_tuple (I.ok.hd hc) ht (by simp [hn,<-hl,rv.length]) b8 λh' hx=>?_
 have I1:Inv X pins U H { s with heap:=h' }:=I.kept (t':=s.toks) λb o e=>hx b o (yw (yc e)) e
 exact h pins _ U H xs _ Q I1 (by simpa using rv) hw
def KU (te:TE) (g:TG):TS:=λD U H=>te U H λx H1=>g x U H1 D.nx
def KW {i:Nat}{x:Str}{e:Expr}{te:TE}{pos':Pos}(hN:X.N.Nodup) (hi:X.N[i]?=some x) (hx:Loc X.env.scope x) (he:PE X e te) (hs:swapsWith e (some (.Name x pos')) pos.line X.env=pure false:=by rfl) (hf:X.fn x=true\/X.env.scope.names.lookup x=some .local:=by first|exact .inl rfl|exact .inr rfl|assumption) :
  PS X (.Assign [.Name x pos'] e pos) (KU te (iQ i)):=by
 intro pins s U H D I h
 refine wpAny_Assign_Name (aR (he pins s U H _ I h) λv s1 ⟨y,H1,I1,r1,q1⟩=>?_) hs
 exact mi I1 hN hi hx r1 (λs2 I2=>⟨_,H1,I2,q1⟩) hf
def KY (i:Nat) (te:TE) (ti:rh):TS:=λD U H=>∃x,U[i]?=some (some x)/\te U H λy H1=>ti x y H1 λz H2=>D.nx (U.set i (some z)) H2
def KZ {i:Nat}{x:Str}{e:Expr}{te:TE}{op:Operator}{ti:rh}{pos':Pos}(hN:X.N.Nodup) (hi:X.N[i]?=some x) (hx:Loc X.env.scope x) (he:PE X e te) (ho:vd X op ti) (hf:X.fn x=true\/X.env.scope.names.lookup x=some .local:=by first|exact .inl rfl|exact .inr rfl|assumption) :
  PS X (.AugAssign (.Name x pos') op e pos) (KY i te ti):=by
 intro pins s U H D I h
 obtain ⟨v,e1,h⟩:=h
 obtain ⟨m,hn,hl⟩:=I.loc
 have K0:nP X.env.scope x:=by rcases hx with k|k;exact .inl k;exact .inr (.inl k)
 obtain ⟨u,r,l⟩:=hl i x v hi e1 K0
 refine wpAny_AugAssign_Name ?_
 have go:wpAny (model X.prog X.w) X.A (eval e X.env) (λw af=>wpAny (model X.prog X.w) X.A (inplaceOp op u w) (λr aL=>wpAny (model X.prog X.w) X.A (storeName X.env x r) (λ_=>SP X pins D .next) X.xe aL) X.xe af) X.xe s:=by
  refine aR (he pins s U H _ I h) λw s1 ⟨y,H1,I1,r1,q1⟩=>?_
  refine aR (ho pins s1 U H1 v y u w _ I1 r r1 q1) λz s2 ⟨zv,H2,I2,r2,q2⟩=>?_
  exact mi I2 hN hi hx r2 (λs3 I3=>⟨_,H2,I3,q2⟩) hf
 rcases l with ⟨hk,hm⟩|⟨hk,c,hc,dC⟩
 ·exact wpAny_loadName_local I.ok.kind hk hn hm go
 ·rcases hk with hk|hk
  ·exact wpAny_loadName_cell I.ok.kind hk hc dC go
  ·rcases hx with k|k
   ·have:X.env.scope.names.lookup x=some .free:=hk
    rw [k] at this;cases this
   ·have:X.env.scope.names.lookup x=some .free:=hk
    rw [k] at this;cases this
def K2 (f:Int->Int->Int):rh:=λx y H Q=>∃i j,x=.int i/\y=.int j/\Q (.int (f i j)) H
def K3:vd X .Add (K2 λi j=>i+j):=by
 intro pins s U H x y v u Q I r1 r2 h
 obtain ⟨i,j,e1,e2,q⟩:=h
 subst e1;subst e2
 obtain ⟨t,rfl⟩:=r1
 obtain ⟨t',rfl⟩:=r2
 exact iadd_int ⟨.int _,H,I.tok _,⟨_,rfl⟩,q⟩
def K4 (c:TT) (tb:TS):TS:=λD U H=>∃W:Nat->St->Hp->Prop,(∃m,W m U H)/\∀m U H,W m U H ->
 c U H λb H1=>if b=true then ∃N:St->Hp->Prop,(∀ah H',N ah H'->∃m',m'<m/\W m' ah H')/\tb { D with nx:=N,ct:=N,bk:=D.nx } U H1 else D.nx U H1
def K5 {c:Expr}{body:List Stmt}{tc:TT}{tb:TS}(hp:PassesOwn (model X.prog X.w) X.A X.env X.xe) (hc:PT X c tc) (hb:ck X body tb):PS X (.While c body [] pos) (K4 tc tb):=by
 intro pins s U H D I h
 obtain ⟨W,⟨m0,w0⟩,turn⟩:=h
 refine wpAny_While (codeAny_whileLoop (λn s'=>∃ah H',Inv X pins ah H' s'/\W n ah H') ?_ m0 ⟨U,H,I,w0⟩)
 rintro n s1 ⟨au,H1,I1,w1⟩
 refine wpAny_passesOwn hp (aR (hc pins s1 au H1 _ I1 (turn n au H1 w1)) λb s2 ⟨H2,I2,q2⟩=>?_)
 cases b with
 |true =>
  obtain ⟨N,hN,q2⟩:=q2
  rw [zp rfl]
  refine wpAny_passesOwn hp (aR (hb pins s2 au H2 _ I2 q2) λf s3 q3=>?_)
  cases f with
  |next =>
   obtain ⟨ay,H3,I3,n3⟩:=q3
   obtain ⟨m',hm,w3⟩:=hN ay H3 n3
   exact ⟨m',hm,ay,H3,I3,w3⟩
  |cont =>
   obtain ⟨ay,H3,I3,n3⟩:=q3
   obtain ⟨m',hm,w3⟩:=hN ay H3 n3
   exact ⟨m',hm,ay,H3,I3,w3⟩
  |brk=>exact q3
  |ret v=>exact q3
 |false =>
  rw [zD Bool.false_ne_true]
  exact wpAny_execs_nil ⟨au,H2,I2,q2⟩
end
structure It where
 go:Nat->Hp->Prop
 yld:Nat->Hp->V->Hp->Prop
 stop:Nat->Hp->Prop
def cO (X:Cx) (pins:Ac) (H:Hp) (b:Addr):Prop :=
 H b=none/\b≠X.env.locals/\b∉X.fs/\(b∈X.ex\/X.s₀.heap.objs.size<=b)/\(∀x c,X.env.cells.lookup x=some c->c≠b)/\∀p∈X.pn++pins,p.1≠b
def Inv.fpOk {X:Cx}{pins:Ac}{U:St}{H H':Hp}{s:Shared}{b:Addr}(I:Inv X pins U H s) (hb:s.heap.objs.size<=b) (hn:H' b=none):cO X pins H' b:=by
 refine ⟨hn,Nat.ne_of_gt (y9 I.lt hb),I.nofs hb,.inr (jg I.sz hb),λx c e z=>?_,λp hp z=>?_⟩
 ·obtain ⟨v,q⟩:=I.cell x c e
  exact absurd (y9 q.lt (by rw [z];exact hb)) (Nat.lt_irrefl _)
 ·exact absurd (y9 (yc (I.pin p hp).1) (by rw [z];exact hb)) (Nat.lt_irrefl _)
structure Turn (P:Program) (w:World) (K:PySem.W.Frag) (tg:Expr) (J:It) (fp:Ae) (it:Addr) (tn:Nat->Heap->Prop):Prop where
 mem:it∈fp
 obj:∀i h,tn i h->∀b∈fp,∃o,h.get? b=some o/\∀v,o.data ≠ .cell v
 keep:∀i h h',tn i h->(∀b∈fp,∀o,h.get? b=some o->h'.get? b=some o)->tn i h'
 item:∀(X:Cx),X.prog=P->X.w=w->X.K=K->X.calm=true->∀(i:Nat) (pins:Ac) (s:Shared) (U:St) (H:Hp) (E:Aa),Inv X pins U H s->(∀b∈fp,cO X pins H b)->tn i s.heap->J.go i H ->
  wpAny (model P w) X.A (pyNext (.ref it)) (λr s1=>∃u,r=some u /\
   wpAny (model P w) X.A (letOwnedTupleGo tg (.ref it) u) (λ_ s2=>∃x H',Inv X pins U H' s2/\RelV x u/\J.yld i H x H'/\tn (i+1) s2.heap/\∀b∈fp,H' b=none) E s1) E s
 done:∀(X:Cx),X.prog=P->X.w=w->X.K=K->X.calm=true->∀(i:Nat) (pins:Ac) (s:Shared) (U:St) (H:Hp) (E:Aa),Inv X pins U H s->(∀b∈fp,cO X pins H b)->tn i s.heap->J.stop i H ->
  wpAny (model P w) X.A (pyNext (.ref it)) (λr s1=>r=none/\Inv X pins U H s1) E s
 self:∀(A:Around) (i:Nat) (s:Shared) (Q:Aa) (E:Aa),tn i s.heap->Q (.ref it) s->wpAny (model P w) A (pyIter (.ref it)) Q E s
abbrev TI:=St->Hp->(It->Hp->Prop)->Prop
def Cw (X:Cx) (pins:Ac) (U:St) (tg:Expr) (R:It->Hp->Prop) (rj:Value) (s2:Shared):Prop :=
 ∃(it:Addr) (fp:Ae) (tn:Nat->Heap->Prop) (J:It) (H':Hp),rj=.ref it/\Inv X pins U H' s2/\Turn X.prog X.w X.K tg J fp it tn/\tn 0 s2.heap/\(∀b∈fp,cO X pins H' b)/\R J H'
def PI (X:Cx) (tg iter:Expr) (wi:TI):Prop :=
 ∀(pins:Ac) (s:Shared) (U:St) (H:Hp) (R:It->Hp->Prop),Inv X pins U H s->wi U H R ->
  wpAny (model X.prog X.w) X.A (eval iter X.env) (λv s1=>wpAny (model X.prog X.w) X.A (pyIter v) (Cw X pins U tg R) X.xe s1) X.xe s
def mj {M:Model}{A:Around}{E:Aa}{s:Shared}{tg:Expr}{it:Addr}{u:Value}{o:Obj}{n:String}{vs:Array Value}{Q:Unit->Shared->Prop}(ho:s.heap.get? it=some o) (hc:o.cls=.type n) (hd:o.data=.fields vs)
  (hn:["enumerate", "zip", "dict_itemiterator", "dict_reverseitemiterator", "odict_iterator", "itertools.zip_longest", "itertools.pairwise"].contains n=false) (hQ:Q () s):wpAny M A (letOwnedTupleGo tg (.ref it) u) Q E s:=by
 unfold letOwnedTupleGo
 cases tg<;>first
  |exact zK hQ
  | (cases u<;>first
    |exact zK hQ
    | (refine zm (wpAny_load ho ?_)
       rw [hc,hd]
       show wpAny M A (if (["enumerate", "zip", "dict_itemiterator", "dict_reverseitemiterator", "odict_iterator", "itertools.zip_longest", "itertools.pairwise"].contains n&&vs[0]?==some (rawInt _))=true then _ else _) Q E s
       rw [zD (by intro h;rw [hn,Bool.false_and] at h;cases h)]
       exact zK hQ))
def rk (K:PySem.W.Frag) (a:Addr):It :=
 ⟨λi H=>∃xs x,ba K H a xs/\xs[i]?=some x,λi H x H'=>H'=H/\∀xs,ba K H a xs->xs[i]?=some x,λi H=>∃xs,ba K H a xs/\xs.length<=i⟩
def vf (K:PySem.W.Frag) (a:Addr):It :=
 ⟨λi H=>∃xs x,bC K H a xs/\xs[i]?=some x,λi H x H'=>H'=H/\∀xs,bC K H a xs->xs[i]?=some x,λi H=>∃xs,bC K H a xs/\xs.length<=i⟩
def rm (lo:Int) (n:Nat):It:=⟨λi _=>i<n,λi H x H'=>H'=H/\x=.int (lo+i),λi _=>n<=i⟩
def K6 {P:Program}{w:World}{K:PySem.W.Frag}{tg:Expr}(a it:Addr):Turn P w K tg (rk K a) [it] it (λi h=>h.IsListIter it a i) where
 mem:=by simp
 obj:=λi h st b hb=>by
  have e:b=it:=by simpa using hb
  subst e
  obtain ⟨o,e,c,d⟩:=st
  exact ⟨o,e,λv z=>by rw [d] at z;cases z⟩
 keep:=λi h h' st k=>st.at λo e=>k it (by simp) o e
 item:=by
  intro X hP hw hK hc i pins s U H E I hf st hg
  subst hP hw hK
  obtain ⟨xs,x,hq,hx⟩:=hg
  obtain ⟨its,rv,p,hz⟩:=I.list hq
  obtain ⟨u,hu,ru⟩:=rv.get hx
  obtain ⟨f0,f1,f2,f3,f4,f5⟩:=hf it (by simp)
  refine wpAny_pyNext_list_item st p.isList (x:=u) (by simpa using hu) λh' aP sb=>?_
  have I1:Inv X pins U H { s with heap:=h' }:=I.turned (t':=s.toks) (λb o hb e=>(sb.2 b hb).trans e) f0 f1 f3 f4 f5
  obtain ⟨o,e,c,d⟩:=id aP
  exact ⟨u,rfl,mj (s:={ s with heap:=h' }) e c d (by decide) ⟨x,H,I1,ru,⟨rfl,λys hy=>by rw [I.list_inj hy hq];exact hx⟩,aP,λb hb=>(hf b hb).1⟩⟩
 done:=by
  intro X hP hw hK hc i pins s U H E I hf st hg
  subst hP hw hK
  obtain ⟨xs,hq,hx⟩:=hg
  obtain ⟨its,rv,p,hz⟩:=I.list hq
  obtain ⟨f0,f1,f2,f3,f4,f5⟩:=hf it (by simp)
  have hl:=rv.length
  exact wpAny_pyNext_list_end (I.ok.hd hc) st p.isList (by simp;omega) λh' eb=>⟨rfl,I.turned (t':=s.toks) (λb o hb e=>eb b o hb e) f0 f1 f3 f4 f5⟩
 self:=λ_ _ _ _ _ st h=>wpAny_pyIter_listiter st h
def K7 {P:Program}{w:World}{K:PySem.W.Frag}{tg:Expr}(a it:Addr):Turn P w K tg (vf K a) [it] it (λi h=>h.IsTupleIter it a i) where
 mem:=by simp
 obj:=λi h st b hb=>by
  have e:b=it:=by simpa using hb
  subst e
  obtain ⟨o,e,c,d⟩:=st
  exact ⟨o,e,λv z=>by rw [d] at z;cases z⟩
 keep:=λi h h' st k=>st.at λo e=>k it (by simp) o e
 item:=by
  intro X hP hw hK hc i pins s U H E I hf st hg
  subst hP hw hK
  obtain ⟨xs,x,hq,hx⟩:=hg
  obtain ⟨its,rv,p,hz⟩:=I.tuple hq
  obtain ⟨u,hu,ru⟩:=rv.get hx
  obtain ⟨f0,f1,f2,f3,f4,f5⟩:=hf it (by simp)
  refine wpAny_pyNext_tuple_item st (show s.heap.IsTuple a its.toArray from p) (x:=u) (by simpa using hu) λh' aP sb=>?_
  have I1:Inv X pins U H { s with heap:=h' }:=I.turned (t':=s.toks) (λb o hb e=>(sb.2 b hb).trans e) f0 f1 f3 f4 f5
  obtain ⟨o,e,c,d⟩:=id aP
  exact ⟨u,rfl,mj (s:={ s with heap:=h' }) e c d (by decide) ⟨x,H,I1,ru,⟨rfl,λys hy=>by rw [I.tuple_inj hy hq];exact hx⟩,aP,λb hb=>(hf b hb).1⟩⟩
 done:=by
  intro X hP hw hK hc i pins s U H E I hf st hg
  subst hP hw hK
  obtain ⟨xs,hq,hx⟩:=hg
  obtain ⟨its,rv,p,hz⟩:=I.tuple hq
  obtain ⟨f0,f1,f2,f3,f4,f5⟩:=hf it (by simp)
  have hl:=rv.length
  exact wpAny_pyNext_tuple_end (I.ok.hd hc) st (show s.heap.IsTuple a its.toArray from p) (by simp;omega) λh' eb=>⟨rfl,I.turned (t':=s.toks) (λb o hb e=>eb b o hb e) f0 f1 f3 f4 f5⟩
 self:=λ_ _ _ _ _ st h=>wpAny_pyIter_tupleiter st h
def K8 {P:Program}{w:World}{K:PySem.W.Frag}{tg:Expr}(it:Addr) (lo:Int) (n:Nat):Turn P w K tg (rm lo n) [it] it (λi h=>IsRangeIter h it (lo+(i:Nat)*1) ((n:Int)-(i:Nat)) 1) where
 mem:=by simp
 obj:=λi h st b hb=>by
  have e:b=it:=by simpa using hb
  subst e
  exact ⟨_,st,λv z=>by
   have z':Data.fields _=Data.cell v:=z
   cases z'⟩
 keep:=λi h h' st k=>k it (by simp) _ st
 item:=by
  intro X hP hw hK hc i pins s U H E I hf st hg
  subst hP hw hK
  obtain ⟨f0,f1,f2,f3,f4,f5⟩:=hf it (by simp)
  have W:=Walks.range (prog:=X.prog) (w:=X.w) (I.ok.hd hc) it lo 1 n
  refine W.item i s _ _ hg st λv h' tk hv aP kk=>?_
  obtain ⟨t,rfl⟩:=hv
  have I1:Inv X pins U H { s with heap:=h',toks:=tk }:=I.turned (λb o hb e=>kk b o (by simpa using hb) e) f0 f1 f3 f4 f5
  refine ⟨_,rfl,mj (s:={ s with heap:=h',toks:=tk }) (n := "range_iterator") aP rfl rfl (by decide) ⟨.int (lo+i),H,I1,⟨t,?_⟩,⟨rfl,rfl⟩,aP,λb hb=>(hf b hb).1⟩⟩
  rw [Int.mul_one]
 done:=by
  intro X hP hw hK hc i pins s U H E I hf st hg
  subst hP hw hK
  obtain ⟨f0,f1,f2,f3,f4,f5⟩:=hf it (by simp)
  exact wpAny_pyNext_range_end (I.ok.hd hc) st (by have:n<=i:=hg;omega) λh' eb=>⟨rfl,I.turned (t':=s.toks) (λb o hb e=>eb b o hb e) f0 f1 f3 f4 f5⟩
 self:=λ_ _ _ _ _ st h=>wpAny_pyIter_rangeiter st h
section
variable {X:Cx} {tg:Expr}
def K9 {pins:Ac}{U:St}{H:Hp}{s:Shared}{R:It->Hp->Prop}{E:Aa}{lo hi:Int}{t u v:Tok}{tk:Nat}(I:Inv X pins U H s) (h1 : -(2 ^ 62)<=lo) (h2:lo<2 ^ 62) (h3 : -(2 ^ 62)<=hi) (h4:hi<2 ^ 62)
  (q:R (rm lo (hi-lo).toNat) H):wpAny (model X.prog X.w) X.A (pyIter (.ref s.heap.objs.size)) (Cw X pins U tg R) E { s with heap:=s.heap.push { cls:=.type "range", data:=.fields #[.int lo t,.int hi u,.int 1 v] },toks:=tk }:=by
 refine wpAny_pyIter_range (IsRange.new ..) (small_one h1 h2 h3 h4) ?_
 have I1:Inv X pins U H { s with heap:=s.heap.push { cls:=.type "range", data:=.fields #[.int lo t,.int hi u,.int 1 v] },toks:=tk }:=I.kept λb o e=>zU _ e
 refine ⟨(s.heap.push { cls:=.type "range", data:=.fields #[.int lo t,.int hi u,.int 1 v] }).objs.size,[(s.heap.push { cls:=.type "range", data:=.fields #[.int lo t,.int hi u,.int 1 v] }).objs.size],_,_,H,rfl,
  I1.kept (t':=tk) λb o e=>zU _ e,K8 _ lo (hi-lo).toNat,?_,λb hb=>?_,q⟩
 ·have e1:lo+((0:Nat):Int)*1=lo:=by simp
  have e2:(((hi-lo).toNat:Nat):Int)-((0:Nat):Int)=Builtin.Range.rangeSize lo hi 1:=by rw [rangeSize_one];split<;>omega
  show IsRangeIter _ _ (lo+((0:Nat):Int)*1) ((((hi-lo).toNat:Nat):Int)-((0:Nat):Int)) 1
  rw [e1,e2]
  exact yK _ rfl
 ·have e:b=(s.heap.push { cls:=.type "range", data:=.fields #[.int lo t,.int hi u,.int 1 v] }).objs.size:=by simpa using hb
  subst e
  exact I1.fpOk (z0 _) (I1.hok.fresh (z0 _))
def bJ (ta:TA):TI:=λU H R=>ta U H λvs H1=>∃j:Int,vs=[.int j] /\ -(2 ^ 62)<=j/\j<2 ^ 62/\R (rm 0 j.toNat) H1
def K_ {a:Expr} {ta:TA} {p pos:Pos} (hg:Gl X "range") (hm:X.mg "range" = none) (ha:PA X [a] ta) (hs:starEach [a] X.env=[(false,eval a X.env)]:=by rfl):PI X tg (.Call (.Name "range" p) [a] [] pos) (bJ ta):=by
 intro pins s U H R I h
 refine Call_ (kH I hg hm boot_range (PyProof.Rows.callWith_type1 (aR (ha pos pins s U H _ I h) λus s1 ⟨vs,H1,I1,r1,q1⟩=>?_) hs rfl))
 obtain ⟨j,e,q1,q2,q⟩:=q1
 subst e
 cases r1 with
 |cons r rr =>
  cases rr
  obtain ⟨t,rfl⟩:=r
  exact call_range_1 (K9 I1 (by omega) (by omega) q1 q2 (by simpa using q))
def La (wi:TI) (g:TG) (tb:TS):TS:=λD U H=>wi U H λJ H1=>∃W:Nat->Nat->St->Hp->Prop,(∃m,W 0 m U H1)/\∀i m U H,W i m U H ->
 (J.stop i H/\D.nx U H)\/(J.go i H/\∃N:St->Hp->Prop,(∀ah H',N ah H'->∃m',m'<m/\W (i+1) m' ah H')/\∀x H',J.yld i H x H'->g x U H' λaE H2=>tb { D with nx:=N,ct:=N,bk:=D.nx } aE H2)
def fE (fp:Ae) (h:Heap):Ac:=fp.filterMap λb=>(h.get? b).map λo=>(b,o)
def nR {fp:Ae}{h:Heap}{b:Addr}{o:Obj}(hb:b∈fp) (e:h.get? b=some o):(b,o)∈fE fp h:=List.mem_filterMap.mpr ⟨b,hb,by rw [e];rfl⟩
def Lb {fp:Ae}{h:Heap}{p:Addr×Obj}(hp:p∈fE fp h):p.1∈fp/\h.get? p.1=some p.2:=by
 obtain ⟨b,hb,e⟩:=List.mem_filterMap.mp hp
 cases q:h.get? b with
 |none=>rw [q] at e;cases e
 |some o =>
  rw [q] at e
  have e':(b,o)=p:=Option.some.inj e
  subst e'
  exact ⟨hb,q⟩
def Inv.pinned {pins:Ac}{U:St}{H:Hp}{s:Shared}{fp:Ae}(I:Inv X pins U H s) (hf:∀b∈fp,cO X pins H b) (ho:∀b∈fp,∃o,s.heap.get? b=some o/\∀v,o.data ≠ .cell v):Inv X (pins++fE fp s.heap) U H s :=
 I.pins_of λp hp=>(g_.mp hp).elim (λz=>I.pin p (yX _ z)) λz=>by
  obtain ⟨hb,e⟩:=Lb z
  obtain ⟨f0,f1,f2,_⟩:=hf p.1 hb
  obtain ⟨o,e',d⟩:=ho p.1 hb
  rw [e] at e';cases e'
  exact ⟨e,f0,f1,f2,d⟩
def Inv.unpinned {pins pl:Ac}{U:St}{H:Hp}{s:Shared}(I:Inv X (pins++pl) U H s):Inv X pins U H s:=I.pins_of λp hp=>I.pin p (yX _ (iI _ hp))
def Cy {iter:Expr}{body:List Stmt}{wi:TI}{g:TG}{tb:TS}{pos:Pos}(hp:PassesOwn (model X.prog X.w) X.A X.env X.xe) (hc:X.calm=true) (hi:PI X tg iter wi) (hg:PG X tg g) (hb:ck X body tb)
  (hs:∀x,foldedSetIterable iter X.env x=pure x:=by intro _;rfl):PS X (.For tg iter body [] pos) (La wi g tb):=by
 intro pins s U H D I h
 refine wpAny_For (aR (hi pins s U H _ I h) λv s1 h1=>aR h1 λrj s2 h2=>?_) hs
 obtain ⟨it,fp,tn,J,H2,e,I2,T,av,f2,W,⟨m0,w0⟩,turn⟩:=h2
 subst e
 have stat:∀{H':Hp},(∀b∈fp,H' b=none)->∀b∈fp,cO X pins H' b:=λhn b hb=>⟨hn b hb,(f2 b hb).2⟩
 refine codeAny_forLoop_any (λn s'=>∃i ah H',Inv X pins ah H' s'/\tn i s'.heap/\(∀b∈fp,H' b=none)/\W i n ah H') ?_ m0 ⟨0,U,H2,I2,av,λb hb=>(f2 b hb).1,w0⟩
 rintro n s3 ⟨i,ay,H3,I3,bb,iR,w3⟩
 rcases turn i n ay H3 w3 with ⟨stop,qn⟩|⟨go,N,hN,step⟩
 ·refine wpAny_passesOwn hp (aR (T.done X rfl rfl rfl hc i pins s3 ay H3 X.xe I3 (stat iR) bb stop) λr s4 ⟨hr,I4⟩=>?_)
  subst hr
  exact wpAny_execs_nil ⟨ay,H3,I4,qn⟩
 ·refine wpAny_passesOwn hp (aR (T.item X rfl rfl rfl hc i pins s3 ay H3 X.xe I3 (stat iR) bb go) λr s4 ⟨u,hr,h4⟩=>?_)
  subst hr
  refine wpAny_passesOwn hp (aR h4 λ_ s5 ⟨x,H5,I5,r5,y5,cW,nS⟩=>?_)
  have nU:=I5.pinned (stat nS) (T.obj _ _ cW)
  refine wpAny_passesOwn hp (aR (hg _ s5 ay H5 x u _ nU r5 (step x H5 y5)) λ_ s6 ⟨aF,H6,I6,q6⟩=>?_)
  refine wpAny_passesOwn hp (aR (hb _ s6 aF H6 _ I6 q6) λf s7 q7=>?_)
  have again:∀{ax:St} {H7:Hp},Inv X (pins++fE fp s5.heap) ax H7 s7->N ax H7->∃m,m<n/\∃i ah H',Inv X pins ah H' s7/\tn i s7.heap/\(∀b∈fp,H' b=none)/\W i m ah H':=λ{ax H7} I7 n7=>by
   obtain ⟨m',hm,w7⟩:=hN ax H7 n7
   refine ⟨m',hm,i+1,ax,H7,I7.unpinned,T.keep _ _ _ cW λb hb o e=>(I7.pin (b,o) (yX _ (yX _ (nR hb e)))).1,λb hb=>?_,w7⟩
   obtain ⟨o,e,d⟩:=T.obj _ _ cW b hb
   exact (I7.pin (b,o) (yX _ (yX _ (nR hb e)))).2.1
  cases f with
  |next=>obtain ⟨ax,H7,I7,n7⟩:=q7;exact again I7 n7
  |cont=>obtain ⟨ax,H7,I7,n7⟩:=q7;exact again I7 n7
  |brk=>obtain ⟨ax,H7,I7,q7⟩:=q7;exact ⟨ax,H7,I7.unpinned,q7⟩
  |ret v=>obtain ⟨x7,ax,H7,I7,r7,q7⟩:=q7;exact ⟨x7,ax,H7,I7.unpinned,r7,q7⟩
end
abbrev R2:=V->V->Hp->VK->Prop
def bq (X:Cx) (f:Value->Value->Sem Value) (r:R2):Prop :=
 ∀(pins:Ac) (s:Shared) (U:St) (H:Hp) (x y:V) (v u:Value) (Q:VK),Inv X pins U H s->RelV x v->RelV y u->r x y H Q ->
  wpAny (model X.prog X.w) X.A (f v u) (EP X pins U Q) X.xe s
def nV (X:Cx) (f:Value->Sem Value) (r:V->Hp->VK->Prop):Prop :=
 ∀(pins:Ac) (s:Shared) (U:St) (H:Hp) (x:V) (v:Value) (Q:VK),Inv X pins U H s->RelV x v->r x H Q ->
  wpAny (model X.prog X.w) X.A (f v) (EP X pins U Q) X.xe s
def bt (X:Cx) (f:Value) (r:List V->Hp->VK->Prop):Prop :=
 ∀(pins:Ac) (s:Shared) (U:St) (H:Hp) (xs:List V) (us:Af) (Q:VK),Inv X pins U H s->Vals xs us->r xs H Q ->
  wpAny (model X.prog X.w) X.A (call f us) (EP X pins U Q) X.xe s
def nW (r:R2) (ta tb:TE):TE:=λU H Q=>ta U H λx H1=>tb U H1 λy H2=>r x y H2 Q
def Lc (r:V->Hp->VK->Prop) (ta:TE):TE:=λU H Q=>ta U H λx H1=>r x H1 Q
def rI (C:Int->Int->Prop) (g:Int->Int->V):R2:=λx y H Q=>∃i j,x=.int i/\y=.int j/\C i j/\Q (g i j) H
def hI (g:Int->Int->V):R2:=λx y H Q=>∃i j,x=.int i/\y=.int j/\Q (g i j) H
def rU (g:Int->V):V->Hp->VK->Prop:=λx H Q=>∃i,x=.int i/\Q (g i) H
section
variable {X:Cx} {a b c:Expr} {ta tb tc:TE} {pos:Pos}
def nX (ha:PE X a ta) (hb:PE X b tb) {pins:Ac}{s:Shared}{U:St}{H:Hp}{R:V->V->Hp->Prop}(I:Inv X pins U H s)
  (h:ta U H λx H1=>tb U H1 λy H2=>R x y H2) {Q:Aa} {f:Value->Value->Sem Value}
  (hf:∀v u s2 x y H2,Inv X pins U H2 s2->RelV x v->RelV y u->R x y H2->wpAny (model X.prog X.w) X.A (f v u) Q X.xe s2) :
  wpAny (model X.prog X.w) X.A (eval a X.env) (λv aj=>wpAny (model X.prog X.w) X.A (eval b X.env) (λu af=>wpAny (model X.prog X.w) X.A (f v u) Q X.xe af) X.xe aj) X.xe s:=by
 refine aR (ha pins s U H _ I h) λv s1 ⟨x,H1,I1,r1,q1⟩=>?_
 refine aR (hb pins s1 U H1 _ I1 q1) λu s2 ⟨y,H2,I2,r2,q2⟩=>?_
 exact hf v u s2 x y H2 I2 r1 r2 q2
def Ld {op:Operator}{r:R2}(ho:bq X (binaryOp op) r) (ha:PE X a ta) (hb:PE X b tb):PE X (.BinOp a op b pos) (nW r ta tb):=by
 intro pins s U H Q I h
 exact wpAny_BinOp (nX ha hb I h λv u s2 x y H2 I2 rx ry q=>ho pins s2 U H2 x y v u Q I2 rx ry q)
def Le {op:UnaryOp}{r:V->Hp->VK->Prop}(ho:nV X (unaryOp op) r) (ha:PE X a ta):PE X (.UnaryOp op a pos) (Lc r ta):=by
 intro pins s U H Q I h
 exact UnaryOp_ (aR (ha pins s U H _ I h) λv s1 ⟨x,H1,I1,r1,q1⟩=>ho pins s1 U H1 x v Q I1 r1 q1)
def opI {f:Value->Value->Sem Value}{C:Int->Int->Prop}{g:Int->Int->Int}
  (rule:∀(i j:Int) (t u:Tok) (s:Shared) (Q:Aa) (E:Aa),C i j->Q (.int (g i j) s.toks) { s with toks:=s.toks+1 }->wpAny (model X.prog X.w) X.A (f (.int i t) (.int j u)) Q E s) :
  bq X f (rI C λi j=>.int (g i j)):=by
 intro pins s U H x y v u Q I rx ry h
 obtain ⟨i,j,rfl,rfl,hc,q⟩:=h
 obtain ⟨t,rfl⟩:=rx
 obtain ⟨t',rfl⟩:=ry
 exact rule i j t t' s _ _ hc ⟨.int (g i j),H,I.tok _,⟨_,rfl⟩,q⟩
def Cz {f:Value->Value->Sem Value}{g:Int->Int->Int}
  (rule:∀(i j:Int) (t u:Tok) (s:Shared) (Q:Aa) (E:Aa),Q (.int (g i j) s.toks) { s with toks:=s.toks+1 }->wpAny (model X.prog X.w) X.A (f (.int i t) (.int j u)) Q E s) :
  bq X f (hI λi j=>.int (g i j)):=by
 intro pins s U H x y v u Q I rx ry h
 obtain ⟨i,j,rfl,rfl,q⟩:=h
 obtain ⟨t,rfl⟩:=rx
 obtain ⟨t',rfl⟩:=ry
 exact rule i j t t' s _ _ ⟨.int (g i j),H,I.tok _,⟨_,rfl⟩,q⟩
def vg {f:Value->Value->Sem Value}{g:Int->Int->Bool}
  (rule:∀(i j:Int) (t u:Tok) (s:Shared) (Q:Aa) (E:Aa),Q (.bool (g i j)) s->wpAny (model X.prog X.w) X.A (f (.int i t) (.int j u)) Q E s) :
  bq X f (hI λi j=>.bl (g i j)):=by
 intro pins s U H x y v u Q I rx ry h
 obtain ⟨i,j,rfl,rfl,q⟩:=h
 obtain ⟨t,rfl⟩:=rx
 obtain ⟨t',rfl⟩:=ry
 exact rule i j t t' s _ _ ⟨.bl (g i j),H,I,rfl,q⟩
def CA (i j:Int):Prop:=0<=j/\j<=1000000/\i.natAbs<2 ^ 64
def lW (i j:Int):Prop:=(-(2 ^ 64)<i/\i<2 ^ 64)\/(-(2 ^ 64)<j/\j<2 ^ 64)
def lW.ok {i j:Int}(h:lW i j):IntMulOk i j:=by
 rcases h with ⟨h1,h2⟩|⟨h1,h2⟩
 ·exact .of_left (intBits_le_64 h1 h2)
 ·exact .of_right (intBits_le_64 h1 h2)
def Lf:bq X (binaryOp .Add) (hI λi j=>.int (i+j)):=Cz λ_ _ _ _ _ _ _ q=>add_int q
def Lg:bq X (binaryOp .Sub) (hI λi j=>.int (i-j)):=Cz λ_ _ _ _ _ _ _ q=>sub_int q
def Lh:bq X (binaryOp .Mult) (rI lW λi j=>.int (i*j)):=opI λ_ _ _ _ _ _ _ hc q=>mul_int q hc.ok
def Li:bq X (binaryOp .Mod) (rI (λ_ j=>j≠0) λi j=>.int (i.fmod j)):=opI λ_ _ _ _ _ _ _ hc q=>mod_int' hc q
def Lj:bq X (binaryOp .Pow) (rI CA λi j=>.int (i ^ j.toNat)):=opI λ_ _ _ _ _ _ _ hc q=>pow_int_small hc.1 hc.2.1 hc.2.2 q
def Lk {f:Value->Sem Value}{g:Int->Int}
  (rule:∀(i:Int) (t:Tok) (s:Shared) (Q:Aa) (E:Aa),Q (.int (g i) s.toks) { s with toks:=s.toks+1 }->wpAny (model X.prog X.w) X.A (f (.int i t)) Q E s) :
  nV X f (rU λi=>.int (g i)):=by
 intro pins s U H x v Q I rx h
 obtain ⟨i,rfl,q⟩:=h
 obtain ⟨t,rfl⟩:=rx
 exact rule i t s _ _ ⟨.int (g i),H,I.tok _,⟨_,rfl⟩,q⟩
def Ll:nV X (unaryOp .USub) (rU λi=>.int (-i)):=Lk λ_ _ _ _ _ q=>neg_int q
def CB {pins:Ac}{U:St}{H:Hp}{s:Shared}{Q:VK}{k k':Bool}(I:Inv X pins U H s) (q:Q (.bl k) H) (e:k=k'):EP X pins U Q (.bool k') s:=by
 subst e
 exact ⟨.bl k,H,I,rfl,q⟩
def Lm:bq X (compareOp .Lt) (hI λi j=>.bl (decide (i<j))):=vg λ_ _ _ _ _ _ _ q=>lt_int q
def Ln:bq X (compareOp .LtE) (hI λi j=>.bl (decide (i<=j))):=vg λ_ _ _ _ _ _ _ q=>le_int q
def Lo:bq X (compareOp .Gt) (hI λi j=>.bl (decide (j<i))):=vg λ_ _ _ _ _ _ _ q=>gt_int q
def Lp:bq X (compareOp .In) (λx y H Q=>∃i j,x=.str i/\y=.str j/\Q (.bl (!(Builtin.Str.occurrences j i 0 j.length 1).isEmpty)) H):=by
 intro pins s U H x y v u Q I rx ry h
 obtain ⟨i,j,rfl,rfl,q⟩:=h
 obtain ⟨t,rfl⟩:=rx
 obtain ⟨t',rfl⟩:=ry
 exact in_str (CB I q rfl)
def Lq:bq X (compareOp .IsNot) (λx y H Q=>y=.non/\Q (.bl (!decide (x=.non))) H):=by
 intro pins s U H x y v u Q I rx ry h
 obtain ⟨rfl,q⟩:=h
 cases ry
 refine isnot_none_gen (CB I q ?_)
 cases x<;>first
  | (cases rx;rfl)
  | (obtain ⟨t,rfl⟩:=rx;rfl)
def bq.or {f:Value->Value->Sem Value}{r r':R2}(h:bq X f r) (h':bq X f r'):bq X f (λx y H Q=>r x y H Q\/r' x y H Q):=by
 intro pins s U H x y v u Q I rx ry q
 rcases q with q|q
 ·exact h pins s U H x y v u Q I rx ry q
 ·exact h' pins s U H x y v u Q I rx ry q
def lX (b:Expr) {op:CmpOp}(h:op ≠ .In:=by decide) (h2:op ≠ .NotIn:=by decide):behindInMarks op b=false:=by
 have e1:(op==CmpOp.In)=false:=by cases op<;>first|rfl|exact absurd rfl h
 have e2:(op==CmpOp.NotIn)=false:=by cases op<;>first|rfl|exact absurd rfl h2
 cases b<;>simp [behindInMarks,e1,e2]
def Lr {op:CmpOp}{r:R2}(ho:bq X (compareOp op) r) (ha:PE X a ta) (hb:PE X b tb) (hm:behindInMarks op b=false):PE X (.Compare a [op] [b] pos) (nW r ta tb):=by
 intro pins s U H Q I h
 exact wpAny_Compare1 (nX ha hb I h λv u s2 x y H2 I2 rx ry q=>ho pins s2 U H2 x y v u Q I2 rx ry q) hm
def CC (t:TE):TT:=λU H Q=>t U H λx H'=>∃k,x=.bl k/\Q k H'
def CD {op:CmpOp}{r:R2}(ho:bq X (compareOp op) r) (ha:PE X a ta) (hb:PE X b tb) (hm:behindInMarks op b=false):PT X (.Compare a [op] [b] pos) (CC (nW r ta tb)):=by
 intro pins s U H Q I h
 refine wpAny_isTrue_Compare1 (aR (ha pins s U H _ I h) λv s1 ⟨x,H1,I1,r1,q1⟩=>aR (hb pins s1 U H1 _ I1 q1) λu s2 ⟨y,H2,I2,r2,q2⟩ =>
  aR (ho pins s2 U H2 x y v u _ I2 r1 r2 q2) λc s3 ⟨z,H3,I3,r3,k,e,q3⟩=>?_) hm
 subst e
 cases r3
 exact wO ⟨H3,I3,q3⟩
def vh (r r':R2) (ta tb tc:TE):TE:=λU H Q=>ta U H λx H1=>tb U H1 λy H2=>r x y H2 λz H3=>∃k,z=.bl k /\
 (if k=true then tc U H3 λw' H4=>r' y w' H4 Q else Q (.bl false) H3)
def Ls {op cB:CmpOp}{r r':R2}(ho:bq X (compareOp op) r) (ho':bq X (compareOp cB) r') (ha:PE X a ta) (hb:PE X b tb) (hc:PE X c tc)
  (hm:lastMarks [op,cB] [b,c]=false:=by with_unfolding_all rfl):PE X (.Compare a [op,cB] [b,c] pos) (vh r r' ta tb tc):=by
 intro pins s U H Q I h
 refine Compare_chain (aR (ha pins s U H _ I h) λv s1 ⟨x,H1,I1,r1,q1⟩=>chain_link (aR (hb pins s1 U H1 _ I1 q1) λu s2 ⟨y,H2,I2,r2,q2⟩ =>
  aR (ho pins s2 U H2 x y v u _ I2 r1 r2 q2) λd s3 ⟨z,H3,I3,r3,k,e,q3⟩=>?_)) hm
 subst e
 cases r3
 refine wO ?_
 cases k with
 |false=>exact ite_ff ⟨.bl false,H3,I3,rfl,q3⟩
 |true=>exact ite_tt (chain_last (aR (hc pins s3 U H3 _ I3 q3) λw' s4 ⟨z',H4,I4,r4,q4⟩=>ho' pins s4 U H4 y z' u w' Q I4 r2 r4 q4))
def Lu {op cB:CmpOp}{r r':R2}(ho:bq X (compareOp op) r) (ho':bq X (compareOp cB) r') (ha:PE X a ta) (hb:PE X b tb) (hc:PE X c tc)
  (hm:lastMarks [op,cB] [b,c]=false:=by with_unfolding_all rfl):PT X (.Compare a [op,cB] [b,c] pos) (CC (vh r r' ta tb tc)):=by
 intro pins s U H Q I h
 refine isTrue_chain (aR (ha pins s U H _ I h) λv s1 ⟨x,H1,I1,r1,q1⟩=>test_link (aR (hb pins s1 U H1 _ I1 q1) λu s2 ⟨y,H2,I2,r2,q2⟩ =>
  aR (ho pins s2 U H2 x y v u _ I2 r1 r2 q2) λd s3 ⟨z,H3,I3,r3,k,e,q3⟩=>?_)) hm
 subst e
 cases r3
 refine wO ?_
 cases k with
 |false =>
  obtain ⟨k',e',q'⟩:=q3
  cases e'
  exact ite_ff ⟨H3,I3,q'⟩
 |true =>
  refine ite_tt (test_last (aR (hc pins s3 U H3 _ I3 q3) λw' s4 ⟨z',H4,I4,r4,q4⟩=>aR (ho' pins s4 U H4 y z' u w' _ I4 r2 r4 q4) λd' s5 ⟨z2,H5,I5,r5,k2,e2,q5⟩=>?_))
  subst e2
  cases r5
  exact wO ⟨H5,I5,q5⟩
def rn:(sizeLine:Nat)<2 ^ 63:=by rw [sizeLine_eq];decide
def Lv:bq X (binaryOp .Add) (λx y H Q=>∃i j,x=.str i/\y=.str j/\i.length+j.length<=sizeLine/\Q (.str (i++j)) H):=by
 intro pins s U H x y v u Q I rx ry h
 obtain ⟨i,j,rfl,rfl,hz,q⟩:=h
 obtain ⟨t,rfl⟩:=rx
 obtain ⟨t',rfl⟩:=ry
 exact add_str (λt' tk=>⟨.str (i++j),H,I.tok _,⟨_,rfl⟩,q⟩) hz
def wQ {x:V}{us:Af}(r:Vals [x] us):∃u,us=[u]/\RelV x u:=by
 cases r with
 |cons r1 r2=>cases r2;exact ⟨_,rfl,r1⟩
def nY {x y:V}{us:Af}(r:Vals [x,y] us):∃u w',us=[u,w']/\RelV x u/\RelV y w':=by
 cases r with
 |cons r1 r2 =>
  cases r2 with
  |cons r3 r4=>cases r4;exact ⟨_,_,rfl,r1,r3⟩
def Lw (hc:X.calm=true):bt X (.builtin "max") (λxs H Q=>∃i j,xs=[.int i,.int j]/\Q (.int (if j>i then j else i)) H):=by
 intro pins s U H xs us Q I r h
 obtain ⟨i,j,rfl,q⟩:=h
 obtain ⟨u,w',rfl,⟨t,rfl⟩,⟨t',rfl⟩⟩:=nY r
 refine max_two_ints (I.ok.hd hc) λh' tk k=>⟨_,H,I.kept k,?_,q⟩
 by_cases hj:j>i
 ·rw [zp hj,zp hj];exact ⟨_,rfl⟩
 ·rw [zD hj,zD hj];exact ⟨_,rfl⟩
def Lx (hc:X.calm=true):bt X (.builtin "min") (λxs H Q=>∃i j,xs=[.int i,.int j]/\Q (.int (if j<i then j else i)) H):=by
 intro pins s U H xs us Q I r h
 obtain ⟨i,j,rfl,q⟩:=h
 obtain ⟨u,w',rfl,⟨t,rfl⟩,⟨t',rfl⟩⟩:=nY r
 refine min_two_ints (I.ok.hd hc) λh' tk k=>⟨_,H,I.kept k,?_,q⟩
 by_cases hj:j<i
 ·rw [zp hj,zp hj];exact ⟨_,rfl⟩
 ·rw [zD hj,zD hj];exact ⟨_,rfl⟩
def Ly:bt X (.type "int") (λxs H Q=>(∃i,xs=[.int i]/\Q (.int i) H)\/∃k,xs=[.bl k]/\Q (.int (if k then 1 else 0)) H):=by
 intro pins s U H xs us Q I r h
 rcases h with ⟨i,rfl,q⟩|⟨k,rfl,q⟩
 ·obtain ⟨u,rfl,t,rfl⟩:=wQ r
  exact call_int_int ⟨.int i,H,I,⟨_,rfl⟩,q⟩
 ·obtain ⟨u,rfl,r1⟩:=wQ r
  cases r1
  exact call_int_bool ⟨.int (if k then 1 else 0),H,I.tok _,⟨_,rfl⟩,q⟩
def Lz:bt X (.type "str") (λxs H Q=>∃i,xs=[.int i]/\i.natAbs.log2<1920/\Q (.str (toString i)) H):=by
 intro pins s U H xs us Q I r h
 obtain ⟨i,rfl,hz,q⟩:=h
 obtain ⟨u,rfl,t,rfl⟩:=wQ r
 exact PySem.P.str_of_int hz ⟨.str _,H,I.tok _,⟨_,rfl⟩,q⟩
def CF (K:PySem.W.Frag) (x:V) (H:Hp) (n:Nat):Prop :=
 match x with
 |.str y=>y.length<=sizeLine/\n=y.length
 |.byt y=>y.size<=sizeLine/\n=y.size
 |.ref p=>(∃xs,ba K H p xs/\n=xs.length)\/∃xs,bC K H p xs/\n=xs.length
 |_=>False
def LA:bt X (.builtin "len") (λxs H Q=>∃x n,xs=[x]/\CF X.K x H n/\Q (.int n) H):=by
 intro pins s U H xs us Q I r h
 obtain ⟨x,n,rfl,e,q⟩:=h
 obtain ⟨u,rfl,rx⟩:=wQ r
 have hl:=rn
 have hs:sizeLine=16777216:=sizeLine_eq
 cases x with
 |str y =>
  obtain ⟨t,rfl⟩:=rx
  obtain ⟨hy,e'⟩:y.length<=sizeLine/\n=y.length:=e
  subst e'
  exact len_str (by omega) ⟨.int _,H,I.tok _,⟨_,rfl⟩,q⟩
 |byt y =>
  obtain ⟨t,rfl⟩:=rx
  obtain ⟨hy,e'⟩:y.size<=sizeLine/\n=y.size:=e
  subst e'
  exact PySem.W.len_bytes (by omega) ⟨.int _,H,I.tok _,⟨_,rfl⟩,q⟩
 |ref p =>
  cases rx
  have e':(∃xs,ba X.K H p xs/\n=xs.length)\/∃xs,bC X.K H p xs/\n=xs.length:=e
  rcases e' with ⟨xs,hx,e'⟩|⟨xs,hx,e'⟩
  ·subst e'
   obtain ⟨its,r',pl,hz⟩:=I.list hx
   have hlen:=r'.length
   exact Calls.call_len_list pl.isList (by simp only [yH];omega) ⟨.int xs.length,H,I.tok _,⟨_,by simp only [yH];rw [hlen]⟩,q⟩
  ·subst e'
   obtain ⟨its,r',pl,hz⟩:=I.tuple hx
   have hlen:=r'.length
   exact len_tuple pl (by simp only [yH];omega) ⟨.int xs.length,H,I.tok _,⟨_,by simp only [yH];rw [hlen]⟩,q⟩
 |_=>exact (show False from e).elim
end
structure fI (h:Heap) (x dx C:Addr) (mA:Ab):Prop where
 obj:h.get? x=some (PySem.W.instObj C dx)
 ns:h.Ns1 dx mA
 ne:dx≠x
def CG {h:Heap}{dx:Addr}{mA:Ab}(n:h.Ns1 dx mA):∃od,h.get? dx=some od/\∀name,PySem.W.lookIn name od=some (mA name):=by
 obtain ⟨o,es,ep,ho,hd,hk,_,hm⟩:=n
 refine ⟨o,ho,λname=>?_⟩
 have e:=hm name
 unfold nsFind findBy at e
 rw [<-Array.find?_toList] at e
 unfold PySem.W.lookIn
 rw [hd]
 dsimp only
 split
 ·rename_i y q
  rw [q] at e
  exact congrArg some e
 ·rename_i q
  rw [q] at e
  have a:es.toList.any (·.refKey)=false:=by
   rw [List.any_eq_false]
   intro y hy
   obtain ⟨z,t,gW⟩:=hk y (Array.mem_toList_iff.mp hy)
   simp [DictEntry.refKey,gW]
  have a':¬es.toList.any (·.refKey)=true:=by rw [a];exact Bool.false_ne_true
  rw [zD a']
  exact congrArg some e
def fI.look {h:Heap}{x dx C:Addr}{mA:Ab}(I:fI h x dx C mA):∃od,PySem.W.InstAt h x (PySem.W.instObj C dx) C (some od)/\∀name,PySem.W.lookIn name od=some (mA name) :=
 let ⟨od,ho,hl⟩:=CG I.ns
 ⟨od,⟨I.obj,rfl,rfl,ho⟩,hl⟩
section
variable {prog:Program} {w:World} {A:Around} {E:Aa} {s:Shared} {K:PySem.W.Frag} {x dx C f:Addr} {mA:Ab} {name:Str} {v:Value}
def LB {expr:Bool}{Q:Aa}(X:K.In s.heap) (I:fI s.heap x dx C mA) (hg:PySem.W.plainGet K C name=true) (hh:PySem.W.hasDictIn K C=true)
  (ha:PySem.W.findIn K (.ref C) name=some none) (hv:mA name=some v) (mm:PySem.W.handedIn v=true) (h:Q v { s with toks:=s.toks+1 }) :
  wpAny (model prog w) A (getAttr (.ref x) name expr) Q E s:=by
 obtain ⟨od,J,hl⟩:=I.look
 exact PySem.W.get_value X J (PySem.W.plainGet_of hg).1 (PySem.W.findObj_own hh ha rfl (by rw [hl,hv])) mm h
def LC {pl:Sem Bool}{Q:Value×List Value->Shared->Prop}(X:K.In s.heap) (I:fI s.heap x dx C mA) (hg:PySem.W.plainGet K C name=true)
  (hf:PySem.W.findIn K (.ref C) name=some (some (.ref f))) (ht:PySem.W.isFn K (.ref f)=true) (hv:mA name=none) (h:Q (.ref f,[.ref x]) s) :
  wpAny (model prog w) A (getMethod (.ref x) name pl) Q E s:=by
 obtain ⟨od,J,hl⟩:=I.look
 exact PySem.W.method_fn X J (PySem.W.plainGet_of hg).1 (PySem.W.plainGet_of hg).2 hf (beq_iff_eq.mp ht) (by show (PySem.W.lookIn name od).map (·.isSome)=some false;rw [hl,hv];rfl) h
def LD {ns:Ad}{Q:Unit->Shared->Prop}(X:K.In s.heap) (I:fI s.heap x dx C mA)
  (hs:PySem.W.findIn K (.ref C) "__setattr__" = some (some (.builtin "object.__setattr__"))) (hp:PySem.W.plainOver K C=true) (ht:PySem.W.takerIn K C name=some none) (hh:PySem.W.hasDictIn K C=true)
  (hw:PySem.Within mA ns) (hsz:ns.length<=sizeLine)
  (h:∀h',fI h' x dx C (λy=>if y=name then some v else mA y)->Heap.SameBut dx s.heap h'->Q () { s with heap:=h',toks:=s.toks+2 }) :
  wpAny (model prog w) A (setAttr (.ref x) name v) Q E s:=by
 obtain ⟨od,J,hl⟩:=I.look
 refine PySem.W.set_plain X J hs (PySem.W.osa_open (s:={ s with toks:=s.toks+1 }) (r:=none) X J hp ht λb=>?_)
 obtain ⟨cd,hc,aY⟩:=PySem.W.any_some hh
 have hx:s.heap.get? x=some ⟨.ref C,some dx,.plain,#[]⟩:=I.obj
 refine zm (zK (zm (zm (wpAny_loadPart hx (zm (PySem.W.Looks.here (s:={ s with toks:=s.toks+1 }) (PySem.W.looks_clsIn X hc) ?_))))))
 rw [aY]
 refine zK (a:=some dx) (zm (zK (zm ?_)))
 refine wpAny_nsSet1 (s:={ s with toks:=s.toks+1 }) I.ns λh' cX gq=>?_
 obtain ⟨oD,LF,LG,vk,vm,vn⟩:=cX.count (PySem.Within.cons name v hw)
 refine zm (wpAny_lookBehind vk (by rw [vm];exact pastItsLine_dict (jg vn (by rw [yF];omega))) ?_)
 exact zK (h _ ⟨(gq.2 _ (yL I.ne)).trans I.obj,cX,I.ne⟩ gq)
def LH {R:Result->Shared->Prop}{vs:Af}{kw:List (Str×Value)}(X:K.In s.heap) (hm:PySem.W.makesIn K C=true)
  (hi:PySem.W.findIn K (.ref C) "__init__" = some (some (.ref f))) (hf:PySem.W.typeIn K (.ref f)=some (.type "function"))
  (h:codeAny (model prog w) (A.under (.builtin "type.__call__" ⟨.ref C::vs,kw⟩)) (.call (.ref f) ⟨.ref (s.heap.objs.size+1)::vs,kw⟩) (PySem.W.InitBack (s.heap.objs.size+1) R)
   { s with heap:=(s.heap.push PySem.W.emptyDict).push (PySem.W.instObj C s.heap.objs.size) }) :
  codeAny (model prog w) A (.call (.ref C) ⟨vs,kw⟩) R s:=by
 obtain ⟨hh,g,d,t,os⟩:=s
 exact PySem.W.make_core (PySem.W.makes_of X hm) (PySem.W.looks_findIn X hi) (λself=>PySem.W.bind_fn X self hf) (.inl rfl) h
end
def bX (f:Str) (v:V):List (Str×V)->List (Str×V)
 |[]=>[(f,v)]
 | (g,x)::r=>if g=f then (g,v)::r else (g,x)::bX f v r
theorem CH (f g:Str) (v:V):∀fs:List (Str×V),(bX f v fs).lookup g=if g=f then some v else fs.lookup g
 |[]=>by
  show List.lookup g [(f,v)]=_
  by_cases h:g=f
  ·have hb:(g==f)=true:=beq_iff_eq.mpr h
   simp only [List.lookup,hb,zp h]
  ·have hb:(g==f)=false:=beq_eq_false_iff_ne.mpr h
   simp only [List.lookup,hb,zD h]
 | (k,x)::r=>by
  have ih:=CH f g v r
  rw [show bX f v ((k,x)::r)=(if k=f then (k,v)::r else (k,x)::bX f v r) from rfl]
  by_cases hk:k=f
  ·rw [zp hk]
   by_cases h:g=k
   ·have hb:(g==k)=true:=beq_iff_eq.mpr h
    simp only [List.lookup,hb,zp (h.trans hk)]
   ·have hb:(g==k)=false:=beq_eq_false_iff_ne.mpr h
    simp only [List.lookup,hb,zD (λe:g=f=>h (e.trans hk.symm))]
  ·rw [zD hk]
   by_cases h:g=k
   ·have hb:(g==k)=true:=beq_iff_eq.mpr h
    simp only [List.lookup,hb,zD (λe:g=f=>hk (h.symm.trans e))]
   ·have hb:(g==k)=false:=beq_eq_false_iff_ne.mpr h
    simp only [List.lookup,hb]
    exact ih
theorem vo (f:Str) (v:V):∀fs:List (Str×V),f∈(bX f v fs).map (·.1)/\∀g,g∈fs.map (·.1)->g∈(bX f v fs).map (·.1)
 |[]=>⟨by simp [bX],λg h=>by simp at h⟩
 | (k,x)::r=>by
  obtain ⟨i1,i2⟩:=vo f v r
  rw [show bX f v ((k,x)::r)=(if k=f then (k,v)::r else (k,x)::bX f v r) from rfl]
  by_cases hk:k=f
  ·rw [zp hk]
   subst hk
   exact ⟨by simp,λg h=>by simpa using h⟩
  ·rw [zD hk]
   refine ⟨?_,λg h=>?_⟩
   ·rw [ye]
    exact yz _ i1
   ·rw [ye] at h ⊢
    rcases yE.mp h with e|e
    ·exact yE.mpr (.inl e)
    ·exact yz _ (i2 g e)
theorem CI (f:Str) (v:V):∀fs:List (Str×V),(bX f v fs).length<=fs.length+1
 |[]=>by simp [bX]
 | (k,x)::r=>by
  have ih:=CI f v r
  rw [show bX f v ((k,x)::r)=(if k=f then (k,v)::r else (k,x)::bX f v r) from rfl]
  by_cases hk:k=f
  ·rw [zp hk,yF,yF];omega
  ·rw [zD hk,yF,yF];omega
def bQ.some_of {v:V}{o:Option Value}(r:bQ (some v) o):∃u,o=some u/\RelV v u:=by
 cases o with
 |none=>exact (show False from r).elim
 |some u=>exact ⟨u,rfl,r⟩
def bQ.none_of {o:Option Value}(r:bQ none o):o=none:=by
 cases o with
 |none=>rfl
 |some u=>exact (show False from r).elim
def CJ {v:V}{u:Value}(r:RelV v u):PySem.W.handedIn u=true:=by
 cases v with
 |non=>cases (show u=Value.none from r);rfl
 |bl b=>cases (show u=Value.bool b from r);rfl
 |int i=>obtain ⟨t,e⟩:=(show ∃t,u=Value.int i t from r);cases e;rfl
 |str x=>obtain ⟨t,e⟩:=(show ∃t,u=Value.str x t from r);cases e;rfl
 |byt b=>obtain ⟨t,e⟩:=(show ∃t,u=Value.bytes b t from r);cases e;rfl
 |flt b=>obtain ⟨t,e⟩:=(show ∃t,u=Value.float b t from r);cases e;rfl
 |ref a=>cases (show u=Value.ref a from r);rfl
 |ty n=>cases (show u=Value.type n from r);rfl
section
variable {P:Program} {w:World} {H:Hp} {h:Heap} {a C dx:Addr} {fs:List (Str×V)}
def ro (hok:bV P w H h) (e:H a=some (.ins C dx fs)):∃mA,fI h a dx C mA/\(∀f,bQ (fs.lookup f) (mA f))/\PySem.Within mA (fs.map (·.1))/\fs.length<=1000/\H dx=some (.own a):=by
 obtain ⟨d,z,ne,ob,mA,n,r,q⟩:=(show aX P w H h a (.ins C dx fs) from hok a _ e)
 exact ⟨mA,⟨ob,n,ne⟩,r,q,z,d⟩
end
structure dR (K:PySem.W.Frag) (C:Addr):Prop where
 pg:PySem.W.plainGet K C Str.empty=true
 hd:PySem.W.hasDictIn K C=true
 po:PySem.W.plainOver K C=true
 sa:PySem.W.findIn K (.ref C) "__setattr__" = some (some (.builtin "object.__setattr__"))
def dR.get {K:PySem.W.Frag}{C:Addr}(c:dR K C) (f:Str):PySem.W.plainGet K C f=true:=c.pg
def cJ (K:PySem.W.Frag) (C:Addr) (f:Str):Prop:=PySem.W.findIn K (.ref C) f=some none
def cJ.taker {K:PySem.W.Frag}{C:Addr}{f:Str}(n:cJ K C f):PySem.W.takerIn K C f=some none:=by
 unfold PySem.W.takerIn
 rw [show PySem.W.findIn K (.ref C) f=some none from n]
 rfl
structure Xa (K:PySem.W.Frag) (C:Addr) (f:Str) (v:V) (u:Value):Prop where
 at_:PySem.W.findIn K (.ref C) f=some (some u)
 rel:RelV v u
 get:PySem.W.specialIn K u "__get__" = some none
 cp:PySem.W.copiedNames.contains f=false
structure Meth (K:PySem.W.Frag) (C:Addr) (m:Str) (f:Addr):Prop where
 at_:PySem.W.findIn K (.ref C) m=some (some (.ref f))
 fn:PySem.W.isFn K (.ref f)=true
 kp:PySem.W.keepIn K (.ref f)=true
section
variable {X:Cx} {pins:Ac} {U:St} {H:Hp} {s:Shared} {a C dx:Addr} {fs:List (Str×V)} {f:Str} {v:V} {A:Around} {E:Aa}
def CK {b:Bool}{Q:Aa}(I:Inv X pins U H s) (e:H a=some (.ins C dx fs)) (c:dR X.K C) (n:cJ X.K C f) (l:fs.lookup f=some v)
  (h:∀u s',Inv X pins U H s'->RelV v u->Q u s'):wpAny (model X.prog X.w) A (getAttr (.ref a) f b) Q E s:=by
 obtain ⟨mA,O,r,_,_,_⟩:=ro I.hok e
 obtain ⟨u,hu,ru⟩:=bQ.some_of (v:=v) (o:=mA f) (by rw [<-l];exact r f)
 exact LB I.kIn O (c.get f) c.hd n hu (CJ ru) (h u _ (I.tok _) ru)
def vp {m:Str}{g:Addr}{pl:Sem Bool}{Q:Value×List Value->Shared->Prop}(I:Inv X pins U H s) (e:H a=some (.ins C dx fs)) (c:dR X.K C) (k:Meth X.K C m g) (l:fs.lookup m=none)
  (h:Q (.ref g,[.ref a]) s):wpAny (model X.prog X.w) A (getMethod (.ref a) m pl) Q E s:=by
 obtain ⟨mA,O,r,_,_,_⟩:=ro I.hok e
 have hn:mA m=none:=bQ.none_of (by rw [<-l];exact r m)
 exact LC I.kIn O (c.get m) k.at_ k.fn hn h
def CL {y:V}{u:Value}{Q:Unit->Shared->Prop}(I:Inv X pins U H s) (e:H a=some (.ins C dx fs)) (c:dR X.K C) (n:cJ X.K C f) (hl:fs.length<1000) (ry:RelV y u)
  (h:∀s',Inv X pins U (upd H a (.ins C dx (bX f y fs))) s'->Q () s'):wpAny (model X.prog X.w) A (setAttr (.ref a) f u) Q E s:=by
 obtain ⟨mA,O,r,wi,_,ho⟩:=ro I.hok e
 have hz:(fs.map (·.1)).length<=sizeLine:=by rw [y3,sizeLine_eq];omega
 refine LD I.kIn O c.sa c.po n.taker c.hd wi hz λh' O' sb=>h _ ?_
 have hd:∃o,h'.get? dx=some o:=let ⟨o,_,_,e',_⟩:=O'.ns;⟨o,e'⟩
 refine I.write (x:=a) (e:=dx) (by rw [e];exact True.intro) (.inr ho) (λb q hb z=>(sb.2 b hb).trans z) hd ?_
 refine ⟨by rw [zO O.ne];exact ho,?_,O.ne,O'.obj,_,O'.ns,λg=>?_,λg hg=>?_⟩
 ·have:=CI f y fs;omega
 ·show bQ ((bX f y fs).lookup g) (if g=f then some u else mA g)
  rw [CH]
  by_cases q:g=f
  ·rw [zp q,zp q];exact ry
  ·rw [zD q,zD q];exact r g
 ·by_cases q:g=f
  ·rw [q];exact (vo f y fs).1
  ·refine (vo f y fs).2 g (wi g λz=>hg ?_)
   show (if g=f then some u else mA g)=none
   rw [zD q];exact z
def Inv.made (I:Inv X pins U H s):Inv X pins U (upd (upd H s.heap.objs.size (.own (s.heap.objs.size+1))) (s.heap.objs.size+1) (.ins C s.heap.objs.size []))
  { s with heap:=(s.heap.push PySem.W.emptyDict).push (PySem.W.instObj C s.heap.objs.size) }:=by
 have e1:(s.heap.push PySem.W.emptyDict).get? s.heap.objs.size=some PySem.W.emptyDict:=yK s.heap rfl
 have e2:((s.heap.push PySem.W.emptyDict).push (PySem.W.instObj C s.heap.objs.size)).get? (s.heap.objs.size+1)=some (PySem.W.instObj C s.heap.objs.size):=by
  have:=yK (s.heap.push PySem.W.emptyDict) (o:=PySem.W.instObj C s.heap.objs.size) rfl
  rwa [Heap.size_push] at this
 have e3:(s.heap.push PySem.W.emptyDict).Ns s.heap.objs.size (λ_=>none):=⟨PySem.W.emptyDict,#[],_,e1,rfl,(λe he=>absurd he (by simp)),λ_=>rfl⟩
 have I1:=I.laid (a:=s.heap.objs.size) (o:=.own (s.heap.objs.size+1)) (h':=s.heap.push PySem.W.emptyDict) (t':=s.toks) (λb u q=>zU _ q) (z0 _) ⟨_,e1⟩
 refine I1.laid (a:=s.heap.objs.size+1) (o:=.ins C s.heap.objs.size []) (t':=s.toks) (λb u q=>zU _ q) (Nat.le_of_eq (Heap.size_push _ _)) ?_
 have ne:s.heap.objs.size≠s.heap.objs.size+1:=yw (wy _)
 refine ⟨by rw [zO ne,yv],jh _,ne,e2,λ_=>none,(Heap.Ns1.of_empty e3).at λo q=>zU _ q,λ_=>True.intro,λy hy=>absurd rfl hy⟩
def LI {prog:Program}{w:World}{env:Env}{e:Expr}{f:Str}{pos:Pos}{s:Shared}{Q:Aa}(hb:attributeBase e f env (eval e env)=eval e env)
  (h:wpAny (model prog w) A (eval e env) (λo aj=>wpAny (model prog w) A (getAttr o f true) Q E aj) E s):wpAny (model prog w) A (eval (.Attribute e f pos) env) Q E s :=
 Attribute_any_ h (by rw [arm_eval_Attribute,hb])
end
def sFld (K:PySem.W.Frag) (ta tv:TE) (f:Str):TS:=λD U H=>tv U H λy H1=>ta U H1 λx H2=>∃a C dx fs,x=.ref a/\H2 a=some (.ins C dx fs)/\dR K C/\cJ K C f/\fs.length<1000 /\
 D.nx U (upd H2 a (.ins C dx (bX f y fs)))
def uU (X:Cx) (op:Operator) (rd:V->V->Hp->VK->Prop):Prop :=
 ∀(pins:Ac) (s:Shared) (U:St) (H:Hp) (x y:V) (u v:Value) (Q:VK),Inv X pins U H s->RelV x u->RelV y v->rd x y H Q->wpAny (model X.prog X.w) X.A (inplaceOp op u v) (EP X pins U Q) X.xe s
def LJ (K:PySem.W.Frag) (ta tv:TE) (rd:V->V->Hp->VK->Prop) (f:Str):TS:=λD U H=>ta U H λx H1=>∃a C dx fs v,x=.ref a/\H1 a=some (.ins C dx fs)/\dR K C/\cJ K C f/\fs.lookup f=some v /\
 tv U H1 λy H2=>rd v y H2 λz H3=>∃vx iN,H3 a=some (.ins C vx iN)/\iN.length<1000/\D.nx U (upd H3 a (.ins C vx (bX f z iN)))
section
variable {X:Cx} {o value:Expr} {f:Str} {pos pos' lY:Pos} {ta tv:TE}
def LK (ha:PE X o ta) (hv:PE X value tv) (hs:swapsWith value (some (.Attribute o f pos')) pos.line X.env=pure false):PS X (.Assign [.Attribute o f pos'] value pos) (sFld X.K ta tv f):=by
 intro pins s U H D I h
 refine plainObj_wpAny_Assign_Attribute (aR (hv pins s U H _ I h) λu s1 ⟨y,H1,I1,ry,q⟩=>aR (ha pins s1 U H1 _ I1 q) λov s2 gg=>?_) hs
 obtain ⟨x,H2,I2,rx,a,C,dx,fs,ex,ea,c,n,l,q2⟩:=gg
 subst ex
 obtain rfl:ov=Value.ref a:=rx
 exact CL I2 ea c n l ry λs3 I3=>⟨U,_,I3,q2⟩
def LL {op:Operator}{rd:V->V->Hp->VK->Prop}(ha:PE X o ta) (hv:PE X value tv) (LM:uU X op rd):PS X (.AugAssign (.Attribute o f lY) op value pos) (LJ X.K ta tv rd f):=by
 intro pins s U H D I h
 refine wpAny_AugAssign_AttributeAny (aR (ha pins s U H _ I h) λov s1 gg=>?_)
 obtain ⟨x,H1,I1,rx,a,C,dx,fs,v,ex,ea,c,n,l,q⟩:=gg
 subst ex
 obtain rfl:ov=Value.ref a:=rx
 refine CK I1 ea c n l λu s2 I2 ru=>aR (hv pins s2 U H1 _ I2 q) λw3 s3 ⟨y,H2,I3,ry,q3⟩=>aR (LM pins s3 U H2 v y u w3 _ I3 ru ry q3) λw4 s4 ⟨z,H3,I4,rz,vx,iN,LO,l',q4⟩=>?_
 exact CL I4 LO c n l' rz λs5 I5=>⟨U,_,I5,q4⟩
def LQ:V->V->Hp->VK->Prop:=λx y H Q=>∃i j,x=.int i/\y=.int j/\Q (.int (i+j)) H
def LR:uU X .Add LQ:=by
 rintro pins s U H x y u v Q I rx ry ⟨i,j,rfl,rfl,q⟩
 obtain ⟨t,rfl⟩:=(show ∃t,u=Value.int i t from rx)
 obtain ⟨t',rfl⟩:=(show ∃t',v=Value.int j t' from ry)
 exact PyProof.Rows.iadd_int ⟨.int (i+j),H,I.tok _,⟨_,rfl⟩,q⟩
end
section
variable {X:Cx} {pins:Ac} {U:St} {H:Hp} {s:Shared} {A:Around} {E:Aa} {Q:Aa} {c:Value} {b:Bool}
inductive cP (K:PySem.W.Frag) (H:Hp):V->Value->Prop where
 |non:cP K H .non (.type "NoneType")
 |bl (x:Bool):cP K H (.bl x) (.type "bool")
 |int (i:Int):cP K H (.int i) (.type "int")
 |str (x:Str):cP K H (.str x) (.type "str")
 |flt (x:UInt64):cP K H (.flt x) (.type "float")
 |lst {a:Addr} {xs:List V} (e:H a=some (.lst xs)):cP K H (.ref a) (.type "list")
 |frz {a:Addr} {o:Obj} {xs:List V} (e:H a=some (.frz o (.lst xs))):cP K H (.ref a) (.type "list")
 |tup {a:Addr} {xs:List V} (e:H a=some (.tup xs)):cP K H (.ref a) (.type "tuple")
 |dK {a:Addr} {kvs:List (Key×V)} (e:H a=some (.dK kvs)):cP K H (.ref a) (.type "dict")
 |dT {a:Addr} {kvs:List (List Key×V)} (e:H a=some (.dT kvs)):cP K H (.ref a) (.type "dict")
 | ins {a C dx:Addr} {fs:List (Str×V)} (e:H a=some (.ins C dx fs)) (cl:dR K C) (ha:PySem.W.findIn K (.ref C) "__class__" = some (some (.builtin "object.__class__")))
   (hn:PySem.W.specialIn K (.builtin "object.__class__") "__get__" = some (some (.builtin "getset_descriptor.__get__"))) (CM:PySem.W.takesIn K (.builtin "object.__class__")=some true)
   (hm:PySem.W.mroIn K C (.type "object")=some true):cP K H (.ref a) (.ref C)
def CN {x:V}{u t:Value}(I:Inv X pins U H s) (rx:RelV x u) (ty:cP X.K H x t) (e:PySem.W.kitOne X.K t c=some b) (h:∀tk,Q (.bool b) { s with toks:=tk }) :
  wpAny (model X.prog X.w) A (call (.builtin "isinstance") [u,c]) Q E s:=by
 cases ty with
 |non=>cases (show u=Value.none from rx);exact PySem.W.kia_one PySem.W.kitx_none I.kIn True.intro e (λz=>nomatch z) h
 |bl y=>cases (show u=Value.bool y from rx);exact PySem.W.kia_one PySem.W.kitx_bool I.kIn True.intro e (λz=>nomatch z) h
 |int i=>obtain ⟨t,q⟩:=(show ∃t,u=Value.int i t from rx);cases q;exact PySem.W.kia_one PySem.W.kitx_int I.kIn True.intro e (λz=>nomatch z) h
 |str y=>obtain ⟨t,q⟩:=(show ∃t,u=Value.str y t from rx);cases q;exact PySem.W.kia_one PySem.W.kitx_str I.kIn True.intro e (λz=>nomatch z) h
 |flt y=>obtain ⟨t,q⟩:=(show ∃t,u=Value.float y t from rx);cases q;exact PySem.W.kia_one PySem.W.kitx_float I.kIn True.intro e (λz=>nomatch z) h
 |@lst a xs ea =>
  cases (show u=Value.ref a from rx)
  obtain ⟨_,_,n,_,h1⟩:=(show aX X.prog X.w H s.heap a (.lst xs) from I.hok a _ ea)
  exact PySem.W.kia_one PySem.W.kitx_list I.kIn ⟨_,h1,rfl⟩ e (λz=>nomatch z) h
 |@frz a ob xs ea =>
  cases (show u=Value.ref a from rx)
  obtain ⟨_,_,_,n,_,h1⟩:=(show aX X.prog X.w H s.heap a (.frz ob (.lst xs)) from I.hok a _ ea)
  exact PySem.W.kia_one PySem.W.kitx_list I.kIn ⟨_,h1,rfl⟩ e (λz=>nomatch z) h
 |@tup a xs ea =>
  cases (show u=Value.ref a from rx)
  obtain ⟨_,_,_,p⟩:=(show aX X.prog X.w H s.heap a (.tup xs) from I.hok a _ ea)
  obtain ⟨o,h1,h2,_⟩:=p
  exact PySem.W.kia_one PySem.W.kitx_tuple I.kIn ⟨o,h1,h2⟩ e (λz=>nomatch z) h
 |@dK a kvs ea =>
  cases (show u=Value.ref a from rx)
  obtain ⟨_,_,vs,_,p⟩:=(show aX X.prog X.w H s.heap a (.dK kvs) from I.hok a _ ea)
  obtain ⟨o,es,ep,h1,h2,_⟩:=p
  exact PySem.W.kia_one PySem.W.kitx_dict I.kIn ⟨o,h1,h2.1⟩ e (λz=>nomatch z) h
 |@dT a kvs ea =>
  cases (show u=Value.ref a from rx)
  obtain ⟨_,_,xs,_,o,es,ep,h1,h2,_⟩:=(show aX X.prog X.w H s.heap a (.dT kvs) from I.hok a _ ea)
  exact PySem.W.kia_one PySem.W.kitx_dict I.kIn ⟨o,h1,h2.1⟩ e (λz=>nomatch z) h
 |@ins a C dx fs ea cl ha hn CM hm =>
  cases (show u=Value.ref a from rx)
  obtain ⟨mA,O,_⟩:=ro I.hok ea
  obtain ⟨od,J,_⟩:=O.look
  exact PySem.W.kia_one (PySem.W.kitx_own (cl.get _) cl.hd ha hn CM hm) I.kIn J e (λz=>nomatch z) h
end
structure aZ (k:Nat) (A:Around):Prop where
 hd:A.handled=none
 dp:A.depth+3*k+5<recursionLimit
 un:A.units+16*k+200<cLine
def aZ.mono {j k:Nat}{A:Around}(r:aZ k A) (h:j<=k):aZ j A:=⟨r.hd,by have:=r.dp;omega,by have:=r.un;omega⟩
theorem aZ.deeper {k:Nat}{A:Around}(r:aZ (k+1) A) (env:Env):aZ k (A.deeper env) :=
 ⟨r.hd,by have:=r.dp;show A.depth+1+3*k+5<_;omega,by have:=r.un;show A.units+3+16*k+200<_;omega⟩
def LS {A:Around} {C:Addr} {us:Af} {kw:List (Str×Value)}:(A.under (.builtin "type.__call__" ⟨.ref C::us,kw⟩)).depth=A.depth+1:=by
 first|rfl|simp [Around.under,Code.weight,Code.isCreation,Code.isGuard,Code.isCaller,Code.frames,Code.isFrame,guardIds]
def LU {A:Around} {C:Addr} {us:Af} {kw:List (Str×Value)}:(A.under (.builtin "type.__call__" ⟨.ref C::us,kw⟩)).units=A.units+1:=by
 first|rfl|simp [Around.under,Code.cUnits,Code.frames,Code.isFrame]
def aZ.make {k:Nat} {A:Around} (r:aZ (k+1) A) (C:Addr) (us:Af) (kw:List (Str×Value)):aZ k (A.under (.builtin "type.__call__" ⟨.ref C::us,kw⟩)) :=
 ⟨r.hd,by have:=r.dp;rw [LS];omega,by have:=r.un;rw [LU];omega⟩
theorem aZ.depth {k:Nat}{A:Around}(r:aZ k A):A.depth<recursionLimit:=by have:=r.dp;omega
def CO:TA:=λ_ H Q=>Q [] H
def LV (ta:TE) (tr:TA):TA:=λU H Q=>ta U H λx H1=>tr U H1 λxs H2=>Q (x::xs) H2
section
variable {X:Cx} {e:Expr} {es:List Expr} {te:TE} {t:TA} {pos:Pos}
def nZ:PA X [] CO:=λ_ _ _ _ H Q I h=>Calls.spliced_nil ⟨[],H,I,.nil,h⟩
def n4 (ha:PE X e te) (hr:PA X es t) (hs:starEach (e::es) X.env=(false,eval e X.env)::starEach es X.env:=by rfl):PA X (e::es) (LV te t):=by
 intro pos pins s U H Q I h
 rw [hs]
 show wpAny _ _ (spliced ((false,eval e X.env)::backTo pos (starEach es X.env))) _ _ s
 refine Calls.spliced_cons (aR (ha pins s U H _ I h) λu s1 ⟨x,H1,I1,r1,q1⟩=>?_)
 exact aR (hr pos pins s1 U H1 _ I1 q1) λus s2 ⟨xs,H2,I2,r2,q2⟩=>⟨x::xs,H2,I2,.cons r1 r2,q2⟩
def LW (t:TA):TE:=λU H Q=>t U H λxs H1=>xs.length<=sizeLine/\∀p,H1 p=none->Q (.ref p) (upd H1 p (.tup xs))
def LX (t:TA):TE:=λU H Q=>t U H λxs H1=>xs.length<=sizeLine/\∀p,H1 p=none->Q (.ref p) (upd H1 p (.lst xs))
def LY {x1}(h:PA X es t):PE X (.Tuple es x1 pos) (LW t):=by
 intro pins s U H Q I hq
 refine wpAny_Tuple_spliced (aR (h pos pins s U H _ I hq) λus s1 ⟨xs,H1,I1,r,z,q⟩=>⟨by rw [<-r.length];exact z,?_⟩)
 have hf:H1 s1.heap.objs.size=none:=I1.hok.fresh (z0 _)
 refine ⟨.ref s1.heap.objs.size,upd H1 s1.heap.objs.size (.tup xs),I1.laid (t':=s1.toks) (λb u e=>zU _ e) (z0 _) ?_,rfl,q _ hf⟩
 exact ⟨z,us,r,⟨_,yK _ rfl,rfl,_,rfl⟩⟩
def LZ (h:PA X es t):PE X (.List es pos) (LX t):=by
 intro pins s U H Q I hq
 refine wpAny_List_spliced (aR (h pos pins s U H _ I hq) λus s1 ⟨xs,H1,I1,r,z,q⟩=>⟨by rw [<-r.length];exact z,?_⟩)
 have hf:H1 s1.heap.objs.size=none:=I1.hok.fresh (z0 _)
 refine ⟨.ref s1.heap.objs.size,upd H1 s1.heap.objs.size (.lst xs),I1.laid (t':=s1.toks) (λb u e=>zU _ e) (z0 _) ?_,rfl,q _ hf⟩
 exact ⟨z,us,0,r,yK _ rfl⟩
end
abbrev Sp:=List V->Hp->VK->XK->Prop
abbrev dv:=List Env->Hp->Shared->XK->Aa
structure fJ (P:Program) (w:World) (K:PySem.W.Frag) (mg:Ab) (base:Heap) (A:Around) (outer:List Env) (s:Shared) (H:Hp):Prop where
 frames:A.frames=some outer
 mod:Mod K mg base
 bs:∀b o,base.get? b=some o->s.heap.get? b=some o/\H b=none
 bsz:base.objs.size<=s.heap.objs.size
 funs:s.heap.FunFrames base outer
 frf:∀b∈cN outer,H b=none
 hok:bV P w H s.heap
 bare:AllBare s.gens
def CE (outer:List Env) (P:Program) (w:World) (H:Hp) (s:Shared) (Q:VK) (u:Value) (s':Shared):Prop :=
 ∃v H',s'.os=s.os/\AllBare s'.gens/\Un (cN outer) [] H H' s.heap s'.heap/\bV P w H' s'.heap/\RelV v u/\Q v H'
def CR (CX:dv) (outer:List Env) (P:Program) (w:World) (H:Hp) (s:Shared) (Q:VK) (E:XK) (r:Result) (s':Shared):Prop :=
 match r with
 |.ok (.ret u)=>CE outer P w H s Q u s'
 |.ok _=>False
 |.error e=>CX outer H s E e s'
structure bh (P:Program) (w:World) (K:PySem.W.Frag) (mg:Ab) (base:Heap) (CX:dv) (k:Nat) (f:Addr) (fd:FuncData) (ps:Ad) (sp:Sp):Prop where
 len:∀vs H Q E,sp vs H Q E->vs.length=ps.length
 run:∀(A:Around) (outer:List Env) (s:Shared) (H:Hp) (args:Args) (us:Af) (vs:List V) (Q:VK) (E:XK),aZ k A->fJ P w K mg base A outer s H->BindsTo s fd args (ps.zip us)->Vals vs us->sp vs H Q E ->
  codeAny (model P w) A (.call (.ref f) args) (CR CX outer P w H s Q E) s
theorem bh.mono {P:Program}{w:World}{K:PySem.W.Frag}{mg:Ab}{base:Heap}{CX:dv}{j k:Nat}{f:Addr}{fd:FuncData}{ps:Ad}{sp:Sp}(F:bh P w K mg base CX j f fd ps sp) (h:j<=k) :
  bh P w K mg base CX k f fd ps sp:=⟨F.len,λA outer s H args us vs Q E hr=>F.run A outer s H args us vs Q E (hr.mono h)⟩
def bh.imp {P:Program}{w:World}{K:PySem.W.Frag}{mg:Ab}{base:Heap}{CX:dv}{k:Nat}{f:Addr}{fd:FuncData}{ps:Ad}{sp CP:Sp}(F:bh P w K mg base CX k f fd ps sp)
  (h:∀vs H Q E,CP vs H Q E->sp vs H Q E):bh P w K mg base CX k f fd ps CP :=
 ⟨λvs H Q E q=>F.len vs H Q E (h _ _ _ _ q),λA outer s H args us vs Q E hr he hb hv hs=>F.run A outer s H args us vs Q E hr he hb hv (h _ _ _ _ hs)⟩
def fJ.make {P:Program}{w:World}{K:PySem.W.Frag}{mg:Ab}{base:Heap}{A:Around}{outer:List Env}{s:Shared}{H:Hp}(e:fJ P w K mg base A outer s H) (C:Addr) (us:Af) (kw:List (Str×Value)) :
  fJ P w K mg base (A.under (.builtin "type.__call__" ⟨.ref C::us,kw⟩)) outer s H:=⟨by first|exact e.frames|(simpa [Around.under,Code.envs,Code.isFrame,pushEnvs] using e.frames),e.mod,e.bs,e.bsz,e.funs,e.frf,e.hok,e.bare⟩
section
variable {X:Cx} {pins:Ac} {U:St} {H:Hp} {s s':Shared}
def Inv.env0 (I:Inv X pins U H s):fJ X.prog X.w X.K X.mg X.base X.A X.stack s H :=
 ⟨I.ok.frames,I.ok.mod,I.bs,jg I.ok.bsz I.sz,I.stack,I.stkFree,I.hok,I.bare⟩
def Inv.after {Q:VK}{u:Value}(I:Inv X pins U H s) (h:CE X.stack X.prog X.w H s Q u s'):EP X pins U Q u s':=by
 obtain ⟨v,H',os,bare,un,hok,r,q⟩:=h
 obtain ⟨hh,g,d,t,L3⟩:=s'
 obtain rfl:L3=s.os:=os
 exact ⟨v,H',I.call (h':=hh) (g':=g) (d':=d) (t':=t) (ch:=[]) un hok bare (λb z=>absurd z (by simp)),r,q⟩
end
def L4 (sp:Sp) (cK:List V) (E:XK) (t:TA):TE:=λU H Q=>t U H λvs H1=>sp (vs++cK) H1 Q E
def L5 (C:Addr) (sp:Sp) (cK:List V) (E:XK) (t:TA):TE:=λU H Q=>t U H λvs H1=>∀x dx,H1 x=none->H1 dx=none->dx≠x ->
 sp (.ref x::(vs++cK)) (upd (upd H1 dx (.own x)) x (.ins C dx [])) (λv H2=>v=.non/\Q (.ref x) H2) E
def Binds (K:PySem.W.Frag) (fd:FuncData) (ps:Ad) (ds:Af):Prop :=
 ∀(s:Shared) (us:Af),K.In s.heap->(us++ds).length=ps.length->BindsTo s fd ⟨us,[]⟩ (ps.zip (us++ds))
def Binds.all {K:PySem.W.Frag}{fd:FuncData}{ps:Ad}(h:∀us:Af,us.length=ps.length->bindArgs fd ⟨us,[]⟩=pure (ps.zip us)):Binds K fd ps []:=λs us _ hl=>by
 rw [List.append_nil] at hl ⊢
 exact .of_eq (h us hl)
def Passes (CX:dv) (X:Cx) (E:XK):Prop:=∀(pins:Ac) (U:St) (H:Hp) (s:Shared) (e:Value) (s':Shared),Inv X pins U H s->CX X.stack H s E e s'->X.xe e s'
section
variable {X:Cx} {CX:dv} {k:Nat} {f C:Addr} {fd:FuncData} {ps:Ad} {sp:Sp} {cK:List V} {ds:Af} {E:XK} {x:Str} {p pos:Pos} {e:Expr} {es:List Expr} {t:TA}
def rq {pins:Ac}{U:St}{H:Hp}{s:Shared}{Q:VK}{us:Af}{vs:List V}(F:bh X.prog X.w X.K X.mg X.base CX k f fd ps sp) (hr:aZ k X.A) (hb:Binds X.K fd ps ds) (hd:Vals cK ds) (hx:Passes CX X E)
  (I:Inv X pins U H s) (r:Vals vs us) (h:sp (vs++cK) H Q E):wpAny (model X.prog X.w) X.A (call (.ref f) us) (EP X pins U Q) X.xe s:=by
 have r2:Vals (vs++cK) (us++ds):=r.append hd
 have hl:(us++ds).length=ps.length:=by rw [<-r2.length];exact F.len _ _ _ _ h
 refine wpAny_call (codeAny_mono (F.run X.A X.stack s H ⟨us,[]⟩ (us++ds) (vs++cK) Q E hr I.env0 (hb s us I.kIn hl) r2 h) λr s' hq=>?_)
 cases r with
 |error e=>exact hx pins U H s e s' I hq
 |ok fl =>
  cases fl with
  |ret u=>exact I.after hq
  |next=>exact hq.elim
  |brk=>exact hq.elim
  |cont=>exact hq.elim
def L6 (F:bh X.prog X.w X.K X.mg X.base CX k f fd ps sp) (hr:aZ k X.A) (hg:Gl X x) (hm:X.mg x=some (.ref f)) (hk:PySem.W.keepIn X.K (.ref f)=true) (hb:Binds X.K fd ps ds) (hd:Vals cK ds) (hx:Passes CX X E)
  (ha:PA X (e::es) t) (bK:(x==("__debug__" : Str))=false:=by decide) (he:starEach (e::es) X.env=(false,eval e X.env)::starEach es X.env:=by rfl) (bu:(backTo pos (starEach es X.env)).any (·.1)=false:=by rfl) :
  PE X (.Call (.Name x p) (e::es) [] pos) (L4 sp cK E t):=by
 intro pins s U H Q I h
 refine wpAny_Call_Name_kw (iP I hg hm ?_ bK)
 refine PySem.W.callWith_K (h₀:=X.base) I.ok.mod.kin hk (aR (ha pos pins s U H _ I h) λus s1 ⟨vs,H1,I1,r,q⟩=>⟨I1.kIn,?_⟩) he bu
 exact rq F hr hb hd hx I1 r q
structure Mk (K:PySem.W.Frag) (C f:Addr):Prop where
 makes:PySem.W.makesIn K C=true
 init:PySem.W.findIn K (.ref C) "__init__" = some (some (.ref f))
 fn:PySem.W.isFn K (.ref f)=true
 kp:PySem.W.keepIn K (.ref C)=true
def L7 {pins:Ac}{U:St}{H:Hp}{s:Shared}{Q:VK}{us:Af}{vs:List V}(M:Mk X.K C f) (F:bh X.prog X.w X.K X.mg X.base CX k f fd ps sp) (hr:aZ (k+1) X.A) (hb:Binds X.K fd ps ds) (hd:Vals cK ds)
  (hx:Passes CX X E) (I:Inv X pins U H s) (r:Vals vs us)
  (h:∀x dx,H x=none->H dx=none->dx≠x->sp (.ref x::(vs++cK)) (upd (upd H dx (.own x)) x (.ins C dx [])) (λv H2=>v=.non/\Q (.ref x) H2) E) :
  wpAny (model X.prog X.w) X.A (call (.ref C) us) (EP X pins U Q) X.xe s:=by
 have hq:=h (s.heap.objs.size+1) s.heap.objs.size (I.hok.fresh (Nat.le_succ _)) (I.hok.fresh (z0 _)) (yw (wy _))
 have I2:=Inv.made (C:=C) I
 have r2:Vals (V.ref (s.heap.objs.size+1)::(vs++cK)) (Value.ref (s.heap.objs.size+1)::(us++ds)):=.cons rfl (r.append hd)
 have hl:(Value.ref (s.heap.objs.size+1)::us++ds).length=ps.length:=by
  have e:=r2.length
  rw [F.len _ _ _ _ hq] at e
  exact e.symm
 refine wpAny_call (LH (f:=f) I.kIn M.makes M.init (beq_iff_eq.mp M.fn) (codeAny_mono (F.run _ X.stack _ _ ⟨Value.ref (s.heap.objs.size+1)::us,[]⟩ (Value.ref (s.heap.objs.size+1)::(us++ds)) _ _ E (hr.make C us [])
  (I2.env0.make C us []) (hb _ (Value.ref (s.heap.objs.size+1)::us) I2.kIn hl) r2 hq) λr s' hq'=>?_))
 cases r with
 |error e=>exact hx pins U _ _ e s' I2 hq'
 |ok fl =>
  cases fl with
  |ret u =>
   obtain ⟨v,H',I3,rv,ev,q3⟩:=I2.after hq'
   subst ev
   exact ⟨rv,⟨V.ref (s.heap.objs.size+1),H',I3,rfl,q3⟩⟩
  |next=>exact hq'.elim
  |brk=>exact hq'.elim
  |cont=>exact hq'.elim
def L8 (M:Mk X.K C f) (F:bh X.prog X.w X.K X.mg X.base CX k f fd ps sp) (hr:aZ (k+1) X.A) (hg:Gl X x) (hm:X.mg x=some (.ref C)) (hb:Binds X.K fd ps ds) (hd:Vals cK ds) (hx:Passes CX X E)
  (ha:PA X (e::es) t) (bK:(x==("__debug__" : Str))=false:=by decide) (he:starEach (e::es) X.env=(false,eval e X.env)::starEach es X.env:=by rfl) (bu:(backTo pos (starEach es X.env)).any (·.1)=false:=by rfl) :
  PE X (.Call (.Name x p) (e::es) [] pos) (L5 C sp cK E t):=by
 intro pins s U H Q I h
 refine wpAny_Call_Name_kw (iP I hg hm ?_ bK)
 refine PySem.W.callWith_K (h₀:=X.base) I.ok.mod.kin M.kp (aR (ha pos pins s U H _ I h) λus s1 ⟨vs,H1,I1,r,q⟩=>⟨I1.kIn,?_⟩) he bu
 exact L7 M F hr hb hd hx I1 r q
end
section
variable {fd:FuncData} {ps ks:Ad}
structure J1 (K:PySem.W.Frag) (fd:FuncData) (ps ks:Ad) (g:List Value->List Value->Af) (gV:List V->List V->List V):Prop where
 to:∀(s:Shared) (us ws:Af),K.In s.heap->(g us ws).length=ps.length->BindsTo s fd ⟨us,ks.zip ws⟩ (ps.zip (g us ws))
 rel:∀{vs:List V} {us:Af} {zs:List V} {ws:Af},Vals vs us->Vals zs ws->Vals (gV vs zs) (g us ws)
end
structure aq (N P:Ad) (sc:Scope):Prop where
 kind:sc.kind=.function
 co:sc.isCoroutine=false
 gen:sc.isGenerator=false
 nd:N.Nodup
 pre:N.take P.length=P
 par:∀x∈P,sc.names.lookup x=some .local\/sc.names.lookup x=some .cell
 nofree:∀y∈sc.names,y.2 ≠ .free
theorem CQ {kindOf:Str->Option NameKind}{x:Str}:∀{binds:List (Str×Value)}{m:Ab},(∀v,(x,v)∉binds)->bindL kindOf binds m x=m x
 |[],_,_=>rfl
 | (n,v)::r,m,h=>by
  unfold bindL
  rw [CQ λw hw=>h w (yz _ hw)]
  split
  ·have:x≠n:=by rintro rfl;exact h v yj
   simp [this]
  ·rfl
theorem CS {kindOf:Str->Option NameKind}{x:Str}:∀{binds:List (Str×Value)}{m:Ab},(∀v,(x,v)∉binds)->bindC kindOf binds m x=m x
 |[],_,_=>rfl
 | (n,v)::r,m,h=>by
  unfold bindC
  rw [CS λw hw=>h w (yz _ hw)]
  split
  ·rfl
  ·have:x≠n:=by rintro rfl;exact h v yj
   simp [this]
theorem CU {kindOf:Str->Option NameKind}{x:Str}{v:Value}:∀{P:Ad}{vs:Af}{i:Nat}{m:Ab},P.Nodup->P[i]?=some x->vs[i]?=some v->kindOf x=some .local ->
  bindL kindOf (P.zip vs) m x=some v
 |[],_,_,_,_,h,_,_=>by simp at h
 |_::_,[],_,_,_,_,h,_=>by simp at h
 |p::P,w::vs,0,m,nd,h1,h2,hk=>by
  simp at h1 h2;subst h1;subst h2
  show bindL kindOf ((p,w)::P.zip vs) m p=_
  unfold bindL
  rw [CQ λv hv=>(wb.mp nd).1 (List.of_mem_zip hv).1,zp hk]
  simp
 |p::P,w::vs,i+1,m,nd,h1,h2,hk=>by
  show bindL kindOf ((p,w)::P.zip vs) m x=_
  unfold bindL
  exact CU (i:=i) (wb.mp nd).2 (by simpa using h1) (by simpa using h2) hk
theorem CV {kindOf:Str->Option NameKind}{x:Str}{v:Value}:∀{P:Ad}{vs:Af}{i:Nat}{m:Ab},P.Nodup->P[i]?=some x->vs[i]?=some v->kindOf x≠some .local ->
  bindC kindOf (P.zip vs) m x=some v
 |[],_,_,_,_,h,_,_=>by simp at h
 |_::_,[],_,_,_,_,h,_=>by simp at h
 |p::P,w::vs,0,m,nd,h1,h2,hk=>by
  simp at h1 h2;subst h1;subst h2
  show bindC kindOf ((p,w)::P.zip vs) m p=_
  unfold bindC
  rw [CS λv hv=>(wb.mp nd).1 (List.of_mem_zip hv).1,zD hk]
  simp
 |p::P,w::vs,i+1,m,nd,h1,h2,hk=>by
  show bindC kindOf ((p,w)::P.zip vs) m x=_
  unfold bindC
  exact CV (i:=i) (wb.mp nd).2 (by simpa using h1) (by simpa using h2) hk
def start (N:Ad) (vs:List V):St:=vs.map some++List.replicate (N.length-vs.length) none
def cZ (CX:dv) (P:Program) (w:World) (K:PySem.W.Frag) (mg:Ab) (base:Heap) (N:Ad) (qual:Str) (scope:Scope) (f:Addr) (cd:Value) (A:Around) (outer:List Env) (s:Shared) (H:Hp) (E:XK):Cx where
 prog:=P
 w:=w
 K:=K
 mg:=mg
 base:=base
 A:=A.deeper (envOfC qual scope s.heap.objs.size f cd)
 N:=N
 s₀:=s
 H₀:=H
 env:=envOfC qual scope s.heap.objs.size f cd
 outer:=outer
 stack:=envOfC qual scope s.heap.objs.size f cd::outer
 ex:=[]
 calm:=true
 fn:=λ_=>true
 pn:=[]
 xe:=λe s'=>wpAny (model P w) (A.deeper (envOfC qual scope s.heap.objs.size f cd)) (leaving (envOfC qual scope s.heap.objs.size f cd) e) (λ_ vy=>CX outer H s E e vy) (λe' vy=>CX outer H s E e' vy) s'
def CW {sc:Scope}{n:Nat}{x:Str}(h:sc.names.lookup x=some .cell):∃c,(cellsFrom n sc.names []).lookup x=some c:=by
 have q:=PySem.W.cellsFrom_some sc.names n [] (.inl h)
 exact Option.isSome_iff_exists.mp q
def L9 {CX:dv}{P:Program}{w:World}{K:PySem.W.Frag}{mg:Ab}{base:Heap}{N ps:Ad}{qual:Str}{scope:Scope}{f:Addr}{cd:Value}{A:Around}{outer:List Env}{s s1:Shared}{H:Hp}{E:XK}{us:Af}{vs:List V}
  (S:aq N ps scope) (hd:A.handled=none) (e0:fJ P w K mg base A outer s H) (hl:vs.length=ps.length) (r:Vals vs us)
  (x:InCallC s s.heap.objs.size (bindL (envOfC qual scope s.heap.objs.size f cd).kindOf (ps.zip us) λ_=>none) (cellsFrom (s.heap.objs.size+1) scope.names []) (bindC (envOfC qual scope s.heap.objs.size f cd).kindOf (ps.zip us) λ_=>none) s1) :
  Inv (cZ CX P w K mg base N qual scope f cd A outer s H E) [] (start N vs) H s1:=by
 have bu:ps.length<=N.length:=by have:=congrArg List.length S.pre;rw [List.length_take] at this;omega
 obtain ⟨h1,tk,rfl,hk⟩:=x.done
 have n8:∀b:Addr,b∉(cZ CX P w K mg base N qual scope f cd A outer s H E).ex:=λb z=>absurd (show b∈([]:Ae) from z) (by simp)
 refine ⟨⟨e0.mod,S.kind,rfl,rfl,z0 _,λy z c h1 h2=>?_,λy hy=>?_,λy c _ h=>?_,λ_=>hd,Around.frames_deeper e0.frames,.inr ⟨rfl,rfl⟩,λb z=>absurd z (n8 b),e0.bs,e0.bsz,λb _ _=>n8 b,λb z=>absurd z (n8 b),e0.funs,e0.frf⟩,
  rfl,e0.bare,Un.kept hk,⟨_,x.toInCall.ns,λi y v h1 h2 h3=>?_⟩,λy c h=>⟨_,x.cell y c h⟩,e0.hok.fresh (z0 _),λy c h=>?_,λp hp=>absurd (show p∈([]:Ac) from hp) (by simp),e0.hok.kept hk,?_⟩
 ·exact name_of_addr x.apart (PySem.mem_of_lookup h1) (PySem.mem_of_lookup h2)
 ·have hy:scope.names.lookup y=some .cell\/scope.names.lookup y=some .free:=hy
  rcases hy with hy|hy
  ·exact CW hy
  ·exact absurd rfl (S.nofree _ (PySem.mem_of_lookup hy))
 ·exact Nat.le_of_lt (x.above y c (PySem.mem_of_lookup h))
 ·have hi:i<vs.length:=by
   unfold start at h2
   by_cases hi:i<vs.length
   ·exact hi
   ·rw [iL (by simpa using hi)] at h2
    rw [List.getElem?_replicate] at h2
    split at h2<;>cases h2
  have ha:vs[i]?=some v:=by
   unfold start at h2
   rw [iK (by simpa using hi),yP] at h2
   cases e:vs[i]? with
   |none=>rw [e] at h2;cases h2
   |some a=>rw [e] at h2;cases h2;rfl
  obtain ⟨u,hu,rv⟩:=r.get ha
  have hp:ps[i]?=some y:=by
   rw [<-S.pre,List.getElem?_take_of_lt (by omega)];exact h1
  have CY:ps.Nodup:=by rw [<-S.pre];exact S.nd.sublist (List.take_sublist _ _)
  refine ⟨u,rv,?_⟩
  rcases S.par y (jG hp) with k|k
  ·exact .inl ⟨k,CU CY hp hu k⟩
  ·obtain ⟨c,e⟩:=CW (n:=s.heap.objs.size+1) k
   refine .inr ⟨.inl k,c,e,?_⟩
   have q:=x.cell y c e
   rw [CV CY hp hu (by show scope.names.lookup y≠_;rw [k];decide)] at q
   exact q
 ·exact e0.hok.fresh (Nat.le_of_lt (x.above y c (PySem.mem_of_lookup h)))
 ·unfold start
  show _=N.length
  rw [jo,y3,List.length_replicate]
  omega
def CZ {CX:dv}{P:Program}{w:World}{K:PySem.W.Frag}{mg:Ab}{base:Heap}{k:Nat}{f:Addr}{name qual:Str}{params:Arguments}{body:List Stmt}{scope:Scope}{dV kV doc pm aV ct oc:Value}{an od:Option Addr}
  {d4:Array (Option Value)} {N ps:Ad} {sp:Sp} (lk:K.lookup f=some ⟨oc,od,.func (PySem.W.fnOf name qual params body scope dV kV doc pm an aV ct),d4⟩) (d0:PySem.W.codeIn K aV qual=true) (S:aq N ps scope)
  (len:∀vs H Q E,sp vs H Q E->vs.length=ps.length)
  (d5:∀(A:Around) (outer:List Env) (s:Shared) (H:Hp) (vs:List V) (Q:VK) (E:XK),aZ k (A.deeper (envOfC qual scope s.heap.objs.size f aV))->sp vs H Q E ->
   ∃t,ck (cZ CX P w K mg base N qual scope f aV A outer s H E) body t/\t { nx:=λ_ H'=>Q .non H',rt:=Q } (start N vs) H) :
  bh P w K mg base CX (k+1) f (PySem.W.fnOf name qual params body scope dV kV doc pm an aV ct) ps sp:=by
 refine ⟨len,λA outer s H args us vs Q E hr e0 hb r gr=>?_⟩
 have hl:=len _ _ _ _ gr
 have KX:K.In s.heap:=e0.mod.kin.keeps λb o e=>(e0.bs b o e).1
 have lim:s.heap.NoLimit:=e0.mod.nolimit.keeps λb o e=>(e0.bs b o e).1
 have vz:∀y∈ps.zip us,scope.names.lookup y.1=some .local\/(scope.names.lookup y.1=some .cell/\((cellsFrom (s.heap.objs.size+1) scope.names []).lookup y.1).isSome=true):=λ⟨n,v⟩ hy=>by
  rcases S.par n (List.of_mem_zip hy).1 with q|q
  ·exact .inl q
  ·exact .inr ⟨q,PySem.W.cellsFrom_some _ _ _ (.inl q)⟩
 refine codeAny_call_function hr.depth (KX _ _ lk) rfl S.co S.gen rfl (PySem.W.codeRec_of KX d0) (hb _ _ _ _ ?_)
 refine wpAny_newFunctionEnv_cells S.kind vz λenv he s1 x=>?_
 subst he
 refine ⟨lim.keeps x.toInCall.keep,codeAny_func ?_⟩
 obtain ⟨t,ht,hq⟩:=d5 A outer s H vs Q E (hr.deeper _) gr
 have I:Inv (cZ CX P w K mg base N qual scope f aV A outer s H E) [] (start N vs) H s1:=L9 S hr.hd e0 hl r x
 refine yT (ht [] s1 (start N vs) H _ I hq) (λfl s' hs=>?_) λe s' hs=>hs
 have fin:∀{ah:St} {H':Hp} {v:V} {u:Value},Inv (cZ CX P w K mg base N qual scope f aV A outer s H E) [] ah H' s'->RelV v u->Q v H'->CE outer P w H s Q u s' :=
  λ{ah H' v u} J rv q=>⟨v,H',J.os,J.bare,J.base,J.hok,rv,q⟩
 cases fl with
 |ret u =>
  obtain ⟨v,ah,H',J,rv,q⟩:=hs
  exact fin J rv q
 |next =>
  obtain ⟨ah,H',J,q⟩:=hs
  exact fin (v:=V.non) (u:=Value.none) J rfl q
 |brk =>
  obtain ⟨_,_,_,q⟩:=hs
  exact q.elim
 |cont =>
  obtain ⟨_,_,_,q⟩:=hs
  exact q.elim
section
variable {X:Cx} {x:Str} {p pos:Pos} {e:Expr} {es:List Expr} {t:TA} {id T:String} {r:List V->Hp->VK->Prop}
def C0 (r:List V->Hp->VK->Prop) (t:TA):TE:=λU H Q=>t U H λvs H1=>r vs H1 Q
def L_ (hc:bt X (.builtin id) r) (hg:Gl X x) (hm:X.mg x=none) (hv:bootBuiltins x=some (.builtin id)) (ha:PA X (e::es) t) (hn:x ≠ "__name__" := by decide) (bK:(x==("__debug__" : Str))=false:=by decide)
  (he:starEach (e::es) X.env=(false,eval e X.env)::starEach es X.env:=by rfl) (bu:(backTo pos (starEach es X.env)).any (·.1)=false:=by rfl):PE X (.Call (.Name x p) (e::es) [] pos) (C0 r t):=by
 intro pins s U H Q I h
 refine wpAny_Call_Name_kw (kH I hg hm hv ?_ hn bK)
 exact PyProof.Rows.callWith_builtin1 (aR (ha pos pins s U H _ I h) λus s1 ⟨vs,H1,I1,r1,q1⟩=>hc pins s1 U H1 vs us Q I1 r1 q1) he bu
def Ma (hc:bt X (.type T) r) (hg:Gl X x) (hm:X.mg x=none) (hv:bootBuiltins x=some (.type T)) (ha:PA X (e::es) t) (hn:x ≠ "__name__" := by decide) (bK:(x==("__debug__" : Str))=false:=by decide)
  (he:starEach (e::es) X.env=(false,eval e X.env)::starEach es X.env:=by rfl) (bu:(backTo pos (starEach es X.env)).any (·.1)=false:=by rfl):PE X (.Call (.Name x p) (e::es) [] pos) (C0 r t):=by
 intro pins s U H Q I h
 refine wpAny_Call_Name_kw (kH I hg hm hv ?_ hn bK)
 exact PyProof.Rows.callWith_type1 (aR (ha pos pins s U H _ I h) λus s1 ⟨vs,H1,I1,r1,q1⟩=>hc pins s1 U H1 vs us Q I1 r1 q1) he bu
end
end L2
namespace HT
open PySem PyProof.Rows
section
open PySem.SeqAt
open PySem.AutoSeq1 (wpAny_loadPart')
open PySem.MeetsSeq PySem.MeetsSeq2 PySem.MeetsSeq3
end
section
variable {prog:Program} {w:World} {A:Around} {E:Aa} {s:Shared}
def cat_tup {t b:Addr}{vs ws:Af}{Q:Aa}(ht:IsTup s.heap t vs.toArray) (hb:IsTup s.heap b ws.toArray) (hv:vs≠[])
  (h1:ws=[]->Q (.ref t) s) (h2:ws≠[]->Q (.ref s.heap.objs.size) { s with heap:=s.heap.push { cls:=.type "tuple", data:=.seq (vs++ws).toArray } })
  (hsz:vs.length+ws.length<=sizeLine):wpAny (model prog w) A (binaryOp .Add (.ref t) (.ref b)) Q E s:=by
 obtain ⟨⟨cls,dd,data,sl⟩,ho,hc,n,hd⟩:=id ht
 obtain ⟨⟨uV,kK,data2,eZ⟩,ho2,fK,n2,hd2⟩:=id hb
 simp only at hc hd fK hd2
 subst hc hd fK hd2
 have e:vs.toArray++ws.toArray=(vs++ws).toArray:=by simp
 by_cases hw:ws=[]
 ·exact concat_meets ⟨_,ho,rfl⟩ ⟨_,ho2,rfl⟩ noFill_tuple_add seq_tuple_add PySem.F.slot_tuple_add PySem.F.entry_tuple_add (PySem.F.args_tuple_add_2 _ _)
   (tuple_addW1 t b vs.toArray ws.toArray n n2 dd kK sl eZ (by simpa using hv) (by simp [hw])) ⟨ho,ho2,h1 hw⟩
 ·refine concat_meets ⟨_,ho,rfl⟩ ⟨_,ho2,rfl⟩ noFill_tuple_add seq_tuple_add PySem.F.slot_tuple_add PySem.F.entry_tuple_add (PySem.F.args_tuple_add_2 _ _)
   (tuple_addW2 t b vs.toArray ws.toArray n n2 dd kK sl eZ (by simpa using hv) (by simpa using hw) (by rw [yH,yH];exact hsz)) ⟨ho,ho2,?_⟩
  rw [e]
  exact h2 hw
def sIx (n d:Nat):Option Int->Nat
 |none=>d
 |some v=>if v<0 then (v+(n:Int)).toNat else min v.toNat n
def Mb (n d:Nat) (hd:d<=n) (o:Option Int):sIx n d o<=n:=by
 cases o with
 |none=>exact hd
 |some v =>
  show (if v<0 then (v+(n:Int)).toNat else min v.toNat n)<=n
  by_cases hv:v<0
  ·rw [zp hv];omega
  ·rw [zD hv];exact Nat.min_le_right _ _
def C1 (v:Int) (n d:Nat):(if v<0 then max (v+(n:Int)) 0 else min v (n:Int))=((sIx n d (some v):Nat):Int):=by
 show (if v<0 then max (v+(n:Int)) 0 else min v (n:Int))=(((if v<0 then (v+(n:Int)).toNat else min v.toNat n):Nat):Int)
 by_cases hv:v<0
 ·simp only [zp hv];omega
 ·simp only [zD hv];omega
def Mc (lo hi:Option Int) (n:Nat):Builtin.Slice.sliceAdjust lo hi 1 (n:Int)=(((sIx n 0 lo:Nat):Int),((sIx n n hi:Nat):Int)):=by
 have h1:¬((1:Int)<0):=by omega
 unfold Builtin.Slice.sliceAdjust
 simp only [h1,g9]
 refine Prod.ext ?_ ?_
 ·cases lo with
  |none=>rfl
  |some v=>exact C1 v n 0
 ·cases hi with
  |none=>rfl
  |some v=>exact C1 v n n
def Md (i j:Nat):Builtin.Slice.slicePlaces (i:Int) (j:Int) 1=j-i:=by
 unfold Builtin.Slice.slicePlaces
 have h1:(1:Int)>0:=by omega
 simp only [h1,jF,Int.ediv_one]
 split<;>omega
def C3 {v:Value}{o:Option Int}{Q:Option Int->Shared->Prop}(p:IsPart v o) (h:Q o s):wpAny (model prog w) A (Builtin.Slice.slicePartIndex v) Q E s:=by
 cases p with
 |none=>exact slicePart_none h
 |int i t=>exact slicePart_int h
def C4 {sl:Addr}{vl vu:Value}{lo hi:Option Int}{n:Nat}{Q:Int×Int×Nat->Shared->Prop}(hs:s.heap.IsSliceOf sl vl vu .none) (pl:IsPart vl lo) (pu:IsPart vu hi)
  (h:Q (((sIx n 0 lo:Nat):Int),1,sIx n n hi-sIx n 0 lo) s):wpAny (model prog w) A (Builtin.Slice.sliceApplied (.ref sl) (pure (n:Int))) Q E s:=by
 obtain ⟨os,kL,mn,n9⟩:=id hs
 unfold Builtin.Slice.sliceApplied Builtin.Slice.sliceFields
 refine zm (zm (y8 kL n9 (x:=vl) rfl (zm (y8 kL n9 (x:=vu) rfl (zm (y8 kL n9 (x:=.none) rfl (zK ?_)))))))
 refine zm (slicePart_none ?_)
 show wpAny _ _ (if ((1:Int)==0)=true then _ else _) _ _ s
 rw [zD (by decide)]
 refine zm (C3 pl (zm (C3 pu (zm (zK ?_)))))
 show wpAny _ _ (match Builtin.Slice.sliceAdjust lo hi 1 (n:Int) with|(lo,hi)=>pure (lo,(1:Int),Builtin.Slice.slicePlaces lo hi 1)) _ _ s
 rw [Mc lo hi n]
 show wpAny _ _ (pure (((sIx n 0 lo:Nat):Int),(1:Int),Builtin.Slice.slicePlaces ((sIx n 0 lo:Nat):Int) ((sIx n n hi:Nat):Int) 1)) _ _ s
 rw [Md]
 exact zK h
def Me (xs:Array Value) (i k:Nat):((List.range k).filterMap λ(m:Nat)=>xs[((i:Int)+(m:Int)*1).toNat]?).toArray=((xs.toList.drop i).take k).toArray:=by
 have e:(λ(m:Nat)=>xs[((i:Int)+(m:Int)*1).toNat]?)=λm=>xs[i+m]?:=by
  funext m
  have:((i:Int)+(m:Int)*1).toNat=i+m:=by omega
  rw [this]
 rw [e]
 have:=pick_run xs i k
 rw [List.filterMap_map] at this
 have e2:((λx=>xs[x]?)∘λx=>i+x)=λm=>xs[i+m]?:=rfl
 rw [e2] at this
 rw [this]
def getItem_tuple_cut {t sl:Addr}{items:Array Value}{vl vu:Value}{lo hi:Option Int}{Q:Aa}(ht:IsTup s.heap t items) (hs:s.heap.IsSliceOf sl vl vu .none) (pl:IsPart vl lo) (pu:IsPart vu hi)
  (hw:¬(sIx items.size 0 lo=0/\sIx items.size items.size hi=items.size))
  (h:Q (.ref s.heap.objs.size) { s with heap:=s.heap.push { cls:=.type "tuple", data:=.seq ((items.toList.drop (sIx items.size 0 lo)).take (sIx items.size items.size hi-sIx items.size 0 lo)).toArray } })
  (hsz:items.size<=sizeLine):wpAny (model prog w) A (getItem (.ref t) (.ref sl)) Q E s:=by
 have d6:sizeOk (.seq ((items.toList.drop (sIx items.size 0 lo)).take (sIx items.size items.size hi-sIx items.size 0 lo)).toArray):=by
  show ((items.toList.drop (sIx items.size 0 lo)).take (sIx items.size items.size hi-sIx items.size 0 lo)).toArray.size<=sizeLine
  rw [yH,List.length_take,List.length_drop,Array.length_toList]
  omega
 have hj:sIx items.size items.size hi<=items.size:=Mb _ _ (z0 _) hi
 obtain ⟨os,kL,mn,n9⟩:=id hs
 have vA:s.TypeIs (.ref sl) "slice" := ⟨os,kL,mn⟩
 unfold getItem
 try with_reducible refine jZ ?_
 first|refine zm (zK ?_)|skip
 refine zm (wpAny_sequenceKey ht.typeIs (by decide) ?_)
 refine zm (wpAny_callSpecial?_slot (name:=Str.ofString "__getitem__") ht.typeIs PyProof.Rows.slot_tuple_getitem
  (jQ PyProof.Rows.slot_tuple_getitem ht.typeIs entry_tuple_getitem ?_ (args_tuple_getitem _ _)))
 show wpAny _ _ (Builtin.Tuple.tupleItemsOf (.ref t) >>= _) _ _ s
 refine zm (tupleItemsOf_ ht ?_)
 refine zm (wpAny_typeOf vA ?_)
 rw [zp (by decide)]
 refine zm (C4 hs pl pu ?_)
 have Mf:¬((((sIx items.size 0 lo:Nat):Int)==0&&(1:Int)==1&&(sIx items.size items.size hi-sIx items.size 0 lo)==items.size)=true):=by
  intro q
  rw [y4,y4] at q
  have q1:((sIx items.size 0 lo:Nat):Int)=0:=eq_of_beq q.1.1
  have q2:sIx items.size items.size hi-sIx items.size 0 lo=items.size:=eq_of_beq q.2
  exact hw ⟨by omega,by omega⟩
 show wpAny _ _ (if (((sIx items.size 0 lo:Nat):Int)==0&&(1:Int)==1&&(sIx items.size items.size hi-sIx items.size 0 lo)==items.size)=true then _ else _) _ _ s
 rw [zD Mf,Me]
 first
  |exact zm (m:=Builtin.Tuple.tupleExact _) (g8 (zK ⟨_,rfl,zK h⟩) d6)
  |exact zm (m:=Builtin.Tuple.tupleExact _) (g8 (zm (zK (zK ⟨_,rfl,zK h⟩))) d6)
  |exact zm (zm (m:=Builtin.Tuple.tupleExact _) (g8 (zK (zK ⟨_,rfl,zK h⟩)) d6))
  |exact zm (zm (m:=Builtin.Tuple.tupleExact _) (g8 (zK ⟨_,rfl,zK h⟩) d6))
end
end HT
namespace L2
open PySem PySem.Spec PyProof.Rows
abbrev TO:=St->Hp->(Option Int->Hp->Prop)->Prop
def PO (X:Cx) (e:Option Expr) (t:TO):Prop :=
 ∀(pins:Ac) (s:Shared) (U:St) (H:Hp) (Q:Option Int->Hp->Prop),Inv X pins U H s->t U H Q ->
  wpAny (model X.prog X.w) X.A (evalPart e X.env) (λu s'=>∃o H',Inv X pins U H' s'/\IsPart u o/\Q o H') X.xe s
def Mg:TO:=λ_ H Q=>Q none H
def Mh (t:TE):TO:=λU H Q=>t U H λx H1=>∃i,x=.int i/\Q (some i) H1
section
variable {X:Cx} {e:Expr} {te:TE} {lo hi:Option Expr} {tl th:TO} {pos p2:Pos}
def Mj:PO X none Mg:=by
 intro pins s U H Q I h
 rw [evalPart_none]
 exact zK ⟨none,H,I,.none,h⟩
def Ml (h:PE X e te):PO X (some e) (Mh te):=by
 intro pins s U H Q I hw
 rw [evalPart_some]
 refine aR (h pins s U H _ I hw) λu s1 ⟨x,H1,I1,r1,q1⟩=>?_
 obtain ⟨i,rfl,q⟩:=q1
 obtain ⟨t,rfl⟩:=r1
 exact ⟨some i,H1,I1,.int i t,q⟩
def hU (X:Cx) (r:V->Option Int->Option Int->Hp->VK->Prop):Prop :=
 ∀(pins:Ac) (s:Shared) (U:St) (H:Hp) (x:V) (v vl vu:Value) (lo hi:Option Int) (sl:Addr) (Q:VK),Inv X pins U H s->RelV x v->s.heap.IsSliceOf sl vl vu .none->IsPart vl lo->IsPart vu hi->r x lo hi H Q ->
  ∃T id,typeLookup (.type T) "__getitem__" = pure (some (.builtin id))/\s.TypeIs v T/\wpAny (model X.prog X.w) X.A (getItem v (.ref sl)) (EP X pins U Q) X.xe s
def hU.or {r r':V->Option Int->Option Int->Hp->VK->Prop}(h:hU X r) (h':hU X r'):hU X (λx lo hi H Q=>r x lo hi H Q\/r' x lo hi H Q):=by
 intro pins s U H x v vl vu lo hi sl Q I rx hs pl pu q
 rcases q with q|q
 ·exact h pins s U H x v vl vu lo hi sl Q I rx hs pl pu q
 ·exact h' pins s U H x v vl vu lo hi sl Q I rx hs pl pu q
def Mm (r:V->Option Int->Option Int->Hp->VK->Prop) (te:TE) (tl th:TO):TE:=λU H Q=>te U H λx H1=>tl U H1 λl H2=>th U H2 λu H3=>r x l u H3 Q
def Mn {r:V->Option Int->Option Int->Hp->VK->Prop}(hr:hU X r) (he:PE X e te) (hl:PO X lo tl) (hu:PO X hi th):PE X (.Subscript e (.Slice lo hi none p2) pos) (Mm r te tl th):=by
 intro pins s U H Q I h
 refine Subscript_ (aR (he pins s U H _ I h) λv s1 ⟨x,H1,I1,r1,q1⟩=>?_)
 refine wpAny_Slice (aR (hl pins s1 U H1 _ I1 q1) λvl s2 ⟨l,H2,I2,pl,q2⟩=>aR (hu pins s2 U H2 _ I2 q2) λvu s3 ⟨u,H3,I3,pu,q3⟩=>?_)
 rw [evalPart_none]
 refine zK ?_
 have I4:Inv X pins U H3 { s3 with heap:=s3.heap.push { cls:=.type "slice", data:=.fields #[vl,vu,.none] } }:=I3.kept (t':=s3.toks) λb ob q=>zU _ q
 obtain ⟨T,id,hT,ht,hg⟩:=hr pins { s3 with heap:=s3.heap.push { cls:=.type "slice", data:=.fields #[vl,vu,.none] } } U H3 x v vl vu l u s3.heap.objs.size Q I4 r1 (Heap.IsSliceOf.new ..) pl pu q3
 show wpAny (model X.prog X.w) X.A (subscriptTail e (.Slice lo hi none p2) v (.ref s3.heap.objs.size)) (EP X pins U Q) X.xe { s3 with heap:=s3.heap.push { cls:=.type "slice", data:=.fields #[vl,vu,.none] } }
 exact tail_any (ops:=[.ref s3.heap.objs.size,v]) ht hT hg (by with_unfolding_all rfl)
def fy (xs:List V) (lo hi:Option Int):List V:=(xs.drop (HT.sIx xs.length 0 lo)).take (HT.sIx xs.length xs.length hi-HT.sIx xs.length 0 lo)
def C5 (xs:List V) (lo hi:Option Int):(fy xs lo hi).length<=xs.length:=by
 unfold fy
 rw [List.length_take,List.length_drop]
 omega
def Mp (K:PySem.W.Frag):V->Option Int->Option Int->Hp->VK->Prop:=λx lo hi H Q=>∃a xs,x=.ref a/\bC K H a xs /\
 ¬(HT.sIx xs.length 0 lo=0/\HT.sIx xs.length xs.length hi=xs.length)/\∀p,H p=none->Q (.ref p) (upd H p (.tup (fy xs lo hi)))
def Mq:hU X (Mp X.K):=by
 intro pins s U H x v vl vu lo hi sl Q I rx hs pl pu h
 obtain ⟨a,xs,rfl,hx,hw,q⟩:=h
 cases rx
 obtain ⟨its,r,ht,hz⟩:=I.tuple hx
 have hlen:its.toArray.size=xs.length:=by rw [yH];exact r.length.symm
 refine ⟨"tuple", _,PyProof.Rows.slot_tuple_getitem.lookup,ht.typeIs,?_⟩
 refine HT.getItem_tuple_cut ht hs pl pu (by rw [hlen];exact hw) ?_ (by rw [hlen];exact hz)
 rw [hlen]
 refine ⟨.ref s.heap.objs.size,_,I.laid (t':=s.toks) (o:=.tup (fy xs lo hi)) (λb ob q=>zU _ q) (z0 _) ?_,rfl,q _ (I.hok.fresh (z0 _))⟩
 exact ⟨jg (C5 xs lo hi) hz,_,(r.drop (HT.sIx xs.length 0 lo)).take (HT.sIx xs.length xs.length hi-HT.sIx xs.length 0 lo),IsTup.new _ _⟩
def Mr (K:PySem.W.Frag):R2:=λx y H Q=>∃a b xs ys,x=.ref a/\y=.ref b/\bC K H a xs/\bC K H b ys/\xs≠[]/\xs.length+ys.length<=sizeLine /\
 (ys=[]->Q (.ref a) H)/\(ys≠[]->∀p,H p=none->Q (.ref p) (upd H p (.tup (xs++ys))))
def Vals.nil_iff {xs:List V}{us:Af}(r:Vals xs us):us=[]↔xs=[]:=by
 cases r with
 |nil=>simp
 |cons _ _=>simp
def Ms:bq X (binaryOp .Add) (Mr X.K):=by
 intro pins s U H x y v u Q I rx ry h
 obtain ⟨a,b,xs,ys,rfl,rfl,ha,hb,hx,hz,q1,q2⟩:=h
 cases rx
 cases ry
 obtain ⟨its,r1,p1,_⟩:=I.tuple ha
 obtain ⟨aS,r2,p2,_⟩:=I.tuple hb
 refine HT.cat_tup p1 p2 (λz=>hx (r1.nil_iff.mp z)) (λz=>⟨.ref a,H,I,rfl,q1 (r2.nil_iff.mp z)⟩) (λz=>?_) (by rw [<-r1.length,<-r2.length];exact hz)
 refine ⟨.ref s.heap.objs.size,_,I.laid (t':=s.toks) (o:=.tup (xs++ys)) (λb ob q=>zU _ q) (z0 _) ?_,rfl,q2 (λw=>z (r2.nil_iff.mpr w)) _ (I.hok.fresh (z0 _))⟩
 exact ⟨by rw [jo];exact hz,_,r1.append r2,IsTup.new _ _⟩
end
def kM (n:Nat) (i:Int):Option Nat:=if 0<=i then (if i<n then some i.toNat else none) else if -(n:Int)<=i then some (i+n).toNat else none
def bY {α:Type}(xs:List α) (i:Int):Option α:=(kM xs.length i).bind λj=>xs[j]?
def Mt {n:Nat}{i:Int}{j:Nat}(h:kM n i=some j):seqIndex? i n=some j/\j<n /\ -(n:Int)<=i/\i<n:=by
 unfold kM at h
 by_cases h0:0<=i
 ·rw [zp h0] at h
  by_cases h1:i<n
  ·rw [zp h1] at h
   have e:i.toNat=j:=Option.some.inj h
   exact ⟨by rw [seqIndex_of h0 h1,e],by omega,by omega,h1⟩
  ·rw [zD h1] at h;cases h
 ·rw [zD h0] at h
  by_cases h1 : -(n:Int)<=i
  ·rw [zp h1] at h
   have e:(i+n).toNat=j:=Option.some.inj h
   exact ⟨by rw [seqIndex_neg (by omega) h1,e],by omega,h1,by omega⟩
  ·rw [zD h1] at h;cases h
def bj {α:Type}{xs:List α}{i:Int}{v:α}(h:bY xs i=some v):∃j,seqIndex? i xs.length=some j/\xs[j]?=some v/\j<xs.length /\ -(xs.length:Int)<=i/\i<xs.length:=by
 unfold bY at h
 cases e:kM xs.length i with
 |none=>rw [e] at h;cases h
 |some j =>
  rw [e] at h
  obtain ⟨h1,h2,h3,h4⟩:=Mt e
  exact ⟨j,h1,h,h2,h3,h4⟩
def eE (b:Expr):Prop:=∀o i,subscripted b false o i=operate [o,i] (getItem o i)
def e_ (X:Cx) (r:R2):Prop :=
 ∀(value slice:Expr) (pins:Ac) (s:Shared) (U:St) (H:Hp) (x y:V) (v u:Value) (Q:VK),Inv X pins U H s->RelV x v->RelV y u->r x y H Q ->
  subscripted slice false v u=operate [v,u] (getItem v u)->wpAny (model X.prog X.w) X.A (subscriptTail value slice v u) (EP X pins U Q) X.xe s
def vB (X:Cx) (id:String) (r:V->List V->Hp->VK->Prop):Prop :=
 ∀(pins:Ac) (s:Shared) (U:St) (H:Hp) (x:V) (xs:List V) (v:Value) (us:Af) (Q:VK),Inv X pins U H s->RelV x v->Vals xs us->r x xs H Q ->
  wpAny (model X.prog X.w) X.A (call (.builtin id) (v::us)) (EP X pins U Q) X.xe s
section
variable {X:Cx} {a b:Expr} {ta tb:TE} {pos:Pos}
def e_.or {r r':R2}(h:e_ X r) (h':e_ X r'):e_ X (λx y H Q=>r x y H Q\/r' x y H Q):=by
 intro value slice pins s U H x y v u Q I rx ry q hs
 rcases q with q|q
 ·exact h value slice pins s U H x y v u Q I rx ry q hs
 ·exact h' value slice pins s U H x y v u Q I rx ry q hs
def C6 {r:R2}(hr:e_ X r) (ha:PE X a ta) (hb:PE X b tb) (hs:eE b):PE X (.Subscript a b pos) (nW r ta tb):=by
 intro pins s U H Q I h
 exact Subscript_ (nX ha hb I h λv u s2 x y H2 I2 rx ry q=>hr a b pins s2 U H2 x y v u Q I2 rx ry q (hs _ _))
def C7 (K:PySem.W.Frag):R2:=λx y H Q=>∃p xs i v,x=.ref p/\y=.int i/\ba K H p xs/\bY xs i=some v/\Q v H
def C8 (K:PySem.W.Frag):R2:=λx y H Q=>∃p xs i v,x=.ref p/\y=.int i/\bC K H p xs/\bY xs i=some v/\Q v H
def C9:R2:=λx y H Q=>∃z i c,x=.str z/\y=.int i/\z.length<=sizeLine/\bY z.cps.toList i=some c/\Q (.str ⟨#[c]⟩) H
def Mu:e_ X (C7 X.K):=by
 intro value slice pins s U H x y v u Q I rx ry h hs
 obtain ⟨p,xs,i,z,rfl,rfl,hq,he,q⟩:=h
 cases rx
 obtain ⟨t,rfl⟩:=ry
 obtain ⟨its,r,pl,hz⟩:=I.list hq
 obtain ⟨j,h1,h2,h3,h4,h5⟩:=bj he
 obtain ⟨w,ew,rw'⟩:=r.get h2
 have hl:=r.length
 have hn:=rn
 have fin:EP X pins U Q w s:=⟨z,H,I,rw',q⟩
 by_cases h0:0<=i
 ·have hj:i.toNat=j:=by
   rw [seqIndex_of h0 h5] at h1
   exact Option.some.inj h1
  exact item_listR pl.isList h0 (by omega) (by rw [hj];simpa using ew) fin hs
 ·have hj:(i+(its.toArray.size:Int)).toNat=j:=by
   rw [seqIndex_neg (by omega) h4] at h1
   rw [yH,<-hl]
   exact Option.some.inj h1
  exact subscriptTail_builtinR (x:=w) pl.isList.typeIs slot_list_getitem.lookup
   (wpAny_getItem_list_neg (Q:=λr s'=>r=w/\EP X pins U Q r s') pl.isList (by omega) (by rw [yH]<;>omega) (by omega) (by rw [hj];simpa using ew) ⟨rfl,fin⟩) hs
def Mv:e_ X (C8 X.K):=by
 intro value slice pins s U H x y v u Q I rx ry h hs
 obtain ⟨p,xs,i,z,rfl,rfl,hq,he,q⟩:=h
 cases rx
 obtain ⟨t,rfl⟩:=ry
 obtain ⟨its,r,pl,hz⟩:=I.tuple hq
 obtain ⟨j,h1,h2,h3,h4,h5⟩:=bj he
 obtain ⟨w,ew,rw'⟩:=r.get h2
 have hl:=r.length
 have hn:=rn
 have fin:EP X pins U Q w s:=⟨z,H,I,rw',q⟩
 exact subscriptTail_builtinR (x:=w) pl.typeIs slot_tuple_getitem.lookup
  (getItem_tuple (j:=j) (Q:=λr s'=>r=w/\EP X pins U Q r s') pl (by omega) (by omega) (by rw [yH,<-hl];exact h1) (by simpa using ew) ⟨rfl,fin⟩) hs
def eF:e_ X C9:=by
 intro value slice pins s U H x y v u Q I rx ry h hs
 obtain ⟨z,i,c,rfl,rfl,hz,he,q⟩:=h
 obtain ⟨t,rfl⟩:=rx
 obtain ⟨t',rfl⟩:=ry
 obtain ⟨j,h1,h2,h3,h4,h5⟩:=bj he
 have hl:z.cps.toList.length=z.length:=by simp [Str.length]
 rw [hl] at h1 h4 h5
 have hn:=rn
 exact tail_any (typeIs_str s z t) slot_str_getitem.lookup (getItem_str (c:=c) (by
  have e1:decide (i < -(2 ^ 63:Int))=false:=wc (by omega)
  have e2:decide (i>=2 ^ 63)=false:=wc (by omega)
  rw [e1,e2,Bool.or_false]) (by rw [h1];simpa using h2) ⟨.str ⟨#[c]⟩,H,I.tok _,⟨_,rfl⟩,q⟩) hs
def Mw (K:PySem.W.Frag):R2:=λx y H Q=>C7 K x y H Q\/C8 K x y H Q\/C9 x y H Q
def Mx:e_ X (Mw X.K):=Mu.or (Mv.or eF)
theorem Inv.lst {pins:Ac}{U:St}{H:Hp}{s:Shared}{p:Addr}{xs:List V}(I:Inv X pins U H s) (h:H p=some (.lst xs)) :
  ∃(its:Af) (n:Nat),Vals xs its/\s.heap.get? p=some { cls:=.type "list", data:=.seq its.toArray n }/\xs.length<=sizeLine:=by
 obtain ⟨z,its,n,r,e⟩:=I.hok p _ h
 exact ⟨its,n,r,e,z⟩
def My (lo hi:Option Int) (n:Nat):(sliceBounds lo hi none n).1=((HT.sIx n 0 lo:Nat):Int)/\(sliceBounds lo hi none n).2.1=((HT.sIx n n hi:Nat):Int)/\(sliceBounds lo hi none n).2.2=1:=by
 refine ⟨?_,?_,rfl⟩
 ·cases lo with
  |none=>simp [sliceBounds,HT.sIx]
  |some i =>
   simp only [sliceBounds,HT.sIx,Option.getD_none,show (1:Int)>0 by decide,jF]
   by_cases h:i<0
   ·simp only [h,jF]<;>omega
   ·simp only [h,g9]<;>omega
 ·cases hi with
  |none=>simp [sliceBounds,HT.sIx]
  |some i =>
   simp only [sliceBounds,HT.sIx,Option.getD_none,show (1:Int)>0 by decide,jF]
   by_cases h:i<0
   ·simp only [h,jF]<;>omega
   ·simp only [h,g9]<;>omega
def Mz (its:Af) (lo hi:Option Int):slicePick its.toArray lo hi none=((its.drop (HT.sIx its.length 0 lo)).take (HT.sIx its.length its.length hi-HT.sIx its.length 0 lo)).toArray:=by
 obtain ⟨h1,h2,h3⟩:=My lo hi its.toArray.size
 unfold slicePick
 rw [h1,h2,h3]
 simp only [sliceRange_one,pick_run,yH]<;>rfl
def MB (K:PySem.W.Frag):V->Option Int->Option Int->Hp->VK->Prop:=λx lo hi H Q=>∃a xs,x=.ref a/\ba K H a xs/\∀p,H p=none->Q (.ref p) (upd H p (.lst (fy xs lo hi)))
def MC:hU X (MB X.K):=by
 intro pins s U H x v vl vu lo hi sl Q I rx hs pl pu h
 obtain ⟨a,xs,rfl,hx,q⟩:=h
 cases rx
 obtain ⟨its,r,ht,hz⟩:=I.list hx
 have hlen:=r.length
 refine ⟨"list", _,slot_list_getitem.lookup,ht.isList.typeIs,?_⟩
 refine wpAny_getItem_list_slice ht.isList hs pl pu .none (by simp) ?_ (by rw [yH]<;>omega)
 rw [Mz,<-hlen]
 refine ⟨.ref s.heap.objs.size,_,I.laid (t':=s.toks) (o:=.lst (fy xs lo hi)) (λb ob q=>zU _ q) (z0 _) ?_,rfl,q _ (I.hok.fresh (z0 _))⟩
 exact ⟨jg (C5 xs lo hi) hz,_,0,(r.drop (HT.sIx xs.length 0 lo)).take (HT.sIx xs.length xs.length hi-HT.sIx xs.length 0 lo),yK _ rfl⟩
def zpK:bq X (compareOp .NotIn) (λx y H Q=>∃i j,x=.str i/\y=.str j/\Q (.bl (!(!(Builtin.Str.occurrences j i 0 j.length 1).isEmpty))) H):=by
 intro pins s U H x y v u Q I rx ry h
 obtain ⟨i,j,rfl,rfl,q⟩:=h
 obtain ⟨t,rfl⟩:=rx
 obtain ⟨t',rfl⟩:=ry
 exact notIn_str ⟨.bl _,H,I,rfl,q⟩
def bt.or {f:Value}{r r':List V->Hp->VK->Prop}(h:bt X f r) (h':bt X f r'):bt X f (λxs H Q=>r xs H Q\/r' xs H Q):=by
 intro pins s U H xs us Q I rs q
 rcases q with q|q
 ·exact h pins s U H xs us Q I rs q
 ·exact h' pins s U H xs us Q I rs q
def MD:bt X (.type "list") (λxs H Q=>∃p ys,xs=[.ref p]/\(ba X.K H p ys\/bC X.K H p ys)/\∀l,H l=none->Q (.ref l) (upd H l (.lst ys))):=by
 intro pins s U H xs us Q I r h
 obtain ⟨p,ys,rfl,hq,q⟩:=h
 obtain ⟨u,rfl,rx⟩:=wQ r
 cases rx
 have fin:∀(its:Af),Vals ys its->ys.length<=sizeLine->∀(h':Heap) (c':Nat),(∀b o',s.heap.get? b=some o'->h'.get? b=some o') ->
   h'.get? s.heap.objs.size=some { cls:=.type "list", dict:=none,data:=.seq its.toArray c',slots:=#[] }->EP X pins U Q (.ref s.heap.objs.size) { s with heap:=h' }:=λits r' hz h' c' kp e =>
  ⟨.ref s.heap.objs.size,_,I.laid (t':=s.toks) kp (z0 _) (show aX X.prog X.w _ h' _ (.lst ys) from ⟨hz,its,c',r',e⟩),rfl,q _ (I.hok.fresh (z0 _))⟩
 rcases hq with hq|hq
 ·obtain ⟨its,r',pl,hz⟩:=I.list hq
  have hlen:=r'.length
  obtain ⟨o,ho,hc,n,hd⟩:=pl.isList
  exact call_list_seq p (.inl rfl) ho hc hd (λh' c' kp e=>fin its r' hz h' c' kp e) (by simp only [yH]<;>omega)
 ·obtain ⟨its,r',pl,hz⟩:=I.tuple hq
  have hlen:=r'.length
  obtain ⟨o,ho,hc,n,hd⟩:=pl
  exact call_list_seq p (.inr rfl) ho hc hd (λh' c' kp e=>fin its r' hz h' c' kp e) (by simp only [yH]<;>omega)
def MF:bt X (.type "tuple") (λxs H Q=>∃p ys,xs=[.ref p]/\((ba X.K H p ys/\∀l,H l=none->Q (.ref l) (upd H l (.tup ys)))\/(bC X.K H p ys/\Q (.ref p) H))):=by
 intro pins s U H xs us Q I r h
 obtain ⟨p,ys,rfl,h⟩:=h
 obtain ⟨u,rfl,rx⟩:=wQ r
 cases rx
 rcases h with ⟨hq,q⟩|⟨hq,q⟩
 ·obtain ⟨its,r',pl,hz⟩:=I.list hq
  have hlen:=r'.length
  refine call_tuple_list pl.isList (λh' kp=>?_) (by simp only [yH]<;>omega)
  have I1:Inv X pins U H { s with heap:=h' }:=I.kept (t':=s.toks) kp
  have I2:Inv X pins U (upd H h'.objs.size (.tup ys)) { s with heap:=h'.push { cls:=.type "tuple", data:=.seq its.toArray } } :=
   I1.laid (t':=s.toks) (λb o e=>zU _ e) (z0 _) (show aX X.prog X.w _ _ _ (.tup ys) from ⟨hz,its,r',IsTup.new _ _⟩)
  exact ⟨.ref h'.objs.size,_,I2,rfl,q _ (I1.hok.fresh (z0 _))⟩
 ·obtain ⟨its,r',pl,hz⟩:=I.tuple hq
  exact call_tuple_same pl ⟨.ref p,H,I,rfl,q⟩
def vC (K:PySem.W.Frag) (T:String) (x:V) (H:Hp):Prop:=match x with
 |.str _=>T = "str"
 |.int _=>T = "int"
 | .ref p=>(T = "list" /\ ∃xs,ba K H p xs)\/(T = "tuple" /\ ∃o,K.lookup p=some o/\o.cls=.type "tuple" /\ o.dict=none) \/
   (T = "dict" /\ ((∃kvs,H p=some (.dK kvs))\/∃kvs,H p=some (.dT kvs)))\/(T = "set" /\ ∃S n,H p=some (.set S n))
 |_=>False
def mq {pins:Ac}{U:St}{H:Hp}{s:Shared}{T:String}{x:V}{v:Value}(I:Inv X pins U H s) (r:RelV x v) (ty:vC X.K T x H) :
  s.TypeIs v T/\∀a,v=.ref a->∃ob,s.heap.get? a=some ob/\ob.dict=none:=by
 cases x with
 |str z =>
  obtain ⟨t,rfl⟩:=r
  cases (show T = "str" from ty)
  exact ⟨typeIs_str s z t,λ_ e=>nomatch e⟩
 |int i =>
  obtain ⟨t,rfl⟩:=r
  cases (show T = "int" from ty)
  exact ⟨typeIs_int s i t,λ_ e=>nomatch e⟩
 |ref p =>
  cases r
  rcases ty with ⟨rfl,xs,hq⟩|⟨rfl,o,hk,hc,hd⟩|⟨rfl,hk⟩|⟨rfl,S,n,hk⟩
  ·obtain ⟨its,_,pl,_⟩:=I.list hq
   refine ⟨pl.isList.typeIs,λa e=>?_⟩
   cases e
   obtain ⟨o,n,e,c,hd,_⟩:=pl
   exact ⟨o,e,hd⟩
  ·refine ⟨⟨o,I.kIn p o hk,hc⟩,λa e=>?_⟩
   cases e
   exact ⟨o,I.kIn _ o hk,hd⟩
  ·have z:∃o,s.heap.get? p=some o/\o.ExactDict:=by
    rcases hk with ⟨kvs,hk⟩|⟨kvs,hk⟩
    ·obtain ⟨_,_,_,_,o,_,_,e,ex,_⟩:=I.hok p _ hk
     exact ⟨o,e,ex⟩
    ·obtain ⟨_,_,_,_,o,_,_,e,ex,_⟩:=I.hok p _ hk
     exact ⟨o,e,ex⟩
   obtain ⟨o,e,ex⟩:=z
   refine ⟨⟨o,e,ex.1⟩,λa e2=>?_⟩
   cases e2
   exact ⟨o,e,ex.2.1⟩
  ·obtain ⟨o,_,_,_,e,ex,_⟩:=I.hok p _ hk
   refine ⟨⟨o,e,ex.1⟩,λa e2=>?_⟩
   cases e2
   exact ⟨o,e,ex.2.1⟩
 |_=>exact ty.elim
def MH (K:PySem.W.Frag) (T:String) (r:V->List V->Hp->VK->Prop) (to:TE):TE:=λU H Q=>to U H λx H1=>vC K T x H1/\r x [] H1 Q
def MJ (K:PySem.W.Frag) (T:String) (r:V->List V->Hp->VK->Prop) (to:TE) (t:TA):TE:=λU H Q=>to U H λx H1=>vC K T x H1/\t U H1 λxs H2=>r x xs H2 Q
variable {o e:Expr} {es:List Expr} {to:TE} {t:TA} {name:Str} {apos aK:Pos} {T id:String} {r:V->List V->Hp->VK->Prop}
def MK (pa:PlainAttrs T) (slot:Slot T name id) (iS:typeOf (.builtin id)=pure (.type "method_descriptor")) (hm:vB X id r) (ho:PE X o to)
  (bf:attributeBase o name X.env (eval o X.env)=eval o X.env:=by rfl) (bw:(apos.endLine==aK.line)=true:=by rfl):PE X (.Call (.Attribute o name apos) [] [] aK) (MH X.K T r to):=by
 intro pins s U H Q I h
 refine wpAny_Call_method0_late bf bw (aR (ho pins s U H _ I h) λv s1 ⟨x,H1,I1,r1,ty,q1⟩=>?_)
 obtain ⟨h1,h2⟩:=mq I1 r1 ty
 exact ⟨T,id,pa,slot,iS,h1,h2,Calls.callWith_builtin rfl (PySem.evalArgs_none (hm pins s1 U H1 x [] v [] Q I1 r1 .nil q1))⟩
def rA (pa:PlainAttrs T) (slot:Slot T name id) (iS:typeOf (.builtin id)=pure (.type "method_descriptor")) (hm:vB X id r) (ho:PE X o to) (ha:PA X (e::es) t)
  (bf:attributeBase o name X.env (eval o X.env)=eval o X.env:=by rfl)
  (dF:((backTo aK (starEach (e::es) X.env)).all (λx=>!x.1)&&(backToKw aK (keywordEach [] X.env)).all (λx=>x.1.isSome)
   && decide ((e::es).length+([]:List Keyword).length+(if ([]:List Keyword).isEmpty then 0 else 1)<30))=true:=by rfl)
  (bw:(apos.endLine==aK.line)=true:=by rfl) (hs:starEach (e::es) X.env=(false,eval e X.env)::starEach es X.env:=by rfl) (rB:(backTo aK (starEach es X.env)).any (·.1)=false:=by rfl) :
  PE X (.Call (.Attribute o name apos) (e::es) [] aK) (MJ X.K T r to t):=by
 intro pins s U H Q I h
 refine wpAny_Call_method_late bf dF bw rfl (aR (ho pins s U H _ I h) λv s1 ⟨x,H1,I1,r1,ty,q1⟩=>?_)
 obtain ⟨h1,h2⟩:=mq I1 r1 ty
 refine ⟨T,id,pa,slot,iS,h1,h2,?_⟩
 have hA:=ha aK pins s1 U H1 _ I1 q1
 rw [hs] at hA ⊢
 refine Calls.callWith_builtin (by show (false||(backTo aK (starEach es X.env)).any (·.1))=false;rw [rB]<;>rfl) (Calls.evalArgs_plain ?_)
 exact aR hA λus s2 ⟨vs,H2,I2,r2,q2⟩=>hm pins s2 U H2 x vs v us Q I2 r1 r2 q2
end
def rD (X:Cx) (id:String) (r:V->List V->Hp->VK->Prop):Prop :=
 ∀(pins:Ac) (s:Shared) (U:St) (H:Hp) (x:V) (xs:List V) (v:Value) (us:Af) (Q:VK),Inv X pins U H s->RelV x v->Vals xs us->r x xs H Q ->
  wpAny (model X.prog X.w) X.A (call (.builtin id) (v::us)) (EP X pins U Q) X.xe s
def Vals.one:∀{x:V}{us:Af},Vals [x] us->∃u,us=[u]/\RelV x u
 |_,_,.cons r .nil=>⟨_,rfl,r⟩
def Vals.zero:∀{us:Af},Vals [] us->us=[]
 |_,.nil=>rfl
theorem Vals.dropLast {xs:List V}{us:Af}(h:Vals xs us):Vals xs.dropLast us.dropLast:=by
 induction h with
 |nil=>exact .nil
 |cons r t ih =>
  cases t with
  |nil=>exact .nil
  |cons q t'=>exact .cons r ih
theorem Vals.eraseIdx:∀{xs:List V}{us:Af}(i:Nat),Vals xs us->Vals (xs.eraseIdx i) (us.eraseIdx i)
 |_,_,_,.nil=>.nil
 |_,_,0,.cons _ t=>t
 |_,_,i+1,.cons r t=>.cons r (Vals.eraseIdx i t)
theorem Vals.reverse {xs:List V}{us:Af}(h:Vals xs us):Vals xs.reverse us.reverse:=by
 induction h with
 |nil=>exact .nil
 |cons r t ih=>rw [List.reverse_cons,List.reverse_cons];exact Vals.append ih (.cons r .nil)
def ML {α:Type}(l:List α):l.eraseIdx (l.length-1)=l.dropLast:=by
 induction l with
 |nil=>rfl
 |cons a r ih =>
  cases r with
  |nil=>rfl
  |cons b r =>
   have e:(a::b::r).length-1=((b::r).length-1)+1:=by
    have h1:(a::b::r).length=r.length+2:=rfl
    have h2:(b::r).length=r.length+1:=rfl
    omega
   rw [e,List.eraseIdx_cons_succ,ih]
   all_goals rfl
theorem C_ {α:Type}:∀(l:List α) (i:Nat),(l.eraseIdx i).length<=l.length
 |[],_=>z0 _
 |_::_,0=>Nat.le_succ _
 |_::r,i+1=>Nat.succ_le_succ (C_ r i)
section
variable {X:Cx} {pins:Ac} {U:St} {H:Hp} {s:Shared} {l:Addr} {xs ys:List V}
def Inv.lset {its its':Af}{n:Nat}{f:Array Value->Array Value}{t':Nat}(I:Inv X pins U H s) (hH:H l=some (.lst xs))
  (e:s.heap.get? l=some { cls:=.type "list", data:=.seq its.toArray n }) (hf:f its.toArray=its'.toArray) (hv:Vals ys its') (hz:ys.length<=sizeLine) :
  Inv X pins U (upd H l (.lst ys)) { s with heap:=s.heap.update l (Obj.mapSeq f),toks:=t' }:=by
 have q:=PySem.IsL.update e f
 rw [hf] at q
 refine I.write (x:=l) (e:=l) (by rw [hH];exact trivial) (.inl rfl) (λb' u hb hu=>(ww s.heap (Obj.mapSeq f) (yL hb)).trans hu) ⟨_,q⟩ ?_
 exact ⟨hz,its',_,hv,q⟩
def Inv.lnew {its:Af}{t':Nat}(I:Inv X pins U H s) (hv:Vals ys its) (hz:ys.length<=sizeLine) :
  Inv X pins U (upd H s.heap.objs.size (.lst ys)) { s with heap:=s.heap.push { cls:=.type "list", data:=.seq its.toArray },toks:=t' } :=
 I.laid (λ_ _ q=>zU _ q) (z0 _) ⟨hz,its,0,hv,yK _ rfl⟩
theorem Inv.fresh (I:Inv X pins U H s):H s.heap.objs.size=none:=I.hok.fresh (z0 _)
def Inv.lstM (I:Inv X pins U H s) (hH:H l=some (.lst xs)):xs.length<=sizeLine/\∃(its:Af) (n:Nat),Vals xs its/\xs.length=its.length/\s.heap.get? l=some { cls:=.type "list", data:=.seq its.toArray n }:=by
 obtain ⟨z,its,n,r,e⟩:=I.hok l _ hH
 exact ⟨z,its,n,r,r.length,e⟩
def mv {n:Nat}(h:n<=sizeLine):Builtin.List.listTooLong n=false:=by
 unfold Builtin.List.listTooLong
 exact wc (by omega)
end
section
variable {X:Cx}
def MM:V->List V->Hp->VK->Prop:=λx vs H Q=>∃l xs y,x=.ref l/\vs=[y]/\H l=some (.lst xs)/\xs.length<sizeLine/\Q .non (upd H l (.lst (xs++[y])))
def zpS:rD X "list.append" MM:=by
 intro pins s U H x vs v us Q I rx rv h
 obtain ⟨l,xs,y,rfl,rfl,hH,hz,q⟩:=h
 cases rx
 obtain ⟨u,rfl,ru⟩:=rv.one
 obtain ⟨z,its,n,r,hl,e⟩:=I.lstM hH
 refine call_meets F.slot_list_append ⟨_,e,rfl⟩ F.entry_list_append (F.args_list_append_2 _ _) (PySem.list_append l its.toArray n u (by rw [yH];omega)) ⟨e,?_⟩
 refine ⟨.non,_,I.lset (its':=its++[u]) hH e (by simp) (r.append (.cons ru .nil)) ?_,rfl,q⟩
 rw [jo,ma]
 omega
def MN:V->List V->Hp->VK->Prop:=λx vs H Q=>∃l b xs zs,x=.ref l/\vs=[.ref b]/\H l=some (.lst xs)/\H b=some (.lst zs)/\xs.length+zs.length<=sizeLine/\Q .non (upd H l (.lst (xs++zs)))
def zpU:rD X "list.extend" MN:=by
 intro pins s U H x vs v us Q I rx rv h
 obtain ⟨l,b,xs,zs,rfl,rfl,hH,hB,hz,q⟩:=h
 cases rx
 obtain ⟨u,rfl,ru⟩:=rv.one
 cases ru
 obtain ⟨z,its,n,r,hl,e⟩:=I.lstM hH
 obtain ⟨z2,aS,n2,r2,hl2,e2⟩:=I.lstM hB
 have hsz:its.toArray.size+aS.toArray.size<=sizeLine:=by rw [yH,yH];omega
 have vD:¬(!its.toArray.isEmpty&&Builtin.List.listTooLong (its.toArray.size+aS.toArray.size))=true:=by
  rw [mv hsz,Bool.and_false]
  exact Bool.false_ne_true
 refine call_meets F.slot_list_extend ⟨_,e,rfl⟩ F.entry_list_extend (F.args_list_extend_2 _ _)
  (AutoSeq1.list_extend_list_list_0 l its.toArray n b aS.toArray n2 vD (by rw [yH];omega) (by omega)) ⟨e,e2,?_⟩
 refine ⟨.non,_,I.lset (its':=its++aS) hH e (by simp) (r.append r2) ?_,rfl,q⟩
 rw [jo]
 omega
def MP:V->List V->Hp->VK->Prop:=λx vs H Q=>∃l xs y,x=.ref l/\vs=[]/\H l=some (.lst xs)/\xs[xs.length-1]?=some y/\Q y (upd H l (.lst xs.dropLast))
def MQ:rD X "list.pop" MP:=by
 intro pins s U H x vs v us Q I rx rv h
 obtain ⟨l,xs,y,rfl,rfl,hH,hy,q⟩:=h
 cases rx
 have MR:=rv.zero
 subst MR
 obtain ⟨z,its,n,r,hl,e⟩:=I.lstM hH
 obtain ⟨u,hu,ru⟩:=r.get hy
 have MU:its.toArray[its.toArray.size-1]?=some u:=by
  show its.toArray[its.length-1]?=some u
  rw [<-Array.getElem?_toList,<-hl]
  exact hu
 refine call_meets F.slot_list_pop ⟨_,e,rfl⟩ F.entry_list_pop (F.args_list_pop_1 _) (MeetsSeq.list_pop_last l its.toArray n u MU (by rw [yH];omega)) ⟨e,?_⟩
 refine ⟨y,_,I.lset (its':=its.dropLast) hH e ?_ r.dropLast ?_,ru,q⟩
 ·show its.toArray.eraseIdxIfInBounds (its.toArray.size-1)=its.dropLast.toArray
  rw [yH,List.eraseIdxIfInBounds_toArray,ML]
 ·rw [List.length_dropLast]
  omega
def MV:V->List V->Hp->VK->Prop:=λx vs H Q=>∃l xs i k y,x=.ref l/\vs=[.int i]/\H l=some (.lst xs) /\ -(2 ^ 63)<=i/\i<2 ^ 63/\seqIndex? i xs.length=some k/\xs[k]?=some y/\Q y (upd H l (.lst (xs.eraseIdx k)))
def MY:rD X "list.pop" MV:=by
 intro pins s U H x vs v us Q I rx rv h
 obtain ⟨l,xs,i,k,y,rfl,rfl,hH,h1,h2,hk,hy,q⟩:=h
 cases rx
 obtain ⟨u,rfl,ru⟩:=rv.one
 obtain ⟨t,rfl⟩:=ru
 obtain ⟨z,its,n,r,hl,e⟩:=I.lstM hH
 obtain ⟨w,hw,rw'⟩:=r.get hy
 refine call_meets F.slot_list_pop ⟨_,e,rfl⟩ F.entry_list_pop (F.args_list_pop_2 _ _)
  (MeetsSeq.list_pop_at l its.toArray n i t k w (fitsIndex_both h1 h2) (by rw [yH,<-hl];exact hk) (by rw [<-Array.getElem?_toList];exact hw) (by rw [yH];omega)) ⟨e,?_⟩
 refine ⟨y,_,I.lset (its':=its.eraseIdx k) hH e ?_ (r.eraseIdx k) ?_,rw',q⟩
 ·show its.toArray.eraseIdxIfInBounds k=(its.eraseIdx k).toArray
  rw [List.eraseIdxIfInBounds_toArray]
 ·have:=C_ xs k
  omega
def MZ:R2:=λx y H Q=>∃l b xs zs,x=.ref l/\y=.ref b/\H l=some (.lst xs)/\H b=some (.lst zs)/\xs.length+zs.length<=sizeLine/\∀p,H p=none->Q (.ref p) (upd H p (.lst (xs++zs)))
def M0:bq X (binaryOp .Add) MZ:=by
 intro pins s U H x y v u Q I rx ry h
 obtain ⟨l,b,xs,zs,rfl,rfl,hH,hB,hz,q⟩:=h
 cases rx
 cases ry
 obtain ⟨z,its,n,r,hl,e⟩:=I.lstM hH
 obtain ⟨z2,aS,n2,r2,hl2,e2⟩:=I.lstM hB
 refine PySem.P.add_list e e2 ?_ (by rw [yH,yH];omega)
 have ea:its.toArray++aS.toArray=(its++aS).toArray:=by simp
 rw [ea]
 exact ⟨.ref _,_,I.lnew (t':=s.toks) (r.append r2) (by rw [jo];omega),rfl,q _ I.fresh⟩
end
end L2
namespace Att
open PySem PySem.W PySem.Calls PyProof.Rows
def M3 {P:Params}{h:Heap}:∀(ns:List Int) (vs:Af),WellAll P h vs (ns.map WData.int)->IntsAre vs ns:=by
 intro ns
 induction ns with
 |nil =>
  intro vs w
  rw [List.map_nil] at w
  cases w
  exact .nil
 |cons n ns ih =>
  intro vs w
  rw [ye] at w
  cases w with
  |cons a b =>
   cases a
   exact .cons _ _ (ih _ b)
def M4 {l:OpenLaw}{n:Nat}(hn:l.most=some n) {P:Params}{h:Heap}{args:List WData}{vals:Af}
  (lZ:l.row.toRowW.claim.pre args=true) (hwl:WellAll P h vals args) :
  ∃a vs ns,vals=[Value.ref a]/\args=[WData.list (ns.map WData.int)]/\h.get? a=some { cls:=.type "list", data:=.seq vs.toArray }/\IntsAre vs ns/\ns.length<=n:=by
 have M5:WShape.hasAll [] args [.list .int]=true:=(pre_splitW lZ).1
 have hc:l.pre.holds [] { args:=args }=true:=(pre_splitW lZ).2
 obtain ⟨d,r,rfl,h1,h2⟩:=hasAllW_cons M5
 obtain rfl:=hasAllW_nil h2
 obtain ⟨xs,rfl,h3⟩:=hasW_list h1
 obtain ⟨ns,rfl⟩:=items_int h3
 have hlen:ns.length<=n:=by
  unfold OpenLaw.pre at hc
  have h4:(WTm.not (.lt (.lit (.int (n:Int))) (.len (.arg 0)))).holds [] { args:=[.list (ns.map .int)] }=true:=by
   have h4:=(holds_andW hc).1
   rw [hn] at h4
   exact h4
  have h5:=condW_of h4 (w_not (w_lt w_lit (w_len_list (w_arg rfl))))
  rw [y3] at h5
  refine Nat.le_of_not_lt λq=>?_
  have q':(n:Int)<((ns.length:Nat):Int):=by omega
  first
   | (rw [kG q'] at h5;exact absurd h5 (by decide))
   | (simp at h5;omega)
 cases hwl with
 |cons w1 w2 =>
  cases w2
  cases w1 with
  |list ho fL=>exact ⟨_,_,ns,rfl,rfl,ho,M3 ns _ fL,hlen⟩
def M6 (l:OpenLaw) (args:List WData):l.row.toRowW.claim.post args (.bool true) args=true :=
 postW_of (r:=l.row.toRowW) (X:=(true==true))
  (show WShape.has [] (.bool true) .bool=true by first|rfl|decide|simp [WShape.has,WShape.arms,WShape.armsAll])
  (show (WTm.eq .res (.lit (.bool true))).value [] { args:=args,res:=some (.bool true),after:=args }=some (.bool (true==true)) from w_eq_bool (w_res rfl) w_lit) rfl
def attach_call {l:OpenLaw}{n:Nat}{q:Program}{loose:Ad}{XP:(Ab)->Heap->Prop}{YP:World->Heap->Prop}{d:DefRec}
  (hn:l.most=some n) (n_:d.params.defaults=[])
  (call:∀(w:World) (s₀ aj:Shared) (mg mb:Ab) (fa:Addr) (o:Obj) (pm cd doc:Value) (a:Addr) (vs:Af) (ns:List Int),
   Ground q loose [] XP w s₀ mg mb aj.heap->YP w aj.heap ->
   aj.heap.get? fa=some o->o.data=.func (docDef d.name d.params d.body d.scope pm cd doc)->aj.heap.CodeRec cd d.name->mg d.name=some (.ref fa) ->
   aj.heap.get? a=some { cls:=.type "list", data:=.seq vs.toArray }->IntsAre vs ns->ns.length<=n->aj.gens=#[] ->
   codeAny (model l.prog w) callerA (.call (.ref fa) ⟨[.ref a],[]⟩) (λr s'=>r=.ok (.ret (.bool true))/\OldK aj.heap s'.heap/\s'.os=aj.os/\AllBare s'.gens) aj) :
  WalkO q loose XP YP l.row.toRowW d [] (λf vs=>PySem.call f vs):=by
 intro w s₀ aj mg mb G Y fa o pm cd doc dV kV ho hd d0 hD hmg hg args vals as lZ hlay hrd hwl hlo
 obtain rfl:dV=.none:=Dflts.none hD n_
 obtain rfl:kV=.none:=Dflts.noKw hD
 obtain ⟨a,vs,ns,rfl,rfl,og,hints,hlen⟩:=M4 hn lZ hwl
 refine enter_call (codeAny_mono (call w s₀ aj mg mb fa o pm cd doc a vs ns G Y ho (fd_plain hd) d0 hmg og hints hlen hg) λr s' hq=>?_)
 obtain ⟨rfl,h2,h3,h4⟩:=hq
 exact ⟨.inl ⟨.bool true,.bool true,[],rfl,λ_=>rfl,.bool true,M6 l _,λ_=>⟨List.Pairwise.nil,λ_ hm=>(nomatch hm)⟩⟩,h2,h3,h4⟩
end Att
namespace L2
open PySem PySem.Spec PyProof.Rows
theorem Dd:∀{vs:Af}{ns:List Int},IntsAre vs ns->Vals (ns.map V.int) vs
 |_,_,.nil=>.nil
 |_,_,.cons n t h=>.cons ⟨t,rfl⟩ (Dd h)
def Only (H:Hp):Prop:=∀b,H b=none\/∃o xs,H b=some (.frz o (.lst xs))
def M7 {P:Program}{w:World}{K:PySem.W.Frag}{mg mb:Ab}{CX:dv}{k:Nat}{fa a:Addr}{fd:FuncData}{x:Str}{sp:Sp}{aj:Shared}{vs:Af}{ns:List Int}
  (KX:K.In aj.heap) (De:aj.heap.Ns mainGlobals mg) (hb:aj.heap.Ns builtinsNs mb) (hV:∀x:Str,x ≠ "__name__" -> mb x=bootBuiltins x) (oh:aj.heap.NoLimit) (hg:aj.gens=#[])
  (ha:aj.heap.get? a=some { cls:=.type "list", data:=.seq vs.toArray }) (hi:IntsAre vs ns) (hl:ns.length<=sizeLine) (hr:aZ k callerA)
  (F:∀base:Heap,K.In base->base.Ns mainGlobals mg->bh P w K mg base CX k fa fd [x] sp) (vE:∀(s:Shared) (u:Value),BindsTo s fd ⟨[u],[]⟩ [(x,u)])
  (gr:∀H:Hp,Only H->ba K H a (ns.map V.int)->sp [.ref a] H (λv _=>v=.bl true) λ_ _ _=>False)
  (vF:∀H e s',CX [] H aj (λ_ _ _=>False) e s'->False) :
  codeAny (model P w) callerA (.call (.ref fa) ⟨[.ref a],[]⟩) (λr s'=>r=.ok (.ret (.bool true))/\OldK aj.heap s'.heap/\s'.os=aj.os/\AllBare s'.gens) aj:=by
 have rv:=Dd hi
 have Df:=hi.length
 have core:∀H:Hp,Only H->ba K H a (ns.map V.int)->bV P w H aj.heap->(∀b,H b≠none->b=a)->(H a≠none->K.lookup a=none) ->
   codeAny (model P w) callerA (.call (.ref fa) ⟨[.ref a],[]⟩) (λr s'=>r=.ok (.ret (.bool true))/\OldK aj.heap s'.heap/\s'.os=aj.os/\AllBare s'.gens) aj:=by
  intro H hO hS hok hA hK
  have iT:∀{b:Addr} {o:Obj},aj.heap.get? b=some o->H b=none->(eD aj.heap H).get? b=some o:=λe n=>Kd e n
  have n8:∀{b:Addr} {o:Obj} {es:Array DictEntry} {ep:Nat},aj.heap.get? b=some o->o.data=.dict es ep->H b=none:=λ{b o es ep} e d=>by
   cases q:H b with
   |none=>rfl
   |some u =>
    have e':b=a:=hA b (by rw [q];simp)
    subst e'
    rw [ha] at e;cases e
    have d':Data.seq vs.toArray _=Data.dict es ep:=d
    cases d'
  have rE:∀{b:Addr} {m:Ab},aj.heap.Ns b m->(eD aj.heap H).Ns b m:=λ{b m} ⟨o,es,ep,e,d,r⟩=>⟨o,es,ep,iT e (n8 e d),d,r⟩
  have Dg:K.In (eD aj.heap H):=λb o e=>iT (KX b o e) (by
   cases q:H b with
   |none=>rfl
   |some u =>
    have e':b=a:=hA b (by rw [q];simp)
    subst e'
    rw [hK (by rw [q];simp)] at e;cases e)
  have hM:Mod K mg (eD aj.heap H):=⟨Dg,rE De,⟨mb,rE hb,hV⟩,let ⟨mc,h1,h2⟩:=oh;⟨mc,rE h1,h2⟩⟩
  have e0:fJ P w K mg (eD aj.heap H) callerA [] aj H:=⟨rfl,hM,λb o e=>Ke e,Nat.le_of_eq (Kc _ _),trivial,λb hb=>absurd (show b∈([]:Ae) from hb) (by simp),hok,.of_eq hg⟩
  refine codeAny_mono ((F _ Dg (rE De)).run callerA [] aj H ⟨[.ref a],[]⟩ [.ref a] [.ref a] _ _ hr e0 (vE aj (.ref a)) (.cons rfl .nil) (gr H hO hS)) λr s' h=>?_
  cases r with
  |error e=>exact (vF H e s' h).elim
  |ok fl =>
   cases fl with
   |next=>exact h.elim
   |brk=>exact h.elim
   |cont=>exact h.elim
   |ret u =>
    obtain ⟨v,H',os,bare,un,Dh,r',q⟩:=h
    have q':v=.bl true:=q
    subst q'
    obtain rfl:u=Value.bool true:=r'
    refine ⟨rfl,OldK.of_keep λb o e=>?_,os,bare⟩
    cases q:H b with
    |none=>exact un.keep b o e q (by intro z;exact absurd (show b∈([]:Ae) from z) (by simp)) (by simp)
    |some u =>
     rcases hO b with z|⟨ob,xs,z⟩
     ·rw [q] at z;cases z
     ·have z2:=un.frzs b ob _ z
      obtain ⟨e1,_⟩:=hok b _ z
      obtain ⟨e2,_⟩:=Dh b _ z2
      rw [e] at e1;cases e1
      exact e2
 cases hk:K.lookup a with
 |some o =>
  have e:=KX a o hk
  rw [ha] at e
  cases e
  refine core (λ_=>none) (λ_=>.inl rfl) (.inr ⟨_,vs.toArray,_,hk,rfl,rfl,rfl,by rw [yH,Df];exact hl,by simpa using rv⟩) (λb u z=>by have z':(none:Option HO)=some u:=z;cases z') (λb z=>absurd rfl z) λz=>absurd rfl z
 |none =>
  refine core (λb=>if b=a then some (.frz { cls:=.type "list", data:=.seq vs.toArray } (.lst (ns.map V.int))) else none) (λb=>?_) (.inl (.inr ⟨{ cls:=.type "list", data:=.seq vs.toArray },zp rfl⟩)) (λb u z=>?_) (λb z=>?_) λ_=>hk
  ·by_cases hb:b=a
   ·exact .inr ⟨_,_,zp hb⟩
   ·exact .inl (zD hb)
  ·by_cases hb:b=a
   ·have z':=(zp hb).symm.trans z
    cases z'
    subst hb
    exact ⟨ha,by rw [y3];exact hl,vs,_,rv,ha⟩
   ·have z':=(zD hb).symm.trans z
    cases z'
  ·by_cases hb:b=a
   ·exact hb
   ·exact absurd (zD hb) z
abbrev KOf {K:PySem.W.Frag}{h:Heap}(_:K.In h):PySem.W.Frag:=K
def zp5 {l:PySem.W.OpenLaw}{n k:Nat}{q:Program}{loose:Ad}{XP:(Ab)->Heap->Prop}{YP:World->Heap->Prop}{d:DefRec}{K:Params->PySem.W.Frag}{CX:World->dv}{sp:World->Sp}{x:Str}
  (hn:l.most=some n) (cX:n<=sizeLine) (n_:d.params.defaults=[]) (hr:aZ k callerA)
  (hY:∀(w:World) (h:Heap),YP w h->(K w.params).In h)
  (F:∀(w:World) (mg:Ab) (fa:Addr) (h:Heap),(K w.params).In h->h.Ns mainGlobals mg->mg d.name=some (.ref fa) ->
   ∃fd:FuncData,(∀(s:Shared) (u:Value),BindsTo s fd ⟨[u],[]⟩ [(x,u)]) /\
    ∀base:Heap,(K w.params).In base->base.Ns mainGlobals mg->bh l.prog w (K w.params) mg base (CX w) k fa fd [x] (sp w))
  (gr:∀(w:World) (H:Hp) (a:Addr) (ns:List Int),ns.length<=n->Only H->ba (K w.params) H a (ns.map V.int)->sp w [.ref a] H (λv _=>v=.bl true) λ_ _ _=>False)
  (vF:∀(w:World) (H:Hp) (s:Shared) (e:Value) (s':Shared),CX w [] H s (λ_ _ _=>False) e s'->False) :
  PySem.W.WalkO q loose XP YP l.row.toRowW d [] (λf vs=>PySem.call f vs):=by
 refine Att.attach_call hn n_ λw s₀ aj mg mb fa o pm cd doc a vs ns G Y ho hd d0 hmg og hints hlen hg=>?_
 have KX:=hY w _ Y
 obtain ⟨fd,hb,hF⟩:=F w mg fa _ KX G.T.g hmg
 exact M7 KX G.T.g G.T.b G.T.builtins G.T.nolimit hg og hints (jg hlen cX) hr hF hb (λH hO hS=>gr w H a ns hlen hO hS) λH e s'=>vF w H aj e s'
def inClass (s:Stmt) (j:Nat):Stmt:=match s with
 |.ClassDef _ _ _ body _ _ _ _ _ _ _=>body.getD j (.Pass ⟨0,0,0,0⟩)
 |_=>.Pass ⟨0,0,0,0⟩
def we (s:Stmt):Arguments:=match s with
 |.FunctionDef _ a _ _ _ _ _ _ _ _=>a
 |_=>{ posonlyargs:=[],args:=[],vararg:=none,kwonlyargs:=[],kw_defaults:=[],kwarg:=none,defaults:=[] }
def ji (s:Stmt):List Stmt:=match s with
 |.FunctionDef _ _ b _ _ _ _ _ _ _=>b
 |_=>[]
def zE (s:Stmt):Scope:=match s with
 |.FunctionDef _ _ _ _ _ _ sc _ _ _=>sc
 |_=>{ kind:=.function,names:=[],isGenerator:=false,isCoroutine:=false }
abbrev Di:dv:=λ_ _ _ _ _ _=>False
abbrev E0:XK:=λ_ _ _=>False
structure dw (K:PySem.W.Frag) (x qual:Str) (st:Stmt) (f:Addr) (fd:FuncData):Prop where
 ex:∃(oc:Value) (od:Option Addr) (kV doc pm:Value) (an:Option Addr) (aV ct:Value) (d4:Array (Option Value)),
  fd=PySem.W.fnOf x qual (we st) (ji st) (zE st) .none kV doc pm an aV ct/\K.lookup f=some ⟨oc,od,.func fd,d4⟩/\PySem.W.codeIn K aV qual=true
 kp:PySem.W.keepIn K (.ref f)=true
section
variable {P:Program} {w:World} {K:PySem.W.Frag} {mg:Ab} {base:Heap}
def dw.ok {x qual:Str}{st:Stmt}{f:Addr}{fd:FuncData}{N ps:Ad}{k:Nat}{sp:Sp}(F:dw K x qual st f fd) (S:aq N ps (zE st)) (len:∀vs H Q E,sp vs H Q E->vs.length=ps.length)
  (d5:∀(aV:Value) (A:Around) (outer:List Env) (s:Shared) (H:Hp) (vs:List V) (Q:VK) (E:XK),aZ k (A.deeper (envOfC qual (zE st) s.heap.objs.size f aV))->sp vs H Q E ->
   ∃t,ck (cZ Di P w K mg base N qual (zE st) f aV A outer s H E).nox (ji st) t/\t { nx:=λ_ H'=>Q .non H',rt:=Q } (start N vs) H):bh P w K mg base Di (k+1) f fd ps sp:=by
 obtain ⟨oc,od,kV,doc,pm,an,aV,ct,d4,rfl,lk,d0⟩:=F.ex
 refine CZ lk d0 S len λA outer s H vs Q E hr gr=>?_
 obtain ⟨t,h,q⟩:=d5 aV A outer s H vs Q E hr gr
 exact ⟨t,h.nox,q⟩
def dw.binds {x qual:Str}{st:Stmt}{f:Addr}{fd:FuncData}{ps:Ad}(F:dw K x qual st f fd)
  (h:∀(kV doc pm:Value) (an:Option Addr) (aV ct:Value) (us:Af),us.length=ps.length->bindArgs (PySem.W.fnOf x qual (we st) (ji st) (zE st) .none kV doc pm an aV ct) ⟨us,[]⟩=pure (ps.zip us)):Binds K fd ps []:=by
 obtain ⟨oc,od,kV,doc,pm,an,aV,ct,d4,rfl,lk,d0⟩:=F.ex
 exact .all (h kV doc pm an aV ct)
def iU {x qual:Str}{st:Stmt}{f:Addr}{oc:Value}{od an:Option Addr}{d4:Array (Option Value)}{kV doc pm aV ct:Value}(l:K.lookup f=some ⟨oc,od,.func (PySem.W.fnOf x qual (we st) (ji st) (zE st) .none kV doc pm an aV ct),d4⟩)
  (c:PySem.W.codeIn K aV qual=true) (k:PySem.W.keepIn K (.ref f)=true):dw K x qual st f (PySem.W.fnOf x qual (we st) (ji st) (zE st) .none kV doc pm an aV ct):=⟨⟨oc,od,kV,doc,pm,an,aV,ct,d4,rfl,l,c⟩,k⟩
end
section
variable {X:Cx}
def pv (i:Nat) {x:Str} {pos:Pos} (hN:X.N[i]?=some x:=by rfl) (hv:nP X.env.scope x:=by first|exact Or.inl rfl|exact Or.inr (Or.inl rfl)|exact Or.inr (Or.inr rfl)) (hd:(x==("__debug__" : Str))=false:=by decide)
  (d0:(x==("__classdict__" : Str))=false:=by decide):PE X (.Name x pos) (q9 i):=Cn hN hv hd d0
end
def l5 (H H':Hp):Prop:=∀b o,H b=some o->H' b=some o
def l5.free {H H':Hp}(e:l5 H H') {l:Addr}(h:H' l=Option.none):H l=Option.none:=by
 cases q:H l with
 |none=>rfl
 |some o =>
  rw [e l o q] at h
  cases h
def l5.seq {K:PySem.W.Frag}{H H':Hp}{a:Addr}{xs:List V}(e:l5 H H') (h:ba K H a xs):ba K H' a xs:=by
 rcases h with (h|⟨o,h⟩)|h
 ·exact .inl (.inl (e _ _ h))
 ·exact .inl (.inr ⟨o,e _ _ h⟩)
 ·exact .inr h
end L2
set_option maxHeartbeats 4000000
namespace L2
open PySem PySem.Spec PyProof.Rows
def Dj {l z D b:Nat}(h1:l<z) (h2:z=D) (h3:D<=b) (h4:b=l):False:=by omega
def kN {b D C:Nat}(h1:b<D) (h2:C=D+1) (h3:b=C):False:=by omega
def Dl {b e d:Nat}(h1:b<e) (h2:e<=d) (h3:d<=b):False:=by omega
def Dm {b D p:Nat}(h1:b<D) (h2:p=D) (h3:p=b):False:=by omega
theorem vG (env:Env):∀(l:List (Str×NameKind)) (acc:List (Str×Addr)),(∀p∈l,p.2=.free->∃c,env.cells.lookup p.1=some c) ->
  ∃cl,(forIn l acc (λ(x:Str×NameKind) (cs:List (Str×Addr))=>if (x.snd==NameKind.free)=true then do
            let a <-cellOf env x.fst
            pure (ForInStep.yield ((x.fst,a)::cs))
      else pure (ForInStep.yield cs)):Sem (List (Str×Addr)))=pure cl /\
   (∀y c,(y,c)∈cl->(y,c)∈acc\/(env.cells.lookup y=some c/\(y,NameKind.free)∈l))/\(∀p∈acc,p∈cl)/\(∀y,(y,NameKind.free)∈l->∃c,(y,c)∈cl)
 |[],acc,_=>⟨acc,rfl,λ_ _ h=>.inl h,λ_ h=>h,λ_ h=>nomatch h⟩
 | (n,k)::r,acc,fL=>by
  by_cases hk:k=.free
  ·subst hk
   obtain ⟨c,hc⟩:=fL (n,.free) yj rfl
   obtain ⟨cl,e,h1,h2,h3⟩:=vG env r ((n,c)::acc) λp hp=>fL p (yz _ hp)
   refine ⟨cl,?_,λy d hy=>?_,λp hp=>h2 p (yz _ hp),λy hy=>?_⟩
   ·rw [List.forIn_cons]
    simp only [beq_self_eq_true,jF]
    have:cellOf env n=pure c:=by unfold cellOf;rw [hc]
    rw [this]
    exact e
   ·rcases h1 y d hy with q|q
    ·rcases yE.mp q with q|q
     ·cases q
      exact .inr ⟨hc,yj⟩
     ·exact .inl q
    ·exact .inr ⟨q.1,yz _ q.2⟩
   ·rcases yE.mp hy with q|q
    ·cases q
     exact ⟨c,h2 _ yj⟩
    ·exact h3 y q
  ·obtain ⟨cl,e,h1,h2,h3⟩:=vG env r acc λp hp=>fL p (yz _ hp)
   refine ⟨cl,?_,λy d hy=>?_,h2,λy hy=>?_⟩
   ·rw [List.forIn_cons]
    have:(k==NameKind.free)=false:=by simpa using hk
    simp only [this,Bool.false_eq_true,g9]
    exact e
   ·rcases h1 y d hy with q|q
    ·exact .inl q
    ·exact .inr ⟨q.1,yz _ q.2⟩
   ·rcases yE.mp hy with q|q
    ·cases q
     exact absurd rfl hk
    ·exact h3 y q
theorem Dp {β:Type}{y:Str}:∀{l:List (Str×β)}{c:β},(y,c)∈l->∃d,l.lookup y=some d
 | (n,b)::r,c,h=>by
  rw [jR]
  cases e:y==n with
  |true=>exact ⟨b,rfl⟩
  |false =>
   rcases yE.mp h with q|q
   ·cases q
    simp at e
   ·exact Dp q
def Dq (env:Env) (scope:Scope) (fL:∀p∈scope.names,p.2=.free->∃c,env.cells.lookup p.1=some c) :
  ∃cl,closureFor scope env=pure cl/\(∀y c,cl.lookup y=some c->env.cells.lookup y=some c)/\(∀y,(y,NameKind.free)∈scope.names->∃c,cl.lookup y=some c):=by
 obtain ⟨cl,e,h1,_,h3⟩:=vG env scope.names [] fL
 refine ⟨cl,?_,λy c hy=>?_,λy hy=>?_⟩
 ·simp only [closureFor]
  rw [e]
  rfl
 ·rcases h1 y c (PySem.mem_of_lookup hy) with z|z
  ·cases z
  ·exact z.1
 ·obtain ⟨c,hc⟩:=h3 y hy
  exact Dp hc
structure cq (sc scope:Scope) (x:Str):Prop where
 kind:scope.kind=.function
 ncell:∀y∈scope.names,y.2 ≠ .cell
 names:∀y∈scope.names,y.2=.local->scope.names.lookup y.1=some .local/\(y.1=x\/y.1 = ".0")
 hx:scope.names.lookup x=some .local
 free:∀y∈scope.names,y.2=.free->sc.names.lookup y.1=some .cell
def iV (X:Cx) (M:Ad) (scope:Scope) (cl:List (Str×Addr)) (x:Str) (C:Addr) (af:Shared) (ai:Hp) (fp:Ae) (E:Aa):Cx :=
 { X with N:=x::M,s₀:=af,H₀:=ai,env:=compEnvC scope cl C X.env,outer:=X.stack,ex:=fp,fn:=λ_=>false,pn:=[],xe:=E }
def Hid (scope:Scope) (M N:Ad):Prop:=M.length=N.length/\∀p∈M.zip N,p.1=p.2\/p.1∉scope.names.map Prod.fst
def Hid.refl {scope:Scope}{N:Ad}:Hid scope N N:=⟨rfl,λp hp=>.inl (by
 obtain ⟨i,hi,e⟩:=qV hp
 rw [List.getElem_zip] at e
 rw [<-e])⟩
def Hid.get {scope:Scope}{M N:Ad}(h:Hid scope M N) {i:Nat}{y:Str}(e:M[i]?=some y):N[i]?=some y\/y∉scope.names.map Prod.fst:=by
 obtain ⟨hi,ei⟩:=yu.mp e
 have hj:i<N.length:=h.1▸hi
 have hm:(M[i],N[i])∈M.zip N:=jG (i:=i) (by rw [List.getElem?_zip_eq_some];exact ⟨yb hi,yb hj⟩)
 rcases h.2 _ hm with q|q
 ·exact .inl (by rw [yb hj,<-ei];exact congrArg some q.symm)
 ·exact .inr (by rw [<-ei];exact q)
def oi (X:Cx) (scope:Scope) (cl:List (Str×Addr)) (x:Str) (C:Addr) (af:Shared) (ai:Hp) (fp:Ae) (E:Aa):Cx :=
 { X with N:=x::X.N,s₀:=af,H₀:=ai,env:=compEnvC scope cl C X.env,outer:=X.stack,ex:=fp,fn:=λ_=>false,pn:=[],xe:=E }
section
variable {X:Cx} {scope:Scope} {x:Str}
def iW {env:Env}{y:Str}{k:NameKind}(h:(relabel scope env).names.lookup y=some k):∃k0,(y,k0)∈scope.names/\((k0=.free/\env.kindOf y=some .cell/\k=.cell)\/(k=k0/\¬(k0=.free/\env.scope.kind=.function/\env.kindOf y=some .cell))):=by
 have hm:=PySem.mem_of_lookup h
 obtain ⟨⟨n,k0⟩,hn,e⟩:=wP.mp hm
 by_cases hc:(k0==NameKind.free&&env.scope.kind == .function&&env.kindOf n==some .cell)=true
 ·have e':(n,NameKind.cell)=(y,k):=by rw [<-e];simp only [hc,jF]
  cases e'
  simp only [y4,beq_iff_eq] at hc
  exact ⟨_,hn,.inl ⟨hc.1.1,hc.2,rfl⟩⟩
 ·have e':(n,k0)=(y,k):=by rw [<-e];simp only [hc,g9];rfl
  cases e'
  refine ⟨_,hn,.inr ⟨rfl,λ⟨a,b,c⟩=>hc ?_⟩⟩
  simp [a,b,c]
def Dr (S:cq X.env.scope scope x) {y:Str} (h:(relabel scope X.env).names.lookup y=some .local):y=x\/y = ".0" := by
 obtain ⟨k0,hm,⟨_,_,e⟩|⟨e,_⟩⟩:=iW h
 ·cases e
 ·subst e
  exact (S.names _ hm rfl).2
def vH (S:cq X.env.scope scope x) (hk:X.env.scope.kind=.function) {y:Str}(h:(relabel scope X.env).names.lookup y=some .cell\/(relabel scope X.env).names.lookup y=some .free):(y,NameKind.free)∈scope.names:=by
 rcases h with h|h
 ·obtain ⟨k0,hm,⟨e,_,_⟩|⟨e,_⟩⟩:=iW h
  ·subst e;exact hm
  ·subst e;exact absurd rfl (S.ncell _ hm)
 ·obtain ⟨k0,hm,⟨_,_,e⟩|⟨e,n⟩⟩:=iW h
  ·cases e
  ·subst e
   exact hm
end
def M8 {P:Program}{wd:World}{B:Around}{Z:Result->Shared->Prop}{u0:Shared}{el tg iter:Expr}{sc:Scope}{ps:Pos}{iv ac:Value}{ev:Env}(J0:Nat->Shared->Prop)
  (turn:∀k u,J0 k u->wpAny (model P wd) B (pyNext iv) (λr u1=>match r with|none=>Z (.ok .next) u1|some v=>wpAny (model P wd) B (letOwnedTupleGo tg iv v) (λ_ u2 =>
   wpAny (model P wd) B (assign tg ev v) (λ_ u3=>wpAny (model P wd) B (eval el ev) (λy u4=>wpAny (model P wd) B (call (.builtin "list.append") [ac,y]) (λ_ u5=>∃m,m<k/\J0 m u5)
    (notedBy (model P wd) B ev λe u=>Z (.error e) u) u4) (notedBy (model P wd) B ev λe u=>Z (.error e) u) u3) (notedBy (model P wd) B ev λe u=>Z (.error e) u) u2) (notedBy (model P wd) B ev λe u=>Z (.error e) u) u1)
   (notedBy (model P wd) B ev λe u=>Z (.error e) u) u)
  (k0:Nat) (hW:J0 k0 u0):codeAny (model P wd) B (.compLoop (.ListComp el [⟨tg,iter,[],0⟩] sc ps) 0 iv ac ev) Z u0:=by
 refine codeAny_loop rfl J0 (λk u hJ=>wpAny_noted (E:=λe u=>Z (.error e) u) (env:=ev) (m:=compTurn (.ListComp el [⟨tg,iter,[],0⟩] sc ps) 0 iv ac ev) ?_) k0 hW
 rw [compTurn_list1]
 have one:=turn k u hJ
 refine zm (wpAny_standAt (zm (yT one (λr u1 q1=>?_) λ_ _ z=>z)))
 cases r with
 |none=>exact zK q1
 |some v =>
  refine zm (yT q1 (λ_ u2 q2=>zm (yT q2 (λ_ u3 q3=>?_) λ_ _ z=>z)) λ_ _ z=>z)
  exact zm (zm (yT q3 (λy u4 q4=>zm (yT q4 (λ_ u5 q5=>zK (zK ⟨rfl,q5⟩)) λ_ _ z=>z)) λ_ _ z=>z))
def kO (J:It) (te:TE) (U:St) (Q:VK) (H1:Hp):Prop:=∃W:Nat->Nat->List V->Hp->Prop,(∃m,W 0 m [] H1)/\∀i m ys H,W i m ys H ->
 (J.stop i H/\ys.length<=sizeLine/\∀l,H l=none->Q (.ref l) (upd H l (.lst ys))) \/
 (J.go i H/\ys.length<=sizeLine/\∀z H',J.yld i H z H'->te (some z::U) H' λy H2=>∃m',m'<m/\W (i+1) m' (ys++[y]) H2)
def vI (wi:TI) (te:TE):TE:=λU H Q=>wi U H λJ H1=>kO J te U Q H1
end L2
namespace L2
open PySem PySem.Spec PyProof.Rows PySem.W
structure dQ (sc scope:Scope) (xs:Ad):Prop where
 kind:scope.kind=.function
 ncell:∀y∈scope.names,y.2 ≠ .cell
 names:∀y∈scope.names,y.2=.local->scope.names.lookup y.1=some .local/\(y.1∈xs\/y.1 = ".0")
 free:∀y∈scope.names,y.2=.free->sc.names.lookup y.1=some .cell
def kP (X:Cx) (scope:Scope) (cl:List (Str×Addr)) (xs:Ad) (C:Addr) (af:Shared) (ai:Hp) (fp:Ae) (E:Aa):Cx :=
 { X with N:=xs++X.N,s₀:=af,H₀:=ai,env:=compEnvC scope cl C X.env,outer:=X.stack,ex:=fp,fn:=λ_=>false,pn:=[],xe:=E }
def fz (X:Cx) (M:Ad) (scope:Scope) (cl:List (Str×Addr)) (xs:Ad) (C:Addr) (af:Shared) (ai:Hp) (fp:Ae) (E:Aa):Cx :=
 { X with N:=xs++M,s₀:=af,H₀:=ai,env:=compEnvC scope cl C X.env,outer:=X.stack,ex:=fp,fn:=λ_=>false,pn:=[],xe:=E }
section
variable {X:Cx} {scope:Scope} {xs:Ad}
def Ds (S:dQ X.env.scope scope xs) {y:Str} (h:(relabel scope X.env).names.lookup y=some .local):y∈xs\/y = ".0" := by
 obtain ⟨k0,hm,⟨_,_,e⟩|⟨e,_⟩⟩:=iW h
 ·cases e
 ·subst e
  exact (S.names _ hm rfl).2
def vJ (S:dQ X.env.scope scope xs) (hk:X.env.scope.kind=.function) {y:Str}(h:(relabel scope X.env).names.lookup y=some .cell\/(relabel scope X.env).names.lookup y=some .free):(y,NameKind.free)∈scope.names:=by
 rcases h with h|h
 ·obtain ⟨k0,hm,⟨e,_,_⟩|⟨e,_⟩⟩:=iW h
  ·subst e;exact hm
  ·subst e;exact absurd rfl (S.ncell _ hm)
 ·obtain ⟨k0,hm,⟨_,_,e⟩|⟨e,n⟩⟩:=iW h
  ·cases e
  ·subst e
   exact hm
end
def iX (X:Cx) (ifs:List Expr) (t:TT):Prop:=∀(pins:Ac) (s:Shared) (U:St) (H:Hp) (Q:Bool->Hp->Prop),Inv X pins U H s->t U H Q ->
 wpAny (model X.prog X.w) X.A (forIn ifs true λc r=>if r=true then do let ok <-isTrue c X.env (eval c X.env);pure (ForInStep.yield ok) else pure (ForInStep.yield r)) (TP X pins U Q) X.xe s
def mw:TT:=λ_ H Q=>Q true H
def Dt {X:Cx}:iX X [] mw:=λpins s U H Q I h=>wpAny_tests_nil ⟨H,I,h⟩
theorem iX.nox {X:Cx}{ifs:List Expr}{t:TT}(h:iX X.nox ifs t):iX X ifs t:=λpins s U H Q I hw =>
 yT (h pins s U H Q (I.wish _) hw) (λb s' ⟨H',I',q⟩=>⟨H',I'.unwish,q⟩) λ_ _ z=>z.elim
def M9 {P:Program}{wd:World}{B:Around}{Z:Result->Shared->Prop}{u0:Shared}{el tg iter:Expr}{ifs:List Expr}{sc:Scope}{ps:Pos}{iv ac:Value}{ev:Env}(J0:Nat->Shared->Prop)
  (turn:∀k u,J0 k u->wpAny (model P wd) B (pyNext iv) (λr u1=>match r with|none=>Z (.ok .next) u1|some v=>wpAny (model P wd) B (letOwnedTupleGo tg iv v) (λ_ u2 =>
   wpAny (model P wd) B (assign tg ev v) (λ_ u3=>wpAny (model P wd) B (forIn ifs true λc r=>if r=true then do let ok <-isTrue c ev (eval c ev);pure (ForInStep.yield ok) else pure (ForInStep.yield r)) (λok u4 =>
    if ok=true then wpAny (model P wd) B (eval el ev) (λy u5=>wpAny (model P wd) B (call (.builtin "list.append") [ac,y]) (λ_ u6=>∃m,m<k/\J0 m u6)
    (notedBy (model P wd) B ev λe u=>Z (.error e) u) u5) (notedBy (model P wd) B ev λe u=>Z (.error e) u) u4 else ∃m,m<k/\J0 m u4) (notedBy (model P wd) B ev λe u=>Z (.error e) u) u3) (notedBy (model P wd) B ev λe u=>Z (.error e) u) u2) (notedBy (model P wd) B ev λe u=>Z (.error e) u) u1)
   (notedBy (model P wd) B ev λe u=>Z (.error e) u) u)
  (k0:Nat) (hW:J0 k0 u0):codeAny (model P wd) B (.compLoop (.ListComp el [⟨tg,iter,ifs,0⟩] sc ps) 0 iv ac ev) Z u0:=by
 refine codeAny_loop rfl J0 (λk u hJ=>wpAny_noted (E:=λe u=>Z (.error e) u) (env:=ev) (m:=compTurn (.ListComp el [⟨tg,iter,ifs,0⟩] sc ps) 0 iv ac ev) ?_) k0 hW
 rw [compTurn_list]
 have one:=turn k u hJ
 refine zm (wpAny_standAt (zm (yT one (λr u1 q1=>?_) λ_ _ z=>z)))
 cases r with
 |none=>exact zK q1
 |some v =>
  refine zm (yT q1 (λ_ u2 q2=>zm (yT q2 (λ_ u3 q3=>zm (yT q3 (λok u4 q4=>?_) λ_ _ z=>z)) λ_ _ z=>z)) λ_ _ z=>z)
  cases ok with
  |true=>exact zm (zm (yT q4 (λy u4 q4=>zm (yT q4 (λ_ u5 q5=>zK (zK ⟨rfl,q5⟩)) λ_ _ z=>z)) λ_ _ z=>z))
  |false=>exact zm (zK (zK ⟨rfl,q4⟩))
def h9 (J:It) (gt:TG) (tt:TT) (te:TE) (n:Nat) (U:St) (Q:VK) (H1:Hp):Prop:=∃W:Nat->Nat->List V->Hp->Prop,(∃m,W 0 m [] H1)/\∀i m ys H,W i m ys H ->
 (J.stop i H/\ys.length<=sizeLine/\∀l,H l=none->Q (.ref l) (upd H l (.lst ys))) \/
 (J.go i H/\ys.length<=sizeLine/\∀z H',J.yld i H z H'->gt z (List.replicate n none++U) H' λau H1=>∃own:St,au=own++U/\own.length=n/\tt au H1 λb H2 =>
  if b=true then te au H2 λy H3=>∃m',m'<m/\W (i+1) m' (ys++[y]) H3 else ∃m',m'<m/\W (i+1) m' ys H2)
def Du (wi:TI) (gt:TG) (tt:TT) (te:TE) (n:Nat):TE:=λU H Q=>wi U H λJ H1=>h9 J gt tt te n U Q H1
def Dv {X:Cx} {elt iter tg:Expr} {ifs:List Expr} {xs:Ad} {pos:Pos} {scope:Scope} {wi:TI} {gt:TG} {tt:TT} {te:TE} {M:Ad} (hc:X.calm=true) (S:dQ X.env.scope scope xs) (eN:Hid scope M X.N) (cE:((".0" : Str)::(xs++M)).Nodup)
  (hi:PI X tg iter wi) (vK:∀cl C af ai fp E,PG (fz X M scope cl xs C af ai fp E) tg gt) (vL:∀cl C af ai fp,iX (fz X M scope cl xs C af ai fp (λ_ _=>False)) ifs tt) (he:∀cl C af ai fp,PE (fz X M scope cl xs C af ai fp (λ_ _=>False)) elt te)
  (hs:∀v,foldedSetIterable iter X.env v=pure v:=by intro _;rfl):PE X (.ListComp elt [⟨tg,iter,ifs,0⟩] scope pos) (Du wi gt tt te xs.length):=by
 intro pins s U H Q I h
 have hN:(xs++M).Nodup:=(wb.mp cE).2
 have vM:(".0" : Str)∉M:=λz=>(wb.mp cE).1 (yX _ z)
 obtain ⟨cl,kQ,cQ,iY⟩:=Dq X.env scope λp hp hf=>I.ok.has p.1 (.inl (S.free p hp hf))
 have kR:X.env.scope.kind=.function:=I.ok.kind
 rw [eval_ListComp]
 refine wpAny_comprehension_free (use:=none) rfl hs kQ S.kind (λy hy hl=>(S.names y hy hl).1) ?_
 refine aR (hi pins s U H _ I h) λv s1 h1=>aR h1 λrj af h2=>?_
 obtain ⟨it,fp,tn,J,H2,e,I2,T,av,f2,W,⟨m0,w0⟩,turn⟩:=h2
 subst e
 refine g8 (wpAny_newFunctionEnv S.ncell (by intro y hy;simp at hy) (λaw aB az=>?_) S.kind)
 dsimp only at aB az ⊢
 generalize gu:af.heap.push { cls:=.type "list", dict:=none,data:=.seq ([]:Af).toArray }=G2 at aB az ⊢
 have hC:G2.objs.size=af.heap.objs.size+1:=by rw [<-gu,Heap.size_push]
 have gv:af.heap.objs.size≠G2.objs.size:=by rw [hC];exact yw (wy _)
 have Dw:af.heap.objs.size<=G2.objs.size:=by rw [hC];exact Nat.le_succ _
 have old:∀b o,af.heap.get? b=some o->aw.get? b=some o:=λb o e=>by
  have hb:b≠G2.objs.size:=by rw [hC];exact yw (Nat.lt_succ_of_lt (yc e))
  exact az.extBut b o hb (zU _ (gu▸zU _ e))
 have gX:aw.get? af.heap.objs.size=some { cls:=.type "list", data:=.seq (#[]:Array Value) 0 }:=az.extBut _ _ gv (zU _ (gu▸yK _ rfl))
 generalize hD:af.heap.objs.size=D at *
 generalize hCC:G2.objs.size=C at *
 have dS:∀{b:Nat} {o:Obj},af.heap.get? b=some o->b<D:=λe=>by rw [<-hD];exact yc e
 have nofr:∀b,D<=b->b∉cN X.stack:=λb hb z=>by
  rcases yE.mp (I2.stkSub b z) with q|q
  ·exact Dj I2.lt hD hb q
  ·exact I2.nofs (by rw [hD];exact hb) q
 let E':Aa:=notedBy (model X.prog X.w) X.A (compEnvC scope cl C X.env) λe s'=>compPost (model X.prog X.w) X.A X.xe none (EP X pins U Q) (.ref D) C (.error e) s'
 let Y:Cx:=fz X M scope cl xs C af H2 fp E'
 have dj:∀b∈fp,cO X pins H2 b:=f2
 have kS:Y.Ok:=by
  refine ⟨I2.ok.mod,S.kind,I2.ok.glob,I2.ok.blt,(by show af.heap.objs.size<=C;omega),λy z c h1 h2=>?_,λy hy=>?_,λy c hf=>?_,I2.ok.hd,I2.ok.frames,.inl rfl,λb hb=>?_,I2.bs,jg I2.ok.bsz I2.sz,λb o hb hx=>?_,λb hb hx=>?_,I2.stack,I2.stkFree⟩
  ·exact I2.ok.inj y z c (cQ y c h1) (cQ z c h2)
  ·exact iY y (vJ S kR hy)
  ·cases hf
  ·refine ⟨λz=>?_,λy c hy=>(dj b hb).2.2.2.2.1 y c (cQ y c hy)⟩
   obtain ⟨o,ho,_⟩:=T.obj 0 _ av b hb
   exact kN (dS ho) hC z
  ·rcases (dj b hx).2.2.2.1 with z|z
   ·exact I2.ok.noex b o hb z
   ·exact Dl (yc hb) I2.ok.bsz z
  ·rcases yE.mp (I2.stkSub b hx) with q|q
   ·exact (dj b hb).2.1 q
   ·exact (dj b hb).2.2.1 q
 have fg:∀{s':Shared} {H':Hp} {o:Obj},s'.heap.get? D=some o->H' D=none->(∀v,o.data ≠ .cell v)->∀p∈[(D,o)],s'.heap.get? p.1=some p.2/\H' p.1=none/\p.1≠Y.env.locals/\p.1∉Y.fs/\∀v,p.2.data ≠ .cell v:=λ{s' H' o} e1 e2 e3 p hp=>by
  have ep:p=(D,o):=by simpa using hp
  subst ep
  exact ⟨e1,e2,gv,nofr D (z0 _),e3⟩
 have I0:Inv Y [(D,{ cls:=.type "list", data:=.seq (#[]:Array Value) 0 })] (List.replicate xs.length none++U) H2 { af with heap:=aw,toks:=af.toks+([]:List (Str×Value)).length }:=by
  have fresh:∀b,D<=b->H2 b=none:=λb hb=>I2.hok.fresh (by rw [hD];exact hb)
  refine ⟨kS,rfl,I2.bare,Un.kept old,⟨_,aB,λi y v e1 e2 e3=>?_⟩,λy c hy=>?_,fresh C (by omega),λy c hy=>I2.freeC y c (cQ y c hy),λp hp=>fg gX (fresh D (z0 _)) (λv z=>by cases z) p hp,I2.hok.kept old,?_⟩
  ·by_cases bD:i<xs.length
   ·rw [iK (by simpa using bD),List.getElem?_replicate] at e2
    simp [bD] at e2
   ·obtain ⟨j,rfl⟩:∃j,i=xs.length+j:=⟨i-xs.length,by omega⟩
    have oj:M[j]?=some y:=by
     have:(xs++M)[xs.length+j]?=some y:=e1
     rw [iL (by omega)] at this
     simpa using this
    have om:X.N[j]?=some y:=by
     rcases eN.get oj with q|q
     ·exact q
     ·refine absurd ?_ q
      rcases e3 with e3|e3|e3<;>(obtain ⟨k0,hm,_⟩:=iW e3;exact wP.mpr ⟨_,hm,rfl⟩)
    have mx:U[j]?=some (some v):=by
     rw [iL (by simp)] at e2
     simpa using e2
    have iZ:¬(y∈xs\/y = ".0"):=λz=>by
     have hm:=jG oj
     rcases z with z|z
     ·exact (List.nodup_append.mp hN).2.2 y z y hm rfl
     ·rw [z] at hm
      exact vM hm
    have cL:(y,NameKind.free)∈scope.names:=by
     rcases e3 with e3|e3|e3
     ·exact absurd (Ds S e3) iZ
     ·exact vJ S kR (.inl e3)
     ·exact vJ S kR (.inr e3)
    have ou:X.env.scope.names.lookup y=some .cell:=S.free _ cL rfl
    obtain ⟨m,hn,hl⟩:=I2.loc
    obtain ⟨u,r,l⟩:=hl j y v om mx (.inr (.inl ou))
    refine ⟨u,r,?_⟩
    rcases l with ⟨hk,_⟩|⟨_,c,iO,dC⟩
    ·have:X.env.kindOf y=some .cell:=ou
     rw [this] at hk;cases hk
    ·obtain ⟨c',cA⟩:=iY y cL
     have:=cQ y c' cA
     rw [iO] at this
     cases this
     refine .inr ⟨?_,c,cA,?_⟩
     ·rcases e3 with e3|e3|e3
      ·exact absurd (Ds S e3) iZ
      ·exact .inl e3
      ·exact .inr e3
     ·obtain ⟨o,ho,hd⟩:=dC
      exact ⟨o,old c o ho,hd⟩
  ·obtain ⟨v,o,ho,hd⟩:=I2.cell y c (cQ y c hy)
   exact ⟨v,o,old c o ho,hd⟩
  ·show (List.replicate xs.length none++U).length=(xs++M).length
   simp [I2.len,eN.1]
 have kT:∀{pl:Ac} {H':Hp},(∀p∈pl,p.1=D)->(∀b∈fp,H' b=none)->∀b∈fp,cO Y pl H' b:=λ{pl H'} bu hn b hb=>by
  obtain ⟨o,ho,_⟩:=T.obj 0 _ av b hb
  refine ⟨hn b hb,λz=>?_,?_,.inl hb,(kS.exf b hb).2,λp hp z=>?_⟩
  ·exact kN (dS ho) hC z
  ·exact kS.exfs b hb
  ·have hp':p∈pl:=by simpa [Y,fz] using hp
   exact Dm (dS ho) (bu p hp') z
 have loop:codeAny (model X.prog X.w) X.A (.compLoop (.ListComp elt [⟨tg,iter,ifs,0⟩] scope pos) 0 (.ref it) (.ref D) (compEnvC scope cl C X.env))
   (compPost (model X.prog X.w) X.A X.xe none (EP X pins U Q) (.ref D) C) { af with heap:=aw,toks:=af.toks+([]:List (Str×Value)).length }:=by
  refine M9 (λn s'=>∃i ys H' its k,Inv Y [(D,{ cls:=.type "list", data:=.seq (its:Af).toArray k })] (List.replicate xs.length none++U) H' s'/\Vals ys its/\tn i s'.heap/\(∀b∈fp,H' b=none)/\W i n ys H') ?_ m0
   ⟨0,[],H2,[],0,I0,.nil,T.keep 0 _ _ av (λb hb o e=>old b o e),λb hb=>(dj b hb).1,w0⟩
  rintro n s3 ⟨i,ys,H3,its,k,I3,rv,bb,iR,w3⟩
  have fM:∀{o:Obj},∀p∈[(D,o)],p.1=D:=λ{o} p hp=>by
   have ep:p=(D,o):=by simpa using hp
   rw [ep]
  obtain ⟨gD,nD,_,_,_⟩:=I3.pin (D,_) (yX _ yj)
  rcases turn i n ys H3 w3 with ⟨stop,hz,q⟩|⟨go,hz,step⟩
  ·refine aR (T.done Y rfl rfl rfl hc i _ s3 _ H3 E' I3 (kT fM iR) bb stop) λr s4 ⟨hr,I4⟩=>?_
   subst hr
   obtain ⟨vN,kU,_,_,_⟩:=I4.pin (D,_) (yX _ yj)
   obtain ⟨m4,vO,_⟩:=id I4.loc
   refine ⟨m4,vO,λh' dm=>?_⟩
   refine ⟨.ref D,upd H3 D (.lst ys),?_,rfl,q D kU⟩
   have gn:∀{b:Addr} {u:HO},H3 b=some u->b≠C:=λe z=>by
    have:H3 C=none:=I4.free
    rw [z,this] at e;cases e
   refine I2.call' (s':={ s4 with heap:=h' }) (ch:=fp) (H':=upd H3 D (.lst ys)) I4.os ?_ ?_ I4.bare λb hb=>⟨(dj b hb).2.2.2.1,(dj b hb).2.1,(dj b hb).2.2.2.2.1,(dj b hb).2.2.2.2.2⟩
   ·have B:=I4.base
    have kW:∀{b:Nat} {o:Obj},af.heap.get? b=some o->b≠C:=λe z=>kN (dS e) hC z
    have gw:∀{b:Addr} {u:HO},H3 b=some u->b≠D:=λe z=>by rw [z,kU] at e;cases e
    refine ⟨λb o e nn hb hx=>(dm.2 b (kW e)).trans (B.keep b o e nn hb hx),λb o e nn hb hx=>?_,λb o e nn hx=>?_,λb o e hx=>?_,λb xs e=>?_,λb o u e=>?_,λb ps e=>?_⟩
    ·obtain ⟨sl,z⟩:=B.slot b o e nn hb hx
     exact ⟨sl,(dm.2 b (kW e)).trans z⟩
    ·have vP:b≠D:=yw (dS e)
     rw [zO vP]
     exact B.free b o e nn hx
    ·obtain ⟨o',z⟩:=B.there b o e hx
     exact ⟨o',(dm.2 b (kW e)).trans z⟩
    ·have z:=B.tups b xs e
     rw [zO (gw z)];exact z
    ·have z:=B.frzs b o u e
     rw [zO (gw z)];exact z
    ·obtain ⟨more,z⟩:=B.tbls b ps e
     exact ⟨more,by rw [zO (gw z)];exact z⟩
   ·intro a o e
    by_cases ha:a=D
    ·subst ha
     rw [yv] at e
     cases e
     exact ⟨hz,its,k,rv,(dm.2 _ gv).trans vN⟩
    ·rw [zO ha] at e
     have eG:∀b u,H3 b=some u->(upd H3 D (.lst ys)) b=some u:=λb u z=>by
      have hb:b≠D:=λw=>by rw [w,kU] at z;cases z
      rw [zO hb];exact z
     refine (I4.hok a o e).stay (λb u hb z=>(dm.2 b ?_).trans z) (λb z=>eG b _ z) λb xs z=>eG b _ z
     rcases hb with hb|hb
     ·rw [hb];exact gn e
     ·exact gn hb
  ·refine aR (T.item Y rfl rfl rfl hc i _ s3 _ H3 E' I3 (kT fM iR) bb go) λr s4 ⟨u,hr,h4⟩=>?_
   subst hr
   refine aR h4 λ_ s5 ⟨z,H5,I5,r5,y5,cW,nS⟩=>?_
   have nU:=I5.pinned (kT fM nS) (T.obj _ _ cW)
   have kX:PG Y tg gt:=vK cl C af H2 fp E'
   have vQ:PE Y elt te:=PE.nox (X:=Y) (he cl C af H2 fp)
   have M_:iX Y ifs tt:=iX.nox (X:=Y) (vL cl C af H2 fp)
   refine aR (kX _ s5 (List.replicate xs.length none++U) H5 z u _ nU r5 (step z _ y5)) λ_ s6 ⟨aF,H6,I6,own,e1,e2,q6⟩=>?_
   subst e1
   have wk:∀(j:Nat) v,(List.replicate xs.length none++U)[j]?=some (some v)->(own++U)[j]?=some (some v):=λj v e=>by
    by_cases bD:j<xs.length
    ·rw [iK (by simpa using bD),List.getElem?_replicate] at e
     simp [bD] at e
    ·rw [iL (by simp;omega)] at e
     rw [iL (by omega),e2]
     simpa using e
   have wl:(List.replicate xs.length none++U).length=(own++U).length:=by simp [e2]
   refine aR (M_ _ s6 _ _ _ I6 q6) λb s7 ⟨H7,I7,q7⟩=>?_
   cases b with
   |true =>
    refine aR (vQ _ s7 _ _ _ I7 q7) λuy s7 ⟨y,H7,I7,ry,m',hm,w7⟩=>?_
    obtain ⟨oy,kY,_,_,_⟩:=I7.pin (D,_) (yX _ (iI _ yj))
    refine wpAny_list_append_plain ⟨k,oy⟩ (λh' bu dm=>?_) (by rw [yH,<-rv.length];exact hz)
    obtain ⟨k',oz⟩:=bu
    have I8:Inv Y [] (own++U) H7 { s7 with heap:=h' }:=(I7.pins_of (pins':=[]) (λp hp=>nomatch hp)).turned (it:=D) (t':=s7.toks) (λb o hb e=>(dm.2 b hb).trans e) kY gv
     (.inr (by show af.heap.objs.size<=D;omega)) (λa c hy oA=>by
      obtain ⟨v',o',ho',_⟩:=I2.cell a c (cQ a c hy)
      exact yw (dS ho') oA) (λp hp=>by simp [Y,fz] at hp)
    have I9:Inv Y [] (List.replicate xs.length none++U) H7 { s7 with heap:=h' }:=I8.weak wl wk
    have dG:∀b∈fp,∃o,s5.heap.get? b=some o/\s7.heap.get? b=some o/\H7 b=none:=λb hb=>by
     obtain ⟨o,e,_⟩:=T.obj _ _ cW b hb
     have q:=I7.pin (b,o) (yX _ (yX _ (nR hb e)))
     exact ⟨o,e,q.1,q.2.1⟩
    have vR:∀b∈fp,b≠D:=λb hb=>by
     obtain ⟨o,ho,_⟩:=T.obj 0 _ av b hb
     exact yw (dS ho)
    have eT:its.toArray.push uy=(its++[uy]).toArray:=by simp
    rw [eT] at oz
    refine ⟨m',hm,i+1,ys++[y],H7,its++[uy],k',I9.pins_of (fg oz kY λv e=>by cases e),rv.append (.cons ry .nil),T.keep (i+1) _ _ cW λb hb o e=>?_,λb hb=>?_,w7⟩
    ·obtain ⟨o',e1,e2,_⟩:=dG b hb
     rw [e] at e1
     cases e1
     exact (dm.2 b (vR b hb)).trans e2
    ·obtain ⟨_,_,_,q⟩:=dG b hb
     exact q
   |false =>
    obtain ⟨m',hm,w7⟩:=q7
    obtain ⟨oy,kY,_,_,_⟩:=I7.pin (D,_) (yX _ (iI _ yj))
    have I9:Inv Y [] (List.replicate xs.length none++U) H7 s7:=(I7.pins_of (pins':=[]) (λp hp=>nomatch hp)).weak wl wk
    have dG:∀b∈fp,∃o,s5.heap.get? b=some o/\s7.heap.get? b=some o/\H7 b=none:=λb hb=>by
     obtain ⟨o,e,_⟩:=T.obj _ _ cW b hb
     have q:=I7.pin (b,o) (yX _ (yX _ (nR hb e)))
     exact ⟨o,e,q.1,q.2.1⟩
    refine ⟨m',hm,i+1,ys,H7,its,k,I9.pins_of (fg oy kY λv e=>by cases e),rv,T.keep (i+1) _ _ cW λb hb o e=>?_,λb hb=>?_,w7⟩
    ·obtain ⟨o',e1,e2,_⟩:=dG b hb
     rw [e] at e1
     cases e1
     exact e2
    ·obtain ⟨_,_,_,q⟩:=dG b hb
     exact q
 exact codeAny_compStart_list loop (T.self X.A 0 _ _ _ (T.keep 0 _ _ av (λb hb o e=>old b o e)) loop)
def Na {X:Cx} {elt iter tg:Expr} {ifs:List Expr} {xs:Ad} {pos:Pos} {scope:Scope} {wi:TI} {gt:TG} {tt:TT} {te:TE} {N:Ad} (hc:X.calm=true) (S:dQ X.env.scope scope xs) (eN:X.N=N) (cE:((".0" : Str)::(xs++N)).Nodup)
  (hi:PI X tg iter wi) (vK:∀cl C af ai fp E,PG (kP X scope cl xs C af ai fp E) tg gt) (vL:∀cl C af ai fp,iX (kP X scope cl xs C af ai fp (λ_ _=>False)) ifs tt) (he:∀cl C af ai fp,PE (kP X scope cl xs C af ai fp (λ_ _=>False)) elt te)
  (hs:∀v,foldedSetIterable iter X.env v=pure v:=by intro _;rfl):PE X (.ListComp elt [⟨tg,iter,ifs,0⟩] scope pos) (Du wi gt tt te xs.length) :=
 Dv (M:=X.N) hc S Hid.refl (by rw [eN];exact cE) hi vK vL he hs
def Dx {X:Cx} {elt iter:Expr} {x:Str} {px pos:Pos} {scope:Scope} {wi:TI} {te:TE} {M:Ad} (hc:X.calm=true) (S:cq X.env.scope scope x) (eN:Hid scope M X.N) (cE:((".0" : Str)::x::M).Nodup)
  (hi:PI X (.Name x px) iter wi) (he:∀cl C af ai fp,PE (iV X M scope cl x C af ai fp (λ_ _=>False)) elt te)
  (hs:∀v,foldedSetIterable iter X.env v=pure v:=by intro _;rfl):PE X (.ListComp elt [⟨.Name x px,iter,[],0⟩] scope pos) (vI wi te):=by
 have hN:([x]++M).Nodup:=(wb.mp cE).2
 have S':dQ X.env.scope scope [x]:=⟨S.kind,S.ncell,λy hy h=>⟨(S.names y hy h).1,(S.names y hy h).2.imp (λe=>by rw [e];exact List.mem_singleton_self _) id⟩,S.free⟩
 have kX:∀cl C af ai fp E,PG (fz X M scope cl [x] C af ai fp E) (.Name x px) (iQ 0):=λcl C af ai fp E=>kJ (X:=fz X M scope cl [x] C af ai fp E) (i:=0) hN rfl (.inl (iH S.hx)) (.inr (iH S.hx))
 have e:∀U Q,(λJ H1=>kO J te U Q H1)=λJ H1=>h9 J (iQ 0) mw te 1 U Q H1:=λU Q=>by
  funext J H1
  exact propext (exists_congr λW=>and_congr Iff.rfl (forall_congr' λi=>forall_congr' λm=>forall_congr' λys=>forall_congr' λH=>imp_congr Iff.rfl (or_congr Iff.rfl (and_congr Iff.rfl (and_congr Iff.rfl (forall_congr' λz=>forall_congr' λH'=>imp_congr Iff.rfl
   ⟨λh=>⟨[some z],rfl,rfl,h⟩,λ⟨_,_,_,h⟩=>h⟩))))))
 intro pins s U H Q I h
 refine Dv (te:=te) (tt:=mw) hc S' eN cE hi kX (λcl C af ai fp=>Dt) (λcl C af ai fp=>he cl C af ai fp) hs pins s U H Q I ?_
 show wi U H λJ H1=>h9 J (iQ 0) mw te 1 U Q H1
 rw [<-e]
 exact h
end L2
namespace L2
open PySem PySem.Spec PyProof.Rows
def Dy {X:Cx} {elt iter:Expr} {x:Str} {px pos:Pos} {scope:Scope} {wi:TI} {te:TE} {N:Ad} (hc:X.calm=true) (S:cq X.env.scope scope x) (eN:X.N=N) (cE:((".0" : Str)::x::N).Nodup)
  (hi:PI X (.Name x px) iter wi) (he:∀cl C af ai fp,PE (oi X scope cl x C af ai fp (λ_ _=>False)) elt te)
  (hs:∀v,foldedSetIterable iter X.env v=pure v:=by intro _;rfl):PE X (.ListComp elt [⟨.Name x px,iter,[],0⟩] scope pos) (vI wi te) :=
 Dx hc S Hid.refl (eN▸cE) hi he hs
def vS (z:Str):It:=⟨λi _=>i<z.cps.size,λi H v H'=>H'=H/\∃c,z.cps[i]?=some c/\v=.str ⟨#[c]⟩,λi _=>z.cps.size<=i⟩
def Dz {P:Program} {w:World} {K:PySem.W.Frag} {tg:Expr} (z:Str) (t:Tok) (it:Addr) (ty:String) (iS:ty = "str_ascii_iterator" \/ ty = "str_iterator"):Turn P w K tg (vS z) [it] it (λi h=>h.IsStrIter it ty z t i) where
 mem:=by simp
 obj:=λi h st b hb=>by
  have e:b=it:=by simpa using hb
  subst e
  obtain ⟨o,e,c,d⟩:=st
  exact ⟨o,e,λv z=>by rw [d] at z;cases z⟩
 keep:=λi h h' st k=>by
  obtain ⟨o,e,r⟩:=st
  exact ⟨o,k it (by simp) o e,r⟩
 item:=by
  intro X hP hw hK hc i pins s U H E I hf st hg
  subst hP hw hK
  obtain ⟨f0,f1,f2,f3,f4,f5⟩:=hf it (by simp)
  have W:Walks X.prog X.w X.A it [it] [it] z.cps.size (SignAt z) (λi h=>h.IsStrIter it ty z t i):=by
   rcases iS with e|e
   ·rw [e];exact Walks.strAscii (I.ok.hd hc) it z t
   ·rw [e];exact Walks.strWide (I.ok.hd hc) it z t
  refine W.item i s _ _ hg st λv h' tk hv aP kk=>?_
  obtain ⟨c,u,Nb,rfl⟩:=hv
  have I1:Inv X pins U H { s with heap:=h',toks:=tk }:=I.turned (λb o hb e=>kk b o (by simpa using hb) e) f0 f1 f3 f4 f5
  obtain ⟨o,e,cc,d⟩:=id aP
  exact ⟨_,rfl,mj (s:={ s with heap:=h',toks:=tk }) e cc d (by rcases iS with e|e<;>rw [e]<;>decide) ⟨.str ⟨#[c]⟩,H,I1,⟨u,rfl⟩,⟨rfl,c,Nb,rfl⟩,aP,λb hb=>(hf b hb).1⟩⟩
 done:=by
  intro X hP hw hK hc i pins s U H E I hf st hg
  subst hP hw hK
  obtain ⟨f0,f1,f2,f3,f4,f5⟩:=hf it (by simp)
  have hn:z.cps[i]?=none:=by
   have Nc:z.cps.size<=i:=hg
   simpa using Nc
  rcases iS with e|e
  ·rw [e] at st
   exact wpAny_pyNext_ascii_end (I.ok.hd hc) st hn λh' eb=>⟨rfl,I.turned (t':=s.toks) (λb o hb e=>eb b o hb e) f0 f1 f3 f4 f5⟩
  ·rw [e] at st
   exact wpAny_pyNext_wide_end (I.ok.hd hc) st hn λh' eb=>⟨rfl,I.turned (t':=s.toks) (λb o hb e=>eb b o hb e) f0 f1 f3 f4 f5⟩
 self:=λA i s Q E st h=>by
  rcases iS with e|e
  ·rw [e] at st;exact wpAny_pyIter_striter_ascii st h
  ·rw [e] at st;exact wpAny_pyIter_striter_wide st h
section
variable {X:Cx}
def Nd:hU X (λx lo hi H Q=>∃z,x=.str z/\z.length<=sizeLine/\Q (.str (Txt.slice z lo hi)) H):=by
 intro pins s U H x v vl vu lo hi sl Q I rx hs pl pu h
 obtain ⟨z,rfl,hz,q⟩:=h
 obtain ⟨t,rfl⟩:=rx
 refine ⟨"str", _,F.slot_str_getitem.lookup,typeIs_str _ _ _,?_⟩
 have fin:∀t' k,EP X pins U Q (.str (Txt.slice z lo hi) t') { s with toks:=k }:=λt' k=>⟨.str _,H,I.tok _,⟨_,rfl⟩,q⟩
 cases pl with
 |none =>
  cases pu with
  |none=>exact wpAny_getItem_str_slice (l:=none) (u:=none) (st:=none) hs rfl (post_val_or_str ⟨jg (Txt.slice_le z _ _) hz,fin⟩)
  |int j uj=>exact wpAny_getItem_str_slice (l:=none) (u:=some (j,uj)) (st:=none) hs rfl (post_val_or_str ⟨jg (Txt.slice_le z _ _) hz,fin⟩)
 |int i ui =>
  cases pu with
  |none=>exact wpAny_getItem_str_slice (l:=some (i,ui)) (u:=none) (st:=none) hs rfl (post_val_or_str ⟨jg (Txt.slice_le z _ _) hz,fin⟩)
  |int j uj=>exact wpAny_getItem_str_slice (l:=some (i,ui)) (u:=some (j,uj)) (st:=none) hs rfl (post_val_or_str ⟨jg (Txt.slice_le z _ _) hz,fin⟩)
theorem DA:∀{bs:List Bool}{us:Af},Vals (bs.map V.bl) us->us=bs.map Value.bool
 |[],us,r=>by rw [List.map_nil] at r;cases r;rfl
 |b::bs,us,r=>by
  rw [ye] at r
  cases r with
  |cons r1 r2 =>
   have e:_=Value.bool b:=r1
   rw [ye,<-DA r2,e]
theorem dn:∀{ys:Ad}{us:Af},Vals (ys.map V.str) us->StrsAre us ys
 |[],us,r=>by rw [List.map_nil] at r;cases r;exact .nil
 |y::ys,us,r=>by
  rw [ye] at r
  cases r with
  |cons r1 r2 =>
   obtain ⟨t,e⟩:=r1
   subst e
   exact .cons y t (dn r2)
def Nf (hc:X.calm=true):bt X (.builtin "all") (λxs H Q=>∃(a:Addr) (bs:List Bool),xs=[.ref a]/\ba X.K H a (bs.map V.bl)/\Q (.bl (bs.all id)) H):=by
 intro pins s U H xs us Q I r h
 obtain ⟨a,bs,rfl,hl,q⟩:=h
 obtain ⟨u,rfl,ru⟩:=wQ r
 cases ru
 obtain ⟨its,rv,pl,hz⟩:=I.list hl
 have e:=DA rv
 subst e
 refine call_all_walk (wpAny_pyIter_list pl.isList ?_)
 have hh:X.A.in1.handled=none:=I.ok.hd hc
 have bD:a<s.heap.objs.size:=by
  obtain ⟨o,e,_⟩:=pl.isList
  exact yc e
 have oB:a≠s.heap.objs.size:=yw bD
 refine ⟨s.heap.objs.size,_,_,_,_,_,λi=>(bs[i]?).getD true,rfl,Walks.list hh s.heap.objs.size a oB (bs.map Value.bool).toArray,⟨⟨_,yK _ rfl,rfl,rfl⟩,pl.isList.at λo e=>zU _ e⟩,?_,λh' tk kk=>?_⟩
 ·intro i v s' Q' E' hp hq
  have hp':(bs.map Value.bool)[i]?=some v:=by simpa using hp
  rw [yP] at hp'
  cases eb:bs[i]? with
  |none=>rw [eb] at hp';cases hp'
  |some b =>
   rw [eb] at hp'
   have:Value.bool b=v:=Option.some.inj hp'
   subst this
   refine wO ?_
   dsimp only at hq
   rw [eb] at hq
   exact hq
 ·have e1:(List.range (bs.map Value.bool).toArray.size).all (λi=>(bs[i]?).getD true)=bs.all id:=by
   rw [yH,y3]
   rw [Bool.eq_iff_iff,List.all_eq_true,List.all_eq_true]
   constructor
   ·intro hh b hb
    obtain ⟨i,hi,e⟩:=qV hb
    have:=hh i (List.mem_range.mpr hi)
    rw [yb hi,e] at this
    exact this
   ·intro hh i hi
    have eI:=List.mem_range.mp hi
    rw [yb eI]
    exact hh _ (qU eI)
  rw [e1]
  refine ⟨.bl (bs.all id),H,?_,rfl,q⟩
  exact I.kept (t':=tk) λb o e=>kk b o (λz=>by
   have z':b=s.heap.objs.size:=by simpa using z
   exact absurd (yc e) (by rw [z'];exact Nat.lt_irrefl _)) (zU _ e)
def Ng:vB X "str.join" (λx xs H Q=>∃(z:Str) (a:Addr) (ys:Ad),x=.str z/\xs=[.ref a]/\ba X.K H a (ys.map V.str)/\(ys.map (·.length)).sum+ys.length*z.length<=16777216/\Q (.str (Txt.join z ys)) H):=by
 intro pins s U H x xs v us Q I rx r h
 obtain ⟨z,a,ys,rfl,rfl,hl,hz,q⟩:=h
 obtain ⟨t,rfl⟩:=rx
 obtain ⟨u,rfl,ru⟩:=wQ r
 cases ru
 obtain ⟨its,rv,pl,_⟩:=I.list hl
 exact join_list pl.isList (by simpa using dn rv) hz λt' k=>⟨.str _,H,I.tok _,⟨_,rfl⟩,q⟩
def fN:bt X (.builtin "isinstance") (λxs H Q=>∃x n t b,xs=[x,.ty n]/\cP X.K H x t/\PySem.W.kitOne X.K t (.type n)=some b/\Q (.bl b) H):=by
 intro pins s U H xs us Q I r h
 obtain ⟨x,n,t,b,rfl,ty,e,q⟩:=h
 obtain ⟨u,w',rfl,ru,rw'⟩:=nY r
 have e2:w'=Value.type n:=rw'
 subst e2
 exact CN I ru ty e λtk=>⟨.bl b,H,I.tok _,rfl,q⟩
def Nh:bt X (.type "int") (λxs H Q=>∃z n,xs=[.str z]/\PySem.intText? z=some n/\z.length<=640/\Q (.int n) H):=by
 intro pins s U H xs us Q I r h
 obtain ⟨z,n,rfl,hn,hz,q⟩:=h
 obtain ⟨u,rfl,t,rfl⟩:=wQ r
 exact PySem.W.KIN.call_text hn hz ⟨.int n,H,I.tok _,⟨_,rfl⟩,q⟩
def Ni:bq X (compareOp .In) (λx y H Q=>∃(c:Nat) (z:Str),x=.str ⟨#[c]⟩/\y=.str z/\Q (.bl (decide (c∈z.cps.toList))) H):=by
 intro pins s U H x y v u Q I rx ry h
 obtain ⟨c,z,rfl,rfl,q⟩:=h
 refine Lp pins s U H _ _ v u Q I rx ry ⟨_,_,rfl,rfl,?_⟩
 rw [StrLaws.found_one]
 exact q
end
section
variable {κ:Type} [DecidableEq κ]
def cH (kvs:List (κ×V)) (k:κ):Option V:=(kvs.find? λkv=>decide (kv.1=k)).map (·.2)
def putK (kvs:List (κ×V)) (k:κ) (v:V):List (κ×V) :=
 if (kvs.any λkv=>decide (kv.1=k))=true then kvs.map (λkv=>if kv.1=k then (kv.1,v) else kv) else kvs++[(k,v)]
def dropK (kvs:List (κ×V)) (k:κ):List (κ×V):=kvs.filter λkv=>decide (kv.1≠k)
def rF {p:κ×V}{r:List (κ×V)}{k:κ}(e:p.1=k):cH (p::r) k=some p.2:=by simp [cH,List.find?_cons,e]
def rG {p:κ×V}{r:List (κ×V)}{k:κ}(e:¬p.1=k):cH (p::r) k=cH r k:=by simp [cH,List.find?_cons,e]
theorem DB (k:κ):∀kvs:List (κ×V),(kvs.any λkv=>decide (kv.1=k))=(cH kvs k).isSome
 |[]=>rfl
 |p::r=>by
  rw [List.any_cons]
  by_cases e:p.1=k
  ·simp only [rF e,kG e,Bool.true_or,Option.isSome_some]
  ·rw [rG e,wc e,Bool.false_or];exact DB k r
def DC (kvs:List (κ×V)) (k:κ) (v:V):(putK kvs k v).length<=kvs.length+1:=by
 unfold putK
 split
 ·rw [y3];omega
 ·rw [jo,yF,List.length_nil];omega
def bQ.isSome_eq {o:Option V}{u:Option Value}(r:bQ o u):o.isSome=u.isSome:=by
 cases o with
 | none=>cases u with
  |none=>rfl
  |some _=>exact (show False from r).elim
 | some _=>cases u with
  |none=>exact (show False from r).elim
  |some _=>rfl
theorem bQ.getD {o:Option V}{u:Option Value}{d:V}{d':Value}(r:bQ o u) (rd:RelV d d'):RelV (o.getD d) (u.getD d'):=by
 cases o with
 | none=>cases u with
  |none=>exact rd
  |some _=>exact (show False from r).elim
 | some _=>cases u with
  |none=>exact (show False from r).elim
  |some _=>exact r
def KV.val {kvs:List (κ×V)}{vs:List (κ×Value)}(r:KV kvs vs) (k:κ):bQ (cH kvs k) (valueAt vs k):=by
 unfold KV at r
 induction r with
 |nil=>exact True.intro
 |@cons p q ps qs h t ih =>
  obtain ⟨h1,h2⟩:=h
  by_cases e:p.1=k
  ·have e':q.1=k:=h1.symm.trans e
   have b:valueAt (q::qs) k=some q.2:=by simp [valueAt,List.find?_cons,e']
   rw [rF e,b];exact h2
  ·have e':¬q.1=k:=λz=>e (h1.trans z)
   have b:valueAt (q::qs) k=valueAt qs k:=by simp [valueAt,List.find?_cons,e']
   rw [rG e,b];exact ih
theorem KV.any {kvs:List (κ×V)}{vs:List (κ×Value)}(r:KV kvs vs) (k:κ):(kvs.any λkv=>decide (kv.1=k))=vs.any λkv=>decide (kv.1=k):=by
 unfold KV at r
 induction r with
 |nil=>rfl
 |cons h t ih=>rw [List.any_cons,List.any_cons,ih,h.1]
def KV.repl {kvs:List (κ×V)}{vs:List (κ×Value)}(r:KV kvs vs) (k:κ) {y:V}{u:Value}(ry:RelV y u) :
  KV (kvs.map λkv=>if kv.1=k then (kv.1,y) else kv) (vs.map λkv=>if kv.1=k then (kv.1,u) else kv):=by
 unfold KV at r ⊢
 induction r with
 |nil=>exact .nil
 |@cons p q ps qs h t ih =>
  rw [ye,ye]
  refine .cons ?_ ih
  obtain ⟨h1,h2⟩:=h
  by_cases e:p.1=k
  ·rw [zp e,zp (h1.symm.trans e)];exact ⟨h1,ry⟩
  ·rw [zD e,zD (λz=>e (h1.trans z))];exact ⟨h1,h2⟩
def KV.put {kvs:List (κ×V)}{vs:List (κ×Value)}(r:KV kvs vs) (k:κ) {y:V}{u:Value}(ry:RelV y u):KV (putK kvs k y) (stored vs k u):=by
 unfold putK stored
 rw [r.any k]
 by_cases e:(vs.any λkv=>decide (kv.1=k))=true
 ·rw [zp e,zp e];exact r.repl k ry
 ·rw [zD e,zD e];exact Paired.snoc r ⟨rfl,ry⟩
def KV.drop {kvs:List (κ×V)}{vs:List (κ×Value)}(r:KV kvs vs) (k:κ):KV (dropK kvs k) (without vs k):=by
 unfold KV at r ⊢
 unfold dropK without
 induction r with
 |nil=>exact .nil
 |@cons p q ps qs h t ih =>
  obtain ⟨h1,h2⟩:=h
  rw [List.filter_cons,List.filter_cons]
  by_cases e:p.1=k
  ·have a:¬decide (p.1≠k)=true:=by simp [e]
   have b:¬decide (q.1≠k)=true:=by simp [h1.symm.trans e]
   rw [zD a,zD b];exact ih
  ·have e':¬q.1=k:=λz=>e (h1.trans z)
   have a:decide (p.1≠k)=true:=by simp [e]
   have b:decide (q.1≠k)=true:=by simp [e']
   rw [zp a,zp b];exact .cons ⟨h1,h2⟩ ih
def KV.keys {kvs:List (κ×V)}{vs:List (κ×Value)}(r:KV kvs vs):kvs.map (·.1)=vs.map (·.1):=by
 unfold KV at r
 induction r with
 |nil=>rfl
 |cons h t ih=>rw [ye,ye,ih,h.1]
theorem KV.length {kvs:List (κ×V)}{vs:List (κ×Value)}(r:KV kvs vs):kvs.length=vs.length:=Paired.length r
def Nj (kvs:List (κ×V)) (k:κ):(dropK kvs k).length<=kvs.length:=List.length_filter_le _ _
end
def my {P:Program}{w:World}{k:Key}{u:Value}(r:RelV (kV k) u):(aU P w).is k u=true:=by
 cases k with
 |inl i=>obtain ⟨t,e⟩:=(show ∃t,u=Value.int i t from r);subst e;exact J9 P w i t
 |inr x=>obtain ⟨t,e⟩:=(show ∃t,u=Value.str x t from r);subst e;exact J_ P w x t
theorem DD {P:Program}{w:World}:∀{ks:List Key}{us:Af},Vals (ks.map kV) us->ItemsAre (aU P w) ks us
 |[],_,r=>by rw [List.map_nil] at r;cases r;exact .nil
 |k::ks,_,r=>by
  rw [ye] at r
  cases r with
  |cons h t=>exact .cons (my h) (DD t)
abbrev KT (H:Hp):List (List Key×V)->List (List Key×Addr×Value)->Prop:=Paired λp q=>p.1=q.1/\H q.2.1=some (.tup (p.1.map kV))/\RelV p.2 q.2.2
def KT.val {H:Hp}{kvs:List (List Key×V)}{xs:List (List Key×Addr×Value)}(r:KT H kvs xs) (k:List Key):bQ (cH kvs k) ((atKey xs k).map (·.2)):=by
 induction r with
 |nil=>exact True.intro
 |@cons p q ps qs h t ih =>
  obtain ⟨h1,_,h2⟩:=h
  by_cases e:p.1=k
  ·have e':q.1=k:=h1.symm.trans e
   have b:atKey (q::qs) k=some q.2:=by simp [atKey,List.find?_cons,e']
   rw [rF e,b];exact h2
  ·have e':¬q.1=k:=λz=>e (h1.trans z)
   have b:atKey (q::qs) k=atKey qs k:=by simp [atKey,List.find?_cons,e']
   rw [rG e,b];exact ih
def KT.repl {H:Hp}{kvs:List (List Key×V)}{xs:List (List Key×Addr×Value)}(r:KT H kvs xs) (k:List Key) {y:V}{u:Value}(ry:RelV y u) :
  KT H (kvs.map λkv=>if kv.1=k then (kv.1,y) else kv) (xs.map (putAt k u)):=by
 induction r with
 |nil=>exact .nil
 |@cons p q ps qs h t ih =>
  rw [ye,ye]
  refine .cons ?_ ih
  obtain ⟨h1,h2,h3⟩:=h
  unfold putAt
  by_cases e:p.1=k
  ·rw [zp e,zp (h1.symm.trans e)];exact ⟨h1,h2,ry⟩
  ·rw [zD e,zD (λz=>e (h1.trans z))];exact ⟨h1,h2,h3⟩
def KT.put {H:Hp}{kvs:List (List Key×V)}{xs:List (List Key×Addr×Value)}(r:KT H kvs xs) (k:List Key) {b:Addr}{y:V}{u:Value}(hb:H b=some (.tup (k.map kV))) (ry:RelV y u) :
  KT H (putK kvs k y) (storedH xs k b u):=by
 have e:(kvs.any λkv=>decide (kv.1=k))=(atKey xs k).isSome:=by
  rw [DB,(r.val k).isSome_eq,Option.isSome_map]
 unfold putK storedH
 rw [e]
 by_cases q:(atKey xs k).isSome=true
 ·rw [zp q,zp q];exact r.repl k ry
 ·rw [zD q,zD q];exact Paired.snoc r ⟨rfl,hb,ry⟩
def KT.keeps {H H':Hp}{kvs:List (List Key×V)}{xs:List (List Key×Addr×Value)}(r:KT H kvs xs) (ht:∀b ys,H b=some (.tup ys)->H' b=some (.tup ys)):KT H' kvs xs :=
 Paired.mapP r λ_ _ z=>⟨z.1,ht _ _ z.2.1,z.2.2⟩
section
variable {P:Program} {w:World} {H:Hp} {h:Heap} {a:Addr}
def DE {u:HO}(ok:bV P w H h) (e:Rd H a u):aX P w H h a u:=e.ok ok
def jj {kvs:List (Key×V)}(ok:bV P w H h) (e:Rd H a (.dK kvs)):kvs.length<=sizeLine/\(a==sysModules)=false/\∃vs,KV kvs vs/\h.DictOf (aU P w) a vs :=
 show aX P w H h a (.dK kvs) from DE ok e
def vT {kvs:List (Key×V)}(ok:bV P w H h) (e:H a=some (.dK kvs)):kvs.length<=sizeLine/\(a==sysModules)=false/\∃vs,KV kvs vs/\h.DictOf (aU P w) a vs:=jj ok (.inl e)
def oE {ks:List Key}(ok:bV P w H h) (e:H a=some (.tup (ks.map kV))):(tupleKind (aU P w)).is h ks a:=by
 obtain ⟨_,its,r,o,h1,h2,n,h3⟩:=(show aX P w H h a (.tup (ks.map kV)) from ok a _ e)
 exact ⟨o,its.toArray,n,h1,h2,h3,by simpa using DD r⟩
def mz {kvs:List (List Key×V)}(ok:bV P w H h) (e:Rd H a (.dT kvs)):kvs.length<=sizeLine/\(a==sysModules)=false /\
  ∃xs,KT H kvs xs/\h.DictOfH (tupleKind (aU P w)) a xs:=by
 obtain ⟨z,y,xs,r,o,es,ep,h1,h2,h3,h4,h5⟩:=(show aX P w H h a (.dT kvs) from DE ok e)
 refine ⟨z,y,xs,r,o,es,ep,h1,h2,h3,h4,λx hx=>?_,h5⟩
 have all:∀{l:List (List Key×V)} {m:List (List Key×Addr×Value)},KT H l m->∀x∈m,(tupleKind (aU P w)).is h x.1 x.2.1:=by
  intro l m q
  induction q with
  |nil=>intro x hx;exact nomatch hx
  |@cons p q ps qs hq t ih =>
   intro x hx
   rcases yE.mp hx with e|hx
   ·subst e
    exact oE ok (by rw [<-hq.1];exact hq.2.1)
   ·exact ih x hx
 exact all r x hx
def Nk {kvs:List (List Key×V)}(ok:bV P w H h) (e:H a=some (.dT kvs)):kvs.length<=sizeLine/\(a==sysModules)=false /\
  ∃xs,KT H kvs xs/\h.DictOfH (tupleKind (aU P w)) a xs:=mz ok (.inl e)
end
def du (H:Hp) (a:Addr) (y:V) (r:Option V):Prop :=
 (∃kvs k,Rd H a (.dK kvs)/\y=kV k/\r=cH kvs k)\/∃kvs k b,Rd H a (.dT kvs)/\y=.ref b/\H b=some (.tup (k.map kV))/\r=cH kvs k
def fO (H:Hp) (a:Addr) (y v:V) (H':Hp):Prop :=
 (∃kvs k,H a=some (.dK kvs)/\y=kV k/\kvs.length<sizeLine/\H'=upd H a (.dK (putK kvs k v))) \/
 ∃kvs k b,H a=some (.dT kvs)/\y=.ref b/\H b=some (.tup (k.map kV))/\kvs.length<sizeLine/\H'=upd H a (.dT (putK kvs k v))
theorem du.k {H:Hp}{a:Addr}{kvs:List (Key×V)}{k:Key}(e:H a=some (.dK kvs)):du H a (kV k) (cH kvs k):=.inl ⟨kvs,k,.inl e,rfl,rfl⟩
def du.t {H:Hp}{a b:Addr}{kvs:List (List Key×V)}{k:List Key}(e:H a=some (.dT kvs)) (eb:H b=some (.tup (k.map kV))):du H a (.ref b) (cH kvs k):=.inr ⟨kvs,k,b,.inl e,rfl,eb,rfl⟩
theorem fO.k {H:Hp}{a:Addr}{kvs:List (Key×V)}{k:Key}{v:V}(e:H a=some (.dK kvs)) (hl:kvs.length<sizeLine):fO H a (kV k) v (upd H a (.dK (putK kvs k v))):=.inl ⟨kvs,k,e,rfl,hl,rfl⟩
def fO.t {H:Hp}{a b:Addr}{kvs:List (List Key×V)}{k:List Key}{v:V}(e:H a=some (.dT kvs)) (eb:H b=some (.tup (k.map kV))) (hl:kvs.length<sizeLine) :
  fO H a (.ref b) v (upd H a (.dT (putK kvs k v))):=.inr ⟨kvs,k,b,e,rfl,eb,hl,rfl⟩
section
variable {X:Cx} {pins:Ac} {U:St} {H:Hp} {s:Shared} {a:Addr} {y v:V} {u r:Value} {o:Option V} {A:Around} {E:Aa}
def Inv.big (I:Inv X pins U H s):sysModules<s.heap.objs.size:=by
 have h:mainGlobals<s.heap.objs.size:=(I.mod.glob.keeps I.bk).lt
 exact Nat.lt_trans (by decide) h
def Nl {Q:Aa}(hu:A.units+1<cLine) (I:Inv X pins U H s) (g:du H a y (some v)) (ry:RelV y u) (h:∀w' s',Inv X pins U H s'->RelV v w'->Q w' s') :
  wpAny (model X.prog X.w) A (getItem (.ref a) u) Q E s:=by
 rcases g with ⟨kvs,k,e,ey,l⟩|⟨kvs,k,b,e,ey,eb,l⟩
 ·subst ey
  obtain ⟨z,hd,vs,rel,dd⟩:=jj I.hok e
  obtain ⟨w',hw,rw'⟩:=bQ.some_of (v:=v) (o:=valueAt vs k) (by rw [l];exact rel.val k)
  exact wpAny_getItem_of (my ry) dd.mapOf hw (h w' _ (I.tok _) rw')
 ·subst ey
  cases (show u=Value.ref b from ry)
  obtain ⟨z,hd,xs,rel,dd⟩:=mz I.hok e
  obtain ⟨w',hw,rw'⟩:=bQ.some_of (v:=v) (o:=(atKey xs k).map (·.2)) (by rw [l];exact rel.val k)
  obtain ⟨p,hp,eJ⟩:=Option.map_eq_some_iff.mp hw
  refine wpAny_getItem_heap (tupleKind_room_in1 hu) (oE I.hok eb) dd hp ?_
  rw [eJ]
  exact h w' _ (I.tok _) rw'
def Nm {Q:Aa}(hu:A.units+1<cLine) (I:Inv X pins U H s) (g:du H a y o) (ry:RelV y u) (h:∀s',Inv X pins U H s'->Q (.bool o.isSome) s') :
  wpAny (model X.prog X.w) A (compareOp .In u (.ref a)) Q E s:=by
 rcases g with ⟨kvs,k,e,ey,l⟩|⟨kvs,k,b,e,ey,eb,l⟩
 ·subst ey
  obtain ⟨z,hd,vs,rel,dd⟩:=jj I.hok e
  refine wpAny_in_of (my ry) hd dd.mapOf ?_
  rw [<-(rel.val k).isSome_eq,<-l]
  exact h _ (I.tok _)
 ·subst ey
  cases (show u=Value.ref b from ry)
  obtain ⟨z,hd,xs,rel,dd⟩:=mz I.hok e
  refine wpAny_in_heap (tupleKind_room_in1 hu) (oE I.hok eb) hd dd ?_
  have q:=(rel.val k).isSome_eq
  rw [Option.isSome_map] at q
  rw [<-q,<-l]
  exact h _ (I.tok _)
def Nn {Q:Aa}(hu:A.units+1<cLine) (I:Inv X pins U H s) (g:du H a y o) (ry:RelV y u) (h:∀s',Inv X pins U H s'->Q (.bool (!o.isSome)) s') :
  wpAny (model X.prog X.w) A (compareOp .NotIn u (.ref a)) Q E s:=by
 rcases g with ⟨kvs,k,e,ey,l⟩|⟨kvs,k,b,e,ey,eb,l⟩
 ·subst ey
  obtain ⟨z,hd,vs,rel,dd⟩:=jj I.hok e
  refine wpAny_notIn_of (my ry) hd dd.mapOf ?_
  rw [<-(rel.val k).isSome_eq,<-l]
  exact h _ (I.tok _)
 ·subst ey
  cases (show u=Value.ref b from ry)
  obtain ⟨z,hd,xs,rel,dd⟩:=mz I.hok e
  refine wpAny_notIn_heap (tupleKind_room_in1 hu) (oE I.hok eb) hd dd ?_
  have q:=(rel.val k).isSome_eq
  rw [Option.isSome_map] at q
  rw [<-q,<-l]
  exact h _ (I.tok _)
def vU {h':Heap}{t':Nat}{ob:HO}(I:Inv X pins U H s) (mu:md (H a)) (hs:Heap.SameBut a s.heap h') (he:∃q,h'.get? a=some q) (new:aX X.prog X.w (upd H a ob) h' a ob) :
  Inv X pins U (upd H a ob) { s with heap:=h',toks:=t' } :=
 I.write (x:=a) (e:=a) mu (.inl rfl) (λb q hb z=>(hs.2 b hb).trans z) he new
def vV {P:Program}{w:World}{H':Hp}{h':Heap}{kvs:List (Key×V)}{vs:List (Key×Value)}(z:kvs.length<=sizeLine) (hd:(a==sysModules)=false) (rel:KV kvs vs) (dd:h'.DictOf (aU P w) a vs) :
  aX P w H' h' a (.dK kvs):=⟨z,hd,vs,rel,dd⟩
def Np {H':Hp}{Q:Unit->Shared->Prop}(hu:A.units+1<cLine) (I:Inv X pins U H s) (g:fO H a y v H') (ry:RelV y u) (rv:RelV v r) (h:∀s',Inv X pins U H' s'->Q () s') :
  wpAny (model X.prog X.w) A (setItem (.ref a) u r) Q E s:=by
 rcases g with ⟨kvs,k,e,ey,l,eH⟩|⟨kvs,k,b,e,ey,eb,l,eH⟩
 ·subst ey eH
  obtain ⟨z,hd,vs,rel,dd⟩:=vT I.hok e
  have hz:vs.length<=sizeLine:=by rw [<-rel.length];exact z
  have hl:(putK kvs k v).length<=sizeLine:=by have:=DC kvs k v;omega
  refine wpAny_setItem_pairs (hsz:=hz) (my ry) dd λh' i0 hs=>h _ ?_
  have he:∃q,h'.get? a=some q:=let ⟨q,_,_,hq,_⟩:=i0;⟨q,hq⟩
  exact vU I (by rw [e];exact True.intro) hs he (vV hl hd (rel.put k rv) i0)
 ·subst ey eH
  cases (show u=Value.ref b from ry)
  obtain ⟨z,hd,xs,rel,dd⟩:=Nk I.hok e
  have hz:xs.length<=sizeLine:=by rw [<-Paired.length rel];exact z
  have hl:(putK kvs k v).length<=sizeLine:=by have:=DC kvs k v;omega
  refine wpAny_setItem_heap (hsz:=hz) (tupleKind_room_in1 hu) (oE I.hok eb) dd λh' i0 hs=>h _ ?_
  obtain ⟨q,es,ep,hq,h2,h3,h4,_,h5⟩:=i0
  refine vU I (by rw [e];exact True.intro) hs ⟨q,hq⟩ ⟨hl,hd,_,(rel.put k eb rv).keeps λc ys ec=>?_,q,es,ep,hq,h2,h3,h4,h5⟩
  rw [zO (Kb ec e (λz=>nomatch z))]
  exact ec
end
section
variable {X:Cx} {pins:Ac} {U:St} {H:Hp} {s:Shared} {a:Addr} {kvs:List (Key×V)} {k:Key} {u:Value} {A:Around} {E:Aa}
def Nr {v:V}{more:Af}{Q:Aa}(I:Inv X pins U H s) (e:H a=some (.dK kvs)) (ry:RelV (kV k) u) (l:cH kvs k=some v) (hm:more=[]\/∃x,more=[x])
  (h:∀w' s',Inv X pins U (upd H a (.dK (dropK kvs k))) s'->RelV v w'->Q w' s'):wpAny (model X.prog X.w) A (call (.builtin "dict.pop") (.ref a::u::more)) Q E s:=by
 obtain ⟨z,hd,vs,rel,dd⟩:=vT I.hok e
 obtain ⟨w',hw,rw'⟩:=bQ.some_of (v:=v) (o:=valueAt vs k) (by rw [<-l];exact rel.val k)
 have hp:(keyPart u).isSome=true:=by
  cases k with
  |inl i=>obtain ⟨t,q⟩:=(show ∃t,u=Value.int i t from ry);subst q;rfl
  |inr x=>obtain ⟨t,q⟩:=(show ∃t,u=Value.str x t from ry);subst q;rfl
 have ha:argsOk "dict.pop" ⟨.ref a::u::more,[]⟩:=by
  rcases hm with q|⟨x,q⟩
  ·subst q;exact PySem.F.args_dict_pop_2 _ _
  ·subst q;exact PySem.F.args_dict_pop_3 _ _ _
 refine call_meetsIn PySem.F.slot_dict_pop dd.typeIs PySem.F.entry_dict_pop ha (meets_dict_pop_there (aU X.prog X.w) a (my ry) more hm hp)
  ⟨vs,w',dd,by rw [<-rel.length];exact z,hw,λh' i0 hs=>h w' _ ?_ rw'⟩
 have he:∃q,h'.get? a=some q:=let ⟨q,_,_,hq,_⟩:=i0;⟨q,hq⟩
 exact vU I (by rw [e];exact True.intro) hs he (vV (jg (Nj kvs k) z) hd (rel.drop k) i0)
def Nt {Q:Aa} (I:Inv X pins U H s) (e:Rd H a (.dK kvs)) (h:∀t s',Inv X pins U H s'->Q (.int kvs.length t) s'):wpAny (model X.prog X.w) A (call (.builtin "len") [.ref a]) Q E s:=by
 obtain ⟨z,hd,vs,rel,dd⟩:=jj I.hok e
 refine call_len_dict hd dd (by rw [<-rel.length];rw [sizeLine_eq] at z;omega) ?_
 rw [<-rel.length]
 exact h _ _ (I.tok _)
end
def Nu {X:Cx} {pins:Ac} {U:St} {H:Hp} {s:Shared} {a:Addr} {y:V} {o:Option V} (I:Inv X pins U H s) (g:du H a y o):s.TypeIs (.ref a) "dict" := by
 rcases g with ⟨kvs,k,e,_,_⟩|⟨kvs,k,b,e,_,_,_⟩
 ·obtain ⟨_,_,vs,_,dd⟩:=jj I.hok e
  exact dd.typeIs
 ·obtain ⟨_,_,xs,_,dd⟩:=mz I.hok e
  exact dd.typeIs
def Nv (td ty tv:TE):TS:=λD U H=>tv U H λv H1=>td U H1 λx H2=>ty U H2 λy H3=>∃a H4,x=.ref a/\fO H3 a y v H4/\D.nx U H4
section
variable {X:Cx} {o i value:Expr} {pos pos':Pos} {td ty tv:TE}
def Nw (hu:X.A.units+1<cLine) (ho:PE X o td) (hi:PE X i ty) (hv:PE X value tv) (hs:swapsWith value (some (.Subscript o i pos')) pos.line X.env=pure false) :
  PS X (.Assign [.Subscript o i pos'] value pos) (Nv td ty tv):=by
 intro pins s U H D I h
 refine wpAny_Assign_Subscript (aR (hv pins s U H _ I h) λr s1 ⟨v,H1,I1,rv,q1⟩=>aR (ho pins s1 U H1 _ I1 q1) λu s2 ⟨x,H2,I2,rx,q2⟩=>aR (hi pins s2 U H2 _ I2 q2) λiv s3 gg=>?_) hs
 obtain ⟨y,H3,I3,ry,a,H4,ex,g,q3⟩:=gg
 subst ex
 obtain rfl:u=Value.ref a:=rx
 exact Np hu I3 g ry rv λs4 I4=>⟨U,H4,I4,q3⟩
end
def Ny {P:Program} {w:World} {H:Hp} (h:Heap) (hb:sysModules<h.objs.size):aX P w H (h.push { cls:=.type "dict", data:=.dict #[] }) h.objs.size (.dK []) :=
 ⟨jh _,beq_eq_false_iff_ne.mpr (yL (yw hb)),[],.nil,Heap.DictOf.new h⟩
def Nz:TE:=λ_ H Q=>∀p,H p=none->Q (.ref p) (upd H p (.dK []))
section
variable {X:Cx} {pos:Pos}
def NA:PE X (.Dict [] [] pos) Nz:=λpins s U H Q I h =>
 wpAny_Dict_empty ⟨.ref s.heap.objs.size,_,I.laid (a:=s.heap.objs.size) (o:=.dK []) (t':=s.toks) (λ_ _ q=>zU _ q) (z0 _) (Ny s.heap I.big),rfl,h _ (I.hok.fresh (z0 _))⟩
end
structure M1 (X:Cx) (o:Expr) (m:Str) (apos:Pos) (e:Expr) (aK:Pos):Prop where
 base:attributeBase o m X.env (eval o X.env)=eval o X.env
 few:((backTo aK (starEach [e] X.env)).all (λx=>!x.1)&&(backToKw aK (keywordEach [] X.env)).all (λx=>x.1.isSome)
  && decide (([e]:List Expr).length+([]:List Keyword).length+(if ([]:List Keyword).isEmpty then 0 else 1)<30))=true
 line:(apos.endLine==aK.line)=true
 trees:backTo aK (starEach [e] X.env)=[(false,eval e X.env)]
structure M2 (X:Cx) (o:Expr) (m:Str) (apos:Pos) (e f:Expr) (aK:Pos):Prop where
 base:attributeBase o m X.env (eval o X.env)=eval o X.env
 few:((backTo aK (starEach [e,f] X.env)).all (λx=>!x.1)&&(backToKw aK (keywordEach [] X.env)).all (λx=>x.1.isSome)
  && decide (([e,f]:List Expr).length+([]:List Keyword).length+(if ([]:List Keyword).isEmpty then 0 else 1)<30))=true
 line:(apos.endLine==aK.line)=true
 trees:backTo aK (starEach [e,f] X.env)=[(false,eval e X.env),(false,eval f X.env)]
def DF (H:Hp) (a:Addr):Prop:=(∃kvs,Rd H a (.dK kvs))\/∃kvs,Rd H a (.dT kvs)
def NB {X:Cx}{pins:Ac}{U:St}{H:Hp}{s:Shared}{a:Addr}(I:Inv X pins U H s) (d:DF H a) :
  s.TypeIs (.ref a) "dict" /\ (∀b,Value.ref a=.ref b->∃ob,s.heap.get? b=some ob/\ob.dict=none)/\(a==sysModules)=false:=by
 rcases d with ⟨kvs,e⟩|⟨kvs,e⟩
 ·obtain ⟨_,hd,vs,_,dd⟩:=jj I.hok e
  refine ⟨dd.typeIs,λb q=>?_,hd⟩
  cases q
  obtain ⟨ob,_,_,h1,h2,_⟩:=dd
  exact ⟨ob,h1,h2.2.1⟩
 ·obtain ⟨_,hd,xs,_,dd⟩:=mz I.hok e
  refine ⟨dd.typeIs,λb q=>?_,hd⟩
  cases q
  obtain ⟨ob,_,_,h1,h2,_⟩:=dd
  exact ⟨ob,h1,h2.2.1⟩
def NC (td ty:TE):TE:=λU H Q=>td U H λx H1=>∃a,x=.ref a/\DF H1 a/\ty U H1 λy H2=>∃kvs k v,H2 a=some (.dK kvs)/\y=kV k/\cH kvs k=some v/\Q v (upd H2 a (.dK (dropK kvs k)))
section
variable {X:Cx} {o e:Expr} {apos aK:Pos} {td ty:TE}
def ND (ho:PE X o td) (he:PE X e ty) (m:M1 X o "pop" apos e aK):PE X (.Call (.Attribute o "pop" apos) [e] [] aK) (NC td ty):=by
 intro pins s U H Q I h
 refine wpAny_Call_method m.base m.few m.line PySem.F.plainAttrs_dict PySem.F.slot_dict_pop PySem.F.type_dict_pop (aR (ho pins s U H _ I h) λu s1 ⟨x,H1,I1,rx,a,ex,d,q1⟩=>?_)
 subst ex
 obtain rfl:u=Value.ref a:=rx
 obtain ⟨t1,t2,_⟩:=NB I1 d
 refine ⟨t1,t2,?_⟩
 rw [m.trees]
 refine Calls.callWith_builtin rfl (Calls.evalArgs_plain (Calls.spliced_cons (aR (he pins s1 U H1 _ I1 q1) λiv s2 ⟨y,H2,I2,ry,kvs,k,v,ea,ey,l,q2⟩=>Calls.spliced_nil ?_)))
 subst ey
 exact Nr I2 ea ry l (.inl rfl) λw' s3 I3 rw'=>⟨v,_,I3,rw',q2⟩
end
def XO (h:Heap) (a:Addr) (C:Value) (d:Option Addr) (head:Value):Prop :=
 ∃oe vs,h.get? a=some oe/\oe.cls=C/\oe.dict=d/\oe.data=.fields vs/\vs.size=6/\vs[1]?=some head
def TB (h:Heap) (T:Addr) (fl:Value):Prop:=∃oT ts,h.get? T=some oT/\oT.data=.fields ts/\ts[3]?=some fl
def NF (o:Obj) (f):(o.mapFields f).dict=o.dict:=by
 obtain ⟨c,d,dt,sl⟩:=o
 cases dt<;>rfl
def XO.keeps {h h':Heap}{a:Addr}{C:Value}{d:Option Addr}{head:Value}(x:XO h a C d head) (k:∀o,h.get? a=some o->h'.get? a=some o):XO h' a C d head:=by
 obtain ⟨oe,vs,e,r⟩:=x
 exact ⟨oe,vs,k _ e,r⟩
def TB.keeps {h h':Heap}{T:Addr}{fl:Value}(x:TB h T fl) (k:∀o,h.get? T=some o->h'.get? T=some o):TB h' T fl:=by
 obtain ⟨oT,ts,e,r⟩:=x
 exact ⟨oT,ts,k _ e,r⟩
def XO.set1 {h:Heap}{a:Addr}{C:Value}{d:Option Addr}{head:Value}(x:XO h a C d head) (u:Value):XO (h.update a (Obj.mapFields (·.setIfInBounds 1 u))) a C d u:=by
 obtain ⟨oe,vs,e,hc,mE,hd,hz,h1⟩:=x
 have aY:=Obj.data_mapFields hd (·.setIfInBounds 1 u)
 refine ⟨_,_,Heap.get?_update_self _ e (Obj.isFreed_of_fields aY),(Obj.cls_mapFields _ _).trans hc,(NF _ _).trans mE,aY,?_,?_⟩
 ·rw [Array.size_setIfInBounds];exact hz
 ·have:1<vs.size:=by omega
  simp [this]
def TB.set3 {h:Heap}{T:Addr}{fl:Value}(x:TB h T fl) (u:Value):TB (h.update T (Obj.mapFields (·.setIfInBounds 3 u))) T u:=by
 obtain ⟨oT,ts,e,hd,h3⟩:=x
 have aY:=Obj.data_mapFields hd (·.setIfInBounds 3 u)
 refine ⟨_,_,Heap.get?_update_self _ e (Obj.isFreed_of_fields aY),aY,?_⟩
 have:3<ts.size:=(Array.getElem?_eq_some_iff.mp h3).1
 simp [this]
section
variable {M:Model} {A:Around} {E:Aa} {s:Shared} {base:Heap} {env:Env} {outer:List Env} {L a:Addr} {C:Value} {d:Option Addr} {head:Value} {Q:Unit->Shared->Prop}
def DG {b2:Bool}(cL:A.frames=some (env::outer)) (hl:s.heap.FunFrames base (env::outer)) (hf:env.frame=some L) (x:XO s.heap a C d head)
  (h:∀h' T,s.heap.objs.size<=T->XO h' a C d (.ref T)->TB h' T (rawInt L)->(∀b o,b≠a->b∉cN (env::outer)->s.heap.get? b=some o->h'.get? b=some o) ->
   (∀b o,b≠a->b∈cN (env::outer)->s.heap.get? b=some o->∃sl,h'.get? b=some { o with slots:=sl })->Q () { s with heap:=h' }) :
  wpAny M A (do let fr <-frameOf env;let pl <-entryPlaceOf L b2;let tb <-EntryCells.newEntry head fr .none (rawInt L) .none pl;setField (.ref a) 1 tb) Q E s:=by
 obtain ⟨oe,vs,e,hc,mE,hd,hz,h1⟩:=id x
 have aN:a∉cN (env::outer):=λhm=>by
  obtain ⟨_,o,ho,nf⟩:=hl.mem hm
  rw [e] at ho
  cases ho
  exact nf vs hd
 refine zm (wpAny_frameOf_fun cL hl hf λg1 rH=>zm (wpAny_entryPlaceOf λpl DH=>?_))
 unfold EntryCells.newEntry newFields
 refine zm (g8 ?_ (DH.sizeOk5 _ _ _ _ _))
 have x1:XO g1 a C d head:=⟨oe,vs,(rH.2.1 a aN).trans e,hc,mE,hd,hz,h1⟩
 generalize hob:({ cls:=.type "traceback", dict:=none,data:=.fields ([head,.ref L,.none,rawInt L,.none]++(if pl.isEmpty then List.replicate 6 Value.none else pl)).toArray }:Obj)=ob
 have x2:XO (g1.push ob) a C d head:=x1.keeps λo q=>zU _ q
 obtain ⟨Xc,eK,e2,_,_,hd2,DI,_⟩:=id x2
 refine wpAny_setField e2 hd2 (by omega) ?_
 have aT:g1.objs.size≠a:=λz=>by
  obtain ⟨_,_,q,_⟩:=x1
  have:=yc q
  rw [<-z] at this
  exact Nat.lt_irrefl _ this
 have DJ:s.heap.objs.size<=g1.objs.size:=Nat.le_of_eq rH.1.symm
 refine h _ g1.objs.size DJ (x2.set1 _) ?_ (λb o nb nf q=>?_) (λb o nb nf q=>?_)
 ·have t0:TB (g1.push ob) g1.objs.size (rawInt L):=by
   refine ⟨ob,_,yK _ (by rw [<-hob];rfl),by rw [<-hob],?_⟩
   rcases DH with rfl|⟨_,_,_,_,_,_,_,rfl⟩<;>simp
  exact t0.keeps λo q=>(ww _ _ (yL aT)).trans q
 ·exact (ww _ _ (yL nb)).trans (zU _ ((rH.2.1 b nf).trans q))
 ·obtain ⟨sl,z⟩:=rH.2.2 b o q
  exact ⟨sl,(ww _ _ (yL nb)).trans (zU _ z)⟩
def NG (cL:A.frames=some (env::outer)) (hl:s.heap.FunFrames base (env::outer)) (hf:env.frame=some L) (x:XO s.heap a C d head)
  (ht:head=.none\/∃T0,head=.ref T0/\T0≠a/\TB s.heap T0 .none)
  (h:∀h' T,s.heap.objs.size<=T->XO h' a C d (.ref T)->TB h' T (rawInt L)->(∀b o,b≠a->.ref b≠head->b∉cN (env::outer)->s.heap.get? b=some o->h'.get? b=some o) ->
   (∀b o,b∈cN (env::outer)->s.heap.get? b=some o->∃sl,h'.get? b=some { o with slots:=sl })->Q () { s with heap:=h' }) :
  wpAny M A (noteFrame (.ref a) env) Q E s:=by
 obtain ⟨oe,vs,e,hc,mE,hd,hz,h1⟩:=id x
 have aN:a∉cN (env::outer):=λhm=>by
  obtain ⟨_,o,ho,nf⟩:=hl.mem hm
  rw [e] at ho
  cases ho
  exact nf vs hd
 unfold noteFrame
 simp only [hf]
 refine zm (y8 e hd h1 ?_)
 rcases ht with rfl|⟨T0,rfl,nT,t0⟩
 ·rw [zD (by decide)]
  exact DG cL hl hf x λh' T k1 k2 k3 k4 k5=>h h' T k1 k2 k3 (λb o nb _ nf q=>k4 b o nb nf q) λb o hb q=>k5 b o (λz=>aN (z▸hb)) hb q
 ·obtain ⟨oT,ts,eT,hdT,h3⟩:=id t0
  have TN:T0∉cN (env::outer):=λhm=>by
   obtain ⟨_,o,ho,nf⟩:=hl.mem hm
   rw [eT] at ho
   cases ho
   exact nf ts hdT
  rw [zp (show (Value.ref T0 != Value.none)=true from by simp)]
  refine zm (y8 eT hdT h3 ?_)
  rw [zD (show ¬((Value.none==rawInt L)=true) from by simp [rawInt])]
  refine zm (wpAny_setField eT hdT (Array.getElem?_eq_some_iff.mp h3).1 ?_)
  have rJ:∀b,b≠T0->(s.heap.update T0 (Obj.mapFields (·.setIfInBounds 3 Value.none))).get? b=s.heap.get? b:=λb hb=>ww _ _ (yL hb)
  refine DG (s:={ s with heap:=s.heap.update T0 (Obj.mapFields (·.setIfInBounds 3 Value.none)) }) cL (hl.of_keeps λb o hb nf=>⟨o,(rJ b λq=>?_).trans hb,rfl⟩) hf (x.keeps λo q=>(rJ a (yL nT)).trans q) λh' T k1 k2 k3 k4 k5 =>
   h h' T (by simpa using k1) k2 k3 (λb o nb nh nf q=>k4 b o nb nf ((rJ b λz=>nh (by rw [z])).trans q)) λb o hb q=>k5 b o (λz=>aN (z▸hb)) hb ((rJ b λz=>TN (z▸hb)).trans q)
  rw [q,eT] at hb
  cases hb
  exact nf ts hdT
def NH {T:Addr}{fl:Value}(x:XO s.heap a C d (.ref T)) (t:TB s.heap T fl) (ne:T≠a)
  (h:∀h',XO h' a C d (.ref T)->TB h' T .none->(∀b o,b≠T->s.heap.get? b=some o->h'.get? b=some o)->h'.objs.size=s.heap.objs.size->Q () { s with heap:=h' }):wpAny M A (setFlight (.ref a) none) Q E s:=by
 obtain ⟨oe,vs,e,_,_,hd,_,h1⟩:=id x
 obtain ⟨oT,ts,eT,hdT,h3⟩:=id t
 unfold setFlight
 refine zm (y8 e hd h1 ?_)
 rw [zp (show (Value.ref T != Value.none)=true from by simp)]
 refine wpAny_setField eT hdT (Array.getElem?_eq_some_iff.mp h3).1 ?_
 exact h _ (x.keeps λo q=>(ww _ _ ne).trans q) (t.set3 _) (λb o nb q=>(ww _ _ (yL nb)).trans q) (by simp)
end
def a0 (X:Cx) (pins:Ac) (H:Hp) (b:Addr):Prop :=
 H b=none/\X.s₀.heap.objs.size<=b/\b≠X.env.locals/\(∀x c,X.env.cells.lookup x=some c->c≠b)/\∀p∈X.pn++pins,p.1≠b
def a0.new {X:Cx}{pins:Ac}{U:St}{H H':Hp}{s:Shared}{b:Addr}(I:Inv X pins U H s) (hb:s.heap.objs.size<=b) (hn:H' b=none):a0 X pins H' b:=by
 obtain ⟨f0,f1,f2,f3,f4,f5⟩:=I.fpOk (H':=H') hb hn
 exact ⟨hn,jg I.sz hb,f1,f4,f5⟩
def rK (X:Cx) (pins:Ac) (H:Hp) (h:Heap) (a C:Addr) (d:Option Addr):Prop :=
 ∃head,XO h a (.ref C) d head/\a0 X pins H a/\(head=.none\/∃T,head=.ref T/\T≠a/\TB h T .none/\a0 X pins H T)
def Throws (X:Cx) (E:XK):Prop:=∀(pins:Ac) (U:St) (H:Hp) (s:Shared) (a C:Addr) (d:Option Addr),Inv X pins U H s->rK X pins H s.heap a C d->E (.ref C) d H->X.xe (.ref a) s
def b9 (P:Program) (w:World):dv:=λouter H s E e s'=>∃(a C T:Addr) (d:Option Addr) (H':Hp),e=.ref a/\s'.os=s.os/\AllBare s'.gens/\Un (cN outer) [] H H' s.heap s'.heap/\bV P w H' s'.heap /\
 XO s'.heap a (.ref C) d (.ref T)/\T≠a/\TB s'.heap T .none/\(s.heap.objs.size<=a/\H' a=none)/\(s.heap.objs.size<=T/\H' T=none)/\E (.ref C) d H'
def NI {X:Cx}{E:XK}(t:Throws X E):Passes (b9 X.prog X.w) X E:=by
 rintro pins U H s e s' I ⟨a,C,T,d,H',rfl,os,bare,un,hok,x,ne,tb,⟨a1,a2⟩,⟨t1,t2⟩,q⟩
 have I':Inv X pins U H' s':=I.call' (ch:=[]) os un hok bare λb z=>absurd z (by simp)
 exact t pins U H' s' a C d I' ⟨_,x,a0.new I a1 a2,.inr ⟨T,rfl,ne,tb,a0.new I t1 t2⟩⟩ q
def fP (a:Addr):Value->Ae
 |.ref T0=>[a,T0]
 |_=>[a]
def DK (a:Addr) (v:Value):a∈fP a v:=by cases v<;>simp [fP]
def DL (a T0:Addr):T0∈fP a (.ref T0):=by simp [fP]
section
variable {X:Cx} {pins:Ac} {U:St} {H:Hp} {s:Shared} {a C:Addr} {d:Option Addr} {A:Around} {E:Aa} {Q:Unit->Shared->Prop}
def vW (I:Inv X pins U H s) (cL:A.frames=some X.stack) (b8:X.stack=X.env::X.outer) (hf:X.env.frame=some X.env.locals) (F:rK X pins H s.heap a C d)
  (h:∀s' T,Inv X pins U H s'->XO s'.heap a (.ref C) d (.ref T)->T≠a->TB s'.heap T (rawInt X.env.locals)->a0 X pins H a->a0 X pins H T->Q () s'):wpAny (model X.prog X.w) A (noteFrame (.ref a) X.env) Q E s:=by
 obtain ⟨head,x,oa,ht⟩:=F
 have hl:s.heap.FunFrames X.base (X.env::X.outer):=b8▸I.stack
 have DM:A.frames=some (X.env::X.outer):=cL.trans (congrArg some b8)
 have DN:cN (X.env::X.outer)=X.env.locals::X.fs:=by
  unfold cN
  rw [List.filterMap_cons,hf]
  rfl
 have hG:∀b∈X.env.locals::X.fs,H b=none:=λb hb=>I.stkFree b (by rw [b8,DN];exact hb)
 have vX:∀b u,H b=some u->Value.ref b≠head:=λb u e z=>by
  rcases ht with rfl|⟨T0,rfl,_,_,r⟩
  ·cases z
  ·cases z
   rw [r.1] at e
   cases e
 refine NG DM hl hf x (ht.imp id λ⟨T0,e1,e2,e3,_⟩=>⟨T0,e1,e2,e3⟩) λh' T k1 k2 k3 k4 k5=>?_
 rw [DN] at k4 k5
 have oT:a0 X pins H T:=a0.new I k1 (I.hok.fresh k1)
 have neT:T≠a:=λz=>by
  obtain ⟨_,_,e,_⟩:=x
  have:=yc e
  rw [<-z] at this
  exact Nat.lt_irrefl _ (y9 this k1)
 refine h { s with heap:=h' } T ?_ k2 neT k3 oa oT
 refine I.step (g':=s.gens) (t':=s.toks) (d':=s.drawn) (ch:=fP a head) (λb hb=>?_) (λb o n1 n2 n3 e n=>k4 b o (λz=>n3 ?_) (λz=>n3 ?_) (λz=>(yE.mp z).elim n1 n2) e)
  (λb o n1 n2 n3 e n=>k5 b o (yz _ n2) e) (λ_ _ _ _ n=>n) (λb o n3 e=>?_) (λ_ _ e=>e) (λ_ _ _ e=>e) (λb ps e=>⟨#[],by rw [e];simp⟩) (λm hm=>?_) (λb u e=>?_) I.bare
 ·have own:a0 X pins H b:=by
   rcases ht with rfl|⟨T0,rfl,_,_,r⟩
   ·have z:b=a:=by simpa [fP] using hb
    rw [z];exact oa
   ·have z:b=a\/b=T0:=by simpa [fP] using hb
    rcases z with z|z
    ·rw [z];exact oa
    ·rw [z];exact r
  exact ⟨.inr own.2.1,own.2.2.1,own.2.2.2.1,own.2.2.2.2⟩
 ·rw [z]
  exact DK a head
 ·rw [<-z]
  exact DL a b
 ·by_cases hb:b∈X.env.locals::X.fs
  ·obtain ⟨sl,z⟩:=k5 b o hb e
   exact ⟨_,z⟩
  ·exact ⟨o,k4 b o (λz=>n3 (by rw [z];exact DK a head)) (λz=>n3 (by rw [<-z];exact DL a b)) hb e⟩
 ·obtain ⟨o,es,ep,ho,r⟩:=hm
  obtain ⟨sl,z⟩:=k5 _ o yj ho
  exact ⟨_,es,ep,z,r⟩
 ·refine (I.hok b u e).stay (λc v hc q=>?_) (λ_ q=>q) λ_ _ q=>q
  have tr:∃u',H c=some u':=by
   rcases hc with z|z
   ·exact ⟨u,by rw [z];exact e⟩
   ·exact ⟨_,z⟩
  obtain ⟨u',eu⟩:=tr
  exact k4 c v (λz=>by rw [z,oa.1] at eu;cases eu) (vX c u' eu) (λz=>by rw [hG c z] at eu;cases eu) q
def oF {T:Addr}{fl:Value}(I:Inv X pins U H s) (x:XO s.heap a (.ref C) d (.ref T)) (ne:T≠a) (tb:TB s.heap T fl) (oa:a0 X pins H a) (oT:a0 X pins H T)
  (h:∀s',Inv X pins U H s'->XO s'.heap a (.ref C) d (.ref T)->TB s'.heap T .none->Q () s'):wpAny (model X.prog X.w) A (setFlight (.ref a) none) Q E s:=by
 refine NH x tb ne λh' k1 k2 k3 _=>h { s with heap:=h' } ?_ k1 k2
 exact I.turned (t':=s.toks) (it:=T) (λb o nb e=>k3 b o nb e) oT.1 oT.2.2.1 (.inr oT.2.1) oT.2.2.2.1 oT.2.2.2.2
end
section
variable {P:Program} {w:World} {K:PySem.W.Frag} {mg:Ab} {base:Heap}
def dw.okX {x qual:Str}{st:Stmt}{f:Addr}{fd:FuncData}{N ps:Ad}{k:Nat}{sp:Sp}(F:dw K x qual st f fd) (S:aq N ps (zE st)) (len:∀vs H Q E,sp vs H Q E->vs.length=ps.length)
  (d5:∀(aV:Value) (A:Around) (outer:List Env) (s:Shared) (H:Hp) (vs:List V) (Q:VK) (E:XK),aZ k (A.deeper (envOfC qual (zE st) s.heap.objs.size f aV))->sp vs H Q E ->
   ∃t,ck (cZ (b9 P w) P w K mg base N qual (zE st) f aV A outer s H E) (ji st) t/\t { nx:=λ_ H'=>Q .non H',rt:=Q } (start N vs) H):bh P w K mg base (b9 P w) (k+1) f fd ps sp:=by
 obtain ⟨oc,od,kV,doc,pm,an,aV,ct,d4,rfl,lk,d0⟩:=F.ex
 exact CZ lk d0 S len λA outer s H vs Q E hr gr=>d5 aV A outer s H vs Q E hr gr
end
end L2
namespace L2
open PySem PySem.Spec PyProof.Rows PySem.W PySem.Builtin PySem.Builtin.ObjectAttr
def NJ (self:Value):refuseLoop self "__setattr__" [.type "ValueError", .type "Exception", .type "BaseException", .type "object"]=pure ():=by kernel_rfl
def cI:List Value->Bool
 |[.type a,.type b,.type c,.type d]=>a == "ValueError" && b == "Exception" && c == "BaseException" && d == "object"
 |.ref _::r=>cI r
 |_=>false
theorem DO (self:Value):∀{l:Af},cI l=true->refuseLoop self "__setattr__" l=pure ()
 |[.type a,.type b,.type c,.type d],e=>by
  simp only [cI,y4,beq_iff_eq] at e
  obtain ⟨⟨⟨rfl,rfl⟩,rfl⟩,rfl⟩:=e
  exact NJ self
 |.ref c::r,e=>by
  rw [refuseLoop_ref]
  exact DO self (by cases r<;>first|exact e|cases e)
theorem DP:∀{l:Af},cI l=true->l.contains (.type "object")=true
 |[.type a,.type b,.type c,.type d],e=>by
  simp only [cI,y4,beq_iff_eq] at e
  obtain ⟨⟨⟨rfl,rfl⟩,rfl⟩,rfl⟩:=e
  simp
 |.ref c::r,e=>by
  rw [List.contains_cons,DP (l:=r) (by cases r<;>first|exact e|cases e),Bool.or_true]
def eM (K:Frag) (C:Addr):Bool:=(clsIn K C).any λcd=>cI cd.mro
section
variable {prog:Program} {w:World} {A:Around} {E:Aa} {K:Frag} {x C:Addr} {s:Shared} {R:Result->Shared->Prop}
def NK {ox:Obj}{od:Option Obj}{name:Str}{tk:Tok}{v:Value}(X:K.In s.heap) (I:InstAt s.heap x ox C od) (hp:eM K C=true) (ht:takerIn K C name=some none)
  (h:∀b,wpAny (model prog w) A.in1 (storeInOwnDict (.ref x) (.ref C) (.str name tk) name v b)
   (λfin s'=>match fin with | .done f=>R (.ok f) s' | .again c'=>c'.quiet=true/\codeAny (model prog w) A c' R s') (λe s'=>R (.error e) s') s) :
  codeAny (model prog w) A (.call (.builtin "object.__setattr__") ⟨[.ref x,.str name tk,v],[]⟩) R s:=by
 have SO:=PySem.F.store_object
 obtain ⟨cd,hc,ho⟩:=any_some hp
 have ne:cd.mro.isEmpty=false:=by
  cases q:cd.mro with
  |nil=>rw [q] at ho;cases ho
  |cons _ _=>rfl
 have NL:Looks (model prog w) s.heap (isInstance (.ref x) (.type "object")) true:=I.type.andThen (looks_mroIn X (by unfold mroIn;rw [hc,Option.bind_some,zD (by rw [ne];decide),DP ho]))
 refine codeAny_call_builtin SO.slot.plain SO.entry (@check_slot (model prog w) _ _ s "object.__setattr__" "object" "__setattr__" (.ref x) [.str name tk,v] [] _ SO.kind SO.split NL (SO.args (.ref x) (.str name tk) v) ?_)
 obtain ⟨attr,ha,hr⟩:=Option.bind_eq_some_iff.mp ht
 have mr:Looks (model prog w) s.heap (mroOf (.ref C)) cd.mro:=(looks_clsIn X hc).andThen .now
 have NM:Looks (model prog w) s.heap (storeTaker? attr) none:=by
  cases attr with
  |none=>exact .now
  |some a =>
   obtain ⟨b,hb,e⟩:=Option.map_eq_some_iff.mp hr
   refine (looks_takesIn X hb).andThen ?_
   cases b with
   |true=>cases e
   |false=>exact .now
 rw [osa_eq,refuse_eq]
 refine zm (zm (I.type.here (zm (mr.here ?_))))
 rw [DO _ ho]
 refine zK (zm (I.type.here (zm ((looks_findIn X ha).here (zm (NM.here ?_))))))
 exact h _
def NN {t:Addr}{name:Str}{v:Value}{Q:Unit->Shared->Prop}(X:K.In s.heap) (he:s.heap.get? x=some { cls:=.ref C,data:=.fields #[.ref t,.none,.none,.none,.bool false,.none] })
  (hs:findIn K (.ref C) "__setattr__" = some (some (.builtin "object.__setattr__"))) (hp:eM K C=true) (ht:takerIn K C name=some none) (hh:hasDictIn K C=true)
  (h:∀h',h'.get? x=some { cls:=.ref C,dict:=some s.heap.objs.size,data:=.fields #[.ref t,.none,.none,.none,.bool false,.none] }->h'.Ns1 s.heap.objs.size (λy=>if y=name then some v else none) ->
   (∀b o,b≠x->s.heap.get? b=some o->h'.get? b=some o)->∀tk,Q () { s with heap:=h',toks:=tk }):wpAny (model prog w) A (setAttr (.ref x) name v) Q E s:=by
 have J:InstAt s.heap x { cls:=.ref C,data:=.fields #[.ref t,.none,.none,.none,.bool false,.none] } C none:=⟨he,rfl,rfl,trivial⟩
 refine set_plain X J hs (NK (s:={ s with toks:=s.toks+1 }) X J hp ht λb=>?_)
 obtain ⟨cd,hc,aY⟩:=any_some hh
 have xl:=yc he
 refine zm (zK (zm (zm (wpAny_loadPart he (zm (Looks.here (s:={ s with toks:=s.toks+1 }) (looks_clsIn X hc) ?_))))))
 rw [aY]
 show wpAny (model prog w) A.in1 (do
  let d <-alloc { cls:=.type "dict", data:=.dict #[] }
  update x λo=>{ o with dict:=some d }
  dictMade (.ref C) x d) _ _ _
 refine zm (wpAny_alloc (zm (wpAny_update (zU _ he) ?_)))
 refine zK (a:=some s.heap.objs.size) (zm (zK (zm ?_)))
 have xn:s.heap.objs.size≠x:=Nat.ne_of_gt xl
 have ex:((s.heap.push { cls:=.type "dict", data:=.dict #[] }).update x λo=>{ o with dict:=some s.heap.objs.size }).get? x=some { cls:=.ref C,dict:=some s.heap.objs.size,data:=.fields #[.ref t,.none,.none,.none,.bool false,.none] } :=
  Heap.get?_update_self _ (zU _ he) rfl
 have ed:((s.heap.push { cls:=.type "dict", data:=.dict #[] }).update x λo=>{ o with dict:=some s.heap.objs.size }).get? s.heap.objs.size=some { cls:=.type "dict", data:=.dict #[] } :=
  (ww _ _ (yL xn)).trans (yK _ rfl)
 have en:((s.heap.push { cls:=.type "dict", data:=.dict #[] }).update x λo=>{ o with dict:=some s.heap.objs.size }).Ns1 s.heap.objs.size (λ_=>none) :=
  Heap.Ns1.of_empty ⟨_,#[],_,ed,rfl,(λe he=>absurd he (by simp)),λ_=>rfl⟩
 refine wpAny_nsSet1 (s:={ s with heap:=(s.heap.push { cls:=.type "dict", data:=.dict #[] }).update x λo=>{ o with dict:=some s.heap.objs.size },toks:=s.toks+1 }) en λh' cX gq=>?_
 obtain ⟨oD,LF,LG,vk,vm,vn⟩:=cX.count (PySem.Within.cons (ns:=[]) name v λy hy=>absurd rfl hy)
 refine zm (wpAny_lookBehind vk (by rw [vm];exact pastItsLine_dict (jg vn (by simp))) ?_)
 refine zK (h h' ((gq.2 x (yL xn)).trans ex) cX (λb o nb e=>(gq.2 b (yw (yc e))).trans ((ww _ _ (yL nb)).trans (zU _ e))) _)
end
section
variable {prog:Program} {w:World} {A:Around} {h:Heap} {g:Array GenState} {d:Drawn} {t:Nat} {os:OsState} {R:Result->Shared->Prop}
variable {nm q:Str} {C N f:Addr} {bs bm oG:Af} {cu:Bool} {sn:Ad} {sub:Af} {ab:Bool} {col:Option Bool} {dd:Option Addr} {k0 k1 k2 k3 k5:Option Value} {B newId h_:String}
def NP (F:ExcBaseFacts B newId h_ oG) (T:OwnTail h oG bm) {mN:Ab}{rest:Af}
  (hC:h.get? C=some (excClassObj nm q C N bs bm cu sn sub ab col dd k0 k1 k2 k3 k5 newId)) (hn:h.Ns N mN) (hi:mN "__init__" = some (.ref f))
  (hb:∀self,Looks (model prog w) h (bindSpecial (.ref f) self) (.ref f,[self])) (d7:rest.length<=sizeLine)
  (hq:codeAny (model prog w) (A.under (.builtin "type.__call__" ⟨.ref C::rest,[]⟩)) (.call (.ref f) ⟨.ref (h.objs.size+1)::rest,[]⟩) (InitBack (h.objs.size+1) R)
   ⟨(h.push { cls:=.type "tuple", data:=.seq rest.toArray }).push { cls:=.ref C,data:=.fields #[.ref h.objs.size,.none,.none,.none,.bool false,.none] },g,d,t,os⟩) :
  codeAny (model prog w) A (.call (.ref C) ⟨rest,[]⟩) R ⟨h,g,d,t,os⟩:=by
 have u1:=tc_lookup
 have u2:=tc_bind (.ref C)
 have hT:(⟨h,g,d,t,os⟩:Shared).TypeIs (.ref C) "type" := ⟨_,hC,rfl⟩
 refine codeAny_of_tree ?_
 show wpAny _ _ (callAny (.ref C) _) _ _ _
 repeat (any_goals (first|assumption|with_reducible refine wpAny_loadPart_at hC ?_|wp_step))
 refine ⟨rfl,codeAny_call_builtin_at (Code.quiet_builtin _ (by decide +kernel)) entry_typeCall (wpAny_check_type_call_sub hC ?_)⟩
 repeat (first|with_reducible refine wpAny_loadPart_at hC ?_|with_reducible refine wpAny_madeBy_exc hC ?_|wp_step)
 refine codeAny_call_builtin_code (Code.quiet_builtin _ F.quiet) (wpAny_check_new_subT F T hC (codeAny_exc_new_subT F T hC ?_ d7))
 change wpAny (model prog w) (A.under (.builtin "type.__call__" ⟨.ref C::rest,[]⟩)) _ _ _ ⟨(h.push { cls:=.type "tuple", data:=.seq rest.toArray }).push { cls:=.ref C,data:=.fields #[.ref h.objs.size,.none,.none,.none,.bool false,.none] },g,d,t,os⟩
 generalize hg2:(h.push { cls:=.type "tuple", data:=.seq rest.toArray }).push { cls:=.ref C,data:=.fields #[.ref h.objs.size,.none,.none,.none,.bool false,.none] }=h2 at hq ⊢
 have kp:∀b o,h.get? b=some o->h2.get? b=some o:=λb o e=>hg2▸zU _ (zU _ e)
 have gx:h2.get? (h.objs.size+1)=some { cls:=.ref C,data:=.fields #[.ref h.objs.size,.none,.none,.none,.bool false,.none] }:=by
  rw [<-hg2]
  heap_get
 have C2:=kp _ _ hC
 have T2:=T.keeps kp
 have n2:=hn.keeps kp
 have cC:(Value.ref C::bm).contains (.ref C)=true:=by simp
 unfold isInstance
 repeat (first|with_reducible refine wpAny_loadPart_at gx ?_|(with_reducible refine wpAny_isSubtype_exc C2 ?_;rw [cC])|wp_step)
 show wpAny _ _ (typeLookup (.ref C) _) _ _ _
 refine wpAny_typeLookup_tail C2 n2 T2 F.mroIs F.init.lookup ?_
 rw [hi]
 refine jZ (zm (((hb _).keeps kp).here (s:=⟨h2,g,d,t,os⟩) (zm (wpAny_call (codeAny_mono hq λr s' z=>?_)))))
 cases r with
 |error e=>exact z
 |ok fl =>
  cases fl with
  |ret v =>
   obtain ⟨rfl,z⟩:=z
   exact zK (zK z)
  |next=>exact z.elim
  |brk=>exact z.elim
  |cont=>exact z.elim
end
def fQ (C t:Addr) (d:Option Addr) (a:Addr):HO:=.ext λ_ _ h=>h.get? a=some { cls:=.ref C,dict:=d,data:=.fields #[.ref t,.none,.none,.none,.bool false,.none] }
structure kZ (K:PySem.W.Frag) (C:Addr) (f:Str):Prop where
 sa:PySem.W.findIn K (.ref C) "__setattr__" = some (some (.builtin "object.__setattr__"))
 line:eM K C=true
 no:PySem.W.takerIn K C f=some none
 hd:PySem.W.hasDictIn K C=true
def DQ (K:PySem.W.Frag) (ta tv:TE) (f:Str):TS:=λD U H=>tv U H λy H1=>ta U H1 λx H2=>∃a C t,x=.ref a/\H2 a=some (fQ C t none a)/\kZ K C f /\
 ∀d,H2 d=none->D.nx U (upd (upd H2 d (.xd [(f,y)])) a (fQ C t (some d) a))
def NQ {X:Cx}{o value:Expr}{f:Str}{pos pos':Pos}{ta tv:TE}(ha:PE X o ta) (hv:PE X value tv) (hs:swapsWith value (some (.Attribute o f pos')) pos.line X.env=pure false):PS X (.Assign [.Attribute o f pos'] value pos) (DQ X.K ta tv f):=by
 intro pins s U H D I h
 refine plainObj_wpAny_Assign_Attribute (aR (hv pins s U H _ I h) λu s1 ⟨y,H1,I1,ry,q⟩=>aR (ha pins s1 U H1 _ I1 q) λov s2 gg=>?_) hs
 obtain ⟨x,H2,I2,rx,a,C,t,ex,ea,c,q2⟩:=gg
 subst ex
 obtain rfl:ov=Value.ref a:=rx
 have he:s2.heap.get? a=some { cls:=.ref C,dict:=none,data:=.fields #[.ref t,.none,.none,.none,.bool false,.none] }:=(I2.hok a _ ea).1
 refine NN I2.kIn he c.sa c.line c.no c.hd λh' g1 g2 g3 tk=>?_
 have fr:H2 s2.heap.objs.size=none:=I2.hok.fresh (z0 _)
 have na:a≠s2.heap.objs.size:=yw (yc he)
 refine ⟨U,_,?_,q2 s2.heap.objs.size fr⟩
 have old:∀b o,s2.heap.get? b=some o->b≠s2.heap.objs.size:=λb o e=>yw (yc e)
 have oH:∀b,H2 b=none->b≠a:=λb n z=>by rw [z,ea] at n;cases n
 have gY:∀b,b≠a->b≠s2.heap.objs.size->(upd (upd H2 s2.heap.objs.size (.xd [(f,y)])) a (fQ C t (some s2.heap.objs.size) a)) b=H2 b:=λb n1 n2=>by rw [zO n1,zO n2]
 have oI:∀b u,H2 b=some u->b≠s2.heap.objs.size:=λb u e z=>by rw [z,fr] at e;cases e
 refine I2.un (t':=tk) ⟨λb o e n _ _=>g3 b o (oH b n) e,λb o e n _ _=>⟨o.slots,g3 b o (oH b n) e⟩,λb o e n _=>by rw [gY b (oH b n) (old b o e)];exact n,λb o e _=>?_,λb xs e=>?_,λb o u e=>?_,λb ps e=>?_⟩ λb uo e=>?_
 ·by_cases z:b=a
  ·exact ⟨_,z▸g1⟩
  ·exact ⟨o,g3 b o z e⟩
 ·have z:b≠a:=λz=>by rw [z,ea] at e;cases e
  rw [gY b z (oI b _ e)];exact e
 ·have z:b≠a:=λz=>by rw [z,ea] at e;cases e
  rw [gY b z (oI b _ e)];exact e
 ·have z:b≠a:=λz=>by rw [z,ea] at e;cases e
  exact ⟨#[],by rw [gY b z (oI b _ e),e];simp⟩
 ·by_cases z:b=a
  ·rw [z] at e ⊢
   rw [yv] at e
   cases e
   exact ⟨g1,⟨_,g1⟩,λh1 h2 p k=>k _ p⟩
  ·rw [zO z] at e
   by_cases z2:b=s2.heap.objs.size
   ·rw [z2] at e ⊢
    rw [yv] at e
    cases e
    refine ⟨_,g2,λn=>?_⟩
    show bQ (List.lookup n [(f,y)]) (if n=f then some u else none)
    rw [jR]
    by_cases w':n=f
    ·rw [zp w',w',beq_self_eq_true]
     exact ry
    ·rw [zD w',beq_eq_false_iff_ne.mpr w']
     exact True.intro
   ·rw [zO z2] at e
    refine (I2.hok b uo e).stay (λc v hc w'=>g3 c v ?_ w') (λc w'=>?_) λc xs w'=>?_
    ·rcases hc with w2|w2
     ·rw [w2];exact z
     ·intro w3
      rw [w3,ea] at w2
      cases w2
    ·have n1:c≠a:=λw3=>by rw [w3,ea] at w';cases w'
     rw [gY c n1 (oI c _ w')];exact w'
    ·have n1:c≠a:=λw3=>by rw [w3,ea] at w';cases w'
     rw [gY c n1 (oI c _ w')];exact w'
abbrev cv:Af:=[.type "ValueError", .type "Exception", .type "BaseException", .type "object"]
def NR {K:Frag}{h:Heap}{N:Addr}{mN:Ab}{n:Str}{v:Value}(X:K.In h) (G:h.Ns N mN) (e:nsIn K N n=some (some v)):mN n=some v:=by
 obtain ⟨o,es,ep,ho,hd,_,hf⟩:=G
 unfold nsIn at e
 split at e
 ·rename_i q
  have:=X _ _ q
  rw [ho] at this
  cases this
  cases hd
  split at e
  ·rename_i he
   cases e
   rw [<-hf]
   unfold nsFind findBy
   rw [<-Array.find?_toList,he]
   rfl
  ·split at e<;>cases e
 ·cases e
structure dH (K:Frag) (C:Addr):Prop where
 ob:∃nm q N bs bm cu sn sub ab col dd k0 k1 k2 k3 k5,K.lookup C=some (excClassObj nm q C N bs bm cu sn sub ab col dd k0 k1 k2 k3 k5 "ValueError.__new__")/\tailIn K cv bm=true/\nsOkIn K N=true
 kp:keepIn K (.ref C)=true
structure eO (K:Frag) (C f:Addr):Prop where
 ob:∃nm q N bs bm cu sn sub ab col dd k0 k1 k2 k3 k5,K.lookup C=some (excClassObj nm q C N bs bm cu sn sub ab col dd k0 k1 k2 k3 k5 "ValueError.__new__")/\tailIn K cv bm=true/\nsOkIn K N=true/\nsIn K N "__init__" = some (some (.ref f))
 fn:isFn K (.ref f)=true
 kp:keepIn K (.ref C)=true
def eO.of {K:Frag}{C f:Addr}(x:eO K C f):dH K C:=by
 obtain ⟨⟨nm,q,N,bs,bm,cu,sn,sub,ab,col,dd,k0,k1,k2,k3,k5,a,b,c,_⟩,_,k⟩:=x
 exact ⟨⟨nm,q,N,bs,bm,cu,sn,sub,ab,col,dd,k0,k1,k2,k3,k5,a,b,c⟩,k⟩
def del (H:Hp) (a:Addr):Hp:=λb=>if b=a then none else H b
def vY {H:Hp}{a:Addr}:del H a a=none:=zp rfl
def k7 {H:Hp}{a b:Addr}(h:b≠a):del H a b=H b:=zD h
def NS {H:Hp}{a:Addr}{o:HO}(h:H a=none):del (upd H a o) a=H:=by
 funext b
 by_cases z:b=a
 ·rw [z,vY,h]
 ·rw [k7 z,zO z]
def NT {H:Hp}{a b:Addr}{o o':HO}(n:a≠b):upd (upd H a o) b o'=upd (upd H b o') a o:=by
 funext c
 by_cases z:c=a
 ·rw [z,zO n,yv,yv]
 ·by_cases z2:c=b
  ·rw [z2,yv,zO (yL n),yv]
  ·rw [zO z2,zO z,zO z,zO z2]
def Inv.drop {X:Cx}{pins:Ac}{U:St}{H:Hp}{s:Shared}{a:Addr}{φ:Program->World->Heap->Prop}(I:Inv X pins U H s) (ha:H a=some (.ext φ)):Inv X pins U (del H a) s:=by
 have ne:∀b u,H b=some u->(∀φ,u ≠ .ext φ)->b≠a:=λb u e n z=>by
  rw [z,ha] at e
  cases e
  exact n _ rfl
 have t:Inv X pins U (del H a) { s with heap:=s.heap,toks:=s.toks }:=I.un ⟨λb o e _ _ _=>e,λb o e _ _ _=>⟨o.slots,e⟩,λb o e n _=>?_,λb o e _=>⟨o,e⟩,λb xs e=>?_,λb o u e=>?_,λb ps e=>?_⟩ λb u e=>?_
 ·exact t
 ·unfold del
  split<;>first|rfl|exact n
 ·rw [k7 (ne b _ e λ_ z=>by cases z)];exact e
 ·rw [k7 (ne b _ e λ_ z=>by cases z)];exact e
 ·exact ⟨#[],by rw [k7 (ne b _ e λ_ z=>by cases z),e];simp⟩
 ·have z:b≠a:=λz=>by rw [z,vY] at e;cases e
  rw [k7 z] at e
  refine (I.hok b u e).stay (λ_ _ _ q=>q) (λc q=>?_) λc xs q=>?_
  ·rw [k7 (ne c _ q λ_ z=>by cases z)];exact q
  ·rw [k7 (ne c _ q λ_ z=>by cases z)];exact q
section
variable {M:Model} {A:Around} {E:Aa} {env:Env} {s:Shared}
def DR {K:Frag}{x:Sem Value}{Q:Flow->Shared->Prop}(hh:A.handled=none)
  (h:wpAny M A x (λv aj=>∃e C t d,v=.ref e/\K.In aj.heap/\dH K C/\aj.heap.get? e=some { cls:=.ref C,dict:=d,data:=.fields #[.ref t,.none,.none,.none,.bool false,.none] }/\E (.ref e) aj) E s):wpAny M A (raiseStmt env (some x) none) Q E s:=by
 unfold raiseStmt
 refine zm (yT h (λv aj aw=>?_) λ_ _ x=>x)
 obtain ⟨e,C,tt,dx,rfl,kin,⟨⟨nm,q,N,bs,bm,cu,sn,sub,ab,col,dd,k0,k1,k2,k3,k5,hC,ht,_⟩,_⟩,he,hE⟩:=aw
 have hC:=kin _ _ hC
 have bf:bm.contains (.type "BaseException")=true:=(tail_of_in kin ht).hasType (by decide)
 have NU:(Value.ref C::bm).contains (.type "BaseException")=true:=by rw [List.contains_cons,bf,Bool.or_true]
 obtain ⟨hp,g,d,tk,os⟩:=aj
 repeat (first|with_reducible refine wpAny_loadPart_at he ?_|with_reducible refine wpAny_loadPart_at hC ?_|(with_reducible refine wpAny_isSubtype_exc hC ?_;rw [NU])|wp_step)
 exact wpAny_raiseNew_none hh hE
end
section
variable {X:Cx} {CX:dv} {k:Nat} {f C:Addr} {fd:FuncData} {ps:Ad} {sp:Sp} {E:XK}
def NV {pins:Ac}{U:St}{H:Hp}{s:Shared}{Q:VK}{us:Af}{vs:List V}(M:eO X.K C f) (F:bh X.prog X.w X.K X.mg X.base CX k f fd ps sp) (hr:aZ (k+1) X.A) (hb:Binds X.K fd ps [])
  (hx:Passes CX X E) (I:Inv X pins U H s) (r:Vals vs us) (hz:us.length<=sizeLine)
  (h:∀x t,a0 X pins H x->sp (.ref x::vs) (upd H x (fQ C t none x)) (λv H2=>v=.non/\Q (.ref x) H2) E) :
  wpAny (model X.prog X.w) X.A (call (.ref C) us) (EP X pins U Q) X.xe s:=by
 obtain ⟨⟨nm,q,N,bs,bm,cu,sn,sub,ab,col,dd,k0,k1,k2,k3,k5,hC,ht,hok,hi⟩,nQ,_⟩:=M
 have DS:s.heap.objs.size<=s.heap.objs.size+1:=Nat.le_succ _
 have NW:H (s.heap.objs.size+1)=none:=I.hok.fresh DS
 have hq:=h (s.heap.objs.size+1) s.heap.objs.size (a0.new I DS NW)
 let o1:Obj:={ cls:=.type "tuple", data:=.seq us.toArray }
 let o2:Obj:={ cls:=.ref C,data:=.fields #[.ref s.heap.objs.size,.none,.none,.none,.bool false,.none] }
 have e2:((s.heap.push o1).push o2).get? (s.heap.objs.size+1)=some o2:=by
  have:=yK (s.heap.push o1) (o:=o2) rfl
  rwa [Heap.size_push] at this
 have I1:Inv X pins U H { s with heap:=s.heap.push o1,toks:=s.toks }:=I.kept λb u q=>zU _ q
 have I2:Inv X pins U (upd H (s.heap.objs.size+1) (fQ C s.heap.objs.size none (s.heap.objs.size+1))) { s with heap:=(s.heap.push o1).push o2 } :=
  I1.laid (a:=s.heap.objs.size+1) (o:=fQ C s.heap.objs.size none (s.heap.objs.size+1)) (t':=s.toks) (λb u q=>zU _ q) (Nat.le_of_eq (Heap.size_push _ _)) ⟨e2,⟨_,e2⟩,λh1 h2 p k=>k _ p⟩
 have r2:Vals (V.ref (s.heap.objs.size+1)::vs) (Value.ref (s.heap.objs.size+1)::us):=.cons rfl r
 have hl:(Value.ref (s.heap.objs.size+1)::us++[]).length=ps.length:=by
  have e:=r2.length
  rw [F.len _ _ _ _ hq] at e
  rw [List.append_nil]
  exact e.symm
 have DT:=hb { s with heap:=(s.heap.push o1).push o2 } (Value.ref (s.heap.objs.size+1)::us) I2.kIn hl
 rw [List.append_nil] at DT
 obtain ⟨hp,g,d,tk,os⟩:=s
 refine wpAny_call (NP (f:=f) PySem.F.excBase_ValueError (tail_of_in I.kIn ht) (I.kIn _ _ hC) (.of_isNs (isNs_of_in I.kIn hok)) (NR I.kIn (.of_isNs (isNs_of_in I.kIn hok)) hi)
  (λself=>bind_fn I.kIn self (beq_iff_eq.mp nQ)) hz (codeAny_mono (F.run _ X.stack _ _ ⟨Value.ref (hp.objs.size+1)::us,[]⟩ (Value.ref (hp.objs.size+1)::us) _ _ E (hr.make C us [])
  (I2.env0.make C us []) DT r2 hq) λr s' hq'=>?_))
 cases r with
 |error e=>exact hx pins U _ _ e s' I2 hq'
 |ok fl =>
  cases fl with
  |ret u =>
   obtain ⟨v,H',I3,rv,ev,q3⟩:=I2.after hq'
   subst ev
   exact ⟨rv,⟨V.ref (hp.objs.size+1),H',I3,rfl,q3⟩⟩
  |next=>exact hq'.elim
  |brk=>exact hq'.elim
  |cont=>exact hq'.elim
def DU (C:Addr) (f:Str):Sp:=λvs H Q _=>∃a t y,vs=[.ref a,y]/\H a=some (fQ C t none a)/\∀d,H d=none->Q .non (upd (upd H d (.xd [(f,y)])) a (fQ C t (some d) a))
def NX (C:Addr) (f:Str) (te:TE) (Er:XK):TS:=λ_ U H=>te U H λy H1=>∀d,H1 d=none->Er (.ref C) (some d) (upd H1 d (.xd [(f,y)]))
def NY {x fld:Str}{e:Expr}{te:TE}{np aK pos:Pos}{Er:XK}(he:PE X e te) (M:eO X.K C f) (F:bh X.prog X.w X.K X.mg X.base CX k f fd ps (DU C fld)) (hr:aZ (k+1) X.A) (hg:Gl X x) (hm:X.mg x=some (.ref C))
  (hb:Binds X.K fd ps []) (hx:Passes CX X Er) (ht:Throws X Er) (hc:X.calm=true) (bK:(x==("__debug__" : Str))=false:=by decide)
  (hs:starEach [e] X.env=(false,eval e X.env)::starEach [] X.env:=by rfl):PS X (.Raise (some (.Call (.Name x np) [e] [] aK)) none pos) (NX C fld te Er):=by
 intro pins s U H D I h
 rw [arm_exec_Raise]
 refine zm (wpAny_standAt ?_)
 refine DR (K:=X.K) (I.ok.hd hc) ?_
 refine zm (aR (Q:=EP X pins U λv H2=>∃a t d,v=.ref a/\a0 X pins (del H2 a) a/\H2 a=some (fQ C t (some d) a)/\Er (.ref C) (some d) (del H2 a)) ?_ λu s1 ⟨v,H2,I2,rv,a,t,d,ev,ow,ha,q⟩=>zm (wpAny_standAt (zK ?_)))
 ·refine wpAny_Call_Name_kw (iP I hg hm ?_ bK)
  refine PySem.W.callWith_K (h₀:=X.base) I.ok.mod.kin M.kp (spliced_more (aR (he pins s U H _ I h) λu s1 ⟨y,H1,I1,ry,q⟩=>?_) hs) hs rfl
  refine spliced_none ⟨I1.kIn,?_⟩
  refine NV (vs:=[y]) M F hr hb hx I1 (.cons ry .nil) (show 1<=sizeLine by decide) λa t ow=>⟨a,t,y,rfl,yv,λd hd=>⟨rfl,a,t,d,rfl,?_,yv,?_⟩⟩
  ·exact ⟨vY,ow.2⟩
  ·have n:d≠a:=λz=>by rw [z,yv] at hd;cases hd
   rw [zO n] at hd
   have e1:del (upd (upd (upd H1 a (fQ C t none a)) d (.xd [(fld,y)])) a (fQ C t (some d) a)) a=upd H1 d (.xd [(fld,y)]):=by
    rw [NT (yL n),Ka]
    exact NS (by rw [zO (yL n)];exact ow.1)
   rw [e1]
   exact q d hd
 ·subst ev
  obtain rfl:u=Value.ref a:=rv
  have he:s1.heap.get? a=some { cls:=.ref C,dict:=some d,data:=.fields #[.ref t,.none,.none,.none,.bool false,.none] }:=(I2.hok a _ ha).1
  exact ⟨a,C,t,some d,rfl,I2.kIn,M.of,he,ht pins U _ s1 a C (some d) (Inv.drop I2 ha) ⟨.none,⟨_,_,he,rfl,rfl,rfl,rfl,rfl⟩,ow,.inl rfl⟩ q⟩
end
def XP (X:Cx) (pins:Ac) (U:St) (E:XK) (u:Value) (s':Shared):Prop:=∃(a C:Addr) (d:Option Addr) (H':Hp),u=.ref a/\Inv X pins U H' s'/\rK X pins H' s'.heap a C d/\E (.ref C) d H'
abbrev TX:=St->Hp->VK->XK->Prop
def PX (X:Cx) (e:Expr) (t:TX):Prop :=
 ∀(pins:Ac) (s:Shared) (U:St) (H:Hp) (Q:VK) (E:XK),Inv X pins U H s->t U H Q E->wpAny (model X.prog X.w) X.A (eval e X.env) (EP X pins U Q) (XP X pins U E) s
def NZ (sp:Sp) (cK:List V) (t:TA):TX:=λU H Q E=>t U H λvs H1=>sp (vs++cK) H1 Q E
section
variable {X:Cx} {k:Nat} {f C:Addr} {fd:FuncData} {ps:Ad} {sp:Sp} {cK:List V} {ds:Af} {E:XK} {x:Str} {p pos:Pos} {e:Expr} {es:List Expr} {t:TA}
def DV {pins:Ac}{U:St}{H:Hp}{s:Shared}{Q:VK}{us:Af}{vs:List V}(F:bh X.prog X.w X.K X.mg X.base (b9 X.prog X.w) k f fd ps sp) (hr:aZ k X.A) (hb:Binds X.K fd ps ds) (hd:Vals cK ds)
  (I:Inv X pins U H s) (r:Vals vs us) (h:sp (vs++cK) H Q E):wpAny (model X.prog X.w) X.A (call (.ref f) us) (EP X pins U Q) (XP X pins U E) s:=by
 have r2:Vals (vs++cK) (us++ds):=r.append hd
 have hl:(us++ds).length=ps.length:=by rw [<-r2.length];exact F.len _ _ _ _ h
 refine wpAny_call (codeAny_mono (F.run X.A X.stack s H ⟨us,[]⟩ (us++ds) (vs++cK) Q E hr I.env0 (hb s us I.kIn hl) r2 h) λr s' hq=>?_)
 cases r with
 |error e =>
  obtain ⟨a,C,T,d,H',rfl,os,bare,un,hok,x,ne,tb,⟨a1,a2⟩,⟨t1,t2⟩,q⟩:=hq
  have I':Inv X pins U H' s':=I.call' (ch:=[]) os un hok bare λb z=>absurd z (by simp)
  exact ⟨a,C,d,H',rfl,I',⟨_,x,a0.new I a1 a2,.inr ⟨T,rfl,ne,tb,a0.new I t1 t2⟩⟩,q⟩
 |ok fl =>
  cases fl with
  |ret u=>exact I.after hq
  |next=>exact hq.elim
  |brk=>exact hq.elim
  |cont=>exact hq.elim
def N0 (F:bh X.prog X.w X.K X.mg X.base (b9 X.prog X.w) k f fd ps sp) (hr:aZ k X.A) (hg:Gl X x) (hm:X.mg x=some (.ref f)) (hk:PySem.W.keepIn X.K (.ref f)=true) (hb:Binds X.K fd ps ds) (hd:Vals cK ds)
  (ha:PA X.nox (e::es) t) (bK:(x==("__debug__" : Str))=false:=by decide) (he:starEach (e::es) X.env=(false,eval e X.env)::starEach es X.env:=by rfl) (bu:(backTo pos (starEach es X.env)).any (·.1)=false:=by rfl) :
  PX X (.Call (.Name x p) (e::es) [] pos) (NZ sp cK t):=by
 intro pins s U H Q E I h
 refine wpAny_Call_Name_kw (iP I hg hm ?_ bK)
 refine PySem.W.callWith_K (h₀:=X.base) I.ok.mod.kin hk (yT (ha pos pins s U H _ (I.wish _) h) (λus s1 ⟨vs,H1,I1,r,q⟩=>⟨I1.unwish.kIn,?_⟩) λ_ _ z=>z.elim) he bu
 exact DV F hr hb hd I1.unwish r q
end
def eP (C:Addr) (d:Option Addr) (a:Addr):HO:=.ext λ_ _ h=>∃T:Addr,XO h a (.ref C) d (.ref T)
abbrev Cx.caught (X:Cx) (a:Addr):Cx:={ X with A:=X.A.mark (some (.ref a)),calm:=false,xe:=λ_ _=>False }
section
variable {X:Cx} {pins:Ac} {U:St} {H:Hp} {s:Shared} {a C:Addr} {d:Option Addr}
theorem Inv.caught (I:Inv X pins U H s) (a:Addr):Inv (X.caught a) pins U H s :=
 ⟨⟨I.ok.mod,I.ok.kind,I.ok.glob,I.ok.blt,I.ok.above,I.ok.inj,I.ok.has,I.ok.cab,(λz=>nomatch z),I.ok.frames,I.ok.stk,I.ok.exf,I.ok.bs,I.ok.bsz,I.ok.noex,I.ok.exfs,I.ok.funs,I.ok.frf⟩,I.os,I.bare,I.base,I.loc,I.cell,I.free,I.freeC,I.pin,I.hok,I.len⟩
def Inv.uncaught (J:X.Ok) (I:Inv (X.caught a) pins U H s):Inv X pins U H s:=⟨J,I.os,I.bare,I.base,I.loc,I.cell,I.free,I.freeC,I.pin,I.hok,I.len⟩
def Inv.track {o:HO}(I:Inv X pins U H s) (ow:a0 X pins H a) (new:aX X.prog X.w (upd H a o) s.heap a o):Inv X pins U (upd H a o) s:=by
 have ne:∀b u,H b=some u->b≠a:=λb u e z=>by rw [z,ow.1] at e;cases e
 have t:=I.step (h':=s.heap) (H':=upd H a o) (g':=s.gens) (t':=s.toks) (d':=s.drawn) (ch:=[a]) (λb hb=>?_) (λb u _ _ _ e _=>e) (λb u _ _ _ e _=>⟨u.slots,e⟩) (λb u nb e n=>?_) (λb u _ e=>⟨u,e⟩) (λb xs e=>?_) (λb u v e=>?_) (λb ps e=>?_) (λm hm=>hm) (λb u e=>?_) I.bare
 ·exact t
 ·have z:b=a:=by simpa using hb
  rw [z]
  exact ⟨.inr ow.2.1,ow.2.2.1,ow.2.2.2.1,ow.2.2.2.2⟩
 ·rw [zO (λz=>nb (by simp [z]))];exact n
 ·rw [zO (ne b _ e)];exact e
 ·rw [zO (ne b _ e)];exact e
 ·exact ⟨#[],by rw [zO (ne b _ e),e];simp⟩
 ·by_cases z:b=a
  ·rw [z] at e ⊢
   rw [yv] at e
   cases e
   exact new
  ·rw [zO z] at e
   exact (I.hok b u e).stay (λ_ _ _ q=>q) (λc q=>by rw [zO (ne c _ q)];exact q) λc xs q=>by rw [zO (ne c _ q)];exact q
def Inv.catch {T:Addr}(I:Inv X pins U H s) (ow:a0 X pins H a) (x:XO s.heap a (.ref C) d (.ref T)):Inv X pins U (upd H a (eP C d a)) s :=
 Inv.track I ow ⟨⟨T,x⟩,(let ⟨oe,_,e,_⟩:=x;⟨oe,e⟩),λh1 h2 p k=>let ⟨T,z⟩:=p;⟨T,z.keeps λo q=>k o q⟩⟩
def N1 {M:Model}{A:Around}{E:Aa}{j:Nat}{n:Str}{pos:Pos}{Q:Unit->Shared->Prop}(I:Inv X pins U H s) (hN:X.N.Nodup) (hj:X.N[j]?=some n) (hk:X.env.scope.names.lookup n=some .local)
  (h:∀s',Inv X pins (U.set j none) H s'->Q () s'):wpAny M A (do bindName X.env n .none;unbindBehindTheSuite X.env n pos) Q E s:=by
 obtain ⟨m,hn,hl⟩:=id I.loc
 have fH:(X.env.scope.kind == .class||(X.env.scope.kind == .module&&X.env.locals != X.env.globals))=false:=by rw [I.ok.kind];rfl
 have aD:j<U.length:=by rw [I.len];exact (yu.mp hj).1
 have cne:=I.cne
 obtain ⟨oL,_,_,gp,_⟩:=id hn
 refine wpAny_nameGoes_keeps hk hn fH λh' v fC hs=>?_
 refine h _ ⟨I.ok,I.os,I.bare,⟨λb o e n hb hx=>?_,λb o e n hb hx=>?_,I.base.free,λb o e hx=>?_,I.base.tups,I.base.frzs,I.base.tbls⟩,⟨_,fC,λi y v' e1 e2 e3=>?_⟩,λy c e=>?_,I.free,I.freeC,λp hp=>?_,λb ob e=>?_,by simpa using I.len⟩
 ·exact (hs.2 b (yw (y9 (yc e) I.ok.above))).trans (I.base.keep b o e n hb hx)
 ·obtain ⟨sl,e1⟩:=I.base.slot b o e n hb hx
  exact ⟨sl,(hs.2 b (yw (y9 (yc e) I.ok.above))).trans e1⟩
 ·obtain ⟨o',e1⟩:=I.base.there b o e hx
  exact ⟨o',(hs.2 b (yw (y9 (yc e) I.ok.above))).trans e1⟩
 ·by_cases hi:i=j
  ·subst hi
   rw [jf aD] at e2
   cases e2
  ·rw [yN (yL hi)] at e2
   obtain ⟨u',r',q⟩:=hl i y v' e1 e2 e3
   refine ⟨u',r',?_⟩
   rcases q with ⟨k,e⟩|⟨k,c,e,z⟩
   ·refine .inl ⟨k,?_⟩
    have:y≠n:=λe=>hi (vb hN e1 (e▸hj))
    simp [this,e]
   ·exact .inr ⟨k,c,e,z.sameBut hs (cne y c e)⟩
 ·obtain ⟨w',z⟩:=I.cell y c e
  exact ⟨w',z.sameBut hs (cne y c e)⟩
 ·obtain ⟨e,n,ne,nf,d⟩:=I.pin p hp
  exact ⟨(hs.2 p.1 ne).trans e,n,ne,nf,d⟩
 ·refine (I.hok b ob e).stay (λc w' hc q=>(hs.2 c ?_).trans q) (λ_ q=>q) λ_ _ q=>q
  rintro rfl
  rcases hc with rfl|hc
  ·rw [I.free] at e;cases e
  ·rw [I.free] at hc;cases hc
end
def N2 (C:Addr) (i j:Nat) (tv:TX) (tsu:TS):TS:=λD U H=>tv U H (λv H1=>D.nx (U.set i (some v)) H1)
 (λc d H1=>c=.ref C/\∀a,H1 a=none->tsu { nx:=λah H'=>D.nx (ah.set j none) H',rt:=λ_ _=>False } (U.set j (some (.ref a))) (upd H1 a (eP C d a)))
def N3 {X:Cx}{C:Addr}{i j:Nat}{x n cls:Str}{value:Expr}{tv:TX}{tsu:TS}{b0:Stmt}{bF:List Stmt}{xp ap cp hp pos:Pos}(hN:X.N.Nodup) (hi:X.N[i]?=some x) (hx:Loc X.env.scope x) (hj:X.N[j]?=some n) (hn:X.env.scope.names.lookup n=some .local)
  (hv:PX X value tv) (hg:Gl X cls) (hm:X.mg cls=some (.ref C)) (hC:dH X.K C) (ia:∀a,ck (X.caught a) (b0::bF) tsu) (b8:X.stack=X.env::X.outer) (cL:X.env.frame=some X.env.locals)
  (d8:swapsWith value (some (.Name x xp)) ap.line X.env=pure false:=by rfl) (hf:X.fn x=true\/X.env.scope.names.lookup x=some .local:=by first|exact .inl rfl|exact .inr rfl|assumption) (bK:(cls==("__debug__" : Str))=false:=by decide) :
  PS X (.Try [.Assign [.Name x xp] value ap] [.ExceptHandler (some (.Name cls cp)) (some n) (b0::bF) hp] [] [] pos) (N2 C i j tv tsu):=by
 intro pins s U H D I h
 rw [arm_exec_Try]
 refine zm (wpAny_standAt (wpAny_tryStmt_except (wpAny_execs_cons (wpAny_Assign_Name (yT (hv pins s U H _ _ I h) (λv s1 ⟨y,H1,I1,r1,q1⟩=>mi I1 hN hi hx r1 (λs2 I2=>?_) hf) (λu s1 ⟨a,C',d,H1,eu,I1,vZ,ec,q⟩=>?_)) d8))))
 ·exact wpAny_execs_nil (wpAny_execs_nil ⟨_,H1,I2,q1⟩)
 subst eu
 cases ec
 refine vW I1 I.ok.frames b8 cL vZ λs2 T I2 x2 ne oJ oa oT=>oF I2 x2 ne oJ oa oT λs3 I3 x3 k8=>?_
 refine wpAny_handleBy_cons (codeAny_handlers_test ?_) (by intro q;cases q)
 refine iP (X:=X.caught a) (Inv.caught I3 a) hg hm ?_ bK
 obtain ⟨⟨nm,q',N,bs,bm,cu,sn,sub,ab,col,dd,k0,k1,k2,k3,k5,hl,ht,_⟩,_⟩:=hC
 have mF:=I3.kIn _ _ hl
 have bf:bm.contains (.type "BaseException")=true:=(tail_of_in I3.kIn ht).hasType (by decide)
 obtain ⟨oe,vs,he,fH,_⟩:=id x3
 refine wpAny_excMatches_sub_self (h:=s3.heap) (g:=s3.gens) (d:=s3.drawn) (t:=s3.toks) (os:=s3.os) mF he fH bf ?_
 refine codeAny_handlers_suite_as (oF I3 x3 ne k8 oa oT λs4 I4 x4 N4=>?_)
 have I5:=Inv.catch I4 oa x4
 refine mi I5 hN hj (.inl hn) (v:=.ref a) rfl (λs5 I6=>?_) (.inr hn)
 refine yT (ia a pins s5 _ _ _ (Inv.caught I6 a) (q a oa.1)) (λf s6 z=>?_) λ_ _ z=>z.elim
 cases f with
 |next =>
  obtain ⟨ah,H',I7,q7⟩:=z
  exact N1 (Inv.uncaught I.ok I7) hN hj hn λs7 I8=>⟨_,H',I8,q7⟩
 |brk=>obtain ⟨_,_,_,z⟩:=z;exact z.elim
 |cont=>obtain ⟨_,_,_,z⟩:=z;exact z.elim
 |ret u=>obtain ⟨_,_,_,_,_,z⟩:=z;exact z.elim
section
variable {X:Cx} {pins:Ac} {U:St} {H:Hp} {s:Shared} {a C d:Addr} {fs:List (Str×V)}
def N5 (I:Inv X pins U H s) (ha:H a=some (eP C (some d) a)) (hd:H d=some (.xd fs)):∃ox od,InstAt s.heap a ox C (some od)/\∀n,∃o,lookIn n od=some o/\bQ (fs.lookup n) o:=by
 obtain ⟨T,oe,vs,e,hc,mE,v5,_⟩:=(show aX X.prog X.w H s.heap a (eP C (some d) a) from I.hok a _ ha).1
 obtain ⟨mA,hn,r⟩:=(show aX X.prog X.w H s.heap d (.xd fs) from I.hok d _ hd)
 obtain ⟨od,ho,hl⟩:=CG hn
 refine ⟨oe,od,⟨e,hc,by unfold notCls;rw [v5],by rw [mE];exact ho⟩,λn=>⟨mA n,hl n,r n⟩⟩
end
def eO.mk' {K:Frag}{C B N f:Addr}{nm q:Str}{bs:Af}{cu:Bool}{sn:Ad}{sub:Af}{ab:Bool}{col:Option Bool}{dd:Option Addr}{k0 k1 k2 k3 k5:Option Value}{c:Value}{d:Option Addr}{es:Array DictEntry}{n:Nat}{sl:Array (Option Value)}
  (hC:K.lookup C=some (excClassObj nm q C N bs (.ref B::cv) cu sn sub ab col dd k0 k1 k2 k3 k5 "ValueError.__new__")) (hB:excIn K B cv "ValueError.__new__" = true)
  (hN:K.lookup N=some ⟨c,d,.dict es n,sl⟩) (he:(es.all λe=>match e.key with | .str _ _=>true|_=>false)=true) (hi:nsIn K N "__init__" = some (some (.ref f))) (fn:isFn K (.ref f)=true) (kp:keepIn K (.ref C)=true):eO K C f:=by
 refine ⟨⟨nm,q,N,bs,_,cu,sn,sub,ab,col,dd,k0,k1,k2,k3,k5,hC,?_,?_,hi⟩,fn,kp⟩
 ·unfold excIn at hB
  split at hB
  ·rename_i dd cd sl ho
   split at hB
   ·simp only [y4,beq_iff_eq,Bool.not_eq_true'] at hB
    obtain ⟨⟨_,hok⟩,i5⟩:=hB
    unfold tailIn
    dsimp only
    rw [ho]
    have t0:tailIn K cv cv=true:=by unfold tailIn;rw [beq_self_eq_true,Bool.true_or]
    simp only [hok,i5,beq_self_eq_true,Bool.true_and,t0,Bool.or_true]
   ·cases hB
  ·cases hB
 ·unfold nsOkIn
  rw [hN]
  exact he
def N6 (X:Cx) (CX:dv) (k:Nat) (f:Addr) (sp:Sp):Prop:=∃fd ps,bh X.prog X.w X.K X.mg X.base CX k f fd ps sp/\keepIn X.K (.ref f)=true/\Binds X.K fd ps []
def N7 (X:Cx) (CX:dv) (k:Nat) (E:XK) (tf:TE) (t:TA):TE:=λU H Q=>tf U H λv H0=>∃f sp,v=.ref f/\N6 X CX k f sp/\t U H0 λvs H1=>sp vs H1 Q E
def N8 {X:Cx}{CX:dv}{k:Nat}{E:XK}{x:Str}{p pos:Pos}{e:Expr}{es:List Expr}{tf:TE}{t:TA}(hf:PE X (.Name x p) tf) (hr:aZ k X.A) (hx:Passes CX X E) (ha:PA X (e::es) t)
  (he:starEach (e::es) X.env=(false,eval e X.env)::starEach es X.env:=by rfl) (bu:(backTo pos (starEach es X.env)).any (·.1)=false:=by rfl):PE X (.Call (.Name x p) (e::es) [] pos) (N7 X CX k E tf t):=by
 intro pins s U H Q I h
 refine wpAny_Call_Name_kw (aR (hf pins s U H _ I h) λu s1 gg=>?_)
 obtain ⟨v,H0,I0,rv,f,sp,ev,⟨fd,ps,F,hk,hb⟩,q⟩:=gg
 subst ev
 obtain rfl:u=Value.ref f:=rv
 refine PySem.W.callWith_K (h₀:=X.base) I.ok.mod.kin hk (aR (ha pos pins s1 U H0 _ I0 q) λus s2 ⟨vs,H1,I1,r,q1⟩=>⟨I1.kIn,?_⟩) he bu
 exact rq F hr hb .nil hx I1 r (by rw [List.append_nil];exact q1)
section
variable {prog:Program} {w:World} {A:Around} {E:Aa} {h:Heap} {g:Array GenState} {d:Drawn} {t:Nat} {os:OsState}
variable {nm q:Str} {C N:Addr} {bs bm oG:Af} {cu:Bool} {sn:Ad} {sub:Af} {ab:Bool} {col:Option Bool} {dd:Option Addr} {k0 k1 k2 k3 k5:Option Value} {B newId h_:String}
def N9 (F:ExcBaseFacts B newId h_ oG) (T:OwnTail h oG bm) {mN:Ab}{rest:Af}{Q:Aa}
  (hC:h.get? C=some (excClassObj nm q C N bs bm cu sn sub ab col dd k0 k1 k2 k3 k5 newId)) (hn:h.Ns N mN) (i5:mN "__init__" = none) (d7:rest.length<=sizeLine)
  (hq:∀h',(∀b o,h.get? b=some o->h'.get? b=some o)->(∃t,h'.get? (h.objs.size+1)=some { cls:=.ref C,data:=.fields #[.ref t,.none,.none,.none,.bool false,.none] })->Q (.ref (h.objs.size+1)) ⟨h',g,d,t,os⟩) :
  wpAny (model prog w) A (call (.ref C) rest) Q E ⟨h,g,d,t,os⟩:=by
 have u1:=tc_lookup
 have u2:=tc_bind (.ref C)
 have hT:(⟨h,g,d,t,os⟩:Shared).TypeIs (.ref C) "type" := ⟨_,hC,rfl⟩
 refine wpAny_call (codeAny_of_tree ?_)
 show wpAny _ _ (callAny (.ref C) _) _ _ _
 repeat (any_goals (first|assumption|with_reducible refine wpAny_loadPart_at hC ?_|wp_step))
 refine ⟨rfl,codeAny_call_builtin_at (Code.quiet_builtin _ (by decide +kernel)) entry_typeCall (wpAny_check_type_call_sub hC ?_)⟩
 repeat (first|with_reducible refine wpAny_loadPart_at hC ?_|with_reducible refine wpAny_madeBy_exc hC ?_|wp_step)
 refine codeAny_call_builtin_code (Code.quiet_builtin _ F.quiet) (wpAny_check_new_subT F T hC (codeAny_exc_new_subT F T hC ?_ d7))
 change wpAny (model prog w) _ _ _ _ ⟨(h.push { cls:=.type "tuple", data:=.seq rest.toArray }).push { cls:=.ref C,data:=.fields #[.ref h.objs.size,.none,.none,.none,.bool false,.none] },g,d,t,os⟩
 have gx:((h.push { cls:=.type "tuple", data:=.seq rest.toArray }).push { cls:=.ref C,data:=.fields #[.ref h.objs.size,.none,.none,.none,.bool false,.none] }).get? (h.objs.size+1)=some { cls:=.ref C,data:=.fields #[.ref h.objs.size,.none,.none,.none,.bool false,.none] }:=by heap_get
 have DI:((h.push { cls:=.type "tuple", data:=.seq rest.toArray }).push { cls:=.ref C,data:=.fields #[.ref h.objs.size,.none,.none,.none,.bool false,.none] }).objs.size=h.objs.size+2:=by rw [Heap.size_push,Heap.size_push]
 have kp:∀b o,h.get? b=some o->((h.push { cls:=.type "tuple", data:=.seq rest.toArray }).push { cls:=.ref C,data:=.fields #[.ref h.objs.size,.none,.none,.none,.bool false,.none] }).get? b=some o:=λb o e=>zU _ (zU _ e)
 generalize (h.push { cls:=.type "tuple", data:=.seq rest.toArray }).push { cls:=.ref C,data:=.fields #[.ref h.objs.size,.none,.none,.none,.bool false,.none] }=h2 at gx kp DI ⊢
 have C2:=kp _ _ hC
 have T2:=T.keeps kp
 have n2:=hn.keeps kp
 have cC:(Value.ref C::bm).contains (.ref C)=true:=by simp
 unfold isInstance
 repeat (first|with_reducible refine wpAny_loadPart_at gx ?_|(with_reducible refine wpAny_isSubtype_exc C2 ?_;rw [cC])|wp_step)
 show wpAny _ _ (typeLookup (.ref C) _) _ _ _
 refine wpAny_typeLookup_tail C2 n2 T2 F.mroIs F.init.lookup ?_
 rw [i5]
 refine jZ (zm (wpAny_of_eq (F.init.bind _) ?_))
 refine zm (wpAny_call (codeAny_call_builtin F.init.plain F.initEntry (wpAny_check_init_subT F T2 C2 gx rfl ?_)))
 wp_walk
 refine hq _ (λb o hb=>?_) ⟨h2.objs.size,?_⟩
 ·rw [ww _ _ (Nat.ne_of_gt (Nat.lt_succ_of_lt (yc hb)))]
  exact zU _ (kp _ _ hb)
 ·rw [Heap.get?_update_self _ (zU _ gx) rfl]
  rfl
end
def dI (C:Addr) (Er:XK):TS:=λ_ _ H=>Er (.ref C) none H
def N_ {X:Cx} {C:Addr} {x:Str} {np aK pos:Pos} {Er:XK} (q:excIn X.K C cv "ValueError.__new__" = true) (kp:keepIn X.K (.ref C)=true) (hg:Gl X x) (hm:X.mg x=some (.ref C)) (ht:Throws X Er) (hc:X.calm=true) (bK:(x==("__debug__" : Str))=false:=by decide) :
  PS X (.Raise (some (.Call (.Name x np) [] [] aK)) none pos) (dI C Er):=by
 intro pins s U H D I h
 unfold excIn at q
 split at q
 ·rename_i dd cd sl ho
  split at q
  ·rename_i C' bm k0 k1 k2 k3 n k5 dJ hs
   simp only [y4,beq_iff_eq,Bool.not_eq_true'] at q
   obtain ⟨⟨⟨⟨⟨rfl,rfl⟩,i6⟩,rL⟩,hok⟩,i5⟩:=q
   obtain ⟨nm,bs,mro,ns,qn,hd,sn,sub,ab,col,del⟩:=cd
   dsimp only at dJ i6 hok i5
   subst dJ i6
   have v7:sl=#[k0,k1,k2,k3,some (.builtin "ValueError.__new__"),k5]:=Array.toList_inj.mp hs
   subst v7
   have T:=tail_of_in I.kIn rL
   have ex:dH X.K C':=⟨⟨nm,qn,ns,bs,bm,hd,sn,sub,ab,col,dd,k0,k1,k2,k3,k5,ho,rL,hok⟩,kp⟩
   rw [arm_exec_Raise]
   refine zm (wpAny_standAt ?_)
   refine DR (K:=X.K) (I.ok.hd hc) ?_
   refine zm (wpAny_Call_Name_kw (iP I hg hm ?_ bK))
   refine PySem.W.callWith_K0 I.kIn kp ?_
   refine N9 (h:=s.heap) (g:=s.gens) (d:=s.drawn) (t:=s.toks) (os:=s.os) PySem.F.excBase_ValueError T (I.kIn _ _ ho) (mN:=s.heap.nsMap ns) (.of_isNs (isNs_of_in I.kIn hok)) (nsMap_none_of_in I.kIn hok i5) (jh _) λh' kk ⟨t,hx⟩=>?_
   refine zm (wpAny_standAt (zK ?_))
   have I1:Inv X pins U H { s with heap:=h',toks:=s.toks }:=I.kept kk
   have hz:s.heap.objs.size<=s.heap.objs.size+1:=Nat.le_succ _
   exact ⟨_,C',t,none,rfl,I1.kIn,ex,hx,ht pins U H _ _ C' none I1 ⟨.none,⟨_,_,hx,rfl,rfl,rfl,rfl,rfl⟩,a0.new I hz (I.hok.fresh hz),.inl rfl⟩ h⟩
  ·cases q
 ·cases q
end L2
namespace L2
open PySem PySem.Spec PyProof.Rows PySem.W
def v8 (X:Cx) (pins:Ac) (H:Hp) (h:Heap) (a C:Addr) (d:Option Addr):Prop :=
 ∃T,XO h a (.ref C) d (.ref T)/\T≠a/\TB h T (rawInt X.env.locals)/\a0 X pins H a/\a0 X pins H T
def v9 (X:Cx) (pins:Ac) (H:Hp) (h:Heap) (a C:Addr) (d:Option Addr):Prop:=rK X pins H h a C d\/v8 X pins H h a C d
def j0 (X:Cx) (E:XK):Prop:=∀(pins:Ac) (U:St) (H:Hp) (s:Shared) (a C:Addr) (d:Option Addr),Inv X pins U H s->v9 X pins H s.heap a C d->E (.ref C) d H->X.xe (.ref a) s
def j0.one {X:Cx}{E:XK}(t:j0 X E):Throws X E:=λpins U H s a C d I F q=>t pins U H s a C d I (.inl F) q
def XA (X:Cx) (Er:XK) (e:Value) (s:Shared):Prop:=∃(pins:Ac) (U:St) (H:Hp) (a C:Addr) (d:Option Addr),e=.ref a/\Inv X pins U H s/\v9 X pins H s.heap a C d/\Er (.ref C) d H
section
variable {X:Cx} {pins:Ac} {U:St} {H:Hp} {s:Shared} {a C:Addr} {d:Option Addr} {A:Around} {E:Aa} {Q:Unit->Shared->Prop} {Er:XK}
def zL:j0 (X.wish (XA X Er)) Er:=λpins U H s a C d I F q=>⟨pins,U,H,a,C,d,rfl,I.unwish,F,q⟩
def DW (I:Inv X pins U H s) (cL:A.frames=some X.stack) (b8:X.stack=X.env::X.outer) (hf:X.env.frame=some X.env.locals) (F:v9 X pins H s.heap a C d)
  (h:∀s' T,Inv X pins U H s'->XO s'.heap a (.ref C) d (.ref T)->T≠a->TB s'.heap T (rawInt X.env.locals)->a0 X pins H a->a0 X pins H T->Q () s'):wpAny (model X.prog X.w) A (noteFrame (.ref a) X.env) Q E s:=by
 rcases F with F|⟨T,x,ne,tb,oa,oT⟩
 ·exact vW I cL b8 hf F h
 ·obtain ⟨oe,vs,e,_,_,hd,_,h1⟩:=id x
  obtain ⟨ot,ts,et,v5,h3⟩:=id tb
  unfold noteFrame
  simp only [hf]
  refine zm (y8 e hd h1 ?_)
  rw [zp (show (Value.ref T != Value.none)=true by simp)]
  refine zm (y8 et v5 h3 ?_)
  rw [zp (by simp)]
  exact zK (h s T I x ne tb oa oT)
def Oa {T f:Addr}{fl:Value}(x:XO s.heap a (.ref C) d (.ref T)) (t:TB s.heap T fl) (ne:T≠a)
  (h:∀h',XO h' a (.ref C) d (.ref T)->TB h' T (rawInt f)->(∀b o,b≠T->s.heap.get? b=some o->h'.get? b=some o)->Q () { s with heap:=h' }) {M:Model}:wpAny M A (setFlight (.ref a) (some f)) Q E s:=by
 obtain ⟨oe,vs,e,_,_,hd,_,h1⟩:=id x
 obtain ⟨oT,ts,eT,hdT,h3⟩:=id t
 unfold setFlight
 refine zm (y8 e hd h1 ?_)
 rw [zp (show (Value.ref T != Value.none)=true by simp)]
 refine wpAny_setField eT hdT (Array.getElem?_eq_some_iff.mp h3).1 ?_
 exact h _ (x.keeps λo q=>(ww _ _ ne).trans q) (t.set3 _) λb o nb q=>(ww _ _ (yL nb)).trans q
def jS (b8:X.stack=X.env::X.outer) (hf:X.env.frame=some X.env.locals):PassesOwn (model X.prog X.w) X.A X.env (XA X Er):=by
 rintro e s ⟨pins,U,H,a,C,d,rfl,I,F,q⟩
 unfold notedBy
 refine DW I I.ok.frames b8 hf F λs2 T I2 x2 ne oJ oa oT=>?_
 unfold cameBackBy
 obtain ⟨oe,vs,e2,_,_,hd,_,h1⟩:=id x2
 refine zm (y8 e2 hd h1 ?_)
 rw [zD (show ¬((Value.ref T==Value.none)=true) by simp),hf]
 refine Oa x2 oJ ne λh' x3 k8 k3=>⟨pins,U,H,a,C,d,rfl,?_,.inr ⟨T,x3,ne,k8,oa,oT⟩,q⟩
 exact I2.turned (t':=s2.toks) (it:=T) (λb o nb e=>k3 b o nb e) oT.1 oT.2.2.1 (.inr oT.2.1) oT.2.2.2.1 oT.2.2.2.2
def ck.throwing {st:List Stmt}{t:TS}(h:ck (X.wish (XA X Er)) st t) (ht:j0 X Er):ck X st t:=λpins s U H D I hw =>
 yT (h pins s U H D (I.wish _) hw) (λ_ _ q=>q.unwish) λe s' ⟨pins,U,H,a,C,d,ee,I1,F,q⟩=>ee▸ht pins U H s' a C d I1 F q
def mG (t:j0 X Er):Passes (b9 X.prog X.w) X Er:=NI t.one
end
def Oc {P:Program}{w:World}{K:PySem.W.Frag}{mg:Ab}{base:Heap}{N:Ad}{qual:Str}{scope:Scope}{f:Addr}{cd:Value}{A:Around}{outer:List Env}{s:Shared}{H:Hp}{E:XK} :
  j0 (cZ (b9 P w) P w K mg base N qual scope f cd A outer s H E) E:=by
 intro pins U H1 s1 a C d I F q
 show wpAny (model P w) (A.deeper (envOfC qual scope s.heap.objs.size f cd)) (leaving (envOfC qual scope s.heap.objs.size f cd) (.ref a)) _ _ s1
 unfold leaving
 refine zm (DW I I.ok.frames rfl rfl F λs2 T I2 x ne tb oa oT=>oF I2 x ne tb oa oT λs3 I3 x3 k8=>?_)
 exact ⟨a,C,T,d,H1,rfl,I3.os,I3.bare,I3.base,I3.hok,x3,ne,k8,⟨oa.2.1,oa.1⟩,⟨oT.2.1,oT.1⟩,q⟩
section
variable {P:Program} {w:World} {K:PySem.W.Frag} {mg:Ab} {base:Heap}
def dw.okT {x qual:Str}{st:Stmt}{f:Addr}{fd:FuncData}{N ps:Ad}{k:Nat}{sp:Sp}(F:dw K x qual st f fd) (S:aq N ps (zE st)) (len:∀vs H Q E,sp vs H Q E->vs.length=ps.length)
  (d5:∀(aV:Value) (A:Around) (outer:List Env) (s:Shared) (H:Hp) (vs:List V) (Q:VK) (E:XK),aZ k (A.deeper (envOfC qual (zE st) s.heap.objs.size f aV))->sp vs H Q E ->
   ∃t,ck ((cZ (b9 P w) P w K mg base N qual (zE st) f aV A outer s H E).wish (XA (cZ (b9 P w) P w K mg base N qual (zE st) f aV A outer s H E) E)) (ji st) t/\t { nx:=λ_ H'=>Q .non H',rt:=Q } (start N vs) H):bh P w K mg base (b9 P w) (k+1) f fd ps sp :=
 dw.okX F S len λaV A outer s H vs Q E hr hs=>let ⟨t,h1,h2⟩:=d5 aV A outer s H vs Q E hr hs;⟨t,ck.throwing h1 Oc,h2⟩
end
end L2
namespace L2
open PySem PySem.Spec PyProof.Rows PySem.W PySem.Builtin PySem.Builtin.ObjectAttr
section
variable {prog:Program} {w:World} {A:Around} {E:Aa} {K:Frag} {x C:Addr} {s:Shared} {ox:Obj} {od:Option Obj} {name:Str} {tk:Tok}
structure gZ (K:Frag) (C:Addr):Prop where
 ga:findIn K (.ref C) "__getattribute__" = some (some (.builtin "BaseException.__getattribute__"))
 hk:findIn K (.ref C) "__getattr__" = some none
 hB:mroIn K C (.type "BaseException")=some true
def Od {fill expr:Bool}{Q:Aa}(X:K.In s.heap) (I:InstAt s.heap x ox C od) (G:gZ K C)
  (h:wpAny (model prog w) A.in1 (Builtin.«object.__getattribute__» ⟨[.ref x,.str name tk],[]⟩) (λfin s'=>∃v,fin=.done (.ret v)/\handedIn v=true/\Q v s') (λ_ _=>False) s) :
  wpAny (model prog w) A (getAttrBy (.ref x) (.str name tk) fill expr) Q E s:=by
 have L0:=I.type (M:=model prog w)
 have L1:=looks_findIn (M:=model prog w) X G.ga
 have L2:=looks_findIn (M:=model prog w) X G.hk
 have Oe:Looks (model prog w) s.heap (isInstance (.ref x) (.type "BaseException")) true:=I.type.andThen (looks_mroIn X G.hB)
 unfold getAttrBy
 refine jZ (zm (L0.here (zm (L1.here ?_))))
 dsimp only
 rw [zD (show ¬((onTheHeap (Value.ref C)&&Value.builtin "BaseException.__getattribute__" == Value.builtin "object.__getattribute__")=true) by
  rw [show (Value.builtin "BaseException.__getattribute__" == Value.builtin "object.__getattribute__")=false by decide +kernel,Bool.and_false];exact Bool.false_ne_true)]
 unfold getAttrByItsOwn hookBefore
 rw [zp (show onTheHeap (Value.ref C)=true from rfl)]
 refine zm (L2.here (zm (wpAny_attempt (jZ ?_))))
 unfold callGetattribute
 rw [zD (show ¬((expr&&onTheHeap (Value.builtin "BaseException.__getattribute__"))=true) by cases expr<;>exact Bool.false_ne_true)]
 unfold boundAndCalled
 refine zm (wpAny_of_eq (PySem.F.excAttr_ValueError.ga.bind (.ref x)) ?_)
 refine wpAny_call (codeAny_call_builtin PySem.F.excAttr_ValueError.ga.plain PySem.F.entry_bexc_ga (@check_slot (model prog w) _ _ s "BaseException.__getattribute__" "BaseException" "__getattribute__" (.ref x) [.str name tk] [] _ (by decide +kernel) (by decide +kernel) Oe (PySem.F.args_bexc_ga (.ref x) (.str name tk)) ?_))
 refine yT h (λfin s' ⟨v,ef,hv,q⟩=>?_) λ_ _ z=>z.elim
 subst ef
 show wpAny _ _ (handedOut v) _ _ _
 rw [handedOut_of hv]
 exact zK q
def Of {v:Value}{Q:Fin->Shared->Prop}(X:K.In s.heap) (I:InstAt s.heap x ox C od) (hf:findObj K C od name=some (.value v)) (h:Q (.done (.ret v)) s) :
  wpAny (model prog w) A (Builtin.«object.__getattribute__» ⟨[.ref x,.str name tk],[]⟩) Q E s:=by
 have L0:=I.type (M:=model prog w)
 have L1:=looks_find (M:=model prog w) X I hf
 exact zm (zK (zm (zK (zm (L0.here (zm (L1.here (zK h))))))))
end
structure oK (K:Frag) (C:Addr):Prop where
 g:gZ K C
 hd:hasDictIn K C=true
 ha:findIn K (.ref C) "__class__" = some (some (.builtin "object.__class__"))
 hn:specialIn K (.builtin "object.__class__") "__get__" = some (some (.builtin "getset_descriptor.__get__"))
 tk:takesIn K (.builtin "object.__class__")=some true
 hm:mroIn K C (.type "object")=some true
section
variable {X:Cx} {pins:Ac} {U:St} {H:Hp} {s:Shared} {a C d:Addr} {fs:List (Str×V)} {A:Around} {E:Aa}
def Og {b:Bool}{f:Str}{v:V}{Q:Aa}(I:Inv X pins U H s) (ha:H a=some (eP C (some d) a)) (hd:H d=some (.xd fs)) (g:gZ X.K C) (hh:hasDictIn X.K C=true) (no:findIn X.K (.ref C) f=some none) (l:fs.lookup f=some v)
  (h:∀u s',Inv X pins U H s'->RelV v u->Q u s'):wpAny (model X.prog X.w) A (getAttr (.ref a) f b) Q E s:=by
 obtain ⟨ox,od,J,hl⟩:=N5 I ha hd
 obtain ⟨o,ho,r⟩:=hl f
 rw [l] at r
 obtain ⟨u,rfl,ru⟩:=bQ.some_of (v:=v) (o:=o) r
 unfold getAttr
 refine zm (wpAny_mkText ?_)
 exact Od (s:={ s with toks:=s.toks+1 }) I.kIn J g (Of (s:={ s with toks:=s.toks+1 }) I.kIn J (findObj_own hh no rfl ho) ⟨u,rfl,CJ ru,h u _ (I.tok _) ru⟩)
end
end L2
namespace L2
open PySem PySem.Spec PyProof.Rows PySem.W
structure k_ (prog:Program) (w:World) (it src:Addr) (xs:Array Value) (St:Nat->Heap->Prop):Prop where
 at_:∀{k h h'},St k h->(∀o,h.get? it=some o->h'.get? it=some o)->(∀o,h.get? src=some o->h'.get? src=some o)->St k h'
 lt:∀{k h},St k h->it<h.objs.size
 item:∀{A:Around} {E:Aa} {s:Shared} {k:Nat} {x:Value} {Q:Aa},St k s.heap->xs[k]?=some x->(∀h',St (k+1) h'->Heap.SameBut it s.heap h'->Q x { s with heap:=h' }) ->
  wpAny (model prog w) A (Builtin.SmallTypes.nextOf (.ref it)) Q E s
 stop:∀{A:Around} {E:Aa} {s:Shared} {k:Nat} {Q:Aa},A.handled=none->St k s.heap->xs[k]?=none ->
  (∀h' e,Heap.ExtBut it s.heap h'->(∃o,h'.get? e=some o/\o.cls=.type "StopIteration")->E (.ref e) { s with heap:=h' })->wpAny (model prog w) A (Builtin.SmallTypes.nextOf (.ref it)) Q E s
def v_ (it t:Addr) (xs:Array Value) (k:Nat) (h:Heap):Prop:=IsTupIter h it t k/\IsTup h t xs
def rM {prog:Program}{w:World}{it t:Addr}{xs:Array Value}(ne:t≠it):k_ prog w it t xs (v_ it t xs) where
 at_:=λ{k h h'} q k1 k2=>by
  obtain ⟨⟨o,ho,r⟩,⟨o',ho',r'⟩⟩:=q
  exact ⟨⟨o,k1 o ho,r⟩,⟨o',k2 o' ho',r'⟩⟩
 lt:=λq=>let ⟨⟨_,ho,_⟩,_⟩:=q;yc ho
 item:=λ{A E s k x Q} q hx hQ=>by
  obtain ⟨hit,ht⟩:=q
  obtain ⟨o,ho,hc,hd⟩:=id hit
  obtain ⟨ol,w_,_,nl,xb⟩:=id ht
  unfold Builtin.SmallTypes.nextOf
  refine zm (wpAny_callSpecial?_slot (name:=Str.ofString "__next__") hit.typeIs slot_tupleiter_next (jQ slot_tupleiter_next hit.typeIs entry_tupleiter_next ?_ (args_tupleiter_next _)))
  change wpAny _ _ (field (.ref it) 0 >>= _) _ _ s
  refine zm (y8 ho hd (x:=.ref t) rfl ?_)
  rw [zD (by simp)]
  change wpAny _ _ (field (.ref it) 1 >>= _) _ _ s
  refine zm (y8 ho hd (x:=.int k 0) rfl ?_)
  change wpAny _ _ (seqItems? (.ref t) >>= _) _ _ s
  refine zm (wpAny_seqItems w_ xb ?_)
  simp only [hx,Int.toNat_natCast]
  have fl:=Obj.data_mapFields hd (·.setIfInBounds 1 (rawInt (k+1)))
  refine zm (wpAny_setField ho hd (by simp) (zK ⟨x,rfl,zK (hQ _ ⟨⟨_,Heap.get?_update_self _ ho (Obj.isFreed_of_fields fl),(Obj.cls_mapFields ..).trans hc,?_⟩,?_⟩ (Heap.SameBut.update ..))⟩))
  ·rw [fl];simp [rawInt]
  ·exact ht.extBut (Heap.SameBut.update ..).extBut ne
 stop:=λ{A E s k Q} hh q hx hE=>by
  obtain ⟨hit,ht⟩:=q
  obtain ⟨o,ho,hc,hd⟩:=id hit
  obtain ⟨ol,w_,_,nl,xb⟩:=id ht
  unfold Builtin.SmallTypes.nextOf
  refine zm (wpAny_callSpecial?_slot (name:=Str.ofString "__next__") hit.typeIs slot_tupleiter_next (jQ slot_tupleiter_next hit.typeIs entry_tupleiter_next ?_ (args_tupleiter_next _)))
  change wpAny _ _ (field (.ref it) 0 >>= _) _ _ s
  refine zm (y8 ho hd (x:=.ref t) rfl ?_)
  rw [zD (by simp)]
  change wpAny _ _ (field (.ref it) 1 >>= _) _ _ s
  refine zm (y8 ho hd (x:=.int k 0) rfl ?_)
  change wpAny _ _ (seqItems? (.ref t) >>= _) _ _ s
  refine zm (wpAny_seqItems w_ xb ?_)
  simp only [hx,Int.toNat_natCast]
  refine zm (wpAny_rule (zm (wpAny_setField ho hd (by simp) ?_)))
  change wpAny _ _ (newExc (.type "StopIteration") [] >>= _) _ _ _
  refine zm ?_
  simp only [newExc,newTuple]
  refine zm (g8 (zm (m:=firstArgMember _ _) (wpAny_of_eq (a:=Value.none) (by first|rfl|(simp only [firstArgMember];rfl)) (g8 ?_ (by size_fits)))) (by size_fits))
  simp only [raiseNew]
  refine zm (wpAny_handled ?_)
  first|rw [show A.in1.handled=none from hh]|rw [hh]
  exact zm (zK (wpAny_throw (hE _ _ (((Heap.SameBut.update ..).extBut.push _).push _) ⟨_,yK _ rfl,rfl⟩)))
section
variable {prog:Program} {w:World} {A:Around} {E:Aa} {s:Shared} {z TI TO i1 i2 t1 t2:Addr} {k:Nat} {xs ys:Array Value} {x y a b:Value} {S1 S2:Nat->Heap->Prop}
def k_.by_same (S:k_ prog w i1 t1 xs S1) {h h':Heap}{c:Addr}(q:S1 k h) (hs:Heap.SameBut c h h') (n1:i1≠c) (n2:t1≠c):S1 k h' :=
 S.at_ q (λo e=>hs.extBut _ _ n1 e) λo e=>hs.extBut _ _ n2 e
def Oh {Q:Aa}(D:ZipApart z TI TO i1 i2 t1 t2) (U1:k_ prog w i1 t1 xs S1) (U2:k_ prog w i2 t2 ys S2) (hz:IsZip s.heap z TI TO .none) (fh:IsPair s.heap TI (.ref i1) (.ref i2)) (eQ:IsPair s.heap TO a b)
  (q1:S1 k s.heap) (q2:S2 k s.heap) (hx:xs[k]?=some x) (hy:ys[k]?=some y)
  (hQ:∀h',IsZip h' z TI TO (rawInt s.heap.objs.size)->IsPair h' TO x y->S1 (k+1) h'->S2 (k+1) h'->IsPair h' s.heap.objs.size x y ->
   (∀c o,c≠z->c≠TO->c≠i1->c≠i2->s.heap.get? c=some o->h'.get? c=some o)->Q (.ref s.heap.objs.size) { s with heap:=h' }) :
  wpAny (model prog w) A (Builtin.«zip.__next__» ⟨[.ref z],[]⟩) (λfin s'=>∃v,fin=.done (.ret v)/\Q v s') E s:=by
 change wpAny _ _ (field (.ref z) 2 >>= _) _ _ _
 refine zm (y8 hz rfl (x:=.bool false) rfl ?_)
 change wpAny _ _ (field (.ref z) 3 >>= _) _ _ _
 refine zm (y8 hz rfl (x:=.ref TI) rfl (zm (wpAny_seqItems fh rfl ?_)))
 change wpAny _ _ (Builtin.SmallTypes.ownedTupleIsFree (.ref z) >>= _) _ _ _
 refine zm ?_
 unfold Builtin.SmallTypes.ownedTupleIsFree
 refine zm (y8 hz rfl (x:=.none) rfl (zK ?_))
 rw [zp rfl]
 refine zm (wpAny_rule (zm (y8 hz rfl (x:=.ref TO) rfl (zm (wpAny_setField_rec hz (by simp) λh1 z1 e1=>?_)))))
 replace z1:IsZip h1 z TI TO .ellipsis:=z1
 refine zm ?_
 simp only [List.zipIdx_cons,List.zipIdx_nil,List.forIn_cons,List.forIn_nil]
 refine zm (zm (wpAny_onRaise ?_))
 change wpAny _ _ (Builtin.SmallTypes.nextOf (.ref i1) >>= _) _ _ _
 refine zm (U1.item (U1.by_same q1 e1 D.i1z D.l1z) hx λh2 p2 e2=>zK ?_)
 have o2:IsPair h2 TO a b:=e2.extBut _ _ D.TOi1 (e1.extBut _ _ D.TOz eQ)
 refine zm (wpAny_seqItems o2 rfl (zm (wpAny_updateSeq_pair o2 λh3 o3 e3=>?_)))
 replace o3:IsPair h3 TO x b:=o3
 refine zm (wpAny_letGo (zK (zm (zm (wpAny_onRaise ?_)))))
 change wpAny _ _ (Builtin.SmallTypes.nextOf (.ref i2) >>= _) _ _ _
 have r3:S2 k h3:=U2.by_same (U2.by_same (U2.by_same q2 e1 D.i2z D.l2z) e2 D.i12.symm D.l2i1) e3 D.TOi2.symm D.l2TO
 refine zm (U2.item r3 hy λh4 p4 e4=>zK ?_)
 have o4:IsPair h4 TO x b:=e4.extBut _ _ D.TOi2 o3
 refine zm (wpAny_seqItems o4 rfl (zm (wpAny_updateSeq_pair o4 λh5 o5 e5=>?_)))
 replace o5:IsPair h5 TO x y:=o5
 refine zm (wpAny_letGo (zK (zK (zm (wpAny_seqItems o5 rfl (zm (wpAny_newTuple ?_)))))))
 have sz:h5.objs.size=s.heap.objs.size:=by rw [e5.1,e4.1,e3.1,e2.1,e1.1]
 have z5:IsZip h5 z TI TO .ellipsis:=e5.extBut _ _ D.TOz.symm (e4.extBut _ _ D.i2z.symm (e3.extBut _ _ D.TOz.symm (e2.extBut _ _ D.i1z.symm z1)))
 have k5:∀c o,c≠z->c≠TO->c≠i1->c≠i2->s.heap.get? c=some o->h5.get? c=some o:=λc o c1 c2 c3 c4 e=>e5.extBut _ _ c2 (e4.extBut _ _ c4 (e3.extBut _ _ c2 (e2.extBut _ _ c3 (e1.extBut _ _ c1 e))))
 have f1:S1 (k+1) h5:=U1.by_same (U1.by_same (U1.by_same p2 e3 D.TOi1.symm D.l1TO) e4 D.i12 D.l1i2) e5 D.TOi1.symm D.l1TO
 have f2:S2 (k+1) h5:=U2.by_same p4 e5 D.TOi2.symm D.l2TO
 change wpAny _ _ (Builtin.SmallTypes.ownedTupleHandOut (.ref z) (.ref h5.objs.size) >>= _) _ _ _
 refine zm ?_
 unfold Builtin.SmallTypes.ownedTupleHandOut
 have z6:IsZip (h5.push { cls:=.type "tuple", data:=.seq #[x,y] }) z TI TO .ellipsis:=zU _ z5
 refine zm (wpAny_setField_rec z6 (by simp) λh7 z7 e7=>?_)
 replace z7:IsZip h7 z TI TO (rawInt h5.objs.size):=z7
 refine wpAny_setField_rec z7 (by simp) λh8 z8 e8=>?_
 replace z8:IsZip h8 z TI TO (rawInt h5.objs.size):=z8
 have up:∀c o,c≠z->h5.get? c=some o->h8.get? c=some o:=λc o c1 e=>e8.extBut _ _ c1 (e7.extBut _ _ c1 (zU _ e))
 have nz:h5.objs.size≠z:=Nat.ne_of_gt (yc z5)
 have pT:IsPair h8 h5.objs.size x y:=e8.extBut _ _ nz (e7.extBut _ _ nz (yK _ rfl))
 rw [sz] at z8 pT
 refine zK ⟨_,rfl,?_⟩
 change Q (.ref h5.objs.size) _
 rw [sz]
 exact hQ h8 z8 (up _ _ D.TOz o5) (U1.at_ f1 (λo e=>up _ o D.i1z e) λo e=>up _ o D.l1z e) (U2.at_ f2 (λo e=>up _ o D.i2z e) λo e=>up _ o D.l2z e) pT λc o c1 c2 c3 c4 e=>up c o c1 (k5 c o c1 c2 c3 c4 e)
def Oi {Q:Fin->Shared->Prop}(hh:A.handled=none) (D:ZipApart z TI TO i1 i2 t1 t2) (U1:k_ prog w i1 t1 xs S1) (U2:k_ prog w i2 t2 ys S2) (hz:IsZip s.heap z TI TO .none) (fh:IsPair s.heap TI (.ref i1) (.ref i2)) (eQ:IsPair s.heap TO a b)
  (q1:S1 k s.heap) (q2:S2 k s.heap) (he:xs[k]?=none\/ys[k]?=none)
  (hE:∀h' e,(∀c o,c≠z->c≠TO->c≠i1->c≠i2->s.heap.get? c=some o->h'.get? c=some o)->(∃o,h'.get? e=some o/\o.cls=.type "StopIteration")->E (.ref e) { s with heap:=h' }) :
  wpAny (model prog w) A (Builtin.«zip.__next__» ⟨[.ref z],[]⟩) Q E s:=by
 change wpAny _ _ (field (.ref z) 2 >>= _) _ _ _
 refine zm (y8 hz rfl (x:=.bool false) rfl ?_)
 change wpAny _ _ (field (.ref z) 3 >>= _) _ _ _
 refine zm (y8 hz rfl (x:=.ref TI) rfl (zm (wpAny_seqItems fh rfl ?_)))
 change wpAny _ _ (Builtin.SmallTypes.ownedTupleIsFree (.ref z) >>= _) _ _ _
 refine zm ?_
 unfold Builtin.SmallTypes.ownedTupleIsFree
 refine zm (y8 hz rfl (x:=.none) rfl (zK ?_))
 rw [zp rfl]
 refine zm (wpAny_rule (zm (y8 hz rfl (x:=.ref TO) rfl (zm (wpAny_setField_rec hz (by simp) λh1 z1 e1=>?_)))))
 replace z1:IsZip h1 z TI TO .ellipsis:=z1
 refine zm ?_
 simp only [List.zipIdx_cons,List.zipIdx_nil,List.forIn_cons,List.forIn_nil]
 refine zm (zm (wpAny_onRaise ?_))
 change wpAny _ _ (Builtin.SmallTypes.nextOf (.ref i1) >>= _) _ _ _
 have p1:=U1.by_same q1 e1 D.i1z D.l1z
 have DX:∀{h:Heap} {e:Addr} {oe:Obj},IsZip h z TI TO .ellipsis->h.get? e=some oe->oe.cls=.type "StopIteration" -> e≠z:=λiz ho hc x=>by
  rw [x,iz] at ho
  cases ho
  simp at hc
 cases hx:xs[k]? with
 |none =>
  refine zm (U1.stop hh p1 hx λh2 e e2 ⟨oe,oM,oN⟩=>?_)
  have z2:IsZip h2 z TI TO .ellipsis:=e2 _ _ D.i1z.symm z1
  exact wpAny_setField_rec z2 (by simp) λh3 _ e3=>hE h3 e (λc o c1 _ c3 _ x=>e3.extBut _ _ c1 (e2 _ _ c3 (e1.extBut _ _ c1 x))) ⟨oe,e3.extBut _ _ (DX z2 oM oN) oM,oN⟩
 |some x =>
  have hy:ys[k]?=none:=by
   rcases he with h|h
   ·rw [hx] at h;cases h
   ·exact h
  refine zm (U1.item p1 hx λh2 p2 e2=>zK ?_)
  have o2:IsPair h2 TO a b:=e2.extBut _ _ D.TOi1 (e1.extBut _ _ D.TOz eQ)
  refine zm (wpAny_seqItems o2 rfl (zm (wpAny_updateSeq_pair o2 λh3 o3 e3=>?_)))
  refine zm (wpAny_letGo (zK (zm (zm (wpAny_onRaise ?_)))))
  change wpAny _ _ (Builtin.SmallTypes.nextOf (.ref i2) >>= _) _ _ _
  have r3:S2 k h3:=U2.by_same (U2.by_same (U2.by_same q2 e1 D.i2z D.l2z) e2 D.i12.symm D.l2i1) e3 D.TOi2.symm D.l2TO
  refine zm (U2.stop hh r3 hy λh4 e e4 ⟨oe,oM,oN⟩=>?_)
  have z4:IsZip h4 z TI TO .ellipsis:=e4 _ _ D.i2z.symm (e3.extBut _ _ D.TOz.symm (e2.extBut _ _ D.i1z.symm z1))
  exact wpAny_setField_rec z4 (by simp) λh5 _ e5=>hE h5 e (λc o c1 c2 c3 c4 x=>e5.extBut _ _ c1 (e4 _ _ c4 (e3.extBut _ _ c2 (e2.extBut _ _ c3 (e1.extBut _ _ c1 x))))) ⟨oe,e5.extBut _ _ (DX z4 oM oN) oM,oN⟩
end
section
variable {X:Cx} {pins:Ac} {U:St} {H:Hp} {s:Shared} {h':Heap}
def Inv.turnL {ch:Ae}{t':Nat}(I:Inv X pins U H s) (hc:∀b∈ch,cO X pins H b) (k:∀b o,b∉ch->s.heap.get? b=some o->h'.get? b=some o):Inv X pins U H { s with heap:=h',toks:=t' }:=by
 have fG:∀b u,H b=some u->b∉ch:=λb u e z=>by rw [(hc b z).1] at e;cases e
 refine I.step (g':=s.gens) (d':=s.drawn) (ch:=ch) (λb hb=>?_) (λb o _ _ nb e _=>k b o nb e) (λb o _ _ nb e _=>⟨o.slots,k b o nb e⟩) (λ_ _ _ _ n=>n)
  (λb o nb e=>⟨o,k b o nb e⟩) (λ_ _ e=>e) (λ_ _ _ e=>e) (λb ps e=>⟨#[],by rw [e];simp⟩) (λm hm=>?_) (λb u e=>?_) I.bare
 ·obtain ⟨_,f1,_,f3,f4,f5⟩:=hc b hb
  exact ⟨f3,f1,f4,f5⟩
 ·obtain ⟨o,es,ep,ho,r⟩:=hm
  exact ⟨o,es,ep,k _ o (λz=>(hc _ z).2.1 rfl) ho,r⟩
 ·refine (I.hok b u e).stay (λc v cA q=>k c v ?_ q) (λ_ q=>q) λ_ _ q=>q
  rcases cA with z|z
  ·rw [z];exact fG b u e
  ·exact fG c _ z
def Inv.turnN {ch:Ae}{T:Addr}{o:HO}{t':Nat}(I:Inv X pins U H s) (hc:∀b∈ch,cO X pins H b) (k:∀b o,b∉ch->s.heap.get? b=some o->h'.get? b=some o) (hT:s.heap.objs.size<=T)
  (new:aX X.prog X.w (upd H T o) h' T o):Inv X pins U (upd H T o) { s with heap:=h',toks:=t' }:=by
 have fT:H T=none:=I.hok.fresh hT
 have fG:∀b u,H b=some u->b∉ch:=λb u e z=>by rw [(hc b z).1] at e;cases e
 have nT:∀b u,H b=some u->b≠T:=λb u e z=>by rw [z,fT] at e;cases e
 refine I.step (g':=s.gens) (d':=s.drawn) (ch:=ch) (λb hb=>?_) (λb o _ _ nb e _=>k b o nb e) (λb o _ _ nb e _=>⟨o.slots,k b o nb e⟩) (λb u _ e n=>?_)
  (λb o nb e=>⟨o,k b o nb e⟩) (λb xs e=>?_) (λb u v e=>?_) (λb ps e=>⟨#[],?_⟩) (λm hm=>?_) (λb u e=>?_) I.bare
 ·obtain ⟨_,f1,_,f3,f4,f5⟩:=hc b hb
  exact ⟨f3,f1,f4,f5⟩
 ·rw [zO (yw (y9 (yc e) hT))];exact n
 ·rw [zO (nT b _ e)];exact e
 ·rw [zO (nT b _ e)];exact e
 ·rw [zO (nT b _ e),e];simp
 ·obtain ⟨o,es,ep,ho,r⟩:=hm
  exact ⟨o,es,ep,k _ o (λz=>(hc _ z).2.1 rfl) ho,r⟩
 ·by_cases z:b=T
  ·rw [z] at e ⊢
   rw [yv] at e
   cases e
   exact new
  ·rw [zO z] at e
   refine (I.hok b u e).stay (λc v cA q=>k c v ?_ q) (λc q=>by rw [zO (nT c _ q)];exact q) λc xs q=>by rw [zO (nT c _ q)];exact q
   rcases cA with z|z
   ·rw [z];exact fG b u e
   ·exact fG c _ z
end
def xf (K:Frag) (a b:Addr):It :=
 ⟨λi H=>∃xs ys x y,bC K H a xs/\bC K H b ys/\xs[i]?=some x/\ys[i]?=some y,
  λi H v H'=>∃T x y,H T=none/\v=.ref T/\H'=upd H T (.tup [x,y])/\(∀xs,bC K H a xs->xs[i]?=some x)/\∀ys,bC K H b ys->ys[i]?=some y,
  λi H=>∃xs ys,bC K H a xs/\bC K H b ys/\(xs.length<=i\/ys.length<=i)⟩
def DY (z TI TO i1 i2 a b:Addr) (k:Nat) (h:Heap):Prop:=IsZip h z TI TO .none/\IsPair h TI (.ref i1) (.ref i2)/\(∃u v,IsPair h TO u v)/\IsTupIter h i1 a k/\IsTupIter h i2 b k
def rN {X:Cx}{pins:Ac}{U:St}{H:Hp}{s:Shared}{a c:Addr}{xs:List V}(I:Inv X pins U H s) (hf:cO X pins H c) (hq:bC X.K H a xs):a≠c:=by
 rintro rfl
 rcases hq with q|⟨o,its,n,hl,_⟩
 ·rcases q with q|⟨ob,q⟩<;>(rw [hf.1] at q;cases q)
 ·have e:=I.ok.mod.kin _ _ hl
  rcases hf.2.2.2.1 with z|z
  ·exact I.ok.noex _ _ e z
  ·exact absurd (y9 (yc (I.ok.bs _ _ e).1) z) (Nat.lt_irrefl _)
structure DZ (z TI TO i1 i2:Addr):Prop where
 TIz:TI≠z
 TOz:TO≠z
 i1z:i1≠z
 i2z:i2≠z
 TITO:TI≠TO
 TIi1:TI≠i1
 TIi2:TI≠i2
 TOi1:TO≠i1
 TOi2:TO≠i2
 i12:i1≠i2
def Oj {P:Program}{w:World}{K:Frag}{elts:List Expr}{kt:Nat}{pos:Pos}{z TI TO i1 i2 a b:Addr}(V5:DZ z TI TO i1 i2):Turn P w K (.Tuple elts kt pos) (xf K a b) [z,TI,TO,i1,i2] z (DY z TI TO i1 i2 a b) where
 mem:=by simp
 obj:=λi h st c hc=>by
  obtain ⟨hz,fh,⟨u,v,eQ⟩,⟨o1,e1,_,d1⟩,⟨o2,e2,_,d2⟩⟩:=st
  simp only [yE,List.not_mem_nil,or_false] at hc
  rcases hc with q|q|q|q|q<;>rw [q]
  ·exact ⟨_,hz,λv z=>by cases z⟩
  ·exact ⟨_,fh,λv z=>by cases z⟩
  ·exact ⟨_,eQ,λv z=>by cases z⟩
  ·exact ⟨_,e1,λv z=>by rw [d1] at z;cases z⟩
  ·exact ⟨_,e2,λv z=>by rw [d2] at z;cases z⟩
 keep:=λi h h' st k=>by
  obtain ⟨hz,fh,⟨u,v,eQ⟩,⟨o1,e1,r1⟩,⟨o2,e2,r2⟩⟩:=st
  exact ⟨k z (by simp) _ hz,k TI (by simp) _ fh,⟨u,v,k TO (by simp) _ eQ⟩,⟨o1,k i1 (by simp) _ e1,r1⟩,⟨o2,k i2 (by simp) _ e2,r2⟩⟩
 item:=by
  intro X hP hw hK hc i pins s U H E I hf st hg
  subst hP hw hK
  obtain ⟨xs,ys,x,y,c7,dU,hx,hy⟩:=hg
  obtain ⟨hz,fh,⟨u0,v0,eQ⟩,rO,oO⟩:=st
  obtain ⟨uW,xg,p1,_⟩:=I.tuple c7
  obtain ⟨aS,xh,p2,_⟩:=I.tuple dU
  obtain ⟨u,hu,ru⟩:=xg.get hx
  obtain ⟨v,hv,rv⟩:=xh.get hy
  have n1:∀c∈[z,TI,TO,i1,i2],a≠c:=λc h=>rN I (hf c h) c7
  have n2:∀c∈[z,TI,TO,i1,i2],b≠c:=λc h=>rN I (hf c h) dU
  have D:ZipApart z TI TO i1 i2 a b:=⟨V5.TIz,V5.TOz,V5.i1z,V5.i2z,V5.TITO,V5.TIi1,V5.TIi2,V5.TOi1,V5.TOi2,V5.i12,n1 z (by simp),n1 TO (by simp),n1 i1 (by simp),n1 i2 (by simp),n2 z (by simp),n2 TO (by simp),n2 i1 (by simp),n2 i2 (by simp)⟩
  have hT:s.TypeIs (.ref z) "zip" := ⟨_,hz,rfl⟩
  unfold pyNext
  refine zm (wpAny_attempt (wpAny_callSpecial?_slot (name:=Str.ofString "__next__") hT F.slot_zip_next (jQ F.slot_zip_next hT F.entry_zip_next
   (Oh D (rM D.l1i1) (rM D.l2i2) hz fh eQ ⟨rO,p1⟩ ⟨oO,p2⟩ (by simpa using hu) (by simpa using hv) λh1 z1 o1 f1 f2 pT kk=>zK ⟨_,rfl,?_⟩) (F.args_zip_next_1 _))))
  refine wpAny_letOwnedTupleGo_zip (s:={ s with heap:=h1 }) z1 λh2 z2 e2=>?_
  have fr:H s.heap.objs.size=none:=I.hok.fresh (z0 _)
  have up:∀c o,c≠z->h1.get? c=some o->h2.get? c=some o:=λc o n e=>e2.extBut _ _ n e
  have nz:s.heap.objs.size≠z:=Nat.ne_of_gt (yc hz)
  have k2:∀c o,c∉[z,TI,TO,i1,i2]->s.heap.get? c=some o->h2.get? c=some o:=λc o nc e =>
   up c o (λq=>nc (by simp [q])) (kk c o (λq=>nc (by simp [q])) (λq=>nc (by simp [q])) (λq=>nc (by simp [q])) (λq=>nc (by simp [q])) e)
  refine ⟨.ref s.heap.objs.size,upd H s.heap.objs.size (.tup [x,y]),?_,rfl,⟨s.heap.objs.size,x,y,fr,rfl,rfl,λb_ h'=>by rw [I.tuple_inj h' c7];exact hx,λbO h'=>by rw [I.tuple_inj h' dU];exact hy⟩,?_,λc cA=>?_⟩
  ·exact Inv.turnN (s:=s) (h':=h2) (t':=s.toks) I hf k2 (z0 _) ⟨show 2<=sizeLine by decide,[u,v],.cons ru (.cons rv .nil),_,up _ _ nz pT,rfl,_,rfl⟩
  ·exact ⟨z2,up _ _ D.TIz (kk _ _ D.TIz D.TITO D.TIi1 D.TIi2 fh),⟨_,_,up _ _ D.TOz o1⟩,(let ⟨o,e,r⟩:=f1.1;⟨o,up _ _ D.i1z e,r⟩),(let ⟨o,e,r⟩:=f2.1;⟨o,up _ _ D.i2z e,r⟩)⟩
  ·have q:c≠s.heap.objs.size:=by
    have lt:∃o,s.heap.get? c=some o:=by
     simp only [yE,List.not_mem_nil,or_false] at cA
     rcases cA with q|q|q|q|q<;>rw [q]
     ·exact ⟨_,hz⟩
     ·exact ⟨_,fh⟩
     ·exact ⟨_,eQ⟩
     ·exact let ⟨o,e,_⟩:=rO;⟨o,e⟩
     ·exact let ⟨o,e,_⟩:=oO;⟨o,e⟩
    obtain ⟨o,e⟩:=lt
    exact yw (yc e)
   rw [zO q]
   exact (hf c cA).1
 done:=by
  intro X hP hw hK hc i pins s U H E I hf st hg
  subst hP hw hK
  obtain ⟨xs,ys,c7,dU,hx⟩:=hg
  obtain ⟨hz,fh,⟨u0,v0,eQ⟩,rO,oO⟩:=st
  obtain ⟨uW,xg,p1,_⟩:=I.tuple c7
  obtain ⟨aS,xh,p2,_⟩:=I.tuple dU
  have l1:=xg.length
  have l2:=xh.length
  have n1:∀c∈[z,TI,TO,i1,i2],a≠c:=λc h=>rN I (hf c h) c7
  have n2:∀c∈[z,TI,TO,i1,i2],b≠c:=λc h=>rN I (hf c h) dU
  have D:ZipApart z TI TO i1 i2 a b:=⟨V5.TIz,V5.TOz,V5.i1z,V5.i2z,V5.TITO,V5.TIi1,V5.TIi2,V5.TOi1,V5.TOi2,V5.i12,n1 z (by simp),n1 TO (by simp),n1 i1 (by simp),n1 i2 (by simp),n2 z (by simp),n2 TO (by simp),n2 i1 (by simp),n2 i2 (by simp)⟩
  have hT:s.TypeIs (.ref z) "zip" := ⟨_,hz,rfl⟩
  unfold pyNext
  refine zm (wpAny_attempt (wpAny_callSpecial?_slot (name:=Str.ofString "__next__") hT F.slot_zip_next (jQ F.slot_zip_next hT F.entry_zip_next
   (Oi (I.ok.hd hc) D (rM D.l1i1) (rM D.l2i2) hz fh eQ ⟨rO,p1⟩ ⟨oO,p2⟩ (hx.imp (λh=>by simp;omega) λh=>by simp;omega) λh1 e kk he=>?_) (F.args_zip_next_1 _))))
  obtain ⟨o,ho,Ol⟩:=he
  refine zm (wpAny_isInstance (T := "StopIteration") (b:=true) ⟨o,ho,Ol⟩ isSubtype_stop ?_)
  exact zK ⟨rfl,Inv.turnL (t':=s.toks) I hf λc o nc e=>kk c o (λq=>nc (by simp [q])) (λq=>nc (by simp [q])) (λq=>nc (by simp [q])) (λq=>nc (by simp [q])) e⟩
 self:=λ_ _ _ _ _ st h=>wpAny_pyIter_zip st.1 h
abbrev rP (h:Heap) (a:Addr):Heap:=h.push { cls:=.type "tuple_iterator", data:=.fields #[.ref a,.int 0 0] }
abbrev rQ (h:Heap) (a b:Addr):Heap:=(rP h a).push { cls:=.type "tuple_iterator", data:=.fields #[.ref b,.int 0 0] }
abbrev rR (h:Heap) (a b:Addr):Heap:=(rQ h a b).push { cls:=.type "tuple", data:=.seq #[.ref h.objs.size,.ref (rP h a).objs.size] }
abbrev rS (h:Heap) (a b:Addr):Heap:=(rR h a b).push { cls:=.type "tuple", data:=.seq #[.none,.none] }
abbrev ib (h:Heap) (a b:Addr):Heap:=(rS h a b).push { cls:=.type "zip", data:=.fields #[.none,.bool false,.bool false,.ref (rQ h a b).objs.size,.ref (rR h a b).objs.size] }
def Om (a b:Addr) (xs ys:Array Value) :
  Meets (Builtin.«zip.__new__» ⟨[.type "zip", .ref a,.ref b],[]⟩) (λ_ R s=>IsTup s.heap a xs/\IsTup s.heap b ys/\R (.ok (.ret (.ref (rS s.heap a b).objs.size))) { s with heap:=ib s.heap a b }) :=
 .of_wp λprog w A R s h=>by
  obtain ⟨hp,g,d,tk,os⟩:=s
  obtain ⟨h1,h2,h⟩:=h
  have WY:=sub_zip
  have H1:IsTup (Shared.heap ⟨hp,g,d,tk,os⟩) a xs:=h1
  have H2:IsTup (Shared.heap ⟨hp.push { cls:=.type "tuple_iterator", data:=.fields #[.ref a,.int 0 0] },g,d,tk,os⟩) b ys:=h2.push _
  wp_walk using iter_tuple H1,iter_tuple H2
  exact ⟨_,rfl,h⟩
section
variable {prog:Program} {w:World} {A:Around} {E:Aa} {s:Shared}
def Oo {a b:Addr}{xs ys:Array Value}{Q:Aa}(h1:IsTup s.heap a xs) (h2:IsTup s.heap b ys)
  (h:DY (s.heap.objs.size+4) (s.heap.objs.size+2) (s.heap.objs.size+3) s.heap.objs.size (s.heap.objs.size+1) a b 0 (ib s.heap a b)->Q (.ref (s.heap.objs.size+4)) { s with heap:=ib s.heap a b }) :
  wpAny (model prog w) A (call (.type "zip") [.ref a,.ref b]) Q E s:=by
 refine callType_new F.called_zip (by decide) (F.typeCall_zip_2 _ _) (F.newCall_zip_2 _ _) (λobj=>F.args_object_init_3 obj _ _) F.entry_zip_new (Om a b xs ys) ⟨h1,h2,?_⟩
 have z1:(rP s.heap a).objs.size=s.heap.objs.size+1:=Heap.size_push ..
 have z2:(rQ s.heap a b).objs.size=s.heap.objs.size+2:=by rw [Heap.size_push,z1]
 have z3:(rR s.heap a b).objs.size=s.heap.objs.size+3:=by rw [Heap.size_push,z2]
 have z4:(rS s.heap a b).objs.size=s.heap.objs.size+4:=by rw [Heap.size_push,z3]
 have g5:(ib s.heap a b).get? (rS s.heap a b).objs.size=some _:=yK _ rfl
 have g4:(ib s.heap a b).get? (rR s.heap a b).objs.size=some _:=zU _ (yK _ rfl)
 have g3:(ib s.heap a b).get? (rQ s.heap a b).objs.size=some _:=zU _ (zU _ (yK _ rfl))
 have g2:(ib s.heap a b).get? (rP s.heap a).objs.size=some _:=zU _ (zU _ (zU _ (yK _ rfl)))
 have g1:(ib s.heap a b).get? s.heap.objs.size=some _:=zU _ (zU _ (zU _ (zU _ (yK _ rfl))))
 show _/\_
 rw [z2,z3,z4] at g5
 rw [z1,z2] at g3
 rw [z3] at g4
 rw [z1] at g2
 rw [z4]
 exact ⟨⟨_,g5,rfl⟩,h ⟨g5,g3,⟨_,_,g4⟩,⟨_,g1,rfl,rfl⟩,⟨_,g2,rfl,rfl⟩⟩⟩
end
def Oq:bootBuiltins "zip" = some (.type "zip"):=by decide +kernel
def Ot (K:Frag) (ta:TA):TI:=λU H R=>ta U H λvs H1=>∃a b,vs=[.ref a,.ref b]/\(∃xs,bC K H1 a xs)/\(∃ys,bC K H1 b ys)/\R (xf K a b) H1
def Ou {X:Cx} {elts:List Expr} {kt:Nat} {tp:Pos} {x y:Expr} {ta:TA} {p pos:Pos} (hg:Gl X "zip") (hm:X.mg "zip" = none) (ha:PA X [x,y] ta) (hs:starEach [x,y] X.env=[(false,eval x X.env),(false,eval y X.env)]:=by rfl) (gq:starEach [y] X.env=[(false,eval y X.env)]:=by rfl) :
  PI X (.Tuple elts kt tp) (.Call (.Name "zip" p) [x,y] [] pos) (Ot X.K ta):=by
 intro pins s U H R I h
 refine Call_ (kH I hg hm Oq (PyProof.Rows.callWith_type1 (aR (ha pos pins s U H _ I h) λus s1 ⟨vs,H1,I1,r1,q1⟩=>?_) (by rw [hs,gq]) (by rw [gq];rfl)))
 obtain ⟨a,b,e,⟨xs,c7⟩,⟨ys,dU⟩,q⟩:=q1
 subst e
 obtain ⟨u,v,rfl,ru,rv⟩:=nY r1
 obtain rfl:u=Value.ref a:=ru
 obtain rfl:v=Value.ref b:=rv
 obtain ⟨uW,_,p1,_⟩:=I1.tuple c7
 obtain ⟨aS,_,p2,_⟩:=I1.tuple dU
 refine Oo p1 p2 λst=>wpAny_pyIter_zip st.1 ?_
 have kk:∀c o,s1.heap.get? c=some o->(ib s1.heap a b).get? c=some o:=λc o e=>zU _ (zU _ (zU _ (zU _ (zU _ e))))
 refine ⟨_,[s1.heap.objs.size+4,s1.heap.objs.size+2,s1.heap.objs.size+3,s1.heap.objs.size,s1.heap.objs.size+1],_,_,H1,rfl,I1.kept (t':=s1.toks) kk,Oj ?_,st,λc hc=>?_,q⟩
 ·have ne:∀(n i j:Nat),i≠j->n+i≠n+j:=λn i j h z=>h (Nat.add_left_cancel z)
  have rT:∀(n i:Nat),i≠0->n+i≠n:=λn i h z=>h (by omega)
  exact ⟨ne _ 2 4 (by decide),ne _ 3 4 (by decide),(rT _ 4 (by decide)).symm,ne _ 1 4 (by decide),ne _ 2 3 (by decide),rT _ 2 (by decide),ne _ 2 1 (by decide),rT _ 3 (by decide),ne _ 3 1 (by decide),(rT _ 1 (by decide)).symm⟩
 ·have le:s1.heap.objs.size<=c:=by
   simp only [yE,List.not_mem_nil,or_false] at hc
   rcases hc with q|q|q|q|q<;>rw [q]<;>first|exact z0 _|exact Nat.le_add_right _ _
  exact I1.fpOk le (I1.hok.fresh le)
structure KD (X:Cx) (a:Addr):Prop where
 ob:∃es n,X.K.lookup a=some ⟨.type "dict", none,.dict es n,#[]⟩/\KeysLit X.w.params es.toList
 no:(a==sysModules)=false
section
variable {X:Cx}
def Ov:e_ X (λx y H Q=>∃a z u v,x=.ref a/\y=.str z/\KD X a/\nsIn X.K a z=some (some u)/\RelV v u/\Q v H):=by
 intro a b pins s U H x y v u Q I rx ry h hs
 obtain ⟨p,z,u',v',rfl,rfl,⟨⟨es,n,hl,hk⟩,_⟩,e,rv,q⟩:=h
 obtain rfl:v=Value.ref p:=rx
 obtain ⟨t,rfl⟩:=ry
 obtain ⟨m,F⟩:=I.fr
 exact topItem_K F I.ok.mod.kin hl hk e ⟨v',H,I.tok _,rv,q⟩ hs
def Ow:bq X (compareOp .NotIn) (λx y H Q=>∃a z r,x=.str z/\y=.ref a/\KD X a/\nsIn X.K a z=some r/\Q (.bl (!r.isSome)) H):=by
 intro pins s U H x y v u Q I rx ry h
 obtain ⟨p,z,r,rfl,rfl,⟨⟨es,n,hl,hk⟩,no⟩,e,q⟩:=h
 obtain rfl:u=Value.ref p:=ry
 obtain ⟨t,rfl⟩:=rx
 refine wpAny_notIn_of (strKind_is X.prog X.w z t) no (mapOf_K (prog:=X.prog) I.kIn hl hk) ?_
 rw [find_K hl e]
 exact ⟨.bl (!r.isSome),H,I.tok _,rfl,q⟩
end
end L2
namespace Mi
open PySem L2 PySem.W
inductive PV where
 |non|bl (b:Bool)|int (i:Int)|str (x:Str)|ty (n:String)
 |tup (xs:List PV)|frl (xs:List PV)|ref (n:Nat)|fn (x:Str)|kd (ks:Ad) (xs:List PV)|exo (c:Str) (ks:Ad) (xs:List PV)
inductive SO where
 |lst (xs:List PV)|dic (ks:Ad) (xs:List PV)|ins (c:Str) (ks:Ad) (xs:List PV)|fdi (ks:Ad) (xs:List PV)|dit (ks:List (List Key)) (xs:List PV)
abbrev aa:=List SO
inductive Res (α:Type) where
 |ok (a:α) (st:aa)|err (c:Str) (ks:Ad) (xs:List PV) (st:aa)|stuck
abbrev Mo (α:Type):=aa->Res α
noncomputable def Res.bind {α β:Type}:Res α->(α->Mo β)->Res β
 |.ok a st,f=>f a st
 |.err c ks xs st,_=>.err c ks xs st
 |.stuck,_=>.stuck
abbrev zd:=List (Option PV)
def Ox (K:Frag) (a:Addr) (ks:Ad) (us:Af):Prop:=∀z,nsIn K a z=some ((ks.zip us).lookup z)
def ic (K:Frag) (H:Hp) (a:Addr) (vs:List V):Prop :=
 (∃o,H a=some (.frz o (.lst vs)))\/∃(o:Obj) (its:Array Value) (n:Nat),K.lookup a=some o/\o.cls=.type "list" /\ o.dict=none/\o.data=.seq its n/\its.size<=sizeLine/\Vals vs its.toList
def ic.sq {K:Frag}{H:Hp}{a:Addr}{vs:List V}(h:ic K H a vs):ba K H a vs:=by
 rcases h with ⟨o,h⟩|h
 ·exact .inl (.inr ⟨o,h⟩)
 ·exact .inr h
section
variable (K:Frag) (mg:Ab)
mutual
def R (ρ:Ae) (H:Hp):PV->V->Prop
 |.non,v=>v=.non
 |.bl b,v=>v=.bl b
 |.int i,v=>v=.int i
 |.str x,v=>v=.str x
 |.ty n,v=>v=.ty n
 |.tup xs,v=>∃a vs,v=.ref a/\bC K H a vs/\Rs ρ H xs vs
 |.frl xs,v=>∃a vs,v=.ref a/\ic K H a vs/\Rs ρ H xs vs
 |.ref n,v=>∃a,v=.ref a/\ρ[n]?=some a
 |.fn x,v=>∃f,v=.ref f/\mg x=some (.ref f)
 |.kd ks xs,v=>∃a us vs,v=.ref a/\Ox K a ks us/\Vals vs us/\Rs ρ H xs vs
 |.exo c ks xs,v=>∃a C,v=.ref a/\mg c=some (.ref C)/\((ks=[]/\H a=some (eP C none a))\/∃d vs,H a=some (eP C (some d) a)/\H d=some (.xd (ks.zip vs))/\Rs ρ H xs vs/\ks.length=vs.length)
def Rs (ρ:Ae) (H:Hp):List PV->List V->Prop
 |[],vs=>vs=[]
 |x::xs,vs=>∃v r,vs=v::r/\R ρ H x v/\Rs ρ H xs r
end
def dE (a:Addr) (its:List (List Key×Addr×Value)):HO:=.ext λP w h=>its.length<=sizeLine/\(a==sysModules)=false /\
 ∃o es ep,h.get? a=some o/\o.ExactDict/\o.data=.dict es ep/\es.toList=its.map (entryOfKey (tupleKind (aU P w)))/\(its.map (·.1)).Nodup
def fD (ρ:Ae) (H:Hp):SO->Addr->Prop
 |.lst xs,a=>∃vs,H a=some (.lst vs)/\Rs K mg ρ H xs vs
 |.dic ks xs,a=>∃vs,H a=some (.dK ((ks.map Sum.inr).zip vs))/\Rs K mg ρ H xs vs/\ks.length=vs.length
 |.ins c ks xs,a=>∃C dx vs,mg c=some (.ref C)/\H a=some (.ins C dx (ks.zip vs))/\Rs K mg ρ H xs vs/\ks.length=vs.length
 |.fdi ks xs,a=>∃o vs,H a=some (.frz o (.dK ((ks.map Sum.inr).zip vs)))/\Rs K mg ρ H xs vs/\ks.length=vs.length
 |.dit ks xs,a=>∃its vs,H a=some (dE a its)/\its.map (·.1)=ks/\(∀x,x∈its->bC K H x.2.1 (x.1.map kV))/\Vals vs (its.map (·.2.2))/\Rs K mg ρ H xs vs
structure a_ (ρ:Ae) (H:Hp) (st:aa):Prop where
 len:ρ.length=st.length
 nd:ρ.Nodup
 at_:∀(n:Nat) so,st[n]?=some so->∃a,ρ[n]?=some a/\fD K mg ρ H so a
def Still (φ:Program->World->Heap->Prop):Prop:=∀P w,∃h:Heap,φ P w h/\∀b o es ep,h.get? b=some o->o.data ≠ .dict es ep
open Classical in
def xi:HO->Bool
 |.tup _=>true
 |.frz _ _=>true
 |.xd _=>true
 |.ext φ=>decide (Still φ)
 |_=>false
structure Ext (ρ:Ae) (H:Hp) (ag:Ae) (H':Hp):Prop where
 pre:∃δ,ag=ρ++δ
 imm:∀a o,H a=some o->xi o=true->H' a=some o
def D0 {C:Addr}{d:Option Addr}{a:Addr}:xi (eP C d a)=true:=by
 have st:Still λ_ _ h=>∃T:Addr,XO h a (.ref C) d (.ref T):=λP w=>by
  have g:∀b,(Heap.mk (Array.replicate (a+1) { cls:=.ref C,dict:=d,data:=.fields #[.none,.ref 0,.none,.none,.none,.none] }) {}).get? b=if b<a+1 then some { cls:=.ref C,dict:=d,data:=.fields #[.none,.ref 0,.none,.none,.none,.none] } else none:=by
   intro b
   unfold Heap.get?
   by_cases hb:b<a+1
   ·simp [Array.getElem?_replicate,hb]
   ·simp [Array.getElem?_replicate,hb]
  refine ⟨_,⟨0,_,_,(g a).trans (zp (wy a)),rfl,rfl,rfl,rfl,rfl⟩,λb o es ep e=>?_⟩
  rw [g b] at e
  split at e
  ·cases e;intro z;cases z
  ·cases e
 exact @decide_eq_true _ (Classical.propDecidable _) st
def XR (ρ:Ae) (H:Hp) (c:Str) (ks:Ad) (xs:List PV) (Cv:Value) (d:Option Addr):Prop :=
 ∃C,Cv=.ref C/\mg c=some (.ref C)/\((ks=[]/\d=none)\/∃dd vs,d=some dd/\H dd=some (.xd (ks.zip vs))/\Rs K mg ρ H xs vs/\ks.length=vs.length)
def Out {α:Type}(ρ:Ae) (H:Hp) (r:Res α) (good:List Addr->Hp->α->aa->Prop) (E:XK):Prop :=
 match r with
 |.ok x st=>∀ag H',Ext ρ H ag H'->a_ K mg ag H' st->good ag H' x st
 |.err c ks xs st=>∀ag H' C d,Ext ρ H ag H'->a_ K mg ag H' st->XR K mg ag H' c ks xs C d->E C d H'
 |.stuck=>False
structure bp (ρ:Ae) (H:Hp) (env:zd) (U:St):Prop where
 len:env.length=U.length
 at_:∀(i:Nat) x,env[i]?=some (some x)->∃v,U[i]?=some (some v)/\R K mg ρ H x v
def gV (Q:VK):List Addr->Hp->PV->aa->Prop:=fun ρ H x _=>∀v,R K mg ρ H x v->Q v H
def Oy (Q:List V->Hp->Prop):List Addr->Hp->List PV->aa->Prop:=fun ρ H x _=>∀v,Rs K mg ρ H x v->Q v H
def gB (Q:Bool->Hp->Prop):List Addr->Hp->Bool->aa->Prop:=λ_ H x _=>Q x H
inductive Fl where
 |nx (env:zd)|rt (x:PV)|bk (env:zd)|ct (env:zd)
abbrev Ah:=zd->Mo (List PV)
abbrev Ai:=zd->Mo PV
abbrev Aj:=zd->Mo Fl
abbrev Ak:=zd->Mo Bool
abbrev Al:=List PV->Mo PV
abbrev Am:=PV->PV->Mo PV
abbrev An:=List PV
abbrev Ao:=Option PV
def gS (D:Ends):List Addr->Hp->Fl->aa->Prop:=fun ρ H x _ =>
 match x with
 |.nx env=>∀U,bp K mg ρ H env U->D.nx U H
 |.rt x=>∀v,R K mg ρ H x v->D.rt v H
 |.bk env=>∀U,bp K mg ρ H env U->D.bk U H
 |.ct env=>∀U,bp K mg ρ H env U->D.ct U H
end
section
variable {K:Frag} {mg:Ab} {ρ ae am:Ae} {H H1 H2:Hp}
def Ext.refl:Ext ρ H ρ H:=⟨⟨[],by simp⟩,λ_ _ h _=>h⟩
def Ext.trans (a:Ext ρ H ae H1) (b:Ext ae H1 am H2):Ext ρ H am H2:=by
 obtain ⟨⟨d,hd⟩,i⟩:=a
 obtain ⟨⟨d',aY⟩,i'⟩:=b
 exact ⟨⟨d++d',by rw [aY,hd,qX]⟩,λa o h m=>i' a o (i a o h m) m⟩
def Ext.get (a:Ext ρ H ae H1) {n:Nat}{p:Addr}(h:ρ[n]?=some p):ae[n]?=some p:=by
 obtain ⟨⟨d,hd⟩,_⟩:=a
 rw [hd,iK (yu.mp h).1]
 exact h
def Ext.sqT (e:Ext ρ H ae H1) {a:Addr}{xs:List V}(h:bC K H a xs):bC K H1 a xs:=by
 rcases h with (h|⟨o,h⟩)|h
 ·exact .inl (.inl (e.imm _ _ h rfl))
 ·exact .inl (.inr ⟨o,e.imm _ _ h rfl⟩)
 ·exact .inr h
def Ext.frl (e:Ext ρ H ae H1) {a:Addr}{xs:List V}(h:ic K H a xs):ic K H1 a xs:=by
 rcases h with ⟨o,h⟩|h
 ·exact .inl ⟨o,e.imm _ _ h rfl⟩
 ·exact .inr h
mutual
theorem R.ext (e:Ext ρ H ae H1):∀(x:PV) {v:V},R K mg ρ H x v->R K mg ae H1 x v
 |.non,_,h=>h
 |.bl _,_,h=>h
 |.int _,_,h=>h
 |.str _,_,h=>h
 |.ty _,_,h=>h
 |.tup xs,_,h=>by
  obtain ⟨a,vs,h1,h2,h3⟩:=h
  exact ⟨a,vs,h1,e.sqT h2,Rs.ext e xs h3⟩
 |.frl xs,_,h=>by
  obtain ⟨a,vs,h1,h2,h3⟩:=h
  exact ⟨a,vs,h1,e.frl h2,Rs.ext e xs h3⟩
 |.ref n,_,h=>by
  obtain ⟨a,h1,h2⟩:=h
  exact ⟨a,h1,e.get h2⟩
 |.fn _,_,h=>h
 |.kd ks xs,_,h=>by
  obtain ⟨a,us,vs,h1,h2,h4,h3⟩:=h
  exact ⟨a,us,vs,h1,h2,h4,Rs.ext e xs h3⟩
 |.exo c ks xs,_,h=>by
  obtain ⟨a,C,h1,h2,⟨h3,h4⟩|⟨d,vs,h3,h4,h5,h6⟩⟩:=h
  ·exact ⟨a,C,h1,h2,.inl ⟨h3,e.imm _ _ h4 D0⟩⟩
  ·exact ⟨a,C,h1,h2,.inr ⟨d,vs,e.imm _ _ h3 D0,e.imm _ _ h4 rfl,Rs.ext e xs h5,h6⟩⟩
theorem Rs.ext (e:Ext ρ H ae H1):∀(xs:An) {vs:List V},Rs K mg ρ H xs vs->Rs K mg ae H1 xs vs
 |[],_,h=>h
 |x::xs,_,h=>by
  obtain ⟨v,r,h1,h2,h3⟩:=h
  exact ⟨v,r,h1,R.ext e x h2,Rs.ext e xs h3⟩
end
theorem bp.ext (e:Ext ρ H ae H1) {env:zd}{U:St}(h:bp K mg ρ H env U):bp K mg ae H1 env U :=
 ⟨h.len,λi x hx=>let ⟨v,a,b⟩:=h.at_ i x hx;⟨v,a,R.ext e x b⟩⟩
theorem Rs.len:∀{xs:An}{vs:List V},Rs K mg ρ H xs vs->xs.length=vs.length
 |[],_,h=>by cases h;rfl
 |x::xs,_,h=>by
  obtain ⟨v,r,rfl,_,h3⟩:=h
  simp [Rs.len h3]
theorem Rs.get:∀{xs:An}{vs:List V}{i:Nat}{x:PV},Rs K mg ρ H xs vs->xs[i]?=some x->∃v,vs[i]?=some v/\R K mg ρ H x v
 |[],_,_,_,_,e=>by simp at e
 |x::xs,_,0,_,h,e=>by
  obtain ⟨v,r,rfl,h2,h3⟩:=h
  simp at e
  subst e
  exact ⟨v,by simp,h2⟩
 |x::xs,_,i+1,y,h,e=>by
  obtain ⟨v,r,rfl,h2,h3⟩:=h
  simp at e
  obtain ⟨v',h4,h5⟩:=Rs.get h3 e
  exact ⟨v',by simpa using h4,h5⟩
theorem Rs.append:∀{xs ys:An}{vs ws:List V},Rs K mg ρ H xs vs->Rs K mg ρ H ys ws->Rs K mg ρ H (xs++ys) (vs++ws)
 |[],_,_,_,h,h'=>by cases h;exact h'
 |x::xs,_,_,_,h,h'=>by
  obtain ⟨v,r,rfl,h2,h3⟩:=h
  exact ⟨v,r++_,rfl,h2,Rs.append h3 h'⟩
theorem Rs.take:∀{xs:An}{vs:List V}(n:Nat),Rs K mg ρ H xs vs->Rs K mg ρ H (xs.take n) (vs.take n)
 |[],_,n,h=>by cases h;simp [Rs]
 |x::xs,_,0,h=>by simp [Rs]
 |x::xs,_,n+1,h=>by
  obtain ⟨v,r,rfl,h2,h3⟩:=h
  exact ⟨v,_,rfl,h2,Rs.take n h3⟩
theorem Rs.drop:∀{xs:An}{vs:List V}(n:Nat),Rs K mg ρ H xs vs->Rs K mg ρ H (xs.drop n) (vs.drop n)
 |[],_,n,h=>by cases h;simp [Rs]
 |x::xs,_,0,h=>h
 |x::xs,_,n+1,h=>by
  obtain ⟨v,r,rfl,h2,h3⟩:=h
  exact Rs.drop n h3
theorem Rs.set:∀{xs:An}{vs:List V}{x:PV}{v:V}(i:Nat),Rs K mg ρ H xs vs->R K mg ρ H x v->Rs K mg ρ H (xs.set i x) (vs.set i v)
 |[],_,_,_,i,h,_=>by cases h;simp [Rs]
 |x::xs,_,_,_,0,h,q=>by
  obtain ⟨v,r,rfl,h2,h3⟩:=h
  exact ⟨_,_,rfl,q,h3⟩
 |x::xs,_,_,_,i+1,h,q=>by
  obtain ⟨v,r,rfl,h2,h3⟩:=h
  exact ⟨_,_,rfl,h2,Rs.set i h3 q⟩
theorem bp.set {env:zd}{U:St}{x:PV}{v:V}(h:bp K mg ρ H env U) (i:Nat) (r:R K mg ρ H x v):bp K mg ρ H (env.set i (some x)) (U.set i (some v)):=by
 refine ⟨by simp [h.len],λj y hy=>?_⟩
 rw [List.getElem?_set] at hy ⊢
 by_cases cM:i=j
 ·subst cM
  by_cases hl:i<env.length
  ·rw [zp rfl,zp hl] at hy
   rw [zp rfl,zp (by rw [<-h.len];exact hl)]
   cases hy
   exact ⟨v,rfl,r⟩
  ·rw [zp rfl,zD hl] at hy
   cases hy
 ·rw [zD cM] at hy ⊢
  exact h.at_ j y hy
def bp.unset {env:zd}{U:St}(h:bp K mg ρ H env U) (i:Nat):bp K mg ρ H (env.set i none) (U.set i none):=by
 refine ⟨by simp [h.len],λj y hy=>?_⟩
 rw [List.getElem?_set] at hy ⊢
 by_cases cM:i=j
 ·subst cM
  by_cases hl:i<env.length
  ·rw [zp rfl,zp hl] at hy
   cases hy
  ·rw [zp rfl,zD hl] at hy
   cases hy
 ·rw [zD cM] at hy ⊢
  exact h.at_ j y hy
def bp.cons {env:zd}{U:St}{x:PV}{v:V}(h:bp K mg ρ H env U) (r:R K mg ρ H x v):bp K mg ρ H (some x::env) (some v::U):=by
 refine ⟨by simp [h.len],λj y hy=>?_⟩
 cases j with
 |zero=>simp at hy;subst hy;exact ⟨v,by simp,r⟩
 |succ j=>simp at hy;simpa using h.at_ j y hy
def a_.addr {st:aa}{n:Nat}{so:SO}(s:a_ K mg ρ H st) (e:st[n]?=some so) {a:Addr}(ha:ρ[n]?=some a):fD K mg ρ H so a:=by
 obtain ⟨b,hb,h⟩:=s.at_ n so e
 rw [ha] at hb
 cases hb
 exact h
theorem fD.some {so:SO}{a:Addr}(h:fD K mg ρ H so a):∃o,H a=some o/\True:=by
 cases so with
 |lst xs=>obtain ⟨vs,h,_⟩:=h;exact ⟨_,h,trivial⟩
 |dic ks xs=>obtain ⟨vs,h,_⟩:=h;exact ⟨_,h,trivial⟩
 |ins c ks xs=>obtain ⟨C,dx,vs,_,h,_⟩:=h;exact ⟨_,h,trivial⟩
 |fdi ks xs=>obtain ⟨o,vs,h,_⟩:=h;exact ⟨_,h,trivial⟩
 |dit ks xs=>obtain ⟨its,vs,h,_⟩:=h;exact ⟨_,h,trivial⟩
def a_.in_ {st:aa}{n:Nat}{a:Addr}(s:a_ K mg ρ H st) (h:ρ[n]?=some a):∃so,st[n]?=some so/\fD K mg ρ H so a:=by
 have hl:n<st.length:=by rw [<-s.len];exact (yu.mp h).1
 refine ⟨st[n],by simp [hl],s.addr (by simp [hl]) h⟩
def fD.ext' {so:SO}{a:Addr}(e:Ext ρ H ae H1) (h:fD K mg ρ H so a) (k:H1 a=H a):fD K mg ae H1 so a:=by
 cases so with
 |lst xs=>obtain ⟨vs,h1,h2⟩:=h;exact ⟨vs,by rw [k];exact h1,Rs.ext e xs h2⟩
 |dic ks xs=>obtain ⟨vs,h1,h2,h3⟩:=h;exact ⟨vs,by rw [k];exact h1,Rs.ext e xs h2,h3⟩
 |ins c ks xs=>obtain ⟨C,dx,vs,h0,h1,h2,h3⟩:=h;exact ⟨C,dx,vs,h0,by rw [k];exact h1,Rs.ext e xs h2,h3⟩
 |fdi ks xs=>obtain ⟨o,vs,h1,h2,h3⟩:=h;exact ⟨o,vs,by rw [k];exact h1,Rs.ext e xs h2,h3⟩
 |dit ks xs=>obtain ⟨its,vs,h1,h2,h3,h4,h5⟩:=h;exact ⟨its,vs,by rw [k];exact h1,h2,λx hx=>e.sqT (h3 x hx),h4,Rs.ext e xs h5⟩
def Ext.new {p:Addr}{o:HO}(hp:H p=none):Ext ρ H ρ (upd H p o) :=
 ⟨⟨[],by simp⟩,λa o' h _=>by rw [zO (wB h hp)];exact h⟩
theorem a_.new {st:aa}{p:Addr}{o:HO}(s:a_ K mg ρ H st) (hp:H p=none):a_ K mg ρ (upd H p o) st :=
 ⟨s.len,s.nd,λn so e=>by
  obtain ⟨a,ha,h⟩:=s.at_ n so e
  obtain ⟨o',ho,_⟩:=h.some
  exact ⟨a,ha,h.ext' (Ext.new hp) (zO (wB ho hp))⟩⟩
def Ext.push {p:Addr}{o:HO}(hp:H p=none):Ext ρ H (ρ++[p]) (upd H p o) :=
 ⟨⟨[p],rfl⟩,λa o' h _=>by rw [zO (wB h hp)];exact h⟩
theorem a_.push {st:aa}{p:Addr}{o:HO}{so:SO}(s:a_ K mg ρ H st) (hp:H p=none) (n:fD K mg (ρ++[p]) (upd H p o) so p):a_ K mg (ρ++[p]) (upd H p o) (st++[so]):=by
 refine ⟨by simp [s.len],?_,λi mH e=>?_⟩
 ·refine List.nodup_append.mpr ⟨s.nd,by simp,λa ha b hb=>?_⟩
  obtain rfl:b=p:=by simpa using hb
  obtain ⟨n,hn⟩:=List.getElem?_of_mem ha
  obtain ⟨mH,_,h⟩:=s.in_ hn
  obtain ⟨o',ho,_⟩:=h.some
  exact wB ho hp
 ·by_cases hi:i<st.length
  ·rw [iK hi] at e
   obtain ⟨a,ha,h⟩:=s.at_ i mH e
   obtain ⟨o',ho,_⟩:=h.some
   exact ⟨a,(Ext.push (o:=o) hp).get ha,h.ext' (Ext.push hp) (zO (wB ho hp))⟩
  ·rw [iL (by omega)] at e
   have eI:i=st.length:=by
    have:=(yu.mp e).1
    simp at this
    omega
   subst eI
   simp at e
   subst e
   exact ⟨p,by rw [<-s.len];simp,n⟩
def Ext.write {a:Addr}{o o':HO}(ha:H a=some o) (hi:xi o=false):Ext ρ H ρ (upd H a o') :=
 ⟨⟨[],by simp⟩,λb u h m=>by
  rw [zO]
  ·exact h
  ·intro z;subst z;rw [ha] at h;cases h;rw [hi] at m;cases m⟩
def a_.write {st:aa}{n:Nat}{a:Addr}{o':HO}{so:SO}(s:a_ K mg ρ H st) (hn:ρ[n]?=some a) (ew:Ext ρ H ρ (upd H a o')) (h:fD K mg ρ (upd H a o') so a):a_ K mg ρ (upd H a o') (st.set n so):=by
 refine ⟨by simp [s.len],s.nd,λi mH e=>?_⟩
 rw [List.getElem?_set] at e
 by_cases cM:n=i
 ·subst cM
  rw [zp rfl] at e
  split at e
  ·cases e;exact ⟨a,hn,h⟩
  ·cases e
 ·rw [zD cM] at e
  obtain ⟨b,hb,q⟩:=s.at_ i mH e
  have ne:b≠a:=by
   intro z
   subst z
   obtain ⟨h1,h2⟩:=yu.mp hn
   obtain ⟨h3,h4⟩:=yu.mp hb
   have pw:=List.pairwise_iff_getElem.mp s.nd
   rcases Nat.lt_trichotomy n i with c|c|c
   ·exact pw n i h1 h3 c (h2.trans h4.symm)
   ·exact cM c
   ·exact pw i n h3 h1 c (h4.trans h2.symm)
  exact ⟨b,hb,q.ext' ew (zO ne)⟩
section
variable {α β:Type} {E:XK} {good:List Addr->Hp->α->aa->Prop}
def Out.ext {r:Res α}(h:Out K mg ρ H r good E) (e:Ext ρ H ae H1):Out K mg ae H1 r good E:=by
 cases r with
 |ok x st=>exact λag H' e' s=>h ag H' (e.trans e') s
 |err c ks xs st=>exact λag H' C d e' s x=>h ag H' C d (e.trans e') s x
 |stuck=>exact h
def Out.mono {r:Res α}{dM:List Addr->Hp->α->aa->Prop}(h:Out K mg ρ H r good E) (g:∀ag H' x st,Ext ρ H ag H'->a_ K mg ag H' st->good ag H' x st->dM ag H' x st):Out K mg ρ H r dM E:=by
 cases r with
 |ok x st=>exact λag H' e' s=>g ag H' x st e' s (h ag H' e' s)
 |err c ks xs st=>exact h
 |stuck=>exact h
theorem Out.bind {r:Res β}{f:β->Mo α}(h:Out K mg ρ H (r.bind f) good E):Out K mg ρ H r (λag H' x st=>Out K mg ag H' (f x st) good E) E:=by
 cases r with
 |ok x st=>exact λag H' e' s=>Out.ext h e'
 |err c ks xs st=>exact h
 |stuck=>exact h
def Out.then {r:Res β}{f:β->Mo α}{dM:List Addr->Hp->β->aa->Prop}(h:Out K mg ρ H (r.bind f) good E) (g:∀ag H' x st,Ext ρ H ag H'->a_ K mg ag H' st->Out K mg ag H' (f x st) good E->dM ag H' x st):Out K mg ρ H r dM E:=h.bind.mono g
def Out.now {x:α}{st:aa}(h:Out K mg ρ H (.ok x st) good E) (s:a_ K mg ρ H st):good ρ H x st:=h ρ H Ext.refl s
end
end
end Mi
namespace Mi
open PySem L2 PySem.W PySem.Spec
abbrev lim:Nat:=1000000
def jq {n:Nat}(h:n<=lim):n<=sizeLine:=by rw [sizeLine_eq];show n<=16777216;exact jg h (by decide)
section
variable (K:Frag) (mg:Ab)
def tM (Er:XK) (f:Ai):TE:=λU H Q=>∃env st ρ,bp K mg ρ H env U/\a_ K mg ρ H st/\Out K mg ρ H (f env st) (gV K mg Q) Er
def xj (Er:XK) (f:Ak):TT:=λU H Q=>∃env st ρ,bp K mg ρ H env U/\a_ K mg ρ H st/\Out K mg ρ H (f env st) (gB Q) Er
def Oz (Er:XK) (f:Ah):TA:=λU H Q=>∃env st ρ,bp K mg ρ H env U/\a_ K mg ρ H st/\Out K mg ρ H (f env st) (Oy K mg Q) Er
def sM (Er:XK) (f:Aj):TS:=λD U H=>∃env st ρ,bp K mg ρ H env U/\a_ K mg ρ H st/\Out K mg ρ H (f env st) (gS K mg D) Er
end
def ME (X:Cx) (Er:XK) (e:Expr) (f:Ai):Prop:=PE X e (tM X.K X.mg Er f)
def MT (X:Cx) (Er:XK) (e:Expr) (f:Ak):Prop:=PT X e (xj X.K X.mg Er f)
def MW (X:Cx) (Er:XK) (e:Expr) (f:Ak):Prop:=PW X e (xj X.K X.mg Er f)
def MA (X:Cx) (Er:XK) (e:List Expr) (f:Ah):Prop:=PA X e (Oz X.K X.mg Er f)
def MS (X:Cx) (Er:XK) (e:Stmt) (f:Aj):Prop:=PS X e (sM X.K X.mg Er f)
def dN (X:Cx) (Er:XK) (e:List Stmt) (f:Aj):Prop:=ck X e (sM X.K X.mg Er f)
section
variable {X:Cx} {Er:XK} {e a b c:Expr} {es:List Expr} {pos:Pos} {t t':TE}
def PE.weak (h:PE X e t) (w:∀U H Q,t' U H Q->t U H Q):PE X e t':=λpins s U H Q I q=>h pins s U H Q I (w U H Q q)
def PT.weak {t t':TT}(h:PT X e t) (w:∀U H Q,t' U H Q->t U H Q):PT X e t':=λpins s U H Q I q=>h pins s U H Q I (w U H Q q)
def PW.weak {t t':TT}(h:PW X e t) (w:∀U H Q,t' U H Q->t U H Q):PW X e t':=λwh pins s U H Q I q=>h wh pins s U H Q I (w U H Q q)
def PA.weak {t t':TA}(h:PA X es t) (w:∀U H Q,t' U H Q->t U H Q):PA X es t':=λpos pins s U H Q I q=>h pos pins s U H Q I (w U H Q q)
def PS.weak {st:Stmt}{t t':TS}(h:PS X st t) (w:∀D U H,t' D U H->t D U H):PS X st t':=λpins s U H D I q=>h pins s U H D I (w D U H q)
def ck.weak {st:List Stmt}{t t':TS}(h:ck X st t) (w:∀D U H,t' D U H->t D U H):ck X st t':=λpins s U H D I q=>h pins s U H D I (w D U H q)
def zc (i:Nat):Ai:=λenv st=>match env[i]? with
 |some (some x)=>.ok x st
 |_=>.stuck
def mC (x:PV):Ai:=λ_ st=>.ok x st
def zf (i:Nat) {x:Str} {pos:Pos} (hN:X.N[i]?=some x:=by rfl) (hv:nP X.env.scope x:=by first|exact Or.inl rfl|exact Or.inr (Or.inl rfl)|exact Or.inr (Or.inr rfl)) (hd:(x==("__debug__" : Str))=false:=by decide)
  (d0:(x==("__classdict__" : Str))=false:=by decide):ME X Er (.Name x pos) (zc i):=PE.weak (Cn hN hv hd d0) λU H Q ⟨env,st,ρ,re,rs,h⟩=>by
 unfold zc at h
 split at h
 ·rename_i x' hx
  obtain ⟨v,h1,h2⟩:=re.at_ i x' hx
  exact ⟨v,h1,h.now rs v h2⟩
 ·exact h.elim
def mI {x:PV}{v:V}(hp:PE X e (tC v)) (hr:∀ρ H,R X.K X.mg ρ H x v):ME X Er e (mC x):=PE.weak hp λU H Q ⟨env,st,ρ,re,rs,h⟩=>h.now rs v (hr ρ H)
def zy {i:Int}{j}:ME X Er (.Constant (.int i) j pos) (mC (.int i)):=mI Kh λ_ _=>rfl
def zW {x:Str}{j}:ME X Er (.Constant (.str x) j pos) (mC (.str x)):=mI Kk λ_ _=>rfl
def ja {b:Bool}{j}:ME X Er (.Constant (.bool b) j pos) (mC (.bl b)):=mI Ki λ_ _=>rfl
def zrb {j}:ME X Er (.Constant .none j pos) (mC .non):=mI Kj λ_ _=>rfl
def D1 {x:Str} {p:PV} {v:V} {u:Value} (hm:X.mg x=some u) (r:RelV v u) (hr:∀ρ H,R X.K X.mg ρ H p v) (hg:Gl X x:=by rfl) (hd:(x==("__debug__" : Str))=false:=by decide):ME X Er (.Name x pos) (mC p):=mI (vc hg hm r hd) hr
def dy (K:Frag) (mg:Ab) (r:R2) (op:Am):Prop:=∀ρ H st x y v w (Q:VK) (E:XK),a_ K mg ρ H st->R K mg ρ H x v->R K mg ρ H y w->Out K mg ρ H (op x y st) (gV K mg Q) E->r v w H Q
def zj (op:Am) (fa fb:Ai):Ai:=λenv st=>(fa env st).bind λx st1=>(fb env st1).bind λy av=>op x y av
variable {fa fb fc:Ai}
def rV {r:R2}{op:Am}{K:Frag}{mg:Ab}(hm:dy K mg r op) {U:St}{H:Hp}{Q:VK}(h:tM K mg Er (zj op fa fb) U H Q):nW r (tM K mg Er fa) (tM K mg Er fb) U H Q:=by
 obtain ⟨env,st,ρ,re,rs,h⟩:=h
 exact ⟨env,st,ρ,re,rs,h.then λae H1 x st1 e1 s1 h1 v rv=>⟨env,st1,ae,re.ext e1,s1,h1.then λam H2 y av e2 s2 h2 w rw=>hm am H2 av x y v w Q Er s2 (R.ext e2 x rv) rw h2⟩⟩
def OA {o:Operator}{r:R2}{op:Am}(ho:bq X (binaryOp o) r) (hm:dy X.K X.mg r op) (ha:ME X Er a fa) (hb:ME X Er b fb):ME X Er (.BinOp a o b pos) (zj op fa fb) :=
 PE.weak (Ld ho ha hb) λU H Q h=>rV hm h
def OB {o:CmpOp}{r:R2}{op:Am}(ho:bq X (compareOp o) r) (hm:dy X.K X.mg r op) (ha:ME X Er a fa) (hb:ME X Er b fb) (hk:behindInMarks o b=false):ME X Er (.Compare a [o] [b] pos) (zj op fa fb) :=
 PE.weak (Lr ho ha hb hk) λU H Q h=>rV hm h
def gy:PV->Mo Bool
 |.bl b,st=>.ok b st
 |_,_=>.stuck
def mB (f:Ai):Ak:=λenv st=>(f env st).bind gy
def OC {K:Frag}{mg:Ab}{ρ:Ae}{H:Hp}{x:PV}{st:aa}{Q:Bool->Hp->Prop}(s:a_ K mg ρ H st) (h:Out K mg ρ H (gy x st) (gB Q) Er) {v:V}(r:R K mg ρ H x v):∃k,v=.bl k/\Q k H:=by
 unfold gy at h
 split at h
 ·cases r;exact ⟨_,rfl,h.now s⟩
 ·exact h.elim
def D2 {α:Type}{K:Frag}{mg:Ab}{ρ:Ae}{H:Hp}{x:PV}{st:aa}{f:Bool->Mo α}{good:List Addr->Hp->α->aa->Prop}(h:Out K mg ρ H ((gy x st).bind f) good Er):∃k,x=.bl k/\Out K mg ρ H (f k st) good Er:=by
 cases x with
 |bl k=>exact ⟨k,rfl,h⟩
 |_=>exact h.elim
def rW {f:Ai}{K:Frag}{mg:Ab}{U:St}{H:Hp}{Q:Bool->Hp->Prop}(h:xj K mg Er (mB f) U H Q):tM K mg Er f U H λx H1=>∃c,x=.bl c/\Q c H1:=by
 obtain ⟨env,st,ρ,re,rs,h⟩:=h
 exact ⟨env,st,ρ,re,rs,h.then λae H1 x st1 e1 s1 h1 v rv=>OC s1 h1 rv⟩
def OD {o:CmpOp}{r:R2}{op:Am}(ho:bq X (compareOp o) r) (hm:dy X.K X.mg r op) (ha:ME X Er a fa) (hb:ME X Er b fb) (hk:behindInMarks o b=false):MT X Er (.Compare a [o] [b] pos) (mB (zj op fa fb)) :=
 PT.weak (CD ho ha hb hk) λU H Q h=>rV hm (rW h)
def yI (h:ME X Er e fa) (he:∀whole,isTrue e X.env whole=(do let v <-whole;standAt e.pos;holding [v] (truthy v)):=by intro _;rfl):MT X Er e (mB fa) :=
 PT.weak (Km h he) λU H Q h=>rW h
def wf (op cB:Am) (fa fb fc:Ai):Ai:=λenv st=>(fa env st).bind λx st1=>(fb env st1).bind λy av=>(op x y av).bind λk bb=>(gy k bb).bind λb ie =>
 if b=true then (fc env ie).bind λz cW=>cB y z cW else .ok (.bl false) ie
def D5 {r r':R2}{op cB:Am}{K:Frag}{mg:Ab}(hm:dy K mg r op) (hm':dy K mg r' cB) {U:St}{H:Hp}{Q:VK}(h:tM K mg Er (wf op cB fa fb fc) U H Q):vh r r' (tM K mg Er fa) (tM K mg Er fb) (tM K mg Er fc) U H Q:=by
 obtain ⟨env,st,ρ,re,rs,h⟩:=h
 refine ⟨env,st,ρ,re,rs,h.then λae H1 x st1 e1 s1 h1 v rv=>⟨env,st1,ae,re.ext e1,s1,h1.then λam H2 y av e2 s2 h2 w rw=>?_⟩⟩
 refine hm am H2 av x y v w _ Er s2 (R.ext e2 x rv) rw (h2.then λao H3 z bb e3 s3 h3 u ru=>?_)
 obtain ⟨b,rfl,h4⟩:=D2 h3
 cases ru
 refine ⟨b,rfl,?_⟩
 cases b with
 |true=>exact ⟨env,bb,ao,((re.ext e1).ext e2).ext e3,s3,Out.then (f:=λz cW=>cB y z cW) h4 λaI H5 z cW e5 s5 h5 w' rw'=>hm' aI H5 cW y z w w' Q Er s5 (R.ext e5 y (R.ext e3 y rw)) rw' h5⟩
 |false=>exact Out.now (x:=PV.bl false) h4 s3 _ rfl
def OE {o o':CmpOp}{r r':R2}{op cB:Am}(ho:bq X (compareOp o) r) (hm:dy X.K X.mg r op) (ho':bq X (compareOp o') r') (hm':dy X.K X.mg r' cB) (ha:ME X Er a fa) (hb:ME X Er b fb) (hc:ME X Er c fc)
  (hk:lastMarks [o,o'] [b,c]=false:=by with_unfolding_all rfl):ME X Er (.Compare a [o,o'] [b,c] pos) (wf op cB fa fb fc):=PE.weak (Ls ho ho' ha hb hc hk) λU H Q h=>D5 hm hm' h
def OG {o o':CmpOp}{r r':R2}{op cB:Am}(ho:bq X (compareOp o) r) (hm:dy X.K X.mg r op) (ho':bq X (compareOp o') r') (hm':dy X.K X.mg r' cB) (ha:ME X Er a fa) (hb:ME X Er b fb) (hc:ME X Er c fc)
  (hk:lastMarks [o,o'] [b,c]=false:=by with_unfolding_all rfl):MT X Er (.Compare a [o,o'] [b,c] pos) (mB (wf op cB fa fb fc)):=PT.weak (Lu ho ho' ha hb hc hk) λU H Q h=>D5 hm hm' (rW h)
def D6 (K:Frag) (mg:Ab) (r:V->Hp->VK->Prop) (op:PV->Mo PV):Prop:=∀ρ H st x v (Q:VK) (E:XK),a_ K mg ρ H st->R K mg ρ H x v->Out K mg ρ H (op x st) (gV K mg Q) E->r v H Q
def yx (op:PV->Mo PV) (fa:Ai):Ai:=λenv st=>(fa env st).bind op
def OH {o:UnaryOp}{r:V->Hp->VK->Prop}{op:PV->Mo PV}(ho:nV X (unaryOp o) r) (hm:D6 X.K X.mg r op) (ha:ME X Er a fa):ME X Er (.UnaryOp o a pos) (yx op fa) :=
 PE.weak (Le ho ha) λU H Q ⟨env,st,ρ,re,rs,h⟩=>⟨env,st,ρ,re,rs,h.then λae H1 x st1 e1 s1 h1 v rv=>hm ae H1 st1 x v Q Er s1 rv h1⟩
variable {ga gb:Ak} {rest:List Expr}
def j1 (ga gb:Ak):Ak:=λenv st=>(ga env st).bind λc st1=>if c=true then gb env st1 else .ok false st1
def jz (ga gb:Ak):Ak:=λenv st=>(ga env st).bind λc st1=>if c=true then .ok true st1 else gb env st1
def j2 (ga:Ak):Ak:=λenv st=>(ga env st).bind λc st1=>.ok (!c) st1
def zcF (ha:MT X Er a ga):MW X Er (.BoolOp .And [a] pos) ga:=Kr ha
def zaE (ha:MT X Er a ga):MW X Er (.BoolOp .Or [a] pos) ga:=Ks ha
def zcG (ha:MT X Er a ga) (hb:MW X Er (.BoolOp .And (b::rest) pos) gb):MW X Er (.BoolOp .And (a::b::rest) pos) (j1 ga gb) :=
 PW.weak (Kt ha hb) λU H Q ⟨env,st,ρ,re,rs,h⟩=>⟨env,st,ρ,re,rs,h.then λae H1 k st1 e1 s1 h1=>by
  cases k with
  |true=>exact ⟨env,st1,ae,re.ext e1,s1,h1⟩
  |false=>exact h1.now s1⟩
def zaf (ha:MT X Er a ga) (hb:MW X Er (.BoolOp .Or (b::rest) pos) gb):MW X Er (.BoolOp .Or (a::b::rest) pos) (jz ga gb) :=
 PW.weak (Ku ha hb) λU H Q ⟨env,st,ρ,re,rs,h⟩=>⟨env,st,ρ,re,rs,h.then λae H1 k st1 e1 s1 h1=>by
  cases k with
  |false=>exact ⟨env,st1,ae,re.ext e1,s1,h1⟩
  |true=>exact h1.now s1⟩
def j3 {op:BoolOp}(h:MW X Er (.BoolOp op es pos) ga):MT X Er (.BoolOp op es pos) ga:=PW.pt h
def zaF (ha:MT X Er a ga):MT X Er (.UnaryOp .Not a pos) (j2 ga):=PT.weak (Kv ha) λU H Q ⟨env,st,ρ,re,rs,h⟩=>⟨env,st,ρ,re,rs,h.then λae H1 k st1 e1 s1 h1=>h1.now s1⟩
def mJ (fa fb:Ai):Ai:=λenv st=>(fa env st).bind λx st1=>(gy x st1).bind λc av=>if c=true then fb env av else .ok (.bl false) av
def zfu {op}(h:ME X Er a fa):ME X Er (.BoolOp op [a] pos) fa:=Kx h
def zfv (ha:ME X Er a fa) (hb:ME X Er (.BoolOp .And (b::rest) pos) fb):ME X Er (.BoolOp .And (a::b::rest) pos) (mJ fa fb) :=
 PE.weak (Ky ha hb) λU H Q ⟨env,st,ρ,re,rs,h⟩=>⟨env,st,ρ,re,rs,h.then λae H1 x st1 e1 s1 h1 v rv=>by
  obtain ⟨k,rfl,h1⟩:=D2 h1
  cases rv
  refine ⟨k,rfl,?_⟩
  cases k with
  |true=>exact ⟨env,st1,ae,re.ext e1,s1,h1⟩
  |false=>exact Out.now (x:=PV.bl false) h1 s1 _ rfl⟩
def rX (g:Ak) (fa fb:Ai):Ai:=λenv st=>(g env st).bind λc st1=>if c=true then fa env st1 else fb env st1
def ziO {c:Expr}(hc:MT X Er c ga) (ha:ME X Er a fa) (hb:ME X Er b fb):ME X Er (.IfExp c a b pos) (rX ga fa fb) :=
 PE.weak (KA hc ha hb) λU H Q ⟨env,st,ρ,re,rs,h⟩=>⟨env,st,ρ,re,rs,h.then λae H1 k st1 e1 s1 h1=>by
  cases k with
  |true=>exact ⟨env,st1,ae,re.ext e1,s1,h1⟩
  |false=>exact ⟨env,st1,ae,re.ext e1,s1,h1⟩⟩
def zh:Ah:=λ_ st=>.ok [] st
def ze (f:Ai) (fs:Ah):Ah:=λenv st=>(f env st).bind λx st1=>(fs env st1).bind λxs av=>.ok (x::xs) av
variable {fs:Ah}
def zo:MA X Er [] zh:=PA.weak nZ λU H Q ⟨env,st,ρ,re,rs,h⟩=>h.now rs [] rfl
def D7 (ha:ME X Er e fa) (hr:MA X Er es fs) (hs:starEach (e::es) X.env=(false,eval e X.env)::starEach es X.env:=by rfl):MA X Er (e::es) (ze fa fs) :=
 PA.weak (n4 ha hr hs) λU H Q ⟨env,st,ρ,re,rs,h⟩=>⟨env,st,ρ,re,rs,h.then λae H1 x st1 e1 s1 h1 v rv=>⟨env,st1,ae,re.ext e1,s1,h1.then λam H2 xs av e2 s2 h2 vs xk =>
  h2.now s2 (v::vs) ⟨v,vs,rfl,R.ext e2 x rv,xk⟩⟩⟩
def yQ (fs:Ah):Ai:=λenv st=>(fs env st).bind λxs st1=>if xs.length<=lim then .ok (.tup xs) st1 else .stuck
def jA (fs:Ah):Ai:=λenv st=>(fs env st).bind λxs st1=>if xs.length<=lim then .ok (.ref st1.length) (st1++[.lst xs]) else .stuck
def R.tup_of {K:Frag}{mg:Ab}{ρ:Ae}{H:Hp}{xs:An}{vs:List V}{p:Addr}(r:Rs K mg ρ H xs vs) (hp:H p=none):R K mg ρ (upd H p (.tup vs)) (.tup xs) (.ref p) :=
 ⟨p,vs,rfl,bC.of yv,Rs.ext (Ext.new hp) xs r⟩
def jB {x1}(h:MA X Er es fs):ME X Er (.Tuple es x1 pos) (yQ fs) :=
 PE.weak (LY h) λU H Q ⟨env,st,ρ,re,rs,h⟩=>⟨env,st,ρ,re,rs,h.then λae H1 xs st1 e1 s1 h1 vs rv=>by
  split at h1
  ·rename_i hl
   exact ⟨by rw [<-rv.len];exact jq hl,λp hp=>h1 ae _ (Ext.new hp) (s1.new hp) _ (R.tup_of rv hp)⟩
  ·exact h1.elim⟩
def Out.newList {K:Frag}{mg:Ab}{ρ:Ae}{H:Hp}{st:aa}{xs:An}{vs:List V}{p:Addr}{Q:VK}(h:Out K mg ρ H (.ok (.ref st.length) (st++[.lst xs])) (gV K mg Q) Er) (s:a_ K mg ρ H st) (r:Rs K mg ρ H xs vs) (hp:H p=none):Q (.ref p) (upd H p (.lst vs)) :=
 h (ρ++[p]) _ (Ext.push hp) (s.push hp ⟨vs,yv,Rs.ext (Ext.push hp) xs r⟩) _ ⟨p,rfl,by rw [<-s.len];simp⟩
def zag (h:MA X Er es fs):ME X Er (.List es pos) (jA fs) :=
 PE.weak (LZ h) λU H Q ⟨env,st,ρ,re,rs,h⟩=>⟨env,st,ρ,re,rs,h.then λae H1 xs st1 e1 s1 h1 vs rv=>by
  split at h1
  ·rename_i hl
   exact ⟨by rw [<-rv.len];exact jq hl,λp hp=>Out.newList h1 s1 rv hp⟩
  ·exact h1.elim⟩
def OI {r:R2}{op:Am}(ho:e_ X r) (hm:dy X.K X.mg r op) (ha:ME X Er a fa) (hb:ME X Er b fb) (hs:eE b:=by exact λ_ _=>rfl):ME X Er (.Subscript a b pos) (zj op fa fb) :=
 PE.weak (C6 ho ha hb hs) λU H Q h=>rV hm h
end
end Mi
namespace HT
open PySem PySem.Spec PyProof.Rows
section
variable {prog:Program} {w:World} {A:Around} {E:Aa} {s:Shared}
def getItem_tuple_all {t sl:Addr}{items:Array Value}{vl vu:Value}{lo hi:Option Int}{Q:Aa}(ht:IsTup s.heap t items) (hs:s.heap.IsSliceOf sl vl vu .none) (pl:IsPart vl lo) (pu:IsPart vu hi)
  (hw:sIx items.size 0 lo=0/\sIx items.size items.size hi=items.size) (h:Q (.ref t) s)
  (hsz:items.size<=sizeLine):wpAny (model prog w) A (getItem (.ref t) (.ref sl)) Q E s:=by
 obtain ⟨os,kL,mn,n9⟩:=id hs
 have vA:s.TypeIs (.ref sl) "slice" := ⟨os,kL,mn⟩
 unfold getItem
 try with_reducible refine jZ ?_
 first|refine zm (zK ?_)|skip
 refine zm (wpAny_sequenceKey ht.typeIs (by decide) ?_)
 refine zm (wpAny_callSpecial?_slot (name:=Str.ofString "__getitem__") ht.typeIs PyProof.Rows.slot_tuple_getitem
  (jQ PyProof.Rows.slot_tuple_getitem ht.typeIs entry_tuple_getitem ?_ (args_tuple_getitem _ _)))
 show wpAny _ _ (Builtin.Tuple.tupleItemsOf (.ref t) >>= _) _ _ s
 refine zm (tupleItemsOf_ ht ?_)
 refine zm (wpAny_typeOf vA ?_)
 rw [zp (by decide)]
 refine zm (C4 hs pl pu ?_)
 have D8:(((sIx items.size 0 lo:Nat):Int)==0&&(1:Int)==1&&(sIx items.size items.size hi-sIx items.size 0 lo)==items.size)=true:=by
  rw [hw.1,hw.2];simp
 show wpAny _ _ (if (((sIx items.size 0 lo:Nat):Int)==0&&(1:Int)==1&&(sIx items.size items.size hi-sIx items.size 0 lo)==items.size)=true then _ else _) _ _ s
 rw [zp D8]
 unfold Builtin.Tuple.tupleIsExact
 refine zm (zm (wpAny_typeOf ht.typeIs (zK ?_)))
 rw [zp (by decide)]
 exact zm (wpAny_rule (zK ⟨_,rfl,zK h⟩))
def cat_tup0 {t b:Addr}{ws:Af}{Q:Aa}(ht:IsTup s.heap t #[]) (hb:IsTup s.heap b ws.toArray) (h1:Q (.ref b) s):wpAny (model prog w) A (binaryOp .Add (.ref t) (.ref b)) Q E s:=by
 obtain ⟨⟨cls,dd,data,sl⟩,ho,hc,n,hd⟩:=id ht
 obtain ⟨⟨uV,kK,data2,eZ⟩,ho2,fK,n2,hd2⟩:=id hb
 simp only at hc hd fK hd2
 subst hc hd fK hd2
 exact concat_meets ⟨_,ho,rfl⟩ ⟨_,ho2,rfl⟩ noFill_tuple_add seq_tuple_add PySem.F.slot_tuple_add PySem.F.entry_tuple_add (PySem.F.args_tuple_add_2 _ _)
   (tuple_addW0 t b #[] ws.toArray n n2 dd kK sl eZ (by simp)) ⟨ho,ho2,h1⟩
end
end HT
namespace Mi
open PySem L2 PySem.W PySem.Spec
section
variable {X:Cx} {Er:XK} {K:Frag} {mg:Ab}
def d9 (X:Cx) (o:Operator) (op:Am):Prop:=∃r,bq X (binaryOp o) r/\dy X.K X.mg r op
def bL (X:Cx) (o:CmpOp) (op:Am):Prop:=∃r,bq X (compareOp o) r/\dy X.K X.mg r op
def oP (X:Cx) (op:Am):Prop:=∃r,e_ X r/\dy X.K X.mg r op
def uX (X:Cx) (o:UnaryOp) (op:PV->Mo PV):Prop:=∃r,nV X (unaryOp o) r/\D6 X.K X.mg r op
variable {a b c e:Expr} {pos:Pos} {fa fb fc:Ai}
def zS {o:Operator}{op:Am}(h:d9 X o op) (ha:ME X Er a fa) (hb:ME X Er b fb):ME X Er (.BinOp a o b pos) (zj op fa fb):=let ⟨_,h1,h2⟩:=h;OA h1 h2 ha hb
def D9 {o:CmpOp}{op:Am}(h:bL X o op) (ha:ME X Er a fa) (hb:ME X Er b fb) (hk:behindInMarks o b=false:=by first|exact lX _|with_unfolding_all rfl):ME X Er (.Compare a [o] [b] pos) (zj op fa fb):=let ⟨_,h1,h2⟩:=h;OB h1 h2 ha hb hk
def yn {o:CmpOp}{op:Am}(h:bL X o op) (ha:ME X Er a fa) (hb:ME X Er b fb) (hk:behindInMarks o b=false:=by first|exact lX _|with_unfolding_all rfl):MT X Er (.Compare a [o] [b] pos) (mB (zj op fa fb)):=let ⟨_,h1,h2⟩:=h;OD h1 h2 ha hb hk
def OJ {o o':CmpOp}{op cB:Am}(h:bL X o op) (h':bL X o' cB) (ha:ME X Er a fa) (hb:ME X Er b fb) (hc:ME X Er c fc)
  (hk:lastMarks [o,o'] [b,c]=false:=by with_unfolding_all rfl):ME X Er (.Compare a [o,o'] [b,c] pos) (wf op cB fa fb fc):=let ⟨_,h1,h2⟩:=h;let ⟨_,h3,h4⟩:=h';OE h1 h2 h3 h4 ha hb hc hk
def OK {o o':CmpOp}{op cB:Am}(h:bL X o op) (h':bL X o' cB) (ha:ME X Er a fa) (hb:ME X Er b fb) (hc:ME X Er c fc)
  (hk:lastMarks [o,o'] [b,c]=false:=by with_unfolding_all rfl):MT X Er (.Compare a [o,o'] [b,c] pos) (mB (wf op cB fa fb fc)):=let ⟨_,h1,h2⟩:=h;let ⟨_,h3,h4⟩:=h';OG h1 h2 h3 h4 ha hb hc hk
def yq {op:Am}(h:oP X op) (ha:ME X Er a fa) (hb:ME X Er b fb) (hs:eE b:=by exact λ_ _=>rfl):ME X Er (.Subscript a b pos) (zj op fa fb):=let ⟨_,h1,h2⟩:=h;OI h1 h2 ha hb hs
def D_ {o:UnaryOp}{op:PV->Mo PV}(h:uX X o op) (ha:ME X Er a fa):ME X Er (.UnaryOp o a pos) (yx op fa):=let ⟨_,h1,h2⟩:=h;OH h1 h2 ha
def Out.ifp {α:Type}{ρ:Ae}{H:Hp}{p:Prop} [Decidable p] {r:Res α}{good:List Addr->Hp->α->aa->Prop}(h:Out K mg ρ H (if p then r else .stuck) good Er):p/\Out K mg ρ H r good Er:=by
 split at h
 ·rename_i hp;exact ⟨hp,h⟩
 ·exact h.elim
def yl {α:Type}(st:aa) (n:Nat) (k:List PV->Res α):Res α:=match st[n]? with
 |some (.lst xs)=>k xs
 |_=>.stuck
def yR {α:Type}(st:aa) (n:Nat) (k:List Str->List PV->Res α):Res α:=match st[n]? with
 |some (.dic ks xs)=>k ks xs
 |_=>.stuck
def yJ {α:Type}(st:aa) (n:Nat) (k:Str->List Str->List PV->Res α):Res α:=match st[n]? with
 |some (.ins c ks xs)=>k c ks xs
 |_=>.stuck
def jb {α:Type}{ρ:Ae}{H:Hp}{st:aa}{n:Nat}{k:List PV->Res α}{good:List Addr->Hp->α->aa->Prop}(h:Out K mg ρ H (yl st n k) good Er):∃xs,st[n]?=some (.lst xs)/\Out K mg ρ H (k xs) good Er:=by
 unfold yl at h
 split at h
 ·rename_i xs e;exact ⟨xs,e,h⟩
 ·exact h.elim
def lh {α:Type}{ρ:Ae}{H:Hp}{st:aa}{n:Nat}{k:List Str->List PV->Res α}{good:List Addr->Hp->α->aa->Prop}(h:Out K mg ρ H (yR st n k) good Er):∃ks xs,st[n]?=some (.dic ks xs)/\Out K mg ρ H (k ks xs) good Er:=by
 unfold yR at h
 split at h
 ·rename_i ks xs e;exact ⟨ks,xs,e,h⟩
 ·exact h.elim
def rY {α:Type}{ρ:Ae}{H:Hp}{st:aa}{n:Nat}{k:Str->List Str->List PV->Res α}{good:List Addr->Hp->α->aa->Prop}(h:Out K mg ρ H (yJ st n k) good Er):∃c ks xs,st[n]?=some (.ins c ks xs)/\Out K mg ρ H (k c ks xs) good Er:=by
 unfold yJ at h
 split at h
 ·rename_i c ks xs e;exact ⟨c,ks,xs,e,h⟩
 ·exact h.elim
def opI (C:Int->Int->Bool) (g:Int->Int->Int):Am
 |.int i,.int j,st=>if C i j=true then .ok (.int (g i j)) st else .stuck
 |_,_,_=>.stuck
def oQ {C:Int->Int->Bool}{g:Int->Int->Int}{P:Int->Int->Prop}(hC:∀i j,C i j=true->P i j):dy K mg (rI P λi j=>.int (g i j)) (opI C g):=by
 intro ρ H st x y v w Q E s rx ry h
 cases x with
 |int i =>
  cases y with
  |int j =>
   cases rx;cases ry
   obtain ⟨c,h⟩:=Out.ifp h
   exact ⟨i,j,rfl,rfl,hC i j c,h.now s _ rfl⟩
  |_=>exact h.elim
 |_=>exact h.elim
abbrev c0:Int->Int->Bool:=λ_ _=>true
def OL {g:Int->Int->V}{f:Value->Value->Sem Value}(h:bq X f (hI g)):bq X f (rI (λ_ _=>True) g):=λpins s U H x y v u Q I rx ry ⟨i,j,h1,h2,_,q⟩=>h pins s U H x y v u Q I rx ry ⟨i,j,h1,h2,q⟩
abbrev rZ:=opI c0 λi j=>i-j
abbrev i7:Int->Int->Bool:=λi j=>(decide (-(2 ^ 64)<i)&&decide (i<2 ^ 64))||(decide (-(2 ^ 64)<j)&&decide (j<2 ^ 64))
abbrev j4:=opI i7 λi j=>i*j
abbrev g0:Int->Int->Bool:=λi j=>decide (0<=j)&&decide (j<=1000000)&&decide (i.natAbs<2 ^ 64)
abbrev mK:=opI g0 λi j=>i ^ j.toNat
abbrev Ea:Int->Int->Bool:=λ_ j=>decide (j≠0)
def j5 (i j:Int):Int:=if 0<j then i%j else i.fmod j
abbrev yY:=opI Ea j5
abbrev xm:Int->Int->Bool:=λ_ j=>decide (j≠0)&&decide (j.natAbs<2 ^ 200)
def wC (i j:Int):Int:=if 0<j then i/j else i.fdiv j
abbrev wR:=opI xm wC
def OM (i j:Int):j5 i j=i.fmod j:=by
 unfold j5;split
 ·rename_i h;rw [Int.fmod_eq_emod_of_nonneg _ (by omega)]
 ·rfl
def OO (i j:Int):wC i j=i.fdiv j:=by
 unfold wC;split
 ·rename_i h;rw [Int.fdiv_eq_ediv_of_nonneg _ (by omega)]
 ·rfl
def ziR:d9 X .Sub rZ:=⟨_,OL Lg,oQ λ_ _ _=>trivial⟩
def zbW:d9 X .Mult j4:=⟨_,Lh,oQ λi j h=>by simpa [i7,lW] using h⟩
def ziS:d9 X .Pow mK:=⟨_,Lj,oQ λi j h=>by simp [g0] at h;exact ⟨h.1.1,h.1.2,h.2⟩⟩
def zah:d9 X .Mod yY:=⟨_,Li,by
 have h:(λi j=>V.int (i.fmod j))=λi j=>V.int (j5 i j):=by funext i j;rw [OM]
 rw [h];exact oQ λi j h=>by simpa [Ea] using h⟩
def OQ {y:Int}(h:y.natAbs<2 ^ 200):y.natAbs.log2<9000:=by
 by_cases h0:y.natAbs=0
 ·rw [h0];decide
 ·have:=(Nat.log2_lt h0).mpr h
  omega
def OR:bq X (binaryOp .FloorDiv) (rI (λ_ j=>j≠0/\j.natAbs<2 ^ 200) λi j=>.int (i.fdiv j)):=L2.opI λ_ _ _ _ _ _ _ hc q=>PyProof.Rows.floordiv_int hc.1 q (.inl (PyProof.noPylong_of_log2 (OQ hc.2)))
def zdX:d9 X .FloorDiv wR:=⟨_,OR,by
 have h:(λi j=>V.int (i.fdiv j))=λi j=>V.int (wC i j):=by funext i j;rw [OO]
 rw [h];exact oQ λi j h=>by simpa [xm] using h⟩
def sd:PV->Mo PV
 |.int i,st=>.ok (.int (-i)) st
 |_,_=>.stuck
def Eb:uX X .USub sd:=⟨_,Ll,by
 intro ρ H st x v Q E s rx h
 cases x with
 |int i=>cases rx;exact ⟨i,rfl,Out.now (x:=PV.int (-i)) h s _ rfl⟩
 |_=>exact h.elim⟩
def zM:Am
 |.int i,.int j,st=>.ok (.int (i+j)) st
 |.str x,.str y,st=>if x.length+y.length<=lim then .ok (.str (x++y)) st else .stuck
 |.tup xs,.tup ys,st=>if xs.length+ys.length<=lim then .ok (.tup (xs++ys)) st else .stuck
 |.ref n,.ref m,st=>yl st n λxs=>yl st m λys=>if xs.length+ys.length<=lim then .ok (.ref st.length) (st++[.lst (xs++ys)]) else .stuck
 |_,_,_=>.stuck
def OS (K:Frag):R2:=λx y H Q=>∃a b ys,x=.ref a/\y=.ref b/\bC K H a []/\bC K H b ys/\Q (.ref b) H
def OT:bq X (binaryOp .Add) (OS X.K):=by
 intro pins s U H x y v u Q I rx ry h
 obtain ⟨a,b,ys,rfl,rfl,h1,h2,q⟩:=h
 cases rx;cases ry
 obtain ⟨i1,r1,p1,_⟩:=I.tuple h1
 obtain ⟨i2,r2,p2,_⟩:=I.tuple h2
 cases r1
 exact HT.cat_tup0 p1 p2 ⟨.ref b,H,I,rfl,q⟩
def ym:d9 X .Add zM:=⟨_,Lf.or (Lv.or (OT.or (Ms.or M0))),by
 intro ρ H st x y v w Q E s rx ry h
 cases x with
 |int i =>
  cases y with
  |int j=>cases rx;cases ry;exact .inl ⟨i,j,rfl,rfl,Out.now (x:=PV.int (i+j)) h s _ rfl⟩
  |_=>exact h.elim
 |str i =>
  cases y with
  |str j =>
   cases rx;cases ry
   obtain ⟨c,h⟩:=Out.ifp h
   exact .inr (.inl ⟨i,j,rfl,rfl,jq c,h.now s _ rfl⟩)
  |_=>exact h.elim
 |tup xs =>
  cases y with
  |tup ys =>
   obtain ⟨p,vs,rfl,h1,h2⟩:=rx
   obtain ⟨q,ws,rfl,h3,h4⟩:=ry
   obtain ⟨c,h⟩:=Out.ifp h
   cases xs with
   |nil =>
    cases h2
    exact .inr (.inr (.inl ⟨p,q,ws,rfl,rfl,h1,h3,h.now s _ ⟨q,ws,rfl,h3,h4⟩⟩))
   |cons x0 oR =>
    refine .inr (.inr (.inr (.inl ⟨p,q,vs,ws,rfl,rfl,h1,h3,?_,?_,λe=>?_,λ_ l hl=>?_⟩)))
    ·obtain ⟨v0,r0,e0,_⟩:=h2;rw [e0];simp
    ·rw [<-h2.len,<-h4.len];exact jq c
    ·subst e
     have:ys=[]:=by have:=h4.len;simpa using this
     subst this
     exact h.now s _ ⟨p,vs,rfl,h1,by simpa using h2⟩
    ·exact h ρ _ (Ext.new hl) (s.new hl) _ (R.tup_of (h2.append h4) hl)
  |_=>exact h.elim
 |ref n =>
  cases y with
  |ref m =>
   obtain ⟨p,rfl,hp⟩:=rx
   obtain ⟨q,rfl,hq⟩:=ry
   obtain ⟨xs,e1,h⟩:=jb h
   obtain ⟨ys,e2,h⟩:=jb h
   obtain ⟨c,h⟩:=Out.ifp h
   obtain ⟨vs,h1,h2⟩:=s.addr e1 hp
   obtain ⟨ws,h3,h4⟩:=s.addr e2 hq
   exact .inr (.inr (.inr (.inr ⟨p,q,vs,ws,rfl,rfl,h1,h3,by rw [<-h2.len,<-h4.len];exact jq c,λl hl=>Out.newList h s (h2.append h4) hl⟩)))
  |_=>exact h.elim
 |_=>exact h.elim⟩
def oS (g:Int->Int->Bool):Am
 |.int i,.int j,st=>.ok (.bl (g i j)) st
 |_,_,_=>.stuck
def xo {g:Int->Int->Bool}:dy K mg (hI λi j=>.bl (g i j)) (oS g):=by
 intro ρ H st x y v w Q E s rx ry h
 cases x with
 |int i =>
  cases y with
  |int j=>cases rx;cases ry;exact ⟨i,j,rfl,rfl,Out.now (x:=PV.bl (g i j)) h s _ rfl⟩
  |_=>exact h.elim
 |_=>exact h.elim
abbrev wS:=oS λi j=>decide (i<j)
abbrev j6:=oS λi j=>decide (i<=j)
abbrev jI:=oS λi j=>decide (j<i)
def zbX:bL X .Lt wS:=⟨_,Lm,xo⟩
def zbY:bL X .LtE j6:=⟨_,Ln,xo⟩
def zbr:bL X .Gt jI:=⟨_,Lo,xo⟩
def fj:PV->Bool
 |.non=>true
 |_=>false
def Ec:Am
 |x,.non,st=>.ok (.bl (!fj x)) st
 |_,_,_=>.stuck
def OU {ρ:Ae}{H:Hp}{x:PV}{v:V}(r:R K mg ρ H x v):decide (v=.non)=fj x:=by
 cases x with
 |non=>cases r;rfl
 |bl _=>cases r;rfl
 |int _=>cases r;rfl
 |str _=>cases r;rfl
 |ty _=>cases r;rfl
 |tup _=>obtain ⟨_,_,rfl,_⟩:=r;rfl
 |frl _=>obtain ⟨_,_,rfl,_⟩:=r;rfl
 |ref _=>obtain ⟨_,rfl,_⟩:=r;rfl
 |fn _=>obtain ⟨_,rfl,_⟩:=r;rfl
 |kd _ _=>obtain ⟨_,_,_,rfl,_⟩:=r;rfl
 |exo _ _ _=>obtain ⟨_,_,rfl,_⟩:=r;rfl
def OV:bL X .IsNot Ec:=⟨_,Lq,by
 intro ρ H st x y v w Q E s rx ry h
 cases y with
 |non=>cases ry;exact ⟨rfl,by rw [OU rx];exact Out.now (x:=PV.bl (!fj x)) h s _ rfl⟩
 |_=>exact h.elim⟩
def xq {ρ:Ae}{H:Hp}{xs:An}{vs:List V}{i:Int}{x:PV}(r:Rs K mg ρ H xs vs) (h:bY xs i=some x):∃v,bY vs i=some v/\R K mg ρ H x v:=by
 unfold bY at h ⊢
 rw [<-r.len]
 cases hj:kM xs.length i with
 |none=>rw [hj] at h;cases h
 |some j =>
  rw [hj] at h
  obtain ⟨v,h1,h2⟩:=r.get (show xs[j]?=some x from h)
  exact ⟨v,h1,h2⟩
def cw:Option PV->Mo PV
 |some x,st=>.ok x st
 |none,_=>.stuck
def xt:Am
 |.tup xs,.int i,st=>cw (bY xs i) st
 |.frl xs,.int i,st=>cw (bY xs i) st
 |.str z,.int i,st=>if z.length<=lim then cw ((bY z.cps.toList i).map λc=>.str ⟨#[c]⟩) st else .stuck
 |.ref n,.int i,st=>yl st n λxs=>cw (bY xs i) st
 |_,_,_=>.stuck
def i9 {ρ:Ae}{H:Hp}{o:Ao}{st:aa}{good}(h:Out K mg ρ H (cw o st) good Er):∃x,o=some x/\Out K mg ρ H (.ok x st) good Er:=by
 cases o with
 |some x=>exact ⟨x,rfl,h⟩
 |none=>exact h.elim
def OW:oP X xt:=⟨_,Mx,by
 intro ρ H st x y v w Q E s rx ry h
 cases x with
 |tup xs =>
  cases y with
  |int i =>
   cases ry
   obtain ⟨p,vs,rfl,h1,h2⟩:=rx
   obtain ⟨x,e,h⟩:=i9 h
   obtain ⟨v,h3,h4⟩:=xq h2 e
   exact .inr (.inl ⟨p,vs,i,v,rfl,rfl,h1,h3,h.now s _ h4⟩)
  |_=>exact h.elim
 |frl xs =>
  cases y with
  |int i =>
   cases ry
   obtain ⟨p,vs,rfl,h1,h2⟩:=rx
   obtain ⟨x,e,h⟩:=i9 h
   obtain ⟨v,h3,h4⟩:=xq h2 e
   exact .inl ⟨p,vs,i,v,rfl,rfl,h1.sq,h3,h.now s _ h4⟩
  |_=>exact h.elim
 |str z =>
  cases y with
  |int i =>
   cases ry;cases rx
   obtain ⟨c,h⟩:=Out.ifp h
   obtain ⟨x,e,h⟩:=i9 h
   cases hc:bY z.cps.toList i with
   |none=>rw [hc] at e;cases e
   |some k =>
    rw [hc] at e
    cases e
    exact .inr (.inr ⟨z,i,k,rfl,rfl,jq c,hc,h.now s _ rfl⟩)
  |_=>exact h.elim
 |ref n =>
  cases y with
  |int i =>
   cases ry
   obtain ⟨p,rfl,hp⟩:=rx
   obtain ⟨xs,e1,h⟩:=jb h
   obtain ⟨vs,h1,h2⟩:=s.addr e1 hp
   obtain ⟨x,e,h⟩:=i9 h
   obtain ⟨v,h3,h4⟩:=xq h2 e
   exact .inl ⟨p,vs,i,v,rfl,rfl,ba.of h1,h3,h.now s _ h4⟩
  |_=>exact h.elim
 |_=>exact h.elim⟩
end
mutual
def plain:PV->Bool
 |.non=>true
 |.bl _=>true
 |.int _=>true
 |.str _=>true
 |.tup xs=>bz xs
 |_=>false
def bz:List PV->Bool
 |[]=>true
 |x::xs=>plain x&&bz xs
end
mutual
def dep:PV->Nat
 |.tup xs=>cS xs+1
 |_=>0
def cS:List PV->Nat
 |[]=>0
 |x::xs=>max (dep x) (cS xs)
end
mutual
def bA:PV->PV->Bool
 |.non,.non=>true
 |.bl a,.bl b=>a==b
 |.bl a,.int b=>(if a then 1 else 0)==b
 |.int a,.bl b=>a==(if b then 1 else 0)
 |.int a,.int b=>a==b
 |.str a,.str b=>a==b
 |.tup xs,.tup ys=>cV xs ys
 |_,_=>false
def cV:List PV->List PV->Bool
 |[],[]=>true
 |x::xs,y::ys=>bA x y&&cV xs ys
 |_,_=>false
end
section
variable {X:Cx} {K:Frag} {mg:Ab} {ρ:Ae} {pins:Ac} {U:L2.St} {H:Hp} {s:Shared}
mutual
theorem Ed (I:Inv X pins U H s):∀(x y:PV) {v:V},plain x=true->plain y=true->R X.K mg ρ H x v->R X.K mg ρ H y v->bA x y=true
 |.non,y,v,_,py,rx,ry=>by
  cases rx
  cases y with
  |non=>rfl
  |tup ys=>obtain ⟨_,_,e,_⟩:=ry;cases e
  |bl _=>cases ry
  |int _=>cases ry
  |str _=>cases ry
  |_=>cases py
 |.bl a,y,v,_,py,rx,ry=>by
  cases rx
  cases y with
  |bl b=>cases ry;simp [bA]
  |tup ys=>obtain ⟨_,_,e,_⟩:=ry;cases e
  |non=>cases ry
  |int _=>cases ry
  |str _=>cases ry
  |_=>cases py
 |.int a,y,v,_,py,rx,ry=>by
  cases rx
  cases y with
  |int b=>cases ry;simp [bA]
  |tup ys=>obtain ⟨_,_,e,_⟩:=ry;cases e
  |non=>cases ry
  |bl _=>cases ry
  |str _=>cases ry
  |_=>cases py
 |.str a,y,v,_,py,rx,ry=>by
  cases rx
  cases y with
  |str b=>cases ry;simp [bA]
  |tup ys=>obtain ⟨_,_,e,_⟩:=ry;cases e
  |non=>cases ry
  |bl _=>cases ry
  |int _=>cases ry
  |_=>cases py
 |.tup xs,y,v,px,py,rx,ry=>by
  obtain ⟨a,vs,rfl,h1,h2⟩:=rx
  cases y with
  |tup ys =>
   obtain ⟨b,ws,e,h3,h4⟩:=ry
   cases e
   have:=I.tuple_inj h1 h3
   subst this
   exact i_ I xs ys px py h2 h4
  |non=>cases ry
  |bl _=>cases ry
  |int _=>cases ry
  |str _=>cases ry
  |_=>cases py
 |.ty _,_,_,px,_,_,_=>by cases px
 |.frl _,_,_,px,_,_,_=>by cases px
 |.ref _,_,_,px,_,_,_=>by cases px
 |.fn _,_,_,px,_,_,_=>by cases px
 |.kd _ _,_,_,px,_,_,_=>by cases px
 |.exo _ _ _,_,_,px,_,_,_=>by cases px
theorem i_ (I:Inv X pins U H s):∀(xs ys:An) {vs:List V},bz xs=true->bz ys=true->Rs X.K mg ρ H xs vs->Rs X.K mg ρ H ys vs->cV xs ys=true
 |[],ys,vs,_,py,rx,ry=>by
  cases rx
  cases ys with
  |nil=>rfl
  |cons y ys=>obtain ⟨_,_,e,_⟩:=ry;cases e
 |x::xs,ys,vs,px,py,rx,ry=>by
  obtain ⟨v,r,rfl,h1,h2⟩:=rx
  cases ys with
  |nil=>cases ry
  |cons y ys =>
   obtain ⟨v',r',e,h3,h4⟩:=ry
   cases e
   simp only [bz,y4] at px py
   simp only [cV,y4]
   exact ⟨Ed I x y px.1 py.1 h1 h3,i_ I xs ys px.2 py.2 h2 h4⟩
end
def eU (xs ys:An) (j:Nat):Bool:=match xs[j]?,ys[j]? with
 |some x,some y=>bA x y
 |_,_=>true
theorem Ee:∀(xs ys:An),((List.range (min xs.length ys.length)).all (eU xs ys)&&xs.length==ys.length)=cV xs ys
 |[],[]=>rfl
 |[],y::ys=>by simp [cV]
 |x::xs,[]=>by simp [cV]
 |x::xs,y::ys=>by
  have ih:=Ee xs ys
  have e1:min (x::xs).length (y::ys).length=min xs.length ys.length+1:=by simp only [yF];omega
  have e2:((x::xs).length==(y::ys).length)=(xs.length==ys.length):=by
   rw [Bool.eq_iff_iff];simp
  rw [e1,e2,List.range_succ_eq_map,List.all_cons,List.all_map]
  have e3:(eU (x::xs) (y::ys)∘Nat.succ)=eU xs ys:=by
   funext j
   simp [eU]
  rw [e3,Bool.and_assoc,ih]
  simp [cV,eU]
theorem xu:∀{xs:An}{i:Nat}{x:PV},xs[i]?=some x->dep x<=cS xs
 |[],_,_,e=>by simp at e
 |y::xs,0,x,e=>by simp at e;subst e;simp only [cS];omega
 |y::xs,i+1,x,e=>by
  simp at e
  have:=xu e
  simp only [cS];omega
theorem sf:∀{xs:An}{i:Nat}{x:PV},bz xs=true->xs[i]?=some x->plain x=true
 |[],_,_,_,e=>by simp at e
 |y::xs,0,x,p,e=>by simp at e;subst e;simp only [bz,y4] at p;exact p.1
 |y::xs,i+1,x,p,e=>by
  simp at e
  simp only [bz,y4] at p
  exact sf p.2 e
def oU (A:Around):A.in1.units=A.units+1:=rfl
def xv (I:Inv X pins U H s):∀(n:Nat) (x y:PV) {v w:V}{u u':Value}(A:Around),dep x<=n->plain x=true->plain y=true->R X.K mg ρ H x v->R X.K mg ρ H y w->RelV v u->RelV w u'->A.units+n<cLine ->
  SeqAt.EqAt A s u u' (bA x y)/\SeqAt.RcAt A s u u' (bA x y)/\SeqAt.RcNeAt A s u u' (!bA x y):=by
 intro n
 induction n with
 |zero =>
  intro x y v w u u' A hd px py rx ry rv rw hu
  cases x with
  |tup xs=>simp only [dep] at hd;omega
  |non =>
   cases rx;cases rv
   cases y with
   |non=>cases ry;cases rw;exact ⟨.same _,.none_none,.none_none⟩
   |bl b=>cases ry;cases rw;exact ⟨.none_bool b,.none_bool b,.none_bool b⟩
   |int b=>cases ry;obtain ⟨t,rfl⟩:=rw;exact ⟨.none_int b t,.none_int b t,.none_int b t⟩
   |str b=>cases ry;obtain ⟨t,rfl⟩:=rw;exact ⟨.none_str b t,.none_str b t,.none_str b t⟩
   |tup ys =>
    obtain ⟨p,ws,rfl,h1,h2⟩:=ry
    cases rw
    obtain ⟨its,_,pl,_⟩:=I.tuple h1
    exact ⟨.none_tuple pl (by omega),.none_tuple pl (by omega),.none_tuple pl (by omega)⟩
   |_=>cases py
  |bl a =>
   cases rx;cases rv
   cases y with
   |non=>cases ry;cases rw;exact ⟨.bool_none a,.bool_none a,.bool_none a⟩
   |bl b=>cases ry;cases rw;exact ⟨.bool_bool a b,.bool_bool a b,.bool_bool a b⟩
   |int b=>cases ry;obtain ⟨t,rfl⟩:=rw;exact ⟨.bool_int a b t,.bool_int a b t,.bool_int a b t⟩
   |str b=>cases ry;obtain ⟨t,rfl⟩:=rw;exact ⟨.bool_str a b t,.bool_str a b t,.bool_str a b t⟩
   |tup ys =>
    obtain ⟨p,ws,rfl,h1,h2⟩:=ry
    cases rw
    obtain ⟨its,_,pl,_⟩:=I.tuple h1
    exact ⟨.bool_tuple a pl (by omega),.bool_tuple a pl (by omega),.bool_tuple a pl (by omega)⟩
   |_=>cases py
  |int a =>
   cases rx;obtain ⟨t0,rfl⟩:=rv
   cases y with
   |non=>cases ry;cases rw;exact ⟨.int_none a t0,.int_none a t0,.int_none a t0⟩
   |bl b=>cases ry;cases rw;exact ⟨.int_bool a t0 b,.int_bool a t0 b,.int_bool a t0 b⟩
   |int b=>cases ry;obtain ⟨t,rfl⟩:=rw;exact ⟨.int_int a t0 b t,.int_int a t0 b t,.int_int a t0 b t⟩
   |str b=>cases ry;obtain ⟨t,rfl⟩:=rw;exact ⟨.int_str a t0 b t,.int_str a t0 b t,.int_str a t0 b t⟩
   |tup ys =>
    obtain ⟨p,ws,rfl,h1,h2⟩:=ry
    cases rw
    obtain ⟨its,_,pl,_⟩:=I.tuple h1
    exact ⟨.int_tuple a t0 pl (by omega),.int_tuple a t0 pl (by omega),.int_tuple a t0 pl (by omega)⟩
   |_=>cases py
  |str a =>
   cases rx;obtain ⟨t0,rfl⟩:=rv
   cases y with
   |non=>cases ry;cases rw;exact ⟨.str_none a t0,.str_none a t0,.str_none a t0⟩
   |bl b=>cases ry;cases rw;exact ⟨.str_bool a t0 b,.str_bool a t0 b,.str_bool a t0 b⟩
   |int b=>cases ry;obtain ⟨t,rfl⟩:=rw;exact ⟨.str_int a t0 b t,.str_int a t0 b t,.str_int a t0 b t⟩
   |str b=>cases ry;obtain ⟨t,rfl⟩:=rw;exact ⟨.str_str a t0 b t,.str_str a t0 b t,.str_str a t0 b t⟩
   |tup ys =>
    obtain ⟨p,ws,rfl,h1,h2⟩:=ry
    cases rw
    obtain ⟨its,_,pl,_⟩:=I.tuple h1
    exact ⟨.str_tuple a t0 pl (by omega),.str_tuple a t0 pl (by omega),.str_tuple a t0 pl (by omega)⟩
   |_=>cases py
  |_=>cases px
 |succ n ih =>
  intro x y v w u u' A hd px py rx ry rv rw hu
  cases x with
  |tup xs =>
   obtain ⟨a,vs,rfl,h1,h2⟩:=id rx
   cases rv
   obtain ⟨its,r1,p1,_⟩:=I.tuple h1
   cases y with
   |non=>cases ry;cases rw;exact ⟨.tuple_none p1 (by omega),.tuple_none p1 (by omega),.tuple_none p1 (by omega)⟩
   |bl b=>cases ry;cases rw;exact ⟨.tuple_bool b p1 (by omega),.tuple_bool b p1 (by omega),.tuple_bool b p1 (by omega)⟩
   |int b=>cases ry;obtain ⟨t,rfl⟩:=rw;exact ⟨.tuple_int b t p1 (by omega),.tuple_int b t p1 (by omega),.tuple_int b t p1 (by omega)⟩
   |str b=>cases ry;obtain ⟨t,rfl⟩:=rw;exact ⟨.tuple_str b t p1 (by omega),.tuple_str b t p1 (by omega),.tuple_str b t p1 (by omega)⟩
   |tup ys =>
    obtain ⟨b,ws,rfl,h3,h4⟩:=id ry
    cases rw
    obtain ⟨aS,r2,p2,_⟩:=I.tuple h3
    have l1:=h2.len
    have l2:=h4.len
    have l3:=r1.length
    have l4:=r2.length
    have item:∀j (g1:j<its.toArray.size) (g2:j<aS.toArray.size),SeqAt.EqAt A.in1 s its.toArray[j] aS.toArray[j] (eU xs ys j):=λj g1 g2=>by
     have k1:j<xs.length:=by rw [l1,l3];simpa using g1
     have k2:j<ys.length:=by rw [l2,l4];simpa using g2
     obtain ⟨v1,e1,xw⟩:=h2.get (yb k1)
     obtain ⟨v2,e2,xx⟩:=h4.get (yb k2)
     obtain ⟨u1,f1,xA⟩:=r1.get e1
     obtain ⟨u2,f2,xB⟩:=r2.get e2
     have w1:its.toArray[j]=u1:=by
      obtain ⟨_,z⟩:=yu.mp f1
      simpa using z
     have w2:aS.toArray[j]=u2:=by
      obtain ⟨_,z⟩:=yu.mp f2
      simpa using z
     have ej:eU xs ys j=bA xs[j] ys[j]:=by
      unfold eU
      rw [yb k1,yb k2]
     rw [w1,w2,ej]
     have Xd:=xu (yb k1)
     simp only [dep] at hd
     exact (ih xs[j] ys[j] A.in1 (by omega) (sf px (yb k1)) (sf py (yb k2)) xw xx xA xB (by rw [oU];omega)).1
    have uY:((List.range (min its.toArray.size aS.toArray.size)).all (eU xs ys)&&its.toArray.size==aS.toArray.size)=bA (.tup xs) (.tup ys):=by
     have e:=Ee xs ys
     rw [l1,l2,l3,l4] at e
     simpa [bA] using e
    have rc:SeqAt.RcAt A s (.ref a) (.ref b) (bA (.tup xs) (.tup ys)):=by
     rw [<-uY]
     exact SeqAt.RcAt.tuples (show s.heap.IsTuple a its.toArray from p1) (show s.heap.IsTuple b aS.toArray from p2) (by omega) item
    refine ⟨?_,rc,?_⟩
    ·by_cases dW:a=b
     ·subst dW
      rw [Ed I (.tup xs) (.tup ys) px py rx ry]
      exact .same _
     ·exact .of_refs dW rc
    ·rw [<-uY]
     exact SeqAt.RcNeAt.tuples (show s.heap.IsTuple a its.toArray from p1) (show s.heap.IsTuple b aS.toArray from p2) (by omega) item
   |_=>cases py
  |non=>exact ih _ y A (jh _) px py rx ry rv rw (by omega)
  |bl a=>exact ih _ y A (jh _) px py rx ry rv rw (by omega)
  |int a=>exact ih _ y A (jh _) px py rx ry rv rw (by omega)
  |str a=>exact ih _ y A (jh _) px py rx ry rv rw (by omega)
  |_=>cases px
def jk:Am:=λx y st=>if plain x=true/\plain y=true/\dep x<=150 then .ok (.bl (bA x y)) st else .stuck
def yM:Am:=λx y st=>if plain x=true/\plain y=true/\dep x<=150 then .ok (.bl (!bA x y)) st else .stuck
def Ef (K:Frag) (mg:Ab) (f:Bool->Bool):R2:=λv w H Q=>∃ρ x y,plain x=true/\plain y=true/\dep x<=150/\R K mg ρ H x v/\R K mg ρ H y w/\Q (.bl (f (bA x y))) H
def OX (hu:X.A.units+200<cLine):bq X (compareOp .Eq) (Ef X.K X.mg id):=by
 intro pins s U H x y v u Q I rx ry h
 obtain ⟨ρ,a,b,pa,pb,hd,ra,rb,q⟩:=h
 exact PySem.EqBoolInt.of_rc (xv I 150 a b X.A hd pa pb ra rb rx ry (by omega)).2.1 ⟨.bl _,H,I,rfl,q⟩
def OY (hu:X.A.units+200<cLine):bq X (compareOp .NotEq) (Ef X.K X.mg not):=by
 intro pins s U H x y v u Q I rx ry h
 obtain ⟨ρ,a,b,pa,pb,hd,ra,rb,q⟩:=h
 exact PySem.EqBoolInt.of_rcne (xv I 150 a b X.A hd pa pb ra rb rx ry (by omega)).2.2 ⟨.bl _,H,I,rfl,q⟩
def wT (hu:X.A.units+200<cLine):bL X .Eq jk:=⟨_,OX hu,fun ρ H st x y v w Q E s rx ry h=>by
 obtain ⟨⟨p1,p2,p3⟩,h⟩:=Out.ifp h
 exact ⟨ρ,x,y,p1,p2,p3,rx,ry,h.now s _ rfl⟩⟩
def jL (hu:X.A.units+200<cLine):bL X .NotEq yM:=⟨_,OY hu,fun ρ H st x y v w Q E s rx ry h=>by
 obtain ⟨⟨p1,p2,p3⟩,h⟩:=Out.ifp h
 exact ⟨ρ,x,y,p1,p2,p3,rx,ry,h.now s _ rfl⟩⟩
end
section
variable {X:Cx} {Er:XK} {K:Frag} {mg:Ab} {a b c e:Expr} {es:List Expr} {pos:Pos} {fa:Ai} {fs:Ah}
def OZ (K:Frag) (mg:Ab) (Er:XK) (f:zd->Mo (Option Int)):TO:=λU H Q=>∃env st ρ,bp K mg ρ H env U/\a_ K mg ρ H st/\Out K mg ρ H (f env st) (λ_ H' o _=>Q o H') Er
def MO (X:Cx) (Er:XK) (e:Option Expr) (f:zd->Mo (Option Int)):Prop:=PO X e (OZ X.K X.mg Er f)
def cx:zd->Mo (Option Int):=λ_ st=>.ok none st
def xC:PV->Mo (Option Int)
 |.int i,st=>.ok (some i) st
 |_,_=>.stuck
def bB (f:Ai):zd->Mo (Option Int):=λenv st=>(f env st).bind xC
def PO.weak {o:Option Expr}{t t':TO}(h:PO X o t) (w:∀U H Q,t' U H Q->t U H Q):PO X o t':=λpins s U H Q I q=>h pins s U H Q I (w U H Q q)
def zaG:MO X Er none cx:=PO.weak Mj λU H Q ⟨env,st,ρ,re,rs,h⟩=>h.now rs
def jT (h:ME X Er e fa):MO X Er (some e) (bB fa):=PO.weak (Ml h) λU H Q ⟨env,st,ρ,re,rs,h⟩=>⟨env,st,ρ,re,rs,h.then λae H1 x st1 e1 s1 h1 v rv=>by
 cases x with
 |int i=>cases rv;exact ⟨i,rfl,Out.now (x:=some i) h1 s1⟩
 |_=>exact h1.elim⟩
def bS (xs:An) (lo hi:Option Int):An:=(xs.drop (HT.sIx xs.length 0 lo)).take (HT.sIx xs.length xs.length hi-HT.sIx xs.length 0 lo)
def wU:PV->Option Int->Option Int->Mo PV
 |.tup xs,lo,hi,st=>.ok (.tup (bS xs lo hi)) st
 |.frl xs,lo,hi,st=>.ok (.ref st.length) (st++[.lst (bS xs lo hi)])
 |.ref n,lo,hi,st=>yl st n λxs=>.ok (.ref st.length) (st++[.lst (bS xs lo hi)])
 |.str z,lo,hi,st=>if z.length<=lim then .ok (.str (Txt.slice z lo hi)) st else .stuck
 |_,_,_,_=>.stuck
def Rs.cut {ρ:Ae}{H:Hp}{xs:An}{vs:List V}(r:Rs K mg ρ H xs vs) (lo hi:Option Int):Rs K mg ρ H (bS xs lo hi) (fy vs lo hi):=by
 unfold bS fy
 rw [r.len]
 exact (r.drop _).take _
def O0 (K:Frag):V->Option Int->Option Int->Hp->VK->Prop:=λx lo hi H Q=>∃a xs,x=.ref a/\bC K H a xs/\(HT.sIx xs.length 0 lo=0/\HT.sIx xs.length xs.length hi=xs.length)/\Q (.ref a) H
def O1:hU X (O0 X.K):=by
 intro pins s U H x v vl vu lo hi sl Q I rx hs pl pu h
 obtain ⟨a,xs,rfl,hx,hw,q⟩:=h
 cases rx
 obtain ⟨its,r,ht,hz⟩:=I.tuple hx
 have hlen:its.toArray.size=xs.length:=by rw [yH];exact r.length.symm
 refine ⟨"tuple", _,PyProof.Rows.slot_tuple_getitem.lookup,ht.typeIs,?_⟩
 exact HT.getItem_tuple_all ht hs pl pu (by rw [hlen];exact hw) ⟨.ref a,H,I,rfl,q⟩ (by rw [hlen];exact hz)
def jC (fa:Ai) (fl fu:zd->Mo (Option Int)):Ai:=λenv st=>(fa env st).bind λx st1=>(fl env st1).bind λl av=>(fu env av).bind λu bb=>wU x l u bb
def wD {lo hi:Option Expr}{fl fu:zd->Mo (Option Int)}{p2:Pos}(ha:ME X Er a fa) (hl:MO X Er lo fl) (hu:MO X Er hi fu):ME X Er (.Subscript a (.Slice lo hi none p2) pos) (jC fa fl fu) :=
 PE.weak (Mn (Mq.or (O1.or (MC.or Nd))) ha hl hu) λU H Q ⟨env,st,ρ,re,rs,h⟩=>⟨env,st,ρ,re,rs,h.then λae H1 x st1 e1 s1 h1 v rv=>⟨env,st1,ae,re.ext e1,s1,h1.then λam H2 l av e2 s2 h2 =>
  ⟨env,av,am,(re.ext e1).ext e2,s2,h2.then λao H3 u bb e3 s3 h3=>by
  have rv:=R.ext e3 x (R.ext e2 x rv)
  cases x with
  |tup xs =>
   obtain ⟨p,vs,rfl,k1,k2⟩:=rv
   by_cases hw:HT.sIx vs.length 0 l=0/\HT.sIx vs.length vs.length u=vs.length
   ·refine .inr (.inl ⟨p,vs,rfl,k1,hw,Out.now (x:=PV.tup (bS xs l u)) h3 s3 _ ⟨p,vs,rfl,k1,?_⟩⟩)
    have:bS xs l u=xs:=by
     unfold bS
     rw [k2.len,hw.1,hw.2]
     simp [<-k2.len]
    rw [this];exact k2
   ·exact .inl ⟨p,vs,rfl,k1,hw,λq hq=>h3 ao _ (Ext.new hq) (s3.new hq) _ (R.tup_of (k2.cut l u) hq)⟩
  |frl xs =>
   obtain ⟨p,vs,rfl,k1,k2⟩:=rv
   exact .inr (.inr (.inl ⟨p,vs,rfl,k1.sq,λq hq=>Out.newList (xs:=bS xs l u) h3 s3 (k2.cut l u) hq⟩))
  |ref n =>
   obtain ⟨p,rfl,hp⟩:=rv
   obtain ⟨xs,k0,h3⟩:=jb h3
   obtain ⟨vs,k1,k2⟩:=s3.addr k0 hp
   exact .inr (.inr (.inl ⟨p,vs,rfl,ba.of k1,λq hq=>Out.newList (xs:=bS xs l u) h3 s3 (k2.cut l u) hq⟩))
  |str z =>
   cases rv
   obtain ⟨k0,h3⟩:=Out.ifp h3
   exact .inr (.inr (.inr ⟨z,rfl,jq k0,h3.now s3 _ rfl⟩))
  |_=>exact h3.elim⟩⟩⟩
def xD (K:Frag) (mg:Ab) (r:List V->Hp->VK->Prop) (op:Al):Prop:=∀ρ H st xs vs (Q:VK) (E:XK),a_ K mg ρ H st->Rs K mg ρ H xs vs->Out K mg ρ H (op xs st) (gV K mg Q) E->r vs H Q
def bM (X:Cx) (f:Value) (op:Al):Prop:=∃r,bt X f r/\xD X.K X.mg r op
def zn (op:Al) (fs:Ah):Ai:=λenv st=>(fs env st).bind op
def yd {x:Str} {id:String} {op:Al} {p:Pos} (h:bM X (.builtin id) op) (hm:X.mg x=none) (hv:bootBuiltins x=some (.builtin id)) (ha:MA X Er (e::es) fs) (hg:Gl X x:=by rfl) (hn:x ≠ "__name__" := by decide) (bK:(x==("__debug__" : Str))=false:=by decide)
  (he:starEach (e::es) X.env=(false,eval e X.env)::starEach es X.env:=by rfl) (bu:(backTo pos (starEach es X.env)).any (·.1)=false:=by rfl):ME X Er (.Call (.Name x p) (e::es) [] pos) (zn op fs):=by
 obtain ⟨r,h1,h2⟩:=h
 exact PE.weak (L_ h1 hg hm hv ha hn bK he bu) λU H Q ⟨env,st,ρ,re,rs,h⟩=>⟨env,st,ρ,re,rs,h.then λae H1 xs st1 e1 s1 k vs rv=>h2 ae H1 st1 xs vs Q Er s1 rv k⟩
def wg {x:Str} {T:String} {op:Al} {p:Pos} (h:bM X (.type T) op) (hm:X.mg x=none) (hv:bootBuiltins x=some (.type T)) (ha:MA X Er (e::es) fs) (hg:Gl X x:=by rfl) (hn:x ≠ "__name__" := by decide) (bK:(x==("__debug__" : Str))=false:=by decide)
  (he:starEach (e::es) X.env=(false,eval e X.env)::starEach es X.env:=by rfl) (bu:(backTo pos (starEach es X.env)).any (·.1)=false:=by rfl):ME X Er (.Call (.Name x p) (e::es) [] pos) (zn op fs):=by
 obtain ⟨r,h1,h2⟩:=h
 exact PE.weak (Ma h1 hg hm hv ha hn bK he bu) λU H Q ⟨env,st,ρ,re,rs,h⟩=>⟨env,st,ρ,re,rs,h.then λae H1 xs st1 e1 s1 k vs rv=>h2 ae H1 st1 xs vs Q Er s1 rv k⟩
def jr {x:Str} {n:String} (hm:X.mg x=none) (hv:bootBuiltins x=some (.type n)) (hg:Gl X x:=by rfl) (hn:x ≠ "__name__" := by decide) (hd:(x==("__debug__" : Str))=false:=by decide):ME X Er (.Name x pos) (mC (.ty n)) :=
 mI (Kl (v:=.ty n) hg hm hv rfl hn hd) λ_ _=>rfl
def Rs.one {ρ:Ae}{H:Hp}{x:PV}{vs:List V}(r:Rs K mg ρ H [x] vs):∃v,vs=[v]/\R K mg ρ H x v:=by
 obtain ⟨v,r',rfl,h,h'⟩:=r
 cases h'
 exact ⟨v,rfl,h⟩
def Rs.two {ρ:Ae}{H:Hp}{x y:PV}{vs:List V}(r:Rs K mg ρ H [x,y] vs):∃v w,vs=[v,w]/\R K mg ρ H x v/\R K mg ρ H y w:=by
 obtain ⟨v,r',rfl,h,h'⟩:=r
 obtain ⟨w,rfl,h2⟩:=Rs.one h'
 exact ⟨v,w,rfl,h,h2⟩
def j_:Al
 |[.tup xs],st=>.ok (.int xs.length) st
 |[.frl xs],st=>.ok (.int xs.length) st
 |[.str z],st=>if z.length<=lim then .ok (.int z.length) st else .stuck
 |[.ref n],st=>yl st n λxs=>.ok (.int xs.length) st
 |_,_=>.stuck
def O2:bM X (.builtin "len") j_:=⟨_,LA,fun ρ H st xs vs Q E s r h=>by
 match xs,r,h with
 |[.tup ys],r,h =>
  obtain ⟨v,rfl,p,ws,rfl,h1,h2⟩:=Rs.one r
  exact ⟨_,ws.length,rfl,.inr ⟨ws,h1,rfl⟩,by rw [<-h2.len];exact Out.now (x:=PV.int ys.length) h s _ rfl⟩
 |[.frl ys],r,h =>
  obtain ⟨v,rfl,p,ws,rfl,h1,h2⟩:=Rs.one r
  exact ⟨_,ws.length,rfl,.inl ⟨ws,h1.sq,rfl⟩,by rw [<-h2.len];exact Out.now (x:=PV.int ys.length) h s _ rfl⟩
 |[.str z],r,h =>
  obtain ⟨v,rfl,rfl⟩:=Rs.one r
  obtain ⟨c,h⟩:=Out.ifp h
  exact ⟨_,z.length,rfl,⟨jq c,rfl⟩,h.now s _ rfl⟩
 |[.ref n],r,h =>
  obtain ⟨v,rfl,p,rfl,hp⟩:=Rs.one r
  obtain ⟨ys,e,h⟩:=jb h
  obtain ⟨ws,h1,h2⟩:=s.addr e hp
  exact ⟨_,ws.length,rfl,.inl ⟨ws,ba.of h1,rfl⟩,by rw [<-h2.len];exact h.now s _ rfl⟩
 |[],r,h=>exact h.elim
 |[.non],r,h=>exact h.elim
 |[.bl _],r,h=>exact h.elim
 |[.int _],r,h=>exact h.elim
 |[.ty _],r,h=>exact h.elim
 |[.fn _],r,h=>exact h.elim
 |[.kd _ _],r,h=>exact h.elim
 |[.exo _ _ _],r,h=>exact h.elim
 |x::y::r',r,h=>cases x<;>exact h.elim⟩
def mL:Al
 |[.int i],st=>.ok (.int i) st
 |[.bl k],st=>.ok (.int (if k then 1 else 0)) st
 |_,_=>.stuck
def ziY:bM X (.type "int") mL:=⟨_,Ly,fun ρ H st xs vs Q E s r h=>by
 match xs,r,h with
 |[.int i],r,h =>
  obtain ⟨v,rfl,rfl⟩:=Rs.one r
  exact .inl ⟨i,rfl,Out.now (x:=PV.int i) h s _ rfl⟩
 |[.bl k],r,h =>
  obtain ⟨v,rfl,rfl⟩:=Rs.one r
  exact .inr ⟨k,rfl,Out.now (x:=PV.int (if k then 1 else 0)) h s _ rfl⟩
 |[],r,h=>exact h.elim
 |[.non],r,h=>exact h.elim
 |[.str _],r,h=>exact h.elim
 |[.tup _],r,h=>exact h.elim
 |[.frl _],r,h=>exact h.elim
 |[.ref _],r,h=>exact h.elim
 |[.ty _],r,h=>exact h.elim
 |[.fn _],r,h=>exact h.elim
 |[.kd _ _],r,h=>exact h.elim
 |[.exo _ _ _],r,h=>exact h.elim
 |x::y::r',r,h=>cases x<;>exact h.elim⟩
def oV:Al
 |[.tup xs],st=>.ok (.ref st.length) (st++[.lst xs])
 |[.frl xs],st=>.ok (.ref st.length) (st++[.lst xs])
 |[.ref n],st=>yl st n λxs=>.ok (.ref st.length) (st++[.lst xs])
 |_,_=>.stuck
def O3:bM X (.type "list") oV:=⟨_,MD,fun ρ H st xs vs Q E s r h=>by
 match xs,r,h with
 |[.tup ys],r,h =>
  obtain ⟨v,rfl,p,ws,rfl,h1,h2⟩:=Rs.one r
  exact ⟨p,ws,rfl,.inr h1,λl hl=>Out.newList (xs:=ys) h s h2 hl⟩
 |[.frl ys],r,h =>
  obtain ⟨v,rfl,p,ws,rfl,h1,h2⟩:=Rs.one r
  exact ⟨p,ws,rfl,.inl h1.sq,λl hl=>Out.newList (xs:=ys) h s h2 hl⟩
 |[.ref n],r,h =>
  obtain ⟨v,rfl,p,rfl,hp⟩:=Rs.one r
  obtain ⟨ys,e,h⟩:=jb h
  obtain ⟨ws,h1,h2⟩:=s.addr e hp
  exact ⟨p,ws,rfl,.inl (ba.of h1),λl hl=>Out.newList (xs:=ys) h s h2 hl⟩
 |[],r,h=>exact h.elim
 |[.non],r,h=>exact h.elim
 |[.bl _],r,h=>exact h.elim
 |[.int _],r,h=>exact h.elim
 |[.str _],r,h=>exact h.elim
 |[.ty _],r,h=>exact h.elim
 |[.fn _],r,h=>exact h.elim
 |[.kd _ _],r,h=>exact h.elim
 |[.exo _ _ _],r,h=>exact h.elim
 |x::y::r',r,h=>cases x<;>exact h.elim⟩
def lp:Al
 |[.tup xs],st=>.ok (.tup xs) st
 |[.frl xs],st=>.ok (.tup xs) st
 |[.ref n],st=>yl st n λxs=>.ok (.tup xs) st
 |_,_=>.stuck
def O4:bM X (.type "tuple") lp:=⟨_,MF,fun ρ H st xs vs Q E s r h=>by
 match xs,r,h with
 |[.tup ys],r,h =>
  obtain ⟨v,rfl,p,ws,rfl,h1,h2⟩:=Rs.one r
  exact ⟨p,ws,rfl,.inr ⟨h1,Out.now (x:=PV.tup ys) h s _ ⟨p,ws,rfl,h1,h2⟩⟩⟩
 |[.frl ys],r,h =>
  obtain ⟨v,rfl,p,ws,rfl,h1,h2⟩:=Rs.one r
  exact ⟨p,ws,rfl,.inl ⟨h1.sq,λl hl=>h ρ _ (Ext.new hl) (s.new hl) _ (R.tup_of h2 hl)⟩⟩
 |[.ref n],r,h =>
  obtain ⟨v,rfl,p,rfl,hp⟩:=Rs.one r
  obtain ⟨ys,e,h⟩:=jb h
  obtain ⟨ws,h1,h2⟩:=s.addr e hp
  exact ⟨p,ws,rfl,.inl ⟨ba.of h1,λl hl=>h ρ _ (Ext.new hl) (s.new hl) _ (R.tup_of h2 hl)⟩⟩
 |[],r,h=>exact h.elim
 |[.non],r,h=>exact h.elim
 |[.bl _],r,h=>exact h.elim
 |[.int _],r,h=>exact h.elim
 |[.str _],r,h=>exact h.elim
 |[.ty _],r,h=>exact h.elim
 |[.fn _],r,h=>exact h.elim
 |[.kd _ _],r,h=>exact h.elim
 |[.exo _ _ _],r,h=>exact h.elim
 |x::y::r',r,h=>cases x<;>exact h.elim⟩
def cm (T n:String):Option Bool :=
 if T = "int" then (if n = "int" then some true else if n = "bool" \/ n = "str" \/ n = "tuple" \/ n = "dict" \/ n = "list" then some false else none)
 else if T = "bool" then (if n = "int" \/ n = "bool" then some true else if n = "str" \/ n = "tuple" \/ n = "dict" \/ n = "list" then some false else none)
 else if T = "str" then (if n = "str" then some true else if n = "int" \/ n = "bool" \/ n = "tuple" \/ n = "dict" \/ n = "list" then some false else none)
 else if T = "tuple" then (if n = "tuple" then some true else if n = "int" \/ n = "bool" \/ n = "str" \/ n = "dict" \/ n = "list" then some false else none)
 else if T = "list" then (if n = "list" then some true else if n = "int" \/ n = "bool" \/ n = "str" \/ n = "dict" \/ n = "tuple" then some false else none)
 else if T = "dict" then (if n = "dict" then some true else if n = "int" \/ n = "bool" \/ n = "str" \/ n = "list" \/ n = "tuple" then some false else none)
 else if T = "NoneType" then (if n = "int" \/ n = "bool" \/ n = "str" \/ n = "list" \/ n = "tuple" \/ n = "dict" then some false else none)
 else none
def O5 (K:Frag) {T n:String}{b:Bool}(h:cm T n=some b):PySem.W.kitOne K (.type T) (.type n)=some b:=by
 unfold cm at h
 split at h
 ·rename_i e;subst e
  split at h
  ·rename_i e;subst e;cases h;first|rfl|kernel_rfl
  ·split at h
   ·rename_i e;cases h;rcases e with e|e|e|e|e<;>subst e<;>first|rfl|kernel_rfl
   ·cases h
 ·split at h
  ·rename_i e;subst e
   split at h
   ·rename_i e;cases h;rcases e with e|e<;>subst e<;>first|rfl|kernel_rfl
   ·split at h
    ·rename_i e;cases h;rcases e with e|e|e|e<;>subst e<;>first|rfl|kernel_rfl
    ·cases h
  ·split at h
   ·rename_i e;subst e
    split at h
    ·rename_i e;subst e;cases h;first|rfl|kernel_rfl
    ·split at h
     ·rename_i e;cases h;rcases e with e|e|e|e|e<;>subst e<;>first|rfl|kernel_rfl
     ·cases h
   ·split at h
    ·rename_i e;subst e
     split at h
     ·rename_i e;subst e;cases h;first|rfl|kernel_rfl
     ·split at h
      ·rename_i e;cases h;rcases e with e|e|e|e|e<;>subst e<;>first|rfl|kernel_rfl
      ·cases h
    ·split at h
     ·rename_i e;subst e
      split at h
      ·rename_i e;subst e;cases h;first|rfl|kernel_rfl
      ·split at h
       ·rename_i e;cases h;rcases e with e|e|e|e|e<;>subst e<;>first|rfl|kernel_rfl
       ·cases h
     ·split at h
      ·rename_i e;subst e
       split at h
       ·rename_i e;subst e;cases h;first|rfl|kernel_rfl
       ·split at h
        ·rename_i e;cases h;rcases e with e|e|e|e|e<;>subst e<;>first|rfl|kernel_rfl
        ·cases h
      ·split at h
       ·rename_i e;subst e
        split at h
        ·rename_i e;cases h;rcases e with e|e|e|e|e|e<;>subst e<;>first|rfl|kernel_rfl
        ·cases h
       ·cases h
end
def fR (K:Frag) (mg:Ab) (m:Al):Sp:=λvs H Q E=>∃xs st ρ,Rs K mg ρ H xs vs/\a_ K mg ρ H st/\Out K mg ρ H (m xs st) (gV K mg Q) E
section
variable (P:Program) (w:World) (K:Frag) (mg:Ab) (base:Heap)
def bo (x:Str) (k:Nat) (m:Al):Prop:=∃f fd ps,mg x=some (.ref f)/\keepIn K (.ref f)=true/\Binds K fd ps []/\bh P w K mg base (b9 P w) k f fd ps (fR K mg m)
def bZ (c name:Str) (k:Nat) (m:Al):Prop:=∃C f fd ps,mg c=some (.ref C)/\dR K C/\Meth K C name f/\Binds K fd ps []/\bh P w K mg base (b9 P w) k f fd ps (fR K mg m)
def sh (c:Str) (k:Nat) (m:Al):Prop:=∃C f fd ps,mg c=some (.ref C)/\Mk K C f/\Binds K fd ps []/\bh P w K mg base (b9 P w) k f fd ps (fR K mg m)
def xE (c fld:Str):Prop:=∃C f fd,mg c=some (.ref C)/\eO K C f/\bh P w K mg base (b9 P w) 1 f fd ["self", fld] (DU C fld)/\Binds K fd ["self", fld] []
end
section
variable {X:Cx} {Er:XK} {K:Frag} {mg:Ab} {a b c e o:Expr} {es:List Expr} {pos p apos:Pos} {fa fo:Ai} {fs:Ah} {k:Nat} {x:Str} {m:Al}
def zP (C:bo X.prog X.w X.K X.mg X.base x k m) (hr:aZ k X.A) (ht:j0 X Er) (ha:MA X Er (e::es) fs) (hg:Gl X x:=by rfl) (bK:(x==("__debug__" : Str))=false:=by decide)
  (he:starEach (e::es) X.env=(false,eval e X.env)::starEach es X.env:=by rfl) (bu:(backTo pos (starEach es X.env)).any (·.1)=false:=by rfl):ME X Er (.Call (.Name x p) (e::es) [] pos) (zn m fs):=by
 obtain ⟨f,fd,ps,hm,hk,hb,F⟩:=C
 exact PE.weak (L6 F hr hg hm hk hb .nil (mG ht) ha bK he bu) λU H Q ⟨env,st,ρ,re,rs,h⟩=>⟨env,st,ρ,re,rs,h.then λae H1 xs st1 e1 s1 k vs rv=>by
  show fR X.K X.mg m (vs++[]) H1 Q Er
  rw [List.append_nil]
  exact ⟨xs,st1,ae,rv,s1,k⟩⟩
def xF (tab:Str->Option (Al)) (ff:Ai) (fs:Ah):Ai:=λenv st=>(ff env st).bind λf st1=>match f with
 | .fn x=>match tab x with
  |some m=>(fs env st1).bind m
  |none=>.stuck
 |_=>.stuck
def O6 {tab:Str->Option (Al)}{ff:Ai}(ht:∀y m,tab y=some m->bo X.prog X.w X.K X.mg X.base y k m) (hf:ME X Er (.Name x p) ff) (hr:aZ k X.A) (hT:j0 X Er) (ha:MA X Er (e::es) fs)
  (he:starEach (e::es) X.env=(false,eval e X.env)::starEach es X.env:=by rfl) (bu:(backTo pos (starEach es X.env)).any (·.1)=false:=by rfl):ME X Er (.Call (.Name x p) (e::es) [] pos) (xF tab ff fs) :=
 PE.weak (N8 (CX:=b9 X.prog X.w) hf hr (mG hT) ha he bu) λU H Q ⟨env,st,ρ,re,rs,h⟩=>⟨env,st,ρ,re,rs,h.then λae H1 f st1 e1 s1 h1 v rv=>by
  cases f with
  |fn y =>
   cases hy:tab y with
   |none=>simp only [hy] at h1;exact h1.elim
   |some m =>
    simp only [hy] at h1
    obtain ⟨f,rfl,hm⟩:=rv
    obtain ⟨f',fd,ps,hm',hk,hb,F⟩:=ht y m hy
    rw [hm] at hm'
    cases hm'
    exact ⟨f,_,rfl,⟨fd,ps,F,hk,hb⟩,env,st1,ae,re.ext e1,s1,Out.then h1 λam H2 xs av e2 s2 h2 vs xk=>⟨xs,av,am,xk,s2,h2⟩⟩
  |_=>exact h1.elim⟩
theorem ke {ρ:Ae}{H:Hp}{f:Str}:∀{ks:Ad}{xs:An}{vs:List V}{x:PV},Rs K mg ρ H xs vs->(ks.zip xs).lookup f=some x->∃v,(ks.zip vs).lookup f=some v/\R K mg ρ H x v
 |[],_,_,_,_,h=>by simp at h
 |k::ks,[],_,_,_,h=>by simp at h
 |k::ks,y::xs,_,x,r,h=>by
  obtain ⟨v,r',rfl,h1,h2⟩:=r
  simp only [List.zip_cons_cons,jR] at h ⊢
  split at h
  ·cases h;exact ⟨v,rfl,h1⟩
  ·exact ke h2 h
theorem za5 {f:Str}{β:Type}:∀{ks:Ad}{vs:List β},f∉ks->(ks.zip vs).lookup f=none
 |[],_,_=>by simp
 |k::ks,[],_=>by simp
 |k::ks,v::vs,h=>by
  simp only [yE,not_or] at h
  simp only [List.zip_cons_cons,jR]
  have:(f==k)=false:=by simpa using h.1
  rw [this]
  exact za5 h.2
def Eg (X:Cx) (name:Str) (k:Nat) (E:XK) (ta:TE) (t:TA):TE:=λU H Q=>ta U H λx H1=>∃a C dx fs f fd ps sp,x=.ref a/\H1 a=some (.ins C dx fs)/\fs.lookup name=none/\dR X.K C/\Meth X.K C name f/\Binds X.K fd ps []/\bh X.prog X.w X.K X.mg X.base (b9 X.prog X.w) k f fd ps sp /\
 t U H1 λvs H2=>sp (x::vs) H2 Q E
def O7 {pl:Sem Bool}{name:Str}{ta:TE}{t:TA}{E:XK}(he:PE X o ta) (hr:aZ k X.A) (hx:Passes (b9 X.prog X.w) X E) (ha:PA X (e::es) t)
  (b8:starEach (e::es) X.env=(false,eval e X.env)::starEach es X.env:=by rfl) (bu:(backTo pos (starEach es X.env)).any (·.1)=false:=by rfl)
  (ht:eval (.Call (.Attribute o name apos) (e::es) [] pos) X.env=(do
   let ov <-eval o X.env
   standAt apos.atName
   let (f,first) <-holding [ov] (getMethod ov name pl)
   callWith pos f first (backTo pos (starEach (e::es) X.env)) (backToKw pos (keywordEach [] X.env))):=by rfl) :
  PE X (.Call (.Attribute o name apos) (e::es) [] pos) (Eg X name k E ta t):=by
 intro pins s U H Q I h
 refine PySem.W.methodCall_KW (pl:=pl) (aR (he pins s U H _ I h) λu s1 gg=>?_) ht
 obtain ⟨x,H1,I1,rx,a,C,dx,fs,f,fd,ps,sp,ex,ea,l,c,hm,hb,F,q⟩:=gg
 subst ex
 obtain rfl:u=Value.ref a:=rx
 refine vp I1 ea c hm l ?_
 refine PySem.W.callWith_K (first:=[.ref a]) (h₀:=X.base) I.ok.mod.kin hm.kp (aR (ha pos pins s1 U H1 _ I1 q) λus s2 ⟨vs,H2,I2,r,q2⟩=>⟨I2.kIn,?_⟩) b8 bu
 exact rq (us:=.ref a::us) (vs:=.ref a::vs) F hr hb .nil hx I2 (.cons rfl r) (by rw [List.append_nil];exact q2)
def O8 {pl:Sem Bool}{name:Str}{ta:TE}{E:XK}(he:PE X o ta) (hr:aZ k X.A) (hx:Passes (b9 X.prog X.w) X E)
  (ht:eval (.Call (.Attribute o name apos) [] [] pos) X.env=(do
   let ov <-eval o X.env
   standAt apos.atName
   let (f,first) <-holding [ov] (getMethod ov name pl)
   callWith pos f first (backTo pos (starEach [] X.env)) (backToKw pos (keywordEach [] X.env))):=by rfl) :
  PE X (.Call (.Attribute o name apos) [] [] pos) (Eg X name k E ta CO):=by
 intro pins s U H Q I h
 refine PySem.W.methodCall_KW (pl:=pl) (aR (he pins s U H _ I h) λu s1 gg=>?_) ht
 obtain ⟨x,H1,I1,rx,a,C,dx,fs,f,fd,ps,sp,ex,ea,l,c,hm,hb,F,q⟩:=gg
 subst ex
 obtain rfl:u=Value.ref a:=rx
 refine vp I1 ea c hm l ?_
 exact PySem.W.callWith_K0 (first:=[.ref a]) I1.kIn hm.kp (rq (us:=[.ref a]) (vs:=[.ref a]) F hr hb .nil hx I1 (.cons rfl .nil) (by rw [List.append_nil];exact q))
def dq (name:Str) (tab:Str->Option (Al)) (o:PV) (st:aa) (k:Nat->(Al)->Res PV):Res PV:=match o with
 | .ref n=>yJ st n λc ks _=>if name∈ks then .stuck else match tab c with
  |some m=>k n m
  |none=>.stuck
 |_=>.stuck
def yy (name:Str) (tab:Str->Option (Al)) (fo:Ai) (fs:Ah):Ai:=λenv st=>(fo env st).bind λo st1=>dq name tab o st1 λn m=>(fs env st1).bind λys av=>m (.ref n::ys) av
def xG {name:Str}{tab:Str->Option (Al)}{o:PV}{st:aa}{kk:Nat->(Al)->Res PV}{ρ:Ae}{H:Hp}{good}(h:Out K mg ρ H (dq name tab o st kk) good Er) :
  ∃n c ks xs m,o=.ref n/\st[n]?=some (.ins c ks xs)/\name∉ks/\tab c=some m/\Out K mg ρ H (kk n m) good Er:=by
 cases o with
 |ref n =>
  obtain ⟨c,ks,xs,e,h⟩:=rY h
  split at h
  ·exact h.elim
  ·rename_i hn
   cases hc:tab c with
   |none=>rw [hc] at h;exact h.elim
   |some m=>rw [hc] at h;exact ⟨n,c,ks,xs,m,rfl,e,hn,hc,h⟩
 |_=>exact h.elim
def jU {pl:Sem Bool}{name:Str}{tab:Str->Option (Al)}(hT:∀c m,tab c=some m->bZ X.prog X.w X.K X.mg X.base c name k m) (ho:ME X Er o fo) (hr:aZ k X.A) (ht:j0 X Er) (ha:MA X Er (e::es) fs)
  (b8:starEach (e::es) X.env=(false,eval e X.env)::starEach es X.env:=by rfl) (bu:(backTo pos (starEach es X.env)).any (·.1)=false:=by rfl)
  (oW:eval (.Call (.Attribute o name apos) (e::es) [] pos) X.env=(do
   let ov <-eval o X.env
   standAt apos.atName
   let (f,first) <-holding [ov] (getMethod ov name pl)
   callWith pos f first (backTo pos (starEach (e::es) X.env)) (backToKw pos (keywordEach [] X.env))):=by rfl) :
  ME X Er (.Call (.Attribute o name apos) (e::es) [] pos) (yy name tab fo fs) :=
 PE.weak (O7 (pl:=pl) ho hr (mG ht) ha b8 bu oW) λU H Q ⟨env,st,ρ,re,rs,h⟩=>⟨env,st,ρ,re,rs,h.then λae H1 x st1 e1 s1 h1 v rv=>by
  obtain ⟨n,c,ks,xs,m,rfl,hn,hk,hc,h1⟩:=xG h1
  obtain ⟨C,f,fd,ps,hC,cl,hm,hb,F⟩:=hT c m hc
  obtain ⟨p,rfl,hp⟩:=rv
  obtain ⟨C',dx,vs,hC',hH,hR,hl⟩:=s1.addr hn hp
  rw [hC] at hC'
  cases hC'
  exact ⟨p,C,dx,_,f,fd,ps,_,rfl,hH,za5 hk,cl,hm,hb,F,env,st1,ae,re.ext e1,s1,Out.then h1 λam H2 ys av e2 s2 h2 ws rws=>⟨.ref n::ys,av,am,⟨_,_,rfl,⟨p,rfl,e2.get hp⟩,rws⟩,s2,h2⟩⟩⟩
def wV {pl:Sem Bool}{name:Str}{tab:Str->Option (Al)}(hT:∀c m,tab c=some m->bZ X.prog X.w X.K X.mg X.base c name k m) (ho:ME X Er o fo) (hr:aZ k X.A) (ht:j0 X Er)
  (oW:eval (.Call (.Attribute o name apos) [] [] pos) X.env=(do
   let ov <-eval o X.env
   standAt apos.atName
   let (f,first) <-holding [ov] (getMethod ov name pl)
   callWith pos f first (backTo pos (starEach [] X.env)) (backToKw pos (keywordEach [] X.env))):=by rfl) :
  ME X Er (.Call (.Attribute o name apos) [] [] pos) (yy name tab fo zh) :=
 PE.weak (O8 (pl:=pl) ho hr (mG ht) oW) λU H Q ⟨env,st,ρ,re,rs,h⟩=>⟨env,st,ρ,re,rs,h.then λae H1 x st1 e1 s1 h1 v rv=>by
  obtain ⟨n,c,ks,xs,m,rfl,hn,hk,hc,h1⟩:=xG h1
  obtain ⟨C,f,fd,ps,hC,cl,hm,hb,F⟩:=hT c m hc
  obtain ⟨p,rfl,hp⟩:=rv
  obtain ⟨C',dx,vs,hC',hH,hR,hl⟩:=s1.addr hn hp
  rw [hC] at hC'
  cases hC'
  exact ⟨p,C,dx,_,f,fd,ps,_,rfl,hH,za5 hk,cl,hm,hb,F,⟨[.ref n],st1,ae,⟨_,_,rfl,⟨p,rfl,hp⟩,rfl⟩,s1,h1⟩⟩⟩
def fS (c:Str) (m:Al) (ys:An):Mo PV:=λst=>(m (.ref st.length::ys) (st++[.ins c [] []])).bind λr av=>if fj r=true then .ok (.ref st.length) av else .stuck
def O9 {x:PV}(h:fj x=true):x=.non:=by cases x<;>first|rfl|cases h
def O_ {cn:Str}{C f:Addr}{ρ:Ae}{H:Hp}{st:aa}{ys:An}{vs:List V}{Q:VK}(hC:mg cn=some (.ref C)) (s:a_ K mg ρ H st) (r:Rs K mg ρ H ys vs) (h:Out K mg ρ H (fS cn m ys st) (gV K mg Q) Er) :
  ∀x dx,H x=none->H dx=none->dx≠x->fR K mg m (.ref x::vs) (upd (upd H dx (.own x)) x (.ins C dx [])) (λv H2=>v=.non/\Q (.ref x) H2) Er:=λx dx hx si ne=>by
 have Eh:upd H dx (.own x) x=none:=by rw [zO (yL ne)];exact hx
 have s1:=s.new (o:=.own x) si
 have e1:Ext ρ H ρ (upd H dx (.own x)):=Ext.new si
 have e2:Ext ρ H (ρ++[x]) (upd (upd H dx (.own x)) x (.ins C dx [])):=e1.trans (Ext.push Eh)
 have s2:a_ K mg (ρ++[x]) (upd (upd H dx (.own x)) x (.ins C dx [])) (st++[.ins cn [] []]):=s1.push Eh ⟨C,dx,[],hC,yv,rfl,rfl⟩
 have gx:(ρ++[x])[st.length]?=some x:=by rw [<-s.len];simp
 refine ⟨.ref st.length::ys,_,ρ++[x],⟨_,_,rfl,⟨x,rfl,gx⟩,Rs.ext e2 ys r⟩,s2,Out.then (Out.ext h e2) λao H3 r3 bb e3 s3 h3 v rv=>?_⟩
 obtain ⟨hn,h3⟩:=Out.ifp h3
 obtain rfl:=O9 hn
 exact ⟨rv,h3.now s3 _ ⟨x,rfl,e3.get gx⟩⟩
def Pa {cn:Str} (C:sh X.prog X.w X.K X.mg X.base cn k m) (hr:aZ (k+1) X.A) (ht:j0 X Er) (ha:MA X Er (e::es) fs) (hg:Gl X cn:=by rfl) (bK:(cn==("__debug__" : Str))=false:=by decide)
  (he:starEach (e::es) X.env=(false,eval e X.env)::starEach es X.env:=by rfl) (bu:(backTo pos (starEach es X.env)).any (·.1)=false:=by rfl):ME X Er (.Call (.Name cn p) (e::es) [] pos) (zn (fS cn m) fs):=by
 obtain ⟨C,f,fd,ps,hm,M,hb,F⟩:=C
 exact PE.weak (L8 M F hr hg hm hb .nil (mG ht) ha bK he bu) λU H Q ⟨env,st,ρ,re,rs,h⟩=>⟨env,st,ρ,re,rs,h.then λae H1 xs st1 e1 s1 k vs rv x dx hx si ne=>by
  rw [List.append_nil]
  exact O_ (f:=f) hm s1 rv k x dx hx si ne⟩
def br (f:Str) (ins exc:Str->Bool):PV->Mo PV
 |.ref n,st=>yJ st n λc ks xs=>if ins c=true then cw ((ks.zip xs).lookup f) st else .stuck
 |.exo c ks xs,st=>if exc c=true then cw ((ks.zip xs).lookup f) st else .stuck
 |_,_=>.stuck
structure FldF (K:Frag) (mg:Ab) (f:Str) (ins exc:Str->Bool):Prop where
 i:∀c,ins c=true->∃C,mg c=some (.ref C)/\dR K C/\cJ K C f
 x:∀c,exc c=true->∃C,mg c=some (.ref C)/\gZ K C/\hasDictIn K C=true/\findIn K (.ref C) f=some none
def Pb (K:Frag) (ta:TE) (f:Str):TE:=λU H Q=>ta U H λx H1=>(∃a C dx fs v,x=.ref a/\H1 a=some (.ins C dx fs)/\dR K C/\cJ K C f/\fs.lookup f=some v/\Q v H1) \/
 ∃a C d fs v,x=.ref a/\H1 a=some (eP C (some d) a)/\H1 d=some (.xd fs)/\gZ K C/\hasDictIn K C=true/\findIn K (.ref C) f=some none/\fs.lookup f=some v/\Q v H1
def Pc {f:Str}{ta:TE}(he:PE X e ta) (hb:attributeBase e f X.env (eval e X.env)=eval e X.env):PE X (.Attribute e f pos) (Pb X.K ta f):=by
 intro pins s U H Q I h
 refine LI hb (aR (he pins s U H _ I h) λu s1 ⟨x,H1,I1,rx,h1⟩=>?_)
 rcases h1 with ⟨a,C,dx,fs,v,ex,ea,c,n,l,q⟩|⟨a,C,dx,fs,v,ex,ea,ed,g,hh,no,l,q⟩
 ·subst ex
  obtain rfl:u=Value.ref a:=rx
  exact CK I1 ea c n l λu' s2 I2 ru=>⟨v,H1,I2,ru,q⟩
 ·subst ex
  obtain rfl:u=Value.ref a:=rx
  exact Og I1 ea ed g hh no l λu' s2 I2 ru=>⟨v,H1,I2,ru,q⟩
def jV {f:Str}{ins exc:Str->Bool}(F:FldF X.K X.mg f ins exc) (he:ME X Er e fa) (hb:attributeBase e f X.env (eval e X.env)=eval e X.env:=by rfl):ME X Er (.Attribute e f pos) (yx (br f ins exc) fa) :=
 PE.weak (Pc he hb) λU H Q ⟨env,st,ρ,re,rs,h⟩=>⟨env,st,ρ,re,rs,h.then λae H1 x st1 e1 s1 h1 v rv=>by
  cases x with
  |ref n =>
   obtain ⟨c,ks,xs,hn,h1⟩:=rY h1
   obtain ⟨hc,h1⟩:=Out.ifp h1
   obtain ⟨y,hy,h1⟩:=i9 h1
   obtain ⟨p,rfl,hp⟩:=rv
   obtain ⟨C',dx,vs,hC',hH,hR,hl⟩:=s1.addr hn hp
   obtain ⟨C,hC,cl,na⟩:=F.i c hc
   rw [hC] at hC'
   cases hC'
   obtain ⟨v,hv,rv⟩:=ke hR hy
   exact .inl ⟨p,_,dx,_,v,rfl,hH,cl,na,hv,h1.now s1 _ rv⟩
  |exo c ks xs =>
   obtain ⟨hc,h1⟩:=Out.ifp h1
   obtain ⟨y,hy,h1⟩:=i9 h1
   obtain ⟨a,C',rfl,hC',⟨hk,_⟩|⟨d,vs,hH,hd,hR,hl⟩⟩:=rv
   ·rw [hk] at hy;cases hy
   obtain ⟨C,hC,g,hh,no⟩:=F.x c hc
   rw [hC] at hC'
   cases hC'
   obtain ⟨v,hv,rv⟩:=ke hR hy
   exact .inr ⟨a,_,d,_,v,rfl,hH,hd,g,hh,no,hv,h1.now s1 _ rv⟩
  |_=>exact h1.elim⟩
def eV (o:Option Bool):Mo PV:=λst=>match o with
 |some b=>.ok (.bl b) st
 |none=>.stuck
def Pd {ρ:Ae}{H:Hp}{o:Option Bool}{st:aa}{good}(h:Out K mg ρ H (eV o st) good Er):∃b,o=some b/\Out K mg ρ H (.ok (.bl b) st) good Er:=by
 cases o with
 |some x=>exact ⟨x,rfl,h⟩
 |none=>exact h.elim
structure IsT where
 isx:Str->Bool
 sub:Str->Str->Option Bool
 subT:Str->String->Option Bool
 tyC:String->Str->Option Bool
structure Ei (K:Frag) (C:Addr):Prop where
 cl:dR K C
 ha:findIn K (.ref C) "__class__" = some (some (.builtin "object.__class__"))
 hn:specialIn K (.builtin "object.__class__") "__get__" = some (some (.builtin "getset_descriptor.__get__"))
 tk:takesIn K (.builtin "object.__class__")=some true
 hm:mroIn K C (.type "object")=some true
structure Xe (K:Frag) (mg:Ab) (t:IsT):Prop where
 s:∀c B b,t.sub c B=some b->∃C D,mg c=some (.ref C)/\mg B=some (.ref D)/\kitOne K (.ref C) (.ref D)=some b
 tt:∀c n b,t.subT c n=some b->∃C,mg c=some (.ref C)/\kitOne K (.ref C) (.type n)=some b
 u:∀T B b,t.tyC T B=some b->∃D,mg B=some (.ref D)/\kitOne K (.type T) (.ref D)=some b
 x:∀c C,t.isx c=true->mg c=some (.ref C)->((∃B b,t.sub c B=some b)\/∃n b,t.subT c n=some b)->oK K C
 i:∀c C,t.isx c=false->mg c=some (.ref C)->((∃B b,t.sub c B=some b)\/∃n b,t.subT c n=some b)->Ei K C
inductive sj (K:Frag) (H:Hp):V->Value->Prop where
 |of {v:V} {t:Value} (h:cP K H v t):sj K H v t
 |tup {a:Addr} {vs:List V} (h:bC K H a vs):sj K H (.ref a) (.type "tuple")
 |exc {a C d:Addr} {fs:List (Str×V)} (ha:H a=some (eP C (some d) a)) (hd:H d=some (.xd fs)) (k:oK K C):sj K H (.ref a) (.ref C)
 |exc0 {a C:Addr} (ha:H a=some (eP C none a)) (k:oK K C):sj K H (.ref a) (.ref C)
end
section
variable {X:Cx} {Er:XK} {K:Frag} {mg:Ab} {a c e o:Expr} {st:Stmt} {dD:List Stmt} {pos p pos':Pos} {fa fo:Ai} {k:Nat} {x:Str} {m:Al}
variable {g g' gb:Aj} {ga:Ak}
theorem Out.fl {ρ:Ae}{H:Hp}{st:aa}{D:Ends}{fl:Fl}{E:XK}(h:Out K mg ρ H (.ok fl st) (gS K mg D) E) (s:a_ K mg ρ H st):gS K mg D ρ H fl st:=h.now s
def zT:Aj:=λenv st=>.ok (.nx env) st
def fF (g:Aj):Fl->Mo Fl
 |.nx env,st=>g env st
 |fl,st=>.ok fl st
def zt (g g':Aj):Aj:=λenv st=>(g env st).bind (fF g')
def z9:dN X Er [] zT:=ck.weak KH λD U H ⟨env,st,ρ,re,rs,h⟩=>h.now rs U re
def zw (h1:MS X Er st g) (h2:dN X Er dD g'):dN X Er (st::dD) (zt g g') :=
 ck.weak (KI h1 h2) λD U H ⟨env,st,ρ,re,rs,h⟩=>⟨env,st,ρ,re,rs,h.then λae H1 fl st1 e1 s1 h1=>by
  cases fl with
  |nx cj=>exact λau Pe=>⟨cj,st1,ae,Pe,s1,h1⟩
  |rt v=>exact Out.fl (D:=D) (fl:=.rt v) (E:=Er) h1 s1
  |bk cj=>exact Out.fl (D:=D) (fl:=.bk cj) (E:=Er) h1 s1
  |ct cj=>exact Out.fl (D:=D) (fl:=.ct cj) (E:=Er) h1 s1⟩
def zx (h1:MS X Er st g):dN X Er [st] g:=Cp h1
def zV (i:Nat) (f:Ai):Aj:=λenv st=>(f env st).bind λx st1=>.ok (.nx (env.set i (some x))) st1
def yh (i:Nat) {x:Str}(he:ME X Er e fa) (hN:X.N.Nodup) (hi:X.N[i]?=some x:=by rfl) (hx:Loc X.env.scope x:=by first|exact Or.inl rfl|exact Or.inr rfl) (hs:swapsWith e (some (.Name x pos')) pos.line X.env=pure false:=by rfl)
  (hf:X.fn x=true\/X.env.scope.names.lookup x=some .local:=by first|exact .inl rfl|exact .inr rfl|assumption):MS X Er (.Assign [.Name x pos'] e pos) (zV i fa) :=
 PS.weak (KW hN hi hx he hs hf) λD U H ⟨env,st,ρ,re,rs,h⟩=>⟨env,st,ρ,re,rs,h.then λae H1 x st1 e1 s1 h1 v rv=>h1.now s1 _ ((re.ext e1).set i rv)⟩
def yU (f:Ai):Aj:=λenv st=>(f env st).bind λ_ st1=>.ok (.nx env) st1
def wj (he:ME X Er e fa) (hs:swapsWith e none pos.line X.env=pure false:=by rfl):MS X Er (.Expr e pos) (yU fa) :=
 PS.weak (KL he hs) λD U H ⟨env,st,ρ,re,rs,h⟩=>⟨env,st,ρ,re,rs,h.then λae H1 x st1 e1 s1 h1 v rv=>h1.now s1 _ (re.ext e1)⟩
def zH (f:Ai):Aj:=λenv st=>(f env st).bind λx st1=>.ok (.rt x) st1
def zN (he:ME X Er e fa):MS X Er (.Return (some e) pos) (zH fa) :=
 PS.weak (KO he) λD U H ⟨env,st,ρ,re,rs,h⟩=>⟨env,st,ρ,re,rs,h.then λae H1 x st1 e1 s1 h1 v rv=>h1.now s1 _ rv⟩
def zQ (t:Ak) (g g':Aj):Aj:=λenv st=>(t env st).bind λc st1=>if c=true then g env st1 else g' env st1
def ya {A B:List Stmt}(hc:MT X Er c ga) (ha:dN X Er A g) (hb:dN X Er B g'):MS X Er (.If c A B pos) (zQ ga g g') :=
 PS.weak (KQ hc ha hb) λD U H ⟨env,st,ρ,re,rs,h⟩=>⟨env,st,ρ,re,rs,h.then λae H1 k st1 e1 s1 h1=>by
  cases k with
  |true=>exact ⟨env,st1,ae,re.ext e1,s1,h1⟩
  |false=>exact ⟨env,st1,ae,re.ext e1,s1,h1⟩⟩
def ig:Am
 |.int i,.int j,st=>.ok (.int (i+j)) st
 |_,_,_=>.stuck
def oX (i:Nat) (op:Am) (f:Ai):Aj:=λenv st=>(zc i env st).bind λx dz=>(f env dz).bind λy st1=>(op x y st1).bind λz av=>.ok (.nx (env.set i (some z))) av
def uZ (X:Cx) (o:Operator) (op:Am):Prop:=∃r,vd X o r/\dy X.K X.mg r op
def Pf:uZ X .Add ig:=⟨_,K3,by
 intro ρ H st x y v w Q E s rx ry h
 cases x with
 |int i =>
  cases y with
  |int j=>cases rx;cases ry;exact ⟨i,j,rfl,rfl,Out.now (x:=PV.int (i+j)) h s _ rfl⟩
  |_=>exact h.elim
 |_=>exact h.elim⟩
def Pg (i:Nat) {x:Str}{o:Operator}{op:Am}(ho:uZ X o op) (he:ME X Er e fa) (hN:X.N.Nodup) (hi:X.N[i]?=some x:=by rfl) (hx:Loc X.env.scope x:=by first|exact Or.inl rfl|exact Or.inr rfl)
  (hf:X.fn x=true\/X.env.scope.names.lookup x=some .local:=by first|exact .inl rfl|exact .inr rfl|assumption):MS X Er (.AugAssign (.Name x pos') o e pos) (oX i op fa):=by
 obtain ⟨r,h1,h2⟩:=ho
 refine PS.weak (KZ hN hi hx he h1 hf) λD U H ⟨env,st,ρ,re,rs,h⟩=>?_
 unfold oX zc at h
 cases hx:env[i]? with
 |none=>simp only [hx] at h;exact h.elim
 |some q =>
  cases q with
  |none=>simp only [hx] at h;exact h.elim
  |some x0 =>
   simp only [hx] at h
   obtain ⟨v,hv,rv⟩:=re.at_ i x0 hx
   exact ⟨v,hv,env,st,ρ,re,rs,Out.then (f:=λy st1=>(op x0 y st1).bind λz av=>Res.ok (Fl.nx (env.set i (some z))) av) (good:=gS X.K X.mg D) h λae H1 y st1 e1 s1 k1 w rw=>h2 ae H1 st1 x0 y v w _ Er s1 (R.ext e1 x0 rv) rw (k1.then λam H2 z av e2 s2 k2 u ru=>k2.now s2 _ (((re.ext e1).ext e2).set i ru))⟩
def putK (f:Str) (x:PV):List Str->List PV->List Str×List PV
 |k::ks,y::ys=>if k=f then (k::ks,x::ys) else (k::(putK f x ks ys).1,y::(putK f x ks ys).2)
 |_,_=>([f],[x])
theorem xH {ρ:Ae}{H:Hp}{f:Str}{x:PV}{v:V}(r:R K mg ρ H x v):∀{ks:Ad}{xs:An}{vs:List V},ks.length=vs.length->Rs K mg ρ H xs vs->∃ws,bX f v (ks.zip vs)=(putK f x ks xs).1.zip ws/\Rs K mg ρ H (putK f x ks xs).2 ws/\(putK f x ks xs).1.length=ws.length
 |[],xs,vs,hl,h=>by
  have:vs=[]:=by cases vs with|nil=>rfl|cons=>simp at hl
  subst this
  have:xs=[]:=by cases xs with|nil=>rfl|cons=>obtain ⟨_,_,e,_⟩:=h;cases e
  subst this
  exact ⟨[v],rfl,⟨v,[],rfl,r,rfl⟩,rfl⟩
 |k::ks,xs,vs,hl,h=>by
  cases vs with
  |nil=>simp at hl
  |cons v0 vs =>
   cases xs with
   |nil=>cases h
   |cons y ys =>
    obtain ⟨Xf,r',e,h1,h2⟩:=h
    cases e
    simp only [putK,List.zip_cons_cons,bX]
    by_cases hk:k=f
    ·rw [zp hk,zp hk]
     exact ⟨v::vs,rfl,⟨v,vs,rfl,r,h2⟩,by simpa using hl⟩
    ·rw [zD hk,zD hk]
     obtain ⟨ws,e1,e2,e3⟩:=xH r (by simpa using hl) h2
     exact ⟨v0::ws,by rw [e1];rfl,⟨v0,ws,rfl,h1,e2⟩,by simp [e3]⟩
def putAt (f:Str) (ins:Str->Bool) (x:PV):PV->Mo Unit
 |.ref n,st=>yJ st n λc ks xs=>if ins c=true/\ks.length<1000 then .ok () (st.set n (.ins c (putK f x ks xs).1 (putK f x ks xs).2)) else .stuck
 |_,_=>.stuck
def sFld (f:Str) (ins:Str->Bool) (fo fv:Ai):Aj:=λenv st=>(fv env st).bind λx st1=>(fo env st1).bind λo av=>(putAt f ins x o av).bind λ_ bb=>.ok (.nx env) bb
def zcL {f:Str}{ins exc:Str->Bool}(F:FldF X.K X.mg f ins exc) (ho:ME X Er o fo) (he:ME X Er e fa) (hs:swapsWith e (some (.Attribute o f pos')) pos.line X.env=pure false:=by rfl):MS X Er (.Assign [.Attribute o f pos'] e pos) (sFld f ins fo fa) :=
 PS.weak (LK ho he hs) λD U H ⟨env,st,ρ,re,rs,h⟩=>⟨env,st,ρ,re,rs,h.then λae H1 x st1 e1 s1 h1 v rv=>⟨env,st1,ae,re.ext e1,s1,h1.then λam H2 y av e2 s2 h2 w rw=>by
  cases y with
  |ref n =>
   cases hn:av[n]? with
   |none=>simp only [putAt,yJ,hn] at h2;exact h2.elim
   |some so =>
    cases so with
    |lst _=>simp only [putAt,yJ,hn] at h2;exact h2.elim
    |dic _ _=>simp only [putAt,yJ,hn] at h2;exact h2.elim
    |fdi _ _=>simp only [putAt,yJ,hn] at h2;exact h2.elim
    |dit _ _=>simp only [putAt,yJ,hn] at h2;exact h2.elim
    |ins c ks xs =>
     simp only [putAt,yJ,hn] at h2
     by_cases hc:ins c=true/\ks.length<1000
     ·rw [zp hc] at h2
      obtain ⟨p,rfl,hp⟩:=rw
      obtain ⟨C',dx,vs,hC',hH,hR,hl⟩:=s2.addr hn hp
      obtain ⟨C,hC,cl,na⟩:=F.i c hc.1
      rw [hC] at hC'
      cases hC'
      obtain ⟨ws,k1,k2,k3⟩:=xH (f:=f) (R.ext e2 x rv) hl hR
      refine ⟨p,_,dx,_,rfl,hH,cl,na,?_,?_⟩
      ·rw [List.length_zip,<-hl];have:=hc.2;omega
      ·have ew:Ext am H2 am (upd H2 p (.ins C' dx (bX f v (ks.zip vs)))):=Ext.write hH rfl
       exact h2 am _ ew (s2.write hp ew ⟨_,dx,ws,hC,by rw [yv,k1],Rs.ext ew _ k2,k3⟩) U (((re.ext e1).ext e2).ext ew)
     ·rw [zD hc] at h2;exact h2.elim
  |_=>exact h2.elim⟩⟩
def MG (X:Cx) (Er:XK) (e:Expr) (g:PV->zd->Option zd):Prop:=PG X e λv U H Q=>∃x env bT ρ,R X.K X.mg ρ H x v/\bp X.K X.mg ρ H env U/\g x env=some bT/\∀ah,bp X.K X.mg ρ H bT ah->Q ah H
def PG.weak {t t':TG}(h:PG X e t) (w:∀v U H Q,t' v U H Q->t v U H Q):PG X e t':=λpins s U H v u Q I r q=>h pins s U H v u Q I r (w v U H Q q)
def gN (i:Nat):PV->zd->Option zd:=λx env=>some (env.set i (some x))
def sk (i:Nat) {x:Str}(hN:X.N.Nodup) (hi:X.N[i]?=some x:=by rfl) (hx:Loc X.env.scope x:=by first|exact Or.inl rfl|exact Or.inr rfl) (hf:X.fn x=true\/X.env.scope.names.lookup x=some .local:=by first|exact .inl rfl|exact .inr rfl|assumption):MG X Er (.Name x pos) (gN i) :=
 PG.weak (kJ hN hi hx hf) λv U H Q ⟨x,env,bT,ρ,rx,re,hg,q⟩=>by
  cases hg
  exact q _ (re.set i rx)
def g2 (i j:Nat):PV->zd->Option zd
 |.tup [x,y],env=>some ((env.set i (some x)).set j (some y))
 |_,_=>none
def Ph {i j:Nat}{x:PV}{env bT:zd}(h:g2 i j x env=some bT):∃y z,x=.tup [y,z]/\bT=(env.set i (some y)).set j (some z):=by
 unfold g2 at h
 split at h
 ·cases h;exact ⟨_,_,rfl,rfl⟩
 ·cases h
def Ej (i j:Nat) {x y:Str}{kt:Nat}{px py:Pos}(hc:X.calm=true) (hN:X.N.Nodup) (hi:X.N[i]?=some x:=by rfl) (hj:X.N[j]?=some y:=by rfl) (hx:Loc X.env.scope x:=by first|exact Or.inl rfl|exact Or.inr rfl) (hy:Loc X.env.scope y:=by first|exact Or.inl rfl|exact Or.inr rfl)
  (hf:X.fn x=true\/X.env.scope.names.lookup x=some .local:=by first|exact .inl rfl|exact .inr rfl|assumption) (lq:X.fn y=true\/X.env.scope.names.lookup y=some .local:=by first|exact .inl rfl|exact .inr rfl|assumption):MG X Er (.Tuple [.Name x px,.Name y py] kt pos) (g2 i j) :=
 PG.weak (Cu (n:=2) hc (ri (kJ hN hi hx hf) (ri (kJ hN hj hy lq) Cs))) λv U H Q ⟨x,env,bT,ρ,rx,re,hg,q⟩=>by
  obtain ⟨y,z,rfl,rfl⟩:=Ph hg
  obtain ⟨a,vs,rfl,h1,h2⟩:=rx
  obtain ⟨u,w,rfl,r1,r2⟩:=Rs.two h2
  exact ⟨a,_,rfl,h1,rfl,u,[w],rfl,w,[],rfl,rfl,q _ ((re.set i r1).set j r2)⟩
def g3 (i j k:Nat):PV->zd->Option zd
 |.tup [x,y,z],env=>some (((env.set i (some x)).set j (some y)).set k (some z))
 |_,_=>none
inductive Sq where
 |im (xs:An)|rf (n:Nat)
def Walk (K:Frag) (mg:Ab) (J:It) (ρ:Ae) (H:Hp):Sq->Prop
 | .im xs=>(∀i ag H',Ext ρ H ag H'->i<xs.length->J.go i H')/\(∀i ag H',Ext ρ H ag H'->xs.length<=i->J.stop i H') /\
  ∀i ag H' st v H2,Ext ρ H ag H'->a_ K mg ag H' st->i<xs.length->J.yld i H' v H2->∃x,xs[i]?=some x/\Ext ag H' ag H2/\a_ K mg ag H2 st/\R K mg ag H2 x v
 |.rf n=>∃a,ρ[n]?=some a/\J=rk K a
def MI (X:Cx) (Er:XK) (tg iter:Expr) (src:zd->Mo Sq):Prop:=PI X tg iter λU H R=>∃env st ρ,bp X.K X.mg ρ H env U/\a_ X.K X.mg ρ H st/\Out X.K X.mg ρ H (src env st) (λag H' q aP=>∀J,Walk X.K X.mg J ag H' q->R J H') Er
def forL (g:PV->zd->Option zd) (body:Aj):List PV->Aj
 |[],env,st=>.ok (.nx env) st
 | x::xs,env,st=>match g x env with
  |none=>.stuck
  | some cj=>(body cj st).bind λfl av=>match fl with
   |.nx e=>forL g body xs e av
   |.ct e=>forL g body xs e av
   |.bk e=>.ok (.nx e) av
   |.rt v=>.ok (.rt v) av
def forR (g:PV->zd->Option zd) (body:Aj) (n:Nat):Nat->Nat->Aj
 |0,_,_,_=>.stuck
 | m+1,i,env,st=>yl st n λxs=>match xs[i]? with
  |none=>.ok (.nx env) st
  | some x=>match g x env with
   |none=>.stuck
   | some cj=>(body cj st).bind λfl av=>match fl with
    |.nx e=>forR g body n m (i+1) e av
    |.ct e=>forR g body n m (i+1) e av
    |.bk e=>.ok (.nx e) av
    |.rt v=>.ok (.rt v) av
def oY (g:PV->zd->Option zd) (body:Aj):Sq->Aj
 |.im xs=>forL g body xs
 |.rf n=>forR g body n (lim+1) 0
def js (src:zd->Mo Sq) (g:PV->zd->Option zd) (body:Aj):Aj:=λenv st=>(src env st).bind λq st1=>oY g body q env st1
def Pj {tg iter:Expr}{src:zd->Mo Sq}{gt:PV->zd->Option zd}(hp:PassesOwn (model X.prog X.w) X.A X.env X.xe) (hc:X.calm=true) (hi:MI X Er tg iter src) (hg:MG X Er tg gt) (hb:dN X Er dD gb)
  (hs:∀x,foldedSetIterable iter X.env x=pure x:=by intro _;rfl):MS X Er (.For tg iter dD [] pos) (js src gt gb) :=
 PS.weak (Cy hp hc hi hg hb hs) λD U H ⟨env,st,ρ,re,rs,h⟩=>⟨env,st,ρ,re,rs,h.then λar H0 q dz e0 s0 h0 J wk=>by
  cases q with
  |im xs =>
   obtain ⟨w1,w2,w3⟩:=wk
   refine ⟨λi m U H=>m=xs.length-i/\i<=xs.length/\∃env st ρ,bp X.K X.mg ρ H env U/\a_ X.K X.mg ρ H st/\Ext ar H0 ρ H/\Out X.K X.mg ρ H (forL gt gb (xs.drop i) env st) (gS X.K X.mg D) Er,⟨xs.length,by simp,jh _,env,dz,ar,re.ext e0,s0,Ext.refl,h0⟩,?_⟩
   rintro i m U H ⟨rfl,hi,env,st,ρ,re,rs,ex,h⟩
   by_cases bD:i<xs.length
   ·refine .inr ⟨w1 i ρ H ex bD,_,λah H' p'=>⟨xs.length-(i+1),by omega,rfl,bD,p'⟩,λv H' y=>?_⟩
    obtain ⟨x,hx,eX,s2,rx⟩:=w3 i ρ H st v H' ex rs bD y
    have hd:xs.drop i=x::xs.drop (i+1):=by
     rw [jy bD]
     have:=(yu.mp hx).2
     rw [this]
    rw [hd] at h
    cases hgx:gt x env with
    |none=>simp only [forL,hgx] at h;exact h.elim
    |some cj =>
     simp only [forL,hgx] at h
     refine ⟨x,env,cj,ρ,rx,re.ext eX,hgx,λau r1=>⟨cj,st,ρ,r1,s2,Out.then (Out.ext h eX) λao H3 fl bb e3 s3 h3=>?_⟩⟩
     cases fl with
     |nx e=>exact λaA r4=>⟨e,bb,ao,r4,s3,(ex.trans eX).trans e3,h3⟩
     |ct e=>exact λaA r4=>⟨e,bb,ao,r4,s3,(ex.trans eX).trans e3,h3⟩
     |bk e=>exact Out.fl (D:=D) (fl:=.nx e) (E:=Er) h3 s3
     |rt v=>exact Out.fl (D:=D) (fl:=.rt v) (E:=Er) h3 s3
   ·have e:i=xs.length:=by omega
    subst e
    rw [List.drop_length] at h
    exact .inl ⟨w2 _ ρ H ex (z0 _),Out.now (x:=Fl.nx env) h rs U re⟩
  |rf n =>
   obtain ⟨a,ha,rfl⟩:=wk
   refine ⟨λi m U H=>∃env st ρ,bp X.K X.mg ρ H env U/\a_ X.K X.mg ρ H st/\ρ[n]?=some a/\Out X.K X.mg ρ H (forR gt gb n m i env st) (gS X.K X.mg D) Er,⟨lim+1,env,dz,ar,re.ext e0,s0,ha,h0⟩,?_⟩
   rintro i m U H ⟨env,st,ρ,re,rs,ha,h⟩
   cases m with
   |zero=>exact h.elim
   |succ m =>
    obtain ⟨xs,hn,h⟩:=jb h
    obtain ⟨vs,hH,hR⟩:=rs.addr hn ha
    cases hx:xs[i]? with
    |none =>
     simp only [hx] at h
     have:vs.length<=i:=by rw [<-hR.len];exact gj.mp hx
     exact .inl ⟨⟨vs,ba.of hH,this⟩,Out.now (x:=Fl.nx env) h rs U re⟩
    |some x =>
     simp only [hx] at h
     obtain ⟨v,hv,rv⟩:=hR.get hx
     refine .inr ⟨⟨vs,v,ba.of hH,hv⟩,_,λah H' p'=>⟨m,wy m,p'⟩,λv' H' y=>?_⟩
     obtain ⟨e1,y⟩:=y
     subst e1
     have e2:=y vs (ba.of hH)
     rw [hv] at e2
     cases e2
     cases hgx:gt x env with
     |none=>simp only [hgx] at h;exact h.elim
     |some cj =>
      simp only [hgx] at h
      refine ⟨x,env,cj,ρ,rv,re,hgx,λau r1=>⟨cj,st,ρ,r1,rs,Out.then h λao H3 fl bb e3 s3 h3=>?_⟩⟩
      cases fl with
      |nx e=>exact λaA r4=>⟨e,bb,ao,r4,s3,e3.get ha,h3⟩
      |ct e=>exact λaA r4=>⟨e,bb,ao,r4,s3,e3.get ha,h3⟩
      |bk e=>exact Out.fl (D:=D) (fl:=.nx e) (E:=Er) h3 s3
      |rt v=>exact Out.fl (D:=D) (fl:=.rt v) (E:=Er) h3 s3⟩
end
section
variable {X:Cx} {Er:XK} {K:Frag} {mg:Ab} {a b c e o tg:Expr} {es:List Expr} {st:Stmt} {dD:List Stmt} {pos p apos:Pos} {fa fb fo:Ai} {fs:Ah} {k:Nat} {x:Str} {m:Al}
variable {g gb:Aj} {ga:Ak}
def PI.weak {t t':TI}(h:PI X tg e t) (w:∀U H Q,t' U H Q->t U H Q):PI X tg e t':=λpins s U H Q I q=>h pins s U H Q I (w U H Q q)
def Pk (K:Frag) (tl:TE):TI:=λU H R=>tl U H λx H1=>(∃a,x=.ref a/\(∃xs,ba K H1 a xs)/\R (rk K a) H1)\/(∃a,x=.ref a/\(∃xs,bC K H1 a xs)/\R (vf K a) H1)\/∃z,x=.str z/\R (vS z) H1
def Pl {l:Expr}{tl:TE}(hl:PE X l tl):PI X tg l (Pk X.K tl):=by
 intro pins s U H R I h
 refine aR (hl pins s U H _ I h) λv s1 ⟨x,H1,I1,r1,q1⟩=>?_
 have fin:∀b∈[s1.heap.objs.size],cO X pins H1 b:=λb hb=>by
  have e:b=s1.heap.objs.size:=by simpa using hb
  subst e
  exact I1.fpOk (z0 _) (I1.hok.fresh (z0 _))
 rcases q1 with ⟨a,e,⟨xs,hq⟩,q⟩|⟨a,e,⟨xs,hq⟩,q⟩|⟨z,rfl,q⟩
 ·subst e
  cases r1
  obtain ⟨its,rv,p,hz⟩:=I1.list hq
  exact wpAny_pyIter_list p.isList ⟨s1.heap.objs.size,[s1.heap.objs.size],_,_,H1,rfl,I1.kept (t':=s1.toks) (λb o e=>zU _ e),K6 a _,⟨_,yK _ rfl,rfl,rfl⟩,fin,q⟩
 ·subst e
  cases r1
  obtain ⟨its,rv,p,hz⟩:=I1.tuple hq
  exact wpAny_pyIter_tuple (show s1.heap.IsTuple a its.toArray from p) ⟨s1.heap.objs.size,[s1.heap.objs.size],_,_,H1,rfl,I1.kept (t':=s1.toks) (λb o e=>zU _ e),K7 a _,⟨_,yK _ rfl,rfl,rfl⟩,fin,q⟩
 ·obtain ⟨t,rfl⟩:=r1
  cases ha:z.cps.all (·<128) with
  |false=>exact wpAny_pyIter_wide ha ⟨s1.heap.objs.size,[s1.heap.objs.size],_,_,H1,rfl,I1.kept (t':=s1.toks) (λb o e=>zU _ e),Dz z t _ "str_iterator" (.inr rfl),⟨_,yK _ rfl,rfl,rfl⟩,fin,q⟩
  |true=>exact wpAny_pyIter_ascii ha ⟨s1.heap.objs.size,[s1.heap.objs.size],_,_,H1,rfl,I1.kept (t':=s1.toks) (λb o e=>zU _ e),Dz z t _ "str_ascii_iterator" (.inl rfl),⟨_,yK _ rfl,rfl,rfl⟩,fin,q⟩
def Pn {ρ:Ae}{H:Hp}{a:Addr}{xs:An}{vs:List V}(h:bC K H a vs) (r:Rs K mg ρ H xs vs):Walk K mg (vf K a) ρ H (.im xs):=by
 refine ⟨λi ag H' e hi=>?_,λi ag H' e hi=>⟨vs,e.sqT h,by rw [<-r.len];exact hi⟩,λi ag H' st v H2 e s hi y=>?_⟩
 ·obtain ⟨v,hv,_⟩:=r.get (yb hi)
  exact ⟨vs,v,e.sqT h,hv⟩
 ·obtain ⟨e1,y⟩:=y
  subst e1
  obtain ⟨v',hv,rv⟩:=r.get (yb hi)
  have:=y vs (e.sqT h)
  rw [hv] at this
  cases this
  exact ⟨_,yb hi,Ext.refl,s,R.ext e _ rv⟩
def Po {ρ:Ae}{H:Hp}{a:Addr}{xs:An}{vs:List V}(h:ic K H a vs) (r:Rs K mg ρ H xs vs):Walk K mg (rk K a) ρ H (.im xs):=by
 have hs:∀{ag H'},Ext ρ H ag H'->ba K H' a vs:=λe=>(e.frl h).sq
 refine ⟨λi ag H' e hi=>?_,λi ag H' e hi=>⟨vs,hs e,by rw [<-r.len];exact hi⟩,λi ag H' st v H2 e s hi y=>?_⟩
 ·obtain ⟨v,hv,_⟩:=r.get (yb hi)
  exact ⟨vs,v,hs e,hv⟩
 ·obtain ⟨e1,y⟩:=y
  subst e1
  obtain ⟨v',hv,rv⟩:=r.get (yb hi)
  have:=y vs (hs e)
  rw [hv] at this
  cases this
  exact ⟨_,yb hi,Ext.refl,s,R.ext e _ rv⟩
def signs (z:Str):An:=z.cps.toList.map λc=>.str ⟨#[c]⟩
def Pp {ρ:Ae}{H:Hp}(z:Str):Walk K mg (vS z) ρ H (.im (signs z)):=by
 have hl:(signs z).length=z.cps.size:=by simp [signs]
 refine ⟨λi ag H' e hi=>by rw [hl] at hi;exact hi,λi ag H' e hi=>by rw [hl] at hi;exact hi,λi ag H' st v H2 e s hi y=>?_⟩
 obtain ⟨e1,c,hc,e2⟩:=y
 subst e1 e2
 refine ⟨.str ⟨#[c]⟩,?_,Ext.refl,s,rfl⟩
 simp [signs,hc]
def nums (lo:Int) (n:Nat):An:=(List.range n).map λi=>.int (lo+(i:Nat))
def Pq {ρ:Ae}{H:Hp}(lo:Int) (n:Nat):Walk K mg (rm lo n) ρ H (.im (nums lo n)):=by
 have hl:(nums lo n).length=n:=by simp [nums]
 refine ⟨λi ag H' e hi=>by rw [hl] at hi;exact hi,λi ag H' e hi=>by rw [hl] at hi;exact hi,λi ag H' st v H2 e s hi y=>?_⟩
 obtain ⟨e1,e2⟩:=y
 subst e1 e2
 rw [hl] at hi
 exact ⟨.int (lo+i),by simp [nums,hi],Ext.refl,s,rfl⟩
def d_:PV->Mo Sq
 |.tup xs,st=>.ok (.im xs) st
 |.frl xs,st=>.ok (.im xs) st
 |.str z,st=>.ok (.im (signs z)) st
 |.ref n,st=>yl st n λ_=>.ok (.rf n) st
 |_,_=>.stuck
def yA (f:Ai):zd->Mo Sq:=λenv st=>(f env st).bind d_
def j7 (h:ME X Er e fa):MI X Er tg e (yA fa):=PI.weak (Pl h) λU H Q ⟨env,st,ρ,re,rs,h⟩=>⟨env,st,ρ,re,rs,h.then λae H1 x st1 e1 s1 h1 v rv=>by
 cases x with
 |tup xs =>
  obtain ⟨a,vs,rfl,k1,k2⟩:=rv
  exact .inr (.inl ⟨a,rfl,⟨vs,k1⟩,Out.now (x:=Sq.im xs) h1 s1 _ (Pn k1 k2)⟩)
 |frl xs =>
  obtain ⟨a,vs,rfl,k1,k2⟩:=rv
  exact .inl ⟨a,rfl,⟨vs,k1.sq⟩,Out.now (x:=Sq.im xs) h1 s1 _ (Po k1 k2)⟩
 |str z =>
  cases rv
  exact .inr (.inr ⟨z,rfl,Out.now (x:=Sq.im (signs z)) h1 s1 _ (Pp z)⟩)
 |ref n =>
  obtain ⟨a,rfl,ha⟩:=rv
  obtain ⟨xs,hn,h1⟩:=jb h1
  obtain ⟨vs,k1,k2⟩:=s1.addr hn ha
  exact .inl ⟨a,rfl,⟨vs,ba.of k1⟩,h1.now s1 _ ⟨a,ha,rfl⟩⟩
 |_=>exact h1.elim⟩
abbrev cR (j:Int):Bool:=decide (-(2 ^ 62)<=j)&&decide (j<2 ^ 62)
def lu:List PV->Mo Sq
 |[.int j],st=>if cR j=true then .ok (.im (nums 0 j.toNat)) st else .stuck
 |_,_=>.stuck
def Pr {ρ:Ae}{H:Hp}{xs:An}{st:aa}{good:List Addr->Hp->Sq->aa->Prop}(h:Out K mg ρ H (lu xs st) good Er):∃j,xs=[.int j] /\ -(2 ^ 62)<=j/\j<2 ^ 62/\Out K mg ρ H (.ok (.im (nums 0 j.toNat)) st) good Er:=by
 unfold lu at h
 split at h
 ·obtain ⟨c,h⟩:=Out.ifp h
  simp [cR] at c
  exact ⟨_,rfl,c.1,c.2,h⟩
 ·exact h.elim
def bJ (fs:Ah):zd->Mo Sq:=λenv st=>(fs env st).bind lu
def Pt {a:Expr} (hm:X.mg "range" = none) (ha:MA X Er [a] fs) (hg:Gl X "range" := by rfl) (hs:starEach [a] X.env=[(false,eval a X.env)]:=by rfl):MI X Er tg (.Call (.Name "range" p) [a] [] pos) (bJ fs) :=
 PI.weak (K_ hg hm ha hs) λU H Q ⟨env,st,ρ,re,rs,h⟩=>⟨env,st,ρ,re,rs,h.then λae H1 xs st1 e1 s1 h1 vs rv=>by
  obtain ⟨j,rfl,c1,c2,h1⟩:=Pr h1
  obtain ⟨v,rfl,rfl⟩:=Rs.one rv
  exact ⟨j,rfl,c1,c2,h1.now s1 _ (Pq 0 j.toNat)⟩⟩
def wW (xs ys:An):An:=(xs.zip ys).map λq=>.tup [q.1,q.2]
def oZ:List PV->Mo Sq
 |[.tup xs,.tup ys],st=>.ok (.im (wW xs ys)) st
 |_,_=>.stuck
def Pu {ρ:Ae}{H:Hp}{xs:An}{st:aa}{good:List Addr->Hp->Sq->aa->Prop}(h:Out K mg ρ H (oZ xs st) good Er):∃ys zs,xs=[.tup ys,.tup zs]/\Out K mg ρ H (.ok (.im (wW ys zs)) st) good Er:=by
 unfold oZ at h
 split at h
 ·exact ⟨_,_,rfl,h⟩
 ·exact h.elim
def Pw {ρ:Ae}{H:Hp}{a b:Addr}{xs ys:An}{vs ws:List V}(h:bC K H a vs) (r:Rs K mg ρ H xs vs) (h':bC K H b ws) (r':Rs K mg ρ H ys ws):Walk K mg (xf K a b) ρ H (.im (wW xs ys)):=by
 have hl:(wW xs ys).length=min xs.length ys.length:=by simp [wW]
 have l1:=r.len
 have l2:=r'.len
 refine ⟨λi ag H' e hi=>?_,λi ag H' e hi=>⟨vs,ws,e.sqT h,e.sqT h',by rw [hl] at hi;omega⟩,λi ag H' st v H2 e s hi y=>?_⟩
 ·rw [hl] at hi
  obtain ⟨v,hv,_⟩:=r.get (yb (show i<xs.length by omega))
  obtain ⟨w,hw,_⟩:=r'.get (yb (show i<ys.length by omega))
  exact ⟨vs,ws,v,w,e.sqT h,e.sqT h',hv,hw⟩
 ·rw [hl] at hi
  obtain ⟨T,v',w',hT,rfl,rfl,y1,y2⟩:=y
  have k1:i<xs.length:=by omega
  have k2:i<ys.length:=by omega
  obtain ⟨v,hv,rv⟩:=r.get (yb k1)
  obtain ⟨w,hw,rw'⟩:=r'.get (yb k2)
  have q1:=y1 vs (e.sqT h)
  have q2:=y2 ws (e.sqT h')
  rw [hv] at q1
  rw [hw] at q2
  cases q1;cases q2
  refine ⟨.tup [xs[i],ys[i]],?_,Ext.new hT,s.new hT,R.tup_of ⟨_,[_],rfl,R.ext e _ rv,_,[],rfl,R.ext e _ rw',rfl⟩ hT⟩
  rw [wW,yP,yb (by simp;omega)]
  simp
def xI (fs:Ah):zd->Mo Sq:=λenv st=>(fs env st).bind oZ
def Px {elts:List Expr} {kt:Nat} {tp:Pos} {x y:Expr} (hm:X.mg "zip" = none) (ha:MA X Er [x,y] fs) (hg:Gl X "zip" := by rfl) (hs:starEach [x,y] X.env=[(false,eval x X.env),(false,eval y X.env)]:=by rfl) (gq:starEach [y] X.env=[(false,eval y X.env)]:=by rfl) :
  MI X Er (.Tuple elts kt tp) (.Call (.Name "zip" p) [x,y] [] pos) (xI fs) :=
 PI.weak (Ou hg hm ha hs gq) λU H Q ⟨env,st,ρ,re,rs,h⟩=>⟨env,st,ρ,re,rs,h.then λae H1 xs st1 e1 s1 h1 vs rv=>by
  obtain ⟨ys,zs,rfl,h1⟩:=Pu h1
  obtain ⟨v,w,rfl,⟨a,us,rfl,k1,k2⟩,⟨b,ws,rfl,k3,k4⟩⟩:=Rs.two rv
  exact ⟨a,b,rfl,⟨us,k1⟩,⟨ws,k3⟩,h1.now s1 _ (Pw k1 k2 k3 k4)⟩⟩
def bG (t:Ak) (b:Aj):Nat->Aj
 |0,_,_=>.stuck
 | n+1,env,st=>(t env st).bind λc st1=>if c=true then (b env st1).bind λfl av=>match fl with
   |.nx e=>bG t b n e av
   |.ct e=>bG t b n e av
   |.bk e=>.ok (.nx e) av
   |.rt v=>.ok (.rt v) av
  else .ok (.nx env) st1
def kf (t:Ak) (b:Aj):Aj:=bG t b lim
def Py (hp:PassesOwn (model X.prog X.w) X.A X.env X.xe) (hc:MT X Er c ga) (hb:dN X Er dD gb):MS X Er (.While c dD [] pos) (kf ga gb) :=
 PS.weak (K5 hp hc hb) λD U H ⟨env,st,ρ,re,rs,h⟩=>by
  refine ⟨λm U H=>∃env st ρ,bp X.K X.mg ρ H env U/\a_ X.K X.mg ρ H st/\Out X.K X.mg ρ H (bG ga gb m env st) (gS X.K X.mg D) Er,⟨lim,env,st,ρ,re,rs,h⟩,?_⟩
  rintro m U H ⟨env,st,ρ,re,rs,h⟩
  cases m with
  |zero=>exact h.elim
  |succ m =>
   refine ⟨env,st,ρ,re,rs,Out.then h λae H1 k st1 e1 s1 h1=>?_⟩
   cases k with
   |true =>
    change (if true=true then _ else D.nx U H1)
    rw [zp rfl]
    refine ⟨_,λah H' p'=>⟨m,wy m,p'⟩,env,st1,ae,re.ext e1,s1,Out.then h1 λao H3 fl bb e3 s3 h3=>?_⟩
    cases fl with
    |nx e=>exact λaA r4=>⟨e,bb,ao,r4,s3,h3⟩
    |ct e=>exact λaA r4=>⟨e,bb,ao,r4,s3,h3⟩
    |bk e=>exact Out.fl (D:=D) (fl:=.nx e) (E:=Er) h3 s3
    |rt v=>exact Out.fl (D:=D) (fl:=.rt v) (E:=Er) h3 s3
   |false =>
    have z:D.nx U H1:=Out.fl (D:=D) (fl:=.nx env) (E:=Er) h1 s1 U (re.ext e1)
    exact z
def sr (cn fld:Str) (f:Ai):Aj:=λenv st=>(f env st).bind λx st1=>.err cn [fld] [x] st1
def Pz {cn fld:Str} {np aK:Pos} (C:xE X.prog X.w X.K X.mg X.base cn fld) (he:ME X Er e fa) (hr:aZ 2 X.A) (ht:j0 X Er) (hc:X.calm=true) (hg:Gl X cn:=by rfl) (bK:(cn==("__debug__" : Str))=false:=by decide)
  (hs:starEach [e] X.env=(false,eval e X.env)::starEach [] X.env:=by rfl):MS X Er (.Raise (some (.Call (.Name cn np) [e] [] aK)) none pos) (sr cn fld fa):=by
 obtain ⟨C,f,fd,hm,M,F,hb⟩:=C
 exact PS.weak (NY he M F hr hg hm hb (mG ht) ht.one hc bK hs) λD U H ⟨env,st,ρ,re,rs,h⟩=>⟨env,st,ρ,re,rs,h.then λae H1 x st1 e1 s1 h1 v rv d hd=>by
  exact h1 ae _ _ _ (Ext.new hd) (s1.new hd) ⟨C,rfl,hm,.inr ⟨d,[v],rfl,yv,⟨v,[],rfl,R.ext (Ext.new hd) x rv,rfl⟩,rfl⟩⟩⟩
def dI (cn:Str):Aj:=λ_ st=>.err cn [] [] st
def bH {α:Type}:Res α->Res α
 |.err _ _ _ _=>.stuck
 |r=>r
def gz {α β:Type}{ρ:Ae}{H:Hp}{r:Res β}{f:β->Mo α}{good:List Addr->Hp->α->aa->Prop}{dM:List Addr->Hp->β->aa->Prop}{E E':XK}(h:Out K mg ρ H ((bH r).bind f) good E) (g:∀ag H' x st,Ext ρ H ag H'->a_ K mg ag H' st->Out K mg ag H' (f x st) good E->dM ag H' x st):Out K mg ρ H r dM E':=by
 cases r with
 |ok x st=>exact λag H' e s=>g ag H' x st e s (Out.ext h e)
 |err=>exact h.elim
 |stuck=>exact h.elim
def PB (K:Frag) (mg:Ab) (f:Ai):TX:=λU H Q E=>∃env st ρ,bp K mg ρ H env U/\a_ K mg ρ H st/\Out K mg ρ H (f env st) (gV K mg Q) E
def MX (X:Cx) (e:Expr) (f:Ai):Prop:=PX X e (PB X.K X.mg f)
def PX.weak {t t':TX}(h:PX X e t) (w:∀U H Q E,t' U H Q E->t U H Q E):PX X e t':=λpins s U H Q E I q=>h pins s U H Q E I (w U H Q E q)
def ly (m:Al) (fs:Ah):Ai:=λenv st=>(bH (fs env st)).bind m
def PC (C:bo X.prog X.w X.K X.mg X.base x k m) (hr:aZ k X.A) (ha:MA X.nox E0 (e::es) fs) (hg:Gl X x:=by rfl) (bK:(x==("__debug__" : Str))=false:=by decide)
  (he:starEach (e::es) X.env=(false,eval e X.env)::starEach es X.env:=by rfl) (bu:(backTo pos (starEach es X.env)).any (·.1)=false:=by rfl):MX X (.Call (.Name x p) (e::es) [] pos) (ly m fs):=by
 obtain ⟨f,fd,ps,hm,hk,hb,F⟩:=C
 exact PX.weak (N0 F hr hg hm hk hb .nil ha bK he bu) λU H Q E ⟨env,st,ρ,re,rs,h⟩=>⟨env,st,ρ,re,rs,gz h λae H1 xs st1 e1 s1 k vs rv=>by
  show fR X.K X.mg m (vs++[]) H1 Q E
  rw [List.append_nil]
  exact ⟨xs,st1,ae,rv,s1,k⟩⟩
def PF (X:Cx) (name:Str) (k:Nat) (ta:TE) (t:TA):TX:=λU H Q E=>ta U H λx H1=>∃a C dx fs f fd ps sp,x=.ref a/\H1 a=some (.ins C dx fs)/\fs.lookup name=none/\dR X.K C/\Meth X.K C name f/\Binds X.K fd ps []/\bh X.prog X.w X.K X.mg X.base (b9 X.prog X.w) k f fd ps sp /\
 t U H1 λvs H2=>sp (x::vs) H2 Q E
def PH {pl:Sem Bool}{name:Str}{ta:TE}{t:TA}(he:PE X.nox o ta) (hr:aZ k X.A) (ha:PA X.nox (e::es) t)
  (b8:starEach (e::es) X.env=(false,eval e X.env)::starEach es X.env:=by rfl) (bu:(backTo pos (starEach es X.env)).any (·.1)=false:=by rfl)
  (ht:eval (.Call (.Attribute o name apos) (e::es) [] pos) X.env=(do
   let ov <-eval o X.env
   standAt apos.atName
   let (f,first) <-holding [ov] (getMethod ov name pl)
   callWith pos f first (backTo pos (starEach (e::es) X.env)) (backToKw pos (keywordEach [] X.env))):=by rfl) :
  PX X (.Call (.Attribute o name apos) (e::es) [] pos) (PF X name k ta t):=by
 intro pins s U H Q E I h
 refine PySem.W.methodCall_KW (pl:=pl) (yT (he pins s U H _ (I.wish _) h) (λu s1 gg=>?_) λ_ _ z=>z.elim) ht
 obtain ⟨x,H1,I1,rx,a,C,dx,fs,f,fd,ps,sp,ex,ea,l,c,hm,hb,F,q⟩:=gg
 subst ex
 obtain rfl:u=Value.ref a:=rx
 refine vp I1.unwish ea c hm l ?_
 refine PySem.W.callWith_K (first:=[.ref a]) (h₀:=X.base) I.ok.mod.kin hm.kp (yT (ha pos pins s1 U H1 _ I1 q) (λus s2 ⟨vs,H2,I2,r,q2⟩=>⟨I2.unwish.kIn,?_⟩) λ_ _ z=>z.elim) b8 bu
 exact DV (us:=.ref a::us) (vs:=.ref a::vs) F hr hb .nil I2.unwish (.cons rfl r) (by rw [List.append_nil];exact q2)
def lB (name:Str) (tab:Str->Option (Al)) (fo:Ai) (fs:Ah):Ai:=λenv st=>(bH (fo env st)).bind λo st1=>dq name tab o st1 λn m=>(bH (fs env st1)).bind λys av=>m (.ref n::ys) av
def PJ {pl:Sem Bool}{name:Str}{tab:Str->Option (Al)}(hT:∀c m,tab c=some m->bZ X.prog X.w X.K X.mg X.base c name k m) (ho:ME X.nox E0 o fo) (hr:aZ k X.A) (ha:MA X.nox E0 (e::es) fs)
  (b8:starEach (e::es) X.env=(false,eval e X.env)::starEach es X.env:=by rfl) (bu:(backTo pos (starEach es X.env)).any (·.1)=false:=by rfl)
  (oW:eval (.Call (.Attribute o name apos) (e::es) [] pos) X.env=(do
   let ov <-eval o X.env
   standAt apos.atName
   let (f,first) <-holding [ov] (getMethod ov name pl)
   callWith pos f first (backTo pos (starEach (e::es) X.env)) (backToKw pos (keywordEach [] X.env))):=by rfl) :
  MX X (.Call (.Attribute o name apos) (e::es) [] pos) (lB name tab fo fs) :=
 PX.weak (PH (pl:=pl) ho hr ha b8 bu oW) λU H Q E ⟨env,st,ρ,re,rs,h⟩=>⟨env,st,ρ,re,rs,gz h λae H1 x st1 e1 s1 h1 v rv=>by
  obtain ⟨n,c,ks,xs,m,rfl,hn,hk,hc,h1⟩:=xG h1
  obtain ⟨C,f,fd,ps,hC,cl,hm,hb,F⟩:=hT c m hc
  obtain ⟨p,rfl,hp⟩:=rv
  obtain ⟨C',dx,vs,hC',hH,hR,hl⟩:=s1.addr hn hp
  rw [hC] at hC'
  cases hC'
  exact ⟨p,C,dx,_,f,fd,ps,_,rfl,hH,za5 hk,cl,hm,hb,F,env,st1,ae,re.ext e1,s1,gz h1 λam H2 ys av e2 s2 h2 ws rws=>⟨.ref n::ys,av,am,⟨_,_,rfl,⟨p,rfl,e2.get hp⟩,rws⟩,s2,h2⟩⟩⟩
def fq (j:Nat):Fl->Mo Fl
 |.nx e,st=>.ok (.nx (e.set j none)) st
 |_,_=>.stuck
def o_ (i j:Nat) (cn:Str) (fv:Ai) (bF:Aj):Aj:=λenv st=>match fv env st with
 |.ok x st1=>.ok (.nx (env.set i (some x))) st1
 |.err c ks xs st1=>if c=cn/\ks≠[] then (bH (bF (env.set j (some (.exo c ks xs))) st1)).bind (fq j) else .stuck
 |.stuck=>.stuck
def PK (i j:Nat) {x n cn:Str}{value:Expr}{fv:Ai}{gs:Aj}{b0:Stmt}{bF:List Stmt}{xp ap cp hp:Pos}{C:Addr}(hm:X.mg cn=some (.ref C)) (hC:dH X.K C) (hv:MX X value fv) (ia:∀a,dN (X.caught a) E0 (b0::bF) gs) (hN:X.N.Nodup)
  (b8:X.stack=X.env::X.outer:=by rfl) (cL:X.env.frame=some X.env.locals:=by rfl) (hi:X.N[i]?=some x:=by rfl) (hx:Loc X.env.scope x:=by first|exact Or.inl rfl|exact Or.inr rfl) (hj:X.N[j]?=some n:=by rfl) (hn:X.env.scope.names.lookup n=some .local:=by rfl) (hg:Gl X cn:=by rfl)
  (d8:swapsWith value (some (.Name x xp)) ap.line X.env=pure false:=by rfl) (hf:X.fn x=true\/X.env.scope.names.lookup x=some .local:=by first|exact .inl rfl|exact .inr rfl|assumption) (bK:(cn==("__debug__" : Str))=false:=by decide) :
  MS X Er (.Try [.Assign [.Name x xp] value ap] [.ExceptHandler (some (.Name cn cp)) (some n) (b0::bF) hp] [] [] pos) (o_ i j cn fv gs) :=
 PS.weak (N3 (tsu:=sM X.K X.mg E0 gs) hN hi hx hj hn hv hg hm hC ia b8 cL d8 hf bK) λD U H ⟨env,st,ρ,re,rs,h⟩=>by
  refine ⟨env,st,ρ,re,rs,?_⟩
  unfold o_ at h
  cases hr:fv env st with
  |ok y st1 =>
   rw [hr] at h
   exact λae H1 e1 s1 v rv=>h ae H1 e1 s1 _ ((re.ext e1).set i rv)
  |stuck=>rw [hr] at h;exact h.elim
  |err c ks xs st1 =>
   simp only [hr] at h
   obtain ⟨⟨PL,hk⟩,h2⟩:=Out.ifp h
   subst PL
   intro ae H1 Cv d e1 s1 xr
   obtain ⟨C',rfl,hm',hd⟩:=xr
   rw [hm] at hm'
   cases hm'
   refine ⟨rfl,λq hq=>?_⟩
   rcases hd with ⟨gA,_⟩|⟨dd,vs,rfl,mM,hR,hl⟩
   ·exact absurd gA hk
   ·have eq:Ext ae H1 ae (upd H1 q (eP C (some dd) q)):=Ext.new hq
    refine ⟨env.set j (some (.exo c ks xs)),st1,ae,((re.ext e1).ext eq).set j ⟨q,C,rfl,hm,.inr ⟨dd,vs,yv,eq.imm _ _ mM rfl,Rs.ext eq xs hR,hl⟩⟩,s1.new hq,gz (Out.ext h2 (e1.trans eq)) λam H2 fl av e2 s2 h2=>?_⟩
    cases fl with
    |nx e=>exact λaE r2=>Out.fl (D:=D) (fl:=.nx (e.set j none)) (E:=Er) h2 s2 _ (r2.unset j)
    |_=>exact h2.elim
def kg (ks:Ad) (ps:An):PV->Mo PV
 |.str z,st=>cw ((ks.zip ps).lookup z) st
 |_,_=>.stuck
def KdF (X:Cx) (name:Str) (ks:Ad) (ps:An) (full:Bool):Prop:=∃O,X.mg name=some (.ref O)/\KD X O/\(∀z q,(ks.zip ps).lookup z=some q->∃u v,nsIn X.K O z=some (some u)/\RelV v u/\∀ρ H,R X.K X.mg ρ H q v)/\(full=true->∀z,(ks.zip ps).lookup z=none->nsIn X.K O z=some none)
def zfH {name:Str} {ks:Ad} {ps:An} {full:Bool} (F:KdF X name ks ps full) (hb:ME X Er b fb) (hs:eE b:=by exact λ_ _=>rfl) (hg:Gl X name:=by rfl) (hd:(name==("__debug__" : Str))=false:=by decide):ME X Er (.Subscript (.Name name p) b pos) (yx (kg ks ps) fb):=by
 obtain ⟨O,hm,kd,hl,_⟩:=F
 refine PE.weak (C6 Ov (vc (v:=.ref O) hg hm rfl hd) hb hs) λU H Q ⟨env,st,ρ,re,rs,h⟩=>⟨env,st,ρ,re,rs,h.then λae H1 x st1 e1 s1 h1 v rv=>?_⟩
 cases x with
 |str z =>
  cases rv
  obtain ⟨q,hq,h1⟩:=i9 h1
  obtain ⟨u,v,h2,h3,h4⟩:=hl z q hq
  exact ⟨O,z,u,v,rfl,rfl,kd,h2,h3,h1.now s1 _ (h4 _ _)⟩
 |_=>exact h1.elim
def pe (neg:Bool) (ks:Ad) (ps:An) (full:Bool):PV->Mo PV
 |.str z,st=>if ((ks.zip ps).lookup z).isSome=true\/full=true then .ok (.bl (neg.xor ((ks.zip ps).lookup z).isSome)) st else .stuck
 |_,_=>.stuck
def PN {name:Str}{ks:Ad}{ps:An}{full:Bool}{O:Addr}(hl:∀z q,(ks.zip ps).lookup z=some q->∃u v,nsIn X.K O z=some (some u)/\RelV v u/\∀ρ H,R X.K X.mg ρ H q v) (hf:full=true->∀z,(ks.zip ps).lookup z=none->nsIn X.K O z=some none) {z:Str}(h:((ks.zip ps).lookup z).isSome=true\/full=true):∃r,nsIn X.K O z=some r/\r.isSome=((ks.zip ps).lookup z).isSome:=by
 cases hq:(ks.zip ps).lookup z with
 |some q=>obtain ⟨u,v,h2,_⟩:=hl z q hq;exact ⟨_,h2,rfl⟩
 |none =>
  rw [hq] at h
  rcases h with h|h
  ·cases h
  ·exact ⟨none,hf h z hq,rfl⟩
def zr5 {name:Str} {ks:Ad} {ps:An} {full:Bool} (F:KdF X name ks ps full) (ha:ME X Er a fa) (hg:Gl X name:=by rfl) (hd:(name==("__debug__" : Str))=false:=by decide) (hk:behindInMarks .NotIn (.Name name p)=false:=by with_unfolding_all rfl):MT X Er (.Compare a [.NotIn] [.Name name p] pos) (mB (yx (pe true ks ps full) fa)):=by
 obtain ⟨O,hm,kd,hl,hf⟩:=F
 refine PT.weak (CD Ow ha (vc (v:=.ref O) hg hm rfl hd) hk) λU H Q h=>?_
 obtain ⟨env,st,ρ,re,rs,h⟩:=rW h
 refine ⟨env,st,ρ,re,rs,h.then λae H1 x st1 e1 s1 h1 v rv=>?_⟩
 cases x with
 |str z =>
  cases rv
  obtain ⟨q,h1⟩:=Out.ifp h1
  obtain ⟨r,h2,h3⟩:=PN (name:=name) hl hf q
  have:=Out.now h1 s1 _ rfl
  exact ⟨O,z,r,rfl,rfl,kd,h2,by rw [h3];simpa using this⟩
 |_=>exact h1.elim
def jW:Am
 |.ref n,y,st=>yl st n λxs=>if xs.length<lim then .ok .non (st.set n (.lst (xs++[y]))) else .stuck
 |_,_,_=>.stuck
def su:Am
 |.ref n,.ref k,st=>yl st n λxs=>yl st k λys=>if xs.length+ys.length<=lim then .ok .non (st.set n (.lst (xs++ys))) else .stuck
 |_,_,_=>.stuck
def R.refL {ρ:Ae}{H:Hp}{st:aa}{n:Nat}{xs:An}{v:V}(s:a_ K mg ρ H st) (r:R K mg ρ H (.ref n) v) (h:st[n]?=some (.lst xs)):∃a vs,v=.ref a/\ρ[n]?=some a/\H a=some (.lst vs)/\Rs K mg ρ H xs vs:=by
 obtain ⟨a,rfl,ha⟩:=r
 obtain ⟨vs,h1,h2⟩:=s.addr h ha
 exact ⟨a,vs,rfl,ha,h1,h2⟩
def fU:PV->Mo PV
 |.ref n,st=>yl st n λ_=>.ok (.ref n) st
 |_,_=>.stuck
def ju (op:Am) (fo fv:Ai):Ai:=λenv st=>(fo env st).bind λo st1=>(fU o st1).bind λo st1=>(fv env st1).bind λy av=>op o y av
def xJ {α:Type}{ρ:Ae}{H:Hp}{x:PV}{st:aa}{f:PV->Mo α}{good:List Addr->Hp->α->aa->Prop}(h:Out K mg ρ H ((fU x st).bind f) good Er):∃n xs,x=.ref n/\st[n]?=some (.lst xs)/\Out K mg ρ H (f (.ref n) st) good Er:=by
 cases x with
 |ref n =>
  unfold fU yl at h
  cases hn:st[n]? with
  |none=>simp only [hn] at h;exact h.elim
  |some so =>
   cases so with
   |lst xs=>simp only [hn] at h;exact ⟨n,xs,rfl,hn,h⟩
   |_=>simp only [hn] at h;exact h.elim
 |_=>exact h.elim
def zd2 {aK:Pos} (ho:ME X Er o fo) (he:ME X Er e fa) (bf:attributeBase o "append" X.env (eval o X.env)=eval o X.env:=by rfl)
  (dF:((backTo aK (starEach [e] X.env)).all (λx=>!x.1)&&(backToKw aK (keywordEach [] X.env)).all (λx=>x.1.isSome)&&decide ([e].length+([]:List Keyword).length+(if ([]:List Keyword).isEmpty then 0 else 1)<30))=true:=by rfl)
  (bw:(apos.endLine==aK.line)=true:=by rfl) (hs:starEach [e] X.env=(false,eval e X.env)::starEach [] X.env:=by rfl) (bu:(backTo aK (starEach [] X.env)).any (·.1)=false:=by rfl):ME X Er (.Call (.Attribute o "append" apos) [e] [] aK) (ju jW fo fa) :=
 PE.weak (rA PySem.F.plainAttrs_list PySem.F.slot_list_append PySem.F.type_list_append zpS ho (n4 he nZ hs) bf dF bw hs bu) λU H Q ⟨env,st,ρ,re,rs,h⟩=>⟨env,st,ρ,re,rs,h.then λae H1 x st1 e1 s1 h1 v rv=>by
  obtain ⟨n,xs,rfl,hn,h1⟩:=xJ h1
  obtain ⟨p,vs,rfl,hp,k1,k2⟩:=R.refL s1 rv hn
  refine ⟨.inl ⟨rfl,vs,ba.of k1⟩,env,st1,ae,re.ext e1,s1,h1.then λam H2 y av e2 s2 h2 w rw=>?_⟩
  obtain ⟨xs2,cX,h2⟩:=jb h2
  obtain ⟨c,h2⟩:=Out.ifp h2
  obtain ⟨p',eK,e3,eJ,k3,k4⟩:=R.refL s2 (R.ext e2 _ rv) cX
  cases e3
  have ew:Ext am H2 am (upd H2 p (.lst (eK++[w]))):=Ext.write k3 rfl
  refine ⟨p,eK,w,rfl,rfl,k3,?_,h2 am _ ew (s2.write eJ ew ⟨eK++[w],yv,Rs.ext ew _ (k4.append ⟨w,[],rfl,rw,rfl⟩)⟩) _ rfl⟩
  rw [<-k4.len,sizeLine_eq];have:xs2.length<1000000:=c;omega⟩
def zr6 {aK:Pos} (ho:ME X Er o fo) (he:ME X Er e fa) (bf:attributeBase o "extend" X.env (eval o X.env)=eval o X.env:=by rfl)
  (dF:((backTo aK (starEach [e] X.env)).all (λx=>!x.1)&&(backToKw aK (keywordEach [] X.env)).all (λx=>x.1.isSome)&&decide ([e].length+([]:List Keyword).length+(if ([]:List Keyword).isEmpty then 0 else 1)<30))=true:=by rfl)
  (bw:(apos.endLine==aK.line)=true:=by rfl) (hs:starEach [e] X.env=(false,eval e X.env)::starEach [] X.env:=by rfl) (bu:(backTo aK (starEach [] X.env)).any (·.1)=false:=by rfl):ME X Er (.Call (.Attribute o "extend" apos) [e] [] aK) (ju su fo fa) :=
 PE.weak (rA PySem.F.plainAttrs_list PySem.F.slot_list_extend PySem.F.type_list_extend zpU ho (n4 he nZ hs) bf dF bw hs bu) λU H Q ⟨env,st,ρ,re,rs,h⟩=>⟨env,st,ρ,re,rs,h.then λae H1 x st1 e1 s1 h1 v rv=>by
  obtain ⟨n,xs,rfl,hn,h1⟩:=xJ h1
  obtain ⟨p,vs,rfl,hp,k1,k2⟩:=R.refL s1 rv hn
  refine ⟨.inl ⟨rfl,vs,ba.of k1⟩,env,st1,ae,re.ext e1,s1,h1.then λam H2 y av e2 s2 h2 w rw=>?_⟩
  cases y with
  |ref m =>
   obtain ⟨xs2,cX,h2⟩:=jb h2
   obtain ⟨Xg,PQ,h2⟩:=jb h2
   obtain ⟨c,h2⟩:=Out.ifp h2
   obtain ⟨p',eK,e3,eJ,k3,k4⟩:=R.refL s2 (R.ext e2 _ rv) cX
   cases e3
   obtain ⟨q,xK,rfl,dU,k5,k6⟩:=R.refL s2 rw PQ
   have ew:Ext am H2 am (upd H2 p (.lst (eK++xK))):=Ext.write k3 rfl
   exact ⟨p,q,eK,xK,rfl,rfl,k3,k5,by rw [<-k4.len,<-k6.len];exact jq c,h2 am _ ew (s2.write eJ ew ⟨eK++xK,yv,Rs.ext ew _ (k4.append k6)⟩) _ rfl⟩
  |_=>exact h2.elim⟩
end
def endOf:Fl->Mo PV
 |.rt v,st=>.ok v st
 |.nx _,st=>.ok .non st
 |_,_=>.stuck
def zB (np nN:Nat) (g:Aj):Al:=λxs st=>if xs.length=np then (g (xs.map some++List.replicate (nN-np) none) st).bind endOf else .stuck
section
variable {P:Program} {w:World} {K:Frag} {mg:Ab} {base:Heap}
abbrev sx (P:Program) (w:World) (K:Frag) (mg:Ab) (base:Heap) (N:Ad) (qual:Str) (scope:Scope) (f:Addr) (cd:Value) (A:Around) (outer:List Env) (s:Shared) (H:Hp) (E:XK):Cx :=
 (cZ (b9 P w) P w K mg base N qual scope f cd A outer s H E).wish (XA (cZ (b9 P w) P w K mg base N qual scope f cd A outer s H E) E)
def PR {N:Ad}{np:Nat}{ρ:Ae}{H:Hp}{xs:An}{vs:List V}(r:Rs K mg ρ H xs vs) (h:xs.length=np):bp K mg ρ H (xs.map some++List.replicate (N.length-np) none) (L2.start N vs):=by
 have hl:=r.len
 refine ⟨by simp [L2.start,<-hl,h],λi x hx=>?_⟩
 by_cases hi:i<xs.length
 ·rw [iK (by simpa using hi)] at hx
  simp only [yP] at hx
  cases hq:xs[i]? with
  |none=>rw [hq] at hx;cases hx
  |some y =>
   rw [hq] at hx
   cases hx
   obtain ⟨v,hv,rv⟩:=r.get hq
   refine ⟨v,?_,rv⟩
   unfold L2.start
   rw [iK (by simp;omega)]
   simp [hv]
 ·rw [iL (by simpa using hi)] at hx
  rw [List.getElem?_replicate] at hx
  split at hx<;>cases hx
def sy {x qual:Str}{sm:Stmt}{f:Addr}{fd:FuncData}{N ps:Ad}{k:Nat}{g:Aj}(F:dw K x qual sm f fd) (S:aq N ps (zE sm))
  (hb:∀(aV:Value) (A:Around) (outer:List Env) (s:Shared) (H:Hp) (E:XK),aZ k (A.deeper (PyProof.Rows.envOfC qual (zE sm) s.heap.objs.size f aV))->dN (sx P w K mg base N qual (zE sm) f aV A outer s H E) E (ji sm) g) :
  bh P w K mg base (b9 P w) (k+1) f fd ps (fR K mg (zB ps.length N.length g)):=by
 refine F.okT S (λvs H Q E h=>?_) λaV A outer s H vs Q E hr h=>⟨_,hb aV A outer s H E hr,?_⟩
 ·obtain ⟨xs,st,ρ,r,_,h⟩:=h
  obtain ⟨hl,_⟩:=Out.ifp h
  rw [<-r.len];exact hl
 ·obtain ⟨xs,st,ρ,r,rs,h⟩:=h
  obtain ⟨hl,h⟩:=Out.ifp h
  refine ⟨_,st,ρ,PR r hl,rs,h.then λae H1 fl st1 e1 s1 h1=>?_⟩
  cases fl with
  |rt v=>exact λu ru=>Out.now (x:=v) h1 s1 u ru
  |nx e=>exact λah _=>Out.now (x:=PV.non) h1 s1 _ rfl
  |_=>exact h1.elim
def PU {x:Str}{f:Addr}{fd:FuncData}{ps:Ad}{k:Nat}{m:Al}{sm:Stmt}{qual nm:Str}(hm:mg x=some (.ref f)) (F:dw K nm qual sm f fd) (hb:Binds K fd ps []) (h:bh P w K mg base (b9 P w) k f fd ps (fR K mg m)):bo P w K mg base x k m:=⟨f,fd,ps,hm,F.kp,hb,h⟩
end
section
variable {X:Cx} {Er:XK} {P:Program} {w:World} {K:Frag} {mg:Ab} {base:Heap} {pos:Pos} {x:Str} {st:Stmt}
def zI {k:Nat}{A:Around}(hr:aZ k A):A.units+200<cLine:=by have:=hr.un;omega
def jD:Aj:=λ_ _=>.stuck
def zaj:MS X Er st jD:=PS.weak KR λD U H ⟨env,st,ρ,re,rs,h⟩=>h
def PY {n:Int} (h:∃t,X.mg x=some (.int n t)) (hg:Gl X x:=by rfl) (hd:(x==("__debug__" : Str))=false:=by decide):ME X Er (.Name x pos) (mC (.int n)):=let ⟨t,h⟩:=h;D1 (v:=.int n) h ⟨t,rfl⟩ (λ_ _=>rfl) hg hd
def xM {z:Str} (h:∃t,X.mg x=some (.str z t)) (hg:Gl X x:=by rfl) (hd:(x==("__debug__" : Str))=false:=by decide):ME X Er (.Name x pos) (mC (.str z)):=let ⟨t,h⟩:=h;D1 (v:=.str z) h ⟨t,rfl⟩ (λ_ _=>rfl) hg hd
def FnF (K:Frag) (mg:Ab) (x:Str) (sm:Stmt) (ps:Ad):Prop:=∃f fd,mg x=some (.ref f)/\dw K x x sm f fd/\Binds K fd ps []
def MtF (K:Frag) (mg:Ab) (c name qual:Str) (sm:Stmt) (ps:Ad):Prop:=∃C f fd,mg c=some (.ref C)/\dR K C/\Meth K C name f/\dw K name qual sm f fd/\Binds K fd ps []
def NwF (K:Frag) (mg:Ab) (c qual:Str) (sm:Stmt) (ps:Ad):Prop:=∃C f fd,mg c=some (.ref C)/\Mk K C f/\dw K "__init__" qual sm f fd/\Binds K fd ps []
def XnF (K:Frag) (mg:Ab) (c fld qual:Str) (sm:Stmt):Prop:=∃C f fd,mg c=some (.ref C)/\eO K C f/\kZ K C fld/\dw K "__init__" qual sm f fd/\Binds K fd ["self", fld] []
def FnF.ok {sm:Stmt}{N ps:Ad}{k:Nat}{g:Aj}(h:FnF K mg x sm ps) (S:aq N ps (zE sm))
  (hb:∀(f:Addr) (aV:Value) (A:Around) (outer:List Env) (s:Shared) (H:Hp) (E:XK),aZ k (A.deeper (PyProof.Rows.envOfC x (zE sm) s.heap.objs.size f aV))->dN (sx P w K mg base N x (zE sm) f aV A outer s H E) E (ji sm) g) :
  bo P w K mg base x (k+1) (zB ps.length N.length g):=by
 obtain ⟨f,fd,hm,F,b⟩:=h
 exact PU hm F b (sy F S (hb f))
def MtF.ok {c name qual:Str}{sm:Stmt}{N ps:Ad}{k:Nat}{g:Aj}(h:MtF K mg c name qual sm ps) (S:aq N ps (zE sm))
  (hb:∀(f:Addr) (aV:Value) (A:Around) (outer:List Env) (s:Shared) (H:Hp) (E:XK),aZ k (A.deeper (PyProof.Rows.envOfC qual (zE sm) s.heap.objs.size f aV))->dN (sx P w K mg base N qual (zE sm) f aV A outer s H E) E (ji sm) g) :
  bZ P w K mg base c name (k+1) (zB ps.length N.length g):=by
 obtain ⟨C,f,fd,hm,cl,mt,F,b⟩:=h
 exact ⟨C,f,fd,ps,hm,cl,mt,b,sy F S (hb f)⟩
def NwF.ok {c qual:Str}{sm:Stmt}{N ps:Ad}{k:Nat}{g:Aj}(h:NwF K mg c qual sm ps) (S:aq N ps (zE sm))
  (hb:∀(f:Addr) (aV:Value) (A:Around) (outer:List Env) (s:Shared) (H:Hp) (E:XK),aZ k (A.deeper (PyProof.Rows.envOfC qual (zE sm) s.heap.objs.size f aV))->dN (sx P w K mg base N qual (zE sm) f aV A outer s H E) E (ji sm) g) :
  sh P w K mg base c (k+1) (zB ps.length N.length g):=by
 obtain ⟨C,f,fd,hm,mk,F,b⟩:=h
 exact ⟨C,f,fd,ps,hm,mk,b,sy F S (hb f)⟩
def XnF.ok {c fld qual:Str} {sm:Stmt} (h:XnF K mg c fld qual sm) (S:aq ["self", fld] ["self", fld] (zE sm))
  (hb:∀(C f:Addr) (aV:Value) (A:Around) (outer:List Env) (s:Shared) (H:Hp) (E:XK),kZ K C fld->ck (cZ (b9 P w) P w K mg base ["self", fld] qual (zE sm) f aV A outer s H E) (ji sm) (DQ K (q9 0) (q9 1) fld)) :
  xE P w K mg base c fld:=by
 obtain ⟨C,f,fd,hm,M,xc,F,b⟩:=h
 refine ⟨C,f,fd,hm,M,F.okX S (λvs H Q E h=>?_) (λaV A outer s H vs Q E hr h=>⟨_,hb C f aV A outer s H E xc,?_⟩),b⟩
 ·obtain ⟨a,t,y,rfl,_⟩:=h;rfl
 ·obtain ⟨a,t,y,rfl,ha,q⟩:=h
  exact ⟨y,rfl,.ref a,rfl,a,C,t,rfl,ha,xc,λd hd=>q d hd⟩
def XnF.tr {c fld qual:Str}{sm:Stmt}(h:XnF K mg c fld qual sm):∃C,mg c=some (.ref C)/\dH K C:=by
 obtain ⟨C,f,fd,hm,M,_⟩:=h
 exact ⟨C,hm,M.of⟩
def PZ (i j:Nat) {x n cn:Str}{value:Expr}{fv:Ai}{gs:Aj}{b0:Stmt}{bF:List Stmt}{xp ap cp hp:Pos}(hC:∃C,X.mg cn=some (.ref C)/\dH X.K C) (hv:MX X value fv) (ia:∀a,dN (X.caught a) E0 (b0::bF) gs) (hN:X.N.Nodup)
  (b8:X.stack=X.env::X.outer:=by rfl) (cL:X.env.frame=some X.env.locals:=by rfl) (hi:X.N[i]?=some x:=by rfl) (hx:Loc X.env.scope x:=by first|exact Or.inl rfl|exact Or.inr rfl) (hj:X.N[j]?=some n:=by rfl) (hn:X.env.scope.names.lookup n=some .local:=by rfl) (hg:Gl X cn:=by rfl)
  (d8:swapsWith value (some (.Name x xp)) ap.line X.env=pure false:=by rfl) (hf:X.fn x=true\/X.env.scope.names.lookup x=some .local:=by first|exact .inl rfl|exact .inr rfl|assumption) (bK:(cn==("__debug__" : Str))=false:=by decide) :
  MS X Er (.Try [.Assign [.Name x xp] value ap] [.ExceptHandler (some (.Name cn cp)) (some n) (b0::bF) hp] [] [] pos) (o_ i j cn fv gs):=by
 obtain ⟨C,h1,h2⟩:=hC
 exact PK i j h1 h2 hv ia hN b8 cL hi hx hj hn hg d8 hf bK
def mO {p:Addr} {oc:Value} {od:Option Addr} {its:Array Value} {n:Nat} {sl:Array (Option Value)} {xs:An} {vs:List V} (hl:K.lookup p=some ⟨oc,od,.seq its n,sl⟩) (hc:oc=.type "tuple") (hz:its.size<=1000) (hv:Vals vs its.toList) (hr:∀ρ H,Rs K mg ρ H xs vs):∀ρ H,R K mg ρ H (.tup xs) (.ref p) :=
 fun ρ H=>⟨p,vs,rfl,.inr ⟨_,its,n,hl,hc,rfl,by rw [sizeLine_eq];omega,hv⟩,hr ρ H⟩
def yZ:bootBuiltins "len" = some (.builtin "len"):=by decide +kernel
def jv:bootBuiltins "isinstance" = some (.builtin "isinstance"):=by decide +kernel
def xN:bootBuiltins "int" = some (.type "int"):=by decide +kernel
def P0:bootBuiltins "bool" = some (.type "bool"):=by decide +kernel
def xO:bootBuiltins "str" = some (.type "str"):=by decide +kernel
def Ek:bootBuiltins "tuple" = some (.type "tuple"):=by decide +kernel
def El:bootBuiltins "dict" = some (.type "dict"):=by decide +kernel
def Em:bootBuiltins "list" = some (.type "list"):=by decide +kernel
end
theorem bo.mono {P:Program}{w:World}{K:Frag}{mg:Ab}{base:Heap}{x:Str}{j k:Nat}{m:Al}(h:bo P w K mg base x j m) (xP:j<=k):bo P w K mg base x k m:=by
 obtain ⟨f,fd,ps,h1,h2,h3,h4⟩:=h
 exact ⟨f,fd,ps,h1,h2,h3,h4.mono xP⟩
theorem bZ.mono {P:Program}{w:World}{K:Frag}{mg:Ab}{base:Heap}{c x:Str}{j k:Nat}{m:Al}(h:bZ P w K mg base c x j m) (xP:j<=k):bZ P w K mg base c x k m:=by
 obtain ⟨C,f,fd,ps,h1,h2,h3,h4,h5⟩:=h
 exact ⟨C,f,fd,ps,h1,h2,h3,h4,h5.mono xP⟩
def ik (K:Frag):Sp:=λvs H Q _=>∃(a:Addr) (ns:List Int),vs=[.ref a]/\ba K H a (ns.map V.int)/\Only H/\ns.length<=63/\∀H',Q (.bl true) H'
theorem En {K:Frag}{mg:Ab}{ρ:Ae}{H:Hp}:∀ns:List Int,Rs K mg ρ H (ns.map PV.int) (ns.map V.int)
 |[]=>rfl
 |n::ns=>⟨_,_,rfl,rfl,En ns⟩
def P2 {K:Frag}{H:Hp}{a:Addr}{vs:List V}(h:ba K H a vs) (o:Only H):ic K H a vs:=by
 rcases h with (h|⟨ob,h⟩)|h
 ·rcases o a with z|⟨ob,xs,z⟩
  ·rw [h] at z;cases z
  ·rw [h] at z;cases z
 ·exact .inl ⟨ob,h⟩
 ·exact .inr h
def P4 {P:Program}{w:World}{K:Frag}{mg:Ab}{base:Heap}{k:Nat}{f:Addr}{fd:FuncData}{ps:Ad}{m:Al}(F:bh P w K mg base (b9 P w) k f fd ps (fR K mg m)) (h:∀ns:List Int,ns.length<=63->∃st,m [.frl (ns.map PV.int)] []=.ok (.bl true) st):bh P w K mg base (b9 P w) k f fd ps (ik K) :=
 F.imp λvs H Q E ⟨a,ns,e,hs,ho,hl,q⟩=>by
  subst e
  obtain ⟨st,hm⟩:=h ns hl
  refine ⟨[.frl (ns.map PV.int)],[],[],⟨_,[],rfl,⟨a,_,rfl,P2 hs ho,En ns⟩,rfl⟩,⟨rfl,List.nodup_nil,λn so e=>by simp at e⟩,?_⟩
  rw [hm]
  intro ag H' _ _ v rv
  cases rv
  exact q H'
def walkM {l:PySem.W.OpenLaw}{k:Nat}{x:Str}{q:Program}{loose:Ad}{XP:(Ab)->Heap->Prop}{YP:World->Heap->Prop}{d:DefRec}{K:Params->PySem.W.Frag}(hn:l.most=some 63) (n_:d.params.defaults=[]) (hr:aZ k callerA)
  (hY:∀(w:World) (h:Heap),YP w h->(K w.params).In h)
  (F:∀(w:World) (mg:Ab) (fa:Addr) (h:Heap),(K w.params).In h->h.Ns mainGlobals mg->mg d.name=some (.ref fa) ->
   ∃fd:FuncData,(∀(s:Shared) (u:Value),BindsTo s fd ⟨[u],[]⟩ [(x,u)])/\∀base:Heap,(K w.params).In base->base.Ns mainGlobals mg->bh l.prog w (K w.params) mg base (b9 l.prog w) k fa fd [x] (ik (K w.params))) :
  PySem.W.WalkO q loose XP YP l.row.toRowW d [] (λf vs=>PySem.call f vs) :=
 L2.zp5 (n:=63) (k:=k) (x:=x) (CX:=λw=>b9 l.prog w) (sp:=λw=>ik (K w.params)) hn (by decide) n_ hr hY F (λ_ _ a ns hl ho hS=>⟨a,ns,rfl,hS,ho,hl,λ_=>rfl⟩) λw H s e s' g=>by obtain ⟨_,_,_,_,_,_,_,_,_,_,_,_,_,_,_,z⟩:=g;exact z
section
variable {α β:Type} {env:zd} {st st1:aa} {fa fb fc fo fv:Ai} {fs:Ah} {ga gb:Ak} {g g':Aj} {op cB:Am} {o1:PV->Mo PV} {m:Al}
@[simp] def zC (a:α) (f:α->Mo β):(Res.ok a st).bind f=f a st:=(rfl)
@[simp] def pf (c:Str) (ks:Ad) (xs:An) (f:α->Mo β):(Res.err c ks xs st:Res α).bind f=.err c ks xs st:=(rfl)
@[simp] def Xh (p:Prop) [Decidable p] (a b:Res α) (f:α->Mo β):(if p then a else b).bind f=if p then a.bind f else b.bind f:=by split<;>rfl
@[simp] def kh (i:Nat):zc i env st=(match env[i]? with|some (some x)=>.ok x st|_=>.stuck):=(rfl)
@[simp] def Eo (x:PV):mC x env st=.ok x st:=(rfl)
@[simp] def xQ:zj op fa fb env st=(fa env st).bind λx st1=>(fb env st1).bind λy av=>op x y av:=(rfl)
@[simp] def P5:yx o1 fa env st=(fa env st).bind o1:=(rfl)
@[simp] def P6:mB fa env st=(fa env st).bind gy:=(rfl)
@[simp] def sA (b:Bool):gy (.bl b) st=.ok b st:=(rfl)
@[simp] def Xi:wf op cB fa fb fc env st=(fa env st).bind λx st1=>(fb env st1).bind λy av=>(op x y av).bind λk bb=>(gy k bb).bind λb ie=>if b=true then (fc env ie).bind λz cW=>cB y z cW else .ok (.bl false) ie:=(rfl)
@[simp] def Ep:j1 ga gb env st=(ga env st).bind λc st1=>if c=true then gb env st1 else .ok false st1:=(rfl)
@[simp] def Es:jz ga gb env st=(ga env st).bind λc st1=>if c=true then .ok true st1 else gb env st1:=(rfl)
@[simp] def P7:j2 ga env st=(ga env st).bind λc st1=>.ok (!c) st1:=(rfl)
@[simp] def Et:mJ fa fb env st=(fa env st).bind λx st1=>(gy x st1).bind λc av=>if c=true then fb env av else .ok (.bl false) av:=(rfl)
@[simp] def Eu:rX ga fa fb env st=(ga env st).bind λc st1=>if c=true then fa env st1 else fb env st1:=(rfl)
@[simp] def ph:zh env st=.ok [] st:=(rfl)
@[simp] def mP:ze fa fs env st=(fa env st).bind λx st1=>(fs env st1).bind λxs av=>.ok (x::xs) av:=(rfl)
@[simp] def P8:yQ fs env st=(fs env st).bind λxs st1=>if xs.length<=lim then .ok (.tup xs) st1 else .stuck:=(rfl)
@[simp] def P9:jA fs env st=(fs env st).bind λxs st1=>if xs.length<=lim then .ok (.ref st1.length) (st1++[.lst xs]) else .stuck:=(rfl)
@[simp] def P_ (fl fu:zd->Mo (Option Int)):jC fa fl fu env st=(fa env st).bind λx st1=>(fl env st1).bind λl av=>(fu env av).bind λu bb=>wU x l u bb:=(rfl)
@[simp] def Xj:cx env st=.ok none st:=(rfl)
@[simp] def Qa:bB fa env st=(fa env st).bind xC:=(rfl)
@[simp] def Qb (i:Int):xC (.int i) st=.ok (some i) st:=(rfl)
@[simp] def mQ:zn m fs env st=(fs env st).bind m:=(rfl)
@[simp] def Xk (f:Int->Int->Bool) (i j:Int):oS f (.int i) (.int j) st=.ok (.bl (f i j)) st:=(rfl)
@[simp] def Qc (i:Int):sd (.int i) st=.ok (.int (-i)) st:=(rfl)
@[simp] def Xl (i j:Int):zM (.int i) (.int j) st=.ok (.int (i+j)) st:=(rfl)
@[simp] def Qd (x y:Str):zM (.str x) (.str y) st=if x.length+y.length<=lim then .ok (.str (x++y)) st else .stuck:=(rfl)
@[simp] def Qe (xs ys:An):zM (.tup xs) (.tup ys) st=if xs.length+ys.length<=lim then .ok (.tup (xs++ys)) st else .stuck:=(rfl)
@[simp] def Xm (x:PV):cw (some x) st=.ok x st:=(rfl)
@[simp] def xR (xs:An) (l u:Option Int):wU (.tup xs) l u st=.ok (.tup (bS xs l u)) st:=(rfl)
@[simp] def Qf (xs:An) (l u:Option Int):wU (.frl xs) l u st=.ok (.ref st.length) (st++[.lst (bS xs l u)]):=(rfl)
@[simp] def Ew (k:Bool):mL [.bl k] st=.ok (.int (if k then 1 else 0)) st:=(rfl)
@[simp] def Xn (x y:PV):jk x y st=if plain x=true/\plain y=true/\dep x<=150 then .ok (.bl (bA x y)) st else .stuck:=(rfl)
@[simp] def Xo (x y:PV):yM x y st=if plain x=true/\plain y=true/\dep x<=150 then .ok (.bl (!bA x y)) st else .stuck:=(rfl)
@[simp] def Ex:zT env st=.ok (.nx env) st:=(rfl)
@[simp] def pj:zt g g' env st=(g env st).bind (fF g'):=(rfl)
@[simp] def xS:fF g (.nx env) st=g env st:=(rfl)
@[simp] def Qg (x:PV):fF g (.rt x) st=.ok (.rt x) st:=(rfl)
@[simp] def xT (i:Nat):zV i fa env st=(fa env st).bind λx st1=>.ok (.nx (env.set i (some x))) st1:=(rfl)
@[simp] def Ey:yU fa env st=(fa env st).bind λ_ st1=>.ok (.nx env) st1:=(rfl)
@[simp] def sC:zH fa env st=(fa env st).bind λx st1=>.ok (.rt x) st1:=(rfl)
@[simp] def xU:zQ ga g g' env st=(ga env st).bind λc st1=>if c=true then g env st1 else g' env st1:=(rfl)
@[simp] def Xp (c f:Str):sr c f fa env st=(fa env st).bind λx st1=>.err c [f] [x] st1:=(rfl)
@[simp] def Xq (i j:Nat) (x y:PV):g2 i j (.tup [x,y]) env=some ((env.set i (some x)).set j (some y)):=(rfl)
@[simp] def Qh (x:PV):endOf (.rt x) st=.ok x st:=(rfl)
@[simp] def Xr (e:zd):endOf (.nx e) st=.ok .non st:=(rfl)
@[simp] def Xs (i:Nat):oX i op fa env st=(zc i env st).bind λx dz=>(fa env dz).bind λy st1=>(op x y st1).bind λz av=>.ok (.nx (env.set i (some z))) av:=(rfl)
@[simp] def Xt (i j:Int):ig (.int i) (.int j) st=.ok (.int (i+j)) st:=(rfl)
@[simp] def il:yA fa env st=(fa env st).bind d_:=(rfl)
@[simp] def Qi (n:Nat):d_ (.ref n) st=yl st n λ_=>.ok (.rf n) st:=(rfl)
@[simp] def Xu:xI fs env st=(fs env st).bind oZ:=(rfl)
@[simp] def Xv (xs ys:An):oZ [.tup xs,.tup ys] st=.ok (.im (wW xs ys)) st:=(rfl)
@[simp] def Ez (src:zd->Mo Sq) (gt:PV->zd->Option zd):js src gt g env st=(src env st).bind λq st1=>oY gt g q env st1:=(rfl)
@[simp] def Qj (gt:PV->zd->Option zd) (xs:An):oY gt g (.im xs) env st=forL gt g xs env st:=(rfl)
@[simp] def Xw (gt:PV->zd->Option zd):forL gt g [] env st=.ok (.nx env) st:=(rfl)
@[simp] def Xx (i:Int):Mi.plain (.int i)=true:=(rfl)
@[simp] def Xy (x:Str):Mi.plain (.str x)=true:=(rfl)
@[simp] def Xz (xs:An):Mi.plain (.tup xs)=bz xs:=(rfl)
@[simp] def XB (x:PV) (xs:An):bz (x::xs)=(Mi.plain x&&bz xs):=(rfl)
@[simp] def XC (i:Int):dep (.int i)=0:=(rfl)
@[simp] def XD (x:Str):dep (.str x)=0:=(rfl)
@[simp] def XE (xs:An):dep (.tup xs)=cS xs+1:=(rfl)
@[simp] def XF (x:PV) (xs:An):cS (x::xs)=max (dep x) (cS xs):=(rfl)
@[simp] def XG (a b:Int):bA (.int a) (.int b)=(a==b):=(rfl)
@[simp] def XH (a b:Str):bA (.str a) (.str b)=(a==b):=(rfl)
@[simp] def XI (xs ys:An):bA (.tup xs) (.tup ys)=cV xs ys:=(rfl)
@[simp] def XJ (x y:PV) (xs ys:An):cV (x::xs) (y::ys)=(bA x y&&cV xs ys):=(rfl)
@[simp] def XM (i j:Nat) (cn:Str):o_ i j cn fv g env st=(match fv env st with
 |.ok x st1=>.ok (.nx (env.set i (some x))) st1
 |.err c ks xs st1=>if c=cn/\ks≠[] then (bH (g (env.set j (some (.exo c ks xs))) st1)).bind (fq j) else .stuck
 |.stuck=>.stuck):=(rfl)
@[simp] def wX (a:α):bH (Res.ok a st)=.ok a st:=(rfl)
@[simp] def XQ (j:Nat) (e:zd):fq j (.nx e) st=.ok (.nx (e.set j none)) st:=(rfl)
@[simp] def XS:fj .non=true:=(rfl)
@[simp] def XT (name:Str) (tab:Str->Option (Al)):lB name tab fo fs env st=(bH (fo env st)).bind λo st1=>dq name tab o st1 λn m=>(bH (fs env st1)).bind λys av=>m (.ref n::ys) av:=(rfl)
def yr {n:Nat}{xs:An}(h:st[n]?=some (.lst xs)) (k:List PV->Res α):yl st n k=k xs:=by unfold yl;rw [h]
def xV {n:Nat}{c:Str}{ks:Ad}{xs:An}(h:st[n]?=some (.ins c ks xs)) (k:Str->List Str->List PV->Res α):yJ st n k=k c ks xs:=by unfold yJ;rw [h]
@[simp] def XU (xs:An) (k:List PV->Res α):yl (st++[.lst xs]) st.length k=k xs:=yr (by simp) k
def Qk {name:Str}{tab:Str->Option (Al)}{n:Nat}{c:Str}{ks:Ad}{xs:An}{m:Al}(h:st[n]?=some (.ins c ks xs)) (hk:name∉ks) (ht:tab c=some m) (k:Nat->(Al)->Res PV):dq name tab (.ref n) st k=k n m:=by
 unfold dq
 simp only [xV h,zD hk,ht]
@[simp] def XW (f:Str) (i x:Str->Bool) (n:Nat):br f i x (.ref n) st=yJ st n λc ks xs=>if i c=true then cw ((ks.zip xs).lookup f) st else .stuck:=(rfl)
@[simp] def XX (f:Str) (i x:Str->Bool) (c:Str) (ks:Ad) (xs:An):br f i x (.exo c ks xs) st=if x c=true then cw ((ks.zip xs).lookup f) st else .stuck:=(rfl)
@[simp] def XY (ks:Ad) (ps:An) (z:Str):kg ks ps (.str z) st=cw ((ks.zip ps).lookup z) st:=(rfl)
@[simp] def XZ (tab:Str->Option (Al)):xF tab fa fs env st=(fa env st).bind λf st1=>match f with | .fn x=>(match tab x with|some m=>(fs env st1).bind m|none=>.stuck)|_=>.stuck:=(rfl)
@[simp] def X0 (f:Str) (i:Str->Bool):Mi.sFld f i fo fv env st=(fv env st).bind λx st1=>(fo env st1).bind λo av=>(putAt f i x o av).bind λ_ bb=>.ok (.nx env) bb:=(rfl)
@[simp] def Ql:ju op fo fv env st=(fo env st).bind λo st1=>(fU o st1).bind λo st1=>(fv env st1).bind λy av=>op o y av:=(rfl)
@[simp] def Qm (n:Nat):fU (.ref n) st=yl st n λ_=>.ok (.ref n) st:=(rfl)
@[simp] def X1 (a b:String):(Str.ofString a=Str.ofString b)↔a=b:=by
 constructor
 ·intro h
  rw [Str.ofString_eq_byList] at h
  have h1:(a.toList.map Char.toNat)=(b.toList.map Char.toNat):=by
   have:=congrArg (λz=>z.cps.toList) h
   simpa [Str.ofStringByList] using this
  apply String.ext_iff.mpr
  exact (List.map_inj_right (λc d e=>Char.toNat_inj.mp e)).mp h1
 ·intro h;rw [h]
@[simp] def X2 (a b:String):(Str.ofString a==Str.ofString b)=(a==b):=by
 rw [Bool.eq_iff_iff];simp
def wE (n:Nat):bG ga g (n+1) env st=(ga env st).bind λc st1=>if c=true then (g env st1).bind λfl av=>match fl with
   |.nx e=>bG ga g n e av
   |.ct e=>bG ga g n e av
   |.bk e=>.ok (.nx e) av
   |.rt v=>.ok (.rt v) av
  else .ok (.nx env) st1:=rfl
@[simp] def EA:lim=1000000:=(rfl)
@[simp] def X3 (f:Str) (i:Str->Bool) (x:PV) (n:Nat):Mi.putAt f i x (.ref n) st=yJ st n λc ks xs=>if i c=true/\ks.length<1000 then .ok () (st.set n (.ins c (putK f x ks xs).1 (putK f x ks xs).2)) else .stuck:=(rfl)
end
section
variable {K:Frag} {mg:Ab} {h:Heap} {x:Str} {f C:Addr} {oc:Value} {od an:Option Addr} {d4:Array (Option Value)} {kV doc pm aV ct:Value} {sm:Stmt} {ps:Ad}
def zfQ (X:K.In h) (G:h.Ns mainGlobals mg) (a:nsIn K mainGlobals x=some (some (.ref f))) (l:K.lookup f=some ⟨oc,od,.func (fnOf x x (we sm) (ji sm) (zE sm) .none kV doc pm an aV ct),d4⟩) (c:codeIn K aV x=true) (k:keepIn K (.ref f)=true)
  (b:∀(kV doc pm:Value) (an:Option Addr) (aV ct:Value) (us:Af),us.length=ps.length->bindArgs (fnOf x x (we sm) (ji sm) (zE sm) .none kV doc pm an aV ct) ⟨us,[]⟩=pure (ps.zip us)):FnF K mg x sm ps :=
 ⟨f,_,mg_of X G a,iU l c k,(iU l c k).binds b⟩
def zfR {c name qual:Str} (X:K.In h) (G:h.Ns mainGlobals mg) (aC:nsIn K mainGlobals c=some (some (.ref C))) (pg:plainGet K C Str.empty=true) (hd:hasDictIn K C=true) (po:plainOver K C=true) (sa:findIn K (.ref C) "__setattr__" = some (some (.builtin "object.__setattr__")))
  (a:findIn K (.ref C) name=some (some (.ref f))) (i:isFn K (.ref f)=true) (l:K.lookup f=some ⟨oc,od,.func (fnOf name qual (we sm) (ji sm) (zE sm) .none kV doc pm an aV ct),d4⟩) (cd:codeIn K aV qual=true) (k:keepIn K (.ref f)=true)
  (b:∀(kV doc pm:Value) (an:Option Addr) (aV ct:Value) (us:Af),us.length=ps.length->bindArgs (fnOf name qual (we sm) (ji sm) (zE sm) .none kV doc pm an aV ct) ⟨us,[]⟩=pure (ps.zip us)):MtF K mg c name qual sm ps :=
 ⟨C,f,_,mg_of X G aC,⟨pg,hd,po,sa⟩,⟨a,i,k⟩,iU l cd k,(iU l cd k).binds b⟩
def zsv {c qual:Str}(X:K.In h) (G:h.Ns mainGlobals mg) (aC:nsIn K mainGlobals c=some (some (.ref C))) (mk:makesIn K C=true) (kc:keepIn K (.ref C)=true)
  (a:findIn K (.ref C) "__init__" = some (some (.ref f))) (i:isFn K (.ref f)=true) (l:K.lookup f=some ⟨oc,od,.func (fnOf "__init__" qual (we sm) (ji sm) (zE sm) .none kV doc pm an aV ct),d4⟩) (cd:codeIn K aV qual=true) (k:keepIn K (.ref f)=true)
  (b:∀(kV doc pm:Value) (an:Option Addr) (aV ct:Value) (us:Af),us.length=ps.length->bindArgs (fnOf "__init__" qual (we sm) (ji sm) (zE sm) .none kV doc pm an aV ct) ⟨us,[]⟩=pure (ps.zip us)):NwF K mg c qual sm ps :=
 ⟨C,f,_,mg_of X G aC,⟨mk,a,i,kc⟩,iU l cd k,(iU l cd k).binds b⟩
def Qn {cd:ClassData}(h:clsIn K C=some cd) (v:cI cd.mro=true):eM K C=true:=by unfold eM;rw [h];exact v
def zsx {c fld qual:Str}{B N:Addr}{nm q:Str}{bs:Af}{cu:Bool}{sn:Ad}{sub:Af}{ab:Bool}{col:Option Bool}{dd:Option Addr}{k0 k1 k2 k3 k5:Option Value}{cc:Value}{d:Option Addr}{es:Array DictEntry}{n:Nat}{sl:Array (Option Value)}{EB:ClassData}
  (X:K.In h) (G:h.Ns mainGlobals mg) (aC:nsIn K mainGlobals c=some (some (.ref C)))
  (hC:K.lookup C=some (excClassObj nm q C N bs (.ref B::cv) cu sn sub ab col dd k0 k1 k2 k3 k5 "ValueError.__new__")) (hB:excIn K B cv "ValueError.__new__" = true)
  (hN:K.lookup N=some ⟨cc,d,.dict es n,sl⟩) (he:(es.all λe=>match e.key with | .str _ _=>true|_=>false)=true) (hi:nsIn K N "__init__" = some (some (.ref f))) (fn:isFn K (.ref f)=true) (kp:keepIn K (.ref C)=true)
  (sa:findIn K (.ref C) "__setattr__" = some (some (.builtin "object.__setattr__"))) (hcl:clsIn K C=some EB) (hl:cI EB.mro=true) (no:takerIn K C fld=some none) (Qo:hasDictIn K C=true)
  (l:K.lookup f=some ⟨oc,od,.func (fnOf "__init__" qual (we sm) (ji sm) (zE sm) .none kV doc pm an aV ct),d4⟩) (EC:codeIn K aV qual=true) (k:keepIn K (.ref f)=true)
  (b:∀(kV doc pm:Value) (an:Option Addr) (aV ct:Value) (us:Af),us.length=[("self" : Str),fld].length->bindArgs (fnOf "__init__" qual (we sm) (ji sm) (zE sm) .none kV doc pm an aV ct) ⟨us,[]⟩=pure ([("self" : Str),fld].zip us)):XnF K mg c fld qual sm :=
 ⟨C,f,_,mg_of X G aC,eO.mk' hC hB hN he hi fn kp,⟨sa,Qn hcl hl,no,Qo⟩,iU l EC k,(iU l EC k).binds b⟩
def zsy {c fld:Str} (X:K.In h) (G:h.Ns mainGlobals mg) (aC:nsIn K mainGlobals c=some (some (.ref C))) (pg:plainGet K C Str.empty=true) (hd:hasDictIn K C=true) (po:plainOver K C=true) (sa:findIn K (.ref C) "__setattr__" = some (some (.builtin "object.__setattr__"))) (na:findIn K (.ref C) fld=some none) :
  ∃C,mg c=some (.ref C)/\dR K C/\cJ K C fld:=⟨C,mg_of X G aC,⟨pg,hd,po,sa⟩,na⟩
def zsz {c fld:Str} (X:K.In h) (G:h.Ns mainGlobals mg) (aC:nsIn K mainGlobals c=some (some (.ref C))) (ga:findIn K (.ref C) "__getattribute__" = some (some (.builtin "BaseException.__getattribute__"))) (hk:findIn K (.ref C) "__getattr__" = some none) (hB:mroIn K C (.type "BaseException")=some true)
  (hd:hasDictIn K C=true) (no:findIn K (.ref C) fld=some none):∃C,mg c=some (.ref C)/\gZ K C/\hasDictIn K C=true/\findIn K (.ref C) fld=some none:=⟨C,mg_of X G aC,⟨ga,hk,hB⟩,hd,no⟩
def zsA {α:Type}{P:α->Prop}:∀p∈([]:List α),P p:=λ_ h=>nomatch h
def all_cons {α:Type}{P:α->Prop}{a:α}{l:List α}(h:P a) (t:∀p∈l,P p):∀p∈a::l,P p:=λp hp=>by
 rcases yE.mp hp with rfl|hp
 ·exact h
 ·exact t p hp
theorem ED {α β:Type} [BEq α] [LawfulBEq α] {a:α}{b:β}:∀{l:List (α×β)},l.lookup a=some b->(a,b)∈l
 |[],h=>by simp at h
 | (c,d)::l,h=>by
  rw [jR] at h
  split at h
  ·rename_i e;cases h;rw [eq_of_beq e];simp
  ·exact yz _ (ED h)
def zfS {O t t2:Addr} {wd k1 k2 y:Str} {u1 u2:Tok} {n n2:Nat} {pk:Option Addr} {sl eZ:Array (Option Value)} (X:K.In h) (G:h.Ns mainGlobals mg) (e:nsIn K O wd=some (some (.ref t))) (l1:K.lookup t=some ⟨.type "tuple", od,.seq #[.ref t2,.ref f] n,sl⟩)
  (l2:K.lookup t2=some ⟨.type "tuple", pk,.seq #[.str k1 u1,.str k2 u2] n2,eZ⟩) (a:nsIn K mainGlobals y=some (some (.ref f))):∃u v,nsIn K O wd=some (some u)/\RelV v u/\∀ρ H,R K mg ρ H (.tup [.tup [.str k1,.str k2],.fn y]) v:=by
 refine ⟨_,.ref t,e,rfl,mO (xs:=[.tup [.str k1,.str k2],.fn y]) (vs:=[.ref t2,.ref f]) l1 rfl (by simp) (.cons rfl (.cons rfl .nil)) fun ρ H=>?_⟩
 exact ⟨_,_,rfl,mO (xs:=[.str k1,.str k2]) (vs:=[.str k1,.str k2]) l2 rfl (by simp) (.cons ⟨_,rfl⟩ (.cons ⟨_,rfl⟩ .nil)) (fun ρ H=>⟨_,_,rfl,rfl,_,_,rfl,rfl,rfl⟩) ρ H,_,_,rfl,⟨f,rfl,mg_of X G a⟩,rfl⟩
def zsB {O t t2:Addr} {wd k1 y:Str} {u1:Tok} {n n2:Nat} {pk:Option Addr} {sl eZ:Array (Option Value)} (X:K.In h) (G:h.Ns mainGlobals mg) (e:nsIn K O wd=some (some (.ref t))) (l1:K.lookup t=some ⟨.type "tuple", od,.seq #[.ref t2,.ref f] n,sl⟩)
  (l2:K.lookup t2=some ⟨.type "tuple", pk,.seq #[.str k1 u1] n2,eZ⟩) (a:nsIn K mainGlobals y=some (some (.ref f))):∃u v,nsIn K O wd=some (some u)/\RelV v u/\∀ρ H,R K mg ρ H (.tup [.tup [.str k1],.fn y]) v:=by
 refine ⟨_,.ref t,e,rfl,mO (xs:=[.tup [.str k1],.fn y]) (vs:=[.ref t2,.ref f]) l1 rfl (by simp) (.cons rfl (.cons rfl .nil)) fun ρ H=>?_⟩
 exact ⟨_,_,rfl,mO (xs:=[.str k1]) (vs:=[.str k1]) l2 rfl (by simp) (.cons ⟨_,rfl⟩ .nil) (fun ρ H=>⟨_,_,rfl,rfl,rfl⟩) ρ H,_,_,rfl,⟨f,rfl,mg_of X G a⟩,rfl⟩
def zsC {w:World} {name:Str} {O:Addr} {es:Array DictEntry} {n:Nat} {ks:Ad} {qs:An} (X:K.In h) (G:h.Ns mainGlobals mg) (aO:nsIn K mainGlobals name=some (some (.ref O))) (lO:K.lookup O=some ⟨.type "dict", none,.dict es n,#[]⟩) (hk:KeysLit w.params es.toList) (no:(O==sysModules)=false)
  (hi:∀p∈ks.zip qs,∃u v,nsIn K O p.1=some (some u)/\RelV v u/\∀ρ H,R K mg ρ H p.2 v):∀Y:Cx,Y.K=K->Y.mg=mg->Y.w=w->KdF Y name ks qs false:=λY e1 e2 e3=>by
 refine ⟨O,by rw [e2];exact mg_of X G aO,⟨⟨es,n,by rw [e1];exact lO,by rw [e3];exact hk⟩,no⟩,λz q hz=>?_,λz=>nomatch z⟩
 rw [e1,e2]
 exact hi _ (ED hz)
end
def zsD {P:Program}{w:World}{K:Frag}{mg:Ab}{x y:Str}{sm:Stmt}{fa:Addr}{k:Nat}{m:Al}(h:FnF K mg x sm [y]) (hmg:mg x=some (.ref fa))
  (hb:∀(kV doc pm:Value) (an:Option Addr) (aV ct:Value) (u:Value),bindArgs (fnOf x x (we sm) (ji sm) (zE sm) .none kV doc pm an aV ct) ⟨[u],[]⟩=pure [(y,u)])
  (hok:∀(f:Addr) (fd:FuncData),dw K x x sm f fd->∀base:Heap,bh P w K mg base (b9 P w) k f fd [y] (fR K mg m)) (hp:∀ns:List Int,ns.length<=63->∃st,m [.frl (ns.map PV.int)] []=.ok (.bl true) st) :
  ∃fd:FuncData,(∀(s:Shared) (u:Value),BindsTo s fd ⟨[u],[]⟩ [(y,u)])/\∀base:Heap,K.In base->base.Ns mainGlobals mg->bh P w K mg base (b9 P w) k fa fd [y] (ik K):=by
 obtain ⟨f,fd,hm,F,_⟩:=h
 rw [hmg] at hm
 cases hm
 refine ⟨fd,λs u=>?_,λbase _ _=>P4 (hok fa fd F base) hp⟩
 obtain ⟨oc,od,kV,doc,pm,an,aV,ct,d4,rfl,_⟩:=F.ex
 exact .of_eq (hb kV doc pm an aV ct u)
def zd6 {K:Frag}{mg:Ab}{h:Heap}{x:Str}{i:Int}{t:Tok}(X:K.In h) (G:h.Ns mainGlobals mg) (a:nsIn K mainGlobals x=some (some (.int i t))):∃t,mg x=some (.int i t):=⟨t,mg_of X G a⟩
def zjg {K:Frag}{mg:Ab}{h:Heap}{x z:Str}{t:Tok}(X:K.In h) (G:h.Ns mainGlobals mg) (a:nsIn K mainGlobals x=some (some (.str z t))):∃t,mg x=some (.str z t):=⟨t,mg_of X G a⟩
def zsE {K:Frag}{mg:Ab}{h:Heap}{x:Str}(X:K.In h) (G:h.Ns mainGlobals mg) (a:nsIn K mainGlobals x=some none):mg x=none:=mg_none_of X G a
section
variable {X:Cx} {Er:XK} {K:Frag} {mg:Ab} {a e o:Expr} {pos pos':Pos} {fo:Ai}
abbrev kz (ks:Ad) (vs:List V):List (Key×V):=(ks.map Sum.inr).zip vs
theorem sD {z:Str}:∀{ks:Ad}{vs:List V},cH (kz ks vs) (Sum.inr z)=(ks.zip vs).lookup z
 |[],_=>by simp [kz,cH]
 |k::ks,[]=>by simp [kz,cH]
 |k::ks,v::vs=>by
  have ih:=sD (z:=z) (ks:=ks) (vs:=vs)
  by_cases h:k=z
  ·subst h
   rw [show kz (k::ks) (v::vs)=(Sum.inr k,v)::kz ks vs from rfl,rF rfl]
   simp [jR]
  ·rw [show kz (k::ks) (v::vs)=(Sum.inr k,v)::kz ks vs from rfl,rG (by simpa using h),ih]
   have:(z==k)=false:=by simpa using λq=>h q.symm
   simp [jR,this]
theorem EE {z:Str}:∀{ks:Ad}{vs:List V},ks.length=vs.length->((kz ks vs).any λkv=>decide (kv.1=Sum.inr z))=ks.contains z
 |[],_,_=>by simp [kz]
 |k::ks,[],h=>by simp at h
 |k::ks,v::vs,h=>by
  have ih:=EE (z:=z) (ks:=ks) (vs:=vs) (by simpa using h)
  rw [show kz (k::ks) (v::vs)=(Sum.inr k,v)::kz ks vs from rfl,List.any_cons,ih,List.contains_cons]
  congr 1
  by_cases hz:k=z
  ·subst hz;simp
  ·have:(z==k)=false:=by simpa using λq=>hz q.symm
   simp [hz,this]
def repl {α:Type}(z:Str) (x:α):List Str->List α->List α
 |k::ks,y::ys=>(if k=z then x else y)::repl z x ks ys
 |_,ys=>ys
def wY (z:Str) (x:PV) (ks:Ad) (xs:An):List Str×List PV:=if ks.contains z=true then (ks,repl z x ks xs) else (ks++[z],xs++[x])
theorem EF {z:Str}{v:V}:∀{ks:Ad}{vs:List V},(kz ks vs).map (λkv=>if kv.1=Sum.inr z then (kv.1,v) else kv)=kz ks (repl z v ks vs)
 |[],_=>by simp [kz]
 |k::ks,[]=>by simp [kz,repl]
 |k::ks,w::vs=>by
  rw [show kz (k::ks) (w::vs)=(Sum.inr k,w)::kz ks vs from rfl,ye,EF,show repl z v (k::ks) (w::vs)=(if k=z then v else w)::repl z v ks vs from rfl,show ∀u us,kz (k::ks) (u::us)=(Sum.inr k,u)::kz ks us from λ_ _=>rfl]
  by_cases h:k=z
  ·subst h;simp
  ·rw [zD (by simpa using h),zD h]
theorem EG {ρ:Ae}{H:Hp}{z:Str}{x:PV}{v:V}(r:R K mg ρ H x v):∀{ks:Ad}{xs:An}{vs:List V},Rs K mg ρ H xs vs->Rs K mg ρ H (repl z x ks xs) (repl z v ks vs)
 |[],xs,vs,h=>by cases xs<;>cases vs<;>exact h
 |k::ks,[],vs,h=>by cases h;exact rfl
 |k::ks,y::ys,vs,h=>by
  obtain ⟨w,ws,rfl,h1,h2⟩:=h
  refine ⟨_,_,rfl,?_,EG r h2⟩
  split
  ·exact r
  ·exact h1
theorem EH {α:Type}{z:Str}{x:α}:∀{ks:Ad}{xs:List α},(repl z x ks xs).length=xs.length
 |[],xs=>by cases xs<;>rfl
 |k::ks,[]=>rfl
 |k::ks,y::ys=>by simp [repl,EH (ks:=ks)]
def Qp {ρ:Ae}{H:Hp}{z:Str}{x:PV}{v:V}(r:R K mg ρ H x v) {ks:Ad}{xs:An}{vs:List V}(hl:ks.length=vs.length) (h:Rs K mg ρ H xs vs):∃ws,L2.putK (kz ks vs) (Sum.inr z) v=kz (wY z x ks xs).1 ws/\Rs K mg ρ H (wY z x ks xs).2 ws/\(wY z x ks xs).1.length=ws.length:=by
 unfold L2.putK wY
 rw [EE hl]
 by_cases hc:ks.contains z=true
 ·rw [zp hc,zp hc]
  exact ⟨repl z v ks vs,EF,EG r h,by rw [EH];exact hl⟩
 ·rw [zD hc,zD hc]
  refine ⟨vs++[v],?_,h.append ⟨v,[],rfl,r,rfl⟩,by simp [hl]⟩
  show _=(List.map Sum.inr (ks++[z])).zip (vs++[v])
  rw [wa,List.zip_append (by simpa using hl)]
  rfl
def mR:Ai:=λ_ st=>.ok (.ref st.length) (st++[.dic [] []])
def zcS:ME X Er (.Dict [] [] pos) mR:=PE.weak NA λU H Q ⟨env,st,ρ,re,rs,h⟩=>λq hq =>
 h (ρ++[q]) _ (Ext.push hq) (rs.push hq ⟨[],yv,rfl,rfl⟩) _ ⟨q,rfl,by rw [<-rs.len];simp⟩
def EI:Am
 |.ref n,.str z,st=>yR st n λks xs=>cw ((ks.zip xs).lookup z) st
 |_,_,_=>.stuck
def zJ:Am
 |.ref n,.str z,st=>EI (.ref n) (.str z) st
 |x,y,st=>xt x y st
def Qq:R2:=λx y H Q=>∃a v,x=.ref a/\du H a y (some v)/\Q v H
def Qr (hu:X.A.units+1<cLine):e_ X Qq:=by
 intro value slice pins s U H x y v u Q I rx ry h hs
 obtain ⟨a,w,rfl,g,q⟩:=h
 obtain rfl:v=Value.ref a:=rx
 exact PyProof.Rows.tail_any (Nu I g) PySem.F.slot_dict_getitem.lookup (Nl hu I g ry λw' s' I' rw'=>⟨w,H,I',rw',q⟩) hs
def R.refD {ρ:Ae}{H:Hp}{st:aa}{n:Nat}{ks:Ad}{xs:An}{v:V}(s:a_ K mg ρ H st) (r:R K mg ρ H (.ref n) v) (h:st[n]?=some (.dic ks xs)):∃a vs,v=.ref a/\ρ[n]?=some a/\H a=some (.dK (kz ks vs))/\Rs K mg ρ H xs vs/\ks.length=vs.length:=by
 obtain ⟨a,rfl,ha⟩:=r
 obtain ⟨vs,h1,h2,h3⟩:=s.addr h ha
 exact ⟨a,vs,rfl,ha,h1,h2,h3⟩
def EJ {H:Hp}{a:Addr}{ks:Ad}{vs:List V}{z:Str}(h:H a=some (.dK (kz ks vs))):du H a (.str z) ((ks.zip vs).lookup z):=by
 have g:=du.k (k:=Sum.inr z) h
 rw [sD] at g
 exact g
def yt (hu:X.A.units+200<cLine):oP X zJ:=by
 obtain ⟨r,h1,h2⟩:=OW (X:=X)
 refine ⟨_,h1.or (Qr (by omega)),fun ρ H st x y v w Q E s rx ry h=>?_⟩
 by_cases hx:∃n z,x=.ref n/\y=.str z
 ·obtain ⟨n,z,rfl,rfl⟩:=hx
  obtain ⟨ks,xs,e,h⟩:=lh (show Out X.K X.mg ρ H (yR st n λks xs=>cw ((ks.zip xs).lookup z) st) (gV X.K X.mg Q) E from h)
  obtain ⟨q,hq,h⟩:=i9 h
  obtain ⟨a,vs,rfl,_,k1,k2,_⟩:=R.refD s rx e
  cases ry
  obtain ⟨v,hv,rv⟩:=ke k2 hq
  refine .inr ⟨a,v,rfl,?_,h.now s _ rv⟩
  have g:=EJ (z:=z) k1
  rw [hv] at g
  exact g
 ·refine .inl (h2 ρ H st x y v w Q E s rx ry ?_)
  have:zJ x y st=xt x y st:=by
   unfold zJ
   split
   ·rename_i n z;exact absurd ⟨n,z,rfl,rfl⟩ hx
   ·rfl
  rw [this] at h
  exact h
def wm (z x:PV):PV->Mo Unit
 | .ref n,st=>match z with
  |.str z=>yR st n λks xs=>if ks.length<lim then .ok () (st.set n (.dic (wY z x ks xs).1 (wY z x ks xs).2)) else .stuck
  |_=>.stuck
 |_,_=>.stuck
def jp (fo fi fv:Ai):Aj:=λenv st=>(fv env st).bind λx st1=>(fo env st1).bind λo av=>(fi env av).bind λz bb=>(wm z x o bb).bind λ_ ie=>.ok (.nx env) ie
def Qs {i value:Expr}{fi fv:Ai}(hu:X.A.units+200<cLine) (ho:ME X Er o fo) (hi:ME X Er i fi) (hv:ME X Er value fv) (hs:swapsWith value (some (.Subscript o i pos')) pos.line X.env=pure false:=by rfl):MS X Er (.Assign [.Subscript o i pos'] value pos) (jp fo fi fv) :=
 PS.weak (Nw (by omega) ho hi hv hs) λD U H ⟨env,st,ρ,re,rs,h⟩=>⟨env,st,ρ,re,rs,h.then λae H1 x st1 e1 s1 h1 v rv=>⟨env,st1,ae,re.ext e1,s1,h1.then λam H2 y av e2 s2 h2 w rw=>⟨env,av,am,(re.ext e1).ext e2,s2,h2.then λao H3 zz bb e3 s3 h3 u ru=>by
  cases y with
  |ref n =>
   cases zz with
   |str z =>
    cases hn:bb[n]? with
    |none=>simp only [wm,yR,hn] at h3;exact h3.elim
    |some so =>
     cases so with
     |lst _=>simp only [wm,yR,hn] at h3;exact h3.elim
     |ins _ _ _=>simp only [wm,yR,hn] at h3;exact h3.elim
     |fdi _ _=>simp only [wm,yR,hn] at h3;exact h3.elim
     |dit _ _=>simp only [wm,yR,hn] at h3;exact h3.elim
     |dic ks xs =>
      simp only [wm,yR,hn] at h3
      by_cases hc:ks.length<lim
      ·rw [zp hc] at h3
       obtain ⟨a,vs,e4,ha,k1,k2,k3⟩:=R.refD s3 (R.ext e3 _ rw) hn
       subst e4
       cases ru
       obtain ⟨ws,q1,q2,q3⟩:=Qp (z:=z) (R.ext e3 x (R.ext e2 x rv)) k3 k2
       have hlen:(kz ks vs).length<sizeLine:=by
        have:(kz ks vs).length=ks.length:=by simp [kz,k3]
        rw [this,sizeLine_eq]
        have:ks.length<1000000:=hc
        omega
       have g:=fO.k (k:=Sum.inr z) (v:=v) k1 hlen
       have ew:Ext ao H3 ao (upd H3 a (.dK (L2.putK (kz ks vs) (Sum.inr z) v))):=Ext.write k1 rfl
       refine ⟨a,_,rfl,g,h3 ao _ ew (s3.write ha ew ⟨ws,by rw [yv,q1],Rs.ext ew _ q2,q3⟩) U ((((re.ext e1).ext e2).ext e3).ext ew)⟩
      ·rw [zD hc] at h3;exact h3.elim
   |_=>exact h3.elim
  |_=>exact h3.elim⟩⟩⟩
end
open Classical in
def c9 (K:Frag) (mg:Ab) (ρ:Ae) (H:Hp) (ys:An) (x:PV) (u:Value):Bool:=decide (∃y v,y∈ys/\R K mg ρ H y v/\RelV v u/\bA y x=true)
section
variable {X:Cx} {K:Frag} {mg:Ab} {ρ:Ae} {pins:Ac} {U:L2.St} {H:Hp} {s:Shared}
def okIn (x:PV) (ys:An):Prop:=Mi.plain x=true/\bz ys=true/\cS ys<=150
instance (x:PV) (ys:An):Decidable (okIn x ys):=by unfold okIn;infer_instance
theorem Rs.mem:∀{xs:An}{vs:List V}{us:Af}{u:Value},Rs K mg ρ H xs vs->Vals vs us->u∈us->∃y v,y∈xs/\R K mg ρ H y v/\RelV v u
 |[],_,_,_,h,hv,hu=>by cases h;cases hv;cases hu
 |x::xs,_,_,u,h,hv,hu=>by
  obtain ⟨v,r,rfl,h1,h2⟩:=h
  cases hv with
  |cons r1 r2 =>
   rcases yE.mp hu with rfl|hu
   ·exact ⟨x,v,by simp,h1,r1⟩
   ·obtain ⟨y,w,q1,q2,q3⟩:=Rs.mem h2 r2 hu
    exact ⟨y,w,by simp [q1],q2,q3⟩
theorem Rs.mem':∀{xs:An}{vs:List V}{us:Af}{y:PV},Rs K mg ρ H xs vs->Vals vs us->y∈xs->∃u v,u∈us/\R K mg ρ H y v/\RelV v u
 |[],_,_,_,_,_,hy=>by cases hy
 |x::xs,_,_,y,h,hv,hy=>by
  obtain ⟨v,r,rfl,h1,h2⟩:=h
  cases hv with
  |cons r1 r2 =>
   rcases yE.mp hy with rfl|hy
   ·exact ⟨_,v,by simp,h1,r1⟩
   ·obtain ⟨u,w,q1,q2,q3⟩:=Rs.mem' h2 r2 hy
    exact ⟨u,w,by simp [q1],q2,q3⟩
def Qt {ys:An}{y:PV}(h:bz ys=true) (hy:y∈ys):Mi.plain y=true:=by
 obtain ⟨i,hi⟩:=List.getElem?_of_mem hy
 exact sf h hi
def Qu {ys:An}{y:PV}(hy:y∈ys):dep y<=cS ys:=by
 obtain ⟨i,hi⟩:=List.getElem?_of_mem hy
 exact xu hi
open Classical in
def sE (I:Inv X pins U H s) {A:Around}(hu:A.units+200<cLine) {ys:An}{vs:List V}{us:Af}{x:PV}{w:V}{v:Value}(ok:okIn x ys) (ry:Rs X.K mg ρ H ys vs) (rv:Vals vs us) (rx:R X.K mg ρ H x w) (rw:RelV w v) :
  (∀u∈us,SeqAt.EqAt A.in1 s u v (c9 X.K mg ρ H ys x u))/\us.any (c9 X.K mg ρ H ys x)=ys.any λy=>bA y x:=by
 obtain ⟨px,py,hd⟩:=ok
 have one:∀y v' u,y∈ys->R X.K mg ρ H y v'->RelV v' u->SeqAt.EqAt A.in1 s u v (bA y x):=λy v' u hy r1 r2 =>
  (xv I 150 y x A.in1 (jg (Qu hy) hd) (Qt py hy) px r1 rx r2 rw (by rw [oU];omega)).1
 refine ⟨λu EK=>?_,?_⟩
 ·obtain ⟨y,v',q1,q2,q3⟩:=Rs.mem ry rv EK
  by_cases h:∃y v,y∈ys/\R X.K mg ρ H y v/\RelV v u/\bA y x=true
  ·have e:c9 X.K mg ρ H ys x u=true:=by simpa [c9] using h
   obtain ⟨y2,v2,z1,z2,z3,z4⟩:=h
   rw [e,<-z4]
   exact one y2 v2 u z1 z2 z3
  ·have e:c9 X.K mg ρ H ys x u=false:=by unfold c9;exact wc h
   rw [e]
   have:bA y x=false:=by
    cases hq:bA y x with
    |false=>rfl
    |true=>exact absurd ⟨y,v',q1,q2,q3,hq⟩ h
   rw [<-this]
   exact one y v' u q1 q2 q3
 ·rw [Bool.eq_iff_iff]
  simp only [List.any_eq_true]
  constructor
  ·rintro ⟨u,EK,he⟩
   have h:∃y v,y∈ys/\R X.K mg ρ H y v/\RelV v u/\bA y x=true:=by unfold c9 at he;exact of_decide_eq_true he
   obtain ⟨y,v',z1,_,_,z4⟩:=h
   exact ⟨y,z1,z4⟩
  ·rintro ⟨y,hy,he⟩
   obtain ⟨u,v',q1,q2,q3⟩:=Rs.mem' ry rv hy
   exact ⟨u,q1,by unfold c9;exact kG ⟨y,v',hy,q2,q3,he⟩⟩
def yS (neg:Bool):Am
 |x,.tup ys,st=>if okIn x ys then .ok (.bl (neg.xor (ys.any λy=>bA y x))) st else .stuck
 |x,.frl ys,st=>if okIn x ys then .ok (.bl (neg.xor (ys.any λy=>bA y x))) st else .stuck
 | x,.ref n,st=>match st[n]?,x with
  |some (.lst ys),x=>if okIn x ys then .ok (.bl (neg.xor (ys.any λy=>bA y x))) st else .stuck
  |some (.dic ks xs),.str z=>.ok (.bl (neg.xor ((ks.zip xs).lookup z).isSome)) st
  |_,_=>.stuck
 |.str ⟨⟨[c]⟩⟩,.str z,st=>.ok (.bl (neg.xor (decide (c∈z.cps.toList)))) st
 |_,_,_=>.stuck
def xW (K:Frag) (mg:Ab) (neg:Bool):R2:=λv w H Q =>
 (∃ρ x ys vs p,okIn x ys/\w=.ref p/\(ba K H p vs\/bC K H p vs)/\Rs K mg ρ H ys vs/\R K mg ρ H x v/\Q (.bl (neg.xor (ys.any λy=>bA y x))) H) \/
 (∃p o,w=.ref p/\du H p v o/\Q (.bl (neg.xor o.isSome)) H)\/∃(c:Nat) (z:Str),v=.str ⟨#[c]⟩/\w=.str z/\Q (.bl (neg.xor (decide (c∈z.cps.toList)))) H
def Qv (hu:X.A.units+200<cLine):bq X (compareOp .In) (xW X.K X.mg false):=by
 intro pins s U H x y v u Q I rx ry h
 rcases h with ⟨ρ,a,ys,vs,p,ok,rfl,hq,pz,ra,q⟩|⟨p,o,rfl,g,q⟩|⟨c,z,rfl,rfl,q⟩
 ·obtain rfl:u=Value.ref p:=ry
  rcases hq with hq|hq
  ·obtain ⟨its,r,pl,_⟩:=I.list hq
   obtain ⟨f1,f2⟩:=sE I hu ok pz r ra rx
   refine SeqAt.in_listAt (c9 X.K X.mg ρ H ys a) pl.isList (λw hw=>f1 w (by simpa using hw)) ⟨.bl _,H,I,rfl,?_⟩
   rw [show its.toArray.any (c9 X.K X.mg ρ H ys a)=its.any (c9 X.K X.mg ρ H ys a) by simp,f2]
   simpa using q
  ·obtain ⟨its,r,pl,_⟩:=I.tuple hq
   obtain ⟨f1,f2⟩:=sE I hu ok pz r ra rx
   refine SeqAt.in_tupleAt (c9 X.K X.mg ρ H ys a) pl (λw hw=>f1 w (by simpa using hw)) ⟨.bl _,H,I,rfl,?_⟩
   rw [show its.toArray.any (c9 X.K X.mg ρ H ys a)=its.any (c9 X.K X.mg ρ H ys a) by simp,f2]
   simpa using q
 ·obtain rfl:u=Value.ref p:=ry
  exact Nm (by omega) I g rx λs' I'=>⟨.bl o.isSome,H,I',rfl,by simpa using q⟩
 ·exact Ni pins s U H _ _ v u Q I rx ry ⟨c,z,rfl,rfl,by simpa using q⟩
def Qw (hu:X.A.units+200<cLine):bq X (compareOp .NotIn) (xW X.K X.mg true):=by
 intro pins s U H x y v u Q I rx ry h
 rcases h with ⟨ρ,a,ys,vs,p,ok,rfl,hq,pz,ra,q⟩|⟨p,o,rfl,g,q⟩|⟨c,z,rfl,rfl,q⟩
 ·obtain rfl:u=Value.ref p:=ry
  rcases hq with hq|hq
  ·obtain ⟨its,r,pl,_⟩:=I.list hq
   obtain ⟨f1,f2⟩:=sE I hu ok pz r ra rx
   refine SeqAt.notIn_listAt (c9 X.K X.mg ρ H ys a) pl.isList (λw hw=>f1 w (by simpa using hw)) ⟨.bl _,H,I,rfl,?_⟩
   rw [show its.toArray.any (c9 X.K X.mg ρ H ys a)=its.any (c9 X.K X.mg ρ H ys a) by simp,f2]
   simpa using q
  ·obtain ⟨its,r,pl,_⟩:=I.tuple hq
   obtain ⟨f1,f2⟩:=sE I hu ok pz r ra rx
   refine SeqAt.notIn_tupleAt (c9 X.K X.mg ρ H ys a) pl (λw hw=>f1 w (by simpa using hw)) ⟨.bl _,H,I,rfl,?_⟩
   rw [show its.toArray.any (c9 X.K X.mg ρ H ys a)=its.any (c9 X.K X.mg ρ H ys a) by simp,f2]
   simpa using q
 ·obtain rfl:u=Value.ref p:=ry
  exact Nn (by omega) I g rx λs' I'=>⟨.bl (!o.isSome),H,I',rfl,by simpa using q⟩
 ·refine L2.zpK pins s U H _ _ v u Q I rx ry ⟨_,_,rfl,rfl,?_⟩
  rw [StrLaws.found_one]
  simpa using q
def EL {neg:Bool}:dy K mg (xW K mg neg) (yS neg):=by
 intro ρ H st x y v w Q E s rx ry h
 cases y with
 |tup ys =>
  obtain ⟨p,vs,rfl,k1,k2⟩:=ry
  obtain ⟨ok,h⟩:=Out.ifp (show Out K mg ρ H (if okIn x ys then .ok (.bl (neg.xor (ys.any λy=>bA y x))) st else .stuck) (gV K mg Q) E from by cases x<;>exact h)
  exact .inl ⟨ρ,x,ys,vs,p,ok,rfl,.inr k1,k2,rx,h.now s _ rfl⟩
 |frl ys =>
  obtain ⟨p,vs,rfl,k1,k2⟩:=ry
  obtain ⟨ok,h⟩:=Out.ifp (show Out K mg ρ H (if okIn x ys then .ok (.bl (neg.xor (ys.any λy=>bA y x))) st else .stuck) (gV K mg Q) E from by cases x<;>exact h)
  exact .inl ⟨ρ,x,ys,vs,p,ok,rfl,.inl k1.sq,k2,rx,h.now s _ rfl⟩
 |ref n =>
  cases hn:st[n]? with
  |none=>exfalso;cases x<;>(simp only [yS,hn] at h;exact h)
  |some so =>
   cases so with
   |lst ys =>
    obtain ⟨p,vs,rfl,_,k1,k2⟩:=R.refL s ry hn
    obtain ⟨ok,h⟩:=Out.ifp (show Out K mg ρ H (if okIn x ys then .ok (.bl (neg.xor (ys.any λy=>bA y x))) st else .stuck) (gV K mg Q) E from by cases x<;>(simp only [yS,hn] at h;exact h))
    exact .inl ⟨ρ,x,ys,vs,p,ok,rfl,.inl (ba.of k1),k2,rx,h.now s _ rfl⟩
   |dic ks xs =>
    obtain ⟨p,vs,rfl,_,k1,k2,k3⟩:=R.refD s ry hn
    cases x with
    |str z =>
     simp only [yS,hn] at h
     cases rx
     refine .inr (.inl ⟨p,_,rfl,EJ k1,?_⟩)
     have e:((ks.zip vs).lookup z).isSome=((ks.zip xs).lookup z).isSome:=by
      cases hq:(ks.zip xs).lookup z with
      |some q=>obtain ⟨v,hv,_⟩:=ke k2 hq;rw [hv];rfl
      |none =>
       have:z∉ks:=by
        intro hz
        obtain ⟨i,hi⟩:=List.getElem?_of_mem hz
        have hl:i<xs.length:=by rw [k2.len,<-k3];exact (yu.mp hi).1
        have:=List.lookup_eq_none_iff.mp hq (z,xs[i]) (List.mem_iff_getElem?.mpr ⟨i,by simp [List.getElem?_zip_eq_some,hi,hl]⟩)
        simp at this
       rw [za5 this];rfl
     rw [e]
     exact h.now s _ rfl
    |_=>simp only [yS,hn] at h;exact h.elim
   |ins c ks xs=>exfalso;cases x<;>(simp only [yS,hn] at h;exact h)
   |fdi ks xs=>exfalso;cases x<;>(simp only [yS,hn] at h;exact h)
   |dit ks xs=>exfalso;cases x<;>(simp only [yS,hn] at h;exact h)
 |str z =>
  cases x with
  |str q =>
   obtain ⟨⟨l⟩⟩:=q
   match l,rx,h with
   |[c],rx,h=>cases rx;cases ry;exact .inr (.inr ⟨c,z,rfl,rfl,Out.now (x:=PV.bl _) h s _ rfl⟩)
   |[],rx,h=>exact h.elim
   |_::_::_,rx,h=>exact h.elim
  |_=>exact h.elim
 |non=>exfalso;cases x<;>exact h
 |bl _=>exfalso;cases x<;>exact h
 |int _=>exfalso;cases x<;>exact h
 |ty _=>exfalso;cases x<;>exact h
 |fn _=>exfalso;cases x<;>exact h
 |kd _ _=>exfalso;cases x<;>exact h
 |exo _ _ _=>exfalso;cases x<;>exact h
def zfU (hu:X.A.units+200<cLine):bL X .In (yS false):=⟨_,Qv hu,EL⟩
def zjo (hu:X.A.units+200<cLine):bL X .NotIn (yS true):=⟨_,Qw hu,EL⟩
end
section
variable {X:Cx} {Er:XK} {pos:Pos}
abbrev XN:XK:=λ_ _ _=>False
def jX:j0 X XN:=λ_ _ _ _ _ _ _ _ _ q=>q.elim
def bU (fe:Ai) (env:zd):List PV->Al
 |[],ys,st=>.ok (.ref st.length) (st++[.lst ys])
 |x::xs,ys,st=>(bH (fe (some x::env) st)).bind λy st1=>bU fe env xs (ys++[y]) st1
def cF (fe:Ai) (env:zd) (n:Nat):Nat->Nat->Al
 |0,_,_,_=>.stuck
 | m+1,i,ys,st=>yl st n λxs=>match xs[i]? with
  |none=>.ok (.ref st.length) (st++[.lst ys])
  |some x=>(bH (fe (some x::env) st)).bind λy st1=>cF fe env n m (i+1) (ys++[y]) st1
def bI (fe:Ai) (env:zd):Sq->Mo PV
 |.im xs,st=>if xs.length<=lim then bU fe env xs [] st else .stuck
 |.rf n,st=>cF fe env n (lim+1) 0 [] st
def yB (src:zd->Mo Sq) (fe:Ai):Ai:=λenv st=>(src env st).bind λq st1=>bI fe env q st1
theorem Rs.snoc {K:Frag}{mg:Ab}{ρ:Ae}{H:Hp}{x:PV}{v:V}(r:R K mg ρ H x v):∀{xs:An}{vs:List V},Rs K mg ρ H xs vs->Rs K mg ρ H (xs++[x]) (vs++[v])
 |[],_,h=>by cases h;exact ⟨v,[],rfl,r,rfl⟩
 |y::xs,_,h=>by
  obtain ⟨w,q,rfl,h1,h2⟩:=h
  exact ⟨w,q++[v],rfl,h1,Rs.snoc r h2⟩
def Qx {elt iter:Expr} {x:Str} {px:Pos} {scope:Scope} {src:zd->Mo Sq} {fe:Ai} {M:Ad} (hc:X.calm=true) (S:cq X.env.scope scope x) (eN:Hid scope M X.N) (cE:((".0" : Str)::x::M).Nodup)
  (hi:MI X Er (.Name x px) iter src) (he:∀cl C af ai fp,ME (iV X M scope cl x C af ai fp (λ_ _=>False)) XN elt fe)
  (hs:∀v,foldedSetIterable iter X.env v=pure v:=by intro _;rfl):ME X Er (.ListComp elt [⟨.Name x px,iter,[],0⟩] scope pos) (yB src fe) :=
 PE.weak (Dx (te:=tM X.K X.mg XN fe) hc S eN cE hi (λcl C af ai fp=>he cl C af ai fp) hs) λU H Q ⟨env,st,ρ,re,rs,h⟩=>⟨env,st,ρ,re,rs,h.then λar H0 q dz e0 s0 h0 J wk=>by
  cases q with
  |im xs =>
   obtain ⟨hl,h0⟩:=Out.ifp h0
   obtain ⟨w1,w2,w3⟩:=wk
   refine ⟨λi m ys H=>m=xs.length-i/\i<=xs.length/\ys.length=i/\∃ps st ρ,Rs X.K X.mg ρ H ps ys/\a_ X.K X.mg ρ H st/\Ext ar H0 ρ H/\Out X.K X.mg ρ H (bU fe env (xs.drop i) ps st) (gV X.K X.mg Q) Er,⟨xs.length,by simp,jh _,rfl,[],dz,ar,rfl,s0,Ext.refl,h0⟩,?_⟩
   rintro i m ys H ⟨rfl,hi,hy,ps,st,ρ,c_,rs,ex,h⟩
   by_cases bD:i<xs.length
   ·refine .inr ⟨w1 i ρ H ex bD,jq (by omega),λv H' y=>?_⟩
    obtain ⟨x,hx,eX,s2,rx⟩:=w3 i ρ H st v H' ex rs bD y
    have hd:xs.drop i=x::xs.drop (i+1):=by
     rw [jy bD]
     have:=(yu.mp hx).2
     rw [this]
    rw [hd] at h
    simp only [bU] at h
    refine ⟨some x::env,st,ρ,(re.ext (e0.trans (ex.trans eX))).cons rx,s2,gz (Out.ext h eX) λao H3 y bb e3 s3 h3 v ry=>⟨xs.length-(i+1),by omega,rfl,bD,by simp [hy],ps++[y],bb,ao,Rs.snoc ry (Rs.ext (eX.trans e3) ps c_),s3,(ex.trans eX).trans e3,h3⟩⟩
   ·have e:i=xs.length:=by omega
    subst e
    rw [List.drop_length] at h
    exact .inl ⟨w2 _ ρ H ex (z0 _),jq (by omega),λl hl=>Out.newList h rs c_ hl⟩
  |rf n =>
   obtain ⟨a,ha,rfl⟩:=wk
   refine ⟨λi m ys H=>m+i=lim+1/\ys.length=i/\∃ps st ρ,Rs X.K X.mg ρ H ps ys/\a_ X.K X.mg ρ H st/\Ext ar H0 ρ H/\ρ[n]?=some a/\Out X.K X.mg ρ H (cF fe env n m i ps st) (gV X.K X.mg Q) Er,⟨lim+1,rfl,rfl,[],dz,ar,rfl,s0,Ext.refl,ha,h0⟩,?_⟩
   rintro i m ys H ⟨hm,hy,ps,st,ρ,c_,rs,ex,ha,h⟩
   cases m with
   |zero=>exact h.elim
   |succ m =>
    obtain ⟨xs,hn,h⟩:=jb h
    obtain ⟨vs,hH,hR⟩:=rs.addr hn ha
    cases hx:xs[i]? with
    |none =>
     simp only [hx] at h
     have:vs.length<=i:=by rw [<-hR.len];exact gj.mp hx
     exact .inl ⟨⟨vs,ba.of hH,this⟩,jq (by omega),λl hl=>Out.newList h rs c_ hl⟩
    |some x =>
     simp only [hx] at h
     obtain ⟨v,hv,rv⟩:=hR.get hx
     refine .inr ⟨⟨vs,v,ba.of hH,hv⟩,jq (by omega),λv' H' y=>?_⟩
     obtain ⟨e1,y⟩:=y
     subst e1
     have e2:=y vs (ba.of hH)
     rw [hv] at e2
     cases e2
     exact ⟨some x::env,st,ρ,(re.ext (e0.trans ex)).cons rv,rs,gz h λao H3 y bb e3 s3 h3 v ry=>⟨m,wy m,by omega,by simp [hy],ps++[y],bb,ao,Rs.snoc ry (Rs.ext e3 ps c_),s3,ex.trans e3,e3.get ha,h3⟩⟩⟩
def ki {elt iter:Expr} {x:Str} {px:Pos} {scope:Scope} {src:zd->Mo Sq} {fe:Ai} {N:Ad} (hc:X.calm=true) (S:cq X.env.scope scope x) (eN:X.N=N) (cE:((".0" : Str)::x::N).Nodup)
  (hi:MI X Er (.Name x px) iter src) (he:∀cl C af ai fp,ME (oi X scope cl x C af ai fp (λ_ _=>False)) XN elt fe)
  (hs:∀v,foldedSetIterable iter X.env v=pure v:=by intro _;rfl):ME X Er (.ListComp elt [⟨.Name x px,iter,[],0⟩] scope pos) (yB src fe) :=
 Qx hc S Hid.refl (eN▸cE) hi he hs
end
section
variable {env:Env} {es:List Expr} {pos:Pos}
abbrev EM (e:Expr) (es:List Expr) (env:Env):Prop:=starEach (e::es) env=(false,eval e env)::starEach es env
def Qy {c j}:EM (.Constant c j pos) es env:=(rfl)
end
end Mi
namespace L2
open PySem PySem.Spec PyProof.Rows PySem.W
abbrev ZB (h:Heap) (z TI TO T:Addr) (f:Bool):Prop:=h.get? z=some { cls:=.type "zip", dict:=none,data:=.fields #[rawInt T,.bool f,.bool false,.ref TI,.ref TO],slots:=#[] }
structure ZS (z TI TO i1 i2 a b:Addr) (xs ys:Array Value) (k:Nat) (h:Heap):Prop where
 zi:(IsZip h z TI TO .none/\∃u v,IsPair h TO u v)\/∃T f o,ZB h z TI TO T f/\h.get? T=some o
 ti:IsPair h TI (.ref i1) (.ref i2)
 s1:v_ i1 a xs k h
 s2:v_ i2 b ys k h
section
variable {s:Shared} {z TI TO i1 i2 a b:Addr} {k:Nat} {xs ys:Array Value}
def ZS.type (st:ZS z TI TO i1 i2 a b xs ys k s.heap):s.TypeIs (.ref z) "zip" := by
 rcases st.zi with ⟨hz,_⟩|⟨T,f,o,hz,_⟩<;>exact ⟨_,hz,rfl⟩
end
structure Ap (d z TI TO i1 i2 a b:Addr):Prop where
 z:d≠z
 TI:d≠TI
 TO:d≠TO
 i1:d≠i1
 i2:d≠i2
 a:d≠a
 b:d≠b
section
variable {z TI TO i1 i2 a b d:Addr} {xs ys:Array Value}
def ZS.keep {k:Nat}{h h':Heap}(st:ZS z TI TO i1 i2 a b xs ys k h) (P:Ap d z TI TO i1 i2 a b) (hs:Heap.SameBut d h h') (hd:∃o,h'.get? d=some o):ZS z TI TO i1 i2 a b xs ys k h':=by
 have up:∀c o,c≠d->h.get? c=some o->h'.get? c=some o:=λc o n e=>hs.extBut _ _ n e
 obtain ⟨⟨⟨o1,g1,r1⟩,⟨p1,e1,t1⟩⟩,⟨⟨o2,g2,r2⟩,⟨p2,e2,t2⟩⟩⟩:=And.intro st.s1 st.s2
 refine ⟨?_,up _ _ P.TI.symm st.ti,⟨⟨o1,up _ _ P.i1.symm g1,r1⟩,⟨p1,up _ _ P.a.symm e1,t1⟩⟩,⟨⟨o2,up _ _ P.i2.symm g2,r2⟩,⟨p2,up _ _ P.b.symm e2,t2⟩⟩⟩
 rcases st.zi with ⟨hz,u,v,eQ⟩|⟨T,f,o,hz,hT⟩
 ·exact .inl ⟨up _ _ P.z.symm hz,u,v,up _ _ P.TO.symm eQ⟩
 ·by_cases e:T=d
  ·obtain ⟨o',ho'⟩:=hd
   exact .inr ⟨T,f,o',up _ _ P.z.symm hz,by rw [e];exact ho'⟩
  ·exact .inr ⟨T,f,o,up _ _ P.z.symm hz,up _ _ e hT⟩
end
end L2
namespace Mi
open PySem L2 PySem.W PySem.Spec
section
variable {X:Cx} {K:Frag} {mg:Ab} {Er:XK} {e o:Expr} {pos p apos:Pos} {fo fa:Ai}
def pA:PV->Mo PV
 | .ref n,st=>yl st n λxs=>match xs[xs.length-1]? with
  |some y=>.ok y (st.set n (.lst xs.dropLast))
  |none=>.stuck
 |_,_=>.stuck
theorem Rs.dropLast:∀{ρ:Ae}{H:Hp}{xs:An}{vs:List V},Rs K mg ρ H xs vs->Rs K mg ρ H xs.dropLast vs.dropLast:=by
 intro ρ H xs vs h
 rw [List.dropLast_eq_take,List.dropLast_eq_take,h.len]
 exact h.take _
def zsO {aK:Pos} (ho:ME X Er o fo) (bf:attributeBase o "pop" X.env (eval o X.env)=eval o X.env:=by rfl) (bw:(apos.endLine==aK.line)=true:=by rfl):ME X Er (.Call (.Attribute o "pop" apos) [] [] aK) (yx pA fo) :=
 PE.weak (MK PySem.F.plainAttrs_list PySem.F.slot_list_pop PySem.F.type_list_pop MQ ho bf bw) λU H Q ⟨env,st,ρ,re,rs,h⟩=>⟨env,st,ρ,re,rs,h.then λae H1 x st1 e1 s1 h1 v rv=>by
  cases x with
  |ref n =>
   obtain ⟨xs,hn,h1⟩:=jb h1
   obtain ⟨a,vs,rfl,ha,k1,k2⟩:=R.refL s1 rv hn
   cases hy:xs[xs.length-1]? with
   |none=>simp only [hy] at h1;exact h1.elim
   |some y =>
    simp only [hy] at h1
    obtain ⟨w,hw,rw'⟩:=k2.get hy
    have ew:Ext ae H1 ae (upd H1 a (.lst vs.dropLast)):=Ext.write k1 rfl
    refine ⟨.inl ⟨rfl,vs,ba.of k1⟩,a,vs,w,rfl,rfl,k1,by rw [<-k2.len];exact hw,h1 ae _ ew (s1.write ha ew ⟨_,yv,Rs.ext ew _ k2.dropLast⟩) _ (R.ext ew y rw')⟩
  |_=>exact h1.elim⟩
def sF (f:Str) (ins:Str->Bool) (o:PV) (st:aa) (k:Nat->Str->Int->Res Fl):Res Fl:=match o with
 | .ref n=>yJ st n λc ks xs=>if ins c=true then match (ks.zip xs).lookup f with
  |some (.int i)=>k n c i
  |_=>.stuck
  else .stuck
 |_=>.stuck
def sG (f:Str) (n:Nat) (c:Str) (i:Int) (y:PV) (env:zd) (st:aa):Res Fl:=match y with
 |.int j=>yJ st n λc' ks xs=>if c'=c/\ks.length<1000 then .ok (.nx env) (st.set n (.ins c (putK f (.int (i+j)) ks xs).1 (putK f (.int (i+j)) ks xs).2)) else .stuck
 |_=>.stuck
def gE (f:Str) (ins:Str->Bool) (fo fv:Ai):Aj:=λenv st=>(fo env st).bind λo st1=>sF f ins o st1 λn c i=>(fv env st1).bind λy av=>sG f n c i y env av
def zd9 {f:Str}{ins exc:Str->Bool}{lY:Pos}(F:FldF X.K X.mg f ins exc) (ho:ME X Er o fo) (he:ME X Er e fa):MS X Er (.AugAssign (.Attribute o f lY) .Add e pos) (gE f ins fo fa) :=
 PS.weak (LL ho he LR) λD U H ⟨env,st,ρ,re,rs,h⟩=>⟨env,st,ρ,re,rs,h.then λae H1 x st1 e1 s1 h1 v rv=>by
  cases x with
  |ref n =>
   obtain ⟨c,ks,xs,hn,h1⟩:=rY h1
   obtain ⟨hc,h1⟩:=Out.ifp h1
   cases hl:(ks.zip xs).lookup f with
   |none=>simp only [hl] at h1;exact h1.elim
   |some y =>
    cases y with
    |int i =>
     simp only [hl] at h1
     obtain ⟨p,rfl,hp⟩:=rv
     obtain ⟨C',dx,vs,hC',hH,hR,hlen⟩:=s1.addr hn hp
     obtain ⟨C,hC,cl,na⟩:=F.i c hc
     rw [hC] at hC'
     cases hC'
     obtain ⟨v,hv,rv⟩:=ke hR hl
     cases rv
     refine ⟨p,_,dx,_,_,rfl,hH,cl,na,hv,env,st1,ae,re.ext e1,s1,h1.then λam H2 y av e2 s2 h2 w rw=>?_⟩
     cases y with
     |int j =>
      obtain ⟨c2,pB,xs2,cX,h2⟩:=rY h2
      obtain ⟨⟨iO,X4⟩,h2⟩:=Out.ifp h2
      subst iO
      cases rw
      have eJ:=e2.get hp
      obtain ⟨C2,xX,eK,hC2,gu,Qz,hl2⟩:=s2.addr cX eJ
      rw [hC] at hC2
      cases hC2
      obtain ⟨ws,k1,k2,k3⟩:=xH (f:=f) (x:=PV.int (i+j)) (v:=V.int (i+j)) (K:=X.K) (mg:=X.mg) (ρ:=am) (H:=H2) rfl hl2 Qz
      refine ⟨i,j,rfl,rfl,xX,_,gu,?_,?_⟩
      ·rw [List.length_zip,<-hl2];omega
      ·have ew:Ext am H2 am (upd H2 p (.ins C' xX (bX f (V.int (i+j)) (pB.zip eK)))):=Ext.write gu rfl
       exact h2 am _ ew (s2.write eJ ew ⟨_,xX,ws,hC,by rw [yv,k1],Rs.ext ew _ k2,k3⟩) U (((re.ext e1).ext e2).ext ew)
     |_=>exact h2.elim
    |_=>simp only [hl] at h1;exact h1.elim
  |_=>exact h1.elim⟩
def strsOf:List PV->Option (Ad)
 |[]=>some []
 |.str z::r=>(strsOf r).map (z::·)
 |_::_=>none
theorem xY {ρ:Ae}{H:Hp}:∀{xs:An}{zs:Ad}{vs:List V},strsOf xs=some zs->Rs K mg ρ H xs vs->vs=(zs.map Sum.inr:List Key).map kV
 |[],zs,vs,e,h=>by cases e;cases h;rfl
 |.str z::r,zs,vs,e,h=>by
  simp only [strsOf,Option.map_eq_some_iff] at e
  obtain ⟨zr,e1,rfl⟩:=e
  obtain ⟨v,r',rfl,h1,h2⟩:=h
  cases h1
  rw [xY e1 h2]
  rfl
 |.non::_,_,_,e,_=>by cases e
 |.bl _::_,_,_,e,_=>by cases e
 |.int _::_,_,_,e,_=>by cases e
 |.ty _::_,_,_,e,_=>by cases e
 |.tup _::_,_,_,e,_=>by cases e
 |.frl _::_,_,_,e,_=>by cases e
 |.ref _::_,_,_,e,_=>by cases e
 |.fn _::_,_,_,e,_=>by cases e
 |.kd _ _::_,_,_,e,_=>by cases e
 |.exo _ _ _::_,_,_,e,_=>by cases e
end
end Mi
namespace L2
open PySem PySem.Spec PyProof.Rows PySem.W
def EN (K:Frag) (a:Addr):It :=
 ⟨λi H=>∃xs x,ba K H a xs/\xs[i]?=some x,
  λi H v H'=>∃T x,H T=none/\v=.ref T/\H'=upd H T (.tup [.int i,x])/\∀xs,ba K H a xs->xs[i]?=some x,
  λi H=>∃xs,ba K H a xs/\xs.length<=i⟩
def QA (e it a:Addr) (k:Nat) (h:Heap):Prop:=(∃old,IsEnum h e it k old)/\h.IsListIter it a k
def QB {X:Cx}{pins:Ac}{U:St}{H:Hp}{s:Shared}{a c:Addr}{xs:List V}(I:Inv X pins U H s) (hf:cO X pins H c) (hq:ba X.K H a xs):a≠c:=by
 rintro rfl
 rcases hq with q|⟨o,its,n,hl,_⟩
 ·rcases q with q|⟨ob,q⟩<;>(rw [hf.1] at q;cases q)
 ·have e:=I.ok.mod.kin _ _ hl
  rcases hf.2.2.2.1 with z|z
  ·exact I.ok.noex _ _ e z
  ·exact absurd (y9 (yc (I.ok.bs _ _ e).1) z) (Nat.lt_irrefl _)
def QC {P:Program}{w:World}{K:Frag}{elts:List Expr}{kt:Nat}{pos:Pos}{e it a:Addr}(ne:e≠it):Turn P w K (.Tuple elts kt pos) (EN K a) [e,it] e (QA e it a) where
 mem:=by simp
 obj:=λi h st c hc=>by
  obtain ⟨⟨old,he⟩,⟨o1,e1,_,d1⟩⟩:=st
  simp only [yE,List.not_mem_nil,or_false] at hc
  rcases hc with q|q<;>rw [q]
  ·exact ⟨_,he,λv z=>by cases z⟩
  ·exact ⟨_,e1,λv z=>by rw [d1] at z;cases z⟩
 keep:=λi h h' st k=>by
  obtain ⟨⟨old,he⟩,⟨o1,e1,r1⟩⟩:=st
  exact ⟨⟨old,k e (by simp) _ he⟩,⟨o1,k it (by simp) _ e1,r1⟩⟩
 item:=by
  intro X hP hw hK hc i pins s U H E I hf st hg
  subst hP hw hK
  obtain ⟨xs,x,hq,hx⟩:=hg
  obtain ⟨⟨old,he⟩,hit⟩:=st
  obtain ⟨its,rv,p,hz⟩:=I.list hq
  obtain ⟨u,hu,ru⟩:=rv.get hx
  have n1:∀c∈[e,it],a≠c:=λc h=>QB I (hf c h) hq
  refine wpAny_pyNext_enum_item he hit p.isList (x:=u) (by simpa using hu) ne λh1 eo EO pT hsz kk=>⟨_,rfl,?_⟩
  refine wpAny_letOwnedTupleGo_enum (s:={ s with heap:=h1,toks:=s.toks+1 }) eo λh2 e2 sb=>?_
  have fr:H s.heap.objs.size=none:=I.hok.fresh (z0 _)
  have up:∀c o,c≠e->h1.get? c=some o->h2.get? c=some o:=λc o n q=>sb.extBut _ _ n q
  have nz:s.heap.objs.size≠e:=Nat.ne_of_gt (yc he)
  have k2:∀c o,c∉[e,it]->s.heap.get? c=some o->h2.get? c=some o:=λc o nc q=>up c o (λz=>nc (by simp [z])) (kk c o (λz=>nc (by simp [z])) (λz=>nc (by simp [z])) q)
  refine ⟨.ref s.heap.objs.size,upd H s.heap.objs.size (.tup [.int i,x]),?_,rfl,⟨s.heap.objs.size,x,fr,rfl,rfl,λys hy=>by rw [I.list_inj hy hq];exact hx⟩,?_,λc cA=>?_⟩
  ·exact Inv.turnN (s:=s) (h':=h2) (t':=s.toks+1) I hf k2 (z0 _) ⟨show 2<=sizeLine by decide,[.int i s.toks,u],.cons ⟨_,rfl⟩ (.cons ru .nil),_,up _ _ nz pT,rfl,_,rfl⟩
  ·refine ⟨⟨u,by rw [show ((i+1:Nat):Int)=(i:Int)+1 from rfl];exact e2⟩,let ⟨o,q,r⟩:=EO;⟨o,up _ _ ne.symm q,r⟩⟩
  ·have lt:∃o,s.heap.get? c=some o:=by
    simp only [yE,List.not_mem_nil,or_false] at cA
    rcases cA with q|q<;>rw [q]
    ·exact ⟨_,he⟩
    ·exact let ⟨o,q,_⟩:=hit;⟨o,q⟩
   obtain ⟨o,q⟩:=lt
   have z:c≠s.heap.objs.size:=yw (yc q)
   rw [zO z]
   exact (hf c cA).1
 done:=by
  intro X hP hw hK hc i pins s U H E I hf st hg
  subst hP hw hK
  obtain ⟨xs,hq,hx⟩:=hg
  obtain ⟨⟨old,he⟩,hit⟩:=st
  obtain ⟨its,rv,p,hz⟩:=I.list hq
  have hl:=rv.length
  refine wpAny_pyNext_enum_end (I.ok.hd hc) he hit p.isList (by simp;omega) λh' eb=>⟨rfl,?_⟩
  exact Inv.turnL (ch:=[e,it]) (t':=s.toks) I hf λc o nc q=>eb c o (λz=>nc (by simp [z])) q
 self:=λ_ _ _ _ _ st h=>by
  obtain ⟨⟨old,he⟩,_⟩:=st
  exact wpAny_pyIter_enum he h
def QD:bootBuiltins "enumerate" = some (.type "enumerate"):=by decide +kernel
def QE (K:Frag) (ta:TA):TI:=λU H R=>ta U H λvs H1=>∃a,vs=[.ref a]/\(∃xs,ba K H1 a xs)/\R (EN K a) H1
def QF {X:Cx} {elts:List Expr} {kt:Nat} {tp:Pos} {x:Expr} {ta:TA} {p pos:Pos} (hg:Gl X "enumerate") (hm:X.mg "enumerate" = none) (ha:PA X [x] ta) (hs:starEach [x] X.env=[(false,eval x X.env)]:=by rfl) :
  PI X (.Tuple elts kt tp) (.Call (.Name "enumerate" p) [x] [] pos) (QE X.K ta):=by
 intro pins s U H R I h
 refine Call_ (kH I hg hm QD (PyProof.Rows.callWith_type1 (aR (ha pos pins s U H _ I h) λus s1 ⟨vs,H1,I1,r1,q1⟩=>?_) hs rfl))
 obtain ⟨a,e,⟨xs,hq⟩,q⟩:=q1
 subst e
 obtain ⟨u,rfl,ru⟩:=r1.one
 obtain rfl:u=Value.ref a:=ru
 obtain ⟨its,_,p1,_⟩:=I1.list hq
 refine call_enumerate_list p1.isList λh' he hit hsz kk=>wpAny_pyIter_enum he ?_
 have ne:∀(n:Nat),n+1≠n:=λn z=>by omega
 refine ⟨_,[s1.heap.objs.size+1,s1.heap.objs.size],_,_,H1,rfl,I1.kept (t':=s1.toks) kk,QC (ne _),⟨⟨_,he⟩,hit⟩,λc hc=>?_,q⟩
 have le:s1.heap.objs.size<=c:=by
  simp only [yE,List.not_mem_nil,or_false] at hc
  rcases hc with q|q<;>rw [q]<;>first|exact z0 _|exact Nat.le_add_right _ _
 exact I1.fpOk le (I1.hok.fresh le)
end L2
namespace Mi
open PySem L2 PySem.W PySem.Spec
section
variable {X:Cx} {Er:XK} {pos:Pos} {dD:List Stmt} {gb:Aj} {fs:Ah}
def fA (g:PV->zd->Option zd) (body:Aj) (n:Nat):Nat->Nat->Aj
 |0,_,_,_=>.stuck
 | m+1,i,env,st=>yl st n λxs=>match xs[i]? with
  |none=>.ok (.nx env) st
  | some x=>match g (.tup [.int i,x]) env with
   |none=>.stuck
   | some cj=>(body cj st).bind λfl av=>match fl with
    |.nx e=>fA g body n m (i+1) e av
    |.ct e=>fA g body n m (i+1) e av
    |.bk e=>.ok (.nx e) av
    |.rt v=>.ok (.rt v) av
def gF:List PV->Mo Nat
 |[.ref n],st=>yl st n λ_=>.ok n st
 |_,_=>.stuck
def xZ {α:Type}{K:Frag}{mg:Ab}{ρ:Ae}{H:Hp}{vs:An}{st:aa}{f:Nat->Mo α}{good:List Addr->Hp->α->aa->Prop}(h:Out K mg ρ H ((gF vs st).bind f) good Er):∃n xs,vs=[.ref n]/\st[n]?=some (.lst xs)/\Out K mg ρ H (f n st) good Er:=by
 unfold gF at h
 split at h
 ·rename_i n
  unfold yl at h
  cases hn:st[n]? with
  |none=>simp only [hn] at h;exact h.elim
  |some so =>
   cases so with
   |lst xs=>simp only [hn] at h;exact ⟨n,xs,rfl,hn,h⟩
   |_=>simp only [hn] at h;exact h.elim
 ·exact h.elim
def sH (fs:Ah) (g:PV->zd->Option zd) (body:Aj):Aj:=λenv st=>(fs env st).bind λvs st1=>(gF vs st1).bind λn st1=>fA g body n (lim+1) 0 env st1
def QG {elts:List Expr} {kt:Nat} {tp p ip:Pos} {x:Expr} {gt:PV->zd->Option zd} (hp:PassesOwn (model X.prog X.w) X.A X.env X.xe) (hc:X.calm=true) (hm:X.mg "enumerate" = none) (ha:MA X Er [x] fs) (hg:MG X Er (.Tuple elts kt tp) gt) (hb:dN X Er dD gb)
  (QH:Gl X "enumerate" := by rfl) (b8:starEach [x] X.env=[(false,eval x X.env)]:=by rfl) (hs:∀v,foldedSetIterable (.Call (.Name "enumerate" p) [x] [] ip) X.env v=pure v:=by intro _;rfl) :
  MS X Er (.For (.Tuple elts kt tp) (.Call (.Name "enumerate" p) [x] [] ip) dD [] pos) (sH fs gt gb) :=
 PS.weak (Cy hp hc (QF QH hm ha b8) hg hb hs) λD U H ⟨env,st,ρ,re,rs,h⟩=>⟨env,st,ρ,re,rs,h.then λar H0 vs dz e0 s0 h0 us ru=>by
  obtain ⟨n,oR,rfl,QI,h0⟩:=xZ h0
  obtain ⟨v,rfl,rv⟩:=ru.one
  obtain ⟨a,rfl,ha⟩:=rv
  obtain ⟨X5,QJ,X6⟩:=s0.addr QI ha
  refine ⟨a,rfl,⟨_,ba.of QJ⟩,?_⟩
  refine ⟨λi m U H=>∃env st ρ,bp X.K X.mg ρ H env U/\a_ X.K X.mg ρ H st/\ρ[n]?=some a/\Out X.K X.mg ρ H (fA gt gb n m i env st) (gS X.K X.mg D) Er,⟨lim+1,env,dz,ar,re.ext e0,s0,ha,h0⟩,?_⟩
  rintro i m U H ⟨env,st,ρ,re,rs,ha,h⟩
  cases m with
  |zero=>exact h.elim
  |succ m =>
   obtain ⟨xs,hn,h⟩:=jb h
   obtain ⟨vs,hH,hR⟩:=rs.addr hn ha
   cases hx:xs[i]? with
   |none =>
    simp only [hx] at h
    have:vs.length<=i:=by rw [<-hR.len];exact gj.mp hx
    exact .inl ⟨⟨vs,ba.of hH,this⟩,Out.now (x:=Fl.nx env) h rs U re⟩
   |some x =>
    simp only [hx] at h
    obtain ⟨v,hv,rv⟩:=hR.get hx
    refine .inr ⟨⟨vs,v,ba.of hH,hv⟩,_,λah H' p'=>⟨m,wy m,p'⟩,λv' H' y=>?_⟩
    obtain ⟨T,x',hT,rfl,rfl,y⟩:=y
    have e2:=y vs (ba.of hH)
    rw [hv] at e2
    cases e2
    have ex:Ext ρ H ρ (upd H T (.tup [.int i,v])):=Ext.new hT
    cases hgx:gt (.tup [.int i,x]) env with
    |none=>simp only [hgx] at h;exact h.elim
    |some cj =>
     simp only [hgx] at h
     refine ⟨.tup [.int i,x],env,cj,ρ,⟨T,[.int i,v],rfl,.inl (.inl yv),_,_,rfl,rfl,_,_,rfl,R.ext ex x rv,rfl⟩,re.ext ex,hgx,λau r1=>⟨cj,st,ρ,r1,rs.new hT,Out.then (Out.ext h ex) λao H3 fl bb e3 s3 h3=>?_⟩⟩
     cases fl with
     |nx e=>exact λaA r4=>⟨e,bb,ao,r4,s3,e3.get ha,h3⟩
     |ct e=>exact λaA r4=>⟨e,bb,ao,r4,s3,e3.get ha,h3⟩
     |bk e=>exact Out.fl (D:=D) (fl:=.nx e) (E:=Er) h3 s3
     |rt v=>exact Out.fl (D:=D) (fl:=.rt v) (E:=Er) h3 s3⟩
end
end Mi
namespace L2
open PySem PySem.Spec PyProof.Rows PySem.W
theorem ER:∀{is:List Int}{its:Af},Vals (is.map V.int) its->(∀v∈its,∃a t,v=Value.int a t)/\numsOf its=is
 |[],_,.nil=>⟨λ_ h=>absurd h (by simp),rfl⟩
 |i::is,_,.cons r rs=>by
  obtain ⟨t,rfl⟩:=r
  obtain ⟨h1,h2⟩:=ER rs
  refine ⟨λv hv=>?_,by show i::numsOf _=_;rw [h2]⟩
  rcases yE.mp hv with q|q
  ·exact ⟨i,t,q⟩
  ·exact h1 v q
def QK {X:Cx} (hc:X.calm=true):bt X (.builtin "sum") (λxs H Q=>∃(a:Addr) (is:List Int),xs=[V.ref a]/\ba X.K H a (is.map V.int)/\Q (.int is.sum) H):=by
 intro pins s U H xs us Q I r h
 obtain ⟨a,is,rfl,hq,q⟩:=h
 obtain ⟨u,rfl,ru⟩:=r.one
 obtain rfl:u=Value.ref a:=ru
 obtain ⟨its,rv,p,hz⟩:=I.list hq
 obtain ⟨h1,h2⟩:=ER rv
 obtain ⟨ys,e⟩:=AllInts.items (vs:=its.toArray) (λv hv=>h1 v (by simpa using hv))
 have hl:=p.isList
 rw [e] at hl
 refine sum_intListG (I.ok.hd hc) hl λh' tk t' hk=>?_
 have es:preSum (numAt ys) ys.size=is.sum:=by
  rw [preSum_eq,List.take_of_length_le (by simp),<-nums_intItems,<-e]
  show (numsOf its).sum=_
  rw [h2]
 rw [es]
 exact ⟨.int is.sum,H,I.kept (t':=tk) hk,⟨_,rfl⟩,q⟩
end L2
namespace Mi
open PySem L2 PySem.W PySem.Spec
section
variable {X:Cx} {K:Frag} {mg:Ab} {Er:XK} {e:Expr} {es:List Expr}
def dO:List PV->Option (List Int)
 |[]=>some []
 |.int i::r=>(dO r).map (i::·)
 |_::_=>none
theorem ES {ρ:Ae}{H:Hp}:∀{xs:An}{is:List Int}{vs:List V},dO xs=some is->Rs K mg ρ H xs vs->vs=is.map V.int
 |[],is,vs,e,h=>by cases e;cases h;rfl
 |.int i::r,is,vs,e,h=>by
  simp only [dO,Option.map_eq_some_iff] at e
  obtain ⟨ir,e1,rfl⟩:=e
  obtain ⟨v,r',rfl,h1,h2⟩:=h
  cases h1
  rw [ES e1 h2]
  rfl
 |.non::_,_,_,e,_=>by cases e
 |.bl _::_,_,_,e,_=>by cases e
 |.str _::_,_,_,e,_=>by cases e
 |.ty _::_,_,_,e,_=>by cases e
 |.tup _::_,_,_,e,_=>by cases e
 |.frl _::_,_,_,e,_=>by cases e
 |.ref _::_,_,_,e,_=>by cases e
 |.fn _::_,_,_,e,_=>by cases e
 |.kd _ _::_,_,_,e,_=>by cases e
 |.exo _ _ _::_,_,_,e,_=>by cases e
def gG:Al:=λvs st=>(gF vs st).bind λn st=>yl st n λxs=>match dO xs with
 |some is=>.ok (.int is.sum) st
 |none=>.stuck
def QL (hc:X.calm=true):bM X (.builtin "sum") gG:=⟨_,QK hc,fun ρ H st xs vs Q E s r h=>by
 obtain ⟨n,ys,rfl,hn,h⟩:=xZ h
 obtain ⟨b_,fC,h⟩:=jb h
 obtain ⟨v,rfl,rv⟩:=r.one
 obtain ⟨a,rfl,ha⟩:=rv
 obtain ⟨ws,hH,hR⟩:=s.addr fC ha
 cases hi:dO b_ with
 |none=>simp only [hi] at h;exact h.elim
 |some is =>
  simp only [hi] at h
  have e:=ES hi hR
  subst e
  exact ⟨a,is,rfl,ba.of hH,Out.now (x:=PV.int is.sum) h s _ rfl⟩⟩
def QM:bootBuiltins "sum" = some (.builtin "sum"):=by decide +kernel
def mS:Al
 |[.int i],st=>if i.natAbs.log2<1920 then .ok (.str (toString i)) st else .stuck
 |_,_=>.stuck
def ET:bM X (.type "str") mS:=⟨_,Lz,fun ρ H st xs vs Q E s r h=>by
 unfold mS at h
 split at h
 ·rename_i i
  obtain ⟨c,h⟩:=Out.ifp h
  obtain ⟨v,rfl,rfl⟩:=r.one
  exact ⟨i,rfl,c,Out.now (x:=PV.str (toString i)) h s _ rfl⟩
 ·exact h.elim⟩
theorem Rs.reverse {ρ:Ae}{H:Hp}:∀{xs:An}{vs:List V},Rs K mg ρ H xs vs->Rs K mg ρ H xs.reverse vs.reverse
 |[],_,h=>by cases h;rfl
 |x::xs,_,h=>by
  obtain ⟨v,r,rfl,h1,h2⟩:=h
  rw [List.reverse_cons,List.reverse_cons]
  exact (Rs.reverse h2).append ⟨v,[],rfl,h1,rfl⟩
def pD:List Expr->Option (Ad)
 |[]=>some []
 |.Constant (.str z) _ _::r=>(pD r).map (z::·)
 |_::_=>none
def mT (zs:Ad):Ah:=λ_ st=>.ok (zs.map PV.str) st
def zjt:∀{es:List Expr}{zs:Ad},pD es=some zs->MA X Er es (mT zs):=by
 intro es
 induction es with
 |nil=>intro zs h;cases h;exact zo
 |cons e r ih =>
  intro zs h
  cases e with
  |Constant c j p =>
   cases c with
   |str z =>
    simp only [pD,Option.map_eq_some_iff] at h
    obtain ⟨zr,h1,rfl⟩:=h
    exact D7 zW (ih h1) Qy
   |_=>cases h
  |_=>cases h
end
section
variable {env:zd} {st:aa} {fe:Ai} {fs:Ah} {src:zd->Mo Sq}
@[simp] def X7 (xs:An) (i:Int):zJ (.tup xs) (.int i) st=cw (bY xs i) st:=(rfl)
@[simp] def X8 (xs:An) (i:Int):zJ (.frl xs) (.int i) st=cw (bY xs i) st:=(rfl)
@[simp] def lC (n:Nat) (i:Int):zJ (.ref n) (.int i) st=yl st n λxs=>cw (bY xs i) st:=(rfl)
@[simp] def EU (z:Str) (i:Int):zJ (.str z) (.int i) st=if z.length<=lim then cw ((bY z.cps.toList i).map λc=>.str ⟨#[c]⟩) st else .stuck:=(rfl)
@[simp] def iq:yB src fe env st=(src env st).bind λq st1=>bI fe env q st1:=(rfl)
@[simp] def x5 (xs:An):bI fe env (.im xs) st=if xs.length<=lim then bU fe env xs [] st else .stuck:=(rfl)
@[simp] def EV:bJ fs env st=(fs env st).bind lu:=(rfl)
@[simp] def QN (j:Int):lu [.int j] st=if cR j=true then .ok (.im (nums 0 j.toNat)) st else .stuck:=(rfl)
@[simp] def X9 (n:Nat):gF [.ref n] st=yl st n λ_=>.ok n st:=(rfl)
@[simp] def EW (zs:Ad):mT zs env st=.ok (zs.map PV.str) st:=(rfl)
@[simp] def QO (i:Int):mS [.int i] st=if i.natAbs.log2<1920 then .ok (.str (toString i)) st else .stuck:=(rfl)
@[simp] def X_ (vs:An):gG vs st=(gF vs st).bind λn st=>yl st n λxs=>match dO xs with|some is=>.ok (.int is.sum) st|none=>.stuck:=(rfl)
@[simp] def QP (n:Nat) (l u:Option Int):wU (.ref n) l u st=yl st n λxs=>.ok (.ref st.length) (st++[.lst (bS xs l u)]):=(rfl)
@[simp] def x6 (n:Nat):lp [.ref n] st=yl st n λxs=>.ok (.tup xs) st:=(rfl)
@[simp] def x8 (n:Nat) (y:PV):jW (.ref n) y st=yl st n λxs=>if xs.length<lim then .ok .non (st.set n (.lst (xs++[y]))) else .stuck:=(rfl)
end
def Pre (a b:aa):Prop:=∃d,b=a++d
def Pre.refl (st:aa):Pre st st:=⟨[],by simp⟩
def Pre.trans {a b c:aa}(h:Pre a b) (h':Pre b c):Pre a c:=by obtain ⟨d,rfl⟩:=h;obtain ⟨d',rfl⟩:=h';exact ⟨d++d',by simp⟩
def Pre.of (st d:aa):Pre st (st++d):=⟨d,rfl⟩
def Pre.get {a b:aa}(h:Pre a b) {n:Nat}{so:SO}(e:a[n]?=some so):b[n]?=some so:=by
 obtain ⟨d,rfl⟩:=h
 rw [iK (yu.mp e).1]
 exact e
def yi (st:aa) (so:SO):(st++[so])[st.length]?=some so:=by simp
def QQ {fe:Ai}{env:zd}{f:PV->PV}{st:aa}{n:Nat}{xs:An}(hn:st[n]?=some (.lst xs)) (h:∀x∈xs,fe (some x::env) st=.ok (f x) st) :
  ∀(k i:Nat) (m:Nat) (ys:An),xs.length-i=k->i<=xs.length->k<m->cF fe env n m i ys st=.ok (.ref st.length) (st++[.lst (ys++(xs.drop i).map f)]):=by
 intro k
 induction k with
 |zero =>
  intro i m ys hk hi hm
  obtain ⟨m',rfl⟩:∃m',m=m'+1:=⟨m-1,by omega⟩
  have eI:i=xs.length:=by omega
  subst eI
  simp [cF,yl,hn]
 |succ k ih =>
  intro i m ys hk hi hm
  obtain ⟨m',rfl⟩:∃m',m=m'+1:=⟨m-1,by omega⟩
  have bD:i<xs.length:=by omega
  have e:xs[i]?=some xs[i]:=by simp [bD]
  simp only [cF,yl,hn,e,h xs[i] (qU bD),wX,zC]
  rw [ih (i+1) m' _ (by omega) (by omega) (by omega),jy bD]
  rw [ye,qX,List.singleton_append]
section
variable {X:Cx} {Er:XK}
inductive pE (X:Cx) (Er:XK):List (Option Expr)->List Expr->List Str->List (Ai)->Prop
 |nil:pE X Er [] [] [] []
 |cons {z:Str} {j} {p:Pos} {v:Expr} {f:Ai} {ks:List (Option Expr)} {vs:List Expr} {zs:Ad} {fs:List (Ai)} (hv:ME X Er v f) (hr:pE X Er ks vs zs fs):pE X Er (some (.Constant (.str z) j p)::ks) (v::vs) (z::zs) (f::fs)
def pE.len {ks:List (Option Expr)}{vs:List Expr}{zs:Ad}{fs:List (Ai)}(h:pE X Er ks vs zs fs):ks.length=vs.length/\zs.length=fs.length/\ks.length=zs.length/\ks.all (·.isSome)=true:=by
 induction h with
 |nil=>exact ⟨rfl,rfl,rfl,rfl⟩
 |cons hv hr ih=>exact ⟨by simp [ih.1],by simp [ih.2.1],by simp [ih.2.2.1],by simpa using ih.2.2.2⟩
end
section
variable {X:Cx}
def lD:Al
 |[.int i,.int j],st=>.ok (.int (if j<i then j else i)) st
 |_,_=>.stuck
def pF:Al
 |[.int i,.int j],st=>.ok (.int (if j>i then j else i)) st
 |_,_=>.stuck
def QR (hc:X.calm=true):bM X (.builtin "min") lD:=⟨_,Lx hc,fun ρ H st xs vs Q E s r h=>by
 unfold lD at h
 split at h
 ·rename_i aP i j
  obtain ⟨v,w,rfl,r1,r2⟩:=r.two
  cases r1;cases r2
  exact ⟨i,j,rfl,Out.now (x:=PV.int (if j<i then j else i)) h s _ rfl⟩
 ·exact h.elim⟩
def zjx (hc:X.calm=true):bM X (.builtin "max") pF:=⟨_,Lw hc,fun ρ H st xs vs Q E s r h=>by
 unfold pF at h
 split at h
 ·rename_i aP i j
  obtain ⟨v,w,rfl,r1,r2⟩:=r.two
  cases r1;cases r2
  exact ⟨i,j,rfl,Out.now (x:=PV.int (if j>i then j else i)) h s _ rfl⟩
 ·exact h.elim⟩
def QS:bootBuiltins "min" = some (.builtin "min"):=by decide +kernel
def QT:bootBuiltins "max" = some (.builtin "max"):=by decide +kernel
@[simp] def Ya (i j:Int) (st:aa):pF [.int i,.int j] st=.ok (.int (if j>i then j else i)) st:=(rfl)
end
section
variable {X:Cx}
def QU:bq X (compareOp .IsNot) (λx y H Q=>∃a b,x=.bl a/\y=.bl b/\Q (.bl (!(a==b))) H):=by
 intro pins s U H x y v u Q I rx ry h
 obtain ⟨a,b,rfl,rfl,q⟩:=h
 cases rx;cases ry
 exact PyProof.Rows.isnot_bool ⟨.bl (!(a==b)),H,I,rfl,q⟩
def pG:Am
 |.bl a,.bl b,st=>.ok (.bl (!(a==b))) st
 |x,y,st=>Ec x y st
def zjy:bL X .IsNot pG:=by
 obtain ⟨r,h1,h2⟩:=OV (X:=X)
 refine ⟨λx y H Q=>r x y H Q\/_,h1.or QU,fun ρ H st x y v w Q E s rx ry h=>?_⟩
 unfold pG at h
 split at h
 ·rename_i a b
  cases rx;cases ry
  exact .inr ⟨_,_,rfl,rfl,Out.now (x:=PV.bl (!(a==b))) h s _ rfl⟩
 ·exact .inl (h2 ρ H st _ _ v w Q E s rx ry h)
end
def dZ (f:PV->PV->Option Bool):List PV->List PV->Option Bool
 |[],[]=>some true
 | x::xs,y::ys=>match f x y,dZ f xs ys with
  |some a,some b=>some (a&&b)
  |_,_=>none
 |_,_=>some false
def cf (f:PV->PV->Option Bool) (cg:Ad) (b_:An):List Str->List PV->Option Bool
 | k::ks,x::xs=>match (cg.zip b_).lookup k with
  |none=>some false
  | some y=>match f x y,cf f cg b_ ks xs with
   |some a,some b=>some (a&&b)
   |_,_=>none
 |_,_=>some true
theorem EX {f:PV->PV->Option Bool}:∀{xs ys:An}{b:Bool},dZ f xs ys=some b->∃e:Nat->Bool,(∀j x y,xs[j]?=some x->ys[j]?=some y->f x y=some (e j))/\((List.range (min xs.length ys.length)).all e&&xs.length==ys.length)=b
 |[],[],b,h=>by cases h;exact ⟨λ_=>true,λj x y h=>by simp at h,by simp⟩
 |[],y::ys,b,h=>by cases h;exact ⟨λ_=>true,λj x y h=>by simp at h,by simp⟩
 |x::xs,[],b,h=>by cases h;exact ⟨λ_=>true,λj x y _ h=>by simp at h,by simp⟩
 |x::xs,y::ys,b,h=>by
  simp only [dZ] at h
  cases hf:f x y with
  |none=>rw [hf] at h;cases h
  |some a =>
   cases hr:dZ f xs ys with
   |none=>rw [hf,hr] at h;cases h
   |some c =>
    rw [hf,hr] at h
    cases h
    obtain ⟨e,h1,h2⟩:=EX hr
    refine ⟨λj=>match j with|0=>a|j+1=>e j,λj u v hu hv=>?_,?_⟩
    ·cases j with
     |zero=>simp at hu hv;subst hu;subst hv;exact hf
     |succ j=>simp at hu hv;exact h1 j u v hu hv
    ·have e1:min (x::xs).length (y::ys).length=min xs.length ys.length+1:=by simp only [yF];omega
     have e2:((x::xs).length==(y::ys).length)=(xs.length==ys.length):=by
      rw [Bool.eq_iff_iff];simp
     rw [e1,e2,List.range_succ_eq_map,List.all_cons,List.all_map,<-h2,Bool.and_assoc]
     rfl
section
variable {K:Frag} {mg:Ab} {ρ:Ae} {H:Hp}
def QV {ρ:Ae}(nd:ρ.Nodup) {n m:Nat}{a:Addr}(h:ρ[n]?=some a) (h':ρ[m]?=some a):n=m:=by
 obtain ⟨h1,h2⟩:=yu.mp h
 obtain ⟨h3,h4⟩:=yu.mp h'
 have pw:=List.pairwise_iff_getElem.mp nd
 rcases Nat.lt_trichotomy n m with c|c|c
 ·exact absurd (h2.trans h4.symm) (pw n m h1 h3 c)
 ·exact c
 ·exact absurd (h4.trans h2.symm) (pw m n h3 h1 c)
theorem EY {f:PV->PV->Option Bool}(hf:∀x y v b,f x y=some b->R K mg ρ H x v->R K mg ρ H y v->b=true):∀{xs ys:An}{vs:List V}{b:Bool},dZ f xs ys=some b->Rs K mg ρ H xs vs->Rs K mg ρ H ys vs->b=true
 |[],[],vs,b,h,_,_=>by cases h;rfl
 |[],y::ys,vs,b,h,rx,ry=>by cases rx;obtain ⟨_,_,e,_⟩:=ry;cases e
 |x::xs,[],vs,b,h,rx,ry=>by cases ry;obtain ⟨_,_,e,_⟩:=rx;cases e
 |x::xs,y::ys,vs,b,h,rx,ry=>by
  obtain ⟨v,r,rfl,r1,r2⟩:=rx
  obtain ⟨v',r',e,r3,r4⟩:=ry
  cases e
  simp only [dZ] at h
  cases h1:f x y with
  |none=>rw [h1] at h;cases h
  |some a =>
   cases h2:dZ f xs ys with
   |none=>rw [h1,h2] at h;cases h
   |some c =>
    rw [h1,h2] at h
    cases h
    rw [hf x y v a h1 r1 r3,EY hf h2 r2 r4]
    rfl
theorem EZ {f:PV->PV->Option Bool}(hf:∀x v b,f x x=some b->R K mg ρ H x v->b=true) {x9:Ad}{oR:An}:∀{ks:Ad}{xs:An}{vs:List V}{b:Bool},(∀k x,(k,x)∈ks.zip xs->(x9.zip oR).lookup k=some x)->cf f x9 oR ks xs=some b->Rs K mg ρ H xs vs->b=true
 |[],xs,vs,b,_,h,_=>by cases xs<;>(cases h;rfl)
 |k::ks,[],vs,b,_,h,_=>by cases h;rfl
 |k::ks,x::xs,vs,b,hm,h,rx=>by
  obtain ⟨v,r,rfl,r1,r2⟩:=rx
  simp only [cf] at h
  rw [hm k x (by simp)] at h
  simp only at h
  cases h1:f x x with
  |none=>rw [h1] at h;cases h
  |some a =>
   cases h2:cf f x9 oR ks xs with
   |none=>rw [h1,h2] at h;cases h
   |some c =>
    rw [h1,h2] at h
    cases h
    rw [hf x v a h1 r1,EZ hf (λk' x' h'=>hm k' x' (by simp [h'])) h2 r2]
    rfl
theorem E1:∀{ks:Ad}{xs:An},ks.Nodup->∀k x,(k,x)∈ks.zip xs->(ks.zip xs).lookup k=some x
 |[],_,_,k,x,h=>by simp at h
 |_::_,[],_,k,x,h=>by simp at h
 |k0::ks,x0::xs,nd,k,x,h=>by
  rw [wb] at nd
  rw [List.zip_cons_cons] at h ⊢
  rcases yE.mp h with e|h'
  ·cases e;simp [jR]
  ·have hk:k∈ks:=(List.of_mem_zip h').1
   have ne:(k==k0)=false:=by
    simp only [beq_eq_false_iff_ne]
    intro e;subst e;exact nd.1 hk
   rw [jR,ne]
   exact E1 nd.2 k x h'
end
def dY (P:Program) (W:World) (A:Around) (s:Shared) (u u':Value) (b:Bool):Prop:=∀(E:Aa) (Q:Bool->Shared->Prop),Q b s->wpAny (model P W) A (eqBool u u') Q E s
def cG (P:Program) (W:World) (A:Around) (s:Shared) (u u':Value) (b:Bool):Prop:=∀(E Q:Aa),Q (.bool b) s->wpAny (model P W) A (richCompare .Eq u u') Q E s
section
variable {P:Program} {W:World} {A:Around} {s:Shared}
def dY.of_refs {l b:Addr}{k:Bool}(oB:l≠b) (h:cG P W A s (.ref l) (.ref b) k):dY P W A s (.ref l) (.ref b) k:=λE Q hq=>by
 unfold eqBool
 refine jZ (wpAny_ite_split (λdW=>absurd (by have:=eq_of_beq dW;injection this) oB) λ_=>?_)
 exact zm (h E _ (wO hq))
def QW {l b:Addr}{its aS:Array Value}{n n2:Nat}{dd kK:Option Addr}{sl eZ:Array (Option Value)}{e:Nat->Bool}{E Q:Aa}
  (hl:s.heap.get? l=some { cls:=.type "tuple", dict:=dd,data:=.seq its n,slots:=sl }) (hb:s.heap.get? b=some { cls:=.type "tuple", dict:=kK,data:=.seq aS n2,slots:=eZ })
  (he:∀j (h1:j<its.size) (h2:j<aS.size),dY P W A.in1 s its[j] aS[j] (e j)) (h:Q (.bool ((List.range (min its.size aS.size)).all e&&its.size==aS.size)) s) :
  wpAny (model P W) A.in1 (Builtin.«tuple.__eq__» ⟨[.ref l,.ref b],[]⟩) (λfin s'=>∃v,fin=.done (.ret v)/\Q v s') E s:=by
 obtain ⟨hp,g,d,tk,os⟩:=s
 have f2:=AutoSeq1.sub_tuple_tuple
 have hZ:(its.toList.zip aS.toList).length=min its.size aS.size:=by simp
 wp_walk using AutoSeq1.wpAny_loadPart' hl,AutoSeq1.wpAny_loadPart' hb,wpAny_forIn_list _ (λrest b s'=>b.1=none/\s'=⟨hp,g,d,tk,os⟩/\∃i,rest=(its.toList.zip aS.toList).drop i/\Q (.bool (((List.range (min its.size aS.size)).drop i).all e&&its.size==aS.size)) ⟨hp,g,d,tk,os⟩) _
 case turn =>
  rintro ⟨y,x⟩ rest b s' ⟨x_,rfl,i,hz,hR⟩
  have bD:i<(its.toList.zip aS.toList).length:=by
   rcases Nat.lt_or_ge i (its.toList.zip aS.toList).length with h'|h'
   ·exact h'
   ·rw [iM h'] at hz;cases hz
  have hm:i<min its.size aS.size:=hZ▸bD
  have h1:i<its.size:=by omega
  have h2:i<aS.size:=by omega
  rw [jy bD] at hz
  injection hz with iZ d7
  have hy:y=its[i]:=by have:=congrArg Prod.fst iZ;simpa using this
  have hx:x=aS[i]:=by have:=congrArg Prod.snd iZ;simpa using this
  subst hy hx
  have hd:(List.range (min its.size aS.size)).drop i=i::(List.range (min its.size aS.size)).drop (i+1):=by simp [jy,hm]
  rw [hd,List.all_cons] at hR
  refine zm (he i h1 h2 _ _ ?_)
  cases hy:e i with
  |true =>
   rw [hy] at hR
   wp_walk
   exact ⟨rfl,rfl,i+1,d7,by simpa using hR⟩
  |false =>
   rw [hy] at hR
   wp_walk
   exact ⟨_,rfl,by simpa using hR⟩
 case fin =>
  rintro ⟨b1,b2⟩ s' ⟨x_,rfl,i,hz,hR⟩
  simp only at x_
  subst x_
  have QX:min its.size aS.size<=i:=by
   rcases Nat.lt_or_ge i (its.toList.zip aS.toList).length with h'|h'
   ·rw [jy h'] at hz;cases hz
   ·exact hZ▸h'
  rw [iM (by simpa using QX)] at hR
  wp_walk
  exact ⟨_,rfl,by simpa [Builtin.Tuple.tupleCompareSizes] using hR⟩
 case h=>exact ⟨rfl,rfl,0,rfl,by simpa using h⟩
def cG.tuples {l b:Addr}{its aS:Array Value}{e:Nat->Bool}(hl:s.heap.IsTuple l its) (hb:s.heap.IsTuple b aS) (hu:A.units<cLine)
  (he:∀j (h1:j<its.size) (h2:j<aS.size),dY P W A.in1 s its[j] aS[j] (e j)):cG P W A s (.ref l) (.ref b) ((List.range (min its.size aS.size)).all e&&its.size==aS.size):=λE Q h=>by
 obtain ⟨⟨cls,dd,data,sl⟩,ho,hc,n,hd⟩:=id hl
 obtain ⟨⟨uV,kK,data2,eZ⟩,ho2,fK,n2,hd2⟩:=id hb
 simp only at hc hd fK hd2
 subst hc hd fK hd2
 refine wpAny_richCompare_same_room (op:=.Eq) ⟨_,ho,rfl⟩ ⟨_,ho2,rfl⟩ F.slot_tuple_eq (jQ F.slot_tuple_eq ⟨_,ho,rfl⟩ F.entry_tuple_eq (QW (Q:=λv s'=>v ≠ .notImplemented/\Q v s') ho ho2 he (show Value.bool ((List.range (min its.size aS.size)).all e&&its.size==aS.size)≠Value.notImplemented/\Q (.bool ((List.range (min its.size aS.size)).all e&&its.size==aS.size)) s from ⟨(λx=>nomatch x),h⟩)) (F.args_tuple_eq_2 _ _)) hu
end
section
variable {K:Frag} {mg:Ab} {ρ:Ae} {H:Hp}
def y_ {k:Str}{ks:Ad}{v:V}{vs:List V}{us:List (Key×Value)}(h:KV (kz (k::ks) (v::vs)) us):∃u r,us=(Sum.inr k,u)::r/\RelV v u/\KV (kz ks vs) r:=by
 cases h with
 |@cons p q ps qs h t =>
  obtain ⟨h1,h2⟩:=h
  obtain ⟨k',u⟩:=q
  have:k'=Sum.inr k:=h1.symm
  subst this
  exact ⟨u,qs,rfl,h2,t⟩
theorem E2 {f:Str}:∀{ks:Ad}{xs:An}{vs:List V},Rs K mg ρ H xs vs->(ks.zip xs).lookup f=none->(ks.zip vs).lookup f=none
 |[],_,_,_,_=>by simp
 |k::ks,[],_,r,_=>by cases r;simp
 |k::ks,y::xs,_,r,h=>by
  obtain ⟨v,r',rfl,h1,h2⟩:=r
  simp only [List.zip_cons_cons,jR] at h ⊢
  split at h
  ·cases h
  ·exact E2 h2 h
def QY {f:PV->PV->Option Bool}{G:Value->Value->Bool->Prop}(hf:∀x y v w u u' b,f x y=some b->R K mg ρ H x v->R K mg ρ H y w->RelV v u->RelV w u'->G u u' b) {xs ys:An}{vs ws:List V}{its aS:Af}{e:Nat->Bool}(h2:Rs K mg ρ H xs vs) (h4:Rs K mg ρ H ys ws) (r1:Vals vs its) (r2:Vals ws aS) (he:∀j x y,xs[j]?=some x->ys[j]?=some y->f x y=some (e j)) :
  ∀j (g1:j<its.toArray.size) (g2:j<aS.toArray.size),G its.toArray[j] aS.toArray[j] (e j):=by
 intro j g1 g2
 have l1:=h2.len
 have l2:=h4.len
 have l3:=r1.length
 have l4:=r2.length
 have k1:j<xs.length:=by rw [l1,l3];simpa using g1
 have k2:j<ys.length:=by rw [l2,l4];simpa using g2
 obtain ⟨v1,e1,xw⟩:=h2.get (yb k1)
 obtain ⟨v2,e2,xx⟩:=h4.get (yb k2)
 obtain ⟨u1,f1,xA⟩:=r1.get e1
 obtain ⟨u2,f2,xB⟩:=r2.get e2
 have w1:its.toArray[j]=u1:=by
  obtain ⟨_,z⟩:=yu.mp f1
  simpa using z
 have w2:aS.toArray[j]=u2:=by
  obtain ⟨_,z⟩:=yu.mp f2
  simpa using z
 rw [w1,w2]
 exact hf xs[j] ys[j] v1 v2 u1 u2 (e j) (he j _ _ (yb k1) (yb k2)) xw xx xA xB
end
section
variable {X:Cx} {Er:XK}
theorem dn:∀{ks:Ad}{us:Af},us.length=ks.length->(∀(j:Nat) v,us[j]?=some v->∃k,ks[j]?=some k/\∃t,v=Value.str k t)->Vals (ks.map V.str) us
 |[],[],_,_=>.nil
 |[],_::_,h,_=>by simp at h
 |_::_,[],h,_=>by simp at h
 |k::ks,u::us,h,hv=>by
  obtain ⟨k',e,t,ev⟩:=hv 0 u rfl
  simp at e
  subst e
  exact .cons ⟨t,ev⟩ (dn (by simpa using h) λj v e=>by simpa using hv (j+1) v (by simpa using e))
def QZ:Al:=λxs st=>match xs with
 | [.ref n]=>match st[n]? with
  |some (.dic ks _)=>.ok (.ref st.length) (st++[.lst (ks.map PV.str)])
  |_=>oV xs st
 |_=>oV xs st
def pH {ss:List Stmt}:dN X Er ss jD:=ck.weak KS λD U H ⟨env,st,ρ,re,rs,h⟩=>h
end
section
variable {P:Program} {W:World} {A:Around} {s:Shared} {E:Aa} {K:Type} [DecidableEq K] {knd:KeyKind P W K}
def mU {d:Addr} {kv:List (K×Value)} {x:Value} {T:String} {name:Str} (sl:Slot "dict" name "dict.__eq__") (hd:s.heap.DictOf knd d kv) (hx:s.TypeIs x T) (hs:isSubtype (.type T) (.type "dict")=pure false) (Q:Aa) (h:Q .notImplemented s) :
  wpAny (model P W) A (call (.builtin "dict.__eq__") [.ref d,x]) Q E s:=by
 refine jQ sl hd.typeIs PySem.F.entry_dict_eq ?_ (PySem.F.args_dict_eq_2 _ _)
 show wpAny _ _ (Builtin.Dict.dictSlotArgs "__eq__" ⟨[.ref d,x],[]⟩ >>= _) _ _ s
 refine zm ?_
 unfold Builtin.Dict.dictSlotArgs
 refine zm (wpAny_notOrdered_dict hd.typeIs ?_)
 show wpAny _ _ (pure (Value.ref d,x)) _ _ s
 refine zK ?_
 refine zm (wpAny_isInstance hx hs ?_)
 simp only [Bool.not_false,jF]
 exact zm (wpAny_rule (zK ⟨_,rfl,h⟩))
def E3 {d:Addr} {o:Obj} {b:Int} {u:Tok} {name:Str} (sl:Slot "int" name "int.__eq__") (ho:s.heap.get? d=some o) (hd:o.cls=.type "dict") {es:Array DictEntry} {ep:Nat} (hq':o.data=.dict es ep) (Q:Aa) (h:Q .notImplemented s) :
  wpAny (model P W) A (call (.builtin "int.__eq__") [.int b u,.ref d]) Q E s:=by
 refine jQ sl (typeIs_int s b u) PySem.F.entry_int_eq ?_ (PySem.F.args_int_eq_2 _ _)
 obtain ⟨hp,g,dd,tk,os⟩:=s
 obtain ⟨c,d1,d2,d3⟩:=o
 cases hd
 cases hq'
 wp_walk using AutoSeq1.wpAny_loadPart' ho,wpAny_load ho
 exact ⟨_,rfl,h⟩
def E4 {d:Addr} {o:Obj} {b:Str} {u:Tok} {name:Str} (sl:Slot "str" name "str.__eq__") (ho:s.heap.get? d=some o) (hd:o.cls=.type "dict") {es:Array DictEntry} {ep:Nat} (hq':o.data=.dict es ep) (Q:Aa) (h:Q .notImplemented s) :
  wpAny (model P W) A (call (.builtin "str.__eq__") [.str b u,.ref d]) Q E s:=by
 refine jQ sl (typeIs_str s b u) PySem.F.entry_str_eq ?_ (PySem.F.args_str_eq_2 _ _)
 obtain ⟨hp,g,dd,tk,os⟩:=s
 obtain ⟨c,d1,d2,d3⟩:=o
 cases hd
 cases hq'
 wp_walk using AutoSeq1.wpAny_loadPart' ho,wpAny_load ho
 exact ⟨_,rfl,h⟩
def E5 {d t:Addr} {o ot:Obj} {its:Array Value} {n:Nat} {name:Str} (sl:Slot "tuple" name "tuple.__eq__") (ht:s.heap.get? t=some ot) (hc:ot.cls=.type "tuple") (hq:ot.data=.seq its n) (ho:s.heap.get? d=some o) (hd:o.cls=.type "dict") {es:Array DictEntry} {ep:Nat} (hq':o.data=.dict es ep) (Q:Aa) (h:Q .notImplemented s) :
  wpAny (model P W) A (call (.builtin "tuple.__eq__") [.ref t,.ref d]) Q E s:=by
 refine jQ sl ⟨_,ht,hc⟩ PySem.F.entry_tuple_eq ?_ (PySem.F.args_tuple_eq_2 _ _)
 obtain ⟨hp,g,dd,tk,os⟩:=s
 obtain ⟨c,d1,d2,d3⟩:=o
 obtain ⟨c',Yb,Yc,Yd⟩:=ot
 cases hd
 cases hq'
 cases hc
 cases hq
 have f1:=PySem.F.sub_dict_tuple
 wp_walk using AutoSeq1.wpAny_loadPart' ht,AutoSeq1.wpAny_loadPart' ho
 exact ⟨_,rfl,h⟩
def dY.of_ref {d:Addr}{u':Value}{k:Bool}(oB:Value.ref d≠u') (h:cG P W A s (.ref d) u' k):dY P W A s (.ref d) u' k:=λE Q hq=>by
 unfold eqBool
 refine jZ (wpAny_ite_split (λdW=>absurd (eq_of_beq dW) oB) λ_=>?_)
 exact zm (h E _ (wO hq))
def dY.of_num {d:Addr}{b:Int}{u:Tok}{k:Bool}(h:cG P W A s (.int b u) (.ref d) k):dY P W A s (.int b u) (.ref d) k:=λE Q hq=>by
 unfold eqBool
 refine jZ (wpAny_ite_split (λdW=>absurd (eq_of_beq dW) nofun) λ_=>?_)
 exact zm (h E _ (wO hq))
def dY.of_txt {d:Addr}{b:Str}{u:Tok}{k:Bool}(h:cG P W A s (.str b u) (.ref d) k):dY P W A s (.str b u) (.ref d) k:=λE Q hq=>by
 unfold eqBool
 refine jZ (wpAny_ite_split (λdW=>absurd (eq_of_beq dW) nofun) λ_=>?_)
 exact zm (h E _ (wO hq))
def cG.rec_num {d:Addr}{kv:List (K×Value)}(hd:s.heap.DictOf knd d kv) (b:Int) (u:Tok) (hu:A.units<cLine):cG P W A s (.ref d) (.int b u) false:=λE Q h=>by
 obtain ⟨o,es,ep,ho,hx,fV,_⟩:=id hd
 have ty:=hd.typeIs
 obtain ⟨o',ho',hc⟩:=id ty
 rw [ho] at ho'
 cases ho'
 exact SeqAt.rc_eq_decline_or (k:=false) ty (typeIs_int s b u) (by decide) PySem.F.sub_int_dict PySem.F.slot_dict_eq PySem.F.slot_int_eq_refl (mU PySem.F.slot_dict_eq hd (typeIs_int s b u) PySem.F.sub_int_dict) (E3 PySem.F.slot_int_eq_refl ho hc fV)
  (λ_ hq=>wpAny_of_eq (rfl:isSame (.ref d) (.int b u)=pure false) hq) (.inr hu) h
def cG.num_rec {d:Addr}{kv:List (K×Value)}(hd:s.heap.DictOf knd d kv) (b:Int) (u:Tok) (hu:A.units<cLine):cG P W A s (.int b u) (.ref d) false:=λE Q h=>by
 obtain ⟨o,es,ep,ho,hx,fV,_⟩:=id hd
 have ty:=hd.typeIs
 obtain ⟨o',ho',hc⟩:=id ty
 rw [ho] at ho'
 cases ho'
 exact SeqAt.rc_eq_decline_or (k:=false) (typeIs_int s b u) ty (by decide) PySem.F.sub_dict_int PySem.F.slot_int_eq PySem.F.slot_dict_eq_refl (E3 PySem.F.slot_int_eq ho hc fV) (mU PySem.F.slot_dict_eq_refl hd (typeIs_int s b u) PySem.F.sub_int_dict)
  (λ_ hq=>wpAny_of_eq (rfl:isSame (.int b u) (.ref d)=pure false) hq) (.inr hu) h
def cG.rec_txt {d:Addr}{kv:List (K×Value)}(hd:s.heap.DictOf knd d kv) (b:Str) (u:Tok) (hu:A.units<cLine):cG P W A s (.ref d) (.str b u) false:=λE Q h=>by
 obtain ⟨o,es,ep,ho,hx,fV,_⟩:=id hd
 have ty:=hd.typeIs
 obtain ⟨o',ho',hc⟩:=id ty
 rw [ho] at ho'
 cases ho'
 exact SeqAt.rc_eq_decline_or (k:=false) ty (typeIs_str s b u) (by decide) PySem.F.sub_str_dict PySem.F.slot_dict_eq PySem.F.slot_str_eq_refl (mU PySem.F.slot_dict_eq hd (typeIs_str s b u) PySem.F.sub_str_dict) (E4 PySem.F.slot_str_eq_refl ho hc fV)
  (λ_ hq=>wpAny_of_eq (rfl:isSame (.ref d) (.str b u)=pure false) hq) (.inr hu) h
def cG.txt_rec {d:Addr}{kv:List (K×Value)}(hd:s.heap.DictOf knd d kv) (b:Str) (u:Tok) (hu:A.units<cLine):cG P W A s (.str b u) (.ref d) false:=λE Q h=>by
 obtain ⟨o,es,ep,ho,hx,fV,_⟩:=id hd
 have ty:=hd.typeIs
 obtain ⟨o',ho',hc⟩:=id ty
 rw [ho] at ho'
 cases ho'
 exact SeqAt.rc_eq_decline_or (k:=false) (typeIs_str s b u) ty (by decide) PySem.F.sub_dict_str PySem.F.slot_str_eq PySem.F.slot_dict_eq_refl (E4 PySem.F.slot_str_eq ho hc fV) (mU PySem.F.slot_dict_eq_refl hd (typeIs_str s b u) PySem.F.sub_str_dict)
  (λ_ hq=>wpAny_of_eq (rfl:isSame (.str b u) (.ref d)=pure false) hq) (.inr hu) h
def mV {d t:Addr}{kv:List (K×Value)}{its:Array Value}(hd:s.heap.DictOf knd d kv) (ht:s.heap.IsTuple t its):d≠t:=λe=>by
 subst e
 obtain ⟨o,ho,hc⟩:=hd.typeIs
 obtain ⟨o2,ho2,fK,_⟩:=ht
 rw [ho] at ho2
 cases ho2
 rw [hc] at fK
 exact absurd fK (by simp)
def cG.rec_row {d t:Addr}{kv:List (K×Value)}{its:Array Value}(hd:s.heap.DictOf knd d kv) (ht:s.heap.IsTuple t its) (hu:A.units<cLine):cG P W A s (.ref d) (.ref t) false:=λE Q h=>by
 have ne:=mV hd ht
 obtain ⟨o,es,ep,ho,hx,fV,_⟩:=id hd
 have ty:=hd.typeIs
 obtain ⟨o',ho',hc⟩:=id ty
 rw [ho] at ho'
 cases ho'
 obtain ⟨ot,iu,lE,n,z_⟩:=id ht
 exact SeqAt.rc_eq_decline_or (k:=false) ty ⟨_,iu,lE⟩ (by decide) PySem.F.sub_tuple_dict PySem.F.slot_dict_eq PySem.F.slot_tuple_eq_refl (mU PySem.F.slot_dict_eq hd ⟨_,iu,lE⟩ PySem.F.sub_tuple_dict) (E5 PySem.F.slot_tuple_eq_refl iu lE z_ ho hc fV)
  (λ_ hq=>wpAny_isSame_ref_other ne ho iu (by rw [hc];simp) hq) (.inr hu) h
def cG.row_rec {d t:Addr}{kv:List (K×Value)}{its:Array Value}(hd:s.heap.DictOf knd d kv) (ht:s.heap.IsTuple t its) (hu:A.units<cLine):cG P W A s (.ref t) (.ref d) false:=λE Q h=>by
 have ne:=mV hd ht
 obtain ⟨o,es,ep,ho,hx,fV,_⟩:=id hd
 have ty:=hd.typeIs
 obtain ⟨o',ho',hc⟩:=id ty
 rw [ho] at ho'
 cases ho'
 obtain ⟨ot,iu,lE,n,z_⟩:=id ht
 exact SeqAt.rc_eq_decline_or (k:=false) ⟨_,iu,lE⟩ ty (by decide) PySem.F.sub_dict_tuple PySem.F.slot_tuple_eq PySem.F.slot_dict_eq_refl (E5 PySem.F.slot_tuple_eq iu lE z_ ho hc fV) (mU PySem.F.slot_dict_eq_refl hd ⟨_,iu,lE⟩ PySem.F.sub_tuple_dict)
  (λ_ hq=>SeqAt.wpAny_isSame_ref_other' ne.symm iu ho (by rw [hc];simp) hq) (.inr hu) h
inductive cy (P:Program) (W:World) (A:Around) (s:Shared) (kb:List (K×Value)):List (K×Value)->Bool->Prop
 |nil:cy P W A s kb [] true
 |miss {k:K} {v:Value} {r:List (K×Value)} (h:valueAt kb k=none):cy P W A s kb ((k,v)::r) false
 |hit {k:K} {v y:Value} {r:List (K×Value)} {e b:Bool} (h:valueAt kb k=some y) (he:dY P W A s v y e) (hr:cy P W A s kb r b):cy P W A s kb ((k,v)::r) (e&&b)
def cy.inv {kb r:List (K×Value)}{k:K}{v:Value}{b:Bool}(h:cy P W A s kb ((k,v)::r) b):(valueAt kb k=none/\b=false)\/∃y e c,valueAt kb k=some y/\dY P W A s v y e/\cy P W A s kb r c/\b=(e&&c):=by
 cases h with
 |miss h=>exact .inl ⟨h,rfl⟩
 |hit h he hr=>exact .inr ⟨_,_,_,h,he,hr,rfl⟩
def l6 {nm:String}{a b:Addr}{ka kb:List (K×Value)}{r:Bool}{Q:Bool->Shared->Prop}(la:(a==sysModules)=false) (lb:(b==sysModules)=false) (da:s.heap.DictOf knd a ka) (db:s.heap.DictOf knd b kb)
  (hits:ka.length=kb.length->cy P W A s kb ka r) (h:Q (ka.length==kb.length&&r) s):wpAny (model P W) A (Builtin.Dict.samePairs nm a b) Q E s:=by
 obtain ⟨oa,ea,na,ga,_,qa,ha,pa,_⟩:=da
 obtain ⟨ob,eb,nb,gb,_,qb,hb,pb,_⟩:=db
 have za:ka.length=ea.size:=by rw [<-pa.length];exact Array.length_toList
 have zb:kb.length=eb.size:=by rw [<-pb.length];exact Array.length_toList
 have look:∀k,findBy knd.is eb k=valueAt kb k:=λk=>by
  rw [<-pb.find k]
  clear zb pb hb qb gb
  obtain ⟨l⟩:=eb
  simp [findBy]
 rw [za,zb] at h
 unfold Builtin.Dict.samePairs Builtin.Dict.showsAll
 rw [zD (by rw [la];decide),zD (by rw [lb];decide)]
 refine zm (zK (zm (zK (zm (wpAny_dictEntries ga qa ?_)))))
 dsimp only
 refine zm (wpAny_dictEntries gb qb ?_)
 by_cases hz:ea.size=eb.size
 ·have h':Q r s:=by simpa [hz] using h
  have hh:=hits (by rw [za,zb];exact hz)
  rw [zD (by rw [hz];simp)]
  refine zm (wpAny_dictEpoch ga qa (zm ?_))
  rw [Std.Legacy.Range.forIn_eq_forIn_range']
  simp only [Std.Legacy.Range.size,Nat.sub_zero,Nat.add_sub_cancel,Nat.div_one]
  refine wpAny_forIn_list _ (λrest q s'=>s'=s/\q=(none,())/\∃i,rest=List.range' i (ea.size-i)/\i<=ea.size/\cy P W A s kb (ka.drop i) r) _ ?_ ?_ _ _ ⟨rfl,rfl,0,by simp,jh _,hh⟩
  ·rintro x rest q s' ⟨rfl,rfl,i,hr,hi,hp⟩
   have lt:i<ea.size:=by
    rcases Nat.lt_or_ge i ea.size with c|c
    ·exact c
    ·rw [Nat.sub_eq_zero_of_le c] at hr;simp at hr
   have e0:ea.size-i=(ea.size-(i+1))+1:=by omega
   rw [e0,List.range'_succ] at hr
   injection hr with hx d7
   subst hx
   refine zm (wpAny_dictEntries ga qa ?_)
   rw [Array.getElem?_eq_getElem lt]
   have lt':x<ka.length:=by rw [za];exact lt
   obtain ⟨k,v,eh⟩:∃k v,ka[x]=(k,v):=⟨_,_,rfl⟩
   have fX:ka.drop x=(k,v)::ka.drop (x+1):=by rw [<-eh];exact jy lt'
   obtain ⟨gW,E6⟩:=pa.get? (i:=x) (e:=ea[x]) (k:=k) (v:=v) (by rw [Array.getElem?_toList];exact Array.getElem?_eq_getElem lt) (by rw [yb lt',eh])
   obtain ⟨k',gA,hs⟩:=ha ea[x] (Array.getElem_mem lt)
   rw [knd.inj _ _ _ gA gW] at hs
   rw [fX] at hp
   show wpAny _ _ (holding [ea[x].key,ea[x].val] _ >>= _) _ _ _
   rw [hs]
   refine zm (jZ (zm (wpAny_dictFind_of gW gb qb hb ?_)))
   cases hj:eb.findIdx? λe=>knd.is k e.key with
   |none =>
    have hn:valueAt kb k=none:=by rw [<-look k,findBy_of_findIdx?,hj]
    rcases hp.inv with ⟨_,er⟩|⟨y,_,_,hy,_⟩
    ·rw [er] at h'
     refine zK ?_
     show wpAny _ _ (if (!false)=true then _ else _) _ _ _
     rw [zp (by decide)]
     exact zK (zK h')
    ·rw [hn] at hy;exact nomatch hy
   |some j =>
    obtain ⟨jl,_,_⟩:=Array.findIdx?_eq_some_iff_getElem.mp hj
    have mm:valueAt kb k=some eb[j].val:=by
     rw [<-look k,findBy_of_findIdx?,hj]
     simp [Array.getElem?_eq_getElem jl]
    refine zm (wpAny_dictEntries gb qb ?_)
    rw [Array.getElem?_eq_getElem jl]
    rcases hp.inv with ⟨hn,_⟩|⟨y,e,c,hy,he,E7,er⟩
    ·rw [mm] at hn;exact nomatch hn
    ·have ey:eb[j].val=y:=Option.some.inj (mm.symm.trans hy)
     rw [<-ey,<-E6] at he
     refine jZ (he _ _ ?_)
     cases e with
     |false =>
      rw [er,Bool.false_and] at h'
      show wpAny _ _ (if (!false)=true then _ else _) _ _ _
      rw [zp (by decide)]
      exact zK (zK h')
     |true =>
      rw [Bool.true_and] at er
      rw [<-er] at E7
      show wpAny _ _ (if (!true)=true then _ else _) _ _ _
      rw [zD (by decide)]
      refine zm (wpAny_dictEpoch ga qa ?_)
      rw [zD (by simp)]
      exact zK ⟨rfl,rfl,x+1,d7,lt,E7⟩
  ·rintro q s' ⟨rfl,rfl,i,hr,hi,hp⟩
   have pI:i=ea.size:=by
    rcases Nat.lt_or_ge i ea.size with c|c
    ·have e:ea.size-i=(ea.size-(i+1))+1:=by omega
     rw [e,List.range'_succ] at hr;exact nomatch hr
    ·omega
   refine zK ?_
   rw [pI,<-za,List.drop_length] at hp
   cases hp
   exact h'
 ·rw [zp (by simpa using hz)]
  have hf:(ea.size==eb.size)=false:=by simpa using hz
  rw [hf,Bool.false_and] at h
  exact zm (wpAny_rule (zK h))
def cG.recs {a b:Addr}{ka kb:List (K×Value)}{r:Bool}(la:(a==sysModules)=false) (lb:(b==sysModules)=false) (da:s.heap.DictOf knd a ka) (db:s.heap.DictOf knd b kb) (hu:A.units<cLine)
  (hits:ka.length=kb.length->cy P W A.in1 s kb ka r):cG P W A s (.ref a) (.ref b) (ka.length==kb.length&&r):=λE Q h=>by
 refine wpAny_richCompare_same_room (op:=.Eq) da.typeIs db.typeIs PySem.F.slot_dict_eq (jQ PySem.F.slot_dict_eq da.typeIs PySem.F.entry_dict_eq ?_ (PySem.F.args_dict_eq_2 _ _)) hu
 show wpAny _ _ (Builtin.Dict.dictSlotArgs "__eq__" ⟨[.ref a,.ref b],[]⟩ >>= _) _ _ s
 refine zm ?_
 unfold Builtin.Dict.dictSlotArgs
 refine zm (wpAny_notOrdered_dict da.typeIs ?_)
 show wpAny _ _ (pure (Value.ref a,Value.ref b)) _ _ s
 refine zK (zm (wpAny_isInstance (T := "dict") db.typeIs PySem.F.sub_dict_dict ?_))
 simp only [Bool.not_true,Bool.false_eq_true,g9]
 refine zm (zK (zm (zK (zm (l6 la lb da db hits ?_)))))
 refine zK ⟨_,rfl,(λx=>nomatch x),?_⟩
 simpa using h
end
def Ag:Option SO->Bool
 |some (.dic _ _)=>true
 |_=>false
def eA (st:aa):PV->Option Nat
 |.int _=>some 0
 |.str _=>some 1
 |.tup _=>some 2
 |.ref a=>if Ag st[a]?=true then some 3 else none
 |_=>none
def cT (f:PV->PV->Option Bool):Option SO->Option SO->Option Bool
 |some (.dic ks xs),some (.dic cg b_)=>if ks.Nodup/\ks.length=xs.length then if ks.length=cg.length then cf f cg b_ ks xs else some false else none
 |_,_=>none
def sJ:Option Nat->Option Nat->Option Bool
 |some i,some j=>if i=j then none else some false
 |_,_=>none
def eqT (st:aa):Nat->PV->PV->Option Bool
 |0,_,_=>none
 | n+1,x,y=>match x,y with
  |.int a,.int b=>some (a==b)
  |.str a,.str b=>some (a==b)
  |.tup xs,.tup ys=>dZ (eqT st n) xs ys
  |.ref a,.ref b=>cT (eqT st n) st[a]? st[b]?
  |x,y=>sJ (eA st x) (eA st y)
section
variable {X:Cx} {K:Frag} {mg:Ab} {ρ:Ae} {pins:Ac} {U:L2.St} {H:Hp} {s:Shared} {st:aa}
inductive Kn (K:Frag) (mg:Ab) (ρ:Ae) (H:Hp) (st:aa):PV->V->Nat->Prop
 |num (i:Int):Kn K mg ρ H st (.int i) (.int i) 0
 |txt (z:Str):Kn K mg ρ H st (.str z) (.str z) 1
 |row {xs:An} {a:Addr} {vs:List V} (h:bC K H a vs) (r:Rs K mg ρ H xs vs):Kn K mg ρ H st (.tup xs) (.ref a) 2
 |rec_ {n:Nat} {a:Addr} {ks:Ad} {xs:An} {vs:List V} (e:st[n]?=some (.dic ks xs)) (ha:ρ[n]?=some a) (h:H a=some (.dK (kz ks vs))) (r:Rs K mg ρ H xs vs) (l:ks.length=vs.length):Kn K mg ρ H st (.ref n) (.ref a) 3
def Kn.of (S:a_ K mg ρ H st) {x:PV}{v:V}{i:Nat}(r:R K mg ρ H x v) (h:eA st x=some i):Kn K mg ρ H st x v i:=by
 cases x with
 |int j=>cases h;cases r;exact .num j
 |str z=>cases h;cases r;exact .txt z
 |tup xs=>cases h;obtain ⟨a,vs,rfl,h1,h2⟩:=r;exact .row h1 h2
 |ref n =>
  simp only [eA] at h
  split at h
  ·rename_i hd
   cases h
   cases e:st[n]? with
   |none=>rw [e] at hd;cases hd
   |some so =>
    cases so with
    |dic ks xs =>
     obtain ⟨a,vs,rfl,ha,k1,k2,k3⟩:=R.refD S r e
     exact .rec_ e ha k1 k2 k3
    |lst _=>rw [e] at hd;cases hd
    |ins _ _ _=>rw [e] at hd;cases hd
    |fdi _ _=>rw [e] at hd;cases hd
    |dit _ _=>rw [e] at hd;cases hd
  ·cases h
 |_=>cases h
def Q0 (I:Inv X pins U H s) {x y:PV}{v:V}{i j:Nat}(hx:Kn X.K mg ρ H st x v i) (hy:Kn X.K mg ρ H st y v j):i=j:=by
 cases hx with
 |num=>cases hy;rfl
 |txt=>cases hy;rfl
 |row h1 r1 =>
  cases hy with
  |row=>rfl
  |rec_ e ha h2 =>
   obtain ⟨_,_,kv,_,d⟩:=jj I.hok (.inl h2)
   obtain ⟨its,_,p,_⟩:=I.tuple h1
   exact absurd rfl (mV d p)
 |rec_ e ha h2 =>
  cases hy with
  |rec_=>rfl
  |row h1 r1 =>
   obtain ⟨_,_,kv,_,d⟩:=jj I.hok (.inl h2)
   obtain ⟨its,_,p,_⟩:=I.tuple h1
   exact absurd rfl (mV d p)
def Q1 (I:Inv X pins U H s) {x y:PV}{v w:V}{u u':Value}{i j:Nat}{A:Around}(hx:Kn X.K mg ρ H st x v i) (hy:Kn X.K mg ρ H st y w j) (rv:RelV v u) (rw:RelV w u') (cM:i≠j) (hu:A.units<cLine):dY X.prog X.w A s u u' false/\cG X.prog X.w A s u u' false:=by
 cases hx with
 |num a =>
  obtain ⟨t,rfl⟩:=rv
  cases hy with
  |num=>exact absurd rfl cM
  |txt b=>obtain ⟨t',rfl⟩:=rw;exact ⟨λE Q q=>SeqAt.EqAt.int_str a t b t' _ _ E Q q,λE Q q=>SeqAt.RcAt.int_str a t b t' _ _ E Q q⟩
  |row h1 r1 =>
   cases rw
   obtain ⟨its,_,p,_⟩:=I.tuple h1
   exact ⟨λE Q q=>SeqAt.EqAt.int_tuple a t p hu _ _ E Q q,λE Q q=>SeqAt.RcAt.int_tuple a t p hu _ _ E Q q⟩
  |rec_ e ha h2 =>
   cases rw
   obtain ⟨_,_,kv,_,d⟩:=jj I.hok (.inl h2)
   exact ⟨.of_num (.num_rec d a t hu),.num_rec d a t hu⟩
 |txt a =>
  obtain ⟨t,rfl⟩:=rv
  cases hy with
  |txt=>exact absurd rfl cM
  |num b=>obtain ⟨t',rfl⟩:=rw;exact ⟨λE Q q=>SeqAt.EqAt.str_int a t b t' _ _ E Q q,λE Q q=>SeqAt.RcAt.str_int a t b t' _ _ E Q q⟩
  |row h1 r1 =>
   cases rw
   obtain ⟨its,_,p,_⟩:=I.tuple h1
   exact ⟨λE Q q=>SeqAt.EqAt.str_tuple a t p hu _ _ E Q q,λE Q q=>SeqAt.RcAt.str_tuple a t p hu _ _ E Q q⟩
  |rec_ e ha h2 =>
   cases rw
   obtain ⟨_,_,kv,_,d⟩:=jj I.hok (.inl h2)
   exact ⟨.of_txt (.txt_rec d a t hu),.txt_rec d a t hu⟩
 |row h0 r0 =>
  cases rv
  obtain ⟨its,_,p,_⟩:=I.tuple h0
  cases hy with
  |row=>exact absurd rfl cM
  |num b=>obtain ⟨t',rfl⟩:=rw;exact ⟨λE Q q=>SeqAt.EqAt.tuple_int b t' p hu _ _ E Q q,λE Q q=>SeqAt.RcAt.tuple_int b t' p hu _ _ E Q q⟩
  |txt b=>obtain ⟨t',rfl⟩:=rw;exact ⟨λE Q q=>SeqAt.EqAt.tuple_str b t' p hu _ _ E Q q,λE Q q=>SeqAt.RcAt.tuple_str b t' p hu _ _ E Q q⟩
  |rec_ e ha h2 =>
   cases rw
   obtain ⟨_,_,kv,_,d⟩:=jj I.hok (.inl h2)
   have ne:=mV d p
   exact ⟨.of_ref (λz=>ne (by injection z with z;exact z.symm)) (.row_rec d p hu),.row_rec d p hu⟩
 |rec_ e0 Ye h0 =>
  cases rv
  obtain ⟨_,_,kv,_,d⟩:=jj I.hok (.inl h0)
  cases hy with
  |rec_=>exact absurd rfl cM
  |num b=>obtain ⟨t',rfl⟩:=rw;exact ⟨.of_ref nofun (.rec_num d b t' hu),.rec_num d b t' hu⟩
  |txt b=>obtain ⟨t',rfl⟩:=rw;exact ⟨.of_ref nofun (.rec_txt d b t' hu),.rec_txt d b t' hu⟩
  |row h1 r1 =>
   cases rw
   obtain ⟨its,_,p,_⟩:=I.tuple h1
   have ne:=mV d p
   exact ⟨.of_ref (λz=>ne (by injection z)) (.rec_row d p hu),.rec_row d p hu⟩
def Q2 {a b:Option Nat}{k:Bool}(h:sJ a b=some k):∃i j,a=some i/\b=some j/\i≠j/\k=false:=by
 unfold sJ at h
 split at h
 ·split at h
  ·cases h
  ·rename_i i j c;cases h;exact ⟨i,j,rfl,rfl,c,rfl⟩
 ·cases h
inductive mW (st:aa) (f:PV->PV->Option Bool):PV->PV->Bool->Prop
 |num (a b:Int):mW st f (.int a) (.int b) (a==b)
 |txt (a b:Str):mW st f (.str a) (.str b) (a==b)
 |row {xs ys:An} {k:Bool} (h:dZ f xs ys=some k):mW st f (.tup xs) (.tup ys) k
 |rec_ {a b:Nat} {k:Bool} (h:cT f st[a]? st[b]?=some k):mW st f (.ref a) (.ref b) k
 |apart {x y:PV} {i j:Nat} (hx:eA st x=some i) (hy:eA st y=some j) (h:i≠j):mW st f x y false
def zjH {n:Nat}{x y:PV}{k:Bool}(h:eqT st (n+1) x y=some k):mW st (eqT st n) x y k:=by
 unfold eqT at h
 split at h
 ·cases h;exact .num _ _
 ·cases h;exact .txt _ _
 ·exact .row h
 ·exact .rec_ h
 ·obtain ⟨i,j,h1,h2,h3,rfl⟩:=Q2 h
  exact .apart h1 h2 h3
def Aq {f:PV->PV->Option Bool}{a b:Option SO}{k:Bool}(h:cT f a b=some k):∃ks xs cg b_,a=some (.dic ks xs)/\b=some (.dic cg b_)/\ks.Nodup/\ks.length=xs.length/\((ks.length=cg.length/\cf f cg b_ ks xs=some k)\/(ks.length≠cg.length/\k=false)):=by
 unfold cT at h
 split at h
 ·rename_i ks xs cg b_
  split at h
  ·rename_i c
   split at h
   ·rename_i c';exact ⟨_,_,_,_,rfl,rfl,c.1,c.2,.inl ⟨c',h⟩⟩
   ·rename_i c';cases h;exact ⟨_,_,_,_,rfl,rfl,c.1,c.2,.inr ⟨c',rfl⟩⟩
  ·cases h
 ·cases h
def E8 (I:Inv X pins U H s) (S:a_ X.K mg ρ H st):∀(n:Nat) (x y:PV) (v:V) (b:Bool),eqT st n x y=some b->R X.K mg ρ H x v->R X.K mg ρ H y v->b=true:=by
 intro n
 induction n with
 |zero=>intro x y v b h;cases h
 |succ n ih =>
  intro x y v b h rx ry
  cases zjH h with
  |num a c=>cases rx;cases ry;simp
  |txt a c=>cases rx;cases ry;simp
  |row h0 =>
   obtain ⟨a,vs,rfl,h1,h2⟩:=rx
   obtain ⟨a',ws,e,h3,h4⟩:=ry
   cases e
   have:=I.tuple_inj h1 h3
   subst this
   exact EY (λx y v b=>ih x y v b) h0 h2 h4
  |@rec_ i j _ h0 =>
   obtain ⟨a,rfl,h1⟩:=rx
   obtain ⟨a',e,h2⟩:=ry
   cases e
   obtain rfl:=QV S.nd h1 h2
   obtain ⟨ks,xs,cg,b_,e1,e2,nd,hl,hc⟩:=Aq h0
   rw [e1] at e2
   cases e2
   obtain ⟨vs,_,k2,_⟩:=S.addr e1 h1
   rcases hc with ⟨_,hc⟩|⟨hc,_⟩
   ·exact EZ (λx v b e r=>ih x x v b e r r) (E1 nd) hc k2
   ·exact absurd rfl hc
  |apart hx hy cM=>exact absurd (Q0 I (Kn.of S rx hx) (Kn.of S ry hy)) cM
theorem Av {A:Around}{f:PV->PV->Option Bool}(hf:∀x y v w u u' b,f x y=some b->R K mg ρ H x v->R K mg ρ H y w->RelV v u->RelV w u'->dY X.prog X.w A s u u' b) {cg:Ad}{b_:An}{ws:List V}{kb:List (Key×Value)}(r':Rs K mg ρ H b_ ws) (Aw:KV (kz cg ws) kb) :
  ∀{ks:Ad} {xs:An} {vs:List V} {ka:List (Key×Value)} {b:Bool},ks.length=vs.length->Rs K mg ρ H xs vs->KV (kz ks vs) ka->cf f cg b_ ks xs=some b->cy X.prog X.w A s kb ka b
 |[],xs,[],ka,b,_,_,kv,h=>by
  have:b=true:=by cases xs<;>(cases h;rfl)
  subst this
  cases kv
  exact .nil
 |[],xs,_::_,ka,b,hl,_,_,_=>by simp at hl
 |k::ks,xs,[],ka,b,hl,_,_,_=>by simp at hl
 |k::ks,xs,v::vs,ka,b,hl,r,kv,h=>by
  obtain ⟨u,Yf,rfl,ru,Q3⟩:=y_ kv
  cases xs with
  |nil=>cases r
  |cons x xs =>
   obtain ⟨v',Yg,e,r1,r2⟩:=r
   cases e
   simp only [cf] at h
   have hv:=Aw.val (Sum.inr k)
   rw [sD] at hv
   cases hl2:(cg.zip b_).lookup k with
   |none =>
    rw [hl2] at h
    cases h
    rw [E2 r' hl2] at hv
    cases hu:valueAt kb (Sum.inr k) with
    |none=>exact .miss hu
    |some _=>rw [hu] at hv;exact (show False from hv).elim
   |some y =>
    rw [hl2] at h
    simp only at h
    cases h1:f x y with
    |none=>rw [h1] at h;cases h
    |some a =>
     cases h2:cf f cg b_ ks xs with
     |none=>rw [h1,h2] at h;cases h
     |some c =>
      rw [h1,h2] at h
      cases h
      obtain ⟨w,hw,rw'⟩:=ke r' hl2
      rw [hw] at hv
      cases hu:valueAt kb (Sum.inr k) with
      |none=>rw [hu] at hv;exact (show False from hv).elim
      |some u' =>
       rw [hu] at hv
       exact .hit hu (hf x y v w u u' a h1 r1 rw' ru hv) (Av hf r' Aw (by simpa using hl) r2 Q3 h2)
def E9 (I:Inv X pins U H s) (S:a_ X.K mg ρ H st):∀(n:Nat) (x y:PV) (v w:V) (u u':Value) (b:Bool) (A:Around),eqT st n x y=some b->R X.K mg ρ H x v->R X.K mg ρ H y w->RelV v u->RelV w u'->A.units+n<cLine ->
  dY X.prog X.w A s u u' b/\cG X.prog X.w A s u u' b:=by
 intro n
 induction n with
 |zero=>intro x y v w u u' b A h;cases h
 |succ n ih =>
  intro x y v w u u' b A h rx ry rv rw hu
  cases zjH h with
  |num a c=>cases rx;cases ry;obtain ⟨t,rfl⟩:=rv;obtain ⟨t',rfl⟩:=rw;exact ⟨λE Q q=>SeqAt.EqAt.int_int a t c t' _ _ E Q q,λE Q q=>SeqAt.RcAt.int_int a t c t' _ _ E Q q⟩
  |txt a c=>cases rx;cases ry;obtain ⟨t,rfl⟩:=rv;obtain ⟨t',rfl⟩:=rw;exact ⟨λE Q q=>SeqAt.EqAt.str_str a t c t' _ _ E Q q,λE Q q=>SeqAt.RcAt.str_str a t c t' _ _ E Q q⟩
  |row h0 =>
   obtain ⟨a,vs,rfl,h1,h2⟩:=id rx
   obtain ⟨a',ws,rfl,h3,h4⟩:=id ry
   cases rv
   cases rw
   obtain ⟨its,r1,p1,_⟩:=I.tuple h1
   obtain ⟨aS,r2,p2,_⟩:=I.tuple h3
   obtain ⟨e,he,hb⟩:=EX h0
   have it:=QY (G:=dY X.prog X.w A.in1 s) (λx y v w u u' b e r1 r2 r3 r4=>(ih x y v w u u' b A.in1 e r1 r2 r3 r4 (by rw [oU];omega)).1) h2 h4 r1 r2 he
   have eb:((List.range (min its.toArray.size aS.toArray.size)).all e&&its.toArray.size==aS.toArray.size)=b:=by
    rw [h2.len,h4.len,r1.length,r2.length] at hb
    simpa using hb
   have rc:cG X.prog X.w A s (.ref a) (.ref a') b:=by
    rw [<-eb]
    exact cG.tuples (show s.heap.IsTuple a its.toArray from p1) (show s.heap.IsTuple a' aS.toArray from p2) (by omega) it
   refine ⟨?_,rc⟩
   by_cases dW:a=a'
   ·subst dW
    rw [E8 I S (n+1) _ _ _ _ h rx ry]
    exact λE Q q=>SeqAt.EqAt.same _ _ _ E Q q
   ·exact .of_refs dW rc
  |@rec_ i j _ h0 =>
   obtain ⟨a,rfl,h1⟩:=id rx
   obtain ⟨a',rfl,h2⟩:=id ry
   cases rv
   cases rw
   obtain ⟨ks,xs,cg,b_,e1,e2,nd,hl,hc⟩:=Aq h0
   obtain ⟨vs,k1,k2,k3⟩:=S.addr e1 h1
   obtain ⟨ws,k4,k5,k6⟩:=S.addr e2 h2
   obtain ⟨_,s1,ka,pJ,da⟩:=jj I.hok (.inl k1)
   obtain ⟨_,s2,kb,pL,db⟩:=jj I.hok (.inl k4)
   have la:ka.length=ks.length:=by rw [<-pJ.length];simp [kz,k3]
   have lb:kb.length=cg.length:=by rw [<-pL.length];simp [kz,k6]
   have both:cG X.prog X.w A s (.ref a) (.ref a') b:=by
    rcases hc with ⟨iw,hc⟩|⟨iw,rfl⟩
    ·have hits:ka.length=kb.length->cy X.prog X.w A.in1 s kb ka b:=λ_=>Av (λx y v w u u' b e r1 r2 r3 r4=>(ih x y v w u u' b A.in1 e r1 r2 r3 r4 (by rw [oU];omega)).1) k5 pL k3 k2 pJ hc
     have hV:(ka.length==kb.length&&b)=b:=by rw [la,lb,iw];simp
     rw [<-hV]
     exact cG.recs s1 s2 da db (by omega) hits
    ·have hV:(ka.length==kb.length&&true)=false:=by rw [la,lb];simpa using iw
     rw [<-hV]
     exact cG.recs s1 s2 da db (by omega) λz=>absurd (by rw [<-la,<-lb];exact z) iw
   refine ⟨?_,both⟩
   by_cases dW:a=a'
   ·subst dW
    rw [E8 I S (n+1) _ _ _ _ h rx ry]
    exact λE Q q=>SeqAt.EqAt.same _ _ _ E Q q
   ·exact .of_refs dW both
  |apart hx hy cM=>exact Q1 I (Kn.of S rx hx) (Kn.of S ry hy) rv rw cM (by omega)
def jJ:Am:=λx y st=>match eqT st 150 x y with
 |some b=>.ok (.bl b) st
 |none=>.stuck
def Q4 (K:Frag) (mg:Ab):R2:=λv w H Q=>∃ρ st x y b,a_ K mg ρ H st/\eqT st 150 x y=some b/\R K mg ρ H x v/\R K mg ρ H y w/\Q (.bl b) H
def Q5 (hu:X.A.units+200<cLine):bq X (compareOp .Eq) (Q4 X.K X.mg):=by
 intro pins s U H x y v u Q I rx ry h
 obtain ⟨ρ,st,a,b,k,S,e,ra,rb,q⟩:=h
 exact (E9 I S 150 a b x y v u k X.A e ra rb rx ry (by omega)).2 _ _ ⟨.bl k,H,I,rfl,q⟩
def zb9 (hu:X.A.units+200<cLine):bL X .Eq jJ:=⟨_,Q5 hu,fun ρ H st x y v w Q E s rx ry h=>by
 unfold jJ at h
 cases e:eqT st 150 x y with
 |none=>rw [e] at h;exact h.elim
 |some b=>rw [e] at h;exact ⟨ρ,st,x,y,b,s,e,rx,ry,h.now s _ rfl⟩⟩
end
section
variable {X:Cx} {Er:XK} {mg:Ab} {ρ:Ae} {pins:Ac} {U:L2.St} {H:Hp} {s:Shared} {st:aa} {o:Expr} {fo:Ai} {apos aK p0 pM:Pos}
open Classical in
open Classical in
theorem E_:∀{ks:Ad}{vs:List V}{kv:List (Key×Value)},ks.length=vs.length->KV (kz ks vs) kv->Vals vs (kv.map (·.2))
 |[],[],_,_,h=>by cases h;exact .nil
 |[],_::_,_,hl,_=>by simp at hl
 |_::_,[],_,hl,_=>by simp at hl
 |k::ks,v::vs,kv,hl,h=>by
  obtain ⟨u,r,rfl,h1,h2⟩:=y_ h
  exact .cons h1 (E_ (by simpa using hl) h2)
def Q6 (to:TE):TE:=λU H Q=>to U H λx H1=>∃a ks vs,x=.ref a/\H1 a=some (.dK (kz ks vs))/\ks.length=vs.length/\∀l,H1 l=none->Q (.ref l) (upd H1 l (.lst vs))
def Q7 {to:TE} (hc:X.calm=true) (Ax:Gl X "list") (Ay:X.mg "list" = none) (ho:PE X o to) (bf:attributeBase o "values" X.env (eval o X.env)=eval o X.env) (bw:(apos.endLine==aK.line)=true) :
  PE X (.Call (.Name "list" p0) [.Call (.Attribute o "values" apos) [] [] aK] [] pM) (Q6 to):=by
 intro pins s U H Q I h
 refine PyProof.Rows.Call_ (kH I Ax Ay Em (PyProof.Rows.callWith_type1 ?_ rfl rfl))
 show wpAny _ _ (spliced ((false,eval (.Call (.Attribute o "values" apos) [] [] aK) X.env)::backTo pM (starEach [] X.env))) _ _ s
 refine Calls.spliced_cons ?_
 refine wpAny_Call_method0_late bf bw (aR (ho pins s U H _ I h) λv s1 ⟨x,H1,I1,r1,q1⟩=>?_)
 obtain ⟨a,ks,vs,rfl,e,hl,q⟩:=q1
 obtain rfl:v=Value.ref a:=r1
 obtain ⟨hz,lo,kv,fY,hd⟩:=jj I1.hok (.inl e)
 obtain ⟨ep,de⟩:=hd.dictAt
 refine ⟨"dict", "dict.values", PySem.F.plainAttrs_dict,PySem.F.slot_dict_values,PySem.F.type_dict_values,?_,?_,Calls.callWith_builtin rfl (PySem.evalArgs_none (call_meetsIn PySem.F.slot_dict_values hd.typeIs PySem.F.entry_dict_values (PySem.F.args_dict_values_1 _) (meets_dict_values (aU X.prog X.w) a lo) ⟨⟨kv,hd⟩,?_⟩))⟩
 ·exact (mq I1 (x:=.ref a) rfl (.inr (.inr (.inl ⟨rfl,.inl ⟨_,e⟩⟩)))).1
 ·exact (mq I1 (x:=.ref a) rfl (.inr (.inr (.inl ⟨rfl,.inl ⟨_,e⟩⟩)))).2
 refine Calls.spliced_nil ?_
 have hle:s1.heap.objs.size<=(s1.heap.push { cls:=.type "dict_values", data:=.fields #[.ref a] }).objs.size:=by rw [Heap.size_push];exact Nat.le_succ _
 refine kdl_call (s:={ s1 with heap:=s1.heap.push { cls:=.type "dict_values", data:=.fields #[.ref a] } }) (kdl_values (knd:=aU X.prog X.w) (kvs:=kv) (ep:=ep)) (I.ok.hd hc) ⟨⟨_,yK _ rfl,rfl,rfl⟩,de.push _⟩ (by rw [<-fY.length];exact hz) λh' tk pN c' hk hS l7=>?_
 have ev:pN.toList=kv.map (·.2):=kdl_vals_eq _ (by rw [Array.length_toList];exact l7.1) λj u e=>l7.2 j u (by rw [<-Array.getElem?_toList];exact e)
 have hv:Vals vs pN.toList:=by rw [ev];exact E_ hl fY
 have lv:vs.length<=sizeLine:=by
  have:(kz ks vs).length=vs.length:=by simp [kz,hl]
  rw [<-this];exact hz
 exact ⟨.ref _,_,I1.laid (t':=tk) (λb ob eb=>hk b ob (zU _ eb)) hle (show aX X.prog X.w _ h' _ (.lst vs) from ⟨lv,pN.toList,c',hv,by simpa using hS⟩),rfl,q _ (I1.hok.fresh hle)⟩
def Az:PV->Mo PV
 |.ref n,st=>yR st n λ_ xs=>.ok (.ref st.length) (st++[.lst xs])
 |_,_=>.stuck
def Q8 (hc:X.calm=true) (Ay:X.mg "list" = none) (ho:ME X Er o fo) (Ax:Gl X "list" := by rfl) (bf:attributeBase o "values" X.env (eval o X.env)=eval o X.env:=by rfl) (bw:(apos.endLine==aK.line)=true:=by rfl) :
  ME X Er (.Call (.Name "list" p0) [.Call (.Attribute o "values" apos) [] [] aK] [] pM) (yx Az fo) :=
 PE.weak (Q7 hc Ax Ay ho bf bw) λU H Q ⟨env,st,ρ,re,rs,h⟩=>⟨env,st,ρ,re,rs,h.then λae H1 x st1 e1 s1 h1 v rv=>by
  cases x with
  |ref n =>
   obtain ⟨ks,xs,e,h1⟩:=lh h1
   obtain ⟨a,vs,rfl,_,k1,k2,k3⟩:=R.refD s1 rv e
   exact ⟨a,ks,vs,rfl,k1,k3,λl hl=>Out.newList (xs:=xs) h1 s1 k2 hl⟩
  |_=>exact h1.elim⟩
end
end Mi
namespace L2
open PySem PySem.Spec PyProof.Rows
def Q9 (iy:Nat) (wi:TI) (te:TE):TS:=λD U H=>wi U H λJ H1=>kO J te U (λv H2=>D.nx (U.set iy (some v)) H2) H1
def Q_ {X:Cx} {elt iter:Expr} {x y:Str} {px pos pos' fB:Pos} {scope:Scope} {wi:TI} {te:TE} {M:Ad} {iy:Nat} (hc:X.calm=true) (S:cq X.env.scope scope x) (eN:Hid scope M X.N) (cE:((".0" : Str)::x::M).Nodup)
  (hi:PI X (.Name x px) iter wi) (he:∀cl C af ai fp,PE (iV X M scope cl x C af ai fp (λ_ _=>False)) elt te) (pO:X.N.Nodup) (pP:X.N[iy]?=some y) (hy:Loc X.env.scope y) (pQ:X.fn y=true\/X.env.scope.names.lookup y=some .local)
  (d8:swapsWith (.ListComp elt [⟨.Name x px,iter,[],0⟩] scope pos) (some (.Name y pos')) fB.line X.env=pure true) (hs:∀v,foldedSetIterable iter X.env v=pure v:=by intro _;rfl):PS X (.Assign [.Name y pos'] (.ListComp elt [⟨.Name x px,iter,[],0⟩] scope pos) fB) (Q9 iy wi te):=by
 intro pins s U H Dn I h
 have hN:(x::M).Nodup:=(wb.mp cE).2
 have vM:(".0" : Str)∉M:=λz=>(wb.mp cE).1 (yz _ z)
 obtain ⟨cl,kQ,cQ,iY⟩:=Dq X.env scope λp hp hf=>I.ok.has p.1 (.inl (S.free p hp hf))
 have kR:X.env.scope.kind=.function:=I.ok.kind
 rw [exec_Assign_Name_used _ _ _ _ d8]
 refine zm (wpAny_standAt ?_)
 rw [arm_evalThenUse_ListComp]
 refine zm (zm (wpAny_comprehension_free (Q:=λ_ s'=>wpAny (model X.prog X.w) X.A (pure ():Sem Unit) (λ_ s'=>wpAny (model X.prog X.w) X.A (pure .next:Sem Flow) (SP X pins Dn) X.xe s') X.xe s') (use:=some (assign (.Name y pos') X.env)) rfl hs kQ S.kind (λy hy hl=>(S.names y hy hl).1) ?_))
 refine aR (hi pins s U H _ I h) λv s1 h1=>aR h1 λrj af h2=>?_
 obtain ⟨it,fp,tn,J,H2,e,I2,T,av,f2,W,⟨m0,w0⟩,turn⟩:=h2
 subst e
 refine g8 (wpAny_newFunctionEnv S.ncell (by intro y hy;simp at hy) (λaw aB az=>?_) S.kind)
 dsimp only at aB az ⊢
 generalize gu:af.heap.push { cls:=.type "list", dict:=none,data:=.seq ([]:Af).toArray }=G2 at aB az ⊢
 have hC:G2.objs.size=af.heap.objs.size+1:=by rw [<-gu,Heap.size_push]
 have gv:af.heap.objs.size≠G2.objs.size:=by rw [hC];exact yw (wy _)
 have Dw:af.heap.objs.size<=G2.objs.size:=by rw [hC];exact Nat.le_succ _
 have old:∀b o,af.heap.get? b=some o->aw.get? b=some o:=λb o e=>by
  have hb:b≠G2.objs.size:=by rw [hC];exact yw (Nat.lt_succ_of_lt (yc e))
  exact az.extBut b o hb (zU _ (gu▸zU _ e))
 have gX:aw.get? af.heap.objs.size=some { cls:=.type "list", data:=.seq (#[]:Array Value) 0 }:=az.extBut _ _ gv (zU _ (gu▸yK _ rfl))
 generalize hD:af.heap.objs.size=D at *
 generalize hCC:G2.objs.size=C at *
 have dS:∀{b:Nat} {o:Obj},af.heap.get? b=some o->b<D:=λe=>by rw [<-hD];exact yc e
 have nofr:∀b,D<=b->b∉cN X.stack:=λb hb z=>by
  rcases yE.mp (I2.stkSub b z) with q|q
  ·exact Dj I2.lt hD hb q
  ·exact I2.nofs (by rw [hD];exact hb) q
 let E':Aa:=notedBy (model X.prog X.w) X.A (compEnvC scope cl C X.env) λe s'=>compPost (model X.prog X.w) X.A X.xe (some (assign (.Name y pos') X.env)) (λ_ s'=>wpAny (model X.prog X.w) X.A (pure ():Sem Unit) (λ_ s'=>wpAny (model X.prog X.w) X.A (pure .next:Sem Flow) (SP X pins Dn) X.xe s') X.xe s') (.ref D) C (.error e) s'
 let Y:Cx:=iV X M scope cl x C af H2 fp E'
 have dj:∀b∈fp,cO X pins H2 b:=f2
 have kS:Y.Ok:=by
  refine ⟨I2.ok.mod,S.kind,I2.ok.glob,I2.ok.blt,(by show af.heap.objs.size<=C;omega),λy z c h1 h2=>?_,λy hy=>?_,λy c hf=>?_,I2.ok.hd,I2.ok.frames,.inl rfl,λb hb=>?_,I2.bs,jg I2.ok.bsz I2.sz,λb o hb hx=>?_,λb hb hx=>?_,I2.stack,I2.stkFree⟩
  ·exact I2.ok.inj y z c (cQ y c h1) (cQ z c h2)
  ·exact iY y (vH S kR hy)
  ·cases hf
  ·refine ⟨λz=>?_,λy c hy=>(dj b hb).2.2.2.2.1 y c (cQ y c hy)⟩
   obtain ⟨o,ho,_⟩:=T.obj 0 _ av b hb
   exact kN (dS ho) hC z
  ·rcases (dj b hx).2.2.2.1 with z|z
   ·exact I2.ok.noex b o hb z
   ·exact Dl (yc hb) I2.ok.bsz z
  ·rcases yE.mp (I2.stkSub b hx) with q|q
   ·exact (dj b hb).2.1 q
   ·exact (dj b hb).2.2.1 q
 have fg:∀{s':Shared} {H':Hp} {o:Obj},s'.heap.get? D=some o->H' D=none->(∀v,o.data ≠ .cell v)->∀p∈[(D,o)],s'.heap.get? p.1=some p.2/\H' p.1=none/\p.1≠Y.env.locals/\p.1∉Y.fs/\∀v,p.2.data ≠ .cell v:=λ{s' H' o} e1 e2 e3 p hp=>by
  have ep:p=(D,o):=by simpa using hp
  subst ep
  exact ⟨e1,e2,gv,nofr D (z0 _),e3⟩
 have I0:Inv Y [(D,{ cls:=.type "list", data:=.seq (#[]:Array Value) 0 })] (none::U) H2 { af with heap:=aw,toks:=af.toks+([]:List (Str×Value)).length }:=by
  have fresh:∀b,D<=b->H2 b=none:=λb hb=>I2.hok.fresh (by rw [hD];exact hb)
  refine ⟨kS,rfl,I2.bare,Un.kept old,⟨_,aB,λi y v e1 e2 e3=>?_⟩,λy c hy=>?_,fresh C (by omega),λy c hy=>I2.freeC y c (cQ y c hy),λp hp=>fg gX (fresh D (z0 _)) (λv z=>by cases z) p hp,I2.hok.kept old,?_⟩
  ·cases i with
   |zero=>simp at e2
   |succ i =>
    have oj:M[i]?=some y:=by simpa [Y,iV] using e1
    have om:X.N[i]?=some y:=by
     rcases eN.get oj with q|q
     ·exact q
     ·refine absurd ?_ q
      rcases e3 with e3|e3|e3<;>(obtain ⟨k0,hm,_⟩:=iW e3;exact wP.mpr ⟨_,hm,rfl⟩)
    have mx:U[i]?=some (some v):=by simpa using e2
    have iZ:¬(y=x\/y = ".0"):=λz=>by
     have hm:=jG oj
     rcases z with z|z
     ·rw [z] at hm
      exact (wb.mp hN).1 hm
     ·rw [z] at hm
      exact vM hm
    have cL:(y,NameKind.free)∈scope.names:=by
     rcases e3 with e3|e3|e3
     ·exact absurd (Dr S e3) iZ
     ·exact vH S kR (.inl e3)
     ·exact vH S kR (.inr e3)
    have ou:X.env.scope.names.lookup y=some .cell:=S.free _ cL rfl
    obtain ⟨m,hn,hl⟩:=I2.loc
    obtain ⟨u,r,l⟩:=hl i y v om mx (.inr (.inl ou))
    refine ⟨u,r,?_⟩
    rcases l with ⟨hk,_⟩|⟨_,c,iO,dC⟩
    ·have:X.env.kindOf y=some .cell:=ou
     rw [this] at hk;cases hk
    ·obtain ⟨c',cA⟩:=iY y cL
     have:=cQ y c' cA
     rw [iO] at this
     cases this
     refine .inr ⟨?_,c,cA,?_⟩
     ·rcases e3 with e3|e3|e3
      ·exact absurd (Dr S e3) iZ
      ·exact .inl e3
      ·exact .inr e3
     ·obtain ⟨o,ho,hd⟩:=dC
      exact ⟨o,old c o ho,hd⟩
  ·obtain ⟨v,o,ho,hd⟩:=I2.cell y c (cQ y c hy)
   exact ⟨v,o,old c o ho,hd⟩
  ·show (none::U).length=(x::M).length
   simp [I2.len,eN.1]
 have kT:∀{pl:Ac} {H':Hp},(∀p∈pl,p.1=D)->(∀b∈fp,H' b=none)->∀b∈fp,cO Y pl H' b:=λ{pl H'} bu hn b hb=>by
  obtain ⟨o,ho,_⟩:=T.obj 0 _ av b hb
  refine ⟨hn b hb,λz=>?_,?_,.inl hb,(kS.exf b hb).2,λp hp z=>?_⟩
  ·exact kN (dS ho) hC z
  ·exact kS.exfs b hb
  ·have hp':p∈pl:=by simpa [Y,iV] using hp
   exact Dm (dS ho) (bu p hp') z
 have loop:codeAny (model X.prog X.w) X.A (.compLoop (.ListComp elt [⟨.Name x px,iter,[],0⟩] scope pos) 0 (.ref it) (.ref D) (compEnvC scope cl C X.env))
   (compPost (model X.prog X.w) X.A X.xe (some (assign (.Name y pos') X.env)) (λ_ s'=>wpAny (model X.prog X.w) X.A (pure ():Sem Unit) (λ_ s'=>wpAny (model X.prog X.w) X.A (pure .next:Sem Flow) (SP X pins Dn) X.xe s') X.xe s') (.ref D) C) { af with heap:=aw,toks:=af.toks+([]:List (Str×Value)).length }:=by
  refine M8 (λn s'=>∃i ys H' its k,Inv Y [(D,{ cls:=.type "list", data:=.seq (its:Af).toArray k })] (none::U) H' s'/\Vals ys its/\tn i s'.heap/\(∀b∈fp,H' b=none)/\W i n ys H') ?_ m0
   ⟨0,[],H2,[],0,I0,.nil,T.keep 0 _ _ av (λb hb o e=>old b o e),λb hb=>(dj b hb).1,w0⟩
  rintro n s3 ⟨i,ys,H3,its,k,I3,rv,bb,iR,w3⟩
  have fM:∀{o:Obj},∀p∈[(D,o)],p.1=D:=λ{o} p hp=>by
   have ep:p=(D,o):=by simpa using hp
   rw [ep]
  obtain ⟨gD,nD,_,_,_⟩:=I3.pin (D,_) (yX _ yj)
  rcases turn i n ys H3 w3 with ⟨stop,hz,q⟩|⟨go,hz,step⟩
  ·refine aR (T.done Y rfl rfl rfl hc i _ s3 _ H3 E' I3 (kT fM iR) bb stop) λr s4 ⟨hr,I4⟩=>?_
   subst hr
   obtain ⟨vN,kU,_,_,_⟩:=I4.pin (D,_) (yX _ yj)
   obtain ⟨m4,vO,_⟩:=id I4.loc
   have fin:∀h',Heap.SameBut C s4.heap h'->Inv X pins U (upd H3 D (.lst ys)) { s4 with heap:=h' }:=λh' dm=>by
    have gn:∀{b:Addr} {u:HO},H3 b=some u->b≠C:=λe z=>by
     have:H3 C=none:=I4.free
     rw [z,this] at e;cases e
    refine I2.call' (s':={ s4 with heap:=h' }) (ch:=fp) (H':=upd H3 D (.lst ys)) I4.os ?_ ?_ I4.bare λb hb=>⟨(dj b hb).2.2.2.1,(dj b hb).2.1,(dj b hb).2.2.2.2.1,(dj b hb).2.2.2.2.2⟩
    ·have B:=I4.base
     have kW:∀{b:Nat} {o:Obj},af.heap.get? b=some o->b≠C:=λe z=>kN (dS e) hC z
     have gw:∀{b:Addr} {u:HO},H3 b=some u->b≠D:=λe z=>by rw [z,kU] at e;cases e
     refine ⟨λb o e nn hb hx=>(dm.2 b (kW e)).trans (B.keep b o e nn hb hx),λb o e nn hb hx=>?_,λb o e nn hx=>?_,λb o e hx=>?_,λb xs e=>?_,λb o u e=>?_,λb ps e=>?_⟩
     ·obtain ⟨sl,z⟩:=B.slot b o e nn hb hx
      exact ⟨sl,(dm.2 b (kW e)).trans z⟩
     ·have vP:b≠D:=yw (dS e)
      rw [zO vP]
      exact B.free b o e nn hx
     ·obtain ⟨o',z⟩:=B.there b o e hx
      exact ⟨o',(dm.2 b (kW e)).trans z⟩
     ·have z:=B.tups b xs e
      rw [zO (gw z)];exact z
     ·have z:=B.frzs b o u e
      rw [zO (gw z)];exact z
     ·obtain ⟨more,z⟩:=B.tbls b ps e
      exact ⟨more,by rw [zO (gw z)];exact z⟩
    ·intro a o e
     by_cases ha:a=D
     ·subst ha
      rw [yv] at e
      cases e
      exact ⟨hz,its,k,rv,(dm.2 _ gv).trans vN⟩
     ·rw [zO ha] at e
      have eG:∀b u,H3 b=some u->(upd H3 D (.lst ys)) b=some u:=λb u z=>by
       have hb:b≠D:=λw=>by rw [w,kU] at z;cases z
       rw [zO hb];exact z
      refine (I4.hok a o e).stay (λb u hb z=>(dm.2 b ?_).trans z) (λb z=>eG b _ z) λb xs z=>eG b _ z
      rcases hb with hb|hb
      ·rw [hb];exact gn e
      ·exact gn hb
   have Ra:C≠D:=λz=>gv z.symm
   have IX:=fin s4.heap ⟨rfl,λ_ _=>rfl⟩
   obtain ⟨oC,eC,pC,gC,rC⟩:=id vO
   have Fb:upd H3 D (.lst ys) C=none:=by rw [zO Ra];exact I4.free
   have AA:∀b o,af.heap.get? b=some o->b≠C:=λb o e z=>kN (dS e) hC z
   have mF:C≠X.env.locals:=λz=>by
    obtain ⟨m2,cX,_⟩:=id I2.loc
    obtain ⟨o2,_,_,g2,_⟩:=cX
    exact AA _ _ g2 z.symm
   have Rb:C∉X.fs:=I2.nofs (by rw [hD];omega)
   have IP:Inv X (pins++[(C,oC)]) U (upd H3 D (.lst ys)) s4:=IX.pins_of λp hp=>by
    rcases g_.mp hp with hp|hp
    ·exact IX.pin p (yX _ hp)
    ·have ep:p=(C,oC):=by simpa using hp
     subst ep
     exact ⟨gC,Fb,mF,Rb,λv z=>by rw [rC.1] at z;cases z⟩
   show wpAny _ _ (assign (.Name y pos') X.env (.ref D)) _ _ s4
   have b8:wpAny (model X.prog X.w) X.A (assign (.Name y pos') X.env (.ref D)) (λ_ s5=>Inv X (pins++[(C,oC)]) (U.set iy (some (.ref D))) (upd H3 D (.lst ys)) s5) X.xe s4:=wpAny_assign_Name (mi IP pO pP hy (v:=.ref D) rfl (λs5 I5=>I5) pQ)
   refine aR b8 λ_ s5 I5=>?_
   have g5:=(I5.pin (C,oC) (yX _ (yX _ yj))).1
   refine ⟨m4,⟨oC,eC,pC,g5,rC⟩,λYh dm=>zK (zK ⟨_,_,?_,q D kU⟩)⟩
   exact (I5.pins_of (pins':=pins) λp hp=>I5.pin p (yX _ (iI _ hp))).turned (it:=C) (t':=s5.toks) (λb o hb e=>(dm.2 b hb).trans e) Fb mF
    (.inr (by have:=I2.sz;rw [hD] at this;omega)) (λa c ha z=>by
     obtain ⟨v',o',ho',_⟩:=I2.cell a c ha
     exact AA _ _ ho' z) (λp hp=>AA _ _ (I2.pin p hp).1)
  ·refine aR (T.item Y rfl rfl rfl hc i _ s3 _ H3 E' I3 (kT fM iR) bb go) λr s4 ⟨u,hr,h4⟩=>?_
   subst hr
   refine aR h4 λ_ s5 ⟨z,H5,I5,r5,y5,cW,nS⟩=>?_
   have nU:=I5.pinned (kT fM nS) (T.obj _ _ cW)
   have kX:PG Y (.Name x px) (iQ 0):=kJ (X:=Y) hN rfl (.inl (iH S.hx)) (.inr (iH S.hx))
   have vQ:PE Y elt te:=PE.nox (X:=Y) (he cl C af H2 fp)
   refine aR (kX _ s5 (none::U) H5 z u (λah H'=>ah=some z::U/\H'=H5) nU r5 ⟨rfl,rfl⟩) λ_ s6 ⟨aF,H6,I6,e1,e2⟩=>?_
   subst e1 e2
   refine aR (vQ _ s6 _ _ _ I6 (step z _ y5)) λuy s7 ⟨y,H7,I7,ry,m',hm,w7⟩=>?_
   obtain ⟨oy,kY,_,_,_⟩:=I7.pin (D,_) (yX _ (iI _ yj))
   refine wpAny_list_append_plain ⟨k,oy⟩ (λh' bu dm=>?_) (by rw [yH,<-rv.length];exact hz)
   obtain ⟨k',oz⟩:=bu
   have I8:Inv Y [] (some z::U) H7 { s7 with heap:=h' }:=(I7.pins_of (pins':=[]) (λp hp=>nomatch hp)).turned (it:=D) (t':=s7.toks) (λb o hb e=>(dm.2 b hb).trans e) kY gv
    (.inr (by show af.heap.objs.size<=D;omega)) (λa c hy oA=>by
     obtain ⟨v',o',ho',_⟩:=I2.cell a c (cQ a c hy)
     exact yw (dS ho') oA) (λp hp=>by simp [Y,iV] at hp)
   have I9:Inv Y [] (none::U) H7 { s7 with heap:=h' }:=I8.weak (by simp) λj v e=>by
    cases j with
    |zero=>simp at e
    |succ j=>simpa using e
   have dG:∀b∈fp,∃o,s5.heap.get? b=some o/\s7.heap.get? b=some o/\H7 b=none:=λb hb=>by
    obtain ⟨o,e,_⟩:=T.obj _ _ cW b hb
    have q:=I7.pin (b,o) (yX _ (yX _ (nR hb e)))
    exact ⟨o,e,q.1,q.2.1⟩
   have vR:∀b∈fp,b≠D:=λb hb=>by
    obtain ⟨o,ho,_⟩:=T.obj 0 _ av b hb
    exact yw (dS ho)
   have eT:its.toArray.push uy=(its++[uy]).toArray:=by simp
   rw [eT] at oz
   refine ⟨m',hm,i+1,ys++[y],H7,its++[uy],k',I9.pins_of (fg oz kY λv e=>by cases e),rv.append (.cons ry .nil),T.keep (i+1) _ _ cW λb hb o e=>?_,λb hb=>?_,w7⟩
   ·obtain ⟨o',e1,e2,_⟩:=dG b hb
    rw [e] at e1
    cases e1
    exact (dm.2 b (vR b hb)).trans e2
   ·obtain ⟨_,_,_,q⟩:=dG b hb
    exact q
 exact codeAny_compStart_list loop (T.self X.A 0 _ _ _ (T.keep 0 _ _ av (λb hb o e=>old b o e)) loop)
end L2
namespace Mi
open PySem L2 PySem.W PySem.Spec
section
variable {X:Cx} {Er:XK} {pos:Pos}
def Rf (X:Cx) (Er:XK) (src:zd->Mo Sq):TI:=λU H R=>∃env st ρ,bp X.K X.mg ρ H env U/\a_ X.K X.mg ρ H st/\Out X.K X.mg ρ H (src env st) (λag H' q aP=>∀J,Walk X.K X.mg J ag H' q->R J H') Er
def Rg {src:zd->Mo Sq}{fe:Ai}(U:L2.St) (H:Hp) (Q:VK) (hh:tM X.K X.mg Er (yB src fe) U H Q):vI (Rf X Er src) (tM X.K X.mg XN fe) U H Q:=by
 obtain ⟨env,st,ρ,re,rs,h⟩:=hh
 refine ⟨env,st,ρ,re,rs,h.then λar H0 q dz e0 s0 h0 J wk=>?_⟩
 cases q with
 |im xs =>
  obtain ⟨hl,h0⟩:=Out.ifp h0
  obtain ⟨w1,w2,w3⟩:=wk
  refine ⟨λi m ys H=>m=xs.length-i/\i<=xs.length/\ys.length=i/\∃ps st ρ,Rs X.K X.mg ρ H ps ys/\a_ X.K X.mg ρ H st/\Ext ar H0 ρ H/\Out X.K X.mg ρ H (bU fe env (xs.drop i) ps st) (gV X.K X.mg Q) Er,⟨xs.length,by simp,jh _,rfl,[],dz,ar,rfl,s0,Ext.refl,h0⟩,?_⟩
  rintro i m ys H ⟨rfl,hi,hy,ps,st,ρ,c_,rs,ex,h⟩
  by_cases bD:i<xs.length
  ·refine .inr ⟨w1 i ρ H ex bD,jq (by omega),λv H' y=>?_⟩
   obtain ⟨x,hx,eX,s2,rx⟩:=w3 i ρ H st v H' ex rs bD y
   have hd:xs.drop i=x::xs.drop (i+1):=by
    rw [jy bD]
    have:=(yu.mp hx).2
    rw [this]
   rw [hd] at h
   simp only [bU] at h
   refine ⟨some x::env,st,ρ,(re.ext (e0.trans (ex.trans eX))).cons rx,s2,gz (Out.ext h eX) λao H3 y bb e3 s3 h3 v ry=>⟨xs.length-(i+1),by omega,rfl,bD,by simp [hy],ps++[y],bb,ao,Rs.snoc ry (Rs.ext (eX.trans e3) ps c_),s3,(ex.trans eX).trans e3,h3⟩⟩
  ·have e:i=xs.length:=by omega
   subst e
   rw [List.drop_length] at h
   exact .inl ⟨w2 _ ρ H ex (z0 _),jq (by omega),λl hl=>Out.newList h rs c_ hl⟩
 |rf n =>
  obtain ⟨a,ha,rfl⟩:=wk
  refine ⟨λi m ys H=>m+i=lim+1/\ys.length=i/\∃ps st ρ,Rs X.K X.mg ρ H ps ys/\a_ X.K X.mg ρ H st/\Ext ar H0 ρ H/\ρ[n]?=some a/\Out X.K X.mg ρ H (cF fe env n m i ps st) (gV X.K X.mg Q) Er,⟨lim+1,rfl,rfl,[],dz,ar,rfl,s0,Ext.refl,ha,h0⟩,?_⟩
  rintro i m ys H ⟨hm,hy,ps,st,ρ,c_,rs,ex,ha,h⟩
  cases m with
  |zero=>exact h.elim
  |succ m =>
   obtain ⟨xs,hn,h⟩:=jb h
   obtain ⟨vs,hH,hR⟩:=rs.addr hn ha
   cases hx:xs[i]? with
   |none =>
    simp only [hx] at h
    have:vs.length<=i:=by rw [<-hR.len];exact gj.mp hx
    exact .inl ⟨⟨vs,ba.of hH,this⟩,jq (by omega),λl hl=>Out.newList h rs c_ hl⟩
   |some x =>
    simp only [hx] at h
    obtain ⟨v,hv,rv⟩:=hR.get hx
    refine .inr ⟨⟨vs,v,ba.of hH,hv⟩,jq (by omega),λv' H' y=>?_⟩
    obtain ⟨e1,y⟩:=y
    subst e1
    have e2:=y vs (ba.of hH)
    rw [hv] at e2
    cases e2
    exact ⟨some x::env,st,ρ,(re.ext (e0.trans ex)).cons rv,rs,gz h λao H3 y bb e3 s3 h3 v ry=>⟨m,wy m,by omega,by simp [hy],ps++[y],bb,ao,Rs.snoc ry (Rs.ext e3 ps c_),s3,ex.trans e3,e3.get ha,h3⟩⟩
def Rh (i:Nat) {elt iter:Expr} {x y:Str} {px pos' fB:Pos} {scope:Scope} {src:zd->Mo Sq} {fe:Ai} {M:Ad} (hc:X.calm=true) (S:cq X.env.scope scope x) (eN:Hid scope M X.N) (cE:((".0" : Str)::x::M).Nodup)
  (hi:MI X Er (.Name x px) iter src) (he:∀cl C af ai fp,ME (iV X M scope cl x C af ai fp (λ_ _=>False)) XN elt fe) (pO:X.N.Nodup) (pP:X.N[i]?=some y) (hy:Loc X.env.scope y) (pQ:X.fn y=true\/X.env.scope.names.lookup y=some .local)
  (d8:swapsWith (.ListComp elt [⟨.Name x px,iter,[],0⟩] scope pos) (some (.Name y pos')) fB.line X.env=pure true) (hs:∀v,foldedSetIterable iter X.env v=pure v:=by intro _;rfl) :
  MS X Er (.Assign [.Name y pos'] (.ListComp elt [⟨.Name x px,iter,[],0⟩] scope pos) fB) (zV i (yB src fe)) :=
 PS.weak (Q_ (te:=tM X.K X.mg XN fe) hc S eN cE hi (λcl C af ai fp=>he cl C af ai fp) pO pP hy pQ d8 hs) λD U H ⟨env,st,ρ,re,rs,h⟩=>by
  refine Rg (X:=X) (Er:=Er) (src:=src) (fe:=fe) U H (λv H2=>D.nx (U.set i (some v)) H2) ⟨env,st,ρ,re,rs,h.then λae H1 x st1 e1 s1 h1 v rv=>?_⟩
  exact h1.now s1 (U.set i (some v)) ((re.ext e1).set i rv)
def Fc (i:Nat) {elt iter:Expr} {x y:Str} {px pos' fB:Pos} {scope:Scope} {src:zd->Mo Sq} {fe:Ai} {N:Ad} (hc:X.calm=true) (S:cq X.env.scope scope x) (eN:X.N=N) (cE:((".0" : Str)::x::N).Nodup)
  (hi:MI X Er (.Name x px) iter src) (he:∀cl C af ai fp,ME (oi X scope cl x C af ai fp (λ_ _=>False)) XN elt fe) (pO:X.N.Nodup) (pP:X.N[i]?=some y) (hy:Loc X.env.scope y) (pQ:X.fn y=true\/X.env.scope.names.lookup y=some .local)
  (d8:swapsWith (.ListComp elt [⟨.Name x px,iter,[],0⟩] scope pos) (some (.Name y pos')) fB.line X.env=pure true) (hs:∀v,foldedSetIterable iter X.env v=pure v:=by intro _;rfl) :
  MS X Er (.Assign [.Name y pos'] (.ListComp elt [⟨.Name x px,iter,[],0⟩] scope pos) fB) (zV i (yB src fe)) :=
 Rh i hc S Hid.refl (eN▸cE) hi he pO pP hy pQ d8 hs
end
end Mi
namespace L2
open PySem PySem.Spec PyProof.Rows PySem.W
section
variable {X:Cx} {pins:Ac} {U:St} {H:Hp} {s:Shared} {a:Addr} {kvs:List (Key×V)} {o:Obj}
def Inv.freeze (I:Inv X pins U H s) (ha:H a=some (.dK kvs)) (ho:s.heap.get? a=some o):Inv X pins U (upd H a (.frz o (.dK kvs))) s:=by
 have mu:md (H a):=by rw [ha];trivial
 have d:=I.hok a _ ha
 exact I.un (h':=s.heap) (t':=s.toks) (Un.write (e:=a) mu (.inl rfl) (λb u _ q=>q) ⟨o,ho⟩) (bV.write (e:=a) I.hok mu (.inl rfl) (λb u _ q=>q) ⟨o,ho⟩ ⟨ho,d⟩)
def Inv.young (I:Inv X pins U H s) (ha:H a=some (.dK kvs)):∀o u,X.H₀ a≠some (.frz o u):=λo u e=>by
 have:=I.base.frzs a o u e
 rw [ha] at this
 cases this
def Inv.thaw (I:Inv X pins U H s) (ha:H a=some (.frz o (.dK kvs))) (hy:∀o u,X.H₀ a≠some (.frz o u)):Inv X pins U (upd H a (.dK kvs)) s:=by
 have ne:∀b,H b=none->b≠a:=λb n z=>by rw [z,ha] at n;cases n
 have no:∀b u,H b=some u->(∀o k,u ≠ .frz o k)->b≠a:=λb u e n z=>by rw [z,ha] at e;cases e;exact n _ _ rfl
 refine ⟨I.ok,I.os,I.bare,⟨I.base.keep,I.base.slot,λb o e n hx=>?_,I.base.there,λb xs e=>?_,λb o u e=>?_,λb ps e=>?_⟩,I.loc,I.cell,?_,λx c e=>?_,λp hp=>?_,λb u e=>?_,I.len⟩
 ·have:=I.base.free b o e n hx
  rw [zO (ne b this)];exact this
 ·have:=I.base.tups b xs e
  rw [zO (no b _ this λ_ _=>nofun)];exact this
 ·have:=I.base.frzs b o u e
  rw [zO (λz=>hy o u (by rw [<-z];exact e))];exact this
 ·obtain ⟨m,this⟩:=I.base.tbls b ps e
  exact ⟨m,by rw [zO (no b _ this λ_ _=>nofun)];exact this⟩
 ·rw [zO (ne _ I.free)];exact I.free
 ·rw [zO (ne _ (I.freeC x c e))];exact I.freeC x c e
 ·obtain ⟨h1,h2,h3⟩:=I.pin p hp
  exact ⟨h1,by rw [zO (ne _ h2)];exact h2,h3⟩
 ·by_cases hb:b=a
  ·subst hb
   rw [yv] at e
   cases e
   exact (I.hok b _ ha).2
  ·rw [zO hb] at e
   exact (I.hok b u e).stay (λc v _ q=>q) (λc q=>by rw [zO (no c _ q λ_ _=>nofun)];exact q) λc xs q=>by rw [zO (no c _ q λ_ _=>nofun)];exact q
end
def Fd (a:Addr) (o:Obj) (kvs:List (Key×V)):It :=
 ⟨λi H=>H a=some (.frz o (.dK kvs))/\i<kvs.length,λi H x H'=>H'=H/\∃kv,kvs[i]?=some kv/\x=kV kv.1,λi H=>H a=some (.frz o (.dK kvs))/\kvs.length<=i⟩
def Ri {k:Key}{u:Value}(h:di k u=true):RelV (kV k) u:=by
 rcases wA h with ⟨i,t,rfl,rfl⟩|⟨y,t,rfl,rfl⟩
 ·exact ⟨t,rfl⟩
 ·exact ⟨t,rfl⟩
def sL {X:Cx}{pins:Ac}{U:St}{H:Hp}{s:Shared}{a:Addr}{o:Obj}{kvs:List (Key×V)}{es:Array DictEntry}{ep:Nat}(I:Inv X pins U H s) (ha:H a=some (.frz o (.dK kvs))) (hd:o.data=.dict es ep) :
  ∃vs,KV kvs vs/\s.heap.DictAt (aU X.prog X.w) a vs ep:=by
 obtain ⟨ho,_,_,vs,r,o',qZ,mh,e1,e2,e3,e4⟩:=I.hok a _ ha
 rw [ho] at e1
 cases e1
 rw [hd] at e3
 cases e3
 exact ⟨vs,r,o,es,ho,e2,hd,e4⟩
def Rj {P:Program}{w:World}{K:PySem.W.Frag}{tg:Expr}{a it:Addr}{o:Obj}{kvs:List (Key×V)}{es:Array DictEntry}{ep:Nat}(hd:o.data=.dict es ep):Turn P w K tg (Fd a o kvs) [it] it (λi h=>h.IsKeyIter it a i kvs.length ep) where
 mem:=by simp
 obj:=λi h st b hb=>by
  have e:b=it:=by simpa using hb
  subst e
  obtain ⟨o,e,c,d⟩:=st
  exact ⟨o,e,λv z=>by rw [d] at z;cases z⟩
 keep:=λi h h' st k=>st.at λo e=>k it (by simp) o e
 item:=by
  intro X hP hw hK hc i pins s U H E I hf st hg
  subst hP hw hK
  obtain ⟨ha,hi⟩:=hg
  obtain ⟨vs,r,de⟩:=sL I ha hd
  have hl:=r.length
  have hv:vs[i]?=some (vs[i]'(by omega)):=yb (by omega)
  have eh:kvs[i]?=some kvs[i]:=yb hi
  have hk:kvs[i].1=(vs[i]'(by omega)).1:=by
   have:=congrArg (λl:List Key=>l[i]?) r.keys
   simp only [yP,hv,eh,Option.map_some] at this
   exact Option.some.inj this
  obtain ⟨f0,f1,f2,f3,f4,f5⟩:=hf it (by simp)
  rw [hl] at st
  refine wpAny_pyNext_dict_item st de (k:=(vs[i]'(by omega)).1) (v:=(vs[i]'(by omega)).2) hv λkey h' gW aP sb=>?_
  have I1:Inv X pins U H { s with heap:=h' }:=I.turned (t':=s.toks) (λb o hb e=>(sb.2 b hb).trans e) f0 f1 f3 f4 f5
  obtain ⟨o',e,c,d⟩:=id aP
  refine ⟨key,rfl,mj (s:={ s with heap:=h' }) e c d (by decide) ⟨kV kvs[i].1,H,I1,?_,⟨rfl,_,eh,rfl⟩,by rw [<-hl] at aP;exact aP,λb hb=>(hf b hb).1⟩⟩
  rw [hk]
  exact Ri gW
 done:=by
  intro X hP hw hK hc i pins s U H E I hf st hg
  subst hP hw hK
  obtain ⟨ha,hi⟩:=hg
  obtain ⟨vs,r,de⟩:=sL I ha hd
  have hl:=r.length
  obtain ⟨f0,f1,f2,f3,f4,f5⟩:=hf it (by simp)
  rw [hl] at st
  exact wpAny_pyNext_dict_end (I.ok.hd hc) st de (gj.mpr (by omega)) λh' eb=>⟨rfl,I.turned (t':=s.toks) (λb o hb e=>eb b o hb e) f0 f1 f3 f4 f5⟩
 self:=λ_ _ _ _ _ st h=>wpAny_pyIter_keyiter st h
def Rk (X:Cx) (tl:TE):TI:=λU H R=>tl U H λx H1=>∃a kvs,x=.ref a/\H1 a=some (.dK kvs)/\∀o,kvs.length<=sizeLine->(∀o u,X.H₀ a≠some (.frz o u))->R (Fd a o kvs) (upd H1 a (.frz o (.dK kvs)))
def Rl {X:Cx}{l tg:Expr}{tl:TE}(hl:PE X l tl):PI X tg l (Rk X tl):=by
 intro pins s U H R I h
 refine aR (hl pins s U H _ I h) λv s1 ⟨x,H1,I1,r1,a,kvs,e,ha,q⟩=>?_
 subst e
 cases r1
 obtain ⟨hz,lo,vs,r,o,es,ep,ho,hx,hd,hr⟩:=I1.hok a _ ha
 have I2:=I1.freeze ha ho
 have fr:∀b,s1.heap.objs.size<=b->(upd H1 a (.frz o (.dK kvs))) b=none:=λb hb=>I2.hok.fresh hb
 refine wpAny_pyIter_dict lo (show s1.heap.DictAt (aU X.prog X.w) a vs ep from ⟨o,es,ho,hx,hd,hr⟩) ?_
 refine ⟨s1.heap.objs.size,[s1.heap.objs.size],_,_,_,rfl,I2.kept (t':=s1.toks) (λb o e=>zU _ e),Rj hd,?_,λb hb=>?_,q o hz (I1.young ha)⟩
 ·rw [r.length]
  exact ⟨_,yK _ rfl,rfl,rfl⟩
 ·have e:b=s1.heap.objs.size:=by simpa using hb
  subst e
  exact I2.fpOk (z0 _) (fr _ (z0 _))
def Fe (X:Cx) (H:Hp) (G:Hp->Prop):Prop:=∃a o kvs,H a=some (.frz o (.dK kvs))/\(∀o u,X.H₀ a≠some (.frz o u))/\G (upd H a (.dK kvs))
def Ff {X:Cx}{e:Expr}{t:TE}(h:PE X e t):PE X e (λU H Q=>t U H λv H'=>Fe X H' (Q v)):=by
 intro pins s U H Q I q
 refine aR (h pins s U H _ I q) λu s1 ⟨v,H',I',r,a,o,kvs,ha,hy,q'⟩=>?_
 exact ⟨v,_,I'.thaw ha hy,r,q'⟩
end L2
namespace Mi
open PySem L2 PySem.W PySem.Spec
section
variable {K:Frag} {mg:Ab} {ρ:Ae} {H:Hp} {a:Addr} {o:Obj} {kvs:List (Key×V)} {u:HO}
def mX (ha:H a=some (.frz o (.dK kvs))) {b:Addr}{w:HO}(h:H b=some w) (n:∀o k,w ≠ .frz o (.dK k)):upd H a u b=some w:=by
 rw [zO]
 ·exact h
 ·intro z;subst z;rw [ha] at h;cases h;exact n _ _ rfl
def Fg (ha:H a=some (.frz o (.dK kvs))) {p:Addr}{xs:List V}(h:bC K H p xs):bC K (upd H a u) p xs:=by
 rcases h with (h|⟨o,h⟩)|h
 ·exact .inl (.inl (mX ha h (λ_ _=>nofun)))
 ·exact .inl (.inr ⟨o,mX ha h (λ_ _=>nofun)⟩)
 ·exact .inr h
def Rm (ha:H a=some (.frz o (.dK kvs))) {p:Addr}{xs:List V}(h:ic K H p xs):ic K (upd H a u) p xs:=by
 rcases h with ⟨o,h⟩|h
 ·exact .inl ⟨o,mX ha h (λ_ _=>nofun)⟩
 ·exact .inr h
mutual
theorem R.th (ha:H a=some (.frz o (.dK kvs))):∀(x:PV) {v:V},R K mg ρ H x v->R K mg ρ (upd H a u) x v
 |.non,_,h=>h
 |.bl _,_,h=>h
 |.int _,_,h=>h
 |.str _,_,h=>h
 |.ty _,_,h=>h
 |.tup xs,_,h=>by
  obtain ⟨a,vs,h1,h2,h3⟩:=h
  exact ⟨a,vs,h1,Fg ha h2,Rs.th ha xs h3⟩
 |.frl xs,_,h=>by
  obtain ⟨a,vs,h1,h2,h3⟩:=h
  exact ⟨a,vs,h1,Rm ha h2,Rs.th ha xs h3⟩
 |.ref n,_,h=>h
 |.fn _,_,h=>h
 |.kd ks xs,_,h=>by
  obtain ⟨a,us,vs,h1,h2,h4,h3⟩:=h
  exact ⟨a,us,vs,h1,h2,h4,Rs.th ha xs h3⟩
 |.exo c ks xs,_,h=>by
  obtain ⟨a,C,h1,h2,⟨h3,h4⟩|⟨d,vs,h3,h4,h5,h6⟩⟩:=h
  ·exact ⟨a,C,h1,h2,.inl ⟨h3,mX ha h4 (λ_ _=>nofun)⟩⟩
  ·exact ⟨a,C,h1,h2,.inr ⟨d,vs,mX ha h3 (λ_ _=>nofun),mX ha h4 (λ_ _=>nofun),Rs.th ha xs h5,h6⟩⟩
theorem Rs.th (ha:H a=some (.frz o (.dK kvs))):∀(xs:An) {vs:List V},Rs K mg ρ H xs vs->Rs K mg ρ (upd H a u) xs vs
 |[],_,h=>h
 |x::xs,_,h=>by
  obtain ⟨v,r,h1,h2,h3⟩:=h
  exact ⟨v,r,h1,R.th ha x h2,Rs.th ha xs h3⟩
end
theorem bp.th (ha:H a=some (.frz o (.dK kvs))) {env:zd}{U:L2.St}(h:bp K mg ρ H env U):bp K mg ρ (upd H a u) env U :=
 ⟨h.len,λi x hx=>let ⟨v,p,q⟩:=h.at_ i x hx;⟨v,p,R.th ha x q⟩⟩
def Rn (ha:H a=some (.frz o (.dK kvs))) {so:SO}{b:Addr}(ne:b≠a) (h:fD K mg ρ H so b):fD K mg ρ (upd H a u) so b:=by
 cases so with
 |lst xs=>obtain ⟨vs,h1,h2⟩:=h;exact ⟨vs,by rw [zO ne];exact h1,Rs.th ha xs h2⟩
 |dic ks xs=>obtain ⟨vs,h1,h2,h3⟩:=h;exact ⟨vs,by rw [zO ne];exact h1,Rs.th ha xs h2,h3⟩
 |ins c ks xs=>obtain ⟨C,dx,vs,h0,h1,h2,h3⟩:=h;exact ⟨C,dx,vs,h0,by rw [zO ne];exact h1,Rs.th ha xs h2,h3⟩
 |fdi ks xs=>obtain ⟨o,vs,h1,h2,h3⟩:=h;exact ⟨o,vs,by rw [zO ne];exact h1,Rs.th ha xs h2,h3⟩
 |dit ks xs=>obtain ⟨its,vs,h1,h2,h3,h4,h5⟩:=h;exact ⟨its,vs,by rw [zO ne];exact h1,h2,λx hx=>Fg ha (h3 x hx),h4,Rs.th ha xs h5⟩
def a_.thaw {st:aa}{n:Nat}{ks:Ad}{xs:An}(s:a_ K mg ρ H st) (hn:ρ[n]?=some a) (ha:H a=some (.frz o (.dK kvs))) (hs:st[n]?=some (.fdi ks xs)):a_ K mg ρ (upd H a (.dK kvs)) (st.set n (.dic ks xs)):=by
 refine ⟨by simp [s.len],s.nd,λi mH e=>?_⟩
 rw [List.getElem?_set] at e
 by_cases cM:n=i
 ·subst cM
  rw [zp rfl] at e
  split at e
  ·cases e
   obtain ⟨o',vs,h1,h2,h3⟩:=s.addr hs hn
   rw [ha] at h1
   cases h1
   exact ⟨a,hn,vs,yv,Rs.th ha xs h2,h3⟩
  ·cases e
 ·rw [zD cM] at e
  obtain ⟨b,hb,q⟩:=s.at_ i mH e
  have ne:b≠a:=by
   intro z
   subst z
   obtain ⟨h1,h2⟩:=yu.mp hn
   obtain ⟨h3,h4⟩:=yu.mp hb
   have pw:=List.pairwise_iff_getElem.mp s.nd
   rcases Nat.lt_trichotomy n i with c|c|c
   ·exact pw n i h1 h3 c (h2.trans h4.symm)
   ·exact cM c
   ·exact pw i n h3 h1 c (h4.trans h2.symm)
  exact ⟨b,hb,Rn ha ne q⟩
def Ext.thawed {ag:Ae}{H':Hp}{w:HO}(ha:H a=some (.dK kvs)) (e:Ext ρ (upd H a (.frz o (.dK kvs))) ag H'):Ext ρ H ag (upd H' a w) :=
 ⟨e.pre,λb x h m=>by
  have ne:b≠a:=by intro z;subst z;rw [ha] at h;cases h;cases m
  rw [zO ne]
  exact e.imm b x (by rw [zO ne];exact h) m⟩
end
section
variable {X:Cx} {Er:XK} {pos:Pos} {o:Expr} {fo:Ai}
def lF {α:Type}(v:PV) (st:aa) (f:Nat->List Str->List PV->Res α):Res α:=match v with
 |.ref n=>yR st n λks xs=>f n ks xs
 |_=>.stuck
def eB {α:Type}(n:Nat) (st:aa) (f:aa->Res α):Res α:=match st[n]? with
 |some (.fdi ks xs)=>f (st.set n (.dic ks xs))
 |_=>.stuck
def AB {α:Type}{K:Frag}{mg:Ab}{ρ:Ae}{H:Hp}{st:aa}{v:PV}{k:Nat->List Str->List PV->Res α}{good:List Addr->Hp->α->aa->Prop}(h:Out K mg ρ H (lF v st k) good Er):∃n ks xs,v=.ref n/\st[n]?=some (.dic ks xs)/\Out K mg ρ H (k n ks xs) good Er:=by
 unfold lF at h
 split at h
 ·rename_i n
  obtain ⟨ks,xs,e,h⟩:=lh h
  exact ⟨n,ks,xs,rfl,e,h⟩
 ·exact h.elim
def Fh {α:Type}{K:Frag}{mg:Ab}{ρ:Ae}{H:Hp}{st:aa}{n:Nat}{k:aa->Res α}{good:List Addr->Hp->α->aa->Prop}(h:Out K mg ρ H (eB n st k) good Er):∃ks xs,st[n]?=some (.fdi ks xs)/\Out K mg ρ H (k (st.set n (.dic ks xs))) good Er:=by
 unfold eB at h
 split at h
 ·rename_i ks xs e;exact ⟨ks,xs,e,h⟩
 ·exact h.elim
def Fi {α β:Type}{K:Frag}{mg:Ab}{ρ:Ae}{H:Hp}{r:Res β}{f:β->Mo α}{good:List Addr->Hp->α->aa->Prop}(h:Out K mg ρ H ((bH r).bind f) good Er):∃x st,r=.ok x st/\Out K mg ρ H (f x st) good Er:=by
 cases r with
 |ok x st=>exact ⟨x,st,rfl,h⟩
 |err=>exact h.elim
 |stuck=>exact h.elim
def Fj {α β:Type}{r:Res β}{f:β->Mo α}{x:α}{st:aa}(h:(bH r).bind f=.ok x st):∃y st1,r=.ok y st1/\f y st1=.ok x st:=by
 cases r with
 |ok y st1=>exact ⟨y,st1,rfl,h⟩
 |err=>cases h
 |stuck=>cases h
def Ro {ks:Ad}{vs:List V}{i:Nat}{kv:Key×V}(h:(kz ks vs)[i]?=some kv):∃k,ks[i]?=some k/\kV kv.1=.str k:=by
 unfold kz at h
 rw [List.getElem?_zip_eq_some] at h
 obtain ⟨h1,_⟩:=h
 rw [yP] at h1
 cases hk:ks[i]? with
 |none=>rw [hk] at h1;cases h1
 |some k =>
  rw [hk] at h1
  have:kv.1=Sum.inr k:=(Option.some.inj h1).symm
  exact ⟨k,rfl,by rw [this];rfl⟩
def cz (fe:Ai) (env:zd):List PV->List PV->Mo (An)
 |[],ys,st=>.ok ys st
 |x::xs,ys,st=>(bH (fe (some x::env) st)).bind λy st1=>cz fe env xs (ys++[y]) st1
def sN (fo:Ai) (fe:Ai):Ai:=λenv st=>(fo env st).bind λv st1=>lF v st1 λn ks xs =>
 (bH (cz fe env (ks.map PV.str) [] (st1.set n (.fdi ks xs)))).bind λys av=>eB n (av++[.lst ys]) λbb=>.ok (.ref av.length) bb
def Rq {elt:Expr} {x:Str} {px:Pos} {scope:Scope} {fe:Ai} {N:Ad} (hc:X.calm=true) (S:cq X.env.scope scope x) (eN:X.N=N) (cE:((".0" : Str)::x::N).Nodup)
  (ho:ME X Er o fo) (he:∀cl C af ai fp,ME (oi X scope cl x C af ai fp (λ_ _=>False)) XN elt fe)
  (hs:∀v,foldedSetIterable o X.env v=pure v:=by intro _;rfl):ME X Er (.ListComp elt [⟨.Name x px,o,[],0⟩] scope pos) (sN fo fe) :=
 PE.weak (Ff (Dy (te:=tM X.K X.mg XN fe) hc S eN cE (Rl ho) (λcl C af ai fp=>he cl C af ai fp) hs)) λU H Q ⟨env,st,ρ,re,rs,h⟩=>⟨env,st,ρ,re,rs,h.then λar H0 x dz e0 s0 h0 v rv=>by
  obtain ⟨n,ks,xs,rfl,hn,h0⟩:=AB h0
  obtain ⟨a,vs,rfl,ha,k1,k2,k3⟩:=R.refD s0 rv hn
  refine ⟨a,kz ks vs,rfl,k1,λob hz hy=>?_⟩
  obtain ⟨bO,aP,hr,h0⟩:=Fi h0
  obtain ⟨cg,b_,ht,h0⟩:=Fh h0
  have ew:Ext ar H0 ar (upd H0 a (.frz ob (.dK (kz ks vs)))):=Ext.write k1 rfl
  have hl:(kz ks vs).length=ks.length:=by simp [kz,k3]
  rw [hl] at hz
  refine ⟨λi m ys H=>m=ks.length-i/\i<=ks.length/\ys.length=i/\∃ps st ρ,Rs X.K X.mg ρ H ps ys/\a_ X.K X.mg ρ H st/\Ext ar (upd H0 a (.frz ob (.dK (kz ks vs)))) ρ H/\cz fe env ((ks.map PV.str).drop i) ps st=.ok bO aP,
   ⟨ks.length,by simp,jh _,rfl,[],_,ar,rfl,s0.write (so:=.fdi ks xs) ha ew ⟨ob,vs,yv,Rs.ext ew _ k2,k3⟩,Ext.refl,hr⟩,?_⟩
  rintro i m ys H ⟨rfl,hi,AD,ps,st,ρ,c_,rs,ex,h⟩
  have hf:H a=some (.frz ob (.dK (kz ks vs))):=ex.imm a _ yv rfl
  have AE:=ex.get ha
  by_cases bD:i<ks.length
  ·refine .inr ⟨⟨hf,by rw [hl];exact bD⟩,by omega,λv H' y=>?_⟩
   obtain ⟨rfl,kv,eh,rfl⟩:=y
   obtain ⟨k,hk,ev⟩:=Ro eh
   have hd:(ks.map PV.str).drop i=.str k::(ks.map PV.str).drop (i+1):=by
    rw [jy (by simpa using bD)]
    have:=(yu.mp hk).2
    simp [this]
   rw [hd] at h
   simp only [cz] at h
   obtain ⟨y,av,AF,h⟩:=Fj h
   refine ⟨some (.str k)::env,st,ρ,(re.ext (e0.trans (ew.trans ex))).cons ev,rs,?_⟩
   rw [AF]
   exact λao H3 e3 s3 w rw'=>⟨ks.length-(i+1),by omega,rfl,bD,by simp [AD],ps++[y],av,ao,Rs.snoc rw' (Rs.ext e3 ps c_),s3,ex.trans e3,h⟩
  ·have e:i=ks.length:=by omega
   subst e
   rw [iM (by simp)] at h
   cases h
   refine .inl ⟨⟨hf,by rw [hl];exact z0 _⟩,by omega,λl eY=>?_⟩
   have ne:a≠l:=wB hf eY
   have lq:upd H l (.lst ys) a=some (.frz ob (.dK (kz ks vs))):=by rw [zO ne];exact hf
   have ep:Ext ρ H (ρ++[l]) (upd H l (.lst ys)):=Ext.push eY
   have s1:a_ X.K X.mg (ρ++[l]) (upd H l (.lst ys)) (aP++[.lst bO]):=rs.push eY ⟨ys,yv,Rs.ext ep _ c_⟩
   exact ⟨a,ob,_,lq,hy,h0 (ρ++[l]) _ (Ext.thawed k1 (ex.trans ep)) (a_.thaw s1 (ep.get AE) lq ht) _ ⟨l,rfl,by rw [<-rs.len];simp⟩⟩⟩
end
section
variable {X:Cx} {Er:XK} {K:Frag} {mg:Ab} {e:Expr} {fk:Ai}
def dr:List PV->Option (List Bool)
 |[]=>some []
 |.bl b::r=>(dr r).map (b::·)
 |_::_=>none
theorem Fm {ρ:Ae}{H:Hp}:∀{xs:An}{bs:List Bool}{vs:List V},dr xs=some bs->Rs K mg ρ H xs vs->vs=bs.map V.bl
 |[],bs,vs,e,h=>by cases e;cases h;rfl
 |.bl i::r,bs,vs,e,h=>by
  simp only [dr,Option.map_eq_some_iff] at e
  obtain ⟨ir,e1,rfl⟩:=e
  obtain ⟨v,r',rfl,h1,h2⟩:=h
  cases h1
  rw [Fm e1 h2]
  rfl
 |.non::_,_,_,e,_=>by cases e
 |.int _::_,_,_,e,_=>by cases e
 |.str _::_,_,_,e,_=>by cases e
 |.ty _::_,_,_,e,_=>by cases e
 |.tup _::_,_,_,e,_=>by cases e
 |.frl _::_,_,_,e,_=>by cases e
 |.ref _::_,_,_,e,_=>by cases e
 |.fn _::_,_,_,e,_=>by cases e
 |.kd _ _::_,_,_,e,_=>by cases e
 |.exo _ _ _::_,_,_,e,_=>by cases e
theorem Fn:∀bs:List Bool,dr (bs.map PV.bl)=some bs
 |[]=>rfl
 |b::bs=>by simp [dr,Fn bs]
def mY:Al:=λvs st=>(gF vs st).bind λn st=>yl st n λxs=>match dr xs with
 |some bs=>.ok (.bl (bs.all id)) st
 |none=>.stuck
def Rr (hc:X.calm=true):bM X (.builtin "all") mY:=⟨_,Nf hc,fun ρ H st xs vs Q E s r h=>by
 obtain ⟨n,ys,rfl,hn,h⟩:=xZ h
 obtain ⟨b_,fC,h⟩:=jb h
 obtain ⟨v,rfl,rv⟩:=r.one
 obtain ⟨a,rfl,ha⟩:=rv
 obtain ⟨ws,hH,hR⟩:=s.addr fC ha
 cases hi:dr b_ with
 |none=>simp only [hi] at h;exact h.elim
 |some bs =>
  simp only [hi] at h
  have e:=Fm hi hR
  subst e
  exact ⟨a,bs,rfl,ba.of hH,Out.now (x:=PV.bl (bs.all id)) h s _ rfl⟩⟩
def Ru:bootBuiltins "all" = some (.builtin "all"):=by decide +kernel
def pairOf:PV->Option (PV×PV)
 |.tup [x,y]=>some (x,y)
 |_=>none
def Rv {q:PV}{r:PV×PV}(h:pairOf q=some r):q=.tup [r.1,r.2]:=by
 unfold pairOf at h
 split at h
 ·cases h;rfl
 ·cases h
inductive pR (X:Cx) (Er:XK):List (Option Expr)->List Expr->List ((Ai)×(Ai))->Prop
 |nil:pR X Er [] [] []
 |cons {k v:Expr} {fk fv:Ai} {ks:List (Option Expr)} {vs:List Expr} {fs:List ((Ai)×(Ai))} (hk:ME X Er k fk) (hv:ME X Er v fv) (hr:pR X Er ks vs fs):pR X Er (some k::ks) (v::vs) ((fk,fv)::fs)
def pR.len {ks:List (Option Expr)}{vs:List Expr}{fs:List ((Ai)×(Ai))}(h:pR X Er ks vs fs):ks.length=vs.length/\ks.length=fs.length/\ks.all (·.isSome)=true:=by
 induction h with
 |nil=>exact ⟨rfl,rfl,rfl⟩
 |cons hk hv hr ih=>exact ⟨by simp [ih.1],by simp [ih.2.1],by simpa using ih.2.2⟩
end
section
variable {X:Cx} {K:Frag} {mg:Ab}
def call_len_dict:bt X (.builtin "len") (λxs H Q=>∃p kvs,xs=[.ref p]/\H p=some (.dK kvs)/\Q (.int kvs.length) H):=by
 intro pins s U H xs us Q I r h
 obtain ⟨p,kvs,rfl,hp,q⟩:=h
 obtain ⟨u,rfl,rx⟩:=wQ r
 cases rx
 exact Nt I (.inl hp) λt s' I'=>⟨.int kvs.length,H,I',⟨t,rfl⟩,q⟩
def yk:Al:=λxs st=>match xs with
 | [.ref n]=>match st[n]? with
  |some (.dic ks _)=>.ok (.int ks.length) st
  |_=>j_ xs st
 |_=>j_ xs st
def y0:bM X (.builtin "len") yk:=by
 obtain ⟨r,h1,h2⟩:=O2 (X:=X)
 refine ⟨_,h1.or call_len_dict,fun ρ H st xs vs Q E s rx h=>?_⟩
 by_cases hx:∃n ks ys,xs=[.ref n]/\st[n]?=some (.dic ks ys)
 ·obtain ⟨n,ks,ys,rfl,e⟩:=hx
  have h:Out X.K X.mg ρ H (.ok (.int ks.length) st) (gV X.K X.mg Q) E:=by
   simpa only [yk,e] using h
  obtain ⟨v,rfl,rv⟩:=Rs.one rx
  obtain ⟨a,ws,rfl,_,k1,k2,k3⟩:=R.refD s rv e
  refine .inr ⟨a,_,rfl,k1,?_⟩
  have hl:(kz ks ws).length=ks.length:=by simp [kz,k3]
  rw [hl]
  exact Out.now (x:=PV.int ks.length) h s _ rfl
 ·refine .inl (h2 ρ H st xs vs Q E s rx ?_)
  have:yk xs st=j_ xs st:=by
   unfold yk
   split
   ·rename_i n
    split
    ·rename_i ks ys e;exact absurd ⟨n,ks,ys,rfl,e⟩ hx
    ·rfl
   ·rfl
  rw [this] at h
  exact h
end
section
variable {α:Type} {env:zd} {st:aa} {fa fo:Ai}
def wZ {n:Nat}{ks:Ad}{xs:An}(h:st[n]?=some (.dic ks xs)) (k:List Str->List PV->Res α):yR st n k=k ks xs:=by unfold yR;rw [h]
def Rw {n:Nat}{xs:An}(h:st[n]?=some (.lst xs)):gF [.ref n] st=.ok n st:=by
 show yl st n _=_
 rw [yr h]
def sO {n:Nat}{bs:List Bool}(h:st[n]?=some (.lst (bs.map PV.bl))):mY [.ref n] st=.ok (.bl (bs.all id)) st:=by
 unfold mY
 rw [Rw h]
 simp only [zC]
 rw [yr h,Fn]
def iA {n:Nat}{xs:An}(h:st[n]?=some (.lst xs)):yk [.ref n] st=.ok (.int xs.length) st:=by
 simp only [yk,h]
 show yl st n _=_
 rw [yr h]
@[simp] def Yi (xs:An):yk [.tup xs] st=.ok (.int xs.length) st:=(rfl)
@[simp] def Yj (xs:An):yk [.frl xs] st=.ok (.int xs.length) st:=(rfl)
@[simp] def Yk (z:Str):yk [.str z] st=j_ [.str z] st:=(rfl)
@[simp] def Fo (n:Nat) (f:Nat->List Str->List PV->Res α):lF (.ref n) st f=yR st n λks xs=>f n ks xs:=(rfl)
@[simp] def Fp:sN fo fa env st=(fo env st).bind λv st1=>lF v st1 λn ks xs=>(bH (cz fa env (ks.map PV.str) [] (st1.set n (.fdi ks xs)))).bind λys av=>eB n (av++[.lst ys]) λbb=>.ok (.ref av.length) bb:=(rfl)
def Fq {n:Nat}{ks:Ad}{xs:An}(h:st[n]?=some (.fdi ks xs)) (f:aa->Res α):eB n st f=f (st.set n (.dic ks xs)):=by unfold eB;rw [h]
end
end Mi
namespace L2
open PySem PySem.Spec PyProof.Rows PySem.W
section
variable {prog:Program} {w:World} {A:Around} {E:Aa} {s:Shared}
def Rx {a:Addr}{vs:List (Key×Value)}{Q:Aa}(hd:s.heap.DictOf (aU prog w) a vs) (ha:(a==sysModules)=false) (hz:vs.length<=sizeLine)
  (h:∀h',h'.DictOf (aU prog w) s.heap.objs.size vs->(∀c o,s.heap.get? c=some o->h'.get? c=some o)->Q (.ref s.heap.objs.size) { s with heap:=h' }) :
  wpAny (model prog w) A (call (.type "dict") [.ref a]) Q E s:=by
 refine callType_codes (Q₁:=λobj aj=>obj=.ref s.heap.objs.size/\aj={ s with heap:=s.heap.push { cls:=.type "dict", data:=.dict #[] } }) F.kt_called_dict (F.kt_typeCall_dict_1 _) F.entry_dict_init (kt_code_dict_new _ ⟨rfl,rfl⟩) ?_
 rintro obj aj ⟨rfl,rfl⟩
 have pS:(s.heap.push { cls:=.type "dict", data:=.dict #[] }).DictOf (aU prog w) s.heap.objs.size []:=Heap.DictOf.new s.heap
 have up:∀c o,s.heap.get? c=some o->(s.heap.push { cls:=.type "dict", data:=.dict #[] }).get? c=some o:=λc o e=>zU _ e
 have aY:(s.heap.push { cls:=.type "dict", data:=.dict #[] }).DictOf (aU prog w) a vs:=hd.push _
 have lt:a<s.heap.objs.size:=let ⟨_,_,_,ho,_⟩:=hd;yc ho
 have ne:s.heap.objs.size≠a:=Nat.ne_of_gt lt
 have nd:(vs.map (·.1)).Nodup:=let ⟨_,_,_,_,_,_,_,_,hn⟩:=hd;hn
 refine ⟨pS.typeIs,F.args_dict_init_2 _ _,?_⟩
 unfold Builtin.«dict.__init__»
 refine zm ?_
 unfold Builtin.Dict.selfAndRest
 refine zm (wpAny_notOrdered_dict pS.typeIs ?_)
 show wpAny _ _ (pure (s.heap.objs.size,[Value.ref a])) _ _ _
 refine zK ?_
 show wpAny _ _ (Builtin.Dict.updateFrom "dict.__init__" s.heap.objs.size (.ref a) [] .none) _ _ _
 unfold Builtin.Dict.updateFrom
 refine zm (wpAny_typeOf aY.typeIs ?_)
 rw [zD (by decide)]
 refine zm ?_
 unfold Builtin.Dict.merge
 refine zm ?_
 unfold Builtin.Dict.readDirectly
 refine zm (wpAny_isInstance aY.typeIs isSubtype_dict_dict ?_)
 simp only [Bool.not_true,Bool.false_eq_true,g9]
 refine zm (wpAny_specialOf aY.typeIs F.slot_dict_iter.lookup (zK ?_))
 simp only [beq_self_eq_true,jF]
 refine zm (zK ?_)
 refine wpAny_mergeDict (hsz:=by simpa using hz) ne ha pS aY λh' h1 h2 sP=>?_
 rw [merged_nil_of_nodup vs nd] at h1
 show wpAny _ _ (Builtin.Dict.addKeywords s.heap.objs.size [] >>= _) _ _ _
 refine zm (zK (zK ?_))
 exact ⟨rfl,h h' h1 λc o e=>sP.extBut c o (yw (yc e)) (up c o e)⟩
end
def Ry {X:Cx}:bt X (.type "dict") (λxs H Q=>∃(a:Addr) (kvs:List (Key×V)),xs=[.ref a]/\H a=some (.dK kvs)/\∀q,H q=none->Q (.ref q) (upd H q (.dK kvs))):=by
 intro pins s U H xs us Q I r h
 obtain ⟨a,kvs,rfl,hH,q⟩:=h
 obtain ⟨u,rfl,ru⟩:=wQ r
 cases ru
 obtain ⟨hz,ha,vs,rel,dd⟩:=vT I.hok hH
 refine Rx dd ha (by rw [<-rel.length];exact hz) λh' d2 keep=>⟨.ref s.heap.objs.size,_,I.laid (a:=s.heap.objs.size) (o:=.dK kvs) (t':=s.toks) keep (z0 _) (vV hz ?_ rel d2),rfl,q _ (I.hok.fresh (z0 _))⟩
 exact beq_eq_false_iff_ne.mpr (yL (yw I.big))
end L2
namespace Mi
open PySem L2 PySem.W PySem.Spec
section
variable {X:Cx}
def kj:Al:=λxs st=>match xs with
 |[.ref n]=>yR st n λks xs=>.ok (.ref st.length) (st++[.dic ks xs])
 |_=>.stuck
def Rz:bM X (.type "dict") kj:=⟨_,Ry,fun ρ H st xs vs Q E s r h=>by
 unfold kj at h
 split at h
 ·rename_i n
  obtain ⟨ks,ys,hn,h⟩:=lh h
  obtain ⟨v,rfl,rv⟩:=r.one
  obtain ⟨a,vs,rfl,ha,k1,k2,k3⟩:=R.refD s rv hn
  refine ⟨a,_,rfl,k1,λq hq=>?_⟩
  have ex:Ext ρ H (ρ++[q]) (upd H q (.dK (kz ks vs))):=Ext.push hq
  exact h (ρ++[q]) _ ex (s.push hq ⟨vs,yv,Rs.ext ex ys k2,k3⟩) _ ⟨q,rfl,by rw [<-s.len];simp⟩
 ·exact h.elim⟩
end
section
variable {K:Frag} {h:Heap} {mg:Ab} {od:Option Addr} {f:Addr}
def zjW {O t t2:Addr} {wd k1 k2 k3 y:Str} {u1 u2 u3:Tok} {n n2:Nat} {pk:Option Addr} {sl eZ:Array (Option Value)} (X:K.In h) (G:h.Ns mainGlobals mg) (e:nsIn K O wd=some (some (.ref t))) (l1:K.lookup t=some ⟨.type "tuple", od,.seq #[.ref t2,.ref f] n,sl⟩)
  (l2:K.lookup t2=some ⟨.type "tuple", pk,.seq #[.str k1 u1,.str k2 u2,.str k3 u3] n2,eZ⟩) (a:nsIn K mainGlobals y=some (some (.ref f))):∃u v,nsIn K O wd=some (some u)/\RelV v u/\∀ρ H,R K mg ρ H (.tup [.tup [.str k1,.str k2,.str k3],.fn y]) v:=by
 refine ⟨_,.ref t,e,rfl,mO (xs:=[.tup [.str k1,.str k2,.str k3],.fn y]) (vs:=[.ref t2,.ref f]) l1 rfl (by simp) (.cons rfl (.cons rfl .nil)) fun ρ H=>?_⟩
 exact ⟨_,_,rfl,mO (xs:=[.str k1,.str k2,.str k3]) (vs:=[.str k1,.str k2,.str k3]) l2 rfl (by simp) (.cons ⟨_,rfl⟩ (.cons ⟨_,rfl⟩ (.cons ⟨_,rfl⟩ .nil))) (fun ρ H=>⟨_,_,rfl,rfl,_,_,rfl,rfl,_,_,rfl,rfl,rfl⟩) ρ H,_,_,rfl,⟨f,rfl,mg_of X G a⟩,rfl⟩
end
section
variable {X:Cx} {Er:XK} {pos:Pos}
def mZ (fe:Ai) (env:zd) (n:Nat):Nat->Nat->Al
 |0,_,_,_=>.stuck
 | m+1,i,ys,st=>yl st n λxs=>match xs[i]? with
  |none=>.ok (.ref st.length) (st++[.lst ys])
  | some q=>match pairOf q with
   |some r=>(bH (fe (some r.1::some r.2::env) st)).bind λy st1=>mZ fe env n m (i+1) (ys++[y]) st1
   |none=>.stuck
def u7:Sq->Option Nat
 |.im _=>none
 |.rf n=>some n
def AG (src:zd->Mo Sq) (fe:Ai):Ai:=λenv st=>(src env st).bind λq st1=>match u7 q with
 |some n=>mZ fe env n (lim+1) 0 [] st1
 |none=>.stuck
def RA {elt iter:Expr} {x y:Str} {kt:Nat} {px py tp:Pos} {scope:Scope} {src:zd->Mo Sq} {fe:Ai} {N:Ad} (hc:X.calm=true) (S:dQ X.env.scope scope [x,y]) (eN:X.N=N) (cE:((".0" : Str)::([x,y]++N)).Nodup)
  (hi:MI X Er (.Tuple [.Name x px,.Name y py] kt tp) iter src) (he:∀cl C af ai fp,ME (kP X scope cl [x,y] C af ai fp (λ_ _=>False)) XN elt fe)
  (hx:scope.names.lookup x=some .local:=by rfl) (hy:scope.names.lookup y=some .local:=by rfl) (hs:∀v,foldedSetIterable iter X.env v=pure v:=by intro _;rfl) :
  ME X Er (.ListComp elt [⟨.Tuple [.Name x px,.Name y py] kt tp,iter,[],0⟩] scope pos) (AG src fe):=by
 have hN:([x,y]++X.N).Nodup:=by rw [eN];exact (wb.mp cE).2
 have kX:∀cl C af ai fp E,PG (kP X scope cl [x,y] C af ai fp E) (.Tuple [.Name x px,.Name y py] kt tp) (Ct X.K 2 (ve (iQ 0) (ve (iQ 1) Cr))):=λcl C af ai fp E=>Cu (n:=2) hc
  (ri (kJ (X:=kP X scope cl [x,y] C af ai fp E) (i:=0) hN rfl (.inl (iH hx)) (.inr (iH hx)))
  (ri (kJ (X:=kP X scope cl [x,y] C af ai fp E) (i:=1) hN rfl (.inl (iH hy)) (.inr (iH hy))) Cs))
 exact PE.weak (Na (te:=tM X.K X.mg XN fe) (tt:=mw) hc S eN cE hi kX (λcl C af ai fp=>Dt) (λcl C af ai fp=>he cl C af ai fp) hs) λU H Q ⟨env,st,ρ,re,rs,h⟩=>⟨env,st,ρ,re,rs,h.then λar H0 q dz e0 s0 h0 J wk=>by
  cases q with
  |im xs=>exact h0.elim
  |rf n =>
   obtain ⟨a,ha,rfl⟩:=wk
   refine ⟨λi m ys H=>m+i=lim+1/\ys.length=i/\∃ps st ρ,Rs X.K X.mg ρ H ps ys/\a_ X.K X.mg ρ H st/\Ext ar H0 ρ H/\ρ[n]?=some a/\Out X.K X.mg ρ H (mZ fe env n m i ps st) (gV X.K X.mg Q) Er,⟨lim+1,rfl,rfl,[],dz,ar,rfl,s0,Ext.refl,ha,h0⟩,?_⟩
   rintro i m ys H ⟨hm,hy,ps,st,ρ,c_,rs,ex,ha,h⟩
   cases m with
   |zero=>exact h.elim
   |succ m =>
    obtain ⟨xs,hn,h⟩:=jb h
    obtain ⟨vs,hH,hR⟩:=rs.addr hn ha
    cases hx:xs[i]? with
    |none =>
     simp only [hx] at h
     have:vs.length<=i:=by rw [<-hR.len];exact gj.mp hx
     exact .inl ⟨⟨vs,ba.of hH,this⟩,jq (by omega),λl hl=>Out.newList h rs c_ hl⟩
    |some z =>
     simp only [hx] at h
     cases hq:pairOf z with
     |none=>simp only [hq] at h;exact h.elim
     |some r =>
      simp only [hq] at h
      obtain rfl:=Rv hq
      obtain ⟨v,hv,rv⟩:=hR.get hx
      refine .inr ⟨⟨vs,v,ba.of hH,hv⟩,jq (by omega),λv' H' y=>?_⟩
      obtain ⟨e1,y⟩:=y
      subst e1
      have e2:=y vs (ba.of hH)
      rw [hv] at e2
      cases e2
      obtain ⟨b,ws,rfl,h1,h2⟩:=rv
      obtain ⟨u,w,rfl,r1,r2⟩:=Rs.two h2
      refine ⟨b,[u,w],rfl,h1,rfl,u,[w],rfl,w,[],rfl,rfl,[some u,some w],rfl,rfl,?_⟩
      have RB:bp X.K X.mg ρ H' (some r.1::some r.2::env) (some u::some w::U):=((re.ext (e0.trans ex)).cons r2).cons r1
      simp only [mw,↓reduceIte]
      exact ⟨_,st,ρ,RB,rs,gz h λao H3 y bb e3 s3 h3 v ry=>⟨m,wy m,by omega,by simp [hy],ps++[y],bb,ao,Rs.snoc ry (Rs.ext e3 ps c_),s3,ex.trans e3,e3.get ha,h3⟩⟩⟩
end
def RC {K:Frag}{mg:Ab}{ρ:Ae}{H:Hp}:∀{xs:An}{zs:Ad}{vs:List V},strsOf xs=some zs->Rs K mg ρ H xs vs->vs=zs.map V.str:=λ{xs zs vs} h r=>by
 have:=xY h r
 rw [this]
 simp [kV,List.map_map,Function.comp_def]
end Mi
namespace Mi
open PySem L2 PySem.W
section
variable {g g':Aj} {f fa fb:Ai} {fs:Ah} {t ta tb:Ak} {e e1:zd} {st s1 s2 s3:aa} {x y v:PV} {xs:An} {b:Bool}
def zu {X:Res Fl}(h:g e st=.ok (.nx e1) s1) (h':g' e1 s1=X):zt g g' e st=X:=by rw [pj,h,zC,xS,h']
def jc (h:g e st=.ok (.rt v) s1):zt g g' e st=.ok (.rt v) s1:=by rw [pj,h,zC,Qg]
def yg {i:Nat}(h:f e st=.ok v s1):zV i f e st=.ok (.nx (e.set i (some v))) s1:=by rw [xT,h,zC]
def wF (h:f e st=.ok v s1):yU f e st=.ok (.nx e) s1:=by rw [Ey,h,zC]
def yo (h:f e st=.ok v s1):zH f e st=.ok (.rt v) s1:=by rw [sC,h,zC]
def yV {X:Res Fl}(h:t e st=.ok true s1) (h':g e s1=X):zQ t g g' e st=X:=by rw [xU,h,zC,zp rfl,h']
def RD {X:Res Fl}(h:t e st=.ok false s1) (h':g' e s1=X):zQ t g g' e st=X:=by rw [xU,h,zC,zD (by simp),h']
def zZ (h:t e st=.ok false s1):zQ t g zT e st=.ok (.nx e) s1:=RD h (Ex ..)
def zg {i:Nat}(h:e[i]?=some (some v)):zc i e st=.ok v st:=by rw [kh,h]
def zq {op:Am}{X:Res PV}(h:fa e st=.ok x s1) (h':fb e s1=.ok y s2) (h2:op x y s2=X):zj op fa fb e st=X:=by rw [xQ,h,zC,h',zC,h2]
def jm {op:PV->Mo PV}{X:Res PV}(h:fa e st=.ok x s1) (h2:op x s1=X):yx op fa e st=X:=by rw [P5,h,zC,h2]
def zA {m:Al}{X:Res PV}(h:fs e st=.ok xs s1) (h2:m xs s1=X):zn m fs e st=X:=by rw [mQ,h,zC,h2]
def gH (h:f e st=.ok x s1) (h':fs e s1=.ok xs s2):ze f fs e st=.ok (x::xs) s2:=by rw [mP,h,zC,h',zC]
def jE:zh e st=.ok [] st:=(rfl)
def zG (h:f e st=.ok x s1):ze f zh e st=.ok [x] s1:=gH h jE
def yf (h:f e st=.ok x s1) (h':fa e s1=.ok y s2):ze f (ze fa zh) e st=.ok [x,y] s2:=gH h (zG h')
def j8 (h:fs e st=.ok xs s1) (hl:xs.length<=1000000):yQ fs e st=.ok (.tup xs) s1:=by rw [P8,h,zC,zp hl]
def iB (h:fs e st=.ok xs s1) (hl:xs.length<=1000000):jA fs e st=.ok (.ref s1.length) (s1++[.lst xs]):=by rw [P9,h,zC,zp hl]
def zF (h:f e st=.ok (.bl b) s1):mB f e st=.ok b s1:=by rw [P6,h,zC,sA]
def pU (h:ta e st=.ok false s1):j1 ta tb e st=.ok false s1:=by rw [Ep,h,zC,zD (by simp)]
def pV (h:ta e st=.ok true s1) (h':tb e s1=.ok b s2):j1 ta tb e st=.ok b s2:=by rw [Ep,h,zC,zp rfl,h']
def RE (h:ta e st=.ok true s1):jz ta tb e st=.ok true s1:=by rw [Es,h,zC,zp rfl]
def gI (h:ta e st=.ok false s1) (h':tb e s1=.ok b s2):jz ta tb e st=.ok b s2:=by rw [Es,h,zC,zD (by simp),h']
def gJ (h:ta e st=.ok b s1):j2 ta e st=.ok (!b) s1:=by rw [P7,h,zC]
def Fs {X:Res PV}(h:fa e st=.ok (.bl true) s1) (h':fb e s1=X):mJ fa fb e st=X:=by rw [Et,h,zC,sA,zC,zp rfl,h']
def gK {lo hi:Option Int}{fl fu:zd->Mo (Option Int)}{X:Res PV}(h:fa e st=.ok x s1) (hl:fl e s1=.ok lo s2) (hu:fu e s2=.ok hi s3) (h':wU x lo hi s3=X):jC fa fl fu e st=X:=by rw [P_,h,zC,hl,zC,hu,zC,h']
def wn {i:Int}(h:f e st=.ok (.int i) s1):bB f e st=.ok (some i) s1:=by rw [Qa,h,zC,Qb]
def lG:cx e st=.ok none st:=(rfl)
def sQ {op:Am}{n:Nat}{ys:An}{X:Res PV}(h:fa e st=.ok (.ref n) s1) (hl:s1[n]?=some (.lst ys)) (h':fb e s1=.ok y s2) (h2:op (.ref n) y s2=X):ju op fa fb e st=X:=by
 rw [Ql,h,zC,Qm]
 simp only [yl,hl,zC]
 rw [h',zC,h2]
def y7 (i j:Int):zM (.int i) (.int j) st=.ok (.int (i+j)) st:=(rfl)
def Ft (i j:Int):rZ (.int i) (.int j) st=.ok (.int (i-j)) st:=(rfl)
def gL (i j:Int) (h:j≠0):yY (.int i) (.int j) st=.ok (.int (j5 i j)) st:=by show (if _ then _ else _)=_;rw [zp (by simpa using h)]
def sS (i j:Int) (h:j≠0) (h2:j.natAbs<2 ^ 200):wR (.int i) (.int j) st=.ok (.int (wC i j)) st:=by
 show (if _ then _ else _)=_
 rw [zp]
 simp only [xm,y4,jH]
 exact ⟨h,h2⟩
def RF (i j:Int):wS (.int i) (.int j) st=.ok (.bl (decide (i<j))) st:=(rfl)
def Fu (i j:Int):j6 (.int i) (.int j) st=.ok (.bl (decide (i<=j))) st:=(rfl)
def Fv (i j:Int):jI (.int i) (.int j) st=.ok (.bl (decide (j<i))) st:=(rfl)
def sT (i j:Int):jk (.int i) (.int j) st=.ok (.bl (decide (i=j))) st:=by simp [Mi.plain,dep,bA];rfl
def m3 (i j:Int):yM (.int i) (.int j) st=.ok (.bl (!decide (i=j))) st:=by simp [Mi.plain,dep,bA];rfl
def RG (i j:Str):jk (.str i) (.str j) st=.ok (.bl (decide (i=j))) st:=by simp [Mi.plain,dep,bA];rfl
def pW (i j:Str):yM (.str i) (.str j) st=.ok (.bl (!decide (i=j))) st:=by simp [Mi.plain,dep,bA];rfl
def yp {m:Nat}{n:Nat}{r:aa}(hl:xs.length=m) (h:g (xs.map some++List.replicate (n-m) none) st=.ok (.rt v) r):zB m n g xs st=.ok v r:=by
 unfold zB
 rw [zp hl,h,zC,Qh]
end
end Mi
namespace Mi
open PySem L2 PySem.W PySem.Spec
def Fw:Expr->Bool
 |.Starred _ _=>false
 |_=>true
def RH {e:Expr}{es:List Expr}{env:Env}(h:Fw e=true):EM e es env:=by cases e<;>first|rfl|cases h
def zk {X:Cx}{Er:XK}{e:Expr}{es:List Expr}{fa:Ai}{fs:Ah}(ha:ME X Er e fa) (hr:MA X Er es fs) (hs:Fw e=true:=by rfl):MA X Er (e::es) (ze fa fs):=D7 ha hr (RH hs)
section
variable {X:Cx} {Er:XK} {e o:Expr} {apos aK:Pos} {fo fa:Ai} {x:Str} {h:Heap}
def RI:Am
 | .str z,.ref n,st=>yl st n λxs=>match strsOf xs with
  |some ys=>if (ys.map (·.length)).sum+ys.length*z.length<=1000000 then .ok (.str (Txt.join z ys)) st else .stuck
  |none=>.stuck
 |_,_,_=>.stuck
def wG (fo fa:Ai):Ai:=λenv st=>(fo env st).bind λo st1=>match o with
 |.str z=>(fa env st1).bind λy av=>RI (.str z) y av
 |_=>.stuck
def zc2 (ho:ME X Er o fo) (he:ME X Er e fa) (bf:attributeBase o "join" X.env (eval o X.env)=eval o X.env:=by rfl)
  (dF:((backTo aK (starEach [e] X.env)).all (λx=>!x.1)&&(backToKw aK (keywordEach [] X.env)).all (λx=>x.1.isSome)&&decide ([e].length+([]:List Keyword).length+(if ([]:List Keyword).isEmpty then 0 else 1)<30))=true:=by rfl)
  (bw:(apos.endLine==aK.line)=true:=by rfl) (hs:starEach [e] X.env=(false,eval e X.env)::starEach [] X.env:=by rfl) (bu:(backTo aK (starEach [] X.env)).any (·.1)=false:=by rfl):ME X Er (.Call (.Attribute o "join" apos) [e] [] aK) (wG fo fa) :=
 PE.weak (rA PySem.F.plainAttrs_str PySem.F.slot_str_join PySem.F.type_str_join Ng ho (n4 he nZ hs) bf dF bw hs bu) λU H Q ⟨env,st,ρ,re,rs,h⟩=>⟨env,st,ρ,re,rs,h.then λae H1 x st1 e1 s1 h1 v rv=>by
  cases x with
  |str z =>
   cases rv
   refine ⟨rfl,env,st1,ae,re.ext e1,s1,h1.then λam H2 y av e2 s2 h2 w rw'=>?_⟩
   cases y with
   |ref n =>
    obtain ⟨p,rfl,hp⟩:=rw'
    obtain ⟨xs,hn,h3⟩:=jb h2
    cases hq:strsOf xs with
    |none=>simp only [hq] at h3;exact h3.elim
    |some ys =>
     simp only [hq] at h3
     obtain ⟨hl,h4⟩:=Out.ifp h3
     obtain ⟨vs,hH,hR⟩:=s2.addr hn hp
     rw [RC hq hR] at hH
     exact ⟨z,p,ys,rfl,rfl,.inl (.inl hH),by omega,Out.now (x:=PV.str (Txt.join z ys)) h4 s2 _ rfl⟩
   |_=>exact h2.elim
  |_=>exact h1.elim⟩
end
end Mi
namespace L2
open PySem PySem.Spec PyProof.Rows PySem.W
structure RK (K:Frag) (C B:Addr):Prop where
 of:dH K C
 sub:mroIn K C (.ref B)=some true
def Fx (a:Addr) (o:Obj) (kvs:List (Key×V)):It :=
 ⟨λi H=>H a=some (.frz o (.dK kvs))/\i<kvs.length,λi H x H'=>H'=H/\∃kv,kvs[i]?=some kv/\x=kv.2,λi H=>H a=some (.frz o (.dK kvs))/\kvs.length<=i⟩
def KV.nth {κ:Type}{kvs:List (κ×V)}{vs:List (κ×Value)}(r:KV kvs vs):∀{i:Nat}{p:κ×V}{q:κ×Value},kvs[i]?=some p->vs[i]?=some q->RelV p.2 q.2:=by
 unfold KV at r
 induction r with
 |nil=>intro i p q h;simp at h
 |cons h t ih =>
  intro i p q h1 h2
  cases i with
  |zero=>cases h1;cases h2;exact h.2
  |succ i=>exact ih (by simpa using h1) (by simpa using h2)
def RL {P:Program}{w:World}{K:PySem.W.Frag}{tg:Expr}{a it:Addr}{o:Obj}{kvs:List (Key×V)}{es:Array DictEntry}{ep:Nat}(hd:o.data=.dict es ep):Turn P w K tg (Fx a o kvs) [it] it (λi h=>h.IsValIter it a i kvs.length ep) where
 mem:=by simp
 obj:=λi h st b hb=>by
  have e:b=it:=by simpa using hb
  subst e
  obtain ⟨o,e,c,d⟩:=st
  exact ⟨o,e,λv z=>by rw [d] at z;cases z⟩
 keep:=λi h h' st k=>st.at λo e=>k it (by simp) o e
 item:=by
  intro X hP hw hK hc i pins s U H E I hf st hg
  subst hP hw hK
  obtain ⟨ha,hi⟩:=hg
  obtain ⟨vs,r,de⟩:=sL I ha hd
  have hl:=r.length
  have hv:vs[i]?=some (vs[i]'(by omega)):=yb (by omega)
  have eh:kvs[i]?=some kvs[i]:=yb hi
  obtain ⟨f0,f1,f2,f3,f4,f5⟩:=hf it (by simp)
  rw [hl] at st
  refine wpAny_pyNext_values_item st de (k:=(vs[i]'(by omega)).1) (v:=(vs[i]'(by omega)).2) hv λh' aP sb=>?_
  have I1:Inv X pins U H { s with heap:=h' }:=I.turned (t':=s.toks) (λb o hb e=>(sb.2 b hb).trans e) f0 f1 f3 f4 f5
  obtain ⟨o',e,c,d⟩:=id aP
  refine ⟨(vs[i]'(by omega)).2,rfl,mj (s:={ s with heap:=h' }) e c d (by decide) ⟨kvs[i].2,H,I1,?_,⟨rfl,_,eh,rfl⟩,by rw [<-hl] at aP;exact aP,λb hb=>(hf b hb).1⟩⟩
  exact r.nth eh hv
 done:=by
  intro X hP hw hK hc i pins s U H E I hf st hg
  subst hP hw hK
  obtain ⟨ha,hi⟩:=hg
  obtain ⟨vs,r,de⟩:=sL I ha hd
  have hl:=r.length
  obtain ⟨f0,f1,f2,f3,f4,f5⟩:=hf it (by simp)
  rw [hl] at st
  exact wpAny_pyNext_values_end (I.ok.hd hc) st de (gj.mpr (by omega)) λh' eb=>⟨rfl,I.turned (t':=s.toks) (λb o hb e=>eb b o hb e) f0 f1 f3 f4 f5⟩
 self:=λ_ _ _ _ _ st h=>wpAny_pyIter_valiter st h
def RM (X:Cx) (tl:TE):TI:=λU H R=>tl U H λx H1=>∃a kvs,x=.ref a/\H1 a=some (.dK kvs)/\∀o,kvs.length<=sizeLine->(∀o u,X.H₀ a≠some (.frz o u))->R (Fx a o kvs) (upd H1 a (.frz o (.dK kvs)))
def RN {X:Cx} {o tg:Expr} {tl:TE} {apos aK:Pos} (ho:PE X o tl) (bf:attributeBase o "values" X.env (eval o X.env)=eval o X.env:=by rfl) (bw:(apos.endLine==aK.line)=true:=by rfl):PI X tg (.Call (.Attribute o "values" apos) [] [] aK) (RM X tl):=by
 intro pins s U H R I h
 refine wpAny_Call_method0_late bf bw (aR (ho pins s U H _ I h) λv s1 ⟨x,H1,I1,r1,q1⟩=>?_)
 obtain ⟨a,kvs,rfl,e,q⟩:=q1
 obtain rfl:v=Value.ref a:=r1
 obtain ⟨hz,lo,kv,fY,hd⟩:=jj I1.hok (.inl e)
 obtain ⟨ep,de⟩:=hd.dictAt
 obtain ⟨oA,Yv,vs,r,o,es,mh,ho',hx,mM,hr⟩:=I1.hok a _ e
 have I2:=I1.freeze e ho'
 have hle:s1.heap.objs.size<=(s1.heap.push { cls:=.type "dict_values", data:=.fields #[.ref a] }).objs.size:=by rw [Heap.size_push];exact Nat.le_succ _
 have fr:∀b,s1.heap.objs.size<=b->(upd H1 a (.frz o (.dK kvs))) b=none:=λb hb=>I2.hok.fresh hb
 have Fy:s1.heap.DictAt (aU X.prog X.w) a vs mh:=⟨o,es,ho',hx,mM,hr⟩
 refine ⟨"dict", "dict.values", PySem.F.plainAttrs_dict,PySem.F.slot_dict_values,PySem.F.type_dict_values,?_,?_,Calls.callWith_builtin rfl (PySem.evalArgs_none (call_meetsIn PySem.F.slot_dict_values hd.typeIs PySem.F.entry_dict_values (PySem.F.args_dict_values_1 _) (meets_dict_values (aU X.prog X.w) a lo) ⟨⟨kv,hd⟩,?_⟩))⟩
 ·exact (mq I1 (x:=.ref a) rfl (.inr (.inr (.inl ⟨rfl,.inl ⟨_,e⟩⟩)))).1
 ·exact (mq I1 (x:=.ref a) rfl (.inr (.inr (.inl ⟨rfl,.inl ⟨_,e⟩⟩)))).2
 refine wpAny_pyIter_values (s:={ s1 with heap:=s1.heap.push { cls:=.type "dict_values", data:=.fields #[.ref a] } }) ⟨_,yK _ rfl,rfl,rfl⟩ (Fy.push _) ?_
 refine ⟨_,[(s1.heap.push { cls:=.type "dict_values", data:=.fields #[.ref a] }).objs.size],_,_,_,rfl,I2.kept (t':=s1.toks) (λb o e=>zU _ (zU _ e)),RL mM,?_,λb hb=>?_,q o oA (I1.young e)⟩
 ·rw [r.length]
  exact ⟨_,yK _ rfl,rfl,rfl⟩
 ·have eb:b=(s1.heap.push { cls:=.type "dict_values", data:=.fields #[.ref a] }).objs.size:=by simpa using hb
  subst eb
  exact I2.fpOk hle (fr _ hle)
end L2
namespace Mi
open PySem L2 PySem.W PySem.Spec
section
variable {X:Cx} {Er:XK} {pos:Pos} {o:Expr} {fo:Ai}
def sU (fo:Ai) (fe:Ai):Ai:=λenv st=>(fo env st).bind λv st1=>lF v st1 λn ks xs =>
 (bH (cz fe env xs [] (st1.set n (.fdi ks xs)))).bind λys av=>eB n (av++[.lst ys]) λbb=>.ok (.ref av.length) bb
def RO {elt:Expr} {apos aK:Pos} {x:Str} {px:Pos} {scope:Scope} {fe:Ai} {N:Ad} (hc:X.calm=true) (S:cq X.env.scope scope x) (eN:X.N=N) (cE:((".0" : Str)::x::N).Nodup)
  (ho:ME X Er o fo) (he:∀cl C af ai fp,ME (oi X scope cl x C af ai fp (λ_ _=>False)) XN elt fe)
  (bf:attributeBase o "values" X.env (eval o X.env)=eval o X.env:=by rfl) (bw:(apos.endLine==aK.line)=true:=by rfl) (hs:∀v,foldedSetIterable (.Call (.Attribute o "values" apos) [] [] aK) X.env v=pure v:=by intro _;rfl):ME X Er (.ListComp elt [⟨.Name x px,.Call (.Attribute o "values" apos) [] [] aK,[],0⟩] scope pos) (sU fo fe) :=
 PE.weak (Ff (Dy (te:=tM X.K X.mg XN fe) hc S eN cE (RN ho bf bw) (λcl C af ai fp=>he cl C af ai fp) hs)) λU H Q ⟨env,st,ρ,re,rs,h⟩=>⟨env,st,ρ,re,rs,h.then λar H0 x dz e0 s0 h0 v rv=>by
  obtain ⟨n,ks,xs,rfl,hn,h0⟩:=AB h0
  obtain ⟨a,vs,rfl,ha,k1,k2,k3⟩:=R.refD s0 rv hn
  refine ⟨a,kz ks vs,rfl,k1,λob hz hy=>?_⟩
  obtain ⟨bO,aP,hr,h0⟩:=Fi h0
  obtain ⟨cg,b_,ht,h0⟩:=Fh h0
  have ew:Ext ar H0 ar (upd H0 a (.frz ob (.dK (kz ks vs)))):=Ext.write k1 rfl
  have hl:(kz ks vs).length=ks.length:=by simp [kz,k3]
  rw [hl] at hz
  refine ⟨λi m ys H=>m=ks.length-i/\i<=ks.length/\ys.length=i/\∃ps st ρ,Rs X.K X.mg ρ H ps ys/\a_ X.K X.mg ρ H st/\Ext ar (upd H0 a (.frz ob (.dK (kz ks vs)))) ρ H/\cz fe env (xs.drop i) ps st=.ok bO aP,
   ⟨ks.length,by simp,jh _,rfl,[],_,ar,rfl,s0.write (so:=.fdi ks xs) ha ew ⟨ob,vs,yv,Rs.ext ew _ k2,k3⟩,Ext.refl,hr⟩,?_⟩
  rintro i m ys H ⟨rfl,hi,AD,ps,st,ρ,c_,rs,ex,h⟩
  have hf:H a=some (.frz ob (.dK (kz ks vs))):=ex.imm a _ yv rfl
  have AE:=ex.get ha
  by_cases bD:i<ks.length
  ·refine .inr ⟨⟨hf,by rw [hl];exact bD⟩,by omega,λv H' y=>?_⟩
   obtain ⟨rfl,kv,eh,rfl⟩:=y
   have lx:xs.length=ks.length:=by rw [k2.len,<-k3]
   have hx:xs[i]?=some (xs[i]'(by omega)):=yb (by omega)
   obtain ⟨v',mm,rx⟩:=Rs.get k2 hx
   have ev:R X.K X.mg ρ H' (xs[i]'(by omega)) kv.2:=by
    have:v'=kv.2:=by
     unfold kz at eh
     rw [List.getElem?_zip_eq_some] at eh
     rw [mm] at eh
     exact Option.some.inj eh.2
    rw [<-this]
    exact R.ext (ew.trans ex) _ rx
   have hd:xs.drop i=(xs[i]'(by omega))::xs.drop (i+1):=jy (by omega)
   rw [hd] at h
   simp only [cz] at h
   obtain ⟨y,av,AF,h⟩:=Fj h
   refine ⟨some (xs[i]'(by omega))::env,st,ρ,(re.ext (e0.trans (ew.trans ex))).cons ev,rs,?_⟩
   rw [AF]
   exact λao H3 e3 s3 w rw'=>⟨ks.length-(i+1),by omega,rfl,bD,by simp [AD],ps++[y],av,ao,Rs.snoc rw' (Rs.ext e3 ps c_),s3,ex.trans e3,h⟩
  ·have e:i=ks.length:=by omega
   subst e
   rw [iM (by rw [k2.len,<-k3];exact z0 _)] at h
   cases h
   refine .inl ⟨⟨hf,by rw [hl];exact z0 _⟩,by omega,λl eY=>?_⟩
   have ne:a≠l:=wB hf eY
   have lq:upd H l (.lst ys) a=some (.frz ob (.dK (kz ks vs))):=by rw [zO ne];exact hf
   have ep:Ext ρ H (ρ++[l]) (upd H l (.lst ys)):=Ext.push eY
   have s1:a_ X.K X.mg (ρ++[l]) (upd H l (.lst ys)) (aP++[.lst bO]):=rs.push eY ⟨ys,yv,Rs.ext ep _ c_⟩
   exact ⟨a,ob,_,lq,hy,h0 (ρ++[l]) _ (Ext.thawed k1 (ex.trans ep)) (a_.thaw s1 (ep.get AE) lq ht) _ ⟨l,rfl,by rw [<-rs.len];simp⟩⟩⟩
end
section
variable {X:Cx} {Er:XK} {e o:Expr} {p apos:Pos} {fo fa:Ai}
def Fz:Am
 | .ref n,.int i,st=>if i=0 then yl st n λxs=>match xs with
  |y::r=>.ok y (st.set n (.lst r))
  |[]=>.stuck
  else .stuck
 |_,_,_=>.stuck
def ztH {aK:Pos} (ho:ME X Er o fo) (he:ME X Er e fa) (bf:attributeBase o "pop" X.env (eval o X.env)=eval o X.env:=by rfl)
  (dF:((backTo aK (starEach [e] X.env)).all (λx=>!x.1)&&(backToKw aK (keywordEach [] X.env)).all (λx=>x.1.isSome)&&decide ([e].length+([]:List Keyword).length+(if ([]:List Keyword).isEmpty then 0 else 1)<30))=true:=by rfl)
  (bw:(apos.endLine==aK.line)=true:=by rfl) (hs:starEach [e] X.env=(false,eval e X.env)::starEach [] X.env:=by rfl) (bu:(backTo aK (starEach [] X.env)).any (·.1)=false:=by rfl):ME X Er (.Call (.Attribute o "pop" apos) [e] [] aK) (ju Fz fo fa) :=
 PE.weak (rA PySem.F.plainAttrs_list PySem.F.slot_list_pop PySem.F.type_list_pop MY ho (n4 he nZ hs) bf dF bw hs bu) λU H Q ⟨env,st,ρ,re,rs,h⟩=>⟨env,st,ρ,re,rs,h.then λae H1 x st1 e1 s1 h1 v rv=>by
  obtain ⟨n,xs,rfl,hn,h1⟩:=xJ h1
  obtain ⟨p,vs,rfl,hp,k1,k2⟩:=R.refL s1 rv hn
  refine ⟨.inl ⟨rfl,vs,ba.of k1⟩,env,st1,ae,re.ext e1,s1,h1.then λam H2 y av e2 s2 h2 w rw=>?_⟩
  cases y with
  |int i =>
   cases rw
   obtain ⟨hi,h2⟩:=Out.ifp h2
   subst hi
   obtain ⟨xs2,cX,h2⟩:=jb h2
   obtain ⟨p',eK,e3,eJ,k3,k4⟩:=R.refL s2 (R.ext e2 _ rv) cX
   cases e3
   cases xs2 with
   |nil=>exact h2.elim
   |cons y r =>
    obtain ⟨u,us,rfl,ru,RP⟩:=k4
    have ew:Ext am H2 am (upd H2 p (.lst us)):=Ext.write k3 rfl
    exact ⟨p,u::us,0,0,u,rfl,rfl,k3,by decide,by decide,by simp [seqIndex?],rfl,h2 am _ ew (s2.write eJ ew ⟨us,yv,Rs.ext ew _ RP⟩) _ (R.ext ew y ru)⟩
  |_=>exact h2.elim⟩
def m5:Al:=λxs st=>match xs with
 | [.str z]=>match PySem.intText? z with
  |some n=>if z.length<=640 then .ok (.int n) st else .stuck
  |none=>.stuck
 |_=>.stuck
end
end Mi
namespace Mi
open PySem L2 PySem.W PySem.Spec PyProof.Rows
def cY (a b:Str):Bool:=decide (a.cps.toList<=b.cps.toList)
def ak (ks:Ad):Ad:=ks.mergeSort cY
def AH (a b c:Str) (h:cY a b=true) (h':cY b c=true):cY a c=true:=by
 unfold cY at *
 rw [jH] at *
 exact List.le_trans h h'
def FA (a b:Str):(cY a b||cY b a)=true:=by
 unfold cY
 rw [Bool.or_eq_true,jH,jH]
 exact List.le_total _ _
def FC {a b:Str}(h:cY a b=true) (h':cY b a=true):a=b:=by
 unfold cY at *
 rw [jH] at *
 have:=List.le_antisymm h h'
 cases a;cases b
 simp only at this
 rw [Str.mk.injEq]
 exact Array.toList_inj.mp this
theorem FD:∀(l:Ad) (p:Str),risingS p l=true->(∀x∈l,cY p x=true)/\l.Pairwise (λa b=>cY a b=true)
 |[],p,_=>⟨(λx h=>by cases h),.nil⟩
 |q::r,p,h=>by
  have e:risingS p (q::r)=(!Spec.ltCps q.cps.toList p.cps.toList&&risingS q r):=rfl
  rw [e,y4,Bool.not_eq_true',ltCps_eq,decide_eq_false_iff_not,List.not_lt] at h
  obtain ⟨h1,h2⟩:=FD r q h.2
  have pq:cY p q=true:=by unfold cY;rw [jH];exact h.1
  refine ⟨λx hx=>?_,.cons h1 h2⟩
  rcases yE.mp hx with rfl|hx
  ·exact pq
  ·exact AH _ _ _ pq (h1 x hx)
def RQ {l:Ad}(h:sortedS l=true):l.Pairwise (λa b=>cY a b=true):=by
 cases l with
 |nil=>exact .nil
 |cons p r=>obtain ⟨h1,h2⟩:=FD r p h;exact .cons h1 h2
def FE {ks ss:Ad}(hp:ss.Perm ks) (hs:sortedS ss=true):ss=ak ks :=
 List.Perm.eq_of_pairwise (le:=λa b=>cY a b=true) (λa b _ _ h h'=>FC h h') (RQ hs) (List.pairwise_mergeSort AH FA ks) (hp.trans (List.mergeSort_perm ks cY).symm)
section
variable {prog:Program} {w:World} {A:Around} {E:Aa} {s:Shared}
def FF {h:Heap} {a:Addr} {vs:Af} {n:Nat} (ho:h.get? a=some (seqObj "list" vs.toArray n)) (out:Array Value):∃e,(sortedHeap h a vs out).get? a=some (seqObj "list" out e):=by
 have ha:=yc ho
 have h1:=get?_update_seq ho (λ_=>#[])
 have h2:(((h.update a (Obj.mapSeq λ_=>#[])).push (seqObj "tuple" vs.toArray 0)).push (seqObj "list" #[] 0)).get? a=some (seqObj "list" #[] (if ((#[]:Array Value).size==vs.toArray.size)=true then n else n+1)):=zU _ (zU _ h1)
 exact ⟨_,get?_update_seq h2 (λ_=>out)⟩
def FG {h:Heap}{a:Addr}{vs:Af}{out:Array Value}{b:Addr}{o:Obj}(hb:b≠a) (e:h.get? b=some o):(sortedHeap h a vs out).get? b=some o:=by
 unfold sortedHeap
 rw [Heap.get?_update_ne _ _ _ _ hb]
 refine zU _ (zU _ ?_)
 rw [Heap.get?_update_ne _ _ _ _ hb]
 exact e
def RR {K:Type} [DecidableEq K] {knd:KeyKind prog w K}{d:Addr}{kvs:List (K×Value)}{ep:Nat}{ss:Ad}{Q:Aa}(hh:A.handled=none) (lo:(d==sysModules)=false) (de:s.heap.DictAt knd d kvs ep) (pX:kvs.length<64)
  (hS:∀vs:Af,vs.length=kvs.length->(∀(j:Nat) (v:Value),vs[j]?=some v->∃k x,kvs[j]?=some (k,x)/\knd.is k v=true)->StrsAre vs ss)
  (h:∀(h1 h2:Heap) (tk:Nat) (out:Af) (e:Nat),(∀b o,s.heap.get? b=some o->h1.get? b=some o)->(∀b o,h1.get? b=some o->h2.get? b=some o)->h2.get? h1.objs.size=some (seqObj "list" out.toArray e)->StrsAre out (ak ss)->Q (.ref h1.objs.size) { s with heap:=h2,toks:=tk }) :
  wpAny (model prog w) A (call (.builtin "sorted") [.ref d]) Q E s:=by
 refine Calls.call_function_entry kind_sorted plain_sorted entry_sorted (args_sorted1 _) ?_
 unfold Builtin.«sorted»
 refine zm (m:=checkCount "sorted" 1 1 _) (zK ?_)
 refine zm (kdu_collect (A:=A.in1) (kdl_dict (knd:=knd) (kvs:=kvs) (ep:=ep) lo) hh de (by rw [sizeLine_eq];omega) λh' tk acc hk gX=>?_)
 have hl:acc.toList.length=kvs.length:=by rw [Array.length_toList];exact gX.1
 refine zm (wpAny_newList ?_ (by rw [hl,sizeLine_eq];omega))
 have AI:=hS acc.toList hl (λj v e=>gX.2 j v (by rw [<-Array.getElem?_toList];exact e))
 have gp:(h'.push (seqObj "list" acc.toList.toArray 0)).get? h'.objs.size=some (seqObj "list" acc.toList.toArray 0):=yK _ rfl
 refine zm (jZ (jQ (s:={ s with heap:=h'.push (seqObj "list" acc.toList.toArray 0),toks:=tk }) slot_list_sort ⟨_,gp,rfl⟩ entry_list_sort (list_sort_treeK (s:={ s with heap:=h'.push (seqObj "list" acc.toList.toArray 0),toks:=tk }) strKind_oneLt gp AI.keysOf (λaM aJ rest e=>keyKind_strs (by rw [<-e];exact AI)) (by rw [hl];exact pX) λaP a1 a2=>⟨_,rfl,?_⟩) (args_list_sort _)))
 obtain ⟨RS,q1,q2,q3⟩:=sorted_out_str AI a1 a2
 obtain ⟨e,he⟩:=FF gp ((arrOf aP).map (·.2))
 rw [FE q2 q3] at q1
 exact zK ⟨_,rfl,h h' _ tk _ e hk (λb o eb=>FG (yw (yc eb)) (zU _ eb)) he q1⟩
end
section
variable {X:Cx}
theorem AJ:∀{out:Af}{ss:Ad},StrsAre out ss->Vals (ss.map V.str) out
 |_,_,.nil=>.nil
 |_,_,.cons y t h=>.cons ⟨t,rfl⟩ (AJ h)
def RT:List V->Hp->VK->Prop:=λxs H Q=>∃a ks ws,xs=[.ref a]/\H a=some (.dK (kz ks ws))/\ks.length=ws.length/\ks.length<64/\∀l,H l=none->Q (.ref l) (upd H l (.lst ((ak ks).map V.str)))
def RU {ks:Ad}{ws:List V}{kv:List (Key×Value)}(hl:ks.length=ws.length) (r:KV (kz ks ws) kv) {vs:Af}(hlen:vs.length=kv.length) (h:∀(j:Nat) (v:Value),vs[j]?=some v->∃k x,kv[j]?=some (k,x)/\di k v=true):StrsAre vs ks:=by
 induction ks generalizing ws kv vs with
 |nil =>
  cases ws with
  |nil =>
   cases r
   cases vs with
   |nil=>exact .nil
   |cons v vs=>simp at hlen
  |cons w ws=>simp at hl
 |cons k ks ih =>
  cases ws with
  |nil=>simp at hl
  |cons w ws =>
   obtain ⟨u,Aw,rfl,h1,h2⟩:=y_ r
   cases vs with
   |nil=>simp at hlen
   |cons v vs =>
    obtain ⟨k',x,e,hk⟩:=h 0 v rfl
    cases e
    rcases wA hk with ⟨i,t,e1,_⟩|⟨y,t,e1,e2⟩
    ·cases e1
    ·cases e1
     subst e2
     exact .cons _ _ (ih (by simpa using hl) h2 (by simpa using hlen) λj v hj=>h (j+1) v (by simpa using hj))
def RV (hc:X.calm=true):bt X (.builtin "sorted") RT:=by
 intro pins s U H xs us Q I r h
 obtain ⟨a,ks,ws,rfl,ha,hl,pX,q⟩:=h
 obtain ⟨u,rfl,ru⟩:=r.one
 obtain rfl:u=Value.ref a:=ru
 obtain ⟨hz,lo,kv,fY,hd⟩:=jj I.hok (.inl ha)
 obtain ⟨ep,de⟩:=hd.dictAt
 have lk:kv.length=ks.length:=by rw [<-fY.length];simp [kz,hl]
 refine RR (knd:=aU X.prog X.w) (I.ok.hd hc) lo de (by omega) (λvs hlen hv=>RU hl fY hlen hv) λh1 h2 tk out e k1 k2 he hs=>?_
 have I1:Inv X pins U H { s with heap:=h1,toks:=tk }:=I.kept (t':=tk) k1
 have hn:H h1.objs.size=none:=I1.hok.fresh (z0 _)
 have lv:((ak ks).map V.str).length<=sizeLine:=by
  rw [y3,sizeLine_eq]
  unfold ak
  rw [List.length_mergeSort]
  omega
 exact ⟨.ref h1.objs.size,_,I1.laid (t':=tk) k2 (z0 _) (show aX X.prog X.w _ h2 _ (.lst ((ak ks).map V.str)) from ⟨lv,out,e,AJ hs,he⟩),rfl,q _ hn⟩
def pY:Al:=λxs st=>match xs with
 |[.ref n]=>yR st n λks _=>if ks.length<64 then .ok (.ref st.length) (st++[.lst ((ak ks).map PV.str)]) else .stuck
 |_=>.stuck
def AK:bootBuiltins "sorted" = some (.builtin "sorted"):=by decide +kernel
end
section
variable {X:Cx}
theorem AL {K:Frag}{mg:Ab}{ρ:Ae}{H:Hp}:∀zs:Ad,Rs K mg ρ H (zs.map PV.str) (zs.map V.str)
 |[]=>rfl
 |z::zs=>⟨_,_,rfl,rfl,AL zs⟩
def RW (hc:X.calm=true):bM X (.builtin "sorted") pY:=⟨_,RV hc,fun ρ H st xs vs Q E s r h=>by
 unfold pY at h
 match xs,h with
 |[.ref n],h =>
  obtain ⟨ks,xs,hn,h⟩:=lh h
  obtain ⟨v,rfl,rv⟩:=r.one
  obtain ⟨a,ws,rfl,ha,k1,k2,k3⟩:=R.refD s rv hn
  obtain ⟨c,h⟩:=Out.ifp h
  refine ⟨a,ks,ws,rfl,k1,k3,c,λl hl=>?_⟩
  have ep:Ext ρ H (ρ++[l]) (upd H l (.lst ((ak ks).map V.str))):=Ext.push hl
  exact h _ _ ep (s.push hl ⟨_,yv,AL _⟩) _ ⟨l,rfl,by rw [<-s.len];simp⟩⟩
end
section
variable {X:Cx}
def fZ (ks:Ad) (i j:Nat):Bool:=decide ((ks[j]?.getD "").cps.toList<(ks[i]?.getD "").cps.toList)
def RX:List V->Hp->VK->Prop:=λxs H Q=>∃a ks ws z,xs=[.ref a]/\H a=some (.dK (kz ks ws))/\ks.length=ws.length/\ks[argBest (fZ ks) (ks.length-1)]?=some z/\Q (.str z) H
def AO {ks:Ad} {ws:List V} {kv:List (Key×Value)} (hl:ks.length=ws.length) (r:KV (kz ks ws) kv):∀{i:Nat} {v:Value},(∃k x,kv[i]?=some (k,x)/\di k v=true)->∃t,ks[i]?=some (ks[i]?.getD "")/\v=.str (ks[i]?.getD "") t:=by
 intro i v ⟨k,x,e,hk⟩
 have AQ:=r.keys
 have e2:=congrArg (λl:List Key=>l[i]?) AQ
 simp only [yP,e,Option.map_some] at e2
 have hz:(kz ks ws).map (·.1)=ks.map Sum.inr:=by
  unfold kz
  rw [List.map_fst_zip (by simp;omega)]
 have e3:((kz ks ws).map (·.1))[i]?=some k:=by rw [yP];exact e2
 rw [hz,yP] at e3
 cases hki:ks[i]? with
 |none=>rw [hki] at e3;cases e3
 |some y =>
  rw [hki] at e3
  cases e3
  rcases wA hk with ⟨_,_,e1,_⟩|⟨y',t,e1,e2⟩
  ·cases e1
  ·cases e1
   exact ⟨t,rfl,e2⟩
def RY (hc:X.calm=true):bt X (.builtin "max") RX:=by
 intro pins s U H xs us Q I r h
 obtain ⟨a,ks,ws,z,rfl,ha,hl,hz,q⟩:=h
 obtain ⟨u,rfl,ru⟩:=r.one
 obtain rfl:u=Value.ref a:=ru
 obtain ⟨hsz,lo,kv,fY,hd⟩:=jj I.hok (.inl ha)
 obtain ⟨ep,de⟩:=hd.dictAt
 have lk:kv.length=ks.length:=by rw [<-fY.length];simp [kz,hl]
 have pos:0<kv.length:=by
  rw [lk]
  rcases Nat.eq_zero_or_pos ks.length with e|e
  ·rw [List.length_eq_zero_iff.mp e] at hz;simp at hz
  ·exact e
 have bD:a<s.heap.objs.size:=de.lt_size
 refine call_max_walk (wpAny_pyIter_dict lo de ?_)
 refine ⟨s.heap.objs.size,[s.heap.objs.size,a],[s.heap.objs.size],kv.length,_,_,fZ ks,rfl,Walks.dictKeys (knd:=aU X.prog X.w) (A:=X.A.in1) (I.ok.hd hc) s.heap.objs.size a (yw bD) kv ep,⟨⟨_,yK _ rfl,rfl,rfl⟩,de.push _⟩,λb hb=>?_,pos,λi j vi vj s' Q' E' hi hj hq=>?_,λv h' tk hP hk=>?_⟩
 ·show b<(s.heap.push _).objs.size
  rw [Heap.size_push]
  rcases yE.mp hb with rfl|hb
  ·exact wy _
  ·rw [iJ.mp hb];exact Nat.lt_succ_of_lt bD
 ·obtain ⟨t,e1,rfl⟩:=AO hl fY hi
  obtain ⟨t',e2,rfl⟩:=AO hl fY hj
  exact richCompare_gives (op:=.Gt) (typeIs_str s' _ t) (typeIs_str s' _ t') F.slot_str_gt F.entry_str_gt (F.args_str_gt_2 _ _) (gives_str_gt _ _ t t') (by simp [Made.takes]) hq
 ·obtain ⟨t,e1,rfl⟩:=AO hl fY hP
  rw [lk] at e1
  rw [hz] at e1
  have I1:Inv X pins U H { s with heap:=h',toks:=tk }:=I.kept (t':=tk) λb o e=>hk b o (λhm=>absurd (yc e) (by rw [iJ.mp hm];exact Nat.lt_irrefl _)) (zU _ e)
  refine ⟨.str z,H,I1,?_,q⟩
  rw [lk,hz]
  exact ⟨t,rfl⟩
def pZ:Al:=λxs st=>match xs with
 | [.ref n]=>yR st n λks _=>match ks[argBest (fZ ks) (ks.length-1)]? with
  |some z=>.ok (.str z) st
  |none=>.stuck
 |_=>.stuck
def ztQ (hc:X.calm=true):bM X (.builtin "max") pZ:=⟨_,RY hc,fun ρ H st xs vs Q E s r h=>by
 unfold pZ at h
 match xs,h with
 |[.ref n],h =>
  obtain ⟨ks,xs,hn,h⟩:=lh h
  obtain ⟨v,rfl,rv⟩:=r.one
  obtain ⟨a,ws,rfl,ha,k1,k2,k3⟩:=R.refD s rv hn
  cases hz:ks[argBest (fZ ks) (ks.length-1)]? with
  |none=>simp only [hz] at h;exact h.elim
  |some z =>
   simp only [hz] at h
   exact ⟨a,ks,ws,z,rfl,k1,k3,hz,Out.now (x:=PV.str z) h s _ rfl⟩⟩
def sV:Am
 |.str a,.str b,st=>.ok (.bl (!decide (b.cps.toList<a.cps.toList))) st
 |_,_,_=>.stuck
def RZ:R2:=λv w H Q=>∃a b,v=.str a/\w=.str b/\Q (.bl (!decide (b.cps.toList<a.cps.toList))) H
def R0:bq X (compareOp .LtE) RZ:=by
 intro pins s U H x y v u Q I rx ry h
 obtain ⟨a,b,rfl,rfl,q⟩:=h
 obtain ⟨t,rfl⟩:=rx
 obtain ⟨t',rfl⟩:=ry
 exact P.le_str ⟨.bl _,H,I,rfl,q⟩
def ztT:bL X .LtE sV:=⟨_,R0,fun ρ H st x y v w Q E s rx ry h=>by
 cases x with
 |str a =>
  cases y with
  |str b =>
   cases rx
   cases ry
   exact ⟨a,b,rfl,rfl,h.now s _ rfl⟩
  |_=>exact h.elim
 |_=>exact h.elim⟩
def zj9:bM X (.type "int") m5:=⟨_,Nh,fun ρ H st xs vs Q E s r h=>by
 unfold m5 at h
 match xs,h with
 |[.str z],h =>
  obtain ⟨v,rfl,rv⟩:=r.one
  cases rv
  cases hn:PySem.intText? z with
  |none=>simp only [hn] at h;exact h.elim
  |some n =>
   simp only [hn] at h
   obtain ⟨c,h⟩:=Out.ifp h
   exact ⟨z,n,rfl,hn,c,Out.now (x:=PV.int n) h s _ rfl⟩⟩
end
end Mi
namespace Mi
open PySem L2 PySem.W PySem.Spec
def jY (C:Str) (m:Al) (c:Str):Option (Al):=if c=C then some m else none
def sW {P:Program}{w:World}{K:Frag}{mg:Ab}{base:Heap}{C n:Str}{k:Nat}{m m':Al}{c:Str}(ok:bZ P w K mg base C n k m) (h:jY C m c=some m'):bZ P w K mg base c n k m':=by
 unfold jY at h
 by_cases e:c=C
 ·rw [zp e] at h;cases h;rw [e];exact ok
 ·rw [zD e] at h;cases h
def w5 {C:Str}{m:Al}:jY C m C=some m:=zp rfl
end Mi
namespace PySem
def Heap.IsRevT (h:Heap) (a l:Addr) (i:Int):Prop:=∃o,h.get? a=some o/\o.cls=.type "reversed" /\ o.data=.fields #[.ref l,rawInt i]
section
open PyProof.Rows
def Heap.IsRevT.at {h h':Heap}{a l:Addr}{i:Int}(x:h.IsRevT a l i) (e:∀o,h.get? a=some o->h'.get? a=some o):h'.IsRevT a l i:=let ⟨o,ho,r⟩:=x;⟨o,e _ ho,r⟩
end
end PySem
namespace Mi
open PySem L2 PySem.W PySem.Spec
section
variable {X:Cx} {Er:XK} {pos:Pos}
def X0F (K:Frag) (mg:Ab) (c:Str):Prop:=∃C,mg c=some (.ref C)/\excIn K C cv "ValueError.__new__" = true/\keepIn K (.ref C)=true
def R3 {cn:Str} {np aK:Pos} (C:X0F X.K X.mg cn) (ht:j0 X Er) (hc:X.calm=true) (hg:Gl X cn:=by rfl) (bK:(cn==("__debug__" : Str))=false:=by decide):MS X Er (.Raise (some (.Call (.Name cn np) [] [] aK)) none pos) (dI cn):=by
 obtain ⟨C,hm,q,kp⟩:=C
 exact PS.weak (N_ q kp hg hm ht.one hc bK) λD U H ⟨env,st,ρ,re,rs,h⟩=>h ρ H _ _ (Ext.refl ..) rs ⟨C,rfl,hm,.inl ⟨rfl,rfl⟩⟩
def ztV {K:Frag} {mg:Ab} {h:Heap} {c:Str} {C:Addr} (X:K.In h) (G:h.Ns mainGlobals mg) (aC:nsIn K mainGlobals c=some (some (.ref C))) (hB:excIn K C cv "ValueError.__new__" = true) (kp:keepIn K (.ref C)=true):X0F K mg c:=⟨C,mg_of X G aC,hB,kp⟩
def X0F.tr {K:Frag}{mg:Ab}{c:Str}(h:X0F K mg c):∃C,mg c=some (.ref C)/\dH K C:=by
 obtain ⟨C,hm,q,kp⟩:=h
 refine ⟨C,hm,?_⟩
 unfold excIn at q
 split at q
 ·rename_i dd cd sl ho
  split at q
  ·rename_i C' bm k0 k1 k2 k3 n k5 dJ hs
   simp only [y4,beq_iff_eq,Bool.not_eq_true'] at q
   obtain ⟨⟨⟨⟨⟨rfl,rfl⟩,i6⟩,rL⟩,hok⟩,i5⟩:=q
   obtain ⟨nm,bs,mro,ns,qn,hd,sn,sub,ab,col,del⟩:=cd
   dsimp only at dJ i6 hok i5
   subst dJ i6
   have v7:sl=#[k0,k1,k2,k3,some (.builtin "ValueError.__new__"),k5]:=Array.toList_inj.mp hs
   subst v7
   exact ⟨⟨nm,qn,ns,bs,bm,hd,sn,sub,ab,col,dd,k0,k1,k2,k3,k5,ho,rL,hok⟩,kp⟩
  ·cases q
 ·cases q
def R4 (cn:Str) (e:zd) (st:aa):dI cn e st=.err cn [] [] st:=rfl
end
section
variable {X:Cx} {K:Frag} {mg:Ab} {a:Expr}
inductive sX (K:Frag) (H:Hp):V->Value->Prop where
 |of {v:V} {t:Value} (h:cP K H v t):sX K H v t
 |tup {a:Addr} {vs:List V} (h:bC K H a vs):sX K H (.ref a) (.type "tuple")
def fN:bt X (.builtin "isinstance") (λxs H Q=>∃v w t c b,xs=[v,w]/\sX X.K H v t/\RelV w c/\(∀c',RelV w c'->c'=c)/\kitOne X.K t c=some b/\Q (.bl b) H):=by
 intro pins s U H xs us Q I r h
 obtain ⟨v,w,t,c,b,rfl,ty,rw,un,e,q⟩:=h
 obtain ⟨u,w',rfl,ru,rw'⟩:=nY r
 obtain rfl:=un w' rw'
 have h:∀tk,EP X pins U Q (.bool b) { s with toks:=tk }:=λtk=>⟨.bl b,H,I.tok _,rfl,q⟩
 cases ty with
 |of ty=>exact CN I ru ty e h
 |@tup a vs hq =>
  obtain rfl:u=Value.ref a:=ru
  obtain ⟨its,_,p,_⟩:=I.tuple hq
  obtain ⟨o,h1,h2,_⟩:=p
  exact PySem.W.kia_one PySem.W.kitx_tuple I.kIn ⟨o,h1,h2⟩ e (λz=>nomatch z) h
def sY:Option SO->Option String
 |some (.dic _ _)=>some "dict"
 |some (.lst _)=>some "list"
 |_=>none
def tyP (st:aa):PV->Option String
 |.non=>some "NoneType"
 |.bl _=>some "bool"
 |.int _=>some "int"
 |.str _=>some "str"
 |.tup _=>some "tuple"
 |.ref n=>sY st[n]?
 |_=>none
def R5 {ρ:Ae}{H:Hp}{st:aa}{x:PV}{v:V}{T:String}(s:a_ K mg ρ H st) (r:R K mg ρ H x v) (h:tyP st x=some T):sX K H v (.type T):=by
 cases x with
 |non=>cases h;cases r;exact .of .non
 |bl b=>cases h;cases r;exact .of (.bl b)
 |int i=>cases h;cases r;exact .of (.int i)
 |str z=>cases h;cases r;exact .of (.str z)
 |tup xs=>cases h;obtain ⟨a,vs,rfl,h1,_⟩:=r;exact .tup h1
 |ref n =>
  obtain ⟨a,rfl,ha⟩:=r
  have h:sY st[n]?=some T:=h
  cases e:st[n]? with
  |none=>rw [e] at h;cases h
  |some so =>
   rw [e] at h
   cases so with
   |lst xs=>cases h;obtain ⟨vs,h1,_⟩:=s.addr e ha;exact .of (.lst h1)
   |dic ks xs=>cases h;obtain ⟨vs,h1,_⟩:=s.addr e ha;exact .of (.dK h1)
   |_=>cases h
 |_=>cases h
def yC:Al
 | [x,.ty n],st=>match tyP st x with
  |some T=>eV (cm T n) st
  |none=>.stuck
 |_,_=>.stuck
def jw:bM X (.builtin "isinstance") yC:=⟨_,fN,fun ρ H st xs vs Q E s r h=>by
 unfold yC at h
 split at h
 ·rename_i x n
  obtain ⟨v,w,rfl,rx,ry⟩:=Rs.two r
  cases hc:tyP st x with
  |none=>rw [hc] at h;exact h.elim
  |some T =>
   rw [hc] at h
   cases ry
   obtain ⟨b,hb,h⟩:=Pd h
   exact ⟨v,_,_,_,b,rfl,R5 s rx hc,rfl,λc' h=>h,O5 X.K hb,h.now s _ rfl⟩
 ·exact h.elim⟩
end
end Mi
namespace L2
open PySem PySem.Spec PyProof.Rows PySem.W
def R6 (C:Addr) (tv:TX) (tsu:TS):TS:=λD U H=>tv U H (λ_ H1=>D.nx U H1)
 (λc d H1=>c=.ref C/\∀a,H1 a=none->tsu { nx:=D.nx,rt:=D.rt } U (upd H1 a (eP C d a)))
def R7 {X:Cx}{C:Addr}{cls:Str}{value:Expr}{tv:TX}{tsu:TS}{b0:Stmt}{bF:List Stmt}{ap cp hp pos:Pos}
  (hv:PX X value tv) (hg:Gl X cls) (hm:X.mg cls=some (.ref C)) (hC:dH X.K C) (ia:∀a,ck (X.caught a) (b0::bF) tsu) (b8:X.stack=X.env::X.outer) (cL:X.env.frame=some X.env.locals)
  (d8:swapsWith value none ap.line X.env=pure false:=by rfl) (bK:(cls==("__debug__" : Str))=false:=by decide) :
  PS X (.Try [.Expr value ap] [.ExceptHandler (some (.Name cls cp)) none (b0::bF) hp] [] [] pos) (R6 C tv tsu):=by
 intro pins s U H D I h
 rw [arm_exec_Try]
 refine zm (wpAny_standAt (wpAny_tryStmt_except (wpAny_execs_cons (wpAny_Expr_any (yT (hv pins s U H _ _ I h) (λv s1 ⟨y,H1,I1,r1,q1⟩=>?_) (λu s1 ⟨a,C',d,H1,eu,I1,vZ,ec,q⟩=>?_)) I.quiet d8))))
 ·exact wpAny_execs_nil (wpAny_execs_nil ⟨_,H1,I1,q1⟩)
 subst eu
 cases ec
 refine vW I1 I.ok.frames b8 cL vZ λs2 T I2 x2 ne oJ oa oT=>oF I2 x2 ne oJ oa oT λs3 I3 x3 k8=>?_
 refine wpAny_handleBy_cons (codeAny_handlers_test ?_) (by intro q;cases q)
 refine iP (X:=X.caught a) (Inv.caught I3 a) hg hm ?_ bK
 obtain ⟨⟨nm,q',N,bs,bm,cu,sn,sub,ab,col,dd,k0,k1,k2,k3,k5,hl,ht,_⟩,_⟩:=hC
 have mF:=I3.kIn _ _ hl
 have bf:bm.contains (.type "BaseException")=true:=(tail_of_in I3.kIn ht).hasType (by decide)
 obtain ⟨oe,vs,he,fH,_⟩:=id x3
 refine wpAny_excMatches_sub_self (h:=s3.heap) (g:=s3.gens) (d:=s3.drawn) (t:=s3.toks) (os:=s3.os) mF he fH bf ?_
 refine codeAny_handlers_suite (oF I3 x3 ne k8 oa oT λs4 I4 x4 N4=>?_)
 have I5:=Inv.catch I4 oa x4
 refine yT (ia a pins s4 _ _ _ (Inv.caught I5 a) (q a oa.1)) (λf s6 z=>?_) λ_ _ z=>z.elim
 cases f with
 |next =>
  obtain ⟨ah,H',I7,q7⟩:=z
  exact ⟨_,H',Inv.uncaught I.ok I7,q7⟩
 |brk=>obtain ⟨_,_,_,z⟩:=z;exact z.elim
 |cont=>obtain ⟨_,_,_,z⟩:=z;exact z.elim
 |ret u =>
  obtain ⟨v,ah,H',I7,r7,q7⟩:=z
  exact ⟨v,_,H',Inv.uncaught I.ok I7,r7,q7⟩
end L2
namespace Mi
open PySem L2 PySem.W PySem.Spec
section
variable {X:Cx} {K:Frag} {mg:Ab} {Er:XK} {e o:Expr} {pos apos:Pos} {fo fk:Ai}
def p9 (cn:Str) (fv:Ai) (bF:Aj):Aj:=λenv st=>match fv env st with
 |.ok _ st1=>.ok (.nx env) st1
 | .err c _ _ st1=>if c=cn then (bH (bF env st1)).bind λfl av=>match fl with
  |.nx e=>.ok (.nx e) av
  |.rt x=>.ok (.rt x) av
  |_=>.stuck
  else .stuck
 |.stuck=>.stuck
def R8 {cn:Str}{value:Expr}{fv:Ai}{gs:Aj}{b0:Stmt}{bF:List Stmt}{ap cp hp:Pos}(hC:∃C,X.mg cn=some (.ref C)/\dH X.K C) (hv:MX X value fv) (ia:∀a,dN (X.caught a) E0 (b0::bF) gs)
  (b8:X.stack=X.env::X.outer:=by rfl) (cL:X.env.frame=some X.env.locals:=by rfl) (hg:Gl X cn:=by rfl)
  (d8:swapsWith value none ap.line X.env=pure false:=by rfl) (bK:(cn==("__debug__" : Str))=false:=by decide) :
  MS X Er (.Try [.Expr value ap] [.ExceptHandler (some (.Name cn cp)) none (b0::bF) hp] [] [] pos) (p9 cn fv gs):=by
 obtain ⟨C,hm,hC⟩:=hC
 exact PS.weak (R7 (tsu:=sM X.K X.mg E0 gs) hv hg hm hC ia b8 cL d8 bK) λD U H ⟨env,st,ρ,re,rs,h⟩=>by
  refine ⟨env,st,ρ,re,rs,?_⟩
  unfold p9 at h
  cases hr:fv env st with
  |ok y st1 =>
   rw [hr] at h
   exact λae H1 e1 s1 v rv=>h ae H1 e1 s1 _ (re.ext e1)
  |stuck=>rw [hr] at h;exact h.elim
  |err c ks xs st1 =>
   simp only [hr] at h
   obtain ⟨rfl,h2⟩:=Out.ifp h
   intro ae H1 Cv d e1 s1 xr
   obtain ⟨C',rfl,hm',hd⟩:=xr
   rw [hm] at hm'
   cases hm'
   refine ⟨rfl,λq hq=>?_⟩
   have eq:Ext ae H1 ae (upd H1 q (eP C d q)):=Ext.new hq
   refine ⟨env,st1,ae,(re.ext e1).ext eq,s1.new hq,gz (Out.ext h2 (e1.trans eq)) λam H2 fl av e2 s2 h2=>?_⟩
   cases fl with
   |nx e=>exact λaE r2=>Out.fl (D:=D) (fl:=.nx e) (E:=Er) h2 s2 _ r2
   |rt y=>exact λv2 r2=>Out.fl (D:=D) (fl:=.rt y) (E:=Er) h2 s2 _ r2
   |_=>exact h2.elim
def jM (z:Str):List Str->List PV->List Str×List PV
 |k::ks,x::xs=>if k=z then jM z ks xs else (k::(jM z ks xs).1,x::(jM z ks xs).2)
 |_,_=>([],[])
theorem FH {ρ:Ae}{H:Hp}{z:Str}:∀{ks:Ad}{xs:An}{vs:List V},ks.length=vs.length->Rs K mg ρ H xs vs->∃ws,L2.dropK (kz ks vs) (Sum.inr z)=kz (jM z ks xs).1 ws/\Rs K mg ρ H (jM z ks xs).2 ws/\(jM z ks xs).1.length=ws.length
 |[],xs,vs,_,_=>⟨[],by simp [kz,dropK,jM],by simp [jM,Rs],by simp [jM]⟩
 |k::ks,[],vs,hl,h=>by have:=h.len;simp at this hl;omega
 |k::ks,x::xs,vs,hl,h=>by
  obtain ⟨v,r',rfl,h1,h2⟩:=h
  obtain ⟨ws,q1,q2,q3⟩:=FH (z:=z) (ks:=ks) (by simpa using hl) h2
  have e:L2.dropK (kz (k::ks) (v::r')) (Sum.inr z)=if k=z then L2.dropK (kz ks r') (Sum.inr z) else (Sum.inr k,v)::L2.dropK (kz ks r') (Sum.inr z):=by
   by_cases hk:k=z
   ·simp [kz,dropK,hk]
   ·simp [kz,dropK,hk]
  rw [e]
  unfold jM
  by_cases hk:k=z
  ·rw [zp hk,zp hk]
   exact ⟨ws,q1,q2,q3⟩
  ·rw [zD hk,zD hk,q1]
   exact ⟨v::ws,rfl,⟨v,ws,rfl,h1,q2⟩,by simp [q3]⟩
def p_ (n:Nat) (z:PV):Mo PV:=λst=>match z with
 | .str z=>yR st n λks xs=>match (ks.zip xs).lookup z with
  |some y=>.ok y (st.set n (.dic (jM z ks xs).1 (jM z ks xs).2))
  |none=>.stuck
 |_=>.stuck
def qc (fo fk:Ai):Ai:=λenv st=>(fo env st).bind λv st1=>lF v st1 λn _ _=>(fk env st1).bind λz av=>p_ n z av
def zkb (ho:ME X Er o fo) (he:ME X Er e fk) {aK:Pos} (bf:attributeBase o "pop" X.env (eval o X.env)=eval o X.env:=by rfl)
  (dF:((backTo aK (starEach [e] X.env)).all (λx=>!x.1)&&(backToKw aK (keywordEach [] X.env)).all (λx=>x.1.isSome)&&decide (([e]:List Expr).length+([]:List Keyword).length+(if ([]:List Keyword).isEmpty then 0 else 1)<30))=true:=by rfl)
  (bw:(apos.endLine==aK.line)=true:=by rfl) (ht:backTo aK (starEach [e] X.env)=[(false,eval e X.env)]:=by rfl):ME X Er (.Call (.Attribute o "pop" apos) [e] [] aK) (qc fo fk) :=
 PE.weak (ND ho he ⟨bf,dF,bw,ht⟩) λU H Q ⟨env,st,ρ,re,rs,h⟩=>⟨env,st,ρ,re,rs,h.then λae H1 x st1 e1 s1 h1 v rv=>by
  obtain ⟨n,ks,xs,rfl,hn,h1⟩:=AB h1
  obtain ⟨a,vs,rfl,ha,k1,k2,k3⟩:=R.refD s1 rv hn
  refine ⟨a,rfl,.inl ⟨_,.inl k1⟩,env,st1,ae,re.ext e1,s1,h1.then λam H2 z av e2 s2 h2 w rw'=>?_⟩
  cases z with
  |str z =>
   cases rw'
   obtain ⟨pB,xs2,cX,h2⟩:=lh (show Out X.K X.mg am H2 (yR av n λks xs=>match (ks.zip xs).lookup z with
    |some y=>.ok y (av.set n (.dic (jM z ks xs).1 (jM z ks xs).2))
    |none=>.stuck) (gV X.K X.mg Q) Er from h2)
   obtain ⟨eK,q1,q2,q3⟩:=s2.addr cX (e2.get ha)
   cases hq:(pB.zip xs2).lookup z with
   |none=>simp only [hq] at h2;exact h2.elim
   |some y =>
    simp only [hq] at h2
    obtain ⟨v,hv,rv⟩:=ke q2 hq
    obtain ⟨ws,r1,r2,r3⟩:=FH (z:=z) q3 q2
    have ew:Ext am H2 am (upd H2 a (.dK (dropK (kz pB eK) (Sum.inr z)))):=Ext.write q1 rfl
    exact ⟨kz pB eK,Sum.inr z,v,q1,rfl,by rw [sD];exact hv,h2 am _ ew (s2.write (e2.get ha) ew ⟨ws,by rw [yv,r1],Rs.ext ew _ r2,r3⟩) _ (R.ext ew y rv)⟩
  |_=>exact h2.elim⟩
end
end Mi
namespace Mi
open PySem L2 PySem.W PySem.Spec PyProof.Rows
section
variable {prog:Program} {w:World} {A:Around} {E:Aa} {s:Shared}
def R9 {a:Addr} {its:Af} {n:Nat} {ss:Ad} {Q:Aa} (ho:s.heap.get? a=some { cls:=.type "list", data:=.seq its.toArray n }) (hS:StrsAre its ss) (pX:its.length<64)
  (h:∀(h1 h2:Heap) (out:Af) (e:Nat),(∀b o,s.heap.get? b=some o->h1.get? b=some o)->(∀b o,h1.get? b=some o->h2.get? b=some o)->h2.get? h1.objs.size=some (seqObj "list" out.toArray e)->StrsAre out (ak ss)->Q (.ref h1.objs.size) { s with heap:=h2 }) :
  wpAny (model prog w) A (call (.builtin "sorted") [.ref a]) Q E s:=by
 refine Calls.call_function_entry kind_sorted plain_sorted entry_sorted (args_sorted1 _) ?_
 unfold Builtin.«sorted»
 refine zm (m:=checkCount "sorted" 1 1 _) (zK ?_)
 refine zm (wpAny_collect_seq a (.inl rfl) ho rfl rfl (λh' hk=>?_) (by rw [sizeLine_eq];simp;omega))
 rw [show its.toArray.toList=its from List.toList_toArray]
 refine zm (wpAny_newList ?_ (by rw [sizeLine_eq];omega))
 have gp:(h'.push (seqObj "list" its.toArray 0)).get? h'.objs.size=some (seqObj "list" its.toArray 0):=yK _ rfl
 refine zm (jZ (jQ (s:={ s with heap:=h'.push (seqObj "list" its.toArray 0) }) slot_list_sort ⟨_,gp,rfl⟩ entry_list_sort (list_sort_treeK (s:={ s with heap:=h'.push (seqObj "list" its.toArray 0) }) strKind_oneLt gp hS.keysOf (λaM aJ rest e=>keyKind_strs (by rw [<-e];exact hS)) pX λaP a1 a2=>⟨_,rfl,?_⟩) (args_list_sort _)))
 obtain ⟨RS,q1,q2,q3⟩:=sorted_out_str hS a1 a2
 obtain ⟨e,he⟩:=FF gp ((arrOf aP).map (·.2))
 rw [FE q2 q3] at q1
 exact zK ⟨_,rfl,h h' _ _ e hk (λb o eb=>FG (yw (yc eb)) (zU _ eb)) he q1⟩
end
section
variable {X:Cx}
theorem l8:∀{ss:Ad}{its:Af},Vals (ss.map V.str) its->StrsAre its ss
 |[],_,.nil=>.nil
 |_::_,_,.cons ⟨t,e⟩ h=>by subst e;exact .cons _ t (l8 h)
def R_:List V->Hp->VK->Prop:=λxs H Q=>∃a ks,xs=[.ref a]/\H a=some (.lst (ks.map V.str))/\ks.length<64/\∀l,H l=none->Q (.ref l) (upd H l (.lst ((ak ks).map V.str)))
def Sa:bt X (.builtin "sorted") R_:=by
 intro pins s U H xs us Q I r h
 obtain ⟨a,ks,rfl,ha,pX,q⟩:=h
 obtain ⟨u,rfl,ru⟩:=r.one
 obtain rfl:u=Value.ref a:=ru
 obtain ⟨_,its,n,hv,hl,ho⟩:=I.lstM ha
 have hS:=l8 hv
 refine R9 ho hS (by rw [y3] at hl;omega) λh1 h2 out e k1 k2 he hs=>?_
 have I1:Inv X pins U H { s with heap:=h1 }:=I.kept (t':=s.toks) k1
 have hn:H h1.objs.size=none:=I1.hok.fresh (z0 _)
 have lv:((ak ks).map V.str).length<=sizeLine:=by
  rw [y3,sizeLine_eq]
  unfold ak
  rw [List.length_mergeSort]
  omega
 exact ⟨.ref h1.objs.size,_,I1.laid (t':=s.toks) k2 (z0 _) (show aX X.prog X.w _ h2 _ (.lst ((ak ks).map V.str)) from ⟨lv,out,e,AJ hs,he⟩),rfl,q _ hn⟩
def lH:Al:=λxs st=>match xs with
 | [.ref n]=>yl st n λys=>match strsOf ys with
  |some ks=>if ks.length<64 then .ok (.ref st.length) (st++[.lst ((ak ks).map PV.str)]) else .stuck
  |none=>.stuck
 |_=>.stuck
def FI:bM X (.builtin "sorted") lH:=⟨_,Sa,fun ρ H st xs vs Q E s r h=>by
 unfold lH at h
 match xs,h with
 |[.ref n],h =>
  obtain ⟨ys,hn,h⟩:=jb h
  obtain ⟨v,rfl,rv⟩:=r.one
  obtain ⟨a,ws,rfl,ha,k1,k2⟩:=R.refL s rv hn
  cases hk:strsOf ys with
  |none=>rw [hk] at h;exact h.elim
  |some ks =>
   rw [hk] at h
   obtain ⟨c,h⟩:=Out.ifp h
   rw [show ws=ks.map V.str from (xY hk k2).trans (by rw [List.map_map];rfl)] at k1
   refine ⟨a,ks,rfl,k1,c,λl hl=>?_⟩
   have ep:Ext ρ H (ρ++[l]) (upd H l (.lst ((ak ks).map V.str))):=Ext.push hl
   exact h _ _ ep (s.push hl ⟨_,yv,AL _⟩) _ ⟨l,rfl,by rw [<-s.len];simp⟩⟩
end
end Mi
namespace Mi
open PySem L2 PySem.W PySem.Spec
section
variable {P:Program} {W:World} {A:Around} {s:Shared} {E:Aa} {K:Type} [DecidableEq K] {knd:KeyKind P W K}
def FJ {a b:Addr}{ka kb:List (K×Value)}{r:Bool}{Q:Aa}(la:(a==sysModules)=false) (lb:(b==sysModules)=false) (da:s.heap.DictOf knd a ka) (db:s.heap.DictOf knd b kb) (hu:A.units<cLine)
  (hits:ka.length=kb.length->cy P W A.in1 s kb ka r) (h:Q (.bool (!(ka.length==kb.length&&r))) s):wpAny (model P W) A (richCompare .NotEq (.ref a) (.ref b)) Q E s:=by
 refine wpAny_richCompare_same_room (op:=.NotEq) da.typeIs db.typeIs PySem.F.slot_dict_ne (jQ PySem.F.slot_dict_ne da.typeIs PySem.F.entry_dict_ne ?_ (PySem.F.args_dict_ne_2 _ _)) hu
 show wpAny _ _ (Builtin.Dict.dictSlotArgs "__ne__" ⟨[.ref a,.ref b],[]⟩ >>= _) _ _ s
 refine zm ?_
 unfold Builtin.Dict.dictSlotArgs
 refine zm (wpAny_notOrdered_dict da.typeIs ?_)
 show wpAny _ _ (pure (Value.ref a,Value.ref b)) _ _ s
 refine zK (zm (wpAny_isInstance (T := "dict") db.typeIs PySem.F.sub_dict_dict ?_))
 simp only [Bool.not_true,Bool.false_eq_true,g9]
 refine zm (zK (zm (zK (zm (l6 la lb da db hits ?_)))))
 refine zK ⟨_,rfl,(λx=>nomatch x),?_⟩
 cases hb:(ka.length==kb.length&&r)<;>(rw [hb] at h;simpa using h)
end
section
variable {X:Cx} {K:Frag} {mg:Ab} {ρ:Ae} {H:Hp} {st:aa}
def lI:Am:=λx y st=>match x,y with
 | .ref i,.ref j=>match cT (eqT st 149) st[i]? st[j]? with
  |some b=>.ok (.bl (!b)) st
  |none=>.stuck
 |_,_=>.stuck
def Sb (K:Frag) (mg:Ab):R2:=λv w H Q=>∃ρ st i j b,a_ K mg ρ H st/\cT (eqT st 149) st[i]? st[j]?=some b/\R K mg ρ H (.ref i) v/\R K mg ρ H (.ref j) w/\Q (.bl (!b)) H
def Sd (hu:X.A.units+200<cLine):bq X (compareOp .NotEq) (Sb X.K X.mg):=by
 intro pins s U H x y v u Q I rx ry h
 obtain ⟨ρ,S0,i,j,b,S,h0,ra,rb,q⟩:=h
 obtain ⟨a,rfl,h1⟩:=id ra
 obtain ⟨a',rfl,h2⟩:=id rb
 cases rx
 cases ry
 obtain ⟨ks,xs,cg,b_,e1,e2,nd,hl,hc⟩:=Aq h0
 obtain ⟨vs,k1,k2,k3⟩:=S.addr e1 h1
 obtain ⟨ws,k4,k5,k6⟩:=S.addr e2 h2
 obtain ⟨_,s1,ka,pJ,da⟩:=jj I.hok (.inl k1)
 obtain ⟨_,s2,kb,pL,db⟩:=jj I.hok (.inl k4)
 have la:ka.length=ks.length:=by rw [<-pJ.length];simp [kz,k3]
 have lb:kb.length=cg.length:=by rw [<-pL.length];simp [kz,k6]
 rcases hc with ⟨iw,hc⟩|⟨iw,rfl⟩
 ·have hits:ka.length=kb.length->cy X.prog X.w X.A.in1 s kb ka b:=λ_=>Av (λx y v w u u' b e r1 r2 r3 r4=>(E9 I S 149 x y v w u u' b X.A.in1 e r1 r2 r3 r4 (by rw [oU];omega)).1) k5 pL k3 k2 pJ hc
  have hV:(ka.length==kb.length&&b)=b:=by rw [la,lb,iw];simp
  exact FJ s1 s2 da db (by omega) hits (by rw [hV];exact ⟨.bl (!b),H,I,rfl,q⟩)
 ·have hV:(ka.length==kb.length&&true)=false:=by rw [la,lb];simpa using iw
  exact FJ s1 s2 da db (by omega) (r:=true) (λz=>absurd (by rw [<-la,<-lb];exact z) iw) (by rw [hV];exact ⟨.bl true,H,I,rfl,q⟩)
def zgf (hu:X.A.units+200<cLine):bL X .NotEq lI:=⟨_,Sd hu,fun ρ H st x y v w Q E s rx ry h=>by
 unfold lI at h
 cases x with
 |ref i =>
  cases y with
  |ref j =>
   cases e:cT (eqT st 149) st[i]? st[j]? with
   |none=>simp only [e] at h;exact h.elim
   |some b=>simp only [e] at h;exact ⟨ρ,st,i,j,b,s,e,rx,ry,h.now s _ rfl⟩
  |_=>exact h.elim
 |_=>exact h.elim⟩
end
end Mi
abbrev Mi.At (n:Nat):Option Mi.PV:=some (.ref n)
abbrev Mi.Au (n:Nat):Option Mi.PV:=some (.int n)
abbrev Mi.Ar (i:Int):=Mi.mC (.int i)
abbrev Mi.As (z:PySem.Str):=Mi.mC (.str z)
namespace FK28
open PySem L2 PySem.W Mi
def top (i:Nat):Stmt:=PySem.Challenge.pw_foreknown_k28_records_of_many_parts.main.body.getD i (.Pass ⟨0,0,0,0⟩)
abbrev FK:Stmt:=top 55
abbrev FL:Stmt:=top 56
abbrev zgg:Stmt:=top 57
abbrev zgh:Stmt:=top 58
abbrev zej:Stmt:=top 60
abbrev FN:Stmt:=top 13
abbrev FO:Stmt:=top 15
abbrev FP:Stmt:=top 16
abbrev FQ:Stmt:=top 14
abbrev FR:Stmt:=top 19
abbrev zgi:Stmt:=top 20
abbrev zek:Stmt:=top 59
abbrev FT:Stmt:=top 11
abbrev zgj:Stmt:=top 12
abbrev zgk:Stmt:=top 17
abbrev zgl:Stmt:=top 18
abbrev FU:Stmt:=top 45
abbrev FV:Stmt:=top 24
abbrev FW:Stmt:=top 31
abbrev FX:Stmt:=top 38
abbrev FY:Stmt:=top 39
abbrev FZ:Stmt:=top 40
abbrev F0:Stmt:=top 41
abbrev F3:Stmt:=top 42
abbrev F4:Stmt:=top 43
abbrev F5:Stmt:=inClass (top 46) 1
abbrev F6:Stmt:=inClass (top 46) 0
abbrev F7:Stmt:=top 47
abbrev F8:Stmt:=top 63
abbrev F9:Stmt:=top 65
abbrev F_:Stmt:=top 66
abbrev zgm:Stmt:=top 61
abbrev zgn:Stmt:=top 62
abbrev zel:Stmt:=top 53
abbrev Ga:Stmt:=inClass (top 50) 0
abbrev Gb:Stmt:=inClass (top 50) 1
abbrev Gd:Stmt:=inClass (top 50) 3
abbrev Ge:Stmt:=inClass (top 50) 4
abbrev Gf:Stmt:=inClass (top 50) 6
abbrev Gg:Stmt:=inClass (top 50) 2
abbrev Gh:Stmt:=inClass (top 50) 8
abbrev Gi:Stmt:=inClass (top 50) 10
abbrev Gj:Stmt:=inClass (top 50) 9
abbrev Gk:Stmt:=inClass (top 50) 7
abbrev Gm:Stmt:=inClass (top 50) 5
abbrev Gn:Stmt:=top 51
abbrev Gp:Stmt:=top 64
abbrev zgo:Stmt:=top 67
abbrev zgp:Stmt:=top 68
abbrev AR:Stmt:=top 69
abbrev zgr:Stmt:=inClass (top 3) 0
def insOf (c:Str):Bool:=decide (c = "Op")||decide (c = "ValueReader")
def excOf (c:Str):Bool:=decide (c = "Fault")
def zat:Ad:=["same", "many", "item", "put", "field", "set"]
def zau:An:=[.tup [.tup [.str "any", .str "any"],.fn "tell_same"],.tup [.tup [.str "row"],.fn "tell_many"],.tup [.tup [.str "row", .str "number"],.fn "tell_item"],.tup [.tup [.str "row", .str "number", .str "any"],.fn "tell_put"],.tup [.tup [.str "record", .str "word"],.fn "tell_field"],.tup [.tup [.str "record", .str "word", .str "any"],.fn "tell_set"]]
abbrev zgs:Bool:=false
structure Txt (w:World) (K:Frag) (mg:Ab):Prop where
 f__law_deck:FnF K mg "_law_deck" FK ["_law_script"]
 f__law_next:FnF K mg "_law_next" FL ["_law_deck_here", "_law_many"]
 f__law_words:FnF K mg "_law_words" zgg ["_law_deck_here", "_law_many"]
 f__law_value:FnF K mg "_law_value" zgh ["_law_deck_here"]
 f__law_parts:FnF K mg "_law_parts" zej ["_law_value_here"]
 f_things_within:FnF K mg "things_within" FN ["thing"]
 f_all_within:FnF K mg "all_within" FO ["thing"]
 f_parts:FnF K mg "parts" FP ["value"]
 f_kind_of:FnF K mg "kind_of" FQ ["value"]
 f_own_weight:FnF K mg "own_weight" FR ["part"]
 f_weight:FnF K mg "weight" zgi ["value"]
 f__law_weight:FnF K mg "_law_weight" zek ["_law_value_here"]
 f_in_bounds:FnF K mg "in_bounds" FT ["number"]
 f_is_word:FnF K mg "is_word" zgj ["thing"]
 f_may_stand:FnF K mg "may_stand" zgk ["thing"]
 f_is_value:FnF K mg "is_value" zgl ["thing"]
 f_check_kinds:FnF K mg "check_kinds" FU ["kinds", "values"]
 f_number_of:FnF K mg "number_of" FV ["truth"]
 f_tell_same:FnF K mg "tell_same" FW ["values"]
 f_tell_many:FnF K mg "tell_many" FX ["values"]
 f_place_in:FnF K mg "place_in" FY ["row", "number"]
 f_tell_item:FnF K mg "tell_item" FZ ["values"]
 f_tell_put:FnF K mg "tell_put" F0 ["values"]
 f_tell_field:FnF K mg "tell_field" F3 ["values"]
 f_tell_set:FnF K mg "tell_set" F4 ["values"]
 m_Op_answer:MtF K mg "Op" "answer" "Op.answer" F5 ["self", "values"]
 n_Op:NwF K mg "Op" "Op.__init__" F6 ["self", "word"]
 f_op_of:FnF K mg "op_of" F7 ["word"]
 f__law_asked:FnF K mg "_law_asked" F8 ["_law_word", "_law_values"]
 f__law_record_right:FnF K mg "_law_record_right" F9 ["_law_deck_here", "_law_record", "_law_words_here"]
 f__law_same_right:FnF K mg "_law_same_right" F_ ["_law_deck_here", "_law_record", "_law_words_here"]
 f__law_text:FnF K mg "_law_text" zgm ["_law_value_here"]
 f__law_written:FnF K mg "_law_written" zgn ["_law_pairs"]
 f_show_value:FnF K mg "show_value" zel ["value"]
 n_ValueReader:NwF K mg "ValueReader" "ValueReader.__init__" Ga ["self", "text"]
 m_ValueReader_sign_here:MtF K mg "ValueReader" "sign_here" "ValueReader.sign_here" Gb ["self"]
 m_ValueReader_passes:MtF K mg "ValueReader" "passes" "ValueReader.passes" Gd ["self", "sign"]
 m_ValueReader_run_of:MtF K mg "ValueReader" "run_of" "ValueReader.run_of" Ge ["self", "signs"]
 m_ValueReader_read_word:MtF K mg "ValueReader" "read_word" "ValueReader.read_word" Gf ["self"]
 m_ValueReader_pass_sign:MtF K mg "ValueReader" "pass_sign" "ValueReader.pass_sign" Gg ["self", "sign"]
 m_ValueReader_read_row:MtF K mg "ValueReader" "read_row" "ValueReader.read_row" Gh ["self"]
 m_ValueReader_read_entry:MtF K mg "ValueReader" "read_entry" "ValueReader.read_entry" Gi ["self", "record", "last"]
 m_ValueReader_read_record:MtF K mg "ValueReader" "read_record" "ValueReader.read_record" Gj ["self"]
 m_ValueReader_read_number:MtF K mg "ValueReader" "read_number" "ValueReader.read_number" Gk ["self"]
 m_ValueReader_read_part:MtF K mg "ValueReader" "read_part" "ValueReader.read_part" Gm ["self"]
 f_read_value:FnF K mg "read_value" Gn ["text"]
 f__law_is_none:FnF K mg "_law_is_none" Gp ["_law_text_here"]
 f__law_texts_right:FnF K mg "_law_texts_right" zgo ["_law_deck_here", "_law_record", "_law_words_here"]
 f__law_row_right:FnF K mg "_law_row_right" zgp ["_law_deck_here"]
 f_law:FnF K mg "law" AR ["_law_script"]
 x0_NoText:X0F K mg "NoText"
 x_Fault:XnF K mg "Fault" "word" "Fault.__init__" zgr
 b_all:mg "all" = none
 b_bool:mg "bool" = none
 b_dict:mg "dict" = none
 b_enumerate:mg "enumerate" = none
 b_int:mg "int" = none
 b_isinstance:mg "isinstance" = none
 b_len:mg "len" = none
 b_list:mg "list" = none
 b_max:mg "max" = none
 b_min:mg "min" = none
 b_range:mg "range" = none
 b_sorted:mg "sorted" = none
 b_str:mg "str" = none
 b_sum:mg "sum" = none
 b_tuple:mg "tuple" = none
 b_zip:mg "zip" = none
 c_FIGURES:∃t,mg "FIGURES" = some (.str "0123456789" t)
 c_LETTERS:∃t,mg "LETTERS" = some (.str "abcdefghijklmnopqrstuvwxyz" t)
 c_MOST_FIGURES:∃t,mg "MOST_FIGURES" = some (.int 18 t)
 c_MOST_PARTS:∃t,mg "MOST_PARTS" = some (.int 60 t)
 c_MOST_SIGNS:∃t,mg "MOST_SIGNS" = some (.int 8 t)
 c_NUMBER_BOUND:∃t,mg "NUMBER_BOUND" = some (.int 1000000000000000000 t)
 d_begun:FldF K mg "begun" insOf excOf
 d_many:FldF K mg "many" insOf excOf
 d_place:FldF K mg "place" insOf excOf
 d_text:FldF K mg "text" insOf excOf
 d_word:FldF K mg "word" insOf excOf
 kd_OPS:∀X:Cx,X.K=K->X.mg=mg->X.w=w->KdF X "OPS" zat zau zgs
section
variable {P:Program} {w:World} {K:Frag} {mg:Ab} {base:Heap}
set_option hygiene false in
local macro_rules
|`(tactic|exact $s:str)=>do
 let ts<-(s.getString.splitOn " ").toArray.mapM λ(w:String)=>do
  let p:=(w.drop 1).toString
  let i:Lean.TSyntax `term:=if p.all Char.isDigit then ⟨(Lean.Syntax.mkNumLit p).raw⟩ else ⟨(Lean.mkIdent p.toName).raw⟩
  match w.toList.headD 'a' with
  |'a'=>`(tactic|refine $i ?_ ?_)
  |'b'=>`(tactic|exact (zf $i))
  |'c'=>`(tactic|refine $i ?_)
  |'d'=>`(tactic|exact $i)
  |'e'=>`(tactic|refine zP ($i T) (hr.mono (by decide)) zL ?_)
  |'f'=>`(tactic|refine $i ?_ ?_ ?_)
  |'g'=>`(tactic|refine zS $i ?_ ?_)
  |'h'=>`(tactic|refine yq ?_ ?_ ?_ ?_)
  |'i'=>`(tactic|refine yn ($i (zI hr)) ?_ ?_)
  |'j'=>`(tactic|refine yh $i ?_ ?_)
  |'k'=>`(tactic|exact (yt (zI hr)))
  |'l'=>`(tactic|exact λ_ _=>rfl)
  |'m'=>`(tactic|refine yd y0 T.b_len yZ ?_)
  |'n'=>`(tactic|refine yd jw T.b_isinstance jv ?_)
  |'o'=>`(tactic|refine zk ?_ ?_)
  |'p'=>`(tactic|refine jU (λc m h=>$i T h) ?_ (hr.mono (by omega)) zL ?_)
  |'q'=>`(tactic|refine ki (N:=["_law_value_here"]) rfl (by exact ⟨rfl,by decide +kernel,by decide +kernel,rfl,by show ∀y:Str×NameKind,y∈_->y.2=NameKind.free->List.lookup y.1 (zE $i).names=some NameKind.cell;decide +kernel⟩) rfl (by decide +kernel) ?_ ?_)
  |'r'=>`(tactic|exact zo)
  |'s'=>`(tactic|refine Pj (jS rfl rfl) rfl ?_ ?_ ?_)
  |'t'=>`(tactic|refine zw ?_ ?_)
  |'u'=>`(tactic|refine zP ($i T) (hr.mono (by decide)) jX ?_)
  |'v'=>`(tactic|refine zx ?_)
  |'w'=>`(tactic|refine zP dJ (hr.mono (by omega)) jX ?_)
  |'x'=>`(tactic|refine RO (N:=["_law_value_here"]) rfl (by exact ⟨rfl,by decide +kernel,by decide +kernel,rfl,by show ∀y:Str×NameKind,y∈_->y.2=NameKind.free->List.lookup y.1 (zE $i).names=some NameKind.cell;decide +kernel⟩) rfl (by decide +kernel) ?_ ?_)
  |'y'=>`(tactic|exact zy)
  |'z'=>`(tactic|intro _ _ _ _ _)
  |'A'=>`(tactic|refine Qs ?_ ?_ ?_ ?_ ?_)
  |'B'=>`(tactic|refine yn $i ?_ ?_)
  |'C'=>`(tactic|refine jV $i ?_)
  |'D'=>`(tactic|refine zN ?_)
  |'E'=>`(tactic|refine D9 ($i (zI hr)) ?_ ?_)
  |'F'=>`(tactic|exact (zf 0))
  |'G'=>`(tactic|refine Pt T.b_range ?_)
  |'H'=>`(tactic|refine yd (QL rfl) T.b_sum QM ?_)
  |'I'=>`(tactic|refine zP ($i T 3) (hr.mono (by decide)) zL ?_)
  |'J'=>`(tactic|exact zW)
  |'K'=>`(tactic|exact (jr T.b_tuple Ek))
  |'L'=>`(tactic|refine wV (λc m h=>sW dJ h) ?_ (hr.mono (by omega)) zL)
  |'M'=>`(tactic|refine Py (jS rfl rfl) ?_ ?_)
  |'N'=>`(tactic|exact z9)
  |'O'=>`(tactic|refine jU (λc m h=>$i T h) ?_ (hr.mono (by decide)) zL ?_)
  |'P'=>`(tactic|exact (jr T.b_str xO))
  |'Q'=>`(tactic|refine wV (λc m h=>$i T h) ?_ (hr.mono (by omega)) zL)
  |'R'=>`(tactic|refine ya ?_ ?_ ?_)
  |'S'=>`(tactic|exact (zI hr))
  |'T'=>`(tactic|refine $i (T.kd_OPS _ rfl rfl rfl) ?_)
  |'U'=>`(tactic|exact (zf 1))
  |'V'=>`(tactic|refine zS ym ?_ ?_)
  |'W'=>`(tactic|refine wg $i T.b_int xN ?_)
  |'X'=>`(tactic|refine jU (λc m h=>sW (Se T hk dJ) h) ?_ (hr.mono (by omega)) zL ?_)
  |'Y'=>`(tactic|exact (PY $i))
  |'Z'=>`(tactic|exact (jr T.b_dict El))
  |'0'=>`(tactic|refine yd (Rr rfl) T.b_all Ru ?_)
  |'1'=>`(tactic|refine $i T.d_place ?_ ?_)
  |'2'=>`(tactic|refine wV (λc m h=>sW ($i T hk dJ) h) ?_ (hr.mono (by omega)) zL)
  |'3'=>`(tactic|refine wg O4 T.b_tuple Ek ?_)
  |'4'=>`(tactic|refine yd ($i rfl) T.b_max QT ?_)
  |'5'=>`(tactic|refine wg Rz T.b_dict El ?_)
  |'6'=>`(tactic|refine wV (λc m h=>Sf T h) ?_ (hr.mono (by decide)) zL)
  |'7'=>`(tactic|exact (sk 4 $i))
  |'8'=>`(tactic|refine yI ?_)
  |'9'=>`(tactic|refine Pz (Sg T) ?_ (hr.mono (by decide)) zL rfl)
  |'!'=>`(tactic|refine zcL $i ?_ ?_)
  |'#'=>`(tactic|refine OK zbY $i ?_ ?_ ?_)
  |'$'=>`(tactic|refine Pa ($i T) (hr.mono (by decide)) zL ?_)
  |'%'=>`(tactic|refine jV T.d_place ?_)
  |'&'=>`(tactic|exact ja)
  |'('=>`(tactic|exact (zf 2))
  |'*'=>`(tactic|exact ⟨rfl,by decide +kernel,by decide +kernel,rfl,by show ∀y:Str×NameKind,y∈_->y.2=NameKind.free->List.lookup y.1 (zE $i).names=some NameKind.cell;decide +kernel⟩)
  |'+'=>`(tactic|exact ⟨rfl,by decide +kernel,by decide +kernel,by show ∀y:Str×NameKind,y∈_->y.2=NameKind.free->List.lookup y.1 (zE $i).names=some NameKind.cell;decide +kernel⟩)
  |'-'=>`(tactic|first|exact Or.inl rfl|exact Or.inr rfl)
  |'.'=>`(tactic|first|exact .inl rfl|exact .inr rfl|assumption)
  |')'=>`(tactic|exact ⟨rfl,rfl,rfl,by decide +kernel,rfl,by decide +kernel,by decide +kernel⟩)
  |_=>Lean.Macro.throwUnsupported
 `(tactic|($[$ts]*))
def Sh:aq ["self", "word"] ["self", "word"] (zE zgr):=by exact ")"
def Sg (T:Txt w K mg):xE P w K mg base "Fault" "word" := T.x_Fault.ok Sh λ_ _ _ _ _ _ _ _ _=>Cp (NQ (pv 0) (pv 1) rfl)
def w6:aq ["_law_script", "_law_deck_here", "_law_cell", "_law_number", "_law_k"] ["_law_script"] (zE FK):=by exact ")"
def Si:Aj :=
  zt (zV 1 (jA zh)) (zt (zQ (j1 (mB (zj jI (zn yk (ze (zc 0) zh)) (Ar 1))) (mB (zj jk (zj yY (zj zJ (zc 0) (Ar 0)) (Ar 2)) (Ar 1))))
  (zt (js (yA (jC (zc 0) (bB (Ar 1)) (bB (Ar 63)))) (gN 2)
  (zt (zV 3 (zj yY (zc 2) (zj mK (Ar 2147483647) (Ar 60))))
  (js (bJ (ze (Ar 60) zh)) (gN 4)
  (zQ (jz (mB (zj jk (zc 4) (Ar 0))) (mB (zj jI (zc 3) (Ar 0))))
  (zt (yU (ju jW (zc 1) (zj yY (zc 3) (Ar 2147483647))))
  (zV 3 (zj wR (zc 3) (Ar 2147483647))))
  zT))))
  (zH (zc 1)))
  zT) (zt (js (bJ (ze (Ar 400) zh)) (gN 4)
  (zt (zV 2 (zj j4 (Ar 3) (zc 4)))
  (zt (zQ (mB (zj jI (zn yk (ze (zc 0) zh)) (Ar 0)))
  (zV 2 (zj yY (zj zJ (zc 0) (zj yY (zc 4) (zn lD (ze (Ar 63) (ze (zn yk (ze (zc 0) zh)) zh))))) (Ar 2147483629)))
  zT)
  (zt (zV 3 (zj yY (zj zM (zj zM (zj j4 (zc 2) (Ar 48271)) (zj j4 (Ar 7919) (zc 4))) (Ar 13)) (Ar 2147483629)))
  (zt (zV 3 (zj yY (zj zM (zj j4 (zc 3) (zj zM (zj wR (zc 3) (Ar 5)) (zc 4))) (zj j4 (Ar 16807) (zc 4))) (Ar 2147483587)))
  (yU (ju jW (zc 1) (zj yY (zj zM (zj j4 (zc 3) (Ar 69621)) (zj wR (zc 3) (Ar 127))) (Ar 2147483647))))))))) (zH (zc 1))))
def sZ:Al:=zB 1 5 (Si)
def zud (T:Txt w K mg):bo P w K mg base "_law_deck" 1 sZ:=T.f__law_deck.ok (k:=0) w6 λ_ _ _ _ _ _ _ hr=>by
 exact "t j1 czag r dw6.nd t R cj3 azcG Bzbr m o F r y czcF iwT gzah h k F y l y y t s cj7 fwD F cjT y cjT y"
 exact (sk 2 w6.nd)
 exact "t j3 gzah ( gziS y y dw6.nd v s G o y r 7w6.nd v R cj3 azaf iwT b4 y czaE Bzbr b3 y t cwj azd2 U gzah b3 y v j3 gzdX b3 y dw6.nd N v D U N t s G o y r 7w6.nd t j2 gzbW y b4 dw6.nd t R Bzbr m o F r y v j2 gzah h k F gzah b4"
 refine yd (QR rfl) T.b_min QS ?_
 exact "o y o m o F r r l y dw6.nd N t j3 gzah V V gzbW ( y gzbW y b4 y y dw6.nd t j3 gzah V gzbW b3 V gzdX b3 y b4 gzbW y b4 y dw6.nd v cwj azd2 U gzah V gzbW b3 y gzdX b3 y y v D U"
def Sj:aq ["_law_deck_here", "_law_many"] ["_law_deck_here", "_law_many"] (zE FL):=by exact ")"
def Sk:Aj :=
  zt (zQ (mB (zj jk (zn yk (ze (zc 0) zh)) (Ar 0)))
  (zH (Ar 0))
  zT) (zH (zj yY (ju Fz (zc 0) (Ar 0)) (zc 1)))
def yO:Al:=zB 2 2 (Sk)
def jN (T:Txt w K mg):bo P w K mg base "_law_next" 1 yO:=T.f__law_next.ok (k:=0) Sj λ_ _ _ _ _ _ _ hr=>by
 exact "t R iwT m o F r y v D y N v D gzah aztH F y U"
def zcg:aq ["_law_deck_here", "_law_many", "_law_letters", "_law_found", "_law_k", "_law_word"] ["_law_deck_here", "_law_many"] (zE zgg):=by exact ")"
def Sl:Aj :=
  zt (zV 2 (As "abcdefghijklmnopqrstuvwxyz")) (zt (zV 3 (jA zh)) (zt (js (bJ (ze (zc 1) zh)) (gN 4)
  (zt (zV 5 (wG (As "") (yB (bJ (ze (zj zM (Ar 1) (zn yO (ze (zc 0) (ze (Ar 6) zh)))) zh)) (zj zJ (zc 3) (zn yO (ze (zc 1) (ze (Ar 26) zh)))))))
  (zt (zQ (mB (zj (yS false) (zc 5) (zc 3)))
  (zV 5 (zj zM (zj zM (zj zM (As "vq") (zj zJ (zc 2) (zj yY (zc 4) (Ar 26)))) (zj zJ (zc 2) (zj wR (zc 4) (Ar 26)))) (As "qxqx")))
  zT)
  (yU (ju jW (zc 3) (zc 5)))))) (zH (zc 3))))
def AU:Al:=zB 2 6 (Sl)
def zuh (T:Txt w K mg):bo P w K mg base "_law_words" 2 AU:=T.f__law_words.ok (k:=1) zcg λ_ _ _ _ _ _ _ hr=>by
 exact "t j2 J dzcg.nd t j3 czag r dzcg.nd t s G o U r 7zcg.nd t j5 azc2 J"
 refine ki (N:=["_law_deck_here", "_law_many", "_law_letters", "_law_found", "_law_k", "_law_word"]) rfl (by exact "*zgg") rfl (by decide +kernel) ?_ ?_
 exact "G o V y ejN o F o y r r z h k b3 ujN o U o y r l dzcg.nd t R izfU b5 b3 v j5 V V V J h k ( gzah b4 y l h k ( gzdX b4 y l J dzcg.nd N v cwj azd2 b3 b5 v D b3"
def zkP:aq ["_law_deck_here", "_law_way"] ["_law_deck_here"] (zE zgh):=by exact ")"
def Sn:Aj :=
  zt (zV 1 (zn yO (ze (zc 0) (ze (Ar 9) zh)))) (zt (zQ (mB (zj jk (zc 1) (Ar 0)))
  (zH (zj zJ (jA (mT ["a", "word", "zzzzzzzz"])) (zn yO (ze (zc 0) (ze (Ar 3) zh)))))
  zT) (zt (zQ (mB (zj jk (zc 1) (Ar 1)))
  (zH (zn lp (ze (yB (bJ (ze (zn yO (ze (zc 0) (ze (Ar 2) zh))) zh)) (zn yO (ze (zc 1) (ze (Ar 9) zh)))) zh)))
  zT) (zH (zj rZ (zn yO (ze (zc 0) (ze (zj zJ (jA (ze (Ar 9) (ze (Ar 200) (ze (zj mK (Ar 10) (Ar 9)) zh)))) (zn yO (ze (zc 0) (ze (Ar 3) zh)))) zh))) (Ar 3)))))
def ko:Al:=zB 1 2 (Sn)
def zuj (T:Txt w K mg):bo P w K mg base "_law_value" 2 ko:=T.f__law_value.ok (k:=1) zkP λ_ _ _ _ _ _ _ hr=>by
 exact "t j1 ejN o F o y r dzkP.nd t R iwT U y v D h k czag czjt"
 decide +kernel
 exact "ejN o F o y r l N t R iwT U y v D 3 o"
 refine ki (N:=["_law_deck_here", "_law_way"]) rfl (by exact "*zgh") rfl (by decide +kernel) ?_ ?_
 exact "G o ejN o F o y r r z ujN o U o y r r N v D gziR ejN o F o h k czag o y o y o gziS y y r ejN o F o y r l r y"
def Gq:aq ["_law_value_here"] ["_law_value_here"] (zE zej):=by exact ")"
def AV (mr:Al):Aj :=
  (zH (Ar 1))
def AW (mr:Al):Aj :=
  zt (zQ (mB (zn yC (ze (zc 0) (ze (mC (.ty "dict")) zh))))
  (zH (zj zM (Ar 1) (zn gG (ze (sU (zc 0) (zn mr (ze (zc 0) zh))) zh))))
  zT) (AV mr)
def lJ (mr:Al):Aj :=
  zt (zQ (mB (zn yC (ze (zc 0) (ze (mC (.ty "tuple")) zh))))
  (zH (zj zM (Ar 1) (zn gG (ze (yB (yA (zc 0)) (zn mr (ze (zc 0) zh))) zh))))
  zT) (AW mr)
def tj (mr:Al):Al:=zB 1 1 (lJ mr)
def So (T:Txt w K mg) {k:Nat} (hk:1<=k) {mr:Al} (dJ:bo P w K mg base "_law_parts" k mr):bo P w K mg base "_law_parts" (k+1) (tj mr):=T.f__law_parts.ok (k:=k+0) Gq λ_ _ _ _ _ _ _ hr=>by
 exact "t R 8 n o F o K r v D V y H o qzej cj7 F z w o F r r N t R 8 n o F o Z r v D V y H o xzej F z w o F r r N v D y"
def jO:Nat->Al
 |0=>zB 1 1 jD
 |n+1=>tj (jO n)
theorem zgw (T:Txt w K mg):∀n,bo P w K mg base "_law_parts" (1+1+1*n) (jO n)
 |0=>T.f__law_parts.ok (k:=1) Gq λf aV A outer s H E hr=>pH
 |n+1=>(So T (by omega) (zgw T n)).mono (by omega)
def Sr:aq ["thing"] ["thing"] (zE FN):=by exact ")"
def AX:Aj :=
  (zH (jA zh))
def tm:Aj :=
  zt (zQ (mB (zn yC (ze (zc 0) (ze (mC (.ty "dict")) zh))))
  (zH (yx Az (zc 0)))
  zT) (AX)
def qd:Aj :=
  zt (zQ (mB (zn yC (ze (zc 0) (ze (mC (.ty "tuple")) zh))))
  (zH (zn oV (ze (zc 0) zh)))
  zT) (tm)
def kq:Al:=zB 1 1 (qd)
def zum (T:Txt w K mg):bo P w K mg base "things_within" 1 kq:=T.f_things_within.ok (k:=0) Sr λ_ _ _ _ _ _ _ hr=>by
 exact "t R 8 n o F o K r v D"
 refine wg O3 T.b_list Em ?_
 exact "o F r N t R 8 n o F o Z r v D"
 refine Q8 rfl T.b_list ?_
 exact "F N v D czag r"
def zep:aq ["thing", "found", "place"] ["thing"] (zE FO):=by exact ")"
def Gr:Aj :=
  (zH (zc 1))
def Gs:Aj :=
  zt (kf (mB (zj wS (zc 2) (zn yk (ze (zc 1) zh))))
  (zt (yU (ju su (zc 1) (zn kq (ze (zj zJ (zc 1) (zc 2)) zh))))
  (oX 2 ig (Ar 1)))) (Gr)
def Gu:Aj :=
  zt (zV 2 (Ar 0)) (Gs)
def Gv:Aj :=
  zt (zV 1 (jA (ze (zc 0) zh))) (Gu)
def m6:Al:=zB 1 3 (Gv)
def zgy (T:Txt w K mg):bo P w K mg base "all_within" 2 m6:=T.f_all_within.ok (k:=1) zep λ_ _ _ _ _ _ _ hr=>by
 exact "t j1 czag o F r dzep.nd t j2 y dzep.nd t M BzbX ( m o U r t cwj azr6 U ezum o h k U ( l r v"
 refine Pg 2 Pf ?_ zep.nd
 exact "y v D U"
def Ss:aq ["value"] ["value"] (zE FP):=by exact ")"
def Gw:Aj :=
  (zH (zn yk (ze (zn m6 (ze (zc 0) zh)) zh)))
def qe:Al:=zB 1 1 (Gw)
def zkW (T:Txt w K mg):bo P w K mg base "parts" 3 qe:=T.f_parts.ok (k:=2) Ss λ_ _ _ _ _ _ _ hr=>by
 exact "v D m o ezgy o F r r"
def Su:aq ["value"] ["value"] (zE FQ):=by exact ")"
def Gx:Aj :=
  (zH (As "number"))
def Gy:Aj :=
  zt (zQ (mB (zn yC (ze (zc 0) (ze (mC (.ty "dict")) zh))))
  (zH (As "record"))
  zT) (Gx)
def Gz:Aj :=
  zt (zQ (mB (zn yC (ze (zc 0) (ze (mC (.ty "tuple")) zh))))
  (zH (As "row"))
  zT) (Gy)
def GA:Aj :=
  zt (zQ (mB (zn yC (ze (zc 0) (ze (mC (.ty "str")) zh))))
  (zH (As "word"))
  zT) (Gz)
def w8:Al:=zB 1 1 (GA)
def zgz (T:Txt w K mg):bo P w K mg base "kind_of" 1 w8:=T.f_kind_of.ok (k:=0) Su λ_ _ _ _ _ _ _ hr=>by
 exact "t R 8 n o F o P r v D J N t R 8 n o F o K r v D J N t R 8 n o F o Z r v D J N v D J"
def zk1:aq ["part", "kind"] ["part"] (zE FR):=by exact ")"
def tq:Aj :=
  (zH (Ar 1))
def tu:Aj :=
  zt (zQ (mB (zj jk (zc 1) (As "row")))
  (zH (zj zM (Ar 1) (zn yk (ze (zc 0) zh))))
  zT) (tq)
def qf:Aj :=
  zt (zQ (mB (zj jk (zc 1) (As "number")))
  (zH (zj zM (zn pF (ze (zc 0) (ze (Ar 0) zh))) (Ar 1)))
  zT) (tu)
def qg:Aj :=
  zt (zV 1 (zn w8 (ze (zc 0) zh))) (qf)
def wo:Al:=zB 1 2 (qg)
def zup (T:Txt w K mg):bo P w K mg base "own_weight" 2 wo:=T.f_own_weight.ok (k:=1) zk1 λ_ _ _ _ _ _ _ hr=>by
 exact "t j1 ezgz o F r dzk1.nd t R iwT U J v D V 4zjx o F o y r y N t R iwT U J v D V y m o F r N v D y"
def Sw:aq ["value"] ["value"] (zE zgi):=by exact ")"
def GB:Aj :=
  (zH (zn gG (ze (yB (yA (zn m6 (ze (zc 0) zh))) (zn wo (ze (zc 0) zh))) zh)))
def tD:Al:=zB 1 1 (GB)
def zur (T:Txt w K mg):bo P w K mg base "weight" 3 tD:=T.f_weight.ok (k:=2) Sw λ_ _ _ _ _ _ _ hr=>by
 exact "v D H o"
 refine ki (N:=["value"]) rfl (by exact "*zgi") rfl (by decide +kernel) ?_ ?_
 exact "cj7 ezgy o F r z uzup o F r r"
def GC:aq ["_law_value_here"] ["_law_value_here"] (zE zek):=by exact ")"
def GD (mr:Al):Aj :=
  zt (zQ (mB (zn yC (ze (zc 0) (ze (mC (.ty "str")) zh))))
  (zH (Ar 1))
  zT) (zt (zQ (mB (zn yC (ze (zc 0) (ze (mC (.ty "tuple")) zh))))
  (zH (zj zM (Ar 1) (zn gG (ze (yB (yA (zc 0)) (zj zM (Ar 1) (zn mr (ze (zc 0) zh)))) zh))))
  zT) (zH (zj zM (Ar 1) (zn gG (ze (sU (zc 0) (zn mr (ze (zc 0) zh))) zh)))))
def lK (mr:Al):Aj :=
  zt (zQ (mB (zn yC (ze (zc 0) (ze (mC (.ty "int")) zh))))
  (zH (zj zM (zn pF (ze (zc 0) (ze (Ar 0) zh))) (Ar 1)))
  zT) (GD mr)
def tE (mr:Al):Al:=zB 1 1 (lK mr)
def Sx (T:Txt w K mg) {k:Nat} (hk:1<=k) {mr:Al} (dJ:bo P w K mg base "_law_weight" k mr):bo P w K mg base "_law_weight" (k+1) (tE mr):=T.f__law_weight.ok (k:=k+0) GC λ_ _ _ _ _ _ _ hr=>by
 exact "t R 8 n o F o"
 exact (jr T.b_int xN)
 exact "r v D V 4zjx o F o y r y N t R 8 n o F o P r v D y N t R 8 n o F o K r v D V y H o qzek cj7 F z V y w o F r r N v D V y H o xzek F z w o F r r"
def j9:Nat->Al
 |0=>zB 1 1 jD
 |n+1=>tE (j9 n)
theorem zk5 (T:Txt w K mg):∀n,bo P w K mg base "_law_weight" (1+1+1*n) (j9 n)
 |0=>T.f__law_weight.ok (k:=1) GC λf aV A outer s H E hr=>pH
 |n+1=>(Sx T (by omega) (zk5 T n)).mono (by omega)
def Sy:aq ["number"] ["number"] (zE FT):=by exact ")"
def GF:Aj :=
  (zH (wf wS wS (yx sd (Ar 1000000000000000000)) (zc 0) (Ar 1000000000000000000)))
def AY:Al:=zB 1 1 (GF)
def zuu (T:Txt w K mg):bo P w K mg base "in_bounds" 1 AY:=T.f_in_bounds.ok (k:=0) Sy λ_ _ _ _ _ _ _ hr=>by
 exact "v D"
 refine OJ zbX zbX ?_ ?_ ?_
 refine D_ Eb ?_
 exact "YT.c_NUMBER_BOUND F YT.c_NUMBER_BOUND"
def Sz:aq ["thing"] ["thing"] (zE zgj):=by exact ")"
def GG:Aj :=
  (zH (zn mY (ze (yB (yA (zc 0)) (zj (yS false) (zc 0) (As "abcdefghijklmnopqrstuvwxyz"))) zh)))
def tF:Aj :=
  zt (zQ (jz (j2 (mB (zn yC (ze (zc 0) (ze (mC (.ty "str")) zh))))) (j2 (mB (wf j6 j6 (Ar 1) (zn yk (ze (zc 0) zh)) (Ar 8)))))
  (zH (mC (.bl false)))
  zT) (GG)
def w9:Al:=zB 1 1 (tF)
def zgB (T:Txt w K mg):bo P w K mg base "is_word" 1 w9:=T.f_is_word.ok (k:=0) Sz λ_ _ _ _ _ _ _ hr=>by
 exact "t R cj3 azaf czaF 8 n o F o P r czaE czaF #zbY y m o F r YT.c_MOST_SIGNS v D & N v D 0 o"
 refine ki (N:=["thing"]) rfl (by exact "*zgj") rfl (by decide +kernel) ?_ ?_
 exact "cj7 F z EzfU F"
 exact (xM T.c_LETTERS)
 exact "r"
def SA:aq ["thing"] ["thing"] (zE zgk):=by exact ")"
def AZ:Aj :=
  (zH (zn yC (ze (zc 0) (ze (mC (.ty "tuple")) zh))))
def A0:Aj :=
  zt (zQ (mB (zn yC (ze (zc 0) (ze (mC (.ty "dict")) zh))))
  (zH (zn mY (ze (sN (zc 0) (zn w9 (ze (zc 0) zh))) zh)))
  zT) (AZ)
def zev:Aj :=
  zt (zQ (mB (zn yC (ze (zc 0) (ze (mC (.ty "str")) zh))))
  (zH (zn w9 (ze (zc 0) zh)))
  zT) (A0)
def qh:Aj :=
  zt (zQ (mB (zn yC (ze (zc 0) (ze (mC (.ty "int")) zh))))
  (zH (zn AY (ze (zc 0) zh)))
  zT) (zev)
def qi:Aj :=
  zt (zQ (mB (zn yC (ze (zc 0) (ze (mC (.ty "bool")) zh))))
  (zH (mC (.bl false)))
  zT) (qh)
def iC:Al:=zB 1 1 (qi)
def zux (T:Txt w K mg):bo P w K mg base "may_stand" 2 iC:=T.f_may_stand.ok (k:=1) SA λ_ _ _ _ _ _ _ hr=>by
 exact "t R 8 n o F o"
 exact (jr T.b_bool P0)
 exact "r v D & N t R 8 n o F o"
 exact (jr T.b_int xN)
 exact "r v D ezuu o F r N t R 8 n o F o P r v D ezgB o F r N t R 8 n o F o Z r v D 0 o"
 refine Rq (N:=["thing"]) rfl (by exact "*zgk") rfl (by decide +kernel) ?_ ?_
 exact "F z uzgB o F r r N v D n o F o K r"
def zk8:aq ["thing", "found"] ["thing"] (zE zgl):=by exact ")"
def A2:Aj :=
  (zH (mJ (zj j6 (zn yk (ze (zc 1) zh)) (Ar 60)) (zn mY (ze (yB (yA (zc 1)) (zn iC (ze (zc 0) zh))) zh))))
def A3:Aj :=
  zt (zV 1 (zn m6 (ze (zc 0) zh))) (A2)
def m7:Al:=zB 1 2 (A3)
def zk9 (T:Txt w K mg):bo P w K mg base "is_value" 3 m7:=T.f_is_value.ok (k:=2) zk8 λ_ _ _ _ _ _ _ hr=>by
 exact "t j1 ezgy o F r dzk8.nd v D azfv"
 refine D9 zbY ?_ ?_
 exact "m o U r YT.c_MOST_PARTS czfu 0 o"
 refine ki (N:=["thing", "found"]) rfl (by exact "*zgl") rfl (by decide +kernel) ?_ ?_
 exact "cj7 U z uzux o F r r"
def GH:aq ["kinds", "values", "kind", "value"] ["kinds", "values"] (zE FU):=by exact ")"
def GI:Aj :=
  (js (xI (ze (zc 0) (ze (zc 1) zh))) (g2 2 3)
  (zQ (j1 (mB (zj yM (zc 2) (As "any"))) (mB (zj yM (zc 2) (zn w8 (ze (zc 3) zh)))))
  jD
  zT))
def tG:Al:=zB 2 4 (GI)
def zuy (T:Txt w K mg):bo P w K mg base "check_kinds" 2 tG:=T.f_check_kinds.ok (k:=1) GH λ_ _ _ _ _ _ _ hr=>by
 exact "v s"
 refine Px T.b_zip ?_
 exact "o F o U r"
 exact (Ej 2 3 rfl GH.nd)
 exact "v R cj3 azcG ijL ( J czcF ijL ( ezgz o b3 r v dzaj N"
def SD:aq ["truth"] ["truth"] (zE FV):=by exact ")"
def GJ:Aj :=
  (zH (rX (mB (zc 0)) (Ar 1) (Ar 0)))
def A4:Al:=zB 1 1 (GJ)
def zuA (T:Txt w K mg):bo P w K mg base "number_of" 1 A4:=T.f_number_of.ok (k:=0) SD λ_ _ _ _ _ _ _ hr=>by
 exact "v D fziO 8 F y y"
def SE:aq ["values"] ["values"] (zE FW):=by exact ")"
def GK:Aj :=
  (zH (zn A4 (ze (zj jJ (zj zJ (zc 0) (Ar 0)) (zj zJ (zc 0) (Ar 1))) zh)))
def tH:Al:=zB 1 1 (GK)
def SF (T:Txt w K mg):bo P w K mg base "tell_same" 2 tH:=T.f_tell_same.ok (k:=1) SE λ_ _ _ _ _ _ _ hr=>by
 exact "v D ezuA o Ezb9 h k F y l h k F y l r"
def SG:aq ["values"] ["values"] (zE FX):=by exact ")"
def GL:Aj :=
  (zH (zn yk (ze (zj zJ (zc 0) (Ar 0)) zh)))
def tI:Al:=zB 1 1 (GL)
def SH (T:Txt w K mg):bo P w K mg base "tell_many" 1 tI:=T.f_tell_many.ok (k:=0) SG λ_ _ _ _ _ _ _ hr=>by
 exact "v D m o h k F y l r"
def SI:aq ["row", "number"] ["row", "number"] (zE FY):=by exact ")"
def GN:Aj :=
  (zH (zc 1))
def tJ:Aj :=
  zt (zQ (j2 (mB (wf j6 wS (Ar 0) (zc 1) (zn yk (ze (zc 0) zh)))))
  (sr "Fault" "word" (As "place"))
  zT) (GN)
def lL:Al:=zB 2 2 (tJ)
def zlg (T:Txt w K mg):bo P w K mg base "place_in" 3 lL:=T.f_place_in.ok (k:=2) SI λ_ _ _ _ _ _ _ hr=>by
 exact "t R czaF #zbX y U m o F r v 9 J N v D U"
def zlh:aq ["values", "row"] ["values"] (zE FZ):=by exact ")"
def A5:Aj :=
  (zH (zj zJ (zc 1) (zn lL (ze (zc 1) (ze (zj zJ (zc 0) (Ar 1)) zh)))))
def A6:Aj :=
  zt (zV 1 (zj zJ (zc 0) (Ar 0))) (A5)
def qj:Al:=zB 1 2 (A6)
def SJ (T:Txt w K mg):bo P w K mg base "tell_item" 4 qj:=T.f_tell_item.ok (k:=3) zlh λ_ _ _ _ _ _ _ hr=>by
 exact "t j1 h k F y l dzlh.nd v D h k U ezlg o U o h k F y l r l"
def zgJ:aq ["values", "row", "place"] ["values"] (zE F0):=by exact ")"
def GO:Aj :=
  (zH (zj zM (zj zM (jC (zc 1) cx (bB (zc 2))) (yQ (ze (zj zJ (zc 0) (Ar 2)) zh))) (jC (zc 1) (bB (zj zM (zc 2) (Ar 1))) cx)))
def A7:Aj :=
  zt (zV 2 (zn lL (ze (zc 1) (ze (zj zJ (zc 0) (Ar 1)) zh)))) (GO)
def A8:Aj :=
  zt (zV 1 (zj zJ (zc 0) (Ar 0))) (A7)
def qk:Al:=zB 1 3 (A8)
def SK (T:Txt w K mg):bo P w K mg base "tell_put" 4 qk:=T.f_tell_put.ok (k:=3) zgJ λ_ _ _ _ _ _ _ hr=>by
 exact "t j1 h k F y l dzgJ.nd t j2 ezlg o U o h k F y l r dzgJ.nd v D V V fwD U dzaG cjT ( cjB o h k F y l r fwD U cjT V ( y dzaG"
def zlj:aq ["values", "record"] ["values"] (zE F3):=by exact ")"
def GP:Aj :=
  (zH (zj zJ (zc 1) (zj zJ (zc 0) (Ar 1))))
def A9:Aj :=
  zt (zQ (mB (zj (yS true) (zj zJ (zc 0) (Ar 1)) (zc 1)))
  (sr "Fault" "word" (As "field"))
  zT) (GP)
def A_:Aj :=
  zt (zV 1 (zj zJ (zc 0) (Ar 0))) (A9)
def ql:Al:=zB 1 2 (A_)
def SM (T:Txt w K mg):bo P w K mg base "tell_field" 3 ql:=T.f_tell_field.ok (k:=2) zlj λ_ _ _ _ _ _ _ hr=>by
 exact "t j1 h k F y l dzlj.nd t R izjo h k F y l U v 9 J N v D h k U h k F y l l"
def zll:aq ["values", "record"] ["values"] (zE F4):=by exact ")"
def GQ:Aj :=
  (zH (zc 1))
def GR:Aj :=
  zt (jp (zc 1) (zj zJ (zc 0) (Ar 1)) (zj zJ (zc 0) (Ar 2))) (GQ)
def GS:Aj :=
  zt (zV 1 (zn kj (ze (zj zJ (zc 0) (Ar 0)) zh))) (GR)
def qm:Al:=zB 1 2 (GS)
def SN (T:Txt w K mg):bo P w K mg base "tell_set" 1 qm:=T.f_tell_set.ok (k:=0) zll λ_ _ _ _ _ _ _ hr=>by
 exact "t j1 5 o h k F y l r dzll.nd t A S U h k F y l h k F y l"
 rfl
 exact "v D U"
def qo (y:Str):Option (Al):=if y = "tell_same" then some tH else if y = "tell_many" then some tI else if y = "tell_item" then some qj else if y = "tell_put" then some qk else if y = "tell_field" then some ql else if y = "tell_set" then some qm else none
def SQ (T:Txt w K mg) {y:Str}{m:Al}(h:qo y=some m):bo P w K mg base y 4 m:=by
 unfold qo at h
 by_cases e0:y = "tell_same"
 ·rw [zp e0] at h;cases h;rw [e0];exact (SF T).mono (by decide)
 rw [zD e0] at h
 by_cases e1:y = "tell_many"
 ·rw [zp e1] at h;cases h;rw [e1];exact (SH T).mono (by decide)
 rw [zD e1] at h
 by_cases e2:y = "tell_item"
 ·rw [zp e2] at h;cases h;rw [e2];exact (SJ T).mono (by decide)
 rw [zD e2] at h
 by_cases e3:y = "tell_put"
 ·rw [zp e3] at h;cases h;rw [e3];exact (SK T).mono (by decide)
 rw [zD e3] at h
 by_cases e4:y = "tell_field"
 ·rw [zp e4] at h;cases h;rw [e4];exact (SM T).mono (by decide)
 rw [zD e4] at h
 by_cases e5:y = "tell_set"
 ·rw [zp e5] at h;cases h;rw [e5];exact (SN T).mono (by decide)
 rw [zD e5] at h
 cases h
def zgO:aq ["self", "values", "tell", "told"] ["self", "values"] (zE F5):=by exact ")"
def GU:Aj :=
  (zH (zc 3))
def GV:Aj :=
  zt (zQ (mB (zj jI (zn qe (ze (zc 3) zh)) (Ar 60)))
  jD
  zT) (GU)
def Ba:Aj :=
  zt (zV 3 (xF qo (zc 2) (ze (zc 1) zh))) (GV)
def Bb:Aj :=
  zt (zV 2 (zj zJ (yx (kg zat zau) (yx (br "word" insOf excOf) (zc 0))) (Ar 1))) (Ba)
def Bc:Aj :=
  zt (yU (zn tG (ze (zj zJ (yx (kg zat zau) (yx (br "word" insOf excOf) (zc 0))) (Ar 0)) (ze (zc 1) zh)))) (Bb)
def m_Op_answer:Al:=zB 2 4 (Bc)
def SR (T:Txt w K mg):bZ P w K mg base "Op" "answer" 5 m_Op_answer:=T.m_Op_answer.ok (k:=4) zgO λ_ _ _ _ _ _ _ hr=>by
 exact "t cwj ezuy o h k TzfH CT.d_word F y l o U r t j2 h k TzfH CT.d_word F y l dzgO.nd t j3"
 refine O6 (λy m h=>SQ T h) ?_ (hr.mono (by decide)) zL ?_
 exact "( o U r dzgO.nd t R Bzbr ezkW o b3 r YT.c_MOST_PARTS v dzaj N v D b3"
def qp (c:Str):Option (Al):=if c = "Op" then some m_Op_answer else none
def SS (T:Txt w K mg) {c:Str} {m:Al} (h:qp c=some m):bZ P w K mg base c "answer" 5 m:=by
 unfold qp at h
 by_cases e0:c = "Op"
 ·rw [zp e0] at h;cases h;rw [e0];exact (SR T).mono (by decide)
 rw [zD e0] at h
 cases h
def SU:aq ["self", "word"] ["self", "word"] (zE F6):=by exact ")"
def GW:Aj :=
  (sFld "many" insOf (zc 0) (zn yk (ze (zj zJ (yx (kg zat zau) (zc 1)) (Ar 0)) zh)))
def GX:Aj :=
  zt (sFld "word" insOf (zc 0) (zc 1)) (GW)
def Bd:Al:=zB 2 2 (GX)
def zuO (T:Txt w K mg):sh P w K mg base "Op" 1 Bd:=T.n_Op.ok (k:=0) SU λ_ _ _ _ _ _ _ hr=>by
 exact "t !T.d_word F U v !T.d_many F m o h k TzfH U y l r"
def SV:aq ["word"] ["word"] (zE F7):=by exact ")"
def GY:Aj :=
  (zH (zn (fS "Op" Bd) (ze (zc 0) zh)))
def GZ:Aj :=
  zt (zQ (mB (yx (pe true zat zau zgs) (zc 0)))
  jD
  zT) (GY)
def qr:Al:=zB 1 1 (GZ)
def zuQ (T:Txt w K mg):bo P w K mg base "op_of" 3 qr:=T.f_op_of.ok (k:=2) SV λ_ _ _ _ _ _ _ hr=>by
 exact "t R Tzr5 F v dzaj N v D $zuO o F r"
def zeA:aq ["_law_word", "_law_values", "_law_found", "e"] ["_law_word", "_law_values"] (zE F8):=by exact ")"
def Be:Aj :=
  (zH (zc 2))
def Bf:Aj :=
  zt (o_ 2 3 "Fault" (lB "answer" qp (zn qr (ze (zc 0) zh)) (ze (zc 1) zh))
  (zV 2 (zj zM (As "fault ") (yx (br "word" insOf excOf) (zc 3))))) (Be)
def Bg:Aj :=
  zt (zV 2 (mC .non)) (Bf)
def yG:Al:=zB 2 4 (Bg)
def wu (T:Txt w K mg):bo P w K mg base "_law_asked" 6 yG:=T.f__law_asked.ok (k:=5) zeA λ_ _ _ _ _ _ _ hr=>by
 exact "t j2 dzrb dzeA.nd t"
 refine PZ 2 3 T.x_Fault.tr ?_ ?_ zeA.nd
 refine PJ (λc m h=>SS T h) ?_ (hr.mono (by decide)) ?_
 exact "uzuQ o F r o U r"
 intro _
 exact "v j2 V J CT.d_word b3 dzeA.nd v D ("
def zcj:aq ["_law_deck_here", "_law_record", "_law_words_here", "_law_at", "_law_odd", "_law_k", "_law_word", "_law_beside"] ["_law_deck_here", "_law_record", "_law_words_here"] (zE F9):=by exact ")"
def SW:Aj :=
  zt (zQ (jz (mB (zj yM (zn qe (ze (zc 1) zh)) (zn (jO 3) (ze (zc 1) zh)))) (jz (mB (zj yM (zn tD (ze (zc 1) zh)) (zn (j9 3) (ze (zc 1) zh)))) (mB (zj pG (zn m7 (ze (zc 1) zh)) (mC (.bl true))))))
  (zH (mC (.bl false)))
  zT) (zt (zV 3 (zn yO (ze (zc 0) (ze (zn yk (ze (zc 2) zh)) zh)))) (zt (zV 4 mR) (zt (sH (ze (zc 2) zh) (g2 5 6)
  (jp (zc 4) (zj zJ (jA (ze (zc 6) (ze (zj zJ (jA (mT ["", "A", "a b", "abcdefghi", "a1", "a~"])) (zn yO (ze (zc 0) (ze (Ar 6) zh)))) zh))) (zn mL (ze (zj jJ (zc 5) (zc 3)) zh))) (zj zJ (zc 1) (zc 6)))) (zt (zQ (mB (zj pG (zn m7 (ze (zc 4) zh)) (mC (.bl false))))
  (zH (mC (.bl false)))
  zT) (zt (js (yA (zc 2)) (gN 6)
  (zQ (mB (zj yM (zn yG (ze (As "field") (ze (yQ (ze (zc 1) (ze (zc 6) zh))) zh))) (zj zJ (zc 1) (zc 6))))
  (zH (mC (.bl false)))
  zT)) (zt (zV 7 (zj zM (jC (zj zJ (zc 2) (Ar 0)) cx (bB (Ar 2))) (As "vvvvv"))) (zt (zQ (j1 (mB (zj (yS true) (zc 7) (zc 2))) (mB (zj yM (zn yG (ze (As "field") (ze (yQ (ze (zc 1) (ze (zc 7) zh))) zh))) (As "fault field"))))
  (zH (mC (.bl false)))
  zT) (zH (mC (.bl true))))))))))
def tK:Al:=zB 3 8 (SW)
def zuS (T:Txt w K mg):bo P w K mg base "_law_record_right" 7 tK:=T.f__law_record_right.ok (k:=6) zcj λ_ _ _ _ _ _ _ hr=>by
 exact "t R cj3 azaf ijL ezkW o U r Izgw o U r azaf ijL ezur o U r Izk5 o U r czaE Bzjy ezk9 o U r & v D & N t j3 ejN o F o m o ( r r dzcj.nd t j4 dzcS dzcj.nd t"
 refine QG (jS rfl rfl) rfl T.b_enumerate ?_ ?_ ?_
 exact "o ( r"
 exact (Ej 5 6 rfl zcj.nd)
 exact "v A S b4 h k czag o b6 o h k czag czjt"
 decide +kernel
 exact "ejN o F o y r l r WziY o Ezb9 b5 b3 r l h k U b6 l"
 rfl
 exact "t R Bzjy ezk9 o b4 r & v D & N t s cj7 ("
 exact (sk 6 zcj.nd)
 exact "v R ijL ewu o J o cjB o U o b6 r r h k U b6 l v D & N t j7 V fwD h k ( y l dzaG cjT y J dzcj.nd t R cj3 azcG izjo b7 ( czcF ijL ewu o J o cjB o U o b7 r r J v D & N v D &"
def zeC:aq ["_law_deck_here", "_law_record", "_law_words_here", "_law_other", "_law_word", "_law_at"] ["_law_deck_here", "_law_record", "_law_words_here"] (zE F_):=by exact ")"
def SX:Aj :=
  zt (zV 3 mR) (zt (js (yA (zn lH (ze (zc 2) zh))) (gN 4)
  (jp (zc 3) (zc 4) (zj zJ (zc 1) (zc 4)))) (zt (zQ (mB (zj yM (zn yG (ze (As "same") (ze (yQ (ze (zc 1) (ze (zc 3) zh))) zh))) (Ar 1)))
  (zH (mC (.bl false)))
  zT) (zt (zV 5 (zn yO (ze (zc 0) (ze (zn yk (ze (zc 2) zh)) zh)))) (zt (jp (zc 3) (zj zJ (zc 2) (zc 5)) (yQ (ze (As "other") zh))) (zt (zQ (jz (mB (zj yM (zn yG (ze (As "same") (ze (yQ (ze (zc 1) (ze (zc 3) zh))) zh))) (Ar 0))) (mB (zj yM (zn yG (ze (As "same") (ze (yQ (ze (zc 3) (ze (zc 1) zh))) zh))) (Ar 0))))
  (zH (mC (.bl false)))
  zT) (zt (yU (qc (zc 3) (zj zJ (zc 2) (zc 5)))) (zt (jp (zc 3) (As "qqvvqqvv") (zj zJ (zc 1) (zj zJ (zc 2) (zc 5)))) (zH (zj jJ (zn yG (ze (As "same") (ze (yQ (ze (zc 1) (ze (zc 3) zh))) zh))) (zn mL (ze (zj jJ (zc 3) (zc 1)) zh)))))))))))
def Bh:Al:=zB 3 6 (SX)
def zuU (T:Txt w K mg):bo P w K mg base "_law_same_right" 7 Bh:=T.f__law_same_right.ok (k:=6) zeC λ_ _ _ _ _ _ _ hr=>by
 exact "t j3 dzcS dzeC.nd t s cj7"
 refine yd FI T.b_sorted AK ?_
 exact "o ( r 7zeC.nd v A S b3 b4 h k U b4 l"
 rfl
 exact "t R ijL ewu o J o cjB o U o b3 r r y v D & N t j5 ejN o F o m o ( r r dzeC.nd t A S b3 h k ( b5 l cjB o J r"
 rfl
 exact "t R cj3 azaf ijL ewu o J o cjB o U o b3 r r y czaE ijL ewu o J o cjB o b3 o U r r y v D & N t cwj azkb b3 h k ( b5 l t A S b3 J h k U h k ( b5 l l"
 rfl
 exact "v D Ezb9 ewu o J o cjB o U o b3 r r WziY o Ezb9 b3 U r"
def G4:aq ["_law_value_here"] ["_law_value_here"] (zE zgm):=by exact ")"
def tL (mr:Al):Aj :=
  zt (zQ (mB (zn yC (ze (zc 0) (ze (mC (.ty "tuple")) zh))))
  (zH (zj zM (zj zM (As "[") (wG (As ",") (yB (yA (zc 0)) (zn mr (ze (zc 0) zh))))) (As "]")))
  zT) (zt (zQ (mB (zn yC (ze (zc 0) (ze (mC (.ty "str")) zh))))
  (zH (zj zM (As "'") (zc 0)))
  zT) (zH (zn mS (ze (zc 0) zh))))
def G5 (mr:Al):Al:=zB 1 1 (tL mr)
def SY (T:Txt w K mg) {k:Nat} (hk:1<=k) {mr:Al} (dJ:bo P w K mg base "_law_text" k mr):bo P w K mg base "_law_text" (k+1) (G5 mr):=T.f__law_text.ok (k:=k+0) G4 λ_ _ _ _ _ _ _ hr=>by
 exact "t R 8 n o F o K r v D V V J azc2 J qzgm cj7 F z w o F r J N t R 8 n o F o P r v D V J F N v D"
 refine wg ET T.b_str xO ?_
 exact "o F r"
def wH:Nat->Al
 |0=>zB 1 1 jD
 |n+1=>G5 (wH n)
theorem G6 (T:Txt w K mg):∀n,bo P w K mg base "_law_text" (1+1+1*n) (wH n)
 |0=>T.f__law_text.ok (k:=1) G4 λf aV A outer s H E hr=>pH
 |n+1=>(SY T (by omega) (G6 T n)).mono (by omega)
def S3:aq ["_law_pairs"] ["_law_pairs"] (zE zgn):=by exact ")"
def S4:Aj :=
  (zH (zj zM (zj zM (As "{") (wG (As ",") (AG (yA (zc 0)) (zj zM (zj zM (zc 0) (As ":")) (zn (wH 2) (ze (zc 1) zh)))))) (As "}")))
def qt:Al:=zB 1 1 (S4)
def zgX (T:Txt w K mg):bo P w K mg base "_law_written" 5 qt:=T.f__law_written.ok (k:=4) S3 λ_ _ _ _ _ _ _ hr=>by
 exact "v D V V J azc2 J"
 refine RA (N:=["_law_pairs"]) rfl (by exact "+zgn") rfl (by decide +kernel) ?_ ?_
 exact "cj7 F z V V F J"
 refine zP (G6 T 2) (hr.mono (by decide)) jX ?_
 exact "o U r J"
def zeE:aq ["value", "kind", "shown"] ["value"] (zE zel):=by exact ")"
def S5 (mr:Al):Aj :=
  zt (zV 1 (zn w8 (ze (zc 0) zh))) (zt (zQ (mB (zj jk (zc 1) (As "number")))
  (zH (zn mS (ze (zc 0) zh)))
  zT) (zt (zQ (mB (zj jk (zc 1) (As "word")))
  (zH (zj zM (As "'") (zc 0)))
  zT) (zt (zQ (mB (zj jk (zc 1) (As "row")))
  (zH (zj zM (zj zM (As "[") (wG (As ",") (yB (yA (zc 0)) (zn mr (ze (zc 0) zh))))) (As "]")))
  zT) (zt (zV 2 (yB (yA (zn pY (ze (zc 0) zh))) (zj zM (zj zM (zc 0) (As ":")) (zn mr (ze (zj zJ (zc 1) (zc 0)) zh))))) (zH (zj zM (zj zM (As "{") (wG (As ",") (zc 2))) (As "}")))))))
def Bi (mr:Al):Al:=zB 1 3 (S5 mr)
def S6 (T:Txt w K mg) {k:Nat} (hk:1<=k) {mr:Al} (dJ:bo P w K mg base "show_value" k mr):bo P w K mg base "show_value" (k+1) (Bi mr):=T.f_show_value.ok (k:=k+0) zeE λ_ _ _ _ _ _ _ hr=>by
 exact "t j1"
 refine zP (zgz T) (hr.mono (by omega)) zL ?_
 exact "o F r dzeE.nd t R iwT U J v D"
 refine wg ET T.b_str xO ?_
 exact "o F r N t R iwT U J v D V J F N t R iwT U J v D V V J azc2 J"
 refine ki (N:=["value", "kind", "shown"]) rfl (by exact "*zel") rfl (by decide +kernel) ?_ ?_
 exact "cj7 F z w o F r J N t"
 refine Fc 2 (N:=["value", "kind", "shown"]) rfl (by exact "*zel") rfl (by decide +kernel) ?_ ?_ zeE.nd rfl (by exact "-") (by exact ".") (by rfl)
 exact "cj7"
 refine yd (RW rfl) T.b_sorted AK ?_
 exact "o F r z V V F J w o h k U F l r v D V V J azc2 J ( J"
def ku:Nat->Al
 |0=>zB 1 3 jD
 |n+1=>Bi (ku n)
theorem zly (T:Txt w K mg):∀n,bo P w K mg base "show_value" (1+1+1*n) (ku n)
 |0=>T.f_show_value.ok (k:=1) zeE λf aV A outer s H E hr=>pH
 |n+1=>(S6 T (by omega) (zly T n)).mono (by omega)
def S7:aq ["self", "text"] ["self", "text"] (zE Ga):=by exact ")"
def S8:Aj :=
  zt (sFld "text" insOf (zc 0) (zc 1)) (zt (sFld "place" insOf (zc 0) (Ar 0)) (sFld "begun" insOf (zc 0) (Ar 0)))
def tN:Al:=zB 2 2 (S8)
def zu2 (T:Txt w K mg):sh P w K mg base "ValueReader" 1 tN:=T.n_ValueReader.ok (k:=0) S7 λ_ _ _ _ _ _ _ hr=>by
 exact "t !T.d_text F U t 1zcL F y v !T.d_begun F y"
def S9:aq ["self"] ["self"] (zE Gb):=by exact ")"
def S_:Aj :=
  (zH (jC (yx (br "text" insOf excOf) (zc 0)) (bB (yx (br "place" insOf excOf) (zc 0))) (bB (zj zM (yx (br "place" insOf excOf) (zc 0)) (Ar 1)))))
def m_ValueReader_sign_here:Al:=zB 1 1 (S_)
def Ta (T:Txt w K mg):bZ P w K mg base "ValueReader" "sign_here" 1 m_ValueReader_sign_here:=T.m_ValueReader_sign_here.ok (k:=0) S9 λ_ _ _ _ _ _ _ hr=>by
 exact "v D fwD CT.d_text F cjT % F cjT V % F y"
def tO (c:Str):Option (Al):=if c = "ValueReader" then some m_ValueReader_sign_here else none
def Sf (T:Txt w K mg) {c:Str} {m:Al} (h:tO c=some m):bZ P w K mg base c "sign_here" 1 m:=by
 unfold tO at h
 by_cases e0:c = "ValueReader"
 ·rw [zp e0] at h;cases h;rw [e0];exact (Ta T).mono (by decide)
 rw [zD e0] at h
 cases h
def Tb:aq ["self", "sign"] ["self", "sign"] (zE Gd):=by exact ")"
def Tc:Aj :=
  zt (zQ (mB (zj yM (yy "sign_here" tO (zc 0) zh) (zc 1)))
  (zH (mC (.bl false)))
  zT) (zt (gE "place" insOf (zc 0) (Ar 1)) (zH (mC (.bl true))))
def m_ValueReader_passes:Al:=zB 2 2 (Tc)
def Td (T:Txt w K mg):bZ P w K mg base "ValueReader" "passes" 2 m_ValueReader_passes:=T.m_ValueReader_passes.ok (k:=1) Tb λ_ _ _ _ _ _ _ hr=>by
 exact "t R ijL 6 F U v D & N t 1zd9 F y v D &"
def wI (c:Str):Option (Al):=if c = "ValueReader" then some m_ValueReader_passes else none
def zbf (T:Txt w K mg) {c:Str} {m:Al} (h:wI c=some m):bZ P w K mg base c "passes" 2 m:=by
 unfold wI at h
 by_cases e0:c = "ValueReader"
 ·rw [zp e0] at h;cases h;rw [e0];exact (Td T).mono (by decide)
 rw [zD e0] at h
 cases h
def zlA:aq ["self", "signs", "start"] ["self", "signs"] (zE Ge):=by exact ")"
def Te:Aj :=
  zt (zV 2 (yx (br "place" insOf excOf) (zc 0))) (zt (kf (j1 (mB (zj wS (yx (br "place" insOf excOf) (zc 0)) (zn yk (ze (yx (br "text" insOf excOf) (zc 0)) zh)))) (mB (zj (yS false) (zj zJ (yx (br "text" insOf excOf) (zc 0)) (yx (br "place" insOf excOf) (zc 0))) (zc 1))))
  (gE "place" insOf (zc 0) (Ar 1))) (zH (jC (yx (br "text" insOf excOf) (zc 0)) (bB (zc 2)) (bB (yx (br "place" insOf excOf) (zc 0))))))
def m_ValueReader_run_of:Al:=zB 2 3 (Te)
def Tf (T:Txt w K mg):bZ P w K mg base "ValueReader" "run_of" 1 m_ValueReader_run_of:=T.m_ValueReader_run_of.ok (k:=0) zlA λ_ _ _ _ _ _ _ hr=>by
 exact "t j2 % F dzlA.nd t M cj3 azcG BzbX % F m o CT.d_text F r czcF izfU h k CT.d_text F % F l U v 1zd9 F y v D fwD CT.d_text F cjT ( cjT % F"
def tQ (c:Str):Option (Al):=if c = "ValueReader" then some m_ValueReader_run_of else none
def zlB (T:Txt w K mg) {c:Str} {m:Al} (h:tQ c=some m):bZ P w K mg base c "run_of" 1 m:=by
 unfold tQ at h
 by_cases e0:c = "ValueReader"
 ·rw [zp e0] at h;cases h;rw [e0];exact (Tf T).mono (by decide)
 rw [zD e0] at h
 cases h
def zlC:aq ["self", "word"] ["self"] (zE Gf):=by exact ")"
def Tg:Aj :=
  zt (zV 1 (yy "run_of" tQ (zc 0) (ze (As "abcdefghijklmnopqrstuvwxyz") zh))) (zt (zQ (j2 (mB (zn w9 (ze (zc 1) zh))))
  jD
  zT) (zH (zc 1)))
def m_ValueReader_read_word:Al:=zB 1 2 (Tg)
def Th (T:Txt w K mg):bZ P w K mg base "ValueReader" "read_word" 2 m_ValueReader_read_word:=T.m_ValueReader_read_word.ok (k:=1) zlC λ_ _ _ _ _ _ _ hr=>by
 exact "t j1 OzlB F o"
 exact (xM T.c_LETTERS)
 exact "r dzlC.nd t R czaF 8 ezgB o U r v dzaj N v D U"
def tS (c:Str):Option (Al):=if c = "ValueReader" then some m_ValueReader_read_word else none
def zlD (T:Txt w K mg) {c:Str} {m:Al} (h:tS c=some m):bZ P w K mg base c "read_word" 2 m:=by
 unfold tS at h
 by_cases e0:c = "ValueReader"
 ·rw [zp e0] at h;cases h;rw [e0];exact (Th T).mono (by decide)
 rw [zD e0] at h
 cases h
def Ti:aq ["self", "sign"] ["self", "sign"] (zE Gg):=by exact ")"
def Tj:Aj :=
  zt (zQ (mB (zj yM (yy "sign_here" tO (zc 0) zh) (zc 1)))
  jD
  zT) (gE "place" insOf (zc 0) (Ar 1))
def m_ValueReader_pass_sign:Al:=zB 2 2 (Tj)
def Tn (T:Txt w K mg):bZ P w K mg base "ValueReader" "pass_sign" 2 m_ValueReader_pass_sign:=T.m_ValueReader_pass_sign.ok (k:=1) Ti λ_ _ _ _ _ _ _ hr=>by
 exact "t R ijL 6 F U v dzaj N v 1zd9 F y"
def m8 (c:Str):Option (Al):=if c = "ValueReader" then some m_ValueReader_pass_sign else none
def zgZ (T:Txt w K mg) {c:Str} {m:Al} (h:m8 c=some m):bZ P w K mg base c "pass_sign" 2 m:=by
 unfold m8 at h
 by_cases e0:c = "ValueReader"
 ·rw [zp e0] at h;cases h;rw [e0];exact (Tn T).mono (by decide)
 rw [zD e0] at h
 cases h
def zlE:aq ["self", "row"] ["self"] (zE Gh):=by exact ")"
def To (mr:Al):Aj :=
  zt (zQ (mB (yy "passes" wI (zc 0) (ze (As "]") zh)))
  (zH (yQ zh))
  zT) (zt (zV 1 (jA (ze (yy "read_part" (jY "ValueReader" mr) (zc 0) zh) zh))) (zt (kf (mB (yy "passes" wI (zc 0) (ze (As ",") zh)))
  (yU (ju jW (zc 1) (yy "read_part" (jY "ValueReader" mr) (zc 0) zh)))) (zt (yU (yy "pass_sign" m8 (zc 0) (ze (As "]") zh))) (zH (zn lp (ze (zc 1) zh))))))
def m_ValueReader_read_row (mr:Al):Al:=zB 1 2 (To mr)
def zvh (T:Txt w K mg) {k:Nat} (hk:3<=k) {mr:Al} (dJ:bZ P w K mg base "ValueReader" "read_part" k mr):bZ P w K mg base "ValueReader" "read_row" (k+1) (m_ValueReader_read_row mr):=T.m_ValueReader_read_row.ok (k:=k+0) zlE λ_ _ _ _ _ _ _ hr=>by
 exact "t R 8 pzbf F o J r v D cjB r N t j1 czag o L F r dzlE.nd t M 8 pzbf F o J r v cwj azd2 U L F t cwj pzgZ F o J r v D 3 o U r"
def zlF:aq ["self", "record", "last", "word"] ["self", "record", "last"] (zE Gi):=by exact ")"
def Tp (mr:Al):Aj :=
  zt (zV 3 (yy "read_word" tS (zc 0) zh)) (zt (zQ (mB (zj sV (zc 3) (zc 2)))
  (dI "NoText")
  zT) (zt (yU (yy "pass_sign" m8 (zc 0) (ze (As ":") zh))) (jp (zc 1) (zc 3) (yy "read_part" (jY "ValueReader" mr) (zc 0) zh))))
def m_ValueReader_read_entry (mr:Al):Al:=zB 3 4 (Tp mr)
def Se (T:Txt w K mg) {k:Nat} (hk:3<=k) {mr:Al} (dJ:bZ P w K mg base "ValueReader" "read_part" k mr):bZ P w K mg base "ValueReader" "read_entry" (k+3) (m_ValueReader_read_entry mr):=T.m_ValueReader_read_entry.ok (k:=k+2) zlF λ_ _ _ _ _ _ _ hr=>by
 exact "t j3 QzlD F dzlF.nd t R BztT b3 ( v"
 exact (R3 T.x0_NoText zL rfl)
 exact "N t cwj pzgZ F o J r v A S U b3 L F"
 rfl
def zlH:aq ["self", "record"] ["self"] (zE Gj):=by exact ")"
def Tq (mr:Al):Aj :=
  zt (zQ (mB (yy "passes" wI (zc 0) (ze (As "}") zh)))
  (zH mR)
  zT) (zt (zV 1 mR) (zt (yU (yy "read_entry" (jY "ValueReader" (m_ValueReader_read_entry mr)) (zc 0) (ze (zc 1) (ze (As "") zh)))) (zt (kf (mB (yy "passes" wI (zc 0) (ze (As ",") zh)))
  (yU (yy "read_entry" (jY "ValueReader" (m_ValueReader_read_entry mr)) (zc 0) (ze (zc 1) (ze (zn pZ (ze (zc 1) zh)) zh))))) (zt (yU (yy "pass_sign" m8 (zc 0) (ze (As "}") zh))) (zH (zc 1))))))
def m_ValueReader_read_record (mr:Al):Al:=zB 1 2 (Tq mr)
def zvk (T:Txt w K mg) {k:Nat} (hk:3<=k) {mr:Al} (dJ:bZ P w K mg base "ValueReader" "read_part" k mr):bZ P w K mg base "ValueReader" "read_record" (k+4) (m_ValueReader_read_record mr):=T.m_ValueReader_read_record.ok (k:=k+3) zlH λ_ _ _ _ _ _ _ hr=>by
 exact "t R 8 pzbf F o J r v D dzcS N t j1 dzcS dzlH.nd t cwj X F o U o J r t M 8 pzbf F o J r v cwj X F o U o 4ztQ o U r r t cwj pzgZ F o J r v D U"
def zg0:aq ["self", "below", "figures"] ["self"] (zE Gk):=by exact ")"
def Ts:Aj :=
  zt (zV 1 (yy "passes" wI (zc 0) (ze (As "-") zh))) (zt (zV 2 (yy "run_of" tQ (zc 0) (ze (As "0123456789") zh))) (zt (zQ (j2 (mB (wf j6 j6 (Ar 1) (zn yk (ze (zc 2) zh)) (Ar 18))))
  jD
  zT) (zt (zQ (j1 (mB (zj jk (zj zJ (zc 2) (Ar 0)) (As "0"))) (jz (mB (zc 1)) (mB (zj jI (zn yk (ze (zc 2) zh)) (Ar 1)))))
  jD
  zT) (zH (rX (mB (zc 1)) (yx sd (zn m5 (ze (zc 2) zh))) (zn m5 (ze (zc 2) zh)))))))
def m_ValueReader_read_number:Al:=zB 1 3 (Ts)
def Tt (T:Txt w K mg):bZ P w K mg base "ValueReader" "read_number" 3 m_ValueReader_read_number:=T.m_ValueReader_read_number.ok (k:=2) zg0 λ_ _ _ _ _ _ _ hr=>by
 exact "t j1 Ozbf F o J r dzg0.nd t j2 OzlB F o"
 exact (xM T.c_FIGURES)
 exact "r dzg0.nd t R czaF #zbY y m o ( r YT.c_MOST_FIGURES v dzaj N t R cj3 azcG iwT h k ( y l J czcF cj3 azaf 8 U czaE Bzbr m o ( r y v dzaj N v D fziO 8 U"
 refine D_ Eb ?_
 exact "Wzj9 o ( r Wzj9 o ( r"
def Bj (c:Str):Option (Al):=if c = "ValueReader" then some m_ValueReader_read_number else none
def zvn (T:Txt w K mg) {c:Str} {m:Al} (h:Bj c=some m):bZ P w K mg base c "read_number" 3 m:=by
 unfold Bj at h
 by_cases e0:c = "ValueReader"
 ·rw [zp e0] at h;cases h;rw [e0];exact (Tt T).mono (by decide)
 rw [zD e0] at h
 cases h
def G7:aq ["self"] ["self"] (zE Gm):=by exact ")"
def G8 (mr:Al):Aj :=
  zt (zQ (mB (yy "passes" wI (zc 0) (ze (As "'") zh)))
  (zH (yy "read_word" tS (zc 0) zh))
  zT) (zt (zQ (mB (yy "passes" wI (zc 0) (ze (As "[") zh)))
  (zH (yy "read_row" (jY "ValueReader" (m_ValueReader_read_row mr)) (zc 0) zh))
  zT) (zt (zQ (mB (yy "passes" wI (zc 0) (ze (As "{") zh)))
  (zH (yy "read_record" (jY "ValueReader" (m_ValueReader_read_record mr)) (zc 0) zh))
  zT) (zH (yy "read_number" Bj (zc 0) zh))))
def G9 (mr:Al):Aj :=
  zt (gE "begun" insOf (zc 0) (Ar 1)) (zt (zQ (mB (zj jI (yx (br "begun" insOf excOf) (zc 0)) (Ar 60)))
  jD
  zT) (G8 mr))
def m_ValueReader_read_part (mr:Al):Al:=zB 1 1 (G9 mr)
def Tu (T:Txt w K mg) {k:Nat} (hk:3<=k) {mr:Al} (dJ:bZ P w K mg base "ValueReader" "read_part" k mr):bZ P w K mg base "ValueReader" "read_part" (k+5) (m_ValueReader_read_part mr):=T.m_ValueReader_read_part.ok (k:=k+4) G7 λ_ _ _ _ _ _ _ hr=>by
 exact "t"
 refine zd9 T.d_begun ?_ ?_
 exact "F y t R Bzbr CT.d_begun F YT.c_MOST_PARTS v dzaj N t R 8 pzbf F o J r v D QzlD F N t R 8 pzbf F o J r v D 2zvh F N t R 8 pzbf F o J r v D 2zvk F N v D Qzvn F"
def wJ:Nat->Al
 |0=>zB 1 1 jD
 |n+1=>m_ValueReader_read_part (wJ n)
theorem G_ (T:Txt w K mg):∀n,bZ P w K mg base "ValueReader" "read_part" (3+1+5*n) (wJ n)
 |0=>T.m_ValueReader_read_part.ok (k:=3) G7 λf aV A outer s H E hr=>pH
 |n+1=>(Tu T (by omega) (G_ T n)).mono (by omega)
def zg2:aq ["text", "reader", "value"] ["text"] (zE Gn):=by exact ")"
def Tv:Aj :=
  zt (zQ (j2 (mB (zn yC (ze (zc 0) (ze (mC (.ty "str")) zh)))))
  jD
  zT) (zt (zV 1 (zn (fS "ValueReader" tN) (ze (zc 0) zh))) (zt (zV 2 (yy "read_part" (jY "ValueReader" (wJ 3)) (zc 1) zh)) (zt (zQ (mB (zj wS (yx (br "place" insOf excOf) (zc 1)) (zn yk (ze (zc 0) zh))))
  jD
  zT) (zH (zc 2)))))
def ky:Al:=zB 1 3 (Tv)
def zg3 (T:Txt w K mg):bo P w K mg base "read_value" 20 ky:=T.f_read_value.ok (k:=19) zg2 λ_ _ _ _ _ _ _ hr=>by
 exact "t R czaF 8 n o F o P r v dzaj N t j1 $zu2 o F r dzg2.nd t j2"
 refine wV (λc m h=>sW (G_ T 3) h) ?_ (hr.mono (by decide)) zL
 exact "U dzg2.nd t R BzbX % U m o F r v dzaj N v D ("
def zg4:aq ["_law_text_here", "_law_gone"] ["_law_text_here"] (zE Gp):=by exact ")"
def Tw:Aj :=
  zt (zV 1 (mC (.bl false))) (zt (p9 "NoText" (ly ky (ze (zc 0) zh))
  (zV 1 (mC (.bl true)))) (zH (zc 1)))
def qu:Al:=zB 1 2 (Tw)
def zlM (T:Txt w K mg):bo P w K mg base "_law_is_none" 21 qu:=T.f__law_is_none.ok (k:=20) zg4 λ_ _ _ _ _ _ _ hr=>by
 exact "t j1 & dzg4.nd t"
 refine R8 T.x0_NoText.tr ?_ ?_
 refine PC (zg3 T) (hr.mono (by decide)) ?_
 exact "o F r"
 intro _
 exact "v j1 & dzg4.nd v D U"
def zdm:aq ["_law_deck_here", "_law_record", "_law_words_here", "_law_pairs", "_law_text_here", "_law_at", "_law_turned"] ["_law_deck_here", "_law_record", "_law_words_here"] (zE zgo):=by exact ")"
def Tx:Aj :=
  zt (zV 3 (yB (yA (zn lH (ze (zc 2) zh))) (yQ (ze (zc 0) (ze (zj zJ (zc 2) (zc 0)) zh))))) (zt (zV 4 (zn qt (ze (zc 3) zh))) (zt (zQ (jz (mB (zj yM (zn (ku 3) (ze (zc 1) zh)) (zc 4))) (mB (zj lI (zn ky (ze (zc 4) zh)) (zc 1))))
  (zH (mC (.bl false)))
  zT) (zt (zV 5 (zn yO (ze (zc 0) (ze (zj rZ (zn yk (ze (zc 3) zh)) (Ar 1)) zh)))) (zt (zV 6 (zj zM (zj zM (jC (zc 3) cx (bB (zc 5))) (jA (ze (zj zJ (zc 3) (zj zM (zc 5) (Ar 1))) (ze (zj zJ (zc 3) (zc 5)) zh)))) (jC (zc 3) (bB (zj zM (zc 5) (Ar 2))) cx))) (zt (zQ (j2 (mB (zn qu (ze (zn qt (ze (zc 6) zh)) zh))))
  (zH (mC (.bl false)))
  zT) (zH (mJ (zn qu (ze (zn qt (ze (zj zM (jC (zc 3) cx (bB (zj zM (zc 5) (Ar 1)))) (jC (zc 3) (bB (zc 5)) cx)) zh)) zh)) (zj jJ (zn ky (ze (zc 4) zh)) (zc 1)))))))))
def Bk:Al:=zB 3 7 (Tx)
def zvs (T:Txt w K mg):bo P w K mg base "_law_texts_right" 22 Bk:=T.f__law_texts_right.ok (k:=21) zdm λ_ _ _ _ _ _ _ hr=>by
 exact "t"
 refine Fc 3 (N:=["_law_deck_here", "_law_record", "_law_words_here", "_law_pairs", "_law_text_here", "_law_at", "_law_turned"]) rfl (by exact "*zgo") rfl (by decide +kernel) ?_ ?_ zdm.nd rfl (by exact "-") (by exact ".") (by rfl)
 exact "cj7"
 refine yd FI T.b_sorted AK ?_
 exact "o ( r z cjB o F o h k ( F l r t j4 ezgX o b3 r dzdm.nd t R cj3 azaf ijL Izly o U r b4 czaE izgf ezg3 o b4 r U v D & N t j5 ejN o F o gziR m o b3 r y r dzdm.nd t j6 V V fwD b3 dzaG cjT b5 czag o h k b3 V b5 y l o h k b3 b5 l r fwD b3 cjT V b5 y dzaG dzdm.nd t R czaF 8 ezlM o ezgX o b6 r r v D & N v D azfv ezlM o ezgX o V fwD b3 dzaG cjT V b5 y fwD b3 cjT b5 dzaG r r czfu Ezb9 ezg3 o b4 r U"
def zg6:aq ["_law_deck_here", "_law_row", "_law_at"] ["_law_deck_here"] (zE zgp):=by exact ")"
def Tz:Aj :=
  zt (zV 1 (zn lp (ze (yB (bJ (ze (zj zM (Ar 1) (zn yO (ze (zc 0) (ze (Ar 30) zh)))) zh)) (zn yO (ze (zc 1) (ze (Ar 50) zh)))) zh))) (zt (js (bJ (ze (zn yk (ze (zc 1) zh)) zh)) (gN 2)
  (zt (zQ (mB (zj yM (zn yG (ze (As "item") (ze (yQ (ze (zc 1) (ze (zc 2) zh))) zh))) (zj zJ (zc 1) (zc 2))))
  (zH (mC (.bl false)))
  zT)
  (zQ (mB (zj yM (zn yG (ze (As "put") (ze (yQ (ze (zc 1) (ze (zc 2) (ze (Ar 99) zh)))) zh))) (zj zM (zj zM (jC (zc 1) cx (bB (zc 2))) (yQ (ze (Ar 99) zh))) (jC (zc 1) (bB (zj zM (zc 2) (Ar 1))) cx))))
  (zH (mC (.bl false)))
  zT))) (zt (zQ (jz (mB (zj yM (zn yG (ze (As "item") (ze (yQ (ze (zc 1) (ze (zn yk (ze (zc 1) zh)) zh))) zh))) (As "fault place"))) (mB (zj yM (zn yG (ze (As "put") (ze (yQ (ze (zc 1) (ze (zn yk (ze (zc 1) zh)) (ze (Ar 1) zh)))) zh))) (As "fault place"))))
  (zH (mC (.bl false)))
  zT) (zH (zj jJ (zn yG (ze (As "many") (ze (yQ (ze (zc 1) zh)) zh))) (zn yk (ze (zc 1) zh))))))
def Bl:Al:=zB 1 3 (Tz)
def zvu (T:Txt w K mg):bo P w K mg base "_law_row_right" 7 Bl:=T.f__law_row_right.ok (k:=6) zg6 λ_ _ _ _ _ _ _ hr=>by
 exact "t j1 3 o"
 refine ki (N:=["_law_deck_here", "_law_row", "_law_at"]) rfl (by exact "*zgp") rfl (by decide +kernel) ?_ ?_
 exact "G o V y ejN o F o y r r z ujN o U o y r r dzg6.nd t s G o m o U r r"
 exact (sk 2 zg6.nd)
 exact "t R ijL ewu o J o cjB o U o ( r r h k U ( l v D & N v R ijL ewu o J o cjB o U o ( o y r r V V fwD U dzaG cjT ( cjB o y r fwD U cjT V ( y dzaG v D & N t R cj3 azaf ijL ewu o J o cjB o U o m o U r r r J czaE ijL ewu o J o cjB o U o m o U r o y r r J v D & N v D Ezb9 ewu o J o cjB o U r r m o U r"
def zbh:aq ["_law_script", "_law_deck_here", "_law_words_here", "_law_record", "_law_word", "_law_at", "_law_due", "_law_more"] ["_law_script"] (zE AR):=by exact ")"
def Ha:Aj :=
  zt (zQ (jz (j2 (mB (zn tK (ze (zc 1) (ze (zc 3) (ze (zc 2) zh)))))) (j2 (mB (zn Bh (ze (zc 1) (ze (zc 3) (ze (zc 2) zh)))))))
  (zH (mC (.bl false)))
  zT) (zt (zV 5 (zn yO (ze (zc 1) (ze (zn yk (ze (zc 2) zh)) zh)))) (zt (zV 6 (zn kj (ze (zc 3) zh))) (zt (jp (zc 6) (zj zJ (zc 2) (zc 5)) (Ar 77)) (zt (zV 7 (zn kj (ze (zc 3) zh))) (zt (jp (zc 7) (As "vvvvvvqv") (Ar 5)) (zt (zQ (jz (mB (zj lI (zn yG (ze (As "set") (ze (yQ (ze (zc 3) (ze (zj zJ (zc 2) (zc 5)) (ze (Ar 77) zh)))) zh))) (zc 6))) (mB (zj lI (zn yG (ze (As "set") (ze (yQ (ze (zc 3) (ze (As "vvvvvvqv") (ze (Ar 5) zh)))) zh))) (zc 7))))
  (zH (mC (.bl false)))
  zT) (zH (mJ (zn Bk (ze (zc 1) (ze (zc 3) (ze (zc 2) zh)))) (zn Bl (ze (zc 1) zh))))))))))
def TC:Aj :=
  zt (zV 1 (zn sZ (ze (zc 0) zh))) (zt (zV 2 (zn AU (ze (zc 1) (ze (zj zM (Ar 5) (zn yO (ze (zc 1) (ze (Ar 26) zh)))) zh)))) (zt (zV 3 mR) (zt (js (yA (zc 2)) (gN 4)
  (jp (zc 3) (zc 4) (zn ko (ze (zc 1) zh)))) (zt (kf (mB (zj jI (zn (jO 3) (ze (zc 3) zh)) (Ar 58)))
  (yU (qc (zc 3) (yx pA (zc 2))))) (Ha)))))
def Bm:Al:=zB 1 8 (TC)
def zvw (T:Txt w K mg) {f:Addr} {fd:FuncData} (F:dw K "law" "law" AR f fd):bh P w K mg base (b9 P w) 23 f fd ["_law_script"] (fR K mg Bm):=sy (k:=22) F zbh λaV A outer s H E hr =>by
 exact "t j1 ezud o F r dzbh.nd t j2 ezuh o U o V y ejN o U o y r r dzbh.nd t j3 dzcS dzbh.nd t s cj7 ( 7zbh.nd v A S b3 b4 ezuj o U r"
 rfl
 exact "t M Bzbr Izgw o b3 r y v cwj azkb b3 czsO ( t R cj3 azaf czaF 8 ezuS o U o b3 o ( r czaE czaF 8 ezuU o U o b3 o ( r v D & N t j5 ejN o U o m o ( r r dzbh.nd t j6 5 o b3 r dzbh.nd t A S b6 h k ( b5 l y"
 rfl
 exact "t j7 5 o b3 r dzbh.nd t A S b7 J y"
 rfl
 exact "t R cj3 azaf izgf ewu o J o cjB o b3 o h k ( b5 l o y r r b6 czaE izgf ewu o J o cjB o b3 o J o y r r b7 v D & N v D azfv ezvs o U o b3 o ( r czfu ezvu o U r"
end
def Bn (i j:Int) (h:0<j):j5 i j=i%j:=by unfold j5;rw [zp h]
def Hb (i j:Int) (h:0<j):wC i j=i/j:=by unfold wC;rw [zp h]
inductive Tr where
 |num (i:Int)|word (z:Str)|row (ts:List Tr)|rec_ (ks:Ad) (ts:List Tr)
mutual
def sz:Tr->Nat
 |.num _=>1
 |.word _=>1
 |.row ts=>1+aQ ts
 |.rec_ _ ts=>1+aQ ts
def aQ:List Tr->Nat
 |[]=>0
 |t::ts=>sz t+aQ ts
end
mutual
def dp:Tr->Nat
 |.num _=>0
 |.word _=>0
 |.row ts=>1+cU ts
 |.rec_ _ ts=>1+cU ts
def cU:List Tr->Nat
 |[]=>0
 |t::ts=>max (dp t) (cU ts)
end
mutual
def wt:Tr->Int
 |.num i=>(if 0<i then i else 0)+1
 |.word _=>1
 |.row ts=>1+ts.length+dA ts
 |.rec_ _ ts=>1+dA ts
def dA:List Tr->Int
 |[]=>0
 |t::ts=>wt t+dA ts
end
theorem Hc:∀a b:List Tr,dA (a++b)=dA a+dA b
 |[],b=>by simp [dA]
 |t::a,b=>by simp only [List.cons_append,dA,Hc a b];omega
mutual
def TR (st:aa):Tr->PV->Prop
 |.num i,v=>v=.int i
 |.word z,v=>v=.str z/\z.length<=1000
 |.row ts,v=>∃xs,v=.tup xs/\aW st ts xs
 |.rec_ ks ts,v=>∃n xs,v=.ref n/\st[n]?=some (.dic ks xs)/\ks.Nodup/\ks.length=xs.length/\aW st ts xs/\∀k∈ks,k.length<=1000
def aW (st:aa):List Tr->List PV->Prop
 |[],xs=>xs=[]
 |t::ts,xs=>∃x r,xs=x::r/\TR st t x/\aW st ts r
end
def Dk (a b:aa):Prop:=∀(n:Nat) (ks:Ad) (xs:An),a[n]?=some (SO.dic ks xs)->b[n]?=some (SO.dic ks xs)
def Dk.refl (a:aa):Dk a a:=λ_ _ _ e=>e
def Dk.trans {a b c:aa}(h:Dk a b) (h':Dk b c):Dk a c:=λn ks xs e=>h' n ks xs (h n ks xs e)
def TF {a b:aa}(h:Pre a b):Dk a b:=λn ks xs e=>h.get e
def tT (a d:aa):Dk a (a++d):=TF (Pre.of a d)
def TH {a:aa}{n:Nat}{xs ys:An}(h:a[n]?=some (.lst xs)):Dk a (a.set n (.lst ys)):=λm ks zs e=>by
 have ne:n≠m:=λz=>by subst z;rw [h] at e;cases e
 rw [yN ne];exact e
mutual
theorem TR.mono {a b:aa}(d:Dk a b):∀(t:Tr) {v:PV},TR a t v->TR b t v
 |.num _,_,h=>h
 |.word _,_,h=>h
 |.row ts,_,h=>by obtain ⟨xs,e,r⟩:=h;exact ⟨xs,e,aW.mono d ts r⟩
 |.rec_ ks ts,_,h=>by obtain ⟨n,xs,e,h1,h2,h3,r,h4⟩:=h;exact ⟨n,xs,e,d _ _ _ h1,h2,h3,aW.mono d ts r,h4⟩
theorem aW.mono {a b:aa}(d:Dk a b):∀(ts:List Tr) {xs:An},aW a ts xs->aW b ts xs
 |[],_,h=>h
 |t::ts,_,h=>by obtain ⟨x,r,e,h1,h2⟩:=h;exact ⟨x,r,e,TR.mono d t h1,aW.mono d ts h2⟩
end
theorem aW.len {st:aa}:∀{ts:List Tr}{xs:An},aW st ts xs->ts.length=xs.length
 |[],_,h=>by cases h;rfl
 |t::ts,_,h=>by obtain ⟨x,r,rfl,_,h2⟩:=h;simp [aW.len h2]
theorem aW.get {st:aa}:∀{ts:List Tr}{xs:An}{i:Nat}{x:PV},aW st ts xs->xs[i]?=some x->∃t,ts[i]?=some t/\TR st t x
 |[],_,_,_,h,e=>by cases h;simp at e
 |t::ts,_,0,x,h,e=>by obtain ⟨y,r,rfl,h1,_⟩:=h;simp at e;subst e;exact ⟨t,by simp,h1⟩
 |t::ts,_,i+1,x,h,e=>by obtain ⟨y,r,rfl,_,h2⟩:=h;simp at e;simpa using aW.get h2 e
theorem aW.append {st:aa}:∀{ts us:List Tr}{xs ys:An},aW st ts xs->aW st us ys->aW st (ts++us) (xs++ys)
 |[],_,_,_,h,h'=>by cases h;exact h'
 |t::ts,_,_,_,h,h'=>by obtain ⟨y,r,rfl,h1,h2⟩:=h;exact ⟨y,r++_,rfl,h1,aW.append h2 h'⟩
theorem Bo:∀a b:List Tr,aQ (a++b)=aQ a+aQ b
 |[],b=>by simp [aQ]
 |t::a,b=>by simp only [List.cons_append,aQ,Bo a b];omega
mutual
theorem tU:∀t:Tr,0<sz t
 |.num _=>by simp [sz]
 |.word _=>by simp [sz]
 |.row ts=>by simp only [sz];omega
 |.rec_ _ ts=>by simp only [sz];omega
end
mutual
theorem TJ:∀t:Tr,dp t<=sz t
 |.num _=>by simp [sz,dp]
 |.word _=>by simp [sz,dp]
 |.row ts=>by have:=f6 ts;simp only [sz,dp];omega
 |.rec_ _ ts=>by have:=f6 ts;simp only [sz,dp];omega
theorem f6:∀ts:List Tr,cU ts<=aQ ts
 |[]=>by simp [aQ,cU]
 |t::ts=>by have:=TJ t;have:=f6 ts;simp only [aQ,cU];omega
end
theorem m9:∀{ts:List Tr}{t:Tr},t∈ts->sz t<=aQ ts
 |u::ts,t,h=>by
  rcases yE.mp h with rfl|h
  ·simp only [aQ];omega
  ·have:=m9 h;simp only [aQ];omega
theorem iD:∀{ts:List Tr}{t:Tr},t∈ts->dp t<=cU ts
 |u::ts,t,h=>by
  rcases yE.mp h with rfl|h
  ·simp only [cU];omega
  ·have:=iD h;simp only [cU];omega
def ty:Tr->String
 |.num _ => "int"
 |.word _ => "str"
 |.row _ => "tuple"
 |.rec_ _ _ => "dict"
def kids:Tr->List Tr
 |.row ts=>ts
 |.rec_ _ ts=>ts
 |_=>[]
abbrev abc:Str := "abcdefghijklmnopqrstuvwxyz"
def bg (z:Str):Bool:=decide (1<=z.length)&&decide (z.length<=8)&&z.cps.toList.all λc=>decide (c∈abc.cps.toList)
def ok:Tr->Bool
 |.num i=>decide (-1000000000000000000<i)&&decide (i<1000000000000000000)
 |.word z=>bg z
 |.row _=>true
 |.rec_ ks _=>ks.all bg
def oks:List Tr->Bool
 |[]=>true
 |t::ts=>ok t&&oks ts
mutual
def okT:Tr->Bool
 |.num i=>ok (.num i)
 |.word z=>ok (.word z)
 |.row ts=>ok (.row ts)&&okTs ts
 |.rec_ ks ts=>ok (.rec_ ks ts)&&okTs ts
def okTs:List Tr->Bool
 |[]=>true
 |t::ts=>okT t&&okTs ts
end
theorem Hd:∀a b:List Tr,oks (a++b)=(oks a&&oks b)
 |[],b=>by simp [oks]
 |t::a,b=>by simp only [List.cons_append,oks,Hd a b,Bool.and_assoc]
theorem He:∀a b:List Tr,okTs (a++b)=(okTs a&&okTs b)
 |[],b=>by simp [okTs]
 |t::a,b=>by simp only [List.cons_append,okTs,He a b,Bool.and_assoc]
def TK (t:Tr):okT t=(ok t&&okTs (kids t)):=by
 cases t<;>simp [okT,kids,okTs]
def own:Tr->Int
 |.num i=>(if 0<i then i else 0)+1
 |.row ts=>1+ts.length
 |_=>1
def df:List Tr->Int
 |[]=>0
 |t::ts=>own t+df ts
theorem Hf:∀a b:List Tr,df (a++b)=df a+df b
 |[],b=>by simp [df]
 |t::a,b=>by simp only [List.cons_append,df,Hf a b];omega
def TL (t:Tr):wt t=own t+dA (kids t):=by
 cases t<;>simp [wt,own,kids,dA]
def TM (t:Tr):sz t=1+aQ (kids t):=by
 cases t<;>simp [sz,kids,aQ]
def tV {st:aa}{t:Tr}{v:PV}(h:TR st t v) (n:String):yC [v,.ty n] st=eV (cm (ty t) n) st:=by
 cases t with
 |num i=>cases h;rfl
 |word z=>obtain ⟨rfl,_⟩:=h;rfl
 |row ts=>obtain ⟨xs,rfl,_⟩:=h;rfl
 |rec_ ks ts =>
  obtain ⟨m,xs,rfl,hm,_⟩:=h
  have e:tyP st (.ref m)=some "dict" := by show sY st[m]?=_;rw [hm];rfl
  simp only [yC,e,ty]
@[simp] def Yw (b:Bool) (st:aa):eV (some b) st=.ok (.bl b) st:=(rfl)
def t1:cm "int" "str" = some false:=rfl
def t2:cm "int" "tuple" = some false:=rfl
def t3:cm "int" "dict" = some false:=rfl
def t4:cm "int" "int" = some true:=rfl
def t5:cm "str" "str" = some true:=rfl
def t6:cm "str" "tuple" = some false:=rfl
def t7:cm "str" "dict" = some false:=rfl
def t8:cm "str" "int" = some false:=rfl
def t9:cm "tuple" "str" = some false:=rfl
def wK:cm "tuple" "tuple" = some true:=rfl
def TQ:cm "tuple" "dict" = some false:=rfl
def tW:cm "tuple" "int" = some false:=rfl
def qv:cm "dict" "str" = some false:=rfl
def ng:cm "dict" "tuple" = some false:=rfl
def ni:cm "dict" "dict" = some true:=rfl
def Hg:cm "dict" "int" = some false:=rfl
def TU:cm "int" "bool" = some false:=rfl
def TV:cm "str" "bool" = some false:=rfl
def TY:cm "tuple" "bool" = some false:=rfl
def TZ:cm "dict" "bool" = some false:=rfl
def kn:Tr->Str
 |.num _ => "number"
 |.word _ => "word"
 |.row _ => "row"
 |.rec_ _ _ => "record"
def Bp {st:aa}{t:Tr}{v:PV}(h:TR st t v):w8 [v] st=.ok (.str (kn t)) st:=by
 have e:=tV h
 cases t<;>simp [w8,zB,GA,Gz,Gy,Gx,e,ty,t1,t2,t3,t5,t9,wK,qv,ng,ni,kn]
def T1 {st:aa}{n:Nat}{ks:Ad}{xs:An}(h:st[n]?=some (.dic ks xs)):Az (.ref n) st=.ok (.ref st.length) (st++[.lst xs]):=by
 show yR st n _=_
 unfold yR
 rw [h]
def T3 {st:aa}{t:Tr}{v:PV}(h:TR st t v):∃xs,kq [v] st=.ok (.ref st.length) (st++[.lst xs])/\aW st (kids t) xs:=by
 have e:=tV h
 cases t with
 |num i=>exact ⟨[],by simp [kq,zB,qd,tm,AX,e,ty,t2,t3],rfl⟩
 |word z=>exact ⟨[],by simp [kq,zB,qd,tm,AX,e,ty,t6,t7],rfl⟩
 |row ts=>obtain ⟨xs,rfl,hr⟩:=h;exact ⟨xs,by simp [kq,zB,qd,e,ty,wK,QZ,oV],hr⟩
 |rec_ ks ts=>obtain ⟨m,xs,rfl,hm,nd,hl,hr,_⟩:=h;exact ⟨xs,by simp [kq,zB,qd,tm,e,ty,ng,ni,T1 hm],hr⟩
theorem iE:∀ts:List Tr,ts.length<=aQ ts
 |[]=>by simp [aQ]
 |t::ts=>by have:=tU t;have:=iE ts;simp only [aQ,yF];omega
abbrev tY:Ak:=(mB (zj wS (zc 2) (zn yk (ze (zc 1) zh))))
abbrev Hh:Aj:=(zt (yU (ju su (zc 1) (zn kq (ze (zj zJ (zc 1) (zc 2)) zh))))
  (oX 2 ig (Ar 1)))
def Old (a b:aa):Prop:=∀(n:Nat) so,a[n]?=some so->b[n]?=some so
def Old.refl (a:aa):Old a a:=λ_ _ e=>e
def Old.trans {a b c:aa}(h:Old a b) (h':Old b c):Old a c:=λn so e=>h' n so (h n so e)
def Old.dk {a b:aa}(h:Old a b):Dk a b:=λn ks xs e=>h n _ e
def Hi {a b:aa}(h:Pre a b):Old a b:=λn so e=>h.get e
def zR (a d:aa):Old a (a++d):=Hi (Pre.of a d)
def Ob (r:Nat) (a b:aa):Prop:=∀(n:Nat) so,n≠r->a[n]?=some so->b[n]?=some so
def Ob.trans {r:Nat}{a b c:aa}(h:Ob r a b) (h':Ob r b c):Ob r a c:=λn so ne e=>h' n so ne (h n so ne e)
def Bq {r:Nat}{a b:aa}(h:Old a b):Ob r a b:=λn so _ e=>h n so e
def tZ (r:Nat) (a:aa) (so:SO):Ob r a (a.set r so):=λn s ne e=>by rw [yN (yL ne)];exact e
def T5 (v:PV) (r:Nat):∀(m p fuel:Nat) (ts:List Tr) (xs:An) (st:aa),st[r]?=some (.lst xs)->aW st ts xs->p<=ts.length->aQ (ts.drop p)=m->m<fuel->p+m<=100000 ->
  ∃gM b_ aP,bG tY Hh fuel [some v,At r,some (.int p)] st=.ok (.nx [some v,At r,some (.int gM.length)]) aP/\aP[r]?=some (.lst b_)/\aW aP gM b_/\(Dk st aP/\Ob r st aP)/\oks gM=(oks (ts.take p)&&okTs (ts.drop p))/\gM.length=p+m/\df gM=df (ts.take p)+dA (ts.drop p):=by
 intro m
 induction m using Nat.strongRecOn with
 |_ m ih =>
  intro p fuel ts xs st hr ht hp hm hf hb
  obtain ⟨f',rfl⟩:∃f',fuel=f'+1:=⟨fuel-1,by omega⟩
  have hlen:=ht.len
  by_cases he:p=ts.length
  ·subst he
   refine ⟨ts,xs,st,?_,hr,ht,⟨Dk.refl _,λ_ _ _ e=>e⟩,by simp [okTs],?_,by simp [dA]⟩
   ·rw [wE]
    simp [iA hr,hlen]
   ·rw [List.drop_length] at hm
    simp [aQ] at hm
    omega
  ·have lt:p<ts.length:=by omega
   have bN:p<xs.length:=by omega
   obtain ⟨t,et,hx⟩:=ht.get (yb bN)
   have hd:ts.drop p=t::ts.drop (p+1):=by
    rw [jy lt]
    have:=(yu.mp et).2
    rw [this]
   obtain ⟨ys,ey,hy⟩:=T3 hx
   have rl:r<st.length:=(yu.mp hr).1
   have Hj:(st++[SO.lst ys])[r]?=some (.lst xs):=(Pre.of st _).get hr
   have Yx:=TM t
   rw [hd] at hm
   simp only [aQ] at hm
   have d1:Dk st (st++[SO.lst ys]):=tT _ _
   have d2:Dk (st++[SO.lst ys]) ((st++[SO.lst ys]).set r (.lst (xs++ys))):=TH Hj
   have Br:=d1.trans d2
   have lk:ys.length<=aQ (kids t):=by rw [<-hy.len];exact iE _
   have lx:xs.length<=p+m:=by
    have:=iE (ts.drop p)
    rw [hd] at this
    simp only [aQ,yF,List.length_drop] at this
    omega
   have fX:(ts++kids t).drop (p+1)=ts.drop (p+1)++kids t:=List.drop_append_of_le_length (by omega)
   have d6:(ts++kids t).take (p+1)=ts.take p++[t]:=by
    rw [List.take_append_of_le_length (by omega),<-List.take_append_getElem lt]
    have:=(yu.mp et).2
    rw [this]
   have hm':aQ ((ts++kids t).drop (p+1))=m-1:=by rw [fX,Bo];omega
   have Hk:((st++[SO.lst ys]).set r (SO.lst (xs++ys)))[r]?=some (SO.lst (xs++ys)):=by
    rw [jf]
    simp
    omega
   obtain ⟨gM,b_,aP,e1,e2,e3,e4,e5,e6,e7⟩:=ih (m-1) (by omega) (p+1) f' (ts++kids t) (xs++ys) ((st++[SO.lst ys]).set r (.lst (xs++ys))) Hk ((ht.mono Br).append (hy.mono Br)) (by simp;omega) hm' (by omega) (by omega)
   refine ⟨gM,b_,aP,?_,e2,e3,⟨Br.trans e4.1,((Bq (zR _ _)).trans (tZ r _ _)).trans e4.2⟩,?_,by omega,?_⟩
   ·rw [wE]
    have de:bY xs (p:Int)=some xs[p]:=by simp [bY,kM,bN]
    have oh:xs.length+ys.length<=1000000:=by omega
    have top:(st++[SO.lst ys])[st.length]?=some (.lst ys):=yi _ _
    have ee:((p:Int)+1)=((p+1:Nat):Int):=by omega
    simp [iA hr,yr hr,bN,de,ey,su,yr Hj,yr top,oh]
    rw [ee]
    exact e1
   ·rw [e5,d6,fX,hd,Hd,He]
    have:=TK t
    simp only [oks,okTs,Bool.and_true,this]
    cases oks (ts.take p)<;>cases ok t<;>cases okTs (kids t)<;>cases okTs (ts.drop (p+1))<;>rfl
   ·rw [e7,d6,fX,hd,Hf,Hc]
    have:=TL t
    simp only [df,dA]
    omega
def Bs {st:aa}{t:Tr}{v:PV}(h:TR st t v) (hs:sz t<=10000):∃r ts xs aP,m6 [v] st=.ok (.ref r) aP/\aP[r]?=some (.lst xs)/\aW aP ts xs/\Old st aP/\oks ts=okT t/\ts.length=sz t/\df ts=wt t:=by
 obtain ⟨gM,b_,aP,e1,e2,e3,e4,e5,e6,e7⟩:=T5 v st.length (sz t) 0 lim [t] [v] (st++[.lst [v]]) (yi _ _) ⟨v,[],rfl,h.mono (tT _ _),rfl⟩ (jh _) (by simp [aQ]) (by show sz t<1000000;omega) (by omega)
 refine ⟨st.length,gM,b_,aP,?_,e2,e3,λn so e=>e4.2 n so (by have:=(yu.mp e).1;omega) (zR _ _ n so e),by simpa [oks,okTs] using e5,by omega,by simpa [df,dA] using e7⟩
 simp only [m6,zB,Gv,Gu,Gs,Gr]
 simp
 have om:kf tY Hh [some v,At st.length,some (.int 0)] (st++[.lst [v]])=.ok (.nx [some v,At st.length,some (.int gM.length)]) aP:=e1
 simp [om]
theorem Hl (env:zd) (st:aa):∀(cs:List Nat) (ys:An),bU (zj (yS false) (zc 0) (As "abcdefghijklmnopqrstuvwxyz")) env (cs.map λc=>PV.str ⟨#[c]⟩) ys st=.ok (.ref st.length) (st++[.lst (ys++(cs.map λc=>decide (c∈abc.cps.toList)).map PV.bl)])
 |[],ys=>by simp [bU]
 |c::cs,ys=>by
  have e:yS false (.str ⟨#[c]⟩) (.str abc) st=.ok (.bl (decide (c∈abc.cps.toList))) st:=by
   show Res.ok (PV.bl (false.xor _)) st=_
   rw [Bool.false_xor]
  rw [ye,bU]
  have e2:(zj (yS false) (zc 0) (As "abcdefghijklmnopqrstuvwxyz")) (some (PV.str ⟨#[c]⟩)::env) st=.ok (.bl (decide (c∈abc.cps.toList))) st:=by
   simp only [xQ,kh,Eo,kF,zC]
   exact e
  rw [e2]
  simp only [wX,zC]
  rw [Hl env st cs]
  simp
def Hm (z:Str) (hz:z.length<=1000) (st:aa):∃aP,w9 [.str z] st=.ok (.bl (bg z)) aP/\Pre st aP:=by
 have zl:z.length<=1000000:=by omega
 have e1:yC [.str z,.ty "str"] st=.ok (.bl true) st:=rfl
 by_cases h1:1<=z.length
 ·by_cases h8:z.length<=8
  ·refine ⟨st++[.lst ((z.cps.toList.map λc=>decide (c∈abc.cps.toList)).map PV.bl)],?_,Pre.of _ _⟩
   have c:=Hl [some (.str z)] st z.cps.toList []
   have sl:(signs z).length<=lim:=by show (z.cps.toList.map _).length<=1000000;rw [y3,Array.length_toList];exact zl
   have Hn:(1:Int)<=(z.length:Int):=by omega
   have T6:(z.length:Int)<=8:=by omega
   have cc:yB (yA (zc 0)) (zj (yS false) (zc 0) (As "abcdefghijklmnopqrstuvwxyz")) [some (.str z)] st=.ok (.ref st.length) (st++[.lst ((z.cps.toList.map λc=>decide (c∈abc.cps.toList)).map PV.bl)]):=by
    show bI _ _ (.im (signs z)) st=_
    rw [bI,zp sl]
    exact c
   have al:=sO (yi st (SO.lst ((z.cps.toList.map λc=>decide (c∈abc.cps.toList)).map PV.bl)))
   have tY:(jz (j2 (mB (zn yC (ze (zc 0) (ze (mC (.ty "str")) zh))))) (j2 (mB (wf j6 j6 (Ar 1) (zn yk (ze (zc 0) zh)) (Ar 8))))) [some (.str z)] st=.ok false st:=by
    simp [e1,j_,zl,h1,T6,Hn]
   simp only [w9,zB,tF,GG,yF,List.length_nil,jF,pj,xU,ye,List.map_nil,Nat.sub_self,List.replicate,List.append_nil,Nat.zero_add]
   rw [tY]
   simp only [zC,Bool.false_eq_true,g9,Ex,xS,sC,mQ,mP,ph]
   rw [cc]
   simp only [zC]
   rw [al]
   simp [bg,h1,h8,List.all_map]
  ·refine ⟨st,?_,Pre.refl _⟩
   have Hn:(1:Int)<=(z.length:Int):=by omega
   simp [w9,zB,tF,e1,j_,zl,h1,bg,h8]
   omega
 ·refine ⟨st,?_,Pre.refl _⟩
  simp [w9,zB,tF,e1,j_,zl,h1,bg]
  omega
def T7 {fe:Ai}{env:zd}{n:Nat}{xs:An}{bs:List Bool}(hl:bs.length=xs.length):∀(k i m:Nat) (ys:An) (st:aa),xs.length-i=k->i<=xs.length->k<m->st[n]?=some (.lst xs)->(∀(j:Nat) x b,xs[j]?=some x->bs[j]?=some b->∀aP,Old st aP->∃u9,fe (some x::env) aP=.ok (.bl b) u9/\Old aP u9) ->
  ∃r aP,cF fe env n m i ys st=.ok (.ref r) aP/\aP[r]?=some (.lst (ys++(bs.drop i).map PV.bl))/\Old st aP:=by
 intro k
 induction k with
 |zero =>
  intro i m ys st hk hi hm hn h
  obtain ⟨m',rfl⟩:∃m',m=m'+1:=⟨m-1,by omega⟩
  have e:xs[i]?=none:=gj.mpr (by omega)
  refine ⟨st.length,st++[.lst ys],?_,?_,zR _ _⟩
  ·simp only [cF,yr hn,e]
  ·rw [iM (by omega)];simp
 |succ k ih =>
  intro i m ys st hk hi hm hn h
  obtain ⟨m',rfl⟩:∃m',m=m'+1:=⟨m-1,by omega⟩
  have lt:i<xs.length:=by omega
  have lb:i<bs.length:=by omega
  obtain ⟨st1,e1,o1⟩:=h i xs[i] bs[i] (yb lt) (yb lb) st (Old.refl _)
  obtain ⟨r,av,e2,k2,o2⟩:=ih (i+1) m' (ys++[.bl bs[i]]) st1 (by omega) (by omega) (by omega) (o1 n _ hn) (λj y c h1 h2 aP o=>h j y c h1 h2 aP (o1.trans o))
  refine ⟨r,av,?_,?_,o1.trans o2⟩
  ·simp only [cF,yr hn,yb lt,e1,wX,zC,e2]
  ·rw [k2,jy lb,ye,qX,List.singleton_append]
theorem Ho (env:zd):∀(zs:Ad) (ys:An) (st:aa),(∀z∈zs,z.length<=1000)->∃aP,cz (zn w9 (ze (zc 0) zh)) env (zs.map PV.str) ys st=.ok (ys++(zs.map bg).map PV.bl) aP/\Pre st aP
 |[],ys,st,_=>⟨st,by simp [cz],Pre.refl _⟩
 |z::zs,ys,st,h=>by
  obtain ⟨st1,e1,p1⟩:=Hm z (h z (yj ..)) st
  obtain ⟨av,e2,p2⟩:=Ho env zs (ys++[.bl (bg z)]) st1 λy hy=>h y (yz _ hy)
  refine ⟨av,?_,p1.trans p2⟩
  rw [ye,cz]
  simp only [mQ,mP,kh,kF,zC,ph,e1,wX,e2]
  simp
def T8 {st:aa}{n:Nat}{ks:Ad}{xs:An}(hn:st[n]?=some (.dic ks xs)) (hk:∀k∈ks,k.length<=1000):∃r aP,sN (zc 0) (zn w9 (ze (zc 0) zh)) [At n] st=.ok (.ref r) aP/\aP[r]?=some (.lst ((ks.map bg).map PV.bl))/\Old st aP:=by
 have nl:n<st.length:=(yu.mp hn).1
 obtain ⟨av,e2,p2⟩:=Ho [At n] ks [] (st.set n (.fdi ks xs)) hk
 have l2:n<av.length:=by
  have:(st.set n (.fdi ks xs))[n]?=some (.fdi ks xs):=by rw [jf nl]
  exact (yu.mp (p2.get this)).1
 have hf:(av++[SO.lst ((ks.map bg).map PV.bl)])[n]?=some (.fdi ks xs):=by
  refine (Pre.of av _).get (p2.get ?_)
  rw [jf nl]
 refine ⟨av.length,(av++[SO.lst ((ks.map bg).map PV.bl)]).set n (.dic ks xs),?_,?_,λm so e=>?_⟩
 ·rw [List.nil_append] at e2
  simp only [Fp,kh,kF,zC,Fo,wZ hn,e2,wX,Fq hf]
 ·rw [yN (by omega)];simp
 ·by_cases hm:m=n
  ·subst hm
   rw [hn] at e
   cases e
   rw [jf (by simp;omega)]
  ·rw [yN (yL hm)]
   refine (Pre.of av _).get (p2.get ?_)
   rw [yN (yL hm)]
   exact e
def T9 {st:aa}{t:Tr}{v:PV}(h:TR st t v):∃aP,iC [v] st=.ok (.bl (ok t)) aP/\Old st aP:=by
 have e:=tV h
 cases t with
 |num i =>
  cases h
  refine ⟨st,?_,Old.refl _⟩
  simp [iC,zB,qi,qh,e,ty,TU,t4,AY,GF,ok]
  by_cases c : -1000000000000000000<i<;>simp [c]
 |word z =>
  obtain ⟨rfl,hz⟩:=h
  obtain ⟨st1,e1,p1⟩:=Hm z hz st
  refine ⟨st1,?_,Hi p1⟩
  simp [iC,zB,qi,qh,zev,e,ty,TV,t8,t5,e1,ok]
 |row ts =>
  refine ⟨st,?_,Old.refl _⟩
  simp [iC,zB,qi,qh,zev,A0,AZ,e,ty,TY,tW,t9,TQ,wK,ok]
 |rec_ ks ts =>
  obtain ⟨n,xs,rfl,hn,nd,hl,hr,hk⟩:=h
  obtain ⟨r,aP,e1,k1,o1⟩:=T8 hn hk
  refine ⟨aP,?_,o1⟩
  have al:=sO k1
  simp only [iC,zB,qi,qh,zev,A0,AZ]
  simp [-Fp,e,ty,TZ,Hg,qv,ni,e1,al,ok,List.all_map]
theorem Hq:∀ts:List Tr,(ts.map ok).all id=oks ts
 |[]=>rfl
 |t::ts=>by simp [oks,<-Hq ts]
def Hr {st:aa}{t:Tr}{v:PV}(h:TR st t v) (hs:sz t<=10000):∃aP,m7 [v] st=.ok (.bl (decide (sz t<=60)&&okT t)) aP/\Old st aP:=by
 obtain ⟨r,ts,xs,st1,e1,e2,e3,e4,e5,e6,_⟩:=Bs h hs
 have hl:=e3.len
 by_cases hc:sz t<=60
 ·obtain ⟨r2,av,c1,c2,c3⟩:=T7 (fe:=zn iC (ze (zc 0) zh)) (env:=[some v,At r]) (n:=r) (xs:=xs) (bs:=ts.map ok) (by simp [hl]) xs.length 0 (lim+1) [] st1 (by omega) (jh _) (by show xs.length<1000000+1;omega) e2 (λj x b h1 h2 aP o=>by
   obtain ⟨t',q1,q2⟩:=e3.get h1
   simp [q1] at h2
   subst h2
   obtain ⟨bb,m1,m2⟩:=T9 (q2.mono o.dk)
   exact ⟨bb,by simp [m1],m2⟩)
  simp only [List.nil_append,List.drop_zero] at c2
  have al:=sO c2
  rw [Hq,e5] at al
  have cA:(xs.length:Int)<=60:=by omega
  have cc:yB (yA (zc 1)) (zn iC (ze (zc 0) zh)) [some v,At r] st1=.ok (.ref r2) av:=by
   simp only [yB,il,kh,List.getElem?_cons_succ,kF,zC,Qi,yr e2,bI]
   exact c1
  refine ⟨av,?_,e4.trans c3⟩
  simp only [m7,zB,A3,A2,yF,List.length_nil,jF,pj,xT,mQ,mP,ph,ye,List.map_nil]
  simp only [kh,List.cons_append,kF,zC,e1,xS,List.nil_append,List.replicate,List.set_cons_succ,List.set_cons_zero,sC,Et,xQ,mQ,mP,ph,List.getElem?_cons_succ,iA e2,Eo]
  have e7:j6 (.int xs.length) (.int 60) st1=.ok (.bl true) st1:=by simp [j6,cA]
  rw [e7]
  simp only [zC,sA,jF]
  rw [cc]
  simp [al,hc]
 ·refine ⟨st1,?_,e4⟩
  have cA:¬(xs.length:Int)<=60:=by omega
  simp [m7,zB,A3,A2,e1,iA e2,hc,cA]
def T_ {st:aa}{t:Tr}{v:PV}(h:TR st t v):wo [v] st=.ok (.int (own t)) st:=by
 have e:=Bp h
 cases t with
 |num i=>cases h;simp [wo,zB,qg,qf,e,kn,own];omega
 |word z=>obtain ⟨rfl,_⟩:=h;simp [wo,zB,qg,qf,tu,tq,e,kn,own]
 |row ts=>obtain ⟨xs,rfl,hr⟩:=h;simp [wo,zB,qg,qf,tu,tq,e,kn,own,hr.len]
 |rec_ ks ts=>obtain ⟨m,xs,rfl,hm,_⟩:=h;simp [wo,zB,qg,qf,tu,tq,e,kn,own]
def Hs (is:List Int):dO (is.map PV.int)=some is:=by
 induction is with
 |nil=>rfl
 |cons i r ih=>simp [dO,ih]
theorem Ht:∀ts:List Tr,(ts.map own).sum=df ts
 |[]=>rfl
 |t::ts=>by simp [df,Ht ts]
def qw (st:aa) (m:Al) (x:PV):PV:=match m [x] st with
 |.ok y _=>y
 |_=>.non
theorem Hu {st:aa}:∀{ts:List Tr}{xs:An},aW st ts xs->xs.map (qw st wo)=(ts.map own).map PV.int/\∀x∈xs,wo [x] st=.ok (qw st wo x) st
 |[],_,h=>by cases h;exact ⟨rfl,(λx hx=>nomatch hx)⟩
 |t::ts,_,h=>by
  obtain ⟨x,r,rfl,h1,h2⟩:=h
  obtain ⟨e1,e2⟩:=Hu h2
  have e:=T_ h1
  have q:qw st wo x=.int (own t):=by unfold qw;rw [e]
  refine ⟨by simp [q,e1],λy hy=>?_⟩
  rcases yE.mp hy with rfl|hy
  ·rw [q];exact e
  ·exact e2 y hy
def Ua {st:aa}{t:Tr}{v:PV}(h:TR st t v) (hs:sz t<=10000):∃aP,tD [v] st=.ok (.int (wt t)) aP/\Old st aP:=by
 obtain ⟨r,ts,xs,st1,e1,e2,e3,e4,_,e6,e5⟩:=Bs h hs
 obtain ⟨q1,q2⟩:=Hu e3
 have hl:=e3.len
 have c:=QQ (fe:=zn wo (ze (zc 0) zh)) (env:=[some v]) (f:=qw st1 wo) e2 (λx hx=>by simp [q2 x hx]) xs.length 0 (lim+1) [] (by omega) (jh _) (by show xs.length<1000000+1;omega)
 refine ⟨st1++[.lst ((ts.map own).map PV.int)],?_,e4.trans (zR _ _)⟩
 simp only [List.nil_append,List.drop_zero,q1] at c
 have ss:=Ht ts
 rw [e5] at ss
 simp only [tD,zB,GB]
 simp [e1,yr e2,bI]
 simp only [EA] at c
 rw [c]
 have im:=Hs (ts.map own)
 rw [List.map_map] at im
 simp [im,ss]
def Hv {st:aa}{t:Tr}{v:PV}(h:TR st t v) (hs:sz t<=10000):∃aP,qe [v] st=.ok (.int (sz t)) aP/\Old st aP:=by
 obtain ⟨r,ts,xs,st1,e1,e2,e3,e4,e5,e6,_⟩:=Bs h hs
 exact ⟨st1,by simp [qe,zB,Gw,e1,iA e2,<-e3.len,e6],e4⟩
def bj {α:Type}{l:List α}{k:Nat}{x:α}(h:l[k]?=some x):bY l (k:Int)=some x:=by
 obtain ⟨h1,h2⟩:=yu.mp h
 simp [bY,kM,h1,h2]
def wL {α:Type}(x:α) (r:List α):bY (x::r) 0=some x:=bj (k:=0) rfl
def gO {α:Type}(x y:α) (r:List α):bY (x::y::r) 1=some y:=bj (k:=1) rfl
def at2 {α:Type}(x y z:α) (r:List α):bY (x::y::z::r) 2=some z:=bj (k:=2) rfl
def fits:List Str->List Tr->Bool
 |k::ks,t::ts=>(k == "any" || k==kn t)&&fits ks ts
 |_,_=>true
abbrev Ub:Aj:=(zQ (j1 (mB (zj yM (zc 2) (As "any"))) (mB (zj yM (zc 2) (zn w8 (ze (zc 3) zh)))))
  jD
  zT)
theorem Hw {st:aa}(v0 v1:Ao):∀(ks:Ad) (ts:List Tr) (xs:An) (v2 v3:Ao),aW st ts xs->ks.length=ts.length->fits ks ts=true->∃t_ ua,forL (g2 2 3) Ub (wW (ks.map PV.str) xs) [v0,v1,v2,v3] st=.ok (.nx [v0,v1,t_,ua]) st
 |[],[],_,v2,v3,h,_,_=>⟨v2,v3,by cases h;simp [wW,forL]⟩
 |k::ks,t::ts,_,v2,v3,h,hl,hf=>by
  obtain ⟨x,r,rfl,h1,h2⟩:=h
  simp only [fits,y4] at hf
  obtain ⟨t_,ua,e⟩:=Hw v0 v1 ks ts r (some (.str k)) (some x) h2 (by simpa using hl) hf.2
  refine ⟨t_,ua,?_⟩
  have kx:=Bp h1
  simp only [wW] at e
  simp only [wW,ye,List.zip_cons_cons]
  unfold forL
  by_cases ha:k = "any"
  ·subst ha
   simp [e]
  ·have hk:k=kn t:=by
    rcases (Bool.or_eq_true _ _).mp hf.1 with q|q
    ·exact absurd (eq_of_beq q) ha
    ·exact eq_of_beq q
   have gA:(kn t==kn t)=true:=by simp
   subst hk
   simp [ha,kx,e]
def Hx {st:aa}{ks:Ad}{ts:List Tr}{xs:An}(h:aW st ts xs) (hl:ks.length=ts.length) (hf:fits ks ts=true):tG [.tup (ks.map PV.str),.tup xs] st=.ok .non st:=by
 obtain ⟨t_,ua,e⟩:=Hw (some (.tup (ks.map PV.str))) (some (.tup xs)) ks ts xs none none h hl hf
 simp only [tG,zB,GI]
 simp [e]
abbrev cD (w:Str) (k:Int):SO:=.ins "Op" ["word", "many"] [.str w,.int k]
def i3:insOf "Op" = true:=by simp [insOf]
structure dP (op:Str) (ks:Ad) (f:Str) (mt:Al):Prop where
 look:(zat.zip zau).lookup op=some (.tup [.tup (ks.map PV.str),.fn f])
 tab:qo f=some mt
 new:∀st,qr [.str op] st=.ok (.ref st.length) (st++[cD op ks.length])
section
variable {op f:Str} {ks:Ad} {mt:Al} {ts:List Tr} {xs:An}
def Uc (h:dP op ks f mt) {st st1:aa} {o:Nat} {k:Int} {w:Str} (ho:st[o]?=some (cD op k)) (hr:aW st ts xs) (hl:ks.length=ts.length) (hf:fits ks ts=true) (hm:mt [.tup xs] st=.err "Fault" ["word"] [.str w] st1):m_Op_answer [.ref o,.tup xs] st=.err "Fault" ["word"] [.str w] st1:=by
 have hc:=Hx hr hl hf
 generalize hK:PV.tup (ks.map PV.str)=K1 at hc
 have lk:=h.look
 rw [hK] at lk
 simp [m_Op_answer,zB,Bc,Bb,Ba,xV ho,i3,jR,lk,h.tab,wL,gO,hc,hm]
def Ud (h:dP op ks f mt) {st st1:aa}{o:Nat}{k:Int}{t:Tr}{v:PV}(ho:st[o]?=some (cD op k)) (hr:aW st ts xs) (hl:ks.length=ts.length) (hf:fits ks ts=true) (hm:mt [.tup xs] st=.ok v st1) (hv:TR st1 t v) (hs:sz t<=60) :
  ∃av,Old st1 av/\m_Op_answer [.ref o,.tup xs] st=.ok v av:=by
 have hc:=Hx hr hl hf
 generalize hK:PV.tup (ks.map PV.str)=K1 at hc
 have lk:=h.look
 rw [hK] at lk
 obtain ⟨av,hp,o2⟩:=Hv hv (by omega)
 refine ⟨av,o2,?_⟩
 have:¬(60:Int)<sz t:=by omega
 simp [m_Op_answer,zB,Bc,Bb,Ba,GV,GU,xV ho,i3,jR,lk,h.tab,wL,gO,hc,hm,hp,hs]
 omega
def Hy {st:aa} {o:Nat} {k:Int} (ho:st[o]?=some (cD op k)):∀k:Nat->(Al)->Res PV,dq "answer" qp (.ref o) st k=k o m_Op_answer:=Qk ho (by simp) (by simp [qp])
def Bt (h:dP op ks f mt) {st st1:aa} {w:Str} (hr:aW st ts xs) (hl:ks.length=ts.length) (hf:fits ks ts=true) (hw:("fault " : Str).length+w.length<=1000000) (hm:mt [.tup xs] (st++[cD op ks.length])=.err "Fault" ["word"] [.str w] st1):yG [.str op,.tup xs] st=.ok (.str (("fault " : Str)++w)) st1:=by
 have ho:=yi st (cD op ks.length)
 have ha:=Uc h ho (hr.mono (tT _ _)) hl hf hm
 simp [yG,zB,Bg,Bf,Be,h.new,Hy ho,ha,excOf,jR,hw]
def nj (h:dP op ks f mt) {st st1:aa}{t:Tr}{v:PV}(hr:aW st ts xs) (hl:ks.length=ts.length) (hf:fits ks ts=true) (hm:mt [.tup xs] (st++[cD op ks.length])=.ok v st1) (hv:TR st1 t v) (hs:sz t<=60):∃av,yG [.str op,.tup xs] st=.ok v av/\Old st1 av:=by
 have ho:=yi st (cD op ks.length)
 obtain ⟨av,o2,ha⟩:=Ud h ho (hr.mono (tT _ _)) hl hf hm hv hs
 refine ⟨av,?_,o2⟩
 simp [yG,zB,Bg,Bf,Be,h.new,Hy ho,ha]
end
def Ue {op f:Str}{ks:Ad}(h:(zat.zip zau).lookup op=some (.tup [.tup (ks.map PV.str),.fn f])) (st:aa):qr [.str op] st=.ok (.ref st.length) (st++[cD op ks.length]):=by
 simp [qr,zB,GZ,GY,pe,h,fS,Bd,GX,GW,yJ,insOf,Mi.putK,wL]
def g6 {op f:Str}{ks:Ad}{mt:Al}(h:(zat.zip zau).lookup op=some (.tup [.tup (ks.map PV.str),.fn f])) (h':qo f=some mt):dP op ks f mt:=⟨h,h',Ue h⟩
def Ug:dP "same" ["any", "any"] "tell_same" tH:=g6 rfl rfl
def Uh:dP "many" ["row"] "tell_many" tI:=g6 rfl rfl
def Hz:dP "item" ["row", "number"] "tell_item" qj:=g6 rfl rfl
def HA:dP "put" ["row", "number", "any"] "tell_put" qk:=g6 rfl rfl
def HB:dP "field" ["record", "word"] "tell_field" ql:=g6 rfl rfl
def Ui:dP "set" ["record", "word", "any"] "tell_set" qm:=g6 rfl rfl
def ub {xs:An} {i:Int} {st:aa}:lL [.tup xs,.int i] st=if 0<=i/\i<xs.length then .ok (.int i) st else .err "Fault" ["word"] [.str "place"] st:=by
 by_cases h0:0<=i
 ·by_cases h1:i<xs.length
  ·rw [zp ⟨h0,h1⟩];simp [lL,zB,tJ,GN,h0,h1]
  ·rw [zD (λz=>h1 z.2)];simp [lL,zB,tJ,h0,h1]
 ·rw [zD (λz=>h0 z.1)];simp [lL,zB,tJ,h0]
def HC {l:An}{m:Nat}(h:m<=l.length):bS l none (some (m:Int))=l.take m:=by
 have:¬((m:Int)<0):=by omega
 simp [bS,HT.sIx,this]
def HD {l:An}{m:Nat}(h:m<=l.length):bS l (some (m:Int)) none=l.drop m:=by
 have:¬((m:Int)<0):=by omega
 simp [bS,HT.sIx,this]
 rw [Nat.min_eq_left h,List.take_of_length_le (by simp)]
def HE {st:aa}{n:Nat}{ks:Ad}{xs:An}(hn:st[n]?=some (.dic ks xs)) (w:Str):zJ (.ref n) (.str w) st=cw ((ks.zip xs).lookup w) st:=by
 simp only [zJ,EI,wZ hn]
def Uj {st:aa}{n:Nat}{ks:Ad}{xs:An}(hn:st[n]?=some (.dic ks xs)) (hl:ks.length<=1000) (z:Str) (x:PV):wm (.str z) x (.ref n) st=.ok () (st.set n (.dic (wY z x ks xs).1 (wY z x ks xs).2)):=by
 simp only [wm,wZ hn]
 rw [zp (by show ks.length<1000000;omega)]
@[simp] def Uk {fo fi fv:Ai}{env:zd}{st:aa}:jp fo fi fv env st=(fv env st).bind λx st1=>(fo env st1).bind λo av=>(fi env av).bind λz bb=>(wm z x o bb).bind λ_ ie=>.ok (.nx env) ie:=(rfl)
def HF:("fault " : Str)++("place" : Str)=("fault place" : Str):=by decide +kernel
def Ul:("fault " : Str)++("field" : Str)=("fault field" : Str):=by decide +kernel
def HG:("fault " : Str).length+("place" : Str).length<=1000000:=by decide +kernel
def Um:("fault " : Str).length+("field" : Str).length<=1000000:=by decide +kernel
abbrev nr (ns:List Int):Tr:=.row (ns.map Tr.num)
theorem HH (st:aa):∀ns:List Int,aW st (ns.map Tr.num) (ns.map PV.int)
 |[]=>rfl
 |n::ns=>⟨_,_,rfl,rfl,HH st ns⟩
def nu (st:aa) (ns:List Int):TR st (nr ns) (.tup (ns.map PV.int)):=⟨_,rfl,HH st ns⟩
theorem HI:∀ns:List Int,aQ (ns.map Tr.num)=ns.length
 |[]=>rfl
 |n::ns=>by simp only [ye,aQ,sz,HI ns,yF];omega
def Uo {st:aa} {ns:List Int} {i:Nat} {n:Int} (hn:ns[i]?=some n):∃s1,yG [.str "item", .tup [.tup (ns.map PV.int),.int (i:Int)]] st=.ok (.int n) s1/\Old st s1:=by
 have tr:aW st [nr ns,.num i] [.tup (ns.map PV.int),.int i]:=⟨_,_,rfl,nu st ns,_,_,rfl,rfl,rfl⟩
 have hi:=(yu.mp hn).1
 have eI:(0:Int)<=(i:Int)/\(i:Int)<(ns.map PV.int).length:=by simp;omega
 obtain ⟨s1,e,o⟩:=nj Hz tr rfl (by simp [fits,kn]) (st1:=st++[cD "item" 2]) (v:=.int n) (t:=.num n) (by
  have g:bY (ns.map PV.int) (i:Int)=some (.int n):=bj (by rw [yP,hn];rfl)
  have pl:=ub (xs:=ns.map PV.int) (i:=(i:Int)) (st:=st++[cD "item" 2])
  rw [zp eI] at pl
  generalize ns.map PV.int=xs at pl g
  simp [qj,zB,A6,A5,wL,gO,pl,g]) rfl (by simp [sz])
 exact ⟨s1,e,(zR _ _).trans o⟩
def Up {st:aa} {ns:List Int}:∃s1,yG [.str "item", .tup [.tup (ns.map PV.int),.int (ns.length:Int)]] st=.ok (.str "fault place") s1/\Old st s1:=by
 have tr:aW st [nr ns,.num ns.length] [.tup (ns.map PV.int),.int ns.length]:=⟨_,_,rfl,nu st ns,_,_,rfl,rfl,rfl⟩
 have eI:¬((0:Int)<=(ns.length:Int)/\(ns.length:Int)<(ns.map PV.int).length):=by simp
 have e:=Bt Hz tr rfl (by simp [fits,kn]) HG (st1:=st++[cD "item" 2]) (by
  have pl:=ub (xs:=ns.map PV.int) (i:=(ns.length:Int)) (st:=st++[cD "item" 2])
  rw [zD eI] at pl
  generalize ns.map PV.int=xs at pl
  simp [qj,zB,A6,A5,wL,gO,pl])
 rw [HF] at e
 exact ⟨_,e,zR _ _⟩
abbrev lM (ns:List Int) (i:Nat) (n:Int):List Int:=ns.take i++[n]++ns.drop (i+1)
def HJ {xs:An}{i:Nat}(x:PV) (st:aa) (hi:i<xs.length) (hl:xs.length<=1000):wU (.tup xs) none (some (i:Int)) st=.ok (.tup (xs.take i)) st/\wU (.tup xs) (some ((i:Int)+1)) none st=.ok (.tup (xs.drop (i+1))) st/\zM (.tup (xs.take i)) (.tup [x]) st=.ok (.tup (xs.take i++[x])) st/\zM (.tup (xs.take i++[x])) (.tup (xs.drop (i+1))) st=.ok (.tup (xs.take i++[x]++xs.drop (i+1))) st:=by
 have c1:=HC (l:=xs) (m:=i) (by omega)
 have c2:=HD (l:=xs) (m:=i+1) (by omega)
 rw [show ((i+1:Nat):Int)=(i:Int)+1 from rfl] at c2
 refine ⟨by rw [xR,c1],by rw [xR,c2],?_,?_⟩
 ·show (if (xs.take i).length+1<=lim then _ else _)=_
  rw [zp (by show _<=1000000;simp;omega)]
 ·show (if (xs.take i++[x]).length+(xs.drop (i+1)).length<=lim then _ else _)=_
  rw [zp (by show _<=1000000;simp;omega)]
def HK (ns:List Int) (i:Nat) (n:Int):(ns.map PV.int).take i++[PV.int n]++(ns.map PV.int).drop (i+1)=(lM ns i n).map PV.int:=by simp [lM,List.map_take,List.map_drop]
def Uq {st:aa} {ns:List Int} {i:Nat} (n:Int) (hi:i<ns.length) (hl:ns.length<=50):∃s1,yG [.str "put", .tup [.tup (ns.map PV.int),.int (i:Int),.int n]] st=.ok (.tup ((lM ns i n).map PV.int)) s1/\Old st s1:=by
 have tr:aW st [nr ns,.num i,.num n] [.tup (ns.map PV.int),.int i,.int n]:=⟨_,_,rfl,nu st ns,_,_,rfl,rfl,_,_,rfl,rfl,rfl⟩
 have eI:(0:Int)<=(i:Int)/\(i:Int)<(ns.map PV.int).length:=by simp;omega
 obtain ⟨s1,e,o⟩:=nj HA tr rfl (by simp [fits,kn]) (st1:=st++[cD "put" 3]) (v:=.tup ((lM ns i n).map PV.int)) (t:=nr (lM ns i n)) (by
  have pl:=ub (xs:=ns.map PV.int) (i:=(i:Int)) (st:=st++[cD "put" 3])
  rw [zp eI] at pl
  obtain ⟨c1,c2,a1,a2⟩:=HJ (xs:=ns.map PV.int) (i:=i) (.int n) (st++[cD "put" 3]) (by simpa using hi) (by simp;omega)
  rw [HK] at a2
  generalize (lM ns i n).map PV.int=r at a2 ⊢
  generalize (ns.map PV.int).take i++[PV.int n]=q at a1 a2
  generalize (ns.map PV.int).take i=q0 at a1 c1
  generalize (ns.map PV.int).drop (i+1)=q1 at a2 c2
  generalize ns.map PV.int=xs at pl c1 c2 ⊢
  simp only [qk,zB,A8,A7,GO]
  simp [-xR,wL,gO,at2,pl,c1,c2,-Qe,a1,a2]) (nu _ _) (by
   simp only [sz,HI]
   simp [lM]
   omega)
 exact ⟨s1,e,(zR _ _).trans o⟩
def Ur {st:aa} {ns:List Int} (n:Int):∃s1,yG [.str "put", .tup [.tup (ns.map PV.int),.int (ns.length:Int),.int n]] st=.ok (.str "fault place") s1/\Old st s1:=by
 have tr:aW st [nr ns,.num ns.length,.num n] [.tup (ns.map PV.int),.int ns.length,.int n]:=⟨_,_,rfl,nu st ns,_,_,rfl,rfl,_,_,rfl,rfl,rfl⟩
 have eI:¬((0:Int)<=(ns.length:Int)/\(ns.length:Int)<(ns.map PV.int).length):=by simp
 have e:=Bt HA tr rfl (by simp [fits,kn]) HG (st1:=st++[cD "put" 3]) (by
  have pl:=ub (xs:=ns.map PV.int) (i:=(ns.length:Int)) (st:=st++[cD "put" 3])
  rw [zD eI] at pl
  generalize ns.map PV.int=xs at pl
  simp [qk,zB,A8,A7,wL,gO,pl])
 rw [HF] at e
 exact ⟨_,e,zR _ _⟩
def Us {st:aa} {ns:List Int}:∃s1,yG [.str "many", .tup [.tup (ns.map PV.int)]] st=.ok (.int ns.length) s1/\Old st s1:=by
 have tr:aW st [nr ns] [.tup (ns.map PV.int)]:=⟨_,_,rfl,nu st ns,rfl⟩
 obtain ⟨s1,e,o⟩:=nj Uh tr rfl (by simp [fits,kn]) (st1:=st++[cD "many" 1]) (v:=.int ns.length) (t:=.num ns.length) (by
  have l:(ns.map PV.int).length=ns.length:=by simp
  rw [<-l]
  generalize ns.map PV.int=xs
  simp [tI,zB,GL,wL]) rfl (by simp [sz])
 exact ⟨s1,e,(zR _ _).trans o⟩
def pv:Tr->PV
 |.num i=>.int i
 |.word z=>.str z
 |.row [.num n]=>.tup [.int n]
 |.row [.word z]=>.tup [.str z]
 |_=>.tup []
def Sv (t:Tr):Prop:=(∃i,t=.num i /\ -1000000000000000000<i/\i<1000000000000000000)\/(∃z,t=.word z/\bg z=true)\/t=.row []\/(∃i,t=.row [.num i] /\ -1000000000000000000<i/\i<1000000000000000000)\/∃z,t=.row [.word z]/\bg z=true
def jK {z:Str}(h:bg z=true):1<=z.length/\z.length<=8:=by
 simp only [bg,y4,jH] at h;exact h.1
def Sv.tr {t:Tr}(h:Sv t) (st:aa):TR st t (pv t):=by
 rcases h with ⟨i,rfl,_⟩|⟨z,rfl,hz⟩|rfl|⟨i,rfl,_⟩|⟨z,rfl,hz⟩
 ·rfl
 ·exact ⟨rfl,by have:=jK hz;omega⟩
 ·exact ⟨[],rfl,rfl⟩
 ·exact ⟨[.int i],rfl,_,_,rfl,rfl,rfl⟩
 ·exact ⟨[.str z],rfl,_,_,rfl,⟨rfl,by have:=jK hz;omega⟩,rfl⟩
def Sv.back {t:Tr}(h:Sv t) {st:aa}{v:PV}(e:TR st t v):v=pv t:=by
 rcases h with ⟨i,rfl,_⟩|⟨z,rfl,hz⟩|rfl|⟨i,rfl,_⟩|⟨z,rfl,hz⟩
 ·exact e
 ·exact e.1
 ·obtain ⟨xs,rfl,q⟩:=e;cases q;rfl
 ·obtain ⟨xs,rfl,x,r,rfl,q1,q2⟩:=e;cases q1;cases q2;rfl
 ·obtain ⟨xs,rfl,x,r,rfl,q1,q2⟩:=e;cases q1.1;cases q2;rfl
theorem Sv.sz {t:Tr}(h:Sv t):FK28.sz t<=2:=by
 rcases h with ⟨i,rfl,_⟩|⟨z,rfl,hz⟩|rfl|⟨i,rfl,_⟩|⟨z,rfl,hz⟩<;>simp [FK28.sz,aQ]
theorem Sv.okT {t:Tr}(h:Sv t):FK28.okT t=true:=by
 rcases h with ⟨i,rfl,h1,h2⟩|⟨z,rfl,hz⟩|rfl|⟨i,rfl,h1,h2⟩|⟨z,rfl,hz⟩
 ·simp [FK28.okT,ok,h1,h2]
 ·simp [FK28.okT,ok,hz]
 ·simp [FK28.okT,ok,okTs]
 ·simp [FK28.okT,ok,okTs,h1,h2]
 ·simp [FK28.okT,ok,okTs,hz]
def ev (st:aa) (n:Nat) {t u:Tr}(ht:Sv t) (hu:Sv u):(t=u->eqT st (n+3) (pv t) (pv u)=some true)/\(t≠u->eqT st (n+3) (pv t) (pv u)=some false):=by
 rcases ht with ⟨i,rfl,_⟩|⟨z,rfl,_⟩|rfl|⟨i,rfl,_⟩|⟨z,rfl,_⟩<;>rcases hu with ⟨j,rfl,_⟩|⟨y,rfl,_⟩|rfl|⟨j,rfl,_⟩|⟨y,rfl,_⟩<;>simp [pv,eqT,dZ,sJ,eA]
abbrev mp (ks:Ad) (f:Str->Tr):An:=ks.map λk=>pv (f k)
def Rc (st:aa) (n:Nat) (ks:Ad) (f:Str->Tr):Prop:=st[n]?=some (.dic ks (mp ks f))
def Rc.old {a b:aa}{n:Nat}{ks:Ad}{f:Str->Tr}(h:Rc a n ks f) (o:Old a b):Rc b n ks f:=o _ _ h
theorem iF {k:Str}{α:Type}{f:Str->α}:∀{ks:Ad},k∈ks->(ks.zip (ks.map f)).lookup k=some (f k)
 |z::ks,h=>by
  rw [ye,List.zip_cons_cons,jR]
  by_cases e:k=z
  ·subst e;simp
  ·rw [show (k==z)=false by simpa using e]
   exact iF (by simpa [e] using h)
section
variable {F:PV->PV->Option Bool} {ls:Ad} {f g:Str->Tr}
theorem HL (hF:∀k∈ls,∀u,Sv u->∃b,F (pv u) (pv (g k))=some b):∀ks:Ad,(∀k∈ks,Sv (f k))->∃c,cf F ls (mp ls g) ks (mp ks f)=some c
 |[],_=>⟨true,rfl⟩
 |k::ks,h=>by
  obtain ⟨c,e⟩:=HL hF ks λk hk=>h k (yz _ hk)
  simp only [mp,ye,cf]
  by_cases hk:k∈ls
  ·rw [iF (f:=λk=>pv (g k)) hk]
   obtain ⟨b,eb⟩:=hF k hk _ (h k (yj ..))
   exact ⟨b&&c,by simp only [eb,e]⟩
  ·rw [Mi.za5 hk];exact ⟨false,rfl⟩
theorem HM:∀ks:Ad,(∀k∈ks,k∈ls/\F (pv (f k)) (pv (g k))=some true)->cf F ls (mp ls g) ks (mp ks f)=some true
 |[],_=>rfl
 |k::ks,h=>by
  have e:=HM ks λk hk=>h k (yz _ hk)
  obtain ⟨h1,h2⟩:=h k (yj ..)
  simp only [mp,ye,cf]
  rw [iF (f:=λk=>pv (g k)) h1]
  simp only [h2,e]
  rfl
theorem HN (hF:∀k∈ls,∀u,Sv u->∃b,F (pv u) (pv (g k))=some b):∀ks:Ad,(∀k∈ks,Sv (f k))->(∃k∈ks,k∉ls\/F (pv (f k)) (pv (g k))=some false)->cf F ls (mp ls g) ks (mp ks f)=some false
 |[],_,h=>by obtain ⟨k,hk,_⟩:=h;cases hk
 |k::ks,hs,h=>by
  have sP:∀k∈ks,Sv (f k):=λk hk=>hs k (yz _ hk)
  obtain ⟨c,e⟩:=HL hF ks sP
  simp only [mp,ye,cf]
  by_cases hk:k∈ls
  ·rw [iF (f:=λk=>pv (g k)) hk]
   obtain ⟨b,eb⟩:=hF k hk _ (hs k (yj ..))
   obtain ⟨k',gA,q⟩:=h
   rcases yE.mp gA with rfl|gA
   ·rcases q with q|q
    ·exact absurd hk q
    ·simp only [q,e];rfl
   ·have:=HN hF ks sP ⟨k',gA,q⟩
    simp only [eb,this,Bool.and_false]
  ·rw [Mi.za5 hk]
end
section
variable {st:aa} {n m:Nat} {ks ls:Ad} {f g:Str->Tr}
def Bu (k:Nat) (h1:Rc st n ks f) (h2:Rc st m ls g) (nd:ks.Nodup) (hl:ks.length=ls.length) (h:∀k∈ks,k∈ls/\f k=g k) (sv:∀k∈ks,Sv (f k)):cT (eqT st (k+3)) st[n]? st[m]?=some true:=by
 rw [show st[n]?=_ from h1,show st[m]?=_ from h2]
 unfold cT
 dsimp only
 rw [zp ⟨nd,by simp⟩,zp hl]
 exact HM ks λz hz=>⟨(h z hz).1,(ev st k (sv z hz) (by rw [<-(h z hz).2];exact sv z hz)).1 (h z hz).2⟩
def Ut (k:Nat) (h1:Rc st n ks f) (h2:Rc st m ls g) (nd:ks.Nodup) (h:ks.length=ls.length->∃k∈ks,k∉ls\/f k≠g k) (sv:∀k∈ks,Sv (f k)) (uc:∀k∈ls,Sv (g k)):cT (eqT st (k+3)) st[n]? st[m]?=some false:=by
 rw [show st[n]?=_ from h1,show st[m]?=_ from h2]
 unfold cT
 dsimp only
 rw [zp ⟨nd,by simp⟩]
 by_cases hl:ks.length=ls.length
 ·rw [zp hl]
  refine HN (λz hz u hu=>?_) ks sv ?_
  ·have:=ev st k hu (uc z hz)
   by_cases e:u=g z
   ·exact ⟨_,this.1 e⟩
   ·exact ⟨_,this.2 e⟩
  ·obtain ⟨z,hz,q⟩:=h hl
   refine ⟨z,hz,?_⟩
   by_cases hzl:z∈ls
   ·rcases q with q|q
    ·exact .inl q
    ·exact .inr ((ev st k (sv z hz) (uc z hzl)).2 q)
   ·exact .inl hzl
 ·rw [zD hl]
def HP (h1:Rc st n ks f) (h2:Rc st m ls g) (nd:ks.Nodup) (hl:ks.length=ls.length) (h:∀k∈ks,k∈ls/\f k=g k) (sv:∀k∈ks,Sv (f k)):eqT st 150 (.ref n) (.ref m)=some true:=Bu 146 h1 h2 nd hl h sv
def ud (h1:Rc st n ks f) (h2:Rc st m ls g) (nd:ks.Nodup) (h:ks.length=ls.length->∃k∈ks,k∉ls\/f k≠g k) (sv:∀k∈ks,Sv (f k)) (uc:∀k∈ls,Sv (g k)):eqT st 150 (.ref n) (.ref m)=some false:=Ut 146 h1 h2 nd h sv uc
theorem ue (st:aa):∀ks:Ad,(∀k∈ks,Sv (f k))->aW st (ks.map f) (mp ks f)
 |[],_=>rfl
 |k::ks,h=>⟨_,_,rfl,(h k (yj ..)).tr st,ue st ks λz hz=>h z (yz _ hz)⟩
structure Good (ks:Ad) (f:Str->Tr):Prop where
 nd:ks.Nodup
 len:∀k∈ks,k.length<=1000
 sv:∀k∈ks,Sv (f k)
 sz:aQ (ks.map f)<=59
def Rc.tr (h:Rc st n ks f) (g:Good ks f):TR st (.rec_ ks (ks.map f)) (.ref n):=⟨n,_,rfl,h,g.nd,by simp,ue st ks g.sv,g.len⟩
def HQ (h:Rc st n ks f) (z:Str) (b:Bool):yS b (.str z) (.ref n) st=.ok (.bl (b.xor (decide (z∈ks)))) st:=by
 have e:((ks.zip (mp ks f)).lookup z).isSome=decide (z∈ks):=by
  by_cases hz:z∈ks
  ·rw [iF (f:=λk=>pv (f k)) hz];simp [hz]
  ·rw [Mi.za5 hz];simp [hz]
 simp only [yS,show st[n]?=_ from h,e]
def nv (h:Rc st n ks f) {z:Str}(hz:z∈ks):zJ (.ref n) (.str z) st=.ok (pv (f z)) st:=by
 rw [HE h,iF (f:=λk=>pv (f k)) hz]
 rfl
def Uu (h:Rc st n ks f) (g:Good ks f) {z:Str} (hz:z∈ks):∃s1,yG [.str "field", .tup [.ref n,.str z]] st=.ok (pv (f z)) s1/\Old st s1:=by
 have tr:aW st [.rec_ ks (ks.map f),.word z] [.ref n,.str z]:=⟨_,_,rfl,h.tr g,_,_,rfl,⟨rfl,g.len z hz⟩,rfl⟩
 have h':=h.old (zR st [cD "field" 2])
 have e1:=HQ h' z true
 have e2:=nv h' hz
 have hs:=(g.sv z hz).sz
 obtain ⟨s1,e,o⟩:=nj HB tr rfl (by simp [fits,kn]) (st1:=st++[cD "field" 2]) (v:=pv (f z)) (t:=f z) (by simp [ql,zB,A_,A9,GP,wL,gO,e1,e2,hz]) ((g.sv z hz).tr _) (by omega)
 exact ⟨s1,e,(zR _ _).trans o⟩
def Uv (h:Rc st n ks f) (g:Good ks f) {z:Str} (hz:z∉ks) (hl:z.length<=1000):∃s1,yG [.str "field", .tup [.ref n,.str z]] st=.ok (.str "fault field") s1/\Old st s1:=by
 have tr:aW st [.rec_ ks (ks.map f),.word z] [.ref n,.str z]:=⟨_,_,rfl,h.tr g,_,_,rfl,⟨rfl,hl⟩,rfl⟩
 have e1:=HQ (h.old (zR st [cD "field" 2])) z true
 have e:=Bt HB tr rfl (by simp [fits,kn]) Um (st1:=st++[cD "field" 2]) (by simp [ql,zB,A_,A9,wL,gO,e1,hz])
 rw [Ul] at e
 exact ⟨_,e,zR _ _⟩
def uf (h1:TR st (.rec_ ks (ks.map f)) (.ref n)) (h2:TR st (.rec_ ls (ls.map g)) (.ref m)) {b:Bool} (he:∀s,Old st s->eqT s 150 (.ref n) (.ref m)=some b):∃s1,yG [.str "same", .tup [.ref n,.ref m]] st=.ok (.int (if b then 1 else 0)) s1/\Old st s1:=by
 have tr:aW st [.rec_ ks (ks.map f),.rec_ ls (ls.map g)] [.ref n,.ref m]:=⟨_,_,rfl,h1,_,_,rfl,h2,rfl⟩
 have e1:=he _ (zR st [cD "same" 2])
 have e2:jJ (.ref n) (.ref m) (st++[cD "same" 2])=.ok (.bl b) (st++[cD "same" 2]):=by unfold jJ;rw [e1]
 obtain ⟨s1,e,o⟩:=nj Ug tr rfl (by simp [fits,kn]) (st1:=st++[cD "same" 2]) (v:=.int (if b then 1 else 0)) (t:=.num (if b then 1 else 0)) (by
  cases b<;>simp [tH,zB,GK,wL,gO,e2,A4,GJ]) rfl (by simp [sz])
 exact ⟨s1,e,(zR _ _).trans o⟩
def up (f:Str->Tr) (z:Str) (t:Tr):Str->Tr:=λk=>if k=z then t else f k
def pK (z:Str) (ks:Ad):Ad:=if ks.contains z=true then ks else ks++[z]
theorem HR (z:Str) (t:Tr):∀ks:Ad,repl z (pv t) ks (mp ks f)=mp ks (up f z t)
 |[]=>rfl
 |k::ks=>by
  have ih:=HR z t ks
  simp only [mp] at ih
  simp only [mp,ye,repl,ih,up]
  by_cases h:k=z<;>simp [h]
def Uw {z:Str}{t:Tr}(h:z∉ks):mp ks (up f z t)=mp ks f:=List.map_congr_left λk hk=>by unfold up;rw [zD (λ(e:k=z)=>h (by rw [<-e];exact hk))]
def HS (z:Str) (t:Tr):wY z (pv t) ks (mp ks f)=(pK z ks,mp (pK z ks) (up f z t)):=by
 unfold wY pK
 split
 ·rw [HR]
 ·rename_i h
  have hz:z∉ks:=λq=>h (by simpa using q)
  rw [<-Uw (f:=f) (t:=t) hz]
  simp [mp,up]
def kA (h:Rc st n ks f) (hl:ks.length<=1000) (z:Str) (t:Tr):∃s1,wm (.str z) (pv t) (.ref n) st=.ok () s1/\s1=st.set n (.dic (pK z ks) (mp (pK z ks) (up f z t)))/\Rc s1 n (pK z ks) (up f z t):=by
 refine ⟨_,Uj h hl z (pv t),?_,?_⟩
 ·rw [HS]
 ·rw [HS]
  exact jf (yu.mp h).1
def qx {z:Str}(h:z∈ks):pK z ks=ks:=by unfold pK;rw [zp (by simpa using h)]
def nA {z:Str}(h:z∉ks):pK z ks=ks++[z]:=by unfold pK;rw [zD (by simpa using h)]
def Ux (h:Rc st n ks f) (kl:ks.length<=1000) (z:Str) (i:Int):∃s2,qm [.tup [.ref n,.str z,.int i]] st=.ok (.ref st.length) s2/\Old st s2/\Rc s2 st.length (pK z ks) (up f z (.num i)):=by
 have hc:Rc (st++[SO.dic ks (mp ks f)]) st.length ks f:=yi _ _
 obtain ⟨s2,e2,se,r2⟩:=kA hc kl z (.num i)
 have Uy:s2=st++[.dic (pK z ks) (mp (pK z ks) (up f z (.num i)))]:=by rw [se];simp
 refine ⟨s2,?_,by rw [Uy];exact zR _ _,r2⟩
 have wd:∀k:List Str->List PV->Res PV,yR st n k=k ks (mp ks f):=wZ h
 have mx:wm (.str z) (.int i) (.ref st.length) (st++[SO.dic ks (mp ks f)])=.ok () s2:=e2
 generalize mp ks f=ms at wd mx
 simp [qm,zB,GS,GR,GQ,wL,gO,at2,kj,wd,mx]
def HU (h:Rc st n ks f) (g:Good ks f) {z:Str} {i:Int} (hz:z.length<=1000) (G:Good (pK z ks) (up f z (.num i))):∃r s1,yG [.str "set", .tup [.ref n,.str z,.int i]] st=.ok (.ref r) s1/\Old st s1/\Rc s1 r (pK z ks) (up f z (.num i)):=by
 have tr:aW st [.rec_ ks (ks.map f),.word z,.num i] [.ref n,.str z,.int i]:=⟨_,_,rfl,h.tr g,_,_,rfl,⟨rfl,hz⟩,_,_,rfl,rfl,rfl⟩
 have kl:ks.length<=1000:=by have:=iE (ks.map f);have:=g.sz;simp at *;omega
 obtain ⟨s2,e2,o2,r2⟩:=Ux (h.old (zR st [cD "set" 3])) kl z i
 obtain ⟨s1,e,o⟩:=nj Ui tr rfl (by simp [fits,kn]) (t:=.rec_ (pK z ks) ((pK z ks).map (up f z (.num i)))) e2 (r2.tr G) (by have:=G.sz;simp only [sz];omega)
 exact ⟨_,s1,e,((zR _ _).trans o2).trans o,r2.old o⟩
end
mutual
theorem TR.one {st:aa}:∀(t t':Tr) {v:PV},TR st t v->TR st t' v->t=t'
 |.num i,t',v,h,h'=>by
  cases h
  cases t' with
  |num j=>cases h';rfl
  |word z=>obtain ⟨e,_⟩:=h';cases e
  |row ts=>obtain ⟨_,e,_⟩:=h';cases e
  |rec_ ks ts=>obtain ⟨_,_,e,_⟩:=h';cases e
 |.word z,t',v,h,h'=>by
  obtain ⟨rfl,_⟩:=h
  cases t' with
  |num j=>cases h'
  |word z=>obtain ⟨e,_⟩:=h';cases e;rfl
  |row ts=>obtain ⟨_,e,_⟩:=h';cases e
  |rec_ ks ts=>obtain ⟨_,_,e,_⟩:=h';cases e
 |.row ts,t',v,h,h'=>by
  obtain ⟨xs,rfl,r⟩:=h
  cases t' with
  |num j=>cases h'
  |word z=>obtain ⟨e,_⟩:=h';cases e
  |row us=>obtain ⟨_,e,r'⟩:=h';cases e;rw [aW.one ts us r r']
  |rec_ ks ts=>obtain ⟨_,_,e,_⟩:=h';cases e
 |.rec_ ks ts,t',v,h,h'=>by
  obtain ⟨n,xs,rfl,g,_,_,r,_⟩:=h
  cases t' with
  |num j=>cases h'
  |word z=>obtain ⟨e,_⟩:=h';cases e
  |row us=>obtain ⟨_,e,r'⟩:=h';cases e
  |rec_ cg us =>
   obtain ⟨_,_,e,g',_,_,r',_⟩:=h'
   cases e
   rw [g] at g'
   cases g'
   rw [aW.one ts us r r']
theorem aW.one {st:aa}:∀(ts us:List Tr) {xs:An},aW st ts xs->aW st us xs->ts=us
 |[],us,xs,h,h'=>by
  cases h
  cases us with
  |nil=>rfl
  |cons=>obtain ⟨_,_,e,_⟩:=h';cases e
 |t::ts,us,xs,h,h'=>by
  obtain ⟨x,r,rfl,h1,h2⟩:=h
  cases us with
  |nil=>cases h'
  |cons u us =>
   obtain ⟨_,_,e,g1,g2⟩:=h'
   cases e
   rw [TR.one t u h1 g1,aW.one ts us h2 g2]
end
theorem HV {g:PV->zd->Option zd}{body:Aj}(I:Nat->zd->aa->Prop) (n:Nat) (hb:∀i e st,i<n->I i e st->∃e1 e2 av,g (.int i) e=some e1/\body e1 st=.ok (.nx e2) av/\I (i+1) e2 av) :
  ∀(k i:Nat) (env:zd) (st:aa),i+k=n->I i env st->∃bT aP,forL g body ((List.range' i k).map λi:Nat=>PV.int i) env st=.ok (.nx bT) aP/\I n bT aP
 |0,i,env,st,hk,h=>⟨env,st,by simp,by rw [<-hk];exact h⟩
 |k+1,i,env,st,hk,h=>by
  obtain ⟨e1,e2,av,q1,q2,q3⟩:=hb i env st (by omega) h
  obtain ⟨bT,aP,r1,r2⟩:=HV I n hb k (i+1) e2 av (by omega) q3
  refine ⟨bT,aP,?_,r2⟩
  rw [List.range'_succ,ye]
  unfold forL
  rw [q1]
  simp only
  rw [q2]
  simp only [zC]
  exact r1
def Uz (m:Nat) (st:aa) (h:m<=1000):lu [.int (m:Int)] st=.ok (.im ((List.range' 0 m).map λi:Nat=>PV.int i)) st:=by
 have hr:cR (m:Int)=true:=by simp [cR];omega
 simp [hr,nums,List.range_eq_range']
def l9 (i:Int) (j:Nat) (h:0<j):∃b:Nat,b<j/\j5 i j=b:=by
 have h1:=Int.emod_nonneg i (show (j:Int)≠0 by omega)
 have h2:=Int.emod_lt_of_pos i (show (0:Int)<j by omega)
 exact ⟨(i%j).toNat,by omega,by rw [Bn _ _ (by omega)];omega⟩
theorem HW {st:aa}{z:Str}:∀{ks:Ad}{ts:List Tr}{xs:An}{t:Tr},aW st ts xs->(ks.zip ts).lookup z=some t->∃y,(ks.zip xs).lookup z=some y/\TR st t y
 |[],_,_,_,_,h=>by simp at h
 |_::_,[],_,_,_,h=>by simp at h
 |k::ks,u::ts,xs,t,r,h=>by
  obtain ⟨y,b_,rfl,r1,r2⟩:=r
  rw [List.zip_cons_cons,jR] at h ⊢
  cases hz:(z==k) with
  |true =>
   rw [hz] at h
   cases h
   exact ⟨y,rfl,r1⟩
  |false =>
   rw [hz] at h
   exact HW r2 h
def yD {st:aa}{n:Nat}{so:SO}(h:st[n]?=some so):n<st.length:=(yu.mp h).1
theorem ug {fe:Ai}{env:zd}(xs:An) (I:Nat->List PV->aa->Prop) (step:∀i x ys st,xs[i]?=some x->I i ys st->∃y st1,fe (some x::env) st=.ok y st1/\I (i+1) (ys++[y]) st1) :
  ∀(k i:Nat) (ys:An) (st:aa),i+k=xs.length->I i ys st->∃bO aP,bU fe env (xs.drop i) ys st=.ok (.ref aP.length) (aP++[.lst bO])/\I xs.length bO aP
 |0,i,ys,st,hk,h=>⟨ys,st,by rw [iM (by omega)];rfl,by rw [<-hk];exact h⟩
 |k+1,i,ys,st,hk,h=>by
  have hx:xs[i]?=some (xs[i]'(by omega)):=yb (by omega)
  obtain ⟨y,st1,e,h1⟩:=step i _ ys st hx h
  obtain ⟨bO,aP,r,h2⟩:=ug xs I step k (i+1) (ys++[y]) st1 (by omega) h1
  refine ⟨bO,aP,?_,h2⟩
  rw [jy (by omega)]
  unfold bU
  rw [e]
  simp only [wX,zC]
  exact r
theorem Bv {fe:Ai}{env:zd}{n:Nat}(xs:An) (I:Nat->List PV->aa->Prop) (at_:∀i ys st,I i ys st->st[n]?=some (.lst xs)) (step:∀i x ys st,xs[i]?=some x->I i ys st->∃y st1,fe (some x::env) st=.ok y st1/\I (i+1) (ys++[y]) st1) :
  ∀(k i m:Nat) (ys:An) (st:aa),i+k=xs.length->k<m->I i ys st->∃bO aP,cF fe env n m i ys st=.ok (.ref aP.length) (aP++[.lst bO])/\I xs.length bO aP
 |0,i,m,ys,st,hk,hm,h=>by
  obtain ⟨m,rfl⟩:∃j,m=j+1:=⟨m-1,by omega⟩
  refine ⟨ys,st,?_,by rw [<-hk];exact h⟩
  unfold cF
  rw [yr (at_ _ _ _ h),qW (by omega)]
 |k+1,i,m,ys,st,hk,hm,h=>by
  obtain ⟨m,rfl⟩:∃j,m=j+1:=⟨m-1,by omega⟩
  have hx:xs[i]?=some (xs[i]'(by omega)):=yb (by omega)
  obtain ⟨y,st1,e,h1⟩:=step i _ ys st hx h
  obtain ⟨bO,aP,r,h2⟩:=Bv xs I at_ step k (i+1) m (ys++[y]) st1 (by omega) (by omega) h1
  refine ⟨bO,aP,?_,h2⟩
  unfold cF
  rw [yr (at_ _ _ _ h),hx]
  simp only
  rw [e]
  simp only [wX,zC]
  exact r
inductive Sm:Tr->Tr->Prop
 |num (i:Int):Sm (.num i) (.num i)
 |word (z:Str):Sm (.word z) (.word z)
 |row {ts us:List Tr}:ts.length=us.length->(∀(i:Nat) t u,ts[i]?=some t->us[i]?=some u->Sm t u)->Sm (.row ts) (.row us)
 |rec_ {ks cg:Ad} (f g:Str->Tr):ks.Nodup->ks.Perm cg->(∀k∈ks,Sm (f k) (g k))->Sm (.rec_ ks (ks.map f)) (.rec_ cg (cg.map g))
theorem nB {m:Nat}:∀{ts:List Tr},(∀t∈ts,dp t<=m)->cU ts<=m
 |[],_=>by simp [cU]
 |t::ts,h=>by have:=h t (yj ..);have:=nB (ts:=ts) λu hu=>h u (yz _ hu);simp only [cU];omega
theorem Sm.dp {t u:Tr}(h:Sm t u):FK28.dp t=FK28.dp u:=by
 induction h with
 |num=>rfl
 |word=>rfl
 |@row ts us hl _ ih =>
  have a:cU ts<=cU us:=nB λt ht=>by
   obtain ⟨i,hi,e⟩:=qV ht
   have:=ih i t (us[i]'(by omega)) (by rw [yb hi,e]) (yb (by omega))
   have:=iD (qU (l:=us) (n:=i) (by omega))
   omega
  have b:cU us<=cU ts:=nB λt ht=>by
   obtain ⟨i,hi,e⟩:=qV ht
   have:=ih i (ts[i]'(by omega)) t (yb (by omega)) (by rw [yb hi,e])
   have:=iD (qU (l:=ts) (n:=i) (by omega))
   omega
  simp only [FK28.dp];omega
 |@rec_ ks cg f g nd pm _ ih =>
  have a:cU (ks.map f)<=cU (cg.map g):=nB λt ht=>by
   obtain ⟨k,hk,rfl⟩:=wP.mp ht
   have:=ih k hk
   have:=iD (List.mem_map_of_mem (f:=g) (pm.mem_iff.mp hk))
   omega
  have b:cU (cg.map g)<=cU (ks.map f):=nB λt ht=>by
   obtain ⟨k,hk,rfl⟩:=wP.mp ht
   have:=ih k (pm.mem_iff.mpr hk)
   have:=iD (List.mem_map_of_mem (f:=f) (pm.mem_iff.mpr hk))
   omega
  simp only [FK28.dp];omega
def HX (n:Nat):(List.replicate n true).all id=true:=by induction n with|zero=>rfl|succ n ih=>simp
mutual
def gd:Tr->Prop
 |.num i => -1000000000000000000<i/\i<1000000000000000000
 |.word z=>bg z=true
 |.row ts=>nC ts
 |.rec_ ks ts=>ks.Nodup/\ks.length=ts.length/\(∀k∈ks,bg k=true)/\nC ts
def nC:List Tr->Prop
 |[]=>True
 |t::ts=>gd t/\nC ts
end
theorem gP:∀{ts:List Tr},nC ts↔∀t∈ts,gd t
 |[]=>by simp [nC]
 |t::ts=>by simp [nC,gP (ts:=ts)]
mutual
def od (so:List Str->Ad):Tr->Tr
 |.num i=>.num i
 |.word z=>.word z
 |.row ts=>.row (nE so ts)
 |.rec_ ks ts=>.rec_ (so ks) ((so ks).map λk=>((ks.zip (nE so ts)).lookup k).getD (.num 0))
def nE (so:List Str->Ad):List Tr->List Tr
 |[]=>[]
 |t::ts=>od so t::nE so ts
end
theorem kB {so:List Str->Ad}:∀ts:List Tr,nE so ts=ts.map (od so)
 |[]=>rfl
 |t::ts=>by simp [nE,kB ts]
def qy {so:List Str->Ad}{ks:Ad}{f:Str->Tr}(h:∀k∈so ks,k∈ks):od so (.rec_ ks (ks.map f))=.rec_ (so ks) ((so ks).map λk=>od so (f k)):=by
 simp only [od,kB,List.map_map]
 congr 1
 refine List.map_congr_left λk hk=>?_
 rw [iF (h k hk)];rfl
theorem uh:∀{ks:Ad}{ts:List Tr},ks.Nodup->ks.length=ts.length->∃f:Str->Tr,ts=ks.map f
 |[],[],_,_=>⟨λ_=>.num 0,rfl⟩
 |[],_::_,_,h=>by simp at h
 |_::_,[],_,h=>by simp at h
 |k::ks,t::ts,nd,h=>by
  rw [wb] at nd
  obtain ⟨f,e⟩:=uh (ks:=ks) (ts:=ts) nd.2 (by simpa using h)
  refine ⟨λz=>if z=k then t else f z,?_⟩
  rw [ye,zp rfl,e]
  congr 1
  exact List.map_congr_left λz hz=>by rw [zD];exact λe=>nd.1 (e▸hz)
def UA {P:Tr->Prop}(hn:∀i,gd (.num i)->P (.num i)) (hw:∀z,bg z=true->P (.word z)) (hr:∀ts,(∀t∈ts,gd t)->(∀t∈ts,P t)->P (.row ts))
  (hf:∀ks f,ks.Nodup->(∀k∈ks,bg k=true)->(∀k∈ks,gd (f k))->(∀k∈ks,P (f k))->P (.rec_ ks (ks.map f))):∀(n:Nat) (t:Tr),sz t<=n->gd t->P t:=by
 intro n
 induction n with
 |zero=>intro t h;have:=tU t;omega
 |succ n ih =>
  intro t h g
  cases t with
  |num i=>exact hn i g
  |word z=>exact hw z g
  |row ts =>
   simp only [sz] at h
   have g':=gP.mp g
   exact hr ts g' λu hu=>ih u (by have:=m9 hu;omega) (g' u hu)
  |rec_ ks ts =>
   simp only [sz] at h
   obtain ⟨nd,hl,hk,g1⟩:=g
   obtain ⟨f,rfl⟩:=uh nd hl
   have g':=gP.mp g1
   exact hf ks f nd hk (λk hk=>g' _ (List.mem_map_of_mem hk)) λk hk=>ih (f k) (by have:=m9 (List.mem_map_of_mem (f:=f) hk);omega) (g' _ (List.mem_map_of_mem hk))
def Bw {P:Tr->Prop}(hn:∀i,gd (.num i)->P (.num i)) (hw:∀z,bg z=true->P (.word z)) (hr:∀ts,(∀t∈ts,gd t)->(∀t∈ts,P t)->P (.row ts))
  (hf:∀ks f,ks.Nodup->(∀k∈ks,bg k=true)->(∀k∈ks,gd (f k))->(∀k∈ks,P (f k))->P (.rec_ ks (ks.map f))) {t:Tr} (g:gd t):P t:=UA hn hw hr hf (sz t) t (z0 _) g
abbrev Pm (so:List Str->Ad):Prop:=∀ks,(so ks).Perm ks
def jd:Pm ak:=λks=>List.mergeSort_perm ks cY
def rv (ks:Ad):Ad:=(ak ks).reverse
def Pm.sub {so:List Str->Ad}(h:Pm so) (ks:Ad):∀k∈so ks,k∈ks:=λk hk=>(h ks).mem_iff.mp hk
def uk {ts us:List Tr}(h:ts.Perm us):aQ ts=aQ us:=by
 induction h with
 |nil=>rfl
 |cons x _ ih=>simp only [aQ,ih]
 |swap x y l=>simp only [aQ];omega
 |trans _ _ a b=>omega
theorem Bx {f g:α->Tr}:∀{l:List α},(∀x∈l,sz (f x)=sz (g x))->aQ (l.map f)=aQ (l.map g)
 |[],_=>rfl
 |x::l,h=>by simp only [ye,aQ,h x (yj ..),Bx (l:=l) λy hy=>h y (yz _ hy)]
def UB {so:List Str->Ad}(h:Pm so) {t:Tr}(g:gd t):sz (od so t)=sz t:=by
 refine Bw (P:=λt=>sz (od so t)=sz t) (λi _=>rfl) (λz _=>rfl) (λts _ ih=>?_) (λks f nd _ _ ih=>?_) g
 ·simp only [od,kB,sz]
  have:=Bx (f:=od so) (g:=id) (l:=ts) ih
  rw [List.map_id] at this
  omega
 ·rw [qy (h.sub ks)]
  simp only [sz]
  rw [uk ((h ks).map _),Bx ih]
def HY {so:List Str->Ad}(h:Pm so) {t:Tr}(g:gd t):gd (od so t):=by
 refine Bw (P:=λt=>gd (od so t)) (λi g=>g) (λz g=>g) (λts _ ih=>?_) (λks f nd hk _ ih=>?_) g
 ·simp only [od,kB]
  exact gP.mpr λu hu=>by obtain ⟨c,hc,rfl⟩:=wP.mp hu;exact ih c hc
 ·rw [qy (h.sub ks)]
  exact ⟨(h ks).nodup_iff.mpr nd,by simp,λk gA=>hk k (h.sub ks k gA),gP.mpr λu hu=>by obtain ⟨c,hc,rfl⟩:=wP.mp hu;exact ih c (h.sub ks c hc)⟩
abbrev cn:Tr->Tr:=od ak
def uq {m:Nat}(h:10<=m):Nat.toDigits 10 m=Nat.toDigits 10 (m/10)++[Nat.digitChar (m%10)]:=by
 have hm:m%10<10:=Nat.mod_lt m (by decide)
 have glue:=Nat.toDigits_append_toDigits (b:=10) (n:=m/10) (d:=m%10) (by decide) (by omega) hm
 rw [Nat.div_add_mod,Nat.toDigits_of_lt_base hm] at glue
 exact glue.symm
theorem HZ:∀(k m:Nat),m<10 ^ (k+1)->(Nat.toDigits 10 m).length<=k+1
 |0,m,h=>by
  rw [Nat.toDigits_of_lt_base (by omega)]
  exact z0 _
 |k+1,m,h=>by
  by_cases hm:m<10
  ·rw [Nat.toDigits_of_lt_base hm]
   show 1<=_
   omega
  ·rw [uq (by omega),jo,ma]
   have e:10 ^ (k+1+1)=10 ^ (k+1)*10:=Nat.pow_succ ..
   have:=HZ k (m/10) (by omega)
   omega
def UC (m:Nat):Nat.toDigits 10 m≠[]:=by
 by_cases hm:m<10
 ·rw [Nat.toDigits_of_lt_base hm]
  exact List.cons_ne_nil _ _
 ·rw [uq (by omega)]
  simp
def UD:∀(m:Nat),0<m->∃c r,Nat.toDigits 10 m=c::r/\c.toNat≠48:=by
 intro m
 induction m using Nat.strongRecOn with
 |_ m ih =>
  intro h
  by_cases hm:m<10
  ·rw [Nat.toDigits_of_lt_base hm]
   refine ⟨_,_,rfl,?_⟩
   have:∀d:Nat,d<10->0<d->(Nat.digitChar d).toNat≠48:=by decide
   exact this m hm h
  ·obtain ⟨c,r,e,n⟩:=ih (m/10) (by omega) (by omega)
   rw [uq (by omega),e]
   exact ⟨c,r++[Nat.digitChar (m%10)],rfl,n⟩
def dg (m:Nat):List Nat:=(Nat.toDigits 10 m).map Char.toNat
def UE (m:Nat):∀c∈Nat.toDigits 10 m,48<=c.toNat/\c.toNat<=57:=by
 induction m using Nat.strongRecOn with
 |_ m ih =>
  by_cases hm:m<10
  ·rw [Nat.toDigits_of_lt_base hm]
   intro c hc
   have e:c=Nat.digitChar m:=by simpa using hc
   subst e
   have:∀d:Nat,d<10->48<=(Nat.digitChar d).toNat/\(Nat.digitChar d).toNat<=57:=by decide
   exact this m hm
  ·rw [uq (by omega)]
   intro c hc
   rcases g_.mp hc with q|q
   ·exact ih (m/10) (by omega) c q
   ·have e:c=Nat.digitChar (m%10):=by simpa using q
    subst e
    have:∀d:Nat,d<10->48<=(Nat.digitChar d).toNat/\(Nat.digitChar d).toNat<=57:=by decide
    exact this (m%10) (Nat.mod_lt m (by decide))
def qz (m:Nat):∀c∈dg m,48<=c/\c<=57:=λc hc=>by
 obtain ⟨d,hd,e⟩:=wP.mp hc
 rw [<-e]
 exact UE m d hd
def ur (m:Nat):1<=(dg m).length:=by
 unfold dg
 rw [y3]
 have:=UC m
 cases e:Nat.toDigits 10 m with
 |nil=>exact absurd e this
 |cons a b=>simp
def uu {m:Nat}(h:m<10 ^ 18):(dg m).length<=18:=by
 unfold dg
 rw [y3]
 exact HZ 17 m h
def H8:dg 0=[48]:=by decide
def H9 {m:Nat}(h:0<m):∃c r,dg m=c::r/\c≠48:=by
 obtain ⟨c,r,e,n⟩:=UD m h
 exact ⟨c.toNat,r.map Char.toNat,by unfold dg;rw [e];rfl,n⟩
def sgn (n:Int):List Nat:=if n<0 then 45::dg n.natAbs else dg n.natAbs
def UG (s:String):(Str.ofString s).cps.toList=s.toList.map Char.toNat:=by
 simp only [Str.ofString_eq_toList,List.toList_toArray]
def UH (n:Int):(Str.ofString (toString n)).cps.toList=sgn n:=by
 rw [UG]
 unfold sgn
 cases n with
 |ofNat m =>
  rw [zD (show ¬(Int.ofNat m<0) from Int.not_lt.mpr (Int.natCast_nonneg m))]
  show (Nat.repr m).toList.map Char.toNat=dg m
  rw [Nat.toList_repr]
  rfl
 |negSucc m =>
  rw [zp (by omega)]
  show ("-" ++ Nat.repr (m+1)).toList.map Char.toNat=45::dg (m+1)
  rw [String.toList_append,Nat.toList_repr]
  rfl
def UI {m:Nat}(h:m<10 ^ 18):PySem.intText? (⟨(dg m).toArray⟩:Str)=some (m:Int):=by
 have hl:(⟨(dg m).toArray⟩:Str).length=(dg m).length:=by show (dg m).toArray.size=_;rw [yH]
 have hc:(⟨(dg m).toArray⟩:Str).cps.toList=dg m:=List.toList_toArray
 have Yy:=uu h
 have e:=PySem.intText_digits (x:=(⟨(dg m).toArray⟩:Str)) (by rw [hc];exact λc cA=>qz m c cA) (by
  rw [hc]
  intro z
  have:=ur m
  rw [z] at this
  exact absurd this (by decide)) (by rw [hl];omega)
 rw [hc] at e
 rw [e]
 exact congrArg (λk:Nat=>some (k:Int)) (PySem.W.KIN.val_back m)
abbrev S (l:List Nat):Str:=⟨l.toArray⟩
def lN (z:Str):S z.cps.toList=z:=by cases z;simp [S]
def jx (l:List Nat):(S l).length=l.length:=by show l.toArray.size=_;simp
def f7 (a b:List Nat):S a++S b=S (a++b):=by
 rw [<-lN (S a++S b),PySem.Str.cps_append]
 congr 1
 simp [S]
def UJ (z:Str) (b:List Nat):z++S b=S (z.cps.toList++b):=by rw [<-f7,lN]
def jt:List (List Nat)->List Nat
 |[]=>[]
 |x::xs=>44::(x++jt xs)
def jn:List (List Nat)->List Nat
 |[]=>[]
 |x::xs=>x++jt xs
def UK (ls:List (List Nat)):PySem.Txt.join ("," : Str) (ls.map S)=S (jn ls):=by
 show PySem.Builtin.Str.glued ("," : Str) (ls.map S)=_
 rw [PySem.StrLaws.glued_eq_join]
 have e0:("," : Str)=S [44]:=by decide +kernel
 rw [e0]
 induction ls with
 |nil=>rfl
 |cons c r ih =>
  cases r with
  |nil=>show S c=_;simp [jn,jt]
  |cons d r' =>
   show S c++S [44]++Str.join (S [44]) ((d::r').map S)=_
   rw [ih,f7,f7]
   simp [jn,jt]
def ent (k:Str) (c:List Nat):List Nat:=k.cps.toList++58::c
mutual
def tx:Tr->List Nat
 |.num i=>sgn i
 |.word z=>39::z.cps.toList
 |.row ts=>91::(jn (qA ts)++[93])
 |.rec_ ks ts=>123::(jn (List.zipWith ent ks (qA ts))++[125])
def qA:List Tr->List (List Nat)
 |[]=>[]
 |t::ts=>tx t::qA ts
end
theorem By:∀ts:List Tr,qA ts=ts.map tx
 |[]=>rfl
 |t::ts=>by simp [qA,By ts]
def nF (ts:List Tr):tx (.row ts)=91::(jn (ts.map tx)++[93]):=by simp only [tx,By]
theorem H_ {f:Str->List Nat}:∀ks:Ad,List.zipWith ent ks (ks.map f)=ks.map λk=>ent k (f k)
 |[]=>rfl
 |k::ks=>by simp [H_ ks]
def Ia (ks:Ad) (f:Str->Tr):tx (.rec_ ks (ks.map f))=123::(jn (ks.map λk=>ent k (tx (f k)))++[125]):=by
 simp only [tx,By,List.map_map,H_];rfl
def UL {i:Int}(h:gd (.num i)):(sgn i).length<=19:=by
 have g : -1000000000000000000<i/\i<1000000000000000000:=h
 have:=uu (m:=i.natAbs) (by omega)
 unfold sgn
 split
 ·simp only [yF];omega
 ·omega
theorem Ib:∀{α:Type}{l:List α}{f:α->List Nat}{g:α->Nat},(∀x∈l,(f x).length+1<=g x)->(jt (l.map f)).length<=(l.map g).sum
 |_,[],_,_,_=>by simp [jt]
 |_,x::l,f,g,h=>by
  have:=h x (yj ..)
  have:=Ib (l:=l) (f:=f) (g:=g) λy hy=>h y (yz _ hy)
  simp only [ye,jt,yF,jo,List.sum_cons];omega
def qB {α:Type}{l:List α}{f:α->List Nat}{g:α->Nat}(h:∀x∈l,(f x).length+1<=g x):(jn (l.map f)).length<=(l.map g).sum:=by
 have:=Ib h
 cases l with
 |nil=>simp [jn]
 |cons x l=>simp only [ye,jn,jt,yF,jo] at this ⊢;omega
theorem qC:∀ts:List Tr,(ts.map λt=>30*sz t).sum=30*aQ ts
 |[]=>rfl
 |t::ts=>by simp only [ye,List.sum_cons,aQ,qC ts];omega
def uv {t:Tr}(g:gd t):(tx t).length+11<=30*sz t:=by
 refine Bw (P:=λt=>(tx t).length+11<=30*sz t) (λi g=>?_) (λz g=>?_) (λts _ ih=>?_) (λks f nd hk _ ih=>?_) g
 ·have:=UL g
  simp only [tx,sz];omega
 ·have:=jK g
  have e:z.cps.toList.length=z.length:=by cases z;simp [Str.length]
  simp only [tx,sz,yF];omega
 ·have:=qB (l:=ts) (f:=tx) (g:=λt=>30*sz t) λt ht=>by have:=ih t ht;omega
  rw [qC] at this
  rw [nF]
  simp only [sz,yF,jo,List.length_nil];omega
 ·have:=qB (l:=ks) (f:=λk=>ent k (tx (f k))) (g:=λk=>30*sz (f k)) λk h=>by
   have:=ih k h
   have:=jK (hk k h)
   have e:k.cps.toList.length=k.length:=by cases k;simp [Str.length]
   simp only [ent,jo,yF];omega
  have e:=qC (ks.map f)
  rw [List.map_map] at e
  have e':(ks.map λk=>30*sz (f k)).sum=30*aQ (ks.map f):=e
  rw [Ia]
  simp only [sz,yF,jo,List.length_nil];omega
def ad (x y:Str) (h:x.length+y.length<=1000000) (st:aa):zM (.str x) (.str y) st=.ok (.str (x++y)) st:=by
 rw [Qd,zp h]
theorem Ic:∀ls:List (List Nat),strsOf (ls.map λl=>PV.str (S l))=some (ls.map S)
 |[]=>rfl
 |l::ls=>by simp [strsOf,Ic ls]
theorem Ie:∀ls:List (List Nat),((ls.map S).map (·.length)).sum+ls.length<=(jt ls).length
 |[]=>by simp [jt]
 |l::ls=>by
  have:=Ie ls
  have:=jx l
  simp only [ye,List.sum_cons,yF,jt,jo];omega
def UM (ls:List (List Nat)):(jt ls).length<=(jn ls).length+1:=by cases ls<;>simp [jt,jn]
def glue {fa:Ai}{e:zd}{st s1:aa}{r:Nat}{ls:List (List Nat)}{a b:Str}{ca cb:Nat}(h:fa e st=.ok (.ref r) s1) (hr:s1[r]?=some (.lst (ls.map λl=>PV.str (S l)))) (hl:(jn ls).length<=5000) (ea:a=S [ca]) (eb:b=S [cb]) :
  (zj zM (zj zM (As a) (wG (As ",") fa)) (As b)) e st=.ok (.str (S (ca::(jn ls++[cb])))) s1:=by
 have hs:=Ie ls
 have hj:=UM ls
 have J:(wG (As ",") fa) e st=.ok (.str (S (jn ls))) s1:=by
  show (fa e st).bind _=_
  rw [h,zC]
  show yl s1 r _=_
  rw [yr hr,Ic]
  have l1:("," : Str).length=1:=by decide +kernel
  simp only [y3,l1]
  rw [zp (by omega),UK]
 subst ea eb
 have la:=jx [ca]
 have lb:=jx [cb]
 have lj:=jx (jn ls)
 refine zq (zq rfl J (ad _ _ (by rw [la,lj];simp;omega) _)) rfl ?_
 rw [ad _ _ (by rw [f7,jx,lb];simp;omega),f7,f7]
 simp
def TR.old {a b:aa}(o:Old a b) {t:Tr}{v:PV}(h:TR a t v):TR b t v:=h.mono o.dk t
def lP {α:Type}{l:List α}{i:Nat}{x:α}(h:l[i]?=some x):l.take (i+1)=l.take i++[x]:=by
 obtain ⟨hi,e⟩:=yu.mp h
 rw [<-e,List.take_append_getElem]
def ux {t:Tr}(g:gd t):(tx (cn t)).length+11<=30*sz t:=by have:=uv (HY jd g);rw [UB jd g] at this;exact this
def Tells (mr:Al) (t:Tr):Prop:=∀s v,TR s t v->∃s1,mr [v] s=.ok (.str (S (tx (cn t)))) s1/\Old s s1
def Ig {mr:Al}{st:aa}{xs:An}{ts:List Tr}{e:zd}(tr:aW st ts xs) (gs:∀t∈ts,gd t) (hz:aQ ts<=60) (hm:∀t∈ts,Tells mr t) :
  ∃s1,(zj zM (zj zM (As "[") (wG (As ",") (yB (yA (zc 0)) (zn mr (ze (zc 0) zh))))) (As "]")) (some (.tup xs)::e) st=.ok (.str (S (tx (cn (.row ts))))) s1/\Old st s1:=by
 have hl:=tr.len
 obtain ⟨ys,s1,R,hy,o⟩:=ug (fe:=zn mr (ze (zc 0) zh)) (env:=some (.tup xs)::e) xs (λi ys s=>ys=((ts.take i).map λt=>PV.str (S (tx (cn t))))/\Old st s) (λi x ys s hx ⟨h1,h2⟩=>by
  obtain ⟨t,ht,UN⟩:=tr.get hx
  obtain ⟨s1,e1,o1⟩:=hm t (jG ht) s x (TR.old h2 UN)
  refine ⟨_,s1,zA (zG (zg rfl)) e1,?_,h2.trans o1⟩
  rw [h1,lP ht,wa];rfl) xs.length 0 [] st (by omega) ⟨rfl,Old.refl _⟩
 have hn:=iE ts
 refine ⟨s1++[.lst ys],?_,o.trans (zR _ _)⟩
 have C:(yB (yA (zc 0)) (zn mr (ze (zc 0) zh))) (some (.tup xs)::e) st=.ok (.ref s1.length) (s1++[.lst ys]):=by
  rw [iq]
  show bI _ _ (.im xs) st=_
  rw [x5,zp (by simp [lim];omega)]
  exact R
 have G:=glue (ls:=ts.map λt=>tx (cn t)) (a := "[") (b := "]") (ca:=91) (cb:=93) C (by rw [yi,hy,<-hl,List.take_length,List.map_map];rfl) (by
  have:=qB (l:=ts) (f:=λt=>tx (cn t)) (g:=λt=>30*sz t) λt ht=>by
   have:=ux (gs t ht);omega
  rw [qC] at this;omega) (by decide +kernel) (by decide +kernel)
 rw [G]
 simp only [cn,od,kB,nF,List.map_map]
 rfl
def UO:(":" : Str)=S [58]:=by decide +kernel
def UP:(":" : Str).length=1:=by decide +kernel
def UQ (a b:List Nat) (h:a.length+b.length<=1000000) (st:aa):zM (.str (S a)) (.str (S b)) st=.ok (.str (S (a++b))) st:=by
 rw [ad _ _ (by rw [jx,jx];exact h),f7]
def recC {mr:Al}{st:aa}{q:Nat}{xs:An}{ks:Ad}{f:Str->Tr}{e:zd}(hq:st[q]?=some (.dic ks xs)) (tr:aW st (ks.map f) xs) (hw:∀k∈ks,bg k=true) (gs:∀k∈ks,gd (f k)) (hz:aQ (ks.map f)<=60) (hm:∀k∈ks,Tells mr (f k)) :
  ∃s1 r,(yB (yA (zn pY (ze (zc 0) zh))) (zj zM (zj zM (zc 0) (As ":")) (zn mr (ze (zj zJ (zc 1) (zc 0)) zh)))) (At q::e) st=.ok (.ref r) s1/\s1[r]?=some (.lst (((ak ks).map λk=>ent k (tx (cn (f k)))).map λl=>PV.str (S l)))/\Old st s1:=by
 have hl:=tr.len
 have hn:=iE (ks.map f)
 rw [y3] at hl hn
 have so:pY [.ref q] st=.ok (.ref st.length) (st++[.lst ((ak ks).map PV.str)]):=by
  show yR st q _=_
  rw [wZ hq,zp (by omega)]
 have ls:(ak ks).length=ks.length:=(jd ks).length_eq
 obtain ⟨ys,s1,R,hy,o,ha⟩:=Bv (fe:=(zj zM (zj zM (zc 0) (As ":")) (zn mr (ze (zj zJ (zc 1) (zc 0)) zh)))) (env:=some (.ref q)::e) (n:=st.length) ((ak ks).map PV.str) (λi ys s=>ys=(((ak ks).take i).map λk=>PV.str (S (ent k (tx (cn (f k))))))/\Old st s/\s[st.length]?=some (.lst ((ak ks).map PV.str))) (λi ys s h=>h.2.2) (λi x ys s hx ⟨h1,h2,h3⟩=>by
  rw [yP] at hx
  cases hk:(ak ks)[i]? with
  |none=>rw [hk] at hx;cases hx
  |some k =>
   rw [hk] at hx
   cases hx
   have km:=jd.sub ks k (jG hk)
   obtain ⟨y,hy,ty⟩:=HW tr (iF km)
   obtain ⟨s1,e1,o1⟩:=hm k km s y (TR.old h2 ty)
   have ix:zJ (.ref q) (.str k) s=.ok y s:=by rw [HE (h2 _ _ hq),hy];rfl
   have lk:=jK (hw k km)
   have lt:=ux (gs k km)
   have lz:=m9 (List.mem_map_of_mem (f:=f) km)
   have kl:k.cps.toList.length=k.length:=by cases k;simp [Str.length]
   have a1:zM (.str k) (.str ":") s=.ok (.str (S (k.cps.toList++[58]))) s:=by
    rw [ad k ":" (by rw [UP];omega),UO,UJ]
   have a2:=UQ (k.cps.toList++[58]) (tx (cn (f k))) (by rw [jo,ma];omega) s1
   refine ⟨_,s1,zq (zq (zg rfl) rfl a1) (zA (zG (zq (zg rfl) (zg rfl) ix)) e1) a2,?_,h2.trans o1,o1 _ _ h3⟩
   rw [h1,lP hk,wa]
   simp [ent]) (ak ks).length 0 (lim+1) [] (st++[.lst ((ak ks).map PV.str)]) (by simp) (by simp [lim];omega) ⟨rfl,zR _ _,yi _ _⟩
 refine ⟨s1++[.lst ys],s1.length,?_,?_,o.trans (zR _ _)⟩
 ·have kC:=yi st (SO.lst ((ak ks).map PV.str))
  rw [iq,il,zA (zG (zg rfl)) so,zC]
  simp only [d_]
  rw [yr kC,zC]
  simp only [bI]
  exact R
 ·rw [yi,hy,y3,List.take_length,List.map_map];rfl
def fU {ks:Ad}{f:Str->Tr}(hw:∀k∈ks,bg k=true) (gs:∀k∈ks,gd (f k)) (hz:aQ (ks.map f)<=60):(jn ((ak ks).map λk=>ent k (tx (cn (f k))))).length<=5000:=by
 have:=qB (l:=ak ks) (f:=λk=>ent k (tx (cn (f k)))) (g:=λk=>30*sz (f k)) λk hk=>by
  have km:=jd.sub ks k hk
  have h1:=ux (gs k km)
  have h2:=jK (hw k km)
  have e:k.cps.toList.length=k.length:=by cases k;simp [Str.length]
  simp only [ent,jo,yF];omega
 have e:((ak ks).map λk=>30*sz (f k)).sum=30*aQ ((ak ks).map f):=by rw [<-qC,List.map_map];rfl
 rw [e,uk ((jd ks).map f)] at this
 omega
def qD (ks:Ad) (f:Str->Tr):tx (cn (.rec_ ks (ks.map f)))=123::(jn ((ak ks).map λk=>ent k (tx (cn (f k))))++[125]):=by
 rw [cn,qy (jd.sub ks),Ia]
def UR (i:Int):(Str.ofString (toString i))=S (sgn i):=by rw [<-UH,lN]
def Ih {i:Int}(h:gd (.num i)) (st:aa):mS [.int i] st=.ok (.str (S (sgn i))) st:=by
 have g : -1000000000000000000<i/\i<1000000000000000000:=h
 rw [QO,zp]
 ·rw [<-UR]
 ·by_cases h0:i.natAbs=0
  ·rw [h0];decide
  ·have:=(Nat.log2_lt h0 (k:=1920)).mpr (y9 (show i.natAbs<2 ^ 60 by omega) (Nat.pow_le_pow_right (by decide) (by decide)))
   exact this
def Ii {z:Str} (h:bg z=true) (st:aa):zM (.str "'") (.str z) st=.ok (.str (S (39::z.cps.toList))) st:=by
 have c1:("'" : Str)=S [39]:=by decide +kernel
 have c2:("'" : Str).length=1:=by decide +kernel
 have:=jK h
 rw [ad _ _ (by rw [c2];omega),c1,<-lN z,f7,lN]
 rfl
def eqs (a b:Str) (c:Bool) (h:decide (a=b)=c) (st:aa):jk (.str a) (.str b) st=.ok (.bl c) st:=by rw [RG,h]
def US:∀(n:Nat) (t:Tr),dp t<n->sz t<=60->gd t->Tells (ku n) t:=by
 intro n
 induction n with
 |zero=>intro t h;omega
 |succ n ih =>
  intro t hd hz g st v tv
  have kd:=Bp tv
  show ∃s1,Bi (ku n) [v] st=_/\_
  cases t with
  |num i =>
   cases tv
   have kd:w8 [.int i] st=.ok (.str "number") st:=kd
   exact ⟨st,yp rfl (zu (yg (zA (zG (zg rfl)) kd)) (jc (yV (zF (zq (zg rfl) rfl (eqs _ _ true (by decide +kernel) st))) (yo (zA (zG (zg rfl)) (Ih g st)))))),Old.refl _⟩
  |word z =>
   obtain ⟨rfl,_⟩:=tv
   have kd:w8 [.str z] st=.ok (.str "word") st:=kd
   exact ⟨st,yp rfl (zu (yg (zA (zG (zg rfl)) kd)) (zu (zZ (zF (zq (zg rfl) rfl (eqs _ _ false (by decide +kernel) st)))) (jc (yV (zF (zq (zg rfl) rfl (eqs _ _ true (by decide +kernel) st))) (yo (zq rfl (zg rfl) (Ii g st))))))),Old.refl _⟩
  |row ts =>
   obtain ⟨xs,rfl,r1⟩:=tv
   have kd:w8 [.tup xs] st=.ok (.str "row") st:=kd
   simp only [sz] at hz
   simp only [dp] at hd
   have g':=gP.mp g
   obtain ⟨s1,e,o⟩:=Ig (mr:=ku n) (e:=[some (.str "row"),none]) r1 g' (by omega) λt ht=>ih t (by have:=iD ht;omega) (by have:=m9 ht;omega) (g' t ht)
   exact ⟨s1,yp rfl (zu (yg (zA (zG (zg rfl)) kd)) (zu (zZ (zF (zq (zg rfl) rfl (eqs _ _ false (by decide +kernel) st)))) (zu (zZ (zF (zq (zg rfl) rfl (eqs _ _ false (by decide +kernel) st)))) (jc (yV (zF (zq (zg rfl) rfl (eqs _ _ true (by decide +kernel) st))) (yo e)))))),o⟩
  |rec_ ks ts =>
   obtain ⟨q,xs,rfl,hq,_,_,r1,_⟩:=tv
   have kr:w8 [.ref q] st=.ok (.str "record") st:=kd
   simp only [sz] at hz
   simp only [dp] at hd
   obtain ⟨nd,hl,hw,g1⟩:=g
   obtain ⟨f,rfl⟩:=uh nd hl
   have g':=gP.mp g1
   have gk:∀k∈ks,gd (f k):=λk hk=>g' _ (List.mem_map_of_mem hk)
   obtain ⟨s1,r,e,hr,o⟩:=recC (mr:=ku n) (e:=[some (.str "record"),none]) hq r1 hw gk (by omega) λk hk=>ih (f k) (by have:=iD (List.mem_map_of_mem (f:=f) hk);omega) (by have:=m9 (List.mem_map_of_mem (f:=f) hk);omega) (gk k hk)
   have G:=glue (fa:=zc 2) (e:=[At q,some (.str "record"),At r]) (st:=s1) (a := "{") (b := "}") (ca:=123) (cb:=125) (zg rfl) hr (fU hw gk (by omega)) (by decide +kernel) (by decide +kernel)
   rw [<-qD] at G
   exact ⟨s1,yp rfl (zu (yg (zA (zG (zg rfl)) kr)) (zu (zZ (zF (zq (zg rfl) rfl (eqs _ _ false (by decide +kernel) st)))) (zu (zZ (zF (zq (zg rfl) rfl (eqs _ _ false (by decide +kernel) st)))) (zu (zZ (zF (zq (zg rfl) rfl (eqs _ _ false (by decide +kernel) st)))) (zu (yg e) (yo G)))))),o⟩
def vw (R:List Nat) (s:aa):aa:=s.mapIdx λi so=>if i∈R then SO.lst [] else so
def nG {R:List Nat}{s:aa}{n:Nat}{ks:Ad}{xs:An}:(vw R s)[n]?=some (.dic ks xs)↔n∉R/\s[n]?=some (.dic ks xs):=by
 unfold vw
 rw [List.getElem?_mapIdx]
 cases h:s[n]? with
 |none=>simp
 |some so =>
  by_cases hn:n∈R
  ·simp [hn]
  ·simp [hn]
def qE {R R':List Nat}{s s':aa}(h:∀(n:Nat) ks xs,n∉R->s[n]?=some (SO.dic ks xs)->n∉R'/\s'[n]?=some (SO.dic ks xs)):Dk (vw R s) (vw R' s'):=λn ks xs e=>nG.mpr (h n ks xs (nG.mp e).1 (nG.mp e).2)
def UT {R:List Nat}{s s':aa}(o:Old s s'):Dk (vw R s) (vw R s'):=qE λn _ _ h e=>⟨h,o n _ e⟩
def UU {R:List Nat}{s:aa}:Dk (vw R s) s:=λn ks xs e=>(nG.mp e).2
def UW {R:List Nat}{s:aa}{r:Nat}(so:SO):Dk (vw (r::R) s) (vw (r::R) (s.set r so)):=qE λn _ _ h e=>⟨h,by rw [yN (λq=>h (by rw [q];exact yj ..))];exact e⟩
def UX {R:List Nat}{s:aa}{r:Nat}:Dk (vw (r::R) s) (vw R s):=qE λn _ _ h e=>⟨λm=>h (yz _ m),e⟩
theorem qF {g:PV->zd->Option zd}{body:Aj}{n:Nat}(xs:An) (I:Nat->zd->aa->Prop) (at_:∀i e st,I i e st->st[n]?=some (.lst xs)) (step:∀i x e st,xs[i]?=some x->I i e st->∃e1 e2 av,g x e=some e1/\body e1 st=.ok (.nx e2) av/\I (i+1) e2 av) :
  ∀(k i m:Nat) (env:zd) (st:aa),i+k=xs.length->k<m->I i env st->∃bT aP,forR g body n m i env st=.ok (.nx bT) aP/\I xs.length bT aP
 |0,i,m,env,st,hk,hm,h=>by
  obtain ⟨m,rfl⟩:∃j,m=j+1:=⟨m-1,by omega⟩
  refine ⟨env,st,?_,by rw [<-hk];exact h⟩
  unfold forR
  rw [yr (at_ _ _ _ h),qW (by omega)]
 |k+1,i,m,env,st,hk,hm,h=>by
  obtain ⟨m,rfl⟩:∃j,m=j+1:=⟨m-1,by omega⟩
  have hx:xs[i]?=some (xs[i]'(by omega)):=yb (by omega)
  obtain ⟨e1,e2,av,q1,q2,q3⟩:=step i _ env st hx h
  obtain ⟨bT,aP,r,h2⟩:=qF xs I at_ step k (i+1) m e2 av (by omega) (by omega) q3
  refine ⟨bT,aP,?_,h2⟩
  unfold forR
  rw [yr (at_ _ _ _ h),hx]
  simp only
  rw [q1]
  simp only
  rw [q2]
  simp only [zC]
  exact r
def UY {fo fi fv:Ai}{e:zd}{s s1:aa}{r:Nat}{z:Str}{x:PV}{ks:Ad}{xs:An}(hv:fv e s=.ok x s1) (ho:fo e s1=.ok (.ref r) s1) (hi:fi e s1=.ok (.str z) s1) (hr:s1[r]?=some (.dic ks xs)) (hn:z∉ks) (hl:ks.length<=1000) :
  jp fo fi fv e s=.ok (.nx e) (s1.set r (.dic (ks++[z]) (xs++[x]))):=by
 unfold jp
 rw [hv,zC,ho,zC,hi,zC]
 show (yR s1 r _).bind _=_
 rw [wZ hr,zp (by simp [lim];omega),zC]
 have:ks.contains z=false:=by simpa using hn
 simp only [wY,this]
 rfl
abbrev sR (n:Nat):Ao:=some (.ref n)
abbrev sI (n:Nat):Ao:=Au n
def Dc (d:Nat) (s:aa):Prop:=∃l:List Int,s[d]?=some (.lst (l.map PV.int))
structure Nx (d:Nat) (a b:aa):Prop where
 ob:Ob d a b
 dc:Dc d b
theorem Nx.trans {d:Nat}{a b c:aa}(h:Nx d a b) (h':Nx d b c):Nx d a c:=⟨h.ob.trans h'.ob,h'.dc⟩
def Nx.refl {d:Nat}{a:aa}(h:Dc d a):Nx d a a:=⟨λ_ _ _ e=>e,h⟩
def Nx.of {d:Nat}{a b:aa}(h:Dc d a) (o:Old a b):Nx d a b:=⟨Bq o,by obtain ⟨l,e⟩:=h;exact ⟨l,o _ _ e⟩⟩
def jP {d:Nat}{st:aa}(hd:Dc d st) (m:Nat) (hm:0<m):∃(r:Nat) (s1:aa),yO [.ref d,.int (m:Int)] st=.ok (.int (r:Int)) s1/\r<m/\Nx d st s1:=by
 obtain ⟨l,e⟩:=hd
 cases l with
 |nil =>
  refine ⟨0,st,yp rfl (jc (yV (zF (zq (zA (zG (zg rfl)) (iA e)) rfl (sT _ _))) (yo rfl))),hm,Nx.refl ⟨[],e⟩⟩
 |cons i l =>
  obtain ⟨b,hb,eb⟩:=l9 i m hm
  have e1:(st.set d (.lst (l.map PV.int)))[d]?=some (.lst (l.map PV.int)):=jf (yD e)
  refine ⟨b,st.set d (.lst (l.map PV.int)),yp rfl (zu (zZ (zF (zq (zA (zG (zg rfl)) (iA e)) rfl ((sT _ _).trans (by rw [wc (by simp;omega)]))))) (yo (zq (sQ (zg rfl) e rfl (by
   show yl st d _=_
   rw [yr e]
   rfl)) (zg rfl) ((gL _ _ (by omega)).trans (by rw [eb]))))),hb,⟨tZ d st _,l,e1⟩⟩
def UZ (st:aa):mK (.int 10) (.int 9) st=.ok (.int 1000000000) st:=by
 have cp:g0 10 9=true:=by decide
 have pw:((10:Int) ^ (9:Int).toNat)=1000000000:=by decide
 show (if g0 10 9=true then Res.ok (PV.int (10 ^ (9:Int).toNat)) st else .stuck)=_
 rw [zp cp,pw]
def uz {i j:Int}(b:Bool) (h:decide (i<j)=b) (st:aa):wS (.int i) (.int j) st=.ok (.bl b) st:=by rw [RF,h]
def f9 {i j:Int}(b:Bool) (h:decide (i=j)=b) (st:aa):jk (.int i) (.int j) st=.ok (.bl b) st:=by rw [sT,h]
def iG {i j:Int}(b:Bool) (h:decide (j<i)=b) (st:aa):jI (.int i) (.int j) st=.ok (.bl b) st:=by rw [Fv,h]
def U0 (cs:List Nat):PySem.Txt.join ("" : Str) (cs.map λc=>(⟨#[c]⟩:Str))=S cs:=by
 show PySem.Builtin.Str.glued ("" : Str) (cs.map λc=>(⟨#[c]⟩:Str))=_
 rw [PySem.StrLaws.glued_eq_join]
 have e0:("" : Str)=S []:=by decide +kernel
 rw [e0]
 induction cs with
 |nil=>rfl
 |cons c r ih =>
  cases r with
  |nil=>rfl
  |cons d r' =>
   show S [c]++S []++Str.join (S []) ((d::r').map λc=>(⟨#[c]⟩:Str))=_
   rw [ih,f7,f7]
   simp
def wv (j:Nat):Nat:=(abc.cps.toList[j]?).getD 0
def Bz (j:Nat) (hj:j<26) (st:aa):zJ (.str abc) (.int j) st=.ok (.str ⟨#[wv j]⟩) st/\wv j∈abc.cps.toList:=by
 have hz:abc.cps.toList.length=26:=by decide +kernel
 have lt:j<abc.cps.toList.length:=by omega
 have hl:abc.length<=1000000:=by decide +kernel
 have e:abc.cps.toList[j]?=some (wv j):=by unfold wv;rw [yb lt];rfl
 refine ⟨?_,jG e⟩
 rw [EU,EA,zp hl,bj e]
 rfl
def U3 {n i:Nat}{x:PV}(h:(nums 0 n)[i]?=some x):i<n/\x=.int (i:Int):=by
 unfold nums at h
 rw [yP] at h
 cases e:(List.range n)[i]? with
 |none=>rw [e] at h;cases h
 |some j =>
  rw [e] at h
  obtain ⟨h1,h2⟩:=yu.mp e
  rw [List.getElem_range] at h2
  rw [List.length_range] at h1
  cases h
  exact ⟨h1,by subst h2;simp⟩
def BA (n:Nat):(nums 0 n).length=n:=by simp [nums]
def U4 (m:Nat) (st:aa) (h:m<=1000):lu [.int (m:Int)] st=.ok (.im (nums 0 m)) st:=by
 have hr:cR (m:Int)=true:=by simp [cR];omega
 rw [QN,zp hr];simp
def BB {fe:Ai}{fs:Ah}{env:zd}{st s0:aa}(n:Nat) (hn:n<=1000) (hf:fs env st=.ok [.int (n:Int)] s0) (I:Nat->List PV->aa->Prop) (step:∀i ys st,i<n->I i ys st->∃y st1,fe (sI i::env) st=.ok y st1/\I (i+1) (ys++[y]) st1) (h0:I 0 [] s0) :
  ∃bO aP,(yB (bJ fs) fe) env st=.ok (.ref aP.length) (aP++[.lst bO])/\I n bO aP:=by
 obtain ⟨ys,s1,C,h⟩:=ug (fe:=fe) (env:=env) (nums 0 n) I (λi x ys st hx h=>by
  obtain ⟨hi,rfl⟩:=U3 hx
  exact step i ys st hi h) n 0 [] s0 (by rw [BA];omega) h0
 rw [BA] at h
 refine ⟨ys,s1,?_,h⟩
 rw [iq,EV,hf,zC,U4 n _ hn,zC,x5,zp (by rw [BA];simp [lim];omega)]
 exact C
theorem Ij:∀cs:List Nat,strsOf (cs.map λc=>PV.str ⟨#[c]⟩)=some (cs.map λc=>(⟨#[c]⟩:Str))
 |[]=>rfl
 |c::cs=>by simp [strsOf,Ij cs]
theorem Ik:∀cs:List Nat,((cs.map λc=>(⟨#[c]⟩:Str)).map (·.length)).sum=cs.length
 |[]=>rfl
 |c::cs=>by have:=Ik cs;simp only [ye,List.sum_cons,yF,this];show 1+_=_;omega
def U5 {cs:List Nat}(h1:1<=cs.length) (h8:cs.length<=8) (hc:∀c∈cs,c∈abc.cps.toList):bg (S cs)=true:=by
 unfold bg
 rw [jx]
 simp only [y4,jH,List.all_eq_true]
 exact ⟨⟨h1,h8⟩,λc h=>hc c (by simpa [S] using h)⟩
def U6:("" : Str).length=0:=by decide +kernel
def U7 {z:Str}{fa:Ai}{e:zd}{st s1:aa}{r:Nat}{xs:An}{zs:Ad}(h:fa e st=.ok (.ref r) s1) (hr:s1[r]?=some (.lst xs)) (hz:strsOf xs=some zs) (hl:(zs.map (·.length)).sum+zs.length*z.length<=1000000):wG (As z) fa e st=.ok (.str (PySem.Txt.join z zs)) s1:=by
 show (fa e st).bind _=_
 rw [h,zC]
 show yl s1 r _=_
 rw [yr hr,hz]
 exact zp hl
def uA {fs:Ah}{gt:PV->zd->Option zd}{body:Aj}{e:zd}{st s0:aa}(I:Nat->zd->aa->Prop) (n:Nat) (hn:n<=1000) (hf:fs e st=.ok [.int (n:Int)] s0) (step:∀i e st,i<n->I i e st->∃e1 e2 av,gt (.int (i:Int)) e=some e1/\body e1 st=.ok (.nx e2) av/\I (i+1) e2 av) (h0:I 0 e s0) :
  ∃e' s',js (bJ fs) gt body e st=.ok (.nx e') s'/\I n e' s':=by
 obtain ⟨e',s',F,h⟩:=HV (g:=gt) (body:=body) I n step n 0 e s0 (by omega) h0
 refine ⟨e',s',?_,h⟩
 rw [Ez,EV,hf,zC,Uz n _ hn,zC,Qj]
 exact F
def l_ (l:List Nat) (i:Nat):Str:=⟨((l.drop i).take 1).toArray⟩
def U8 {l:List Nat}{i:Nat}(h:l[i]?=none):l_ l i=⟨#[]⟩:=by
 unfold l_
 rw [List.drop_eq_nil_of_le (gj.mp h)]
 rfl
def U9 {z:Str}{i:Nat}(h:i<=z.length):PySem.Txt.slice z (some (i:Int)) (some ((i:Int)+1))=l_ z.cps.toList i:=by
 have hl:z.cps.toList.length=z.length:=by simp [Str.length]
 by_cases hi:i<z.length
 ·have e:=beq_iff_eq.mp (PyProof.Rows.slice_closesL (x:=z) (i:=(i:Int)) (j:=(i:Int)+1) (by omega) (by omega) (by omega))
  rw [e]
  have e1:((i:Int)).toNat=i:=by omega
  have e2:((i:Int)+1-(i:Int)).toNat=1:=by omega
  rw [e1,e2]
  rfl
 ·have e:i=z.length:=by omega
  have hn:z.cps.toList[i]?=none:=gj.mpr (by omega)
  rw [U8 hn]
  subst e
  have qG:PySem.Builtin.Str.strSliceIndices (some (z.length:Int)) (some ((z.length:Int)+1)) 1 z.length=[]:=by
   unfold PySem.Builtin.Str.strSliceIndices PySem.sliceRange
   have a1:¬((z.length:Int)<0):=by omega
   have a2:¬((z.length:Int)+1<0):=by omega
   have a3:min ((z.length:Int)+1) (z.length:Int)=(z.length:Int):=by omega
   have a4:min (z.length:Int) (z.length:Int)=(z.length:Int):=by omega
   have a5:max 0 (z.length:Int)=(z.length:Int):=by omega
   simp only [show (1:Int)>0 by decide,jF,zD a1,zD a2,a3,a4,a5]
   rw [zD (Int.lt_irrefl _)]
   rfl
  unfold PySem.Txt.slice
  rw [qG]
  by_cases h0:z.length=0
  ·have:z=⟨#[]⟩:=by
    cases z with
    |mk a =>
     have:a.size=0:=h0
     have:a=#[]:=Array.eq_empty_of_size_eq_zero this
     rw [this]
   rw [this]
   rfl
  ·rw [zD (by
    intro c
    simp only [y4,beq_iff_eq,List.length_nil] at c
    omega)]
   rfl
def U_ {z:Str}{i k:Nat}(h1:i<=k) (h2:k<=z.length):PySem.Txt.slice z (some (i:Int)) (some (k:Int))=⟨((z.cps.toList.drop i).take (k-i)).toArray⟩:=by
 have e:=beq_iff_eq.mp (PyProof.Rows.slice_closesL (x:=z) (i:=(i:Int)) (j:=(k:Int)) (by omega) (by omega) (by omega))
 rw [e]
 have e1:((i:Int)).toNat=i:=by omega
 have e2:((k:Int)-(i:Int)).toNat=k-i:=by omega
 rw [e1,e2]
abbrev rd (L:List Nat) (p b:Nat):SO:=.ins "ValueReader" ["text", "place", "begun"] [.str (S L),.int (p:Int),.int (b:Int)]
section
variable {o p b:Nat} {L:List Nat} {s s1:aa} {e:zd}
def kD:insOf "ValueReader" = true:=by simp [insOf]
def lQ (h:s[o]?=some (rd L p b)):br "text" insOf excOf (.ref o) s=.ok (.str (S L)) s:=by
 show yJ s o _=_
 unfold yJ
 rw [h]
 simp only [kD,jF]
 rfl
def gQ (h:s[o]?=some (rd L p b)):br "place" insOf excOf (.ref o) s=.ok (.int (p:Int)) s:=by
 show yJ s o _=_
 unfold yJ
 rw [h]
 simp only [kD,jF]
 rfl
def Il (h:s[o]?=some (rd L p b)):br "begun" insOf excOf (.ref o) s=.ok (.int (b:Int)) s:=by
 show yJ s o _=_
 unfold yJ
 rw [h]
 simp only [kD,jF]
 rfl
def Im {f:Str} {xs:An} {i:Int} {X:SO} (ho:e[0]?=some (sR o)) (h:s[o]?=some (.ins "ValueReader" ["text", "place", "begun"] xs)) (hl:((["text", "place", "begun"]:Ad).zip xs).lookup f=some (.int i)) (hX:SO.ins "ValueReader" (putK f (.int (i+1)) ["text", "place", "begun"] xs).1 (putK f (.int (i+1)) ["text", "place", "begun"] xs).2=X):gE f insOf (zc 0) (Ar 1) e s=.ok (.nx e) (s.set o X):=by
 unfold gE
 rw [zg ho,zC]
 show yJ s o _=_
 unfold yJ
 rw [h]
 simp only [kD,jF,hl]
 show yJ s o _=_
 unfold yJ
 rw [h]
 simp only
 rw [zp ⟨trivial,by decide⟩,hX]
def BC (ho:e[0]?=some (sR o)) (h:s[o]?=some (rd L p b)):gE "place" insOf (zc 0) (Ar 1) e s=.ok (.nx e) (s.set o (rd L (p+1) b)):=Im (i:=(p:Int)) ho h rfl rfl
def Io (ho:e[0]?=some (sR o)) (h:s[o]?=some (rd L p b)):gE "begun" insOf (zc 0) (Ar 1) e s=.ok (.nx e) (s.set o (rd L p (b+1))):=Im (i:=(b:Int)) ho h rfl rfl
def yW {name:Str} {tab:Str->Option (Al)} {fo:Ai} {fs:Ah} {m:Al} {ys:An} {X:Res PV} (ho:fo e s=.ok (.ref o) s) (h:s[o]?=some (rd L p b)) (hn:name∉(["text", "place", "begun"]:Ad)) (ht:tab "ValueReader" = some m) (hf:fs e s=.ok ys s1) (hm:m (.ref o::ys) s1=X):yy name tab fo fs e s=X:=by
 unfold yy
 rw [ho,zC]
 show yJ s o _=_
 unfold yJ
 rw [h]
 simp only
 rw [zD hn,ht]
 simp only
 rw [hf,zC,hm]
def BD {m n:Nat}{g:Aj}{xs:An}{st r:aa}{e:zd}(hl:xs.length=m) (h:g (xs.map some++List.replicate (n-m) none) st=.ok (.nx e) r):zB m n g xs st=.ok .non r:=by
 unfold zB
 rw [zp hl,h,zC];rfl
def gR {l r:List Nat}{i:Nat}(h:L.drop p=l++r) (hp:p<=L.length):p+l.length<=L.length:=by
 have:=congrArg List.length h
 simp at this;omega
def f_ {l r:List Nat}(h:L.drop p=l++r):L.drop (p+l.length)=r:=by
 rw [<-List.drop_drop,h,List.drop_left]
def Va (hp:p<=L.length) (hl:L.length<=100000):wU (.str (S L)) (some (p:Int)) (some ((p:Int)+1)) s=.ok (.str (S ((L.drop p).take 1))) s:=by
 show (if (S L).length<=lim then _ else _)=_
 rw [zp (by rw [jx];simp [lim];omega),U9 (by rw [jx];exact hp)]
 simp [l_]
def BE (h:s[o]?=some (rd L p b)) (hp:p<=L.length) (hl:L.length<=100000):m_ValueReader_sign_here [.ref o] s=.ok (.str (S ((L.drop p).take 1))) s :=
 yp rfl (yo (gK (jm (zg rfl) (lQ h)) (wn (jm (zg rfl) (gQ h))) (wn (zq (jm (zg rfl) (gQ h)) rfl (y7 _ _))) (Va hp hl)))
def Vb {a c:List Nat}(h:S a=S c):a=c:=by have:=congrArg (λz:Str=>z.cps.toList) h;simpa [S] using this
def BF {x y:Str}(c:Bool) (h:decide (x=y)=c) (st:aa):yM (.str x) (.str y) st=.ok (.bl (!c)) st:=by rw [pW,h]
def gf {c:Nat}{r:List Nat}(h:s[o]?=some (rd L p b)) (hp:p<=L.length) (hl:L.length<=100000) (hd:L.drop p=c::r):m_ValueReader_passes [.ref o,.str (S [c])] s=.ok (.bl true) (s.set o (rd L (p+1) b)) :=
 yp rfl (zu (zZ (zF (zq (yW (zg rfl) h (by decide) (zp rfl) jE (BE h hp hl)) (zg rfl) (BF true (by rw [hd];simp) s)))) (zu (BC rfl h) (yo rfl)))
def wM {c:Nat}(h:s[o]?=some (rd L p b)) (hp:p<=L.length) (hl:L.length<=100000) (hd:(L.drop p).take 1≠[c]):m_ValueReader_passes [.ref o,.str (S [c])] s=.ok (.bl false) s :=
 yp rfl (jc (yV (zF (zq (yW (zg rfl) h (by decide) (zp rfl) jE (BE h hp hl)) (zg rfl) (BF false (by rw [decide_eq_false_iff_not];exact λe=>hd (Vb e)) s))) (yo rfl)))
def BG {c:Nat}{r:List Nat}(h:s[o]?=some (rd L p b)) (hp:p<=L.length) (hl:L.length<=100000) (hd:L.drop p=c::r):m_ValueReader_pass_sign [.ref o,.str (S [c])] s=.ok .non (s.set o (rd L (p+1) b)) :=
 BD rfl (zu (zZ (zF (zq (yW (zg rfl) h (by decide) (zp rfl) jE (BE h hp hl)) (zg rfl) (BF true (by rw [hd];simp) s)))) (BC rfl h))
end
structure Go (o:Nat) (L:List Nat) (s s':aa) (p b:Nat):Prop where
 at_:s'[o]?=some (rd L p b)
 ob:Ob o s s'
section
variable {o p b:Nat} {L:List Nat} {s s1:aa} {e:zd}
theorem Go.set {p' b':Nat}(h:s[o]?=some (rd L p b)):Go o L s (s.set o (rd L p' b')) p' b':=⟨jf (yD h),tZ o s _⟩
def Go.refl (h:s[o]?=some (rd L p b)):Go o L s s p b:=⟨h,λ_ _ _ e=>e⟩
theorem Go.trans {s2:aa}{p1 b1 p2 b2:Nat}(h:Go o L s s1 p1 b1) (h':Go o L s1 s2 p2 b2):Go o L s s2 p2 b2:=⟨h'.at_,h.ob.trans h'.ob⟩
def Go.old {s2:aa}(h:s[o]?=some (rd L p b)) (o':Old s s2):Go o L s s2 p b:=⟨o' _ _ h,Bq o'⟩
def Go.lt {p1 b1:Nat}(h:Go o L s s1 p1 b1) {n:Nat}(hn:n<s.length):n<s1.length:=by
 by_cases e:n=o
 ·rw [e];exact yD h.at_
 ·exact yD (h.ob n _ e (yb hn))
theorem Go.vw {p1 b1:Nat}{R:List Nat}(h:Go o L s s1 p1 b1) (hs:s[o]?=some (rd L p b)):Dk (FK28.vw R s) (FK28.vw R s1):=qE λn ks xs hn e=>⟨hn,h.ob n _ (λq=>by rw [q,hs] at e;cases e) e⟩
def eF {c:Nat}(hl:L.length<=100000) (h:L[p]?=some c):zJ (.str (S L)) (.int (p:Int)) s=.ok (.str ⟨#[c]⟩) s:=by
 rw [EU,zp (by rw [jx];simp [lim];omega)]
 have:(S L).cps.toList=L:=by simp [S]
 rw [this,bj h]
 rfl
def len_str (hl:L.length<=100000):yk [.str (S L)] s=.ok (.int (L.length:Int)) s:=by
 show (if (S L).length<=lim then _ else _)=_
 rw [zp (by rw [jx];simp [lim];omega),jx]
abbrev tR:Ak:=(j1 (mB (zj wS (yx (br "place" insOf excOf) (zc 0)) (zn yk (ze (yx (br "text" insOf excOf) (zc 0)) zh)))) (mB (zj (yS false) (zj zJ (yx (br "text" insOf excOf) (zc 0)) (yx (br "place" insOf excOf) (zc 0))) (zc 1))))
def wN {c:Nat}{r:List Nat}(h:L.drop p=c::r):L[p]?=some c/\p<L.length/\L.drop (p+1)=r:=by
 have bD:p<L.length:=by
  rcases Nat.lt_or_ge p L.length with q|q
  ·exact q
  ·rw [iM q] at h;cases h
 rw [jy bD] at h
 injection h with h1 h2
 exact ⟨by rw [yb bD,h1],bD,h2⟩
def in_str (c:Nat) (z:Str):yS false (.str ⟨#[c]⟩) (.str z) s=.ok (.bl (decide (c∈z.cps.toList))) s:=by
 show Res.ok (PV.bl (false.xor (decide (c∈z.cps.toList)))) s=_
 simp
theorem Ip {sg:Str}{x:Ao}{r:List Nat}(hl:L.length<=100000) (hr:r=[]\/∃c r',r=c::r'/\c∉sg.cps.toList):∀(w:List Nat) (p fuel:Nat) (s:aa),s[o]?=some (rd L p b)->p<=L.length->L.drop p=w++r->(∀c∈w,c∈sg.cps.toList)->w.length<fuel ->
  ∃s',bG tR (gE "place" insOf (zc 0) (Ar 1)) fuel [sR o,some (.str sg),x] s=.ok (.nx [sR o,some (.str sg),x]) s'/\Go o L s s' (p+w.length) b
 |[],p,fuel,s,h,hp,hd,_,hf=>by
  obtain ⟨f,rfl⟩:∃f,fuel=f+1:=⟨fuel-1,by simp at hf;omega⟩
  refine ⟨s,?_,Go.refl h⟩
  rw [wE]
  have T:tR [sR o,some (.str sg),x] s=.ok false s:=by
   rcases hr with q|⟨c,r',q,hc⟩
   ·have:p=L.length:=by
     rw [q] at hd
     have:=congrArg List.length hd
     simp at this;omega
    exact pU (zF (zq (jm (zg rfl) (gQ h)) (zA (zG (jm (zg rfl) (lQ h))) (len_str hl)) (uz false (by simp;omega) _)))
   ·rw [q] at hd
    obtain ⟨g1,g2,_⟩:=wN hd
    exact pV (zF (zq (jm (zg rfl) (gQ h)) (zA (zG (jm (zg rfl) (lQ h))) (len_str hl)) (uz true (by simp;omega) _))) (zF (zq (zq (jm (zg rfl) (lQ h)) (jm (zg rfl) (gQ h)) (eF hl g1)) (zg rfl) ((in_str c sg).trans (by rw [wc hc]))))
  rw [T,zC]
  rfl
 |c::w,p,fuel,s,h,hp,hd,ha,hf=>by
  obtain ⟨f,rfl⟩:∃f,fuel=f+1:=⟨fuel-1,by simp at hf;omega⟩
  obtain ⟨g1,g2,g3⟩:=wN hd
  have T:tR [sR o,some (.str sg),x] s=.ok true s:=pV (zF (zq (jm (zg rfl) (gQ h)) (zA (zG (jm (zg rfl) (lQ h))) (len_str hl)) (uz true (by simp;omega) _))) (zF (zq (zq (jm (zg rfl) (lQ h)) (jm (zg rfl) (gQ h)) (eF hl g1)) (zg rfl) ((in_str c sg).trans (by rw [kG (ha c (yj ..))]))))
  have G:Go o L s (s.set o (rd L (p+1) b)) (p+1) b:=Go.set h
  obtain ⟨s',e',G'⟩:=Ip hl hr w (p+1) f (s.set o (rd L (p+1) b)) G.at_ (by omega) g3 (λd hd=>ha d (yz _ hd)) (by simp at hf;omega)
  refine ⟨s',?_,by rw [yF,show p+(w.length+1)=p+1+w.length by omega];exact G.trans G'⟩
  rw [wE,T,zC,zp rfl,BC rfl h,zC]
  exact e'
def BH {sg:Str}{w r:List Nat}(h:s[o]?=some (rd L p b)) (hp:p<=L.length) (hl:L.length<=100000) (hd:L.drop p=w++r) (ha:∀c∈w,c∈sg.cps.toList) (hr:r=[]\/∃c r',r=c::r'/\c∉sg.cps.toList):∃s',m_ValueReader_run_of [.ref o,.str sg] s=.ok (.str (S w)) s'/\Go o L s s' (p+w.length) b:=by
 have hw:=gR (i:=0) hd hp
 obtain ⟨s',e',G⟩:=Ip (x:=sI p) hl hr w p lim s h hp hd ha (by simp [lim];omega)
 refine ⟨s',yp rfl (zu (yg (jm (zg rfl) (gQ h))) (zu e' (yo (gK (jm (zg rfl) (lQ G.at_)) (wn (zg rfl)) (wn (jm (zg rfl) (gQ G.at_))) ?_)))),G⟩
 show (if (S L).length<=lim then _ else _)=_
 rw [zp (by rw [jx];simp [lim];omega),U_ (by omega) (by rw [jx];omega)]
 have:(S L).cps.toList=L:=by simp [S]
 rw [this,hd,show p+w.length-p=w.length by omega,List.take_left]
def BI {fa fb fc:Ai}{i j k:Int}(h1:fa e s=.ok (.int i) s) (h2:fb e s=.ok (.int j) s) (h3:fc e s=.ok (.int k) s) (cM:i<=j) (c:Bool) (hc:decide (j<=k)=c):wf j6 j6 fa fb fc e s=.ok (.bl c) s:=by
 unfold wf
 rw [h1,zC,h2,zC,Fu,zC,kG cM,sA,zC,zp rfl,h3,zC,Fu,hc]
def Vc {z:Str}(h:bg z=true):∃s1,w9 [.str z] s=.ok (.bl true) s1/\Old s s1:=by
 have hz:=jK h
 have hc:∀c∈z.cps.toList,c∈abc.cps.toList:=by
  simp only [bg,y4,List.all_eq_true,jH] at h
  exact h.2
 have hn:(signs z).length=z.length:=by simp [signs,Str.length]
 obtain ⟨ys,s1,C,hy,hs⟩:=ug (fe:=(zj (yS false) (zc 0) (As "abcdefghijklmnopqrstuvwxyz"))) (env:=[some (.str z)]) (signs z) (λi ys s'=>ys=(List.replicate i true).map PV.bl/\s'=s) (λi x ys s' hx ⟨h1,h2⟩=>by
  unfold signs at hx
  rw [yP] at hx
  cases e:z.cps.toList[i]? with
  |none=>rw [e] at hx;cases hx
  |some c =>
   rw [e] at hx
   cases hx
   refine ⟨.bl true,s',zq (zg rfl) rfl ((in_str c _).trans (by rw [kG (hc c (jG e))])),?_,h2⟩
   rw [h1,List.replicate_succ',wa];rfl) (signs z).length 0 [] s (by omega) ⟨rfl,rfl⟩
 subst hs
 refine ⟨s1++[.lst ys],?_,zR _ _⟩
 have A:=sO (st:=s1++[.lst ys]) (n:=s1.length) (bs:=List.replicate (signs z).length true) (by rw [<-hy];exact yi _ _)
 rw [HX] at A
 have is:yC [.str z,.ty "str"] s1=.ok (.bl true) s1:=rfl
 have ln:yk [.str z] s1=.ok (.int (z.length:Int)) s1:=by
  show (if z.length<=lim then _ else _)=_
  rw [zp (by simp [lim];omega)]
 refine yp rfl (zu (zZ (gI (gJ (b:=true) (zF (zA (yf (zg rfl) rfl) is))) (gJ (b:=true) (zF (BI rfl (zA (zG (zg rfl)) ln) rfl (by omega) true (by simp;omega)))))) (yo (zA (zG ?_) A)))
 rw [iq]
 show bI _ _ (.im (signs z)) s1=_
 rw [x5,zp (by rw [hn];simp [lim];omega)]
 exact C
def Stop (r:List Nat):Prop:=r=[]\/∃c r',r=c::r'/\(c=44\/c=93\/c=125\/c=58)
def Stop.abc {r:List Nat} (h:Stop r):r=[]\/∃c r',r=c::r'/\c∉("abcdefghijklmnopqrstuvwxyz" : Str).cps.toList:=h.imp id λ⟨c,r',e,hc⟩=>⟨c,r',e,by
 rcases hc with q|q|q|q<;>(subst q;decide +kernel)⟩
def Stop.fig {r:List Nat} (h:Stop r):r=[]\/∃c r',r=c::r'/\c∉("0123456789" : Str).cps.toList:=h.imp id λ⟨c,r',e,hc⟩=>⟨c,r',e,by
 rcases hc with q|q|q|q<;>(subst q;decide +kernel)⟩
def BJ {z:Str}{r:List Nat}(h:s[o]?=some (rd L p b)) (hp:p<=L.length) (hl:L.length<=100000) (hd:L.drop p=z.cps.toList++r) (hz:bg z=true) (hr:Stop r):∃s',m_ValueReader_read_word [.ref o] s=.ok (.str z) s'/\Go o L s s' (p+z.cps.toList.length) b:=by
 have hc:∀c∈z.cps.toList,c∈abc.cps.toList:=by
  simp only [bg,y4,List.all_eq_true,jH] at hz
  exact hz.2
 obtain ⟨s1,e1,G1⟩:=BH (sg := "abcdefghijklmnopqrstuvwxyz") h hp hl hd hc hr.abc
 rw [lN] at e1
 obtain ⟨s2,e2,o2⟩:=Vc (s:=s1) hz
 exact ⟨s2,yp rfl (zu (yg (yW (zg rfl) h (by decide) (zp rfl) (zG rfl) e1)) (zu (zZ (gJ (b:=true) (zF (zA (zG (zg rfl)) e2)))) (yo (zg rfl)))),G1.trans (Go.old G1.at_ o2)⟩
def Iq {m c:Nat} (h:c∈dg m):c∈("0123456789" : Str).cps.toList:=by
 have:=qz m c h
 have e:("0123456789" : Str).cps.toList=[48,49,50,51,52,53,54,55,56,57]:=by decide +kernel
 rw [e]
 simp;omega
def Ir {m:Nat}(h:m<10 ^ 18):m5 [.str (S (dg m))] s=.ok (.int (m:Int)) s:=by
 have:=uu h
 unfold m5
 simp only [UI h]
 rw [zp (by rw [jx];omega)]
def Iu:("-" : Str)=S [45]:=by decide +kernel
def BK:("0" : Str)=⟨#[48]⟩:=by decide +kernel
def Vd {i:Int}{r:List Nat}(h:s[o]?=some (rd L p b)) (hp:p<=L.length) (hl:L.length<=100000) (hd:L.drop p=sgn i++r) (g:gd (.num i)) (hr:Stop r):∃s',m_ValueReader_read_number [.ref o] s=.ok (.int i) s'/\Go o L s s' (p+(sgn i).length) b:=by
 have gi : -1000000000000000000<i/\i<1000000000000000000:=g
 have hm:i.natAbs<10 ^ 18:=by omega
 have l1:=ur i.natAbs
 have l2:=uu hm
 have hlen:∀s:aa,yk [.str (S (dg i.natAbs))] s=.ok (.int ((dg i.natAbs).length:Int)) s:=λs=>len_str (by omega)
 have qG:∀(s:aa) c t,dg i.natAbs=c::t->zJ (.str (S (dg i.natAbs))) (.int 0) s=.ok (.str ⟨#[c]⟩) s:=λs c t e=>eF (p:=0) (by omega) (by rw [e];rfl)
 by_cases hi:i<0
 ·have es:sgn i=45::dg i.natAbs:=by unfold sgn;rw [zp hi]
  rw [es] at hd ⊢
  have P1:=gf h hp hl hd
  have G1:Go o L s (s.set o (rd L (p+1) b)) (p+1) b:=Go.set h
  obtain ⟨d1,d2,d3⟩:=wN hd
  obtain ⟨s2,e2,G2⟩:=BH (sg := "0123456789") G1.at_ (by omega) hl d3 (λc hc=>Iq hc) hr.fig
  obtain ⟨c,t,ec,hc⟩:=H9 (m:=i.natAbs) (by omega)
  have ne:(⟨#[c]⟩:Str) ≠ "0" := λq=>hc (by rw [BK] at q;cases q;rfl)
  refine ⟨s2,yp rfl (zu (yg (yW (zg rfl) h (by decide) (zp rfl) (zG rfl) ((congrArg (λz=>m_ValueReader_passes [.ref o,.str z] s) Iu).trans P1))) (zu (yg (yW (zg rfl) G1.at_ (by decide) (zp rfl) (zG rfl) e2)) (zu (zZ (gJ (b:=true) (zF (BI rfl (zA (zG (zg rfl)) (hlen _)) rfl (by omega) true (by simp;omega))))) (zu (zZ (pU (zF (zq (zq (zg rfl) rfl (qG _ c t ec)) rfl (eqs _ _ false (by simpa using ne) _))))) (yo ?_))))),by rw [yF,show p+((dg i.natAbs).length+1)=p+1+(dg i.natAbs).length by omega];exact G1.trans G2⟩
  rw [Eu,zF (b:=true) (zg rfl),zC,zp rfl,jm (zA (zG (zg rfl)) (Ir hm)) (Qc _)]
  rw [show -((i.natAbs:Nat):Int)=i by omega]
 ·have es:sgn i=dg i.natAbs:=by unfold sgn;rw [zD hi]
  rw [es] at hd ⊢
  cases ed:dg i.natAbs with
  |nil=>rw [ed] at l1;simp at l1
  |cons c t =>
   have hc:=qz i.natAbs c (by rw [ed];exact yj ..)
   have P1:=wM (c:=45) h hp hl (by rw [hd,ed];simp;omega)
   obtain ⟨s2,e2,G2⟩:=BH (sg := "0123456789") h hp hl hd (λc hc=>Iq hc) hr.fig
   rw [<-ed]
   have t3:(j1 (mB (zj jk (zj zJ (zc 2) (Ar 0)) (As "0"))) (jz (mB (zc 1)) (mB (zj jI (zn yk (ze (zc 2) zh)) (Ar 1))))) [sR o,some (.bl false),some (.str (S (dg i.natAbs)))] s2=.ok false s2:=by
    by_cases h0:i.natAbs=0
    ·have ll:(dg i.natAbs).length=1:=by rw [h0,H8];rfl
     have e0:dg i.natAbs=48::[]:=by rw [h0,H8]
     exact pV (zF (zq (zq (zg rfl) rfl (qG _ 48 [] e0)) rfl (eqs _ _ true (by rw [BK];simp) _))) (gI (zF (zg rfl)) (zF (zq (zA (zG (zg rfl)) (hlen _)) rfl (iG false (by rw [decide_eq_false_iff_not];omega) _))))
    ·obtain ⟨c',t',ec,cA⟩:=H9 (m:=i.natAbs) (by omega)
     have ne:(⟨#[c']⟩:Str) ≠ "0" := λq=>cA (by rw [BK] at q;cases q;rfl)
     exact pU (zF (zq (zq (zg rfl) rfl (qG _ c' t' ec)) rfl (eqs _ _ false (by simpa using ne) _)))
   refine ⟨s2,yp rfl (zu (yg (yW (zg rfl) h (by decide) (zp rfl) (zG rfl) ((congrArg (λz=>m_ValueReader_passes [.ref o,.str z] s) Iu).trans P1))) (zu (yg (yW (zg rfl) h (by decide) (zp rfl) (zG rfl) e2)) (zu (zZ (gJ (b:=true) (zF (BI rfl (zA (zG (zg rfl)) (hlen _)) rfl (by omega) true (by simp;omega))))) (zu (zZ t3) (yo ?_))))),G2⟩
   rw [Eu,zF (b:=false) (zg rfl),zC,zD (by simp),zA (zG (zg rfl)) (Ir hm)]
   rw [show ((i.natAbs:Nat):Int)=i by omega]
end
def Ve {t:Tr}(g:gd t):∃c l,tx t=c::l/\c≠93/\c≠125/\c≠44:=by
 cases t with
 |num i =>
  simp only [tx]
  unfold sgn
  split
  ·exact ⟨45,_,rfl,by decide,by decide,by decide⟩
  ·have l1:=ur i.natAbs
   cases ed:dg i.natAbs with
   |nil=>rw [ed] at l1;simp at l1
   |cons c t =>
    have hc:=qz i.natAbs c (by rw [ed];exact yj ..)
    exact ⟨c,t,rfl,by omega,by omega,by omega⟩
 |word z=>exact ⟨39,_,rfl,by decide,by decide,by decide⟩
 |row ts=>exact ⟨91,_,rfl,by decide,by decide,by decide⟩
 |rec_ ks ts=>exact ⟨123,_,rfl,by decide,by decide,by decide⟩
def Vf (i:Int):∃c l,sgn i=c::l/\c≠39/\c≠91/\c≠123:=by
 unfold sgn
 split
 ·exact ⟨45,_,rfl,by decide,by decide,by decide⟩
 ·have l1:=ur i.natAbs
  cases ed:dg i.natAbs with
  |nil=>rw [ed] at l1;simp at l1
  |cons c t =>
   have hc:=qz i.natAbs c (by rw [ed];exact yj ..)
   exact ⟨c,t,rfl,by omega,by omega,by omega⟩
def bN (a b:Str):Prop:=a.cps.toList<b.cps.toList
def Iv {ks:Ad}(nd:ks.Nodup):(ak ks).Pairwise bN:=by
 have h1:(ak ks).Pairwise (λa b=>cY a b=true):=List.pairwise_mergeSort AH FA ks
 have h2:(ak ks).Nodup:=(jd ks).nodup_iff.mpr nd
 refine List.Pairwise.imp₂ (λa b h h'=>?_) h1 h2
 unfold bN
 refine List.not_le.mp λq=>h' ?_
 exact FC h (by unfold cY;rw [jH];exact q)
def Vg {ks:Ad}{z:Str}(h:(ks++[z]).Pairwise bN):(ks++[z])[argBest (fZ (ks++[z])) ((ks++[z]).length-1)]?=some z:=by
 have key:∀k,k<(ks++[z]).length->argBest (fZ (ks++[z])) k=k:=by
  intro k
  induction k with
  |zero=>intro _;rfl
  |succ k ih =>
   intro hk
   unfold argBest
   rw [ih (by omega)]
   refine zp ?_
   unfold fZ
   rw [jH,yb hk,yb (by omega)]
   exact List.pairwise_iff_getElem.mp h k (k+1) (by omega) hk (by omega)
 rw [key _ (by simp)]
 simp
def BL {s:aa}{n:Nat}{ks:Ad}{xs:An}{z:Str}(hn:s[n]?=some (.dic (ks++[z]) xs)) (h:(ks++[z]).Pairwise bN):pZ [.ref n] s=.ok (.str z) s:=by
 show yR s n _=_
 rw [wZ hn,Vg h]
def Vh {a b:Str}(h:bN b a) (s:aa):sV (.str a) (.str b) s=.ok (.bl false) s:=by
 show Res.ok (PV.bl (!decide (b.cps.toList<a.cps.toList))) s=_
 rw [kG (show b.cps.toList<a.cps.toList from h)]
 rfl
def Iw {z:Str} (h:bg z=true):bN "" z:=by
 have:=jK h
 have e:("" : Str).cps.toList=[]:=by decide +kernel
 unfold bN
 rw [e]
 cases ez:z.cps.toList with
 |nil =>
  have:z.length=0:=by
   have e:z.cps.toList.length=z.length:=by cases z;simp [Str.length]
   rw [<-e,ez];rfl
  omega
 |cons a l=>exact List.nil_lt_cons a l
def Rp (mr:Al) (t:Tr):Prop:=∀(s:aa) (L:List Nat) (p b o:Nat) (R:List Nat) (r:List Nat),s[o]?=some (rd L p b)->p<=L.length->L.length<=100000->L.drop p=tx (cn t)++r->Stop r->b+sz t<=60->(∀x∈R,x<s.length) ->
 ∃v s1,mr [.ref o] s=.ok v s1/\Go o L s s1 (p+(tx (cn t)).length) (b+sz t)/\TR (vw R s1) (cn t) v
def qH:("'" : Str)=S [39]:=by decide +kernel
def qI:("[" : Str)=S [91]:=by decide +kernel
def uB:("]" : Str)=S [93]:=by decide +kernel
def uC:("{" : Str)=S [123]:=by decide +kernel
def qJ:("}" : Str)=S [125]:=by decide +kernel
def nH:("," : Str)=S [44]:=by decide +kernel
def Iy:(":" : Str)=S [58]:=by decide +kernel
section
variable {o:Nat} {L:List Nat} {mr:Al}
def ask {c:Nat} {z:Str} {e:zd} {s s1:aa} {p b:Nat} {x:PV} (ez:z=S [c]) (h:s[o]?=some (rd L p b)) (h0:e[0]?=some (sR o)) (hm:m_ValueReader_passes [.ref o,.str (S [c])] s=.ok x s1):(yy "passes" wI (zc 0) (ze (As z) zh)) e s=.ok x s1 :=
 yW (zg h0) h (by decide) (zp rfl) (zG rfl) ((congrArg (λz=>m_ValueReader_passes [.ref o,.str z] s) ez).trans hm)
def must {c:Nat} {z:Str} {e:zd} {s s1:aa} {p b:Nat} {x:PV} (ez:z=S [c]) (h:s[o]?=some (rd L p b)) (h0:e[0]?=some (sR o)) (hm:m_ValueReader_pass_sign [.ref o,.str (S [c])] s=.ok x s1):(yy "pass_sign" m8 (zc 0) (ze (As z) zh)) e s=.ok x s1 :=
 yW (zg h0) h (by decide) (zp rfl) (zG rfl) ((congrArg (λz=>m_ValueReader_pass_sign [.ref o,.str z] s) ez).trans hm)
def part {e:zd} {s s1:aa} {p b:Nat} {x:PV} (h:s[o]?=some (rd L p b)) (h0:e[0]?=some (sR o)) (hm:mr [.ref o] s=.ok x s1):(yy "read_part" (jY "ValueReader" mr) (zc 0) zh) e s=.ok x s1 :=
 yW (zg h0) h (by decide) w5 jE hm
def nI (ls:List (List Nat)) {c:Nat}(hc:c=93\/c=125) (r:List Nat):Stop (jt ls++c::r):=by
 cases ls with
 |nil=>exact .inr ⟨c,r,rfl,by omega⟩
 |cons l ls=>exact .inr ⟨44,_,rfl,by omega⟩
def gh {c d:Nat}{l:List Nat}(h:c≠d):(c::l).take 1≠[d]:=by simp [h]
abbrev tC:Ak:=(mB (yy "passes" wI (zc 0) (ze (As ",") zh)))
theorem Iz {a:aa}{l:Nat}{R:List Nat}{r:List Nat}(hL:L.length<=100000) (ho:o<a.length) (Vi:a.length<=l) (hR:∀x∈R,x<a.length):∀(us nJ:List Tr) (fuel p b:Nat) (s:aa) (ys:An),(∀t∈us,Rp mr t)->Go o L a s p b->p<=L.length->s[l]?=some (.lst ys)->aW (vw R s) (nJ.map cn) ys->L.drop p=jt (us.map λt=>tx (cn t))++93::r->b+aQ us<=60->us.length<fuel->nJ.length+us.length<=1000 ->
  ∃s' bO,bG tC (yU (ju jW (zc 1) (yy "read_part" (jY "ValueReader" mr) (zc 0) zh))) fuel [sR o,sR l] s=.ok (.nx [sR o,sR l]) s'/\Go o L a s' (p+(jt (us.map λt=>tx (cn t))).length) (b+aQ us)/\s'[l]?=some (.lst bO)/\aW (vw R s') ((nJ++us).map cn) bO
 |[],nJ,fuel,p,b,s,ys,hm,G,hp,hl,tr,hd,hb,hf,hz=>by
  obtain ⟨f,rfl⟩:∃f,fuel=f+1:=⟨fuel-1,by simp at hf;omega⟩
  refine ⟨s,ys,?_,by simpa [jt,aQ] using G,hl,by simpa using tr⟩
  have T:tC [sR o,sR l] s=.ok false s:=zF (ask nH G.at_ rfl (wM G.at_ hp hL (by rw [hd];exact gh (by decide))))
  rw [wE,T,zC]
  rfl
 |t::us,nJ,fuel,p,b,s,ys,hm,G,hp,hl,tr,hd,hb,hf,hz=>by
  obtain ⟨f,rfl⟩:∃f,fuel=f+1:=⟨fuel-1,by simp at hf;omega⟩
  simp only [aQ] at hb
  have aY:L.drop p=44::(tx (cn t)++(jt (us.map λt=>tx (cn t))++93::r)):=by rw [hd];simp [jt]
  obtain ⟨g1,g2,g3⟩:=wN aY
  have T:tC [sR o,sR l] s=.ok true (s.set o (rd L (p+1) b)):=zF (ask nH G.at_ rfl (gf G.at_ hp hL aY))
  have G1:Go o L s (s.set o (rd L (p+1) b)) (p+1) b:=Go.set G.at_
  obtain ⟨v,s2,e2,G2,tv⟩:=hm t (yj ..) _ L (p+1) b o R _ G1.at_ (by omega) hL g3 (nI _ (.inl rfl) r) (by omega) (λx hx=>G1.lt (G.lt (hR x hx)))
  have lo:l≠o:=by omega
  have IA:=G1.ob l _ lo hl
  have hl2:=G2.ob l _ lo IA
  have IB:=tr.len
  have B:yU (ju jW (zc 1) (yy "read_part" (jY "ValueReader" mr) (zc 0) zh)) [sR o,sR l] (s.set o (rd L (p+1) b))=.ok (.nx [sR o,sR l]) (s2.set l (.lst (ys++[v]))):=wF (sQ (zg rfl) IA (part G1.at_ rfl e2) (by rw [x8,yr hl2,zp (by simp at IB;simp [lim] at hz ⊢;omega)]))
  have D3:Dk (vw R s2) (vw R (s2.set l (.lst (ys++[v])))):=qE λn ks xs hn e=>⟨hn,by rw [yN (λq=>by rw [<-q,hl2] at e;cases e)];exact e⟩
  have G3:Go o L a (s2.set l (.lst (ys++[v]))) (p+1+(tx (cn t)).length) (b+sz t):=⟨by rw [yN lo];exact G2.at_,λn so hn e=>by
   rw [yN (by have:=yD e;omega)]
   exact G2.ob n so hn (G1.ob n so hn (G.ob n so hn e))⟩
  obtain ⟨s',bO,e',G',eY,gT⟩:=Iz (r:=r) hL ho Vi hR us (nJ++[t]) f (p+1+(tx (cn t)).length) (b+sz t) _ (ys++[v]) (λu hu=>hm u (yz _ hu)) G3 (gR (i:=0) g3 (by omega)) (jf (yD hl2)) (by
   rw [wa]
   exact (aW.mono D3 _ (aW.mono (G2.vw G1.at_) _ (aW.mono (G1.vw G.at_) _ tr))).append ⟨v,[],rfl,TR.mono D3 _ tv,rfl⟩) (f_ g3) (by omega) (by simp at hf;omega) (by simp at hz ⊢;omega)
  refine ⟨s',bO,?_,?_,eY,by simpa using gT⟩
  ·rw [wE,T,zC,zp rfl,B,zC]
   exact e'
  ·have q1:p+(jt ((t::us).map λt=>tx (cn t))).length=p+1+(tx (cn t)).length+(jt (us.map λt=>tx (cn t))).length:=by simp [jt];omega
   have q2:b+aQ (t::us)=b+sz t+aQ us:=by simp only [aQ];omega
   rw [q1,q2]
   exact G'
def Vj {s:aa}{p b:Nat}{R r:List Nat}{ts:List Tr}(h:s[o]?=some (rd L p b)) (hp:p<=L.length) (hL:L.length<=100000) (hg:∀t∈ts,gd t) (hm:∀t∈ts,Rp mr t) (hR:∀x∈R,x<s.length) (hd:L.drop p=jn (ts.map λt=>tx (cn t))++93::r) (hb:b+aQ ts<=60) :
  ∃ys s1,m_ValueReader_read_row mr [.ref o] s=.ok (.tup ys) s1/\Go o L s s1 (p+(jn (ts.map λt=>tx (cn t))).length+1) (b+aQ ts)/\aW (vw R s1) (ts.map cn) ys:=by
 cases ts with
 |nil =>
  have aY:L.drop p=93::r:=hd
  exact ⟨[],_,yp rfl (jc (yV (zF (ask uB h rfl (gf h hp hL aY))) (yo (j8 jE (by simp))))),Go.set h,rfl⟩
 |cons t us =>
  have gt:=HY jd (hg t (yj ..))
  simp only [aQ] at hb
  have aY:L.drop p=tx (cn t)++(jt (us.map λt=>tx (cn t))++93::r):=by rw [hd];simp [jn]
  obtain ⟨c,l,ec,n1,_,_⟩:=Ve gt
  have F:=wM (c:=93) h hp hL (by rw [aY,ec];exact gh n1)
  obtain ⟨v,s2,e2,G2,tv⟩:=hm t (yj ..) s L p b o R _ h hp hL aY (nI _ (.inl rfl) r) (by omega) hR
  have so:o<s.length:=yD h
  have Vk:s.length<=s2.length:=by
   rcases Nat.eq_zero_or_pos s.length with q|q
   ·omega
   ·have:=G2.lt (n:=s.length-1) (by omega);omega
  have un:=iE us
  obtain ⟨s',bO,e',G',eY,gT⟩:=Iz (mr:=mr) (a:=s) (l:=s2.length) (R:=R) (r:=r) hL so Vk hR us [t] lim (p+(tx (cn t)).length) (b+sz t) (s2++[.lst [v]]) [v] (λu hu=>hm u (yz _ hu)) (G2.trans (Go.old G2.at_ (zR _ _))) (gR (i:=0) aY hp) (yi _ _) ⟨v,[],rfl,TR.mono (UT (zR _ _)) _ tv,rfl⟩ (f_ aY) (by omega) (by simp [lim];omega) (by simp;omega)
  have eJ:p+(tx (cn t)).length+(jt (us.map λt=>tx (cn t))).length<=L.length:=by
   have:=gR (i:=0) (l:=tx (cn t)++jt (us.map λt=>tx (cn t))) (r:=93::r) (by rw [aY];simp) hp
   simp at this ⊢;omega
  have hd2:L.drop (p+(tx (cn t)).length+(jt (us.map λt=>tx (cn t))).length)=93::r:=f_ (f_ aY)
  have P:=BG G'.at_ eJ hL hd2
  have lo:s2.length≠o:=by omega
  have Vl:(s'.set o (rd L (p+(tx (cn t)).length+(jt (us.map λt=>tx (cn t))).length+1) (b+sz t+aQ us)))[s2.length]?=some (.lst bO):=by rw [yN (yL lo)];exact eY
  have G3:=Go.set (p':=p+(tx (cn t)).length+(jt (us.map λt=>tx (cn t))).length+1) (b':=b+sz t+aQ us) G'.at_
  refine ⟨bO,_,yp rfl (zu (zZ (zF (ask uB h rfl F))) (zu (yg (iB (zG (part h rfl e2)) (by simp))) (zu e' (zu (wF (must uB G'.at_ rfl P)) (yo (zA (zG (zg rfl)) (by rw [x6,yr Vl]))))))),?_,aW.mono (G3.vw G'.at_) _ (by simpa using gT)⟩
  have q1:p+(jn ((t::us).map λt=>tx (cn t))).length+1=p+(tx (cn t)).length+(jt (us.map λt=>tx (cn t))).length+1:=by simp [jn];omega
  have q2:b+aQ (t::us)=b+sz t+aQ us:=by simp only [aQ];omega
  rw [q1,q2]
  exact G'.trans G3
end
section
variable {o:Nat} {L:List Nat} {mr:Al}
def uD {a s:aa}{p b q:Nat}{R r:List Nat}{k last:Str}{t:Tr}{kd:Ad}{us:List Tr}{ys:An}(hL:L.length<=100000) (ho:o<a.length) (nK:a.length<=q) (hR:∀x∈R,x<a.length) (G:Go o L a s p b) (hp:p<=L.length) (hq:s[q]?=some (.dic kd ys)) (tr:aW (vw (q::R) s) us ys)
  (hk:bg k=true) (hm:Rp mr t) (hd:L.drop p=ent k (tx (cn t))++r) (hr:Stop r) (hb:b+sz t<=60) (lR:bN last k) (hn:k∉kd) (hl:kd.length<=1000) :
  ∃s' v,m_ValueReader_read_entry mr [.ref o,.ref q,.str last] s=.ok .non s'/\Go o L a s' (p+(ent k (tx (cn t))).length) (b+sz t)/\s'[q]?=some (.dic (kd++[k]) (ys++[v]))/\aW (vw (q::R) s') (us++[cn t]) (ys++[v]):=by
 have BM:L.drop p=k.cps.toList++(58::(tx (cn t)++r)):=by rw [hd];simp [ent]
 obtain ⟨s1,e1,G1⟩:=BJ G.at_ hp hL BM hk (.inr ⟨58,_,rfl,by omega⟩)
 have Vm:=gR (i:=0) BM hp
 have hd2:=f_ BM
 obtain ⟨g1,g2,g3⟩:=wN hd2
 have P:=BG G1.at_ Vm hL hd2
 have G2:Go o L s1 _ (p+k.cps.toList.length+1) b:=Go.set G1.at_
 have oq:q≠o:=by omega
 have dU:=G2.ob q _ oq (G1.ob q _ oq hq)
 obtain ⟨v,s3,e3,G3,tv⟩:=hm _ L _ b o (q::R) r G2.at_ (by omega) hL g3 hr hb (λx hx=>by
  rcases yE.mp hx with e|e
  ·rw [e];exact yD dU
  ·exact G2.lt (G1.lt (G.lt (hR x e))))
 have IC:=G3.ob q _ oq dU
 have W:=UY (fo:=zc 1) (fi:=zc 3) (e:=[sR o,sR q,some (.str last),some (.str k)]) (part (mr:=mr) G2.at_ rfl e3) (zg rfl) (zg rfl) IC hn hl
 refine ⟨_,v,BD rfl (zu (yg (yW (zg rfl) G.at_ (by decide) (zp rfl) jE e1)) (zu (zZ (zF (zq (zg rfl) (zg rfl) (Vh lR s1)))) (zu (wF (must Iy G1.at_ rfl P)) W))),⟨?_,λn so fC e=>?_⟩,jf (yD IC),aW.mono (UW _) _ ((aW.mono (G3.vw G2.at_) _ (aW.mono (G2.vw G1.at_) _ (aW.mono (G1.vw G.at_) _ tr))).append ⟨v,[],rfl,tv,rfl⟩)⟩
 ·rw [yN oq,G3.at_]
  have:p+(ent k (tx (cn t))).length=p+k.cps.toList.length+1+(tx (cn t)).length:=by simp [ent];omega
  rw [this]
 ·rw [yN (by have:=yD e;omega)]
  exact G3.ob n so fC (G2.ob n so fC (G1.ob n so fC (G.ob n so fC e)))
abbrev bE (mr:Al):Aj:=(yU (yy "read_entry" (jY "ValueReader" (m_ValueReader_read_entry mr)) (zc 0) (ze (zc 1) (ze (zn pZ (ze (zc 1) zh)) zh))))
theorem ID {a:aa}{q:Nat}{R r:List Nat}{f:Str->Tr}(hL:L.length<=100000) (ho:o<a.length) (nK:a.length<=q) (hR:∀x∈R,x<a.length):∀(kr kd:Ad) (k0:Str) (fuel p b:Nat) (s:aa) (ys:An),(∀k∈kr,bg k=true/\Rp mr (f k))->Go o L a s p b->p<=L.length->s[q]?=some (.dic (kd++[k0]) ys)->aW (vw (q::R) s) ((kd++[k0]).map λk=>cn (f k)) ys->(kd++[k0]++kr).Pairwise bN->(kd++[k0]++kr).Nodup->L.drop p=jt (kr.map λk=>ent k (tx (cn (f k))))++125::r->b+aQ (kr.map f)<=60->kr.length<fuel->kd.length+kr.length<=900 ->
  ∃s' bO,bG tC (bE mr) fuel [sR o,sR q] s=.ok (.nx [sR o,sR q]) s'/\Go o L a s' (p+(jt (kr.map λk=>ent k (tx (cn (f k))))).length) (b+aQ (kr.map f))/\s'[q]?=some (.dic (kd++[k0]++kr) bO)/\aW (vw (q::R) s') ((kd++[k0]++kr).map λk=>cn (f k)) bO
 |[],kd,k0,fuel,p,b,s,ys,hm,G,hp,hq,tr,pw,nd,hd,hb,hf,hz=>by
  obtain ⟨f,rfl⟩:∃f,fuel=f+1:=⟨fuel-1,by simp at hf;omega⟩
  refine ⟨s,ys,?_,by simpa [jt,aQ] using G,by simpa using hq,by simpa using tr⟩
  have T:tC [sR o,sR q] s=.ok false s:=zF (ask nH G.at_ rfl (wM G.at_ hp hL (by rw [hd];exact gh (by decide))))
  rw [wE,T,zC]
  rfl
 |k::kr,kd,k0,fuel,p,b,s,ys,hm,G,hp,hq,tr,pw,nd,hd,hb,hf,hz=>by
  obtain ⟨fl,rfl⟩:∃f,fuel=f+1:=⟨fuel-1,by simp at hf;omega⟩
  simp only [ye,aQ] at hb
  have aY:L.drop p=44::(ent k (tx (cn (f k)))++(jt (kr.map λk=>ent k (tx (cn (f k))))++125::r)):=by rw [hd];simp [jt]
  obtain ⟨g1,g2,g3⟩:=wN aY
  have T:tC [sR o,sR q] s=.ok true (s.set o (rd L (p+1) b)):=zF (ask nH G.at_ rfl (gf G.at_ hp hL aY))
  have G1:Go o L s (s.set o (rd L (p+1) b)) (p+1) b:=Go.set G.at_
  have oq:q≠o:=by omega
  have c7:=G1.ob q _ oq hq
  obtain ⟨hk,lS⟩:=hm k (yj ..)
  have qK:(kd++[k0]).Pairwise bN:=(List.pairwise_append.mp pw).1
  have kC:bN k0 k:=(List.pairwise_append.mp pw).2.2 k0 (by simp) k (yj ..)
  have nk:k∉kd++[k0]:=λh=>(List.nodup_append.mp nd).2.2 k h k (yj ..) rfl
  obtain ⟨s2,v,e2,G2,dU,BN⟩:=uD (mr:=mr) (a:=a) (last:=k0) hL ho nK hR (G.trans G1) (by omega) c7 (aW.mono (G1.vw G.at_) _ tr) hk lS g3 (nI _ (.inr rfl) r) (by omega) kC nk (by simp at hz ⊢;omega)
  have B:bE mr [sR o,sR q] (s.set o (rd L (p+1) b))=.ok (.nx [sR o,sR q]) s2:=wF (yW (zg rfl) G1.at_ (by decide) w5 (yf (zg rfl) (zA (zG (zg rfl)) (BL c7 qK))) e2)
  obtain ⟨s',bO,e',G',hq',gT⟩:=ID (r:=r) hL ho nK hR kr (kd++[k0]) k fl (p+1+(ent k (tx (cn (f k)))).length) (b+sz (f k)) s2 (ys++[v]) (λu hu=>hm u (yz _ hu)) G2 (gR (i:=0) g3 (by omega)) dU (by rw [wa];exact BN) (by simpa using pw) (by simpa using nd) (f_ g3) (by omega) (by simp at hf;omega) (by simp at hz ⊢;omega)
  refine ⟨s',bO,?_,?_,by simpa using hq',by simpa using gT⟩
  ·rw [wE,T,zC,zp rfl,B,zC]
   exact e'
  ·have q1:p+(jt ((k::kr).map λk=>ent k (tx (cn (f k))))).length=p+1+(ent k (tx (cn (f k)))).length+(jt (kr.map λk=>ent k (tx (cn (f k))))).length:=by simp [jt];omega
   have q2:b+aQ ((k::kr).map f)=b+sz (f k)+aQ (kr.map f):=by simp only [ye,aQ];omega
   rw [q1,q2]
   exact G'
def Vn {s:aa}{p b:Nat}{R r:List Nat}{ks:Ad}{f:Str->Tr}(h:s[o]?=some (rd L p b)) (hp:p<=L.length) (hL:L.length<=100000) (hm:∀k∈ks,bg k=true/\Rp mr (f k)) (hR:∀x∈R,x<s.length) (pw:ks.Pairwise bN) (nd:ks.Nodup) (hd:L.drop p=jn (ks.map λk=>ent k (tx (cn (f k))))++125::r) (hb:b+aQ (ks.map f)<=60) :
  ∃v s1,m_ValueReader_read_record mr [.ref o] s=.ok v s1/\Go o L s s1 (p+(jn (ks.map λk=>ent k (tx (cn (f k))))).length+1) (b+aQ (ks.map f))/\TR (vw R s1) (.rec_ ks (ks.map λk=>cn (f k))) v:=by
 have so:o<s.length:=yD h
 cases ks with
 |nil =>
  have aY:L.drop p=125::r:=hd
  have G1:Go o L s (s.set o (rd L (p+1) b)) (p+1) b:=Go.set h
  have ls:s.length∉R:=λq=>by have:=hR _ q;omega
  refine ⟨.ref (s.set o (rd L (p+1) b)).length,_,yp rfl (jc (yV (zF (ask qJ h rfl (gf h hp hL aY))) (yo rfl))),G1.trans (Go.old G1.at_ (zR _ _)),?_⟩
  exact ⟨_,[],rfl,nG.mpr ⟨by rw [List.length_set];exact ls,yi _ _⟩,.nil,rfl,rfl,λ_ h=>nomatch h⟩
 |cons k kr =>
  simp only [ye,aQ] at hb
  obtain ⟨hk,lS⟩:=hm k (yj ..)
  have aY:L.drop p=ent k (tx (cn (f k)))++(jt (kr.map λk=>ent k (tx (cn (f k))))++125::r):=by rw [hd];simp [jn]
  have BO:∃c l,k.cps.toList=c::l/\c≠125:=by
   have hc:∀c∈k.cps.toList,c∈abc.cps.toList:=by
    simp only [bg,y4,List.all_eq_true,jH] at hk
    exact hk.2
   cases ek:k.cps.toList with
   |nil =>
    have:=jK hk
    have e:k.cps.toList.length=k.length:=by cases k;simp [Str.length]
    rw [ek] at e;simp at e;omega
   |cons c l=>exact ⟨c,l,rfl,λq=>by
     have:=hc c (by rw [ek];exact yj ..)
     rw [q] at this
     exact absurd this (by decide +kernel)⟩
  obtain ⟨c,l,ec,n1⟩:=BO
  have F:=wM (c:=125) h hp hL (by rw [aY];simp only [ent,ec,List.cons_append];exact gh n1)
  have G0:Go o L s (s++[.dic [] []]) p b:=Go.old h (zR _ _)
  obtain ⟨s1,v,e1,G1,c7,BP⟩:=uD (mr:=mr) (a:=s) (q:=s.length) (R:=R) (last := "") (us:=[]) (ys:=[]) hL so (z0 _) hR G0 hp (yi _ _) rfl hk lS aY (nI _ (.inr rfl) r) (by omega) (Iw hk) (by simp) (by simp)
  have kn:=iE (kr.map f)
  rw [y3] at kn
  obtain ⟨s',bO,e',G',hq',gT⟩:=ID (mr:=mr) (a:=s) (q:=s.length) (R:=R) (r:=r) (f:=f) hL so (z0 _) hR kr [] k lim (p+(ent k (tx (cn (f k)))).length) (b+sz (f k)) s1 [v] (λu hu=>hm u (yz _ hu)) G1 (gR (i:=0) aY hp) c7 BP (by simpa using pw) (by simpa using nd) (f_ aY) (by omega) (by simp [lim];omega) (by simp;omega)
  have eJ:p+(ent k (tx (cn (f k)))).length+(jt (kr.map λk=>ent k (tx (cn (f k))))).length<=L.length:=by
   have:=gR (i:=0) (l:=ent k (tx (cn (f k)))++jt (kr.map λk=>ent k (tx (cn (f k))))) (r:=125::r) (by rw [aY];simp) hp
   simp at this ⊢;omega
  have hd2:L.drop (p+(ent k (tx (cn (f k)))).length+(jt (kr.map λk=>ent k (tx (cn (f k))))).length)=125::r:=f_ (f_ aY)
  have P:=BG G'.at_ eJ hL hd2
  have G3:=Go.set (p':=p+(ent k (tx (cn (f k)))).length+(jt (kr.map λk=>ent k (tx (cn (f k))))).length+1) (b':=b+sz (f k)+aQ (kr.map f)) G'.at_
  have Vo:s.length≠o:=by omega
  have ls:s.length∉R:=λq=>by have:=hR _ q;omega
  refine ⟨.ref s.length,_,yp rfl (zu (zZ (zF (ask qJ h rfl F))) (zu (yg rfl) (zu (wF (yW (zg rfl) G0.at_ (by decide) w5 (yf (zg rfl) rfl) e1)) (zu e' (zu (wF (must qJ G'.at_ rfl P)) (yo (zg rfl))))))),?_,?_⟩
  ·have q1:p+(jn ((k::kr).map λk=>ent k (tx (cn (f k))))).length+1=p+(ent k (tx (cn (f k)))).length+(jt (kr.map λk=>ent k (tx (cn (f k))))).length+1:=by simp [jn];omega
   have q2:b+aQ ((k::kr).map f)=b+sz (f k)+aQ (kr.map f):=by simp only [ye,aQ];omega
   rw [q1,q2]
   exact G'.trans G3
  ·have tl:=gT.len
   exact ⟨s.length,bO,rfl,nG.mpr ⟨ls,by rw [yN (yL Vo)];simpa using hq'⟩,nd,by simpa using tl,aW.mono UX _ (aW.mono (G3.vw G'.at_) _ (by simpa using gT)),λz hz=>by have:=jK (hm z hz).1;omega⟩
end
def IE:∀(n:Nat) (t:Tr),dp t<n->gd t->Rp (wJ n) t:=by
 intro n
 induction n with
 |zero=>intro t h;omega
 |succ n ih =>
  intro t IF g s L p b o R r h hp hL hd hr hb hR
  show ∃v s1,m_ValueReader_read_part (wJ n) [.ref o] s=_/\_
  have sp:=tU t
  have G1:Go o L s (s.set o (rd L p (b+1))) p (b+1):=Go.set h
  have R1:∀x∈R,x<(s.set o (rd L p (b+1))).length:=λx hx=>G1.lt (hR x hx)
  have A:∀{X:Res Fl},G8 (wJ n) [sR o] (s.set o (rd L p (b+1)))=X->G9 (wJ n) [sR o] s=X:=λhx=>zu (Io rfl h) (zu (zZ (zF (zq (jm (zg rfl) (Il G1.at_)) rfl (iG false (by rw [decide_eq_false_iff_not];omega) _)))) hx)
  cases t with
  |num i =>
   obtain ⟨c,l,ec,n1,n2,n3⟩:=Vf i
   have aY:L.drop p=sgn i++r:=hd
   have F:∀d,c≠d->m_ValueReader_passes [.ref o,.str (S [d])] (s.set o (rd L p (b+1)))=.ok (.bl false) (s.set o (rd L p (b+1))):=λd mM=>wM G1.at_ hp hL (by rw [aY,ec];exact gh mM)
   obtain ⟨s2,e2,G2⟩:=Vd G1.at_ hp hL aY g hr
   exact ⟨.int i,s2,yp rfl (A (zu (zZ (zF (ask qH G1.at_ rfl (F 39 n1)))) (zu (zZ (zF (ask qI G1.at_ rfl (F 91 n2)))) (zu (zZ (zF (ask uC G1.at_ rfl (F 123 n3)))) (yo (yW (zg rfl) G1.at_ (by decide) (zp rfl) jE e2)))))),G1.trans G2,rfl⟩
  |word z =>
   have aY:L.drop p=39::(z.cps.toList++r):=hd
   obtain ⟨g1,g2,g3⟩:=wN aY
   have P:=gf G1.at_ hp hL aY
   have G2:=Go.set (p':=p+1) (b':=b+1) G1.at_
   obtain ⟨s2,e2,G3⟩:=BJ G2.at_ (by omega) hL g3 g hr
   refine ⟨.str z,s2,yp rfl (A (jc (yV (zF (ask qH G1.at_ rfl P)) (yo (yW (zg rfl) G2.at_ (by decide) (zp rfl) jE e2))))),?_,rfl,by have:=jK (z:=z) g;omega⟩
   have q1:p+(tx (cn (.word z))).length=p+1+z.cps.toList.length:=by simp [cn,od,tx];omega
   rw [q1]
   exact G1.trans (G2.trans G3)
  |row ts =>
   have aY:L.drop p=91::(jn (ts.map λt=>tx (cn t))++93::r):=by rw [hd];simp [cn,od,kB,nF,List.map_map,Function.comp_def]
   obtain ⟨g1,g2,g3⟩:=wN aY
   simp only [dp] at IF
   simp only [sz] at hb
   have P:=gf G1.at_ hp hL aY
   have F:=wM (c:=39) G1.at_ hp hL (by rw [aY];exact gh (by decide))
   have G2:=Go.set (p':=p+1) (b':=b+1) G1.at_
   have g':=gP.mp g
   obtain ⟨ys,s2,e2,G3,tr⟩:=Vj (R:=R) G2.at_ (by omega) hL g' (λt ht=>ih t (by have:=iD ht;omega) (g' t ht)) (λx hx=>G2.lt (R1 x hx)) g3 (by omega)
   refine ⟨.tup ys,s2,yp rfl (A (zu (zZ (zF (ask qH G1.at_ rfl F))) (jc (yV (zF (ask qI G1.at_ rfl P)) (yo (yW (zg rfl) G2.at_ (by decide) w5 jE e2)))))),?_,?_⟩
   ·have q1:p+(tx (cn (.row ts))).length=p+1+(jn (ts.map λt=>tx (cn t))).length+1:=by simp [cn,od,kB,nF,List.map_map,Function.comp_def];omega
    have q2:b+sz (.row ts)=b+1+aQ ts:=by simp only [sz];omega
    rw [q1,q2]
    exact G1.trans (G2.trans G3)
   ·simp only [cn,od,kB]
    exact ⟨ys,rfl,tr⟩
  |rec_ ks ts =>
   simp only [dp] at IF
   simp only [sz] at hb
   obtain ⟨nd,hl,hw,gg⟩:=g
   obtain ⟨f,rfl⟩:=uh nd hl
   have g':=gP.mp gg
   have aY:L.drop p=123::(jn ((ak ks).map λk=>ent k (tx (cn (f k))))++125::r):=by rw [hd,qD];simp
   obtain ⟨g1,g2,g3⟩:=wN aY
   have P:=gf G1.at_ hp hL aY
   have F1:=wM (c:=39) G1.at_ hp hL (by rw [aY];exact gh (by decide))
   have F2:=wM (c:=91) G1.at_ hp hL (by rw [aY];exact gh (by decide))
   have G2:=Go.set (p':=p+1) (b':=b+1) G1.at_
   have Vp:aQ ((ak ks).map f)=aQ (ks.map f):=uk ((jd ks).map f)
   obtain ⟨v,s2,e2,G3,tr⟩:=Vn (mr:=wJ n) (R:=R) (r:=r) (f:=f) G2.at_ (by omega) hL (λk hk=>⟨hw k (jd.sub ks k hk),ih (f k) (by have:=iD (List.mem_map_of_mem (f:=f) (jd.sub ks k hk));omega) (g' _ (List.mem_map_of_mem (jd.sub ks k hk)))⟩) (λx hx=>G2.lt (R1 x hx)) (Iv nd) ((jd ks).nodup_iff.mpr nd) g3 (by omega)
   refine ⟨v,s2,yp rfl (A (zu (zZ (zF (ask qH G1.at_ rfl F1))) (zu (zZ (zF (ask qI G1.at_ rfl F2))) (jc (yV (zF (ask uC G1.at_ rfl P)) (yo (yW (zg rfl) G2.at_ (by decide) w5 jE e2))))))),?_,?_⟩
   ·have q1:p+(tx (cn (.rec_ ks (ks.map f)))).length=p+1+(jn ((ak ks).map λk=>ent k (tx (cn (f k))))).length+1:=by rw [qD];simp;omega
    have q2:b+sz (.rec_ ks (ks.map f))=b+1+aQ ((ak ks).map f):=by rw [Vp];simp only [sz];omega
    rw [q1,q2]
    exact G1.trans (G2.trans G3)
   ·rw [cn,qy (jd.sub ks)]
    exact tr
def BQ {f:Str} {fv:Ai} {e:zd} {st:aa} {ks:Ad} {xs:An} {x:PV} {X:SO} (hv:fv e (st++[SO.ins "ValueReader" ks xs])=.ok x (st++[SO.ins "ValueReader" ks xs])) (h0:e[0]?=some (sR st.length)) (hl:ks.length<1000) (hX:SO.ins "ValueReader" (Mi.putK f x ks xs).1 (Mi.putK f x ks xs).2=X):Mi.sFld f insOf (zc 0) fv e (st++[SO.ins "ValueReader" ks xs])=.ok (.nx e) (st++[X]):=by
 unfold Mi.sFld
 rw [hv,zC,zg h0,zC]
 show (yJ _ st.length _).bind _=_
 unfold yJ
 rw [yi]
 simp only
 rw [zp ⟨kD,hl⟩,zC,hX]
 simp
def IG (L:List Nat) (st:aa):fS "ValueReader" tN [.str (S L)] st=.ok (.ref st.length) (st++[rd L 0 0]):=by
 have I:tN [.ref st.length,.str (S L)] (st++[.ins "ValueReader" [] []])=.ok .non (st++[rd L 0 0]) :=
  BD (e:=[sR st.length,some (.str (S L))]) rfl (zu (BQ (X:=.ins "ValueReader" ["text"] [.str (S L)]) (zg rfl) rfl (by decide) rfl) (zu (BQ (X:=.ins "ValueReader" ["text", "place"] [.str (S L),.int 0]) rfl rfl (by decide) rfl) (BQ (X:=rd L 0 0) rfl rfl (by decide) rfl)))
 unfold fS
 rw [I,zC]
 rfl
def Vq {t:Tr}(g:gd t) (hd:dp t<3) (hz:sz t<=60) (st:aa):∃v s1,ky [.str (S (tx (cn t)))] st=.ok v s1/\TR s1 (cn t) v/\Old st s1:=by
 have hl:=ux g
 have h0:(st++[rd (tx (cn t)) 0 0])[st.length]?=some (rd (tx (cn t)) 0 0):=yi _ _
 obtain ⟨v,s1,e1,G,tv⟩:=IE 3 t hd g (st++[rd (tx (cn t)) 0 0]) (tx (cn t)) 0 0 st.length [] [] h0 (jh _) (by omega) (by simp) (.inl rfl) (by omega) (λ_ h=>nomatch h)
 refine ⟨v,s1,yp rfl (zu (zZ (gJ (b:=true) (zF (zA (yf (zg rfl) rfl) (show yC [.str (S (tx (cn t))),.ty "str"] st=.ok (.bl true) st from rfl))))) (zu (yg (zA (zG (zg rfl)) (IG _ st))) (zu (yg (yW (zg rfl) h0 (by decide) w5 jE e1)) (zu (zZ (zF (zq (jm (zg rfl) (gQ G.at_)) (zA (zG (zg rfl)) (len_str (by omega))) (uz false (by rw [decide_eq_false_iff_not];omega) _)))) (yo (zg rfl)))))),TR.mono UU _ tv,λn so e=>G.ob n so (by have:=yD e;omega) (zR _ _ n so e)⟩
def uE {f:Ai}{gt:PV->zd->Option zd}{body:Aj}{e:zd}{s s1:aa}{r:Nat}{xs:An}{X:Res Fl}(h:f e s=.ok (.ref r) s1) (hr:s1[r]?=some (.lst xs)) (hX:forR gt body r (lim+1) 0 e s1=X):js (yA f) gt body e s=X:=by
 rw [Ez,il,h,zC]
 simp only [d_]
 rw [yr hr]
 exact hX
def Vr:∃B:Int,B≠0/\∀st:aa,mK (.int 2147483647) (.int 60) st=.ok (.int B) st:=by
 refine ⟨(2147483647:Int) ^ (60:Int).toNat,by decide +kernel,λst=>?_⟩
 have cp:g0 2147483647 60=true:=by decide +kernel
 show (if g0 2147483647 60=true then Res.ok (PV.int ((2147483647:Int) ^ (60:Int).toNat)) st else .stuck)=_
 rw [zp cp]
def IH {e:zd}{s:aa}{d:Nat}{l:List Int}{fa fb:Ai}{i:Int}(h:fa e s=.ok (.ref d) s) (hd:s[d]?=some (.lst (l.map PV.int))) (h':fb e s=.ok (.int i) s) (hl:l.length<=10000):yU (ju jW fa fb) e s=.ok (.nx e) (s.set d (.lst ((l++[i]).map PV.int))) :=
 wF (sQ h hd h' (show jW (.ref d) (.int i) s=.ok .non (s.set d (.lst ((l++[i]).map PV.int))) by rw [x8,yr hd,zp (by simp [lim];omega)];simp))
abbrev BR:Aj:=(zQ (jz (mB (zj jk (zc 4) (Ar 0))) (mB (zj jI (zc 3) (Ar 0))))
  (zt (yU (ju jW (zc 1) (zj yY (zc 3) (Ar 2147483647))))
  (zV 3 (zj wR (zc 3) (Ar 2147483647))))
  zT)
def Vs {e:zd}{s:aa}{i j:Int}(h4:e[4]?=some (some (.int i))) (h3:e[3]?=some (some (.int j))):∃b,(jz (mB (zj jk (zc 4) (Ar 0))) (mB (zj jI (zc 3) (Ar 0)))) e s=.ok b s:=by
 by_cases h:i=0
 ·exact ⟨true,RE (zF (zq (zg h4) rfl (f9 true (by simpa using h) _)))⟩
 ·exact ⟨_,gI (zF (zq (zg h4) rfl (f9 false (by simpa using h) _))) (zF (zq (zg h3) rfl (Fv _ _)))⟩
def Vt {d:Nat}{x0 x2 x4:Ao}{i:Int}{l:List Int}{s:aa}(hd:s[d]?=some (.lst (l.map PV.int))) (hl:l.length<=9000):∃e' s',js (bJ (ze (Ar 60) zh)) (gN 4) BR [x0,sR d,x2,some (.int i),x4] s=.ok (.nx e') s'/\(∃j qL,e'=[x0,sR d,x2,some (.int j),qL])/\(∃l':List Int,s'[d]?=some (.lst (l'.map PV.int))/\l'.length<=l.length+60)/\Ob d s s':=by
 obtain ⟨e',s',F,h1,h2,h3⟩:=uA (gt:=gN 4) (body:=BR) (fs:=ze (Ar 60) zh) (e:=[x0,sR d,x2,some (.int i),x4]) (st:=s) (λk e s'=>(∃(j:Int) (qL:Ao),e=[x0,some (PV.ref d),x2,some (PV.int j),qL])/\(∃l':List Int,s'[d]?=some (.lst (l'.map PV.int))/\l'.length<=l.length+k)/\Ob d s s') 60 (by decide) rfl (λk e s' hk ⟨⟨j,qL,he⟩,⟨l',e2,e3⟩,e4⟩=>by
  subst he
  obtain ⟨b,hb⟩:=Vs (e:=[x0,some (PV.ref d),x2,some (PV.int j),sI k]) (s:=s') rfl rfl
  cases b with
  |false=>exact ⟨_,_,s',rfl,zZ hb,⟨j,_,rfl⟩,⟨l',e2,by omega⟩,e4⟩
  |true =>
   refine ⟨_,_,_,rfl,yV hb (zu (IH (zg rfl) e2 (zq (zg rfl) rfl (gL _ _ (by decide))) (by omega)) (yg (zq (zg rfl) rfl (sS _ _ (by decide) (by decide))))),⟨_,_,rfl⟩,⟨_,jf (yD e2),by simp;omega⟩,e4.trans (tZ d s' _)⟩) ⟨⟨i,x4,rfl⟩,⟨l,hd,by omega⟩,λ_ _ _ e=>e⟩
 exact ⟨e',s',F,h1,h2,h3⟩
abbrev II:Aj:=(zt (zV 3 (zj yY (zc 2) (zj mK (Ar 2147483647) (Ar 60))))
  (js (bJ (ze (Ar 60) zh)) (gN 4) BR))
def Vu (ns:List Int) (st:aa):∃e' s',js (yA (jC (zc 0) (bB (Ar 1)) (bB (Ar 63)))) (gN 2) II [some (.frl (ns.map PV.int)),sR st.length,none,none,none] (st++[.lst []])=.ok (.nx e') s'/\e'[1]?=some (sR st.length)/\Dc st.length s':=by
 obtain ⟨B,hB,pw⟩:=Vr
 obtain ⟨cs,mn,hcl⟩:∃cs:List Int,bS (ns.map PV.int) (some 1) (some 63)=cs.map PV.int/\cs.length<=63:=by
  refine ⟨(ns.take (min 63 ns.length)).drop (min 1 ns.length),?_,by simp;omega⟩
  unfold bS
  simp only [HT.sIx,y3]
  rw [List.map_drop,List.map_take]
  simp [List.drop_take]
 have hr:(st++[SO.lst []]++[SO.lst (cs.map PV.int)])[(st++[SO.lst []]).length]?=some (.lst (cs.map PV.int)):=yi _ _
 have BS:(st++[SO.lst []]++[SO.lst (cs.map PV.int)])[st.length]?=some (.lst (([]:List Int).map PV.int)):=zR _ _ _ _ (yi _ _)
 obtain ⟨e',s',F,⟨⟨x2,x3,x4,he⟩,⟨l,hl,Vw⟩,hk⟩⟩:=qF (g:=gN 2) (body:=II) (n:=(st++[SO.lst []]).length) (cs.map PV.int) (λi e s=>(∃x2 x3 x4,e=[some (.frl (ns.map PV.int)),some (PV.ref st.length),x2,x3,x4])/\(∃l:List Int,s[st.length]?=some (.lst (l.map PV.int))/\l.length<=60*i)/\s[(st++[SO.lst []]).length]?=some (.lst (cs.map PV.int))) (λi e s h=>h.2.2) (λi x e s hx ⟨⟨x2,x3,x4,he⟩,⟨l,hl,Vw⟩,hk⟩=>by
  subst he
  rw [yP] at hx
  cases ec:cs[i]? with
  |none=>rw [ec] at hx;cases hx
  |some c =>
   rw [ec] at hx
   cases hx
   have hi:=(yu.mp ec).1
   obtain ⟨e',s',F,⟨j,qL,he⟩,⟨l',h1,h2⟩,ob⟩:=Vt (x0:=some (.frl (ns.map PV.int))) (x2:=some (.int c)) (x4:=x4) (i:=j5 c B) hl (by omega)
   refine ⟨_,e',s',rfl,zu (yg (zq (zg rfl) (zq rfl rfl (pw _)) (gL _ _ hB))) F,⟨_,_,_,he⟩,⟨l',h1,by omega⟩,ob _ _ (by simp) hk⟩) cs.length 0 (lim+1) [some (.frl (ns.map PV.int)),sR st.length,none,none,none] (st++[.lst []]++[.lst (cs.map PV.int)]) (by simp) (by simp [lim];omega) ⟨⟨_,_,_,rfl⟩,⟨[],BS,by simp⟩,hr⟩
 refine ⟨e',s',uE (gK (zg rfl) (wn rfl) (wn rfl) (by rw [Qf,mn])) hr F,by rw [he];rfl,l,hl⟩
abbrev IJ:Aj:=(zt (zV 2 (zj j4 (Ar 3) (zc 4)))
  (zt (zQ (mB (zj jI (zn yk (ze (zc 0) zh)) (Ar 0)))
  (zV 2 (zj yY (zj zJ (zc 0) (zj yY (zc 4) (zn lD (ze (Ar 63) (ze (zn yk (ze (zc 0) zh)) zh))))) (Ar 2147483629)))
  zT)
  (zt (zV 3 (zj yY (zj zM (zj zM (zj j4 (zc 2) (Ar 48271)) (zj j4 (Ar 7919) (zc 4))) (Ar 13)) (Ar 2147483629)))
  (zt (zV 3 (zj yY (zj zM (zj j4 (zc 3) (zj zM (zj wR (zc 3) (Ar 5)) (zc 4))) (zj j4 (Ar 16807) (zc 4))) (Ar 2147483587)))
  (yU (ju jW (zc 1) (zj yY (zj zM (zj j4 (zc 3) (Ar 69621)) (zj wR (zc 3) (Ar 127))) (Ar 2147483647))))))))
def g7 (i j:Int) (h:j.natAbs<2 ^ 64) (st:aa) (h2:i.natAbs<2 ^ 64):j4 (.int i) (.int j) st=.ok (.int (i*j)) st:=by
 have e:i7 i j=true:=by simp only [i7,Bool.or_eq_true,y4,jH];first|exact .inr ⟨by omega,by omega⟩|exact .inl ⟨by omega,by omega⟩
 show (if i7 i j=true then Res.ok (PV.int (i*j)) st else .stuck)=_
 rw [zp e]
def qM (i:Int) {j:Int}(h:0<j):0<=j5 i j/\j5 i j<j:=by rw [Bn i j h];exact ⟨Int.emod_nonneg _ (by omega),Int.emod_lt_of_pos _ h⟩
def IK {i j:Int}(hi:0<=i) (h:0<j):0<=wC i j/\wC i j<=i:=by rw [Hb i j h];exact ⟨Int.ediv_nonneg hi (by omega),Int.ediv_le_self _ hi⟩
def Vx (m:Nat) (st:aa):lD [.int 63,.int (m:Int)] st=.ok (.int ((min 63 m:Nat):Int)) st:=by
 simp [lD]
 omega
def IL (ns:List Int) (st:aa):yk [.frl (ns.map PV.int)] st=.ok (.int (ns.length:Int)) st:=by
 simp
def IM (ns:List Int) (k:Nat) (c:Int) (h:ns[k]?=some c) (st:aa):zJ (.frl (ns.map PV.int)) (.int (k:Int)) st=.ok (.int c) st:=by
 have g:bY (ns.map PV.int) (k:Int)=some (.int c):=bj (by rw [yP,h];rfl)
 simp [g]
def Vy (ns:List Int) (st:aa):∃e' s',js (bJ (ze (Ar 400) zh)) (gN 4) IJ [some (.frl (ns.map PV.int)),sR st.length,none,none,none] (st++[.lst []])=.ok (.nx e') s'/\e'[1]?=some (sR st.length)/\Dc st.length s':=by
 obtain ⟨e',s',F,⟨x2,x3,x4,he⟩,l,h2,h3⟩:=uA (gt:=gN 4) (body:=IJ) (fs:=ze (Ar 400) zh) (e:=[some (.frl (ns.map PV.int)),sR st.length,none,none,none]) (st:=st++[.lst []]) (λi e s=>(∃x2 x3 x4,e=[some (.frl (ns.map PV.int)),some (PV.ref st.length),x2,x3,x4])/\∃l:List Int,s[st.length]?=some (.lst (l.map PV.int))/\l.length<=i) 400 (by decide) rfl (λi e s hi ⟨⟨x2,x3,x4,he⟩,l,h2,h3⟩=>by
  subst he
  have key:∃c:Int,0<=c/\c<2147483629/\(zQ (mB (zj jI (zn yk (ze (zc 0) zh)) (Ar 0))) (zV 2 (zj yY (zj zJ (zc 0) (zj yY (zc 4) (zn lD (ze (Ar 63) (ze (zn yk (ze (zc 0) zh)) zh))))) (Ar 2147483629))) zT) [some (.frl (ns.map PV.int)),sR st.length,some (.int (3*(i:Int))),x3,sI i] s=.ok (.nx [some (.frl (ns.map PV.int)),sR st.length,some (.int c),x3,sI i]) s:=by
   have L:=IL ns s
   by_cases h0:0<ns.length
   ·obtain ⟨k,hk,ek⟩:=l9 (i:Int) (min 63 ns.length) (by omega)
    have g:ns[k]?=some (ns[k]'(by omega)):=yb (by omega)
    have mb:=qM (ns[k]'(by omega)) (j:=2147483629) (by decide)
    exact ⟨_,mb.1,mb.2,yV (zF (zq (zA (zG (zg rfl)) L) rfl (iG true (by simp;omega) _))) (yg (zq (zq (zg rfl) (zq (zg rfl) (zA (yf rfl (zA (zG (zg rfl)) L)) (Vx _ _)) ((gL _ _ (by omega)).trans (by rw [ek]))) (IM ns k _ g _)) rfl (gL _ _ (by decide))))⟩
   ·exact ⟨3*(i:Int),by omega,by omega,zZ (zF (zq (zA (zG (zg rfl)) L) rfl (iG false (by rw [decide_eq_false_iff_not];omega) _)))⟩
  obtain ⟨c,c1,c2,K⟩:=key
  have m1:=qM (c*48271+7919*(i:Int)+13) (j:=2147483629) (by decide)
  generalize hx1:j5 (c*48271+7919*(i:Int)+13) 2147483629=x1 at m1
  have d1:=IK m1.1 (j:=5) (by decide)
  have m2:=qM (x1*(wC x1 5+(i:Int))+16807*(i:Int)) (j:=2147483587) (by decide)
  generalize hx2:j5 (x1*(wC x1 5+(i:Int))+16807*(i:Int)) 2147483587=x2' at m2
  refine ⟨_,_,_,rfl,zu (yg (zq rfl (zg rfl) (g7 _ _ (by omega) _ (by decide)))) (zu K (zu (yg (zq (zq (zq (zq (zg rfl) rfl (g7 _ _ (by decide) _ (by omega))) (zq rfl (zg rfl) (g7 _ _ (by omega) _ (by decide))) (y7 _ _)) rfl (y7 _ _)) rfl ((gL _ _ (by decide)).trans (by rw [hx1])))) (zu (yg (zq (zq (zq (zg rfl) (zq (zq (zg rfl) rfl (sS _ _ (by decide) (by decide))) (zg rfl) (y7 _ _)) (g7 _ _ (by omega) _ (by omega))) (zq rfl (zg rfl) (g7 _ _ (by omega) _ (by decide))) (y7 _ _)) rfl ((gL _ _ (by decide)).trans (by rw [hx2])))) (IH (zg rfl) h2 (zq (zq (zq (zg rfl) rfl (g7 _ _ (by decide) _ (by omega))) (zq (zg rfl) rfl (sS _ _ (by decide) (by decide))) (y7 _ _)) rfl (gL _ _ (by decide))) (by omega))))),⟨_,_,_,rfl⟩,_,jf (yD h2),by simp;omega⟩) ⟨⟨_,_,_,rfl⟩,[],yi _ _,by simp⟩
 exact ⟨e',s',F,by rw [he];rfl,l,h2⟩
def Vz (ns:List Int) (st:aa):∃d s1,sZ [.frl (ns.map PV.int)] st=.ok (.ref d) s1/\Dc d s1:=by
 have go:∀b,(j1 (mB (zj jI (zn yk (ze (zc 0) zh)) (Ar 1))) (mB (zj jk (zj yY (zj zJ (zc 0) (Ar 0)) (Ar 2)) (Ar 1)))) [some (.frl (ns.map PV.int)),sR st.length,none,none,none] (st++[.lst []])=.ok b (st++[.lst []])->∃d s1,sZ [.frl (ns.map PV.int)] st=.ok (.ref d) s1/\Dc d s1:=λb hb=>by
  cases b with
  |true =>
   obtain ⟨e',s',F,h1,h2⟩:=Vu ns st
   exact ⟨_,s',yp rfl (zu (yg (iB jE (by simp))) (jc (yV hb (zu F (yo (zg h1)))))),h2⟩
  |false =>
   obtain ⟨e',s',F,h1,h2⟩:=Vy ns st
   exact ⟨_,s',yp rfl (zu (yg (iB jE (by simp))) (zu (zZ hb) (zu F (yo (zg h1))))),h2⟩
 have L:=IL ns (st++[.lst []])
 by_cases h1:1<ns.length
 ·have g:ns[0]?=some (ns[0]'(by omega)):=yb (by omega)
  exact go _ (pV (zF (zq (zA (zG (zg rfl)) L) rfl (iG true (by simp;omega) _))) (zF (zq (zq (zq (zg rfl) rfl (IM ns 0 _ g _)) rfl (gL _ _ (by decide))) rfl (sT _ _))))
 ·exact go _ (pU (zF (zq (zA (zG (zg rfl)) L) rfl (iG false (by rw [decide_eq_false_iff_not];omega) _))))
theorem IQ:∀zs:Ad,bz (zs.map PV.str)=true
 |[]=>rfl
 |z::zs=>by simp [bz,Mi.plain,IQ zs]
theorem IU:∀zs:Ad,cS (zs.map PV.str)=0
 |[]=>rfl
 |z::zs=>by simp [cS,dep,IU zs]
def VA (z:Str) (zs:Ad):(zs.map PV.str).any (λy=>bA y (.str z))=decide (z∈zs):=by
 simp only [List.any_map,Function.comp_def,bA]
 rw [Bool.eq_iff_iff,List.any_eq_true,jH]
 constructor
 ·rintro ⟨x,hx,e⟩
  rw [beq_iff_eq] at e
  exact e▸hx
 ·intro h
  exact ⟨z,h,by simp⟩
def BU {st:aa}{n:Nat}{z:Str}{zs:Ad}(h:st[n]?=some (.lst (zs.map PV.str))) (b:Bool):yS b (.str z) (.ref n) st=.ok (.bl (b.xor (decide (z∈zs)))) st:=by
 have e:yS b (.str z) (.ref n) st=if okIn (.str z) (zs.map PV.str) then .ok (.bl (b.xor ((zs.map PV.str).any λy=>bA y (.str z)))) st else .stuck:=by
  simp only [yS,h]
 rw [e,zp ⟨rfl,IQ zs,by rw [IU];omega⟩,VA]
def qN (a b:List Nat) (h:a.length+b.length<=1000000) (st:aa):zM (.str (S a)) (.str (S b)) st=.ok (.str (S (a++b))) st:=by
 rw [ad _ _ (by rw [jx,jx];exact h),f7]
def vq (k:Nat):Str:=S [118,113,wv (k%26),wv (k/26),113,120,113,120]
def BV:∀k<31,bg (vq k)=true/\(vq k).length=8/\(∀j<31,vq j=vq k->j=k)/\vq k ≠ "qqvvqqvv" /\ vq k ≠ "vvvvvvqv" := by decide +kernel
def Wx (n:Nat) (w:Str):Prop:=bg w=true/\(w.length<=6\/∃k,k<n/\w=vq k)
def VB:("vq" : Str)=S [118,113]:=by decide +kernel
def VC:("qxqx" : Str)=S [113,120,113,120]:=by decide +kernel
def IV {e:zd}{s:aa}{d:Nat}{ws:Ad}{fa fb:Ai}{z:Str}(h:fa e s=.ok (.ref d) s) (hd:s[d]?=some (.lst (ws.map PV.str))) (h':fb e s=.ok (.str z) s) (hl:ws.length<=10000):yU (ju jW fa fb) e s=.ok (.nx e) (s.set d (.lst ((ws++[z]).map PV.str))) :=
 wF (sQ h hd h' (show jW (.ref d) (.str z) s=.ok .non (s.set d (.lst ((ws++[z]).map PV.str))) by rw [x8,yr hd,zp (by simp [lim];omega)];simp))
abbrev eW (d r:Nat) (m:Int) (z4 z5:Ao):zd:=[sR d,some (.int m),some (.str abc),sR r,z4,z5]
def VD {d r:Nat} {m:Int} {z4 z5:Ao} {s:aa} (hd:Dc d s):∃cs s1,(wG (As "") (yB (bJ (ze (zj zM (Ar 1) (zn yO (ze (zc 0) (ze (Ar 6) zh)))) zh)) (zj zJ (zc 3) (zn yO (ze (zc 1) (ze (Ar 26) zh)))))) (eW d r m z4 z5) s=.ok (.str (S cs)) s1/\bg (S cs)=true/\cs.length<=6/\Nx d s s1:=by
 obtain ⟨w,s0,e0,hw,n0⟩:=jP hd 6 (by decide)
 have BW:(1:Int)+(w:Int)=((1+w:Nat):Int):=by omega
 obtain ⟨ys,s3,C,cs,hy,hl,ha,hs⟩:=BB (fe:=(zj zJ (zc 3) (zn yO (ze (zc 1) (ze (Ar 26) zh))))) (fs:=(ze (zj zM (Ar 1) (zn yO (ze (zc 0) (ze (Ar 6) zh)))) zh)) (env:=eW d r m z4 z5) (st:=s) (s0:=s0) (1+w) (by omega) (zG (zq rfl (zA (yf (zg rfl) rfl) e0) ((y7 _ _).trans (by rw [BW]))))
  (λi ys s=>∃cs:List Nat,ys=cs.map (λc=>PV.str ⟨#[c]⟩)/\cs.length=i/\(∀c∈cs,c∈abc.cps.toList)/\Nx d s0 s) (λi ys s hi ⟨cs,h1,h2,h3,h4⟩=>by
   obtain ⟨k,s',ek,hk,nk⟩:=jP h4.dc 26 (by decide)
   have L:=Bz k hk s'
   exact ⟨.str ⟨#[wv k]⟩,s',zq (zg rfl) (zA (yf (zg rfl) rfl) ek) L.1,cs++[wv k],by rw [h1,wa];rfl,by simp [h2],λx hx=>by
    rcases g_.mp hx with h|h
    ·exact h3 x h
    ·rw [iJ.mp h];exact L.2,h4.trans nk⟩) ⟨[],rfl,rfl,(λ_ h=>nomatch h),Nx.refl n0.dc⟩
 exact ⟨cs,s3++[.lst ys],(U7 C (yi _ _) (by rw [hy];exact Ij cs) (by rw [Ik,U6];simp;omega)).trans (by rw [U0]),U5 (by omega) (by omega) ha,by omega,(n0.trans hs).trans (Nx.of hs.dc (zR _ _))⟩
abbrev bW:Aj:=(zt (zV 5 (wG (As "") (yB (bJ (ze (zj zM (Ar 1) (zn yO (ze (zc 0) (ze (Ar 6) zh)))) zh)) (zj zJ (zc 3) (zn yO (ze (zc 1) (ze (Ar 26) zh)))))))
  (zt (zQ (mB (zj (yS false) (zc 5) (zc 3)))
  (zV 5 (zj zM (zj zM (zj zM (As "vq") (zj zJ (zc 2) (zj yY (zc 4) (Ar 26)))) (zj zJ (zc 2) (zj wR (zc 4) (Ar 26)))) (As "qxqx")))
  zT)
  (yU (ju jW (zc 3) (zc 5)))))
def VE {d r:Nat} {m:Int} {i:Nat} {z5:Ao} {s:aa} (hi:i<31):(zj zM (zj zM (zj zM (As "vq") (zj zJ (zc 2) (zj yY (zc 4) (Ar 26)))) (zj zJ (zc 2) (zj wR (zc 4) (Ar 26)))) (As "qxqx")) (eW d r m (sI i) z5) s=.ok (.str (vq i)) s:=by
 have m1:j5 (i:Int) 26=((i%26:Nat):Int):=by rw [Bn _ _ (by decide)];omega
 have d1:wC (i:Int) 26=((i/26:Nat):Int):=by rw [Hb _ _ (by decide)];omega
 have a1:=(Bz (i%26) (by omega) s).1
 have a2:=(Bz (i/26) (by omega) s).1
 have q1:=qN [118,113] [wv (i%26)] (by simp) s
 rw [<-VB] at q1
 have q2:=qN [118,113,wv (i%26)] [wv (i/26)] (by simp) s
 have q3:=qN [118,113,wv (i%26),wv (i/26)] [113,120,113,120] (by simp) s
 rw [<-VC] at q3
 exact zq (zq (zq rfl (zq (zg rfl) (zq (zg rfl) rfl ((gL _ _ (by decide)).trans (by rw [m1]))) a1) q1) (zq (zg rfl) (zq (zg rfl) rfl ((sS _ _ (by decide) (by decide)).trans (by rw [d1]))) a2) q2) rfl q3
def VF {d:Nat}{st:aa}(hd:Dc d st) (m:Nat) (hm:m<=31):∃(r:Nat) (s1:aa) (ws:Ad),AU [.ref d,.int (m:Int)] st=.ok (.ref r) s1/\s1[r]?=some (.lst (ws.map PV.str))/\ws.Nodup/\(∀w∈ws,Wx m w)/\ws.length=m/\Nx d st s1/\st.length<=r:=by
 have dl:d<st.length:=by obtain ⟨l,e⟩:=hd;exact yD e
 have BS:Dc d (st++[SO.lst []]):=by obtain ⟨l,e⟩:=hd;exact ⟨l,zR _ _ _ _ e⟩
 obtain ⟨e',s',F,⟨z4,z5,he⟩,⟨ws,h1,h2,h3,h4⟩,h5,h6⟩:=uA (gt:=gN 4) (body:=bW) (fs:=ze (zc 1) zh) (e:=eW d st.length m none none) (st:=st++[.lst []]) (λi e s=>(∃z4 z5,e=eW d st.length m z4 z5)/\(∃ws:Ad,s[st.length]?=some (.lst (ws.map PV.str))/\ws.Nodup/\(∀w∈ws,Wx i w)/\ws.length=i)/\Dc d s/\∀(n:Nat) so,n≠d->n<st.length->st[n]?=some so->s[n]?=some so) m (by omega) (zG (zg rfl)) (λi e s hi ⟨⟨z4,z5,he⟩,⟨ws,h1,h2,h3,h4⟩,h5,h6⟩=>by
  subst he
  obtain ⟨cs,s1,e1,w1,w2,n1⟩:=VD (d:=d) (r:=st.length) (m:=m) (z4:=sI i) (z5:=z5) h5
  have k1:s1[st.length]?=some (.lst (ws.map PV.str)):=n1.ob _ _ (by omega) h1
  have pI:=BU k1 (z:=S cs) false
  rw [Bool.false_xor] at pI
  have fin:∀z,Wx (i+1) z->z∉ws->(∃z4 z5,eW d st.length m (sI i) (some (.str z))=eW d st.length m z4 z5)/\(∃dh:Ad,(s1.set st.length (.lst ((ws++[z]).map PV.str)))[st.length]?=some (.lst (dh.map PV.str))/\dh.Nodup/\(∀w∈dh,Wx (i+1) w)/\dh.length=i+1)/\Dc d (s1.set st.length (.lst ((ws++[z]).map PV.str)))/\∀(n:Nat) so,n≠d->n<st.length->st[n]?=some so->(s1.set st.length (.lst ((ws++[z]).map PV.str)))[n]?=some so:=λz hz hn=>by
   refine ⟨⟨_,_,rfl⟩,⟨ws++[z],jf (yD k1),?_,λw hw=>?_,by simp [h4]⟩,?_,λn so IW cX e=>?_⟩
   ·rw [List.nodup_append]
    exact ⟨h2,by simp,λa ha b hb e=>by rw [iJ.mp hb] at e;subst e;exact hn ha⟩
   ·rcases g_.mp hw with q|q
    ·obtain ⟨p1,p2⟩:=h3 w q
     exact ⟨p1,p2.imp id λ⟨k,hk,e⟩=>⟨k,by omega,e⟩⟩
    ·rw [iJ.mp q];exact hz
   ·obtain ⟨l,e⟩:=n1.dc
    exact ⟨l,by rw [yN (by omega)];exact e⟩
   ·rw [yN (by omega)]
    exact n1.ob _ _ IW (h6 n so IW cX e)
  by_cases hc:S cs∈ws
  ·have hv:=BV i (by omega)
   refine ⟨_,_,_,rfl,zu (yg e1) (zu (yV (zF (zq (zg rfl) (zg rfl) (pI.trans (by simp [hc])))) (yg (VE (by omega)))) (IV (zg rfl) k1 (zg rfl) (by omega))),fin (vq i) ⟨hv.1,.inr ⟨i,by omega,rfl⟩⟩ λhq=>?_⟩
   rcases (h3 _ hq).2 with q|⟨k,hk,e⟩
   ·have:=hv.2.1;omega
   ·have:=hv.2.2.1 k (by omega) e.symm;omega
  ·exact ⟨_,_,_,rfl,zu (yg e1) (zu (zZ (zF (zq (zg rfl) (zg rfl) (pI.trans (by simp [hc]))))) (IV (zg rfl) k1 (zg rfl) (by omega))),fin (S cs) ⟨w1,.inl (by rw [jx];exact w2)⟩ hc⟩) ⟨⟨_,_,rfl⟩,⟨[],yi _ _,.nil,(λ_ h=>nomatch h),rfl⟩,BS,λn so _ hn e=>zR _ _ _ _ e⟩
 refine ⟨st.length,s',ws,yp rfl (zu (yg rfl) (zu (yg (iB jE (by simp))) (zu F (yo (zg (by rw [he];rfl)))))),h1,h2,h3,h4,⟨λn so hn e=>h6 n so hn (yD e) e,h5⟩,z0 _⟩
def Vv (t:Tr):Prop:=Sv t/\t ≠ .row [.word "other"]
def VG:bg "a" = true:=by decide +kernel
def VH:bg "word" = true:=by decide +kernel
def VI:bg "zzzzzzzz" = true:=by decide +kernel
def VJ {d:Nat}{st:aa}(hd:Dc d st):∃t s1,ko [.ref d] st=.ok (pv t) s1/\Vv t/\Nx d st s1:=by
 obtain ⟨w,s1,e1,hw,n1⟩:=jP hd 9 (by decide)
 have dl:d<s1.length:=by obtain ⟨l,e⟩:=n1.dc;exact yD e
 by_cases h0:w=0
 ·subst h0
  have qO:Nx d s1 (s1++[SO.lst ((["a", "word", "zzzzzzzz"]:Ad).map PV.str)]):=Nx.of n1.dc (zR _ _)
  obtain ⟨k,s2,e2,hk,n2⟩:=jP qO.dc 3 (by decide)
  have g:s2[s1.length]?=some (.lst ((["a", "word", "zzzzzzzz"]:Ad).map PV.str)):=n2.ob _ _ (by omega) (yi _ _)
  have ix:∀z,(["a", "word", "zzzzzzzz"]:Ad)[k]?=some z->zJ (.ref s1.length) (.int (k:Int)) s2=.ok (.str z) s2:=λz hz=>by
   have a:bY ((["a", "word", "zzzzzzzz"]:Ad).map PV.str) (k:Int)=some (.str z):=bj (by rw [yP,hz];rfl)
   rw [lC,yr g,a];rfl
  have fin:∀z,(["a", "word", "zzzzzzzz"]:Ad)[k]?=some z->bg z=true->∃t s1,ko [.ref d] st=.ok (pv t) s1/\Vv t/\Nx d st s1:=λz hz wz =>
   ⟨.word z,s2,yp rfl (zu (yg (zA (yf (zg rfl) rfl) e1)) (jc (yV (zF (zq (zg rfl) rfl (f9 true (by simp) _))) (yo (zq (iB (EW _) (by simp)) (zA (yf (zg rfl) rfl) e2) (ix z hz)))))),⟨.inr (.inl ⟨z,rfl,wz⟩),by simp⟩,(n1.trans qO).trans n2⟩
  rcases (by omega:k=0\/k=1\/k=2) with rfl|rfl|rfl
  ·exact fin "a" rfl VG
  ·exact fin "word" rfl VH
  ·exact fin "zzzzzzzz" rfl VI
 ·by_cases h1:w=1
  ·subst h1
   obtain ⟨c,s2,e2,hc,n2⟩:=jP n1.dc 2 (by decide)
   obtain ⟨ys,s3,C,ns,hy,hl,ha,hs⟩:=BB (fe:=(zn yO (ze (zc 1) (ze (Ar 9) zh)))) (fs:=(ze (zn yO (ze (zc 0) (ze (Ar 2) zh))) zh)) (env:=[sR d,some (.int 1)]) (st:=s1) (s0:=s2) c (by omega) (zG (zA (yf (zg rfl) rfl) e2))
    (λi ys s=>∃ns:List Int,ys=ns.map PV.int/\ns.length=i/\(∀n∈ns,-1000000000000000000<n/\n<1000000000000000000)/\Nx d s2 s) (λi ys s hi ⟨ns,h1,h2,h3,h4⟩=>by
     obtain ⟨k,s',ek,hk,nk⟩:=jP h4.dc 9 (by decide)
     exact ⟨.int k,s',zA (yf (zg rfl) rfl) ek,ns++[(k:Int)],by rw [h1,wa];rfl,by simp [h2],λx hx=>by
      rcases g_.mp hx with h|h
      ·exact h3 x h
      ·rw [iJ.mp h];omega,h4.trans nk⟩) ⟨[],rfl,rfl,(λ_ h=>nomatch h),Nx.refl n2.dc⟩
   have tp:lp [.ref s3.length] (s3++[.lst ys])=.ok (.tup ys) (s3++[.lst ys]):=by rw [x6,yr (yi _ _)]
   have fin:∀t,pv t=.tup ys->Vv t->∃t s1,ko [.ref d] st=.ok (pv t) s1/\Vv t/\Nx d st s1:=λt ht hv =>
    ⟨t,s3++[.lst ys],by rw [ht];exact yp rfl (zu (yg (zA (yf (zg rfl) rfl) e1)) (zu (zZ (zF (zq (zg rfl) rfl (f9 false (by simp) _)))) (jc (yV (zF (zq (zg rfl) rfl (f9 true (by simp) _))) (yo (zA (zG C) tp)))))),hv,((n1.trans n2).trans hs).trans (Nx.of hs.dc (zR _ _))⟩
   match ns,hl,hy,ha with
   |[],_,hy,_=>exact fin (.row []) (by rw [hy];rfl) ⟨.inr (.inr (.inl rfl)),by simp⟩
   |[n],_,hy,ha=>exact fin (.row [.num n]) (by rw [hy];rfl) ⟨.inr (.inr (.inr (.inl ⟨n,rfl,ha n (by simp)⟩))),by simp⟩
   |_::_::_,hl,_,_=>simp at hl;omega
  ·have qO:Nx d s1 (s1++[SO.lst [.int 9,.int 200,.int 1000000000]]):=Nx.of n1.dc (zR _ _)
   obtain ⟨k,s2,e2,hk,n2⟩:=jP qO.dc 3 (by decide)
   have g:s2[s1.length]?=some (.lst [.int 9,.int 200,.int 1000000000]):=n2.ob _ _ (by omega) (yi _ _)
   have fin:∀m:Nat,0<m->m<=1000000000->([.int 9,.int 200,.int 1000000000]:An)[k]?=sI m->∃t s1,ko [.ref d] st=.ok (pv t) s1/\Vv t/\Nx d st s1:=λm VL hm hz=>by
    obtain ⟨i,s3,e3,hi,n3⟩:=jP n2.dc m VL
    have a:bY ([.int 9,.int 200,.int 1000000000]:An) (k:Int)=sI m:=bj hz
    have ix:zJ (.ref s1.length) (.int (k:Int)) s2=.ok (.int (m:Int)) s2:=by rw [lC,yr g,a];rfl
    exact ⟨.num ((i:Int)-3),s3,yp rfl (zu (yg (zA (yf (zg rfl) rfl) e1)) (zu (zZ (zF (zq (zg rfl) rfl (f9 false (by simp;omega) _)))) (zu (zZ (zF (zq (zg rfl) rfl (f9 false (by simp;omega) _)))) (yo (zq (zA (yf (zg rfl) (zq (iB (gH rfl (yf rfl (zq rfl rfl (UZ _)))) (by simp)) (zA (yf (zg rfl) rfl) e2) ix)) e3) rfl (Ft _ _)))))),⟨.inl ⟨_,rfl,by omega,by omega⟩,by simp⟩,((n1.trans qO).trans n2).trans n3⟩
   rcases (by omega:k=0\/k=1\/k=2) with rfl|rfl|rfl
   ·exact fin 9 (by decide) (by decide) rfl
   ·exact fin 200 (by decide) (by decide) rfl
   ·exact fin 1000000000 (by decide) (by decide) rfl
def uF {st:aa}{r:Nat}{is:List Int}(h:st[r]?=some (.lst (is.map PV.int))):gG [.ref r] st=.ok (.int is.sum) st:=by
 have im:=Hs is
 simp [yr h,im]
section
variable {c:Tr->Int} {mr:Al}
theorem IY (env:zd):∀(ts:List Tr) (ys:An) (st:aa),(∀t∈ts,∀s,∃s1,mr [pv t] s=.ok (.int (c t)) s1/\Old s s1)->∃s1,cz (zn mr (ze (zc 0) zh)) env (ts.map pv) ys st=.ok (ys++(ts.map c).map PV.int) s1/\Old st s1
 |[],ys,st,_=>⟨st,by simp [cz],Old.refl _⟩
 |t::ts,ys,st,h=>by
  obtain ⟨s1,e1,o1⟩:=h t (yj ..) st
  obtain ⟨s2,e2,o2⟩:=IY env ts (ys++[.int (c t)]) s1 λu hu=>h u (yz _ hu)
  refine ⟨s2,?_,o1.trans o2⟩
  rw [ye,cz]
  simp only [mQ,mP,kh,kF,zC,ph,e1,wX,e2]
  simp
def IZ {st:aa}{n:Nat}{ks:Ad}{f:Str->Tr}(hn:Rc st n ks f) (h:∀k∈ks,∀s,∃s1,mr [pv (f k)] s=.ok (.int (c (f k))) s1/\Old s s1):∃r s1,sU (zc 0) (zn mr (ze (zc 0) zh)) [sR n] st=.ok (.ref r) s1/\s1[r]?=some (.lst (((ks.map f).map c).map PV.int))/\Old st s1:=by
 have nl:n<st.length:=(yu.mp hn).1
 have em:mp ks f=(ks.map f).map pv:=by simp [mp]
 obtain ⟨s2,e2,p2⟩:=IY (c:=c) (mr:=mr) [sR n] (ks.map f) [] (st.set n (.fdi ks (mp ks f))) λt ht s=>by
  obtain ⟨k,hk,rfl⟩:=wP.mp ht
  exact h k hk s
 rw [<-em] at e2
 have l2:n<s2.length:=by
  have:(st.set n (.fdi ks (mp ks f)))[n]?=some (.fdi ks (mp ks f)):=by rw [jf nl]
  exact (yu.mp (p2 _ _ this)).1
 have hf:(s2++[SO.lst (((ks.map f).map c).map PV.int)])[n]?=some (.fdi ks (mp ks f)):=by
  refine zR _ _ _ _ (p2 _ _ ?_)
  rw [jf nl]
 refine ⟨s2.length,(s2++[SO.lst (((ks.map f).map c).map PV.int)]).set n (.dic ks (mp ks f)),?_,?_,λm so e=>?_⟩
 ·rw [List.nil_append] at e2
  show ((zc 0) [sR n] st).bind _=_
  simp only [kh,kF,zC,Fo,wZ hn,e2,wX,Fq hf]
 ·rw [yN (by omega)];simp
 ·by_cases hm:m=n
  ·subst hm
   rw [show st[m]?=_ from hn] at e
   cases e
   rw [jf (by simp;omega)]
  ·rw [yN (yL hm)]
   refine zR _ _ _ _ (p2 _ _ ?_)
   rw [yN (yL hm)]
   exact e
end
def uG (i:Int) (n:String) (st:aa):yC [.int i,.ty n] st=eV (cm "int" n) st:=tV (t:=.num i) rfl n
def uH (z:Str) (n:String) (st:aa):yC [.str z,.ty n] st=eV (cm "str" n) st:=rfl
def fw (xs:An) (n:String) (st:aa):yC [.tup xs,.ty n] st=eV (cm "tuple" n) st:=rfl
def qP {n:Nat} {ks:Ad} {xs:An} {st:aa} (h:st[n]?=some (.dic ks xs)) (t:String):yC [.ref n,.ty t] st=eV (cm "dict" t) st:=by
 have e:tyP st (.ref n)=some "dict" := by show sY st[n]?=_;rw [h];rfl
 simp only [yC,e]
def I_ (k:Nat) (i:Int) (st:aa):jO (k+1) [.int i] st=.ok (.int 1) st:=by
 simp [jO,tj,zB,lJ,AW,AV,uG,t2,t3]
def Ja (k:Nat) (z:Str) (st:aa):jO (k+1) [.str z] st=.ok (.int 1) st:=by
 simp [jO,tj,zB,lJ,AW,AV,uH,t6,t7]
def uI {fe:Ai}{x:PV}{i:Int}(env:zd) (st:aa) (h:fe (some x::env) st=.ok (.int i) st) (e0:env[0]?=some (some (.tup [x]))):zn gG (ze (yB (yA (zc 0)) fe) zh) env st=.ok (.int i) (st++[.lst [.int i]]):=by
 have c:yB (yA (zc 0)) fe env st=.ok (.ref st.length) (st++[.lst [.int i]]):=by
  rw [iq,il,zg e0,zC]
  show bI fe env (.im [x]) st=_
  rw [bI,zp (by simp [lim])]
  simp [bU,h]
 have s:=uF (st:=st++[.lst [.int i]]) (r:=st.length) (is:=[i]) (yi _ _)
 exact (zA (zG c) s).trans (by simp)
def Jb {fe:Ai}(env:zd) (st:aa) (e0:env[0]?=some (some (.tup []))):zn gG (ze (yB (yA (zc 0)) fe) zh) env st=.ok (.int 0) (st++[.lst []]):=by
 have c:yB (yA (zc 0)) fe env st=.ok (.ref st.length) (st++[.lst []]):=by
  rw [iq,il,zg e0,zC]
  show bI fe env (.im []) st=_
  rw [bI,zp (by simp [lim])]
  simp [bU]
 have s:=uF (st:=st++[.lst []]) (r:=st.length) (is:=[]) (yi _ _)
 exact (zA (zG c) s).trans (by simp)
def je {b:Bool}{x:PV}{n:String}{e:zd}{st:aa}{T:String}(h0:e[0]?=some (some x)) (h:yC [x,.ty n] st=eV (cm T n) st) (hb:cm T n=some b):(mB (zn yC (ze (zc 0) (ze (mC (.ty n)) zh)))) e st=.ok b st :=
 zF (zA (yf (zg h0) rfl) (h.trans (by rw [hb];rfl)))
def VM (k:Nat) {t:Tr}(h:Sv t) (st:aa):∃s1,jO (k+2) [pv t] st=.ok (.int (sz t)) s1/\Old st s1:=by
 rcases h with ⟨i,rfl,_⟩|⟨z,rfl,hz⟩|rfl|⟨i,rfl,_⟩|⟨z,rfl,hz⟩
 ·exact ⟨st,I_ (k+1) i st,Old.refl _⟩
 ·exact ⟨st,Ja (k+1) z st,Old.refl _⟩
 ·exact ⟨_,yp (m:=1) (n:=1) (xs:=[.tup []]) (st:=st) (g:=lJ (jO (k+1))) rfl (jc (yV (je rfl (fw _ _ _) wK) (yo (zq rfl (Jb _ _ rfl) (y7 _ _))))),zR _ _⟩
 ·exact ⟨_,yp (m:=1) (n:=1) (xs:=[.tup [.int i]]) (st:=st) (g:=lJ (jO (k+1))) rfl (jc (yV (je rfl (fw _ _ _) wK) (yo (zq rfl (uI (i:=1) _ _ (zA (zG (zg rfl)) (I_ k i _)) rfl) (y7 _ _))))),zR _ _⟩
 ·exact ⟨_,yp (m:=1) (n:=1) (xs:=[.tup [.str z]]) (st:=st) (g:=lJ (jO (k+1))) rfl (jc (yV (je rfl (fw _ _ _) wK) (yo (zq rfl (uI (i:=1) _ _ (zA (zG (zg rfl)) (Ja k z _)) rfl) (y7 _ _))))),zR _ _⟩
theorem Jc:∀ts:List Tr,(ts.map λt=>(sz t:Int)).sum=(aQ ts:Int)
 |[]=>rfl
 |t::ts=>by simp only [ye,List.sum_cons,Jc ts,aQ];omega
def Jd {st:aa}{n:Nat}{ks:Ad}{f:Str->Tr}(h:Rc st n ks f) (sv:∀k∈ks,Sv (f k)):∃s1,jO 3 [.ref n] st=.ok (.int (sz (.rec_ ks (ks.map f)))) s1/\Old st s1:=by
 obtain ⟨r,s1,e1,e2,o1⟩:=IZ (c:=λt=>(sz t:Int)) (mr:=jO 2) h λk hk s=>VM 0 (sv k hk) s
 have e3:=uF e2
 rw [Jc] at e3
 exact ⟨s1,yp (m:=1) (n:=1) (xs:=[.ref n]) (st:=st) (g:=lJ (jO 2)) rfl (zu (zZ (je rfl (qP h _) ng)) (jc (yV (je rfl (qP h _) ni) (yo (zq rfl (zA (zG e1) e3) ((y7 _ _).trans (by simp only [sz];rfl))))))),o1⟩
def Je (k:Nat) (i:Int) (st:aa):j9 (k+1) [.int i] st=.ok (.int (wt (.num i))) st:=by
 simp [j9,tE,zB,lK,uG,t4,wt];omega
def Jf (k:Nat) (z:Str) (st:aa):j9 (k+1) [.str z] st=.ok (.int (wt (.word z))) st:=by
 simp [j9,tE,zB,lK,GD,uH,t8,t5,wt]
def VN (k:Nat) {t:Tr}(h:Sv t) (st:aa):∃s1,j9 (k+2) [pv t] st=.ok (.int (wt t)) s1/\Old st s1:=by
 rcases h with ⟨i,rfl,_⟩|⟨z,rfl,hz⟩|rfl|⟨i,rfl,_⟩|⟨z,rfl,hz⟩
 ·exact ⟨st,Je (k+1) i st,Old.refl _⟩
 ·exact ⟨st,Jf (k+1) z st,Old.refl _⟩
 ·exact ⟨_,yp (m:=1) (n:=1) (xs:=[.tup []]) (st:=st) (g:=lK (j9 (k+1))) rfl (zu (zZ (je rfl (fw _ _ _) tW)) (zu (zZ (je rfl (fw _ _ _) t9)) (jc (yV (je rfl (fw _ _ _) wK) (yo (zq rfl (Jb _ _ rfl) (y7 _ _))))))),zR _ _⟩
 ·refine ⟨_,yp (m:=1) (n:=1) (xs:=[.tup [.int i]]) (st:=st) (g:=lK (j9 (k+1))) rfl (zu (zZ (je rfl (fw _ _ _) tW)) (zu (zZ (je rfl (fw _ _ _) t9)) (jc (yV (je rfl (fw _ _ _) wK) (yo (zq rfl (uI (i:=1+wt (.num i)) _ _ (zq rfl (zA (zG (zg rfl)) (Je k i _)) (y7 _ _)) rfl) ((y7 _ _).trans (by simp only [wt,dA,yF,List.length_nil];congr 2;omega)))))))),zR _ _⟩
 ·refine ⟨_,yp (m:=1) (n:=1) (xs:=[.tup [.str z]]) (st:=st) (g:=lK (j9 (k+1))) rfl (zu (zZ (je rfl (fw _ _ _) tW)) (zu (zZ (je rfl (fw _ _ _) t9)) (jc (yV (je rfl (fw _ _ _) wK) (yo (zq rfl (uI (i:=1+wt (.word z)) _ _ (zq rfl (zA (zG (zg rfl)) (Jf k z _)) (y7 _ _)) rfl) ((y7 _ _).trans (by simp only [wt,dA,yF,List.length_nil];congr 2)))))))),zR _ _⟩
theorem Jg:∀ts:List Tr,(ts.map wt).sum=dA ts
 |[]=>rfl
 |t::ts=>by simp only [ye,List.sum_cons,Jg ts,dA]
def VO {st:aa}{n:Nat}{ks:Ad}{f:Str->Tr}(h:Rc st n ks f) (sv:∀k∈ks,Sv (f k)):∃s1,j9 3 [.ref n] st=.ok (.int (wt (.rec_ ks (ks.map f)))) s1/\Old st s1:=by
 obtain ⟨r,s1,e1,e2,o1⟩:=IZ (c:=wt) (mr:=j9 2) h λk hk s=>VN 0 (sv k hk) s
 have e3:=uF e2
 rw [Jg] at e3
 exact ⟨s1,yp (m:=1) (n:=1) (xs:=[.ref n]) (st:=st) (g:=lK (j9 2)) rfl (zu (zZ (je rfl (qP h _) Hg)) (zu (zZ (je rfl (qP h _) qv)) (zu (zZ (je rfl (qP h _) ng)) (yo (zq rfl (zA (zG e1) e3) ((y7 _ _).trans (by simp only [wt]))))))),o1⟩
def lT {fo fi fv:Ai}{e:zd}{s s1 s2 s3 s4:aa}{x o z:PV}(hv:fv e s=.ok x s1) (ho:fo e s1=.ok o s2) (hi:fi e s2=.ok z s3) (hp:wm z x o s3=.ok () s4):jp fo fi fv e s=.ok (.nx e) s4:=by
 rw [Uk,hv,zC,ho,zC,hi,zC,hp,zC]
structure Kn (ws:Ad) (f:Str->Tr):Prop where
 nd:ws.Nodup
 wx:∀w∈ws,Wx 31 w
 vv:∀w∈ws,Vv (f w)
 lo:5<=ws.length
 hi:ws.length<=31
 sz:aQ (ws.map f)<=57
structure Wr (d n r:Nat) (ws:Ad) (f:Str->Tr) (s:aa):Prop where
 dc:Dc d s
 w:s[r]?=some (.lst (ws.map PV.str))
 rc:Rc s n ws f
 ne:r≠d
def Wr.nd {d n r:Nat}{ws:Ad}{f:Str->Tr}{s:aa}(h:Wr d n r ws f s):n≠d:=λe=>by
 obtain ⟨l,q⟩:=h.dc
 have:=h.rc
 unfold Rc at this
 rw [e,q] at this
 cases this
def Wr.nr {d n r:Nat}{ws:Ad}{f:Str->Tr}{s:aa}(h:Wr d n r ws f s):n≠r:=λe=>by
 have:=h.rc
 unfold Rc at this
 rw [e,h.w] at this
 cases this
def Wr.nx {d n r:Nat}{ws:Ad}{f:Str->Tr}{s s1:aa}(h:Wr d n r ws f s) (k:Nx d s s1):Wr d n r ws f s1:=⟨k.dc,k.ob _ _ h.ne h.w,k.ob _ _ h.nd h.rc,h.ne⟩
def Wr.old {d n r:Nat}{ws:Ad}{f:Str->Tr}{s s1:aa}(h:Wr d n r ws f s) (k:Old s s1):Wr d n r ws f s1:=h.nx (Nx.of h.dc k)
def Kn.sv {ws:Ad}{f:Str->Tr}(h:Kn ws f):∀w∈ws,Sv (f w):=λw hw=>(h.vv w hw).1
def Wx.len {k:Nat}{w:Str}(h:Wx k w):w.length<=1000:=by have:=jK h.1;omega
def Kn.good {ws:Ad}{f:Str->Tr}(h:Kn ws f):Good ws f:=⟨h.nd,λw hw=>(h.wx w hw).len,h.sv,by have:=h.sz;omega⟩
abbrev eL (ns:List Int) (d r n:Nat) (z4 z5 z6 z7:Ao):zd:=[some (.frl (ns.map PV.int)),sR d,sR r,sR n,z4,z5,z6,z7]
def VP {ns:List Int}{d r n:Nat}{ws:Ad}{s:aa}(hd:Dc d s) (hw:s[r]?=some (.lst (ws.map PV.str))) (hn:s[n]?=some (.dic [] [])) (ne:r≠d) (nd:ws.Nodup) (hl:ws.length<=31):∃e' s',js (yA (zc 2)) (gN 4) (jp (zc 3) (zc 4) (zn ko (ze (zc 1) zh))) (eL ns d r n none none none none) s=.ok (.nx e') s'/\(∃z4,e'=eL ns d r n z4 none none none)/\∃f,Wr d n r ws f s'/\∀w∈ws,Vv (f w):=by
 obtain ⟨e',s',F,h1,f,h2,h3⟩:=qF (g:=gN 4) (body:=jp (zc 3) (zc 4) (zn ko (ze (zc 1) zh))) (n:=r) (ws.map PV.str) (λi e s=>(∃z4,e=eL ns d r n z4 none none none)/\∃f,(Dc d s/\s[r]?=some (.lst (ws.map PV.str))/\Rc s n (ws.take i) f)/\∀w∈ws.take i,Vv (f w)) (λi e s h=>by obtain ⟨_,f,h,_⟩:=h;exact h.2.1) (λi x e s hx ⟨⟨z4,he⟩,f,⟨hd,hw,hn⟩,hv⟩=>by
  subst he
  rw [yP] at hx
  cases ec:ws[i]? with
  |none=>rw [ec] at hx;cases hx
  |some w =>
   rw [ec] at hx
   cases hx
   have hi:=(yu.mp ec).1
   obtain ⟨t,s1,e1,vt,n1⟩:=VJ hd
   have Jh:n≠d:=λe=>by obtain ⟨l,q⟩:=hd;unfold Rc at hn;rw [e,q] at hn;cases hn
   have VQ:n≠r:=λe=>by unfold Rc at hn;rw [e,hw] at hn;cases hn
   have BX:Rc s1 n (ws.take i) f:=n1.ob _ _ Jh hn
   obtain ⟨s2,e2,se,r2⟩:=kA BX (by simp;omega) w t
   have VR:w∉ws.take i:=λhm=>by
    have:=nd
    rw [<-List.take_append_drop i ws,List.nodup_append] at this
    refine this.2.2 w hm w ?_ rfl
    rw [jy hi]
    have:=(yu.mp ec).2
    rw [this]
    exact yj ..
   have tk:pK w (ws.take i)=ws.take (i+1):=by rw [nA VR,lP ec]
   rw [tk] at se r2
   refine ⟨_,_,s2,rfl,lT (zA (zG (zg rfl)) e1) (zg rfl) (zg rfl) e2,⟨_,rfl⟩,up f w t,⟨?_,?_,r2⟩,λk hk=>?_⟩
   ·obtain ⟨l,q⟩:=n1.dc
    exact ⟨l,by rw [se,yN Jh];exact q⟩
   ·rw [se,yN VQ];exact n1.ob _ _ ne hw
   ·unfold up
    by_cases hkw:k=w
    ·rw [zp hkw];exact vt
    ·rw [zD hkw]
     rw [lP ec] at hk
     rcases g_.mp hk with q|q
     ·exact hv k q
     ·exact absurd (iJ.mp q) hkw) ws.length 0 (lim+1) (eL ns d r n none none none none) s (by simp) (by simp [lim];omega) ⟨⟨_,rfl⟩,λ_=>.num 0,⟨hd,hw,hn⟩,λw hw=>by simp at hw⟩
 rw [y3,List.take_length] at h2 h3
 exact ⟨e',s',uE (zg rfl) hw F,h1,f,⟨h2.1,h2.2.1,h2.2.2,ne⟩,h3⟩
def VS {t:Ak}{b:Aj}{e e2:zd}{s s1 s2:aa}{k:Nat}(ht:t e s=.ok true s1) (hb:b e s1=.ok (.nx e2) s2):bG t b (k+1) e s=bG t b k e2 s2:=by
 rw [wE,ht]
 simp [hb]
def VT {t:Ak}{b:Aj}{e:zd}{s s1:aa}{k:Nat}(ht:t e s=.ok false s1):bG t b (k+1) e s=.ok (.nx e) s1:=by
 rw [wE,ht]
 simp
theorem Ji {f:Str->Tr}(z:Str):∀ks:Ad,jM z ks (mp ks f)=(ks.filter (λk=>!decide (k=z)),mp (ks.filter (λk=>!decide (k=z))) f)
 |[]=>rfl
 |k::ks=>by
  have ih:=Ji (f:=f) z ks
  simp only [mp] at ih
  simp only [mp,ye,jM,ih,List.filter_cons]
  by_cases h:k=z<;>simp [h]
def Jj {s:aa}{n:Nat}{ks:Ad}{f:Str->Tr}(h:Rc s n ks f) {z:Str}(hz:z∈ks):p_ n (.str z) s=.ok (pv (f z)) (s.set n (.dic (ks.filter (λk=>!decide (k=z))) (mp (ks.filter (λk=>!decide (k=z))) f))):=by
 show yR s n _=_
 rw [wZ h,iF (f:=λk=>pv (f k)) hz,Ji]
def Jk {fo fk:Ai}{e:zd}{s s2 s3:aa}{n:Nat}{ks:Ad}{f:Str->Tr}{z v:PV}(ho:fo e s=.ok (.ref n) s) (h:Rc s n ks f) (hk:fk e s=.ok z s2) (hp:p_ n z s2=.ok v s3):qc fo fk e s=.ok v s3:=by
 show (fo e s).bind _=_
 rw [ho,zC]
 show yR s n _=_
 rw [wZ h]
 dsimp only
 rw [hk,zC,hp]
def VU {ws:Ad}{w:Str}(h:w∉ws):(ws++[w]).filter (λk=>!decide (k=w))=ws:=by
 rw [List.filter_append,List.filter_eq_self.mpr (λa ha=>by simp;exact λe=>h (e▸ha))]
 simp
abbrev tP:Ak:=(mB (zj jI (zn (jO 3) (ze (zc 3) zh)) (Ar 58)))
abbrev bP:Aj:=(yU (qc (zc 3) (yx pA (zc 2))))
def VV {ns:List Int}{d r n:Nat}{z4:Ao}{f:Str->Tr}:∀(m fuel:Nat) (ws:Ad) (s:aa),ws.length=m->m<fuel->Wr d n r ws f s->ws.Nodup->(∀w∈ws,Vv (f w))->5<=ws.length->∃j s',bG tP bP fuel (eL ns d r n z4 none none none) s=.ok (.nx (eL ns d r n z4 none none none)) s'/\Wr d n r (ws.take j) f s'/\5<=(ws.take j).length/\aQ ((ws.take j).map f)<=57:=by
 intro m
 induction m with
 |zero=>intro fuel ws s h1 _ _ _ _ h2;omega
 |succ m ih =>
  intro fuel ws s hm hf h nd vv lo
  obtain ⟨fu,rfl⟩:∃k,fuel=k+1:=⟨fuel-1,by omega⟩
  obtain ⟨s1,e1,o1⟩:=Jd h.rc λw hw=>(vv w hw).1
  have h1:=h.old o1
  by_cases hz:aQ (ws.map f)<=57
  ·refine ⟨ws.length,s1,VT (zF (zq (zA (zG (zg rfl)) e1) rfl (iG false (by rw [decide_eq_false_iff_not];simp only [sz];omega) _))),?_⟩
   rw [List.take_length]
   exact ⟨h1,lo,hz⟩
  ·have lg:aQ (ws.map f)<=2*ws.length:=by
    have:∀l:Ad,(∀w∈l,Vv (f w))->aQ (l.map f)<=2*l.length:=λl=>by
     induction l with
     |nil=>intro _;simp [aQ]
     |cons a l ih=>intro q;have a1:=(q a (yj ..)).1.sz;have a2:=ih λw hw=>q w (yz _ hw);simp only [ye,aQ,yF];omega
    exact this ws vv
   obtain ⟨dh,w,rfl⟩:∃dh w,ws=dh++[w]:=⟨ws.dropLast,ws.getLast (λe=>by rw [e] at lo;simp at lo),(List.dropLast_concat_getLast _).symm⟩
   have hw:w∉dh:=λq=>by rw [List.nodup_append] at nd;exact nd.2.2 w q w (by simp) rfl
   have pp:pA (.ref r) s1=.ok (.str w) (s1.set r (.lst (dh.map PV.str))):=by
    have g:=h1.w
    rw [wa] at g
    simp [pA,yr g]
   have VW:Rc (s1.set r (.lst (dh.map PV.str))) n (dh++[w]) f:=by
    show (s1.set r _)[n]?=_
    rw [yN h1.nr.symm];exact h1.rc
   have pd:=Jj VW (z:=w) (by simp)
   rw [VU hw] at pd
   have h3:Wr d n r dh f ((s1.set r (.lst (dh.map PV.str))).set n (.dic dh (mp dh f))):=by
    refine ⟨?_,?_,?_,h1.ne⟩
    ·obtain ⟨l,q⟩:=h1.dc
     exact ⟨l,by rw [yN h1.nd,yN h1.ne];exact q⟩
    ·rw [yN h1.nr,jf (yD h1.w)]
    ·show _=_
     rw [jf (by rw [List.length_set];exact yD h1.rc)]
   simp only [jo,ma] at hm lg lo
   obtain ⟨j,s',F,q1,q2,q3⟩:=ih fu dh _ (by omega) (by omega) h3 (by rw [List.nodup_append] at nd;exact nd.1) (λw hw=>vv w (iI _ hw)) (by omega)
   have jl:dh.take j=(dh++[w]).take (min j dh.length):=by
    rw [List.take_append_of_le_length (by omega),List.take_eq_take_iff];omega
   rw [jl] at q1 q2 q3
   refine ⟨min j dh.length,s',?_,q1,q2,q3⟩
   rw [VS (zF (zq (zA (zG (zg rfl)) e1) rfl (iG true (by rw [jH];simp only [sz];omega) _))) (wF (Jk (zg rfl) h1.rc (jm (zg rfl) pp) pd))]
   exact F
def VX (ns:List Int) (st:aa):∃d r n z4 ws f s',Kn ws f/\Wr d n r ws f s'/\∀X s2,Ha (eL ns d r n z4 none none none) s'=.ok (.rt X) s2->Bm [.frl (ns.map PV.int)] st=.ok X s2:=by
 obtain ⟨d,s1,e1,hd⟩:=Vz ns st
 obtain ⟨c,s2,e2,hc,n2⟩:=jP hd 26 (by decide)
 obtain ⟨r,s3,ws,e3,w1,w2,w3,w4,n3,lr⟩:=VF n2.dc (5+c) (by omega)
 have dl:d<s2.length:=by obtain ⟨l,e⟩:=n2.dc;exact yD e
 have VY:Dc d (s3++[SO.dic [] []]):=by obtain ⟨l,e⟩:=n3.dc;exact ⟨l,zR _ _ _ _ e⟩
 obtain ⟨e',s4,F,⟨z4,he⟩,f,W,V⟩:=VP (ns:=ns) (d:=d) (r:=r) (n:=s3.length) VY (zR _ _ _ _ w1) (yi _ _) (by omega) w2 (by omega)
 subst he
 obtain ⟨j,s5,P,W2,l2,z2⟩:=VV (ns:=ns) (z4:=z4) ws.length lim ws s4 rfl (by simp [lim];omega) W w2 V (by omega)
 have c5:(5:Int)+(c:Int)=((5+c:Nat):Int):=by omega
 refine ⟨d,r,s3.length,z4,ws.take j,f,s5,⟨(List.take_sublist _ _).nodup w2,λw hw=>?_,λw hw=>V w (List.mem_of_mem_take hw),l2,by simp;omega,z2⟩,W2,λX s6 H=>?_⟩
 ·obtain ⟨p1,p2⟩:=w3 w (List.mem_of_mem_take hw)
  exact ⟨p1,p2.imp id λ⟨k,hk,e⟩=>⟨k,by omega,e⟩⟩
 ·exact yp rfl (zu (yg (zA (zG (zg rfl)) e1)) (zu (yg (zA (yf (zg rfl) (zq rfl (zA (yf (zg rfl) rfl) e2) ((y7 _ _).trans (by rw [c5])))) e3)) (zu (yg rfl) (zu F (zu (show kf tP bP _ _=_ from P) H)))))
theorem Jl {g:PV->zd->Option zd}{body:Aj}{n:Nat}(xs:An) (I:Nat->zd->aa->Prop) (at_:∀i e st,I i e st->st[n]?=some (.lst xs)) (step:∀(i:Nat) x e st,xs[i]?=some x->I i e st->∃e1 e2 av,g (.tup [.int (i:Int),x]) e=some e1/\body e1 st=.ok (.nx e2) av/\I (i+1) e2 av) :
  ∀(k i m:Nat) (env:zd) (st:aa),i+k=xs.length->k<m->I i env st->∃bT aP,fA g body n m i env st=.ok (.nx bT) aP/\I xs.length bT aP
 |0,i,m,env,st,hk,hm,h=>by
  obtain ⟨m,rfl⟩:∃j,m=j+1:=⟨m-1,by omega⟩
  refine ⟨env,st,?_,by rw [<-hk];exact h⟩
  unfold fA
  rw [yr (at_ _ _ _ h),qW (by omega)]
 |k+1,i,m,env,st,hk,hm,h=>by
  obtain ⟨m,rfl⟩:∃j,m=j+1:=⟨m-1,by omega⟩
  have hx:xs[i]?=some (xs[i]'(by omega)):=yb (by omega)
  obtain ⟨e1,e2,av,q1,q2,q3⟩:=step i _ env st hx h
  obtain ⟨bT,aP,r,h2⟩:=Jl xs I at_ step k (i+1) m e2 av (by omega) (by omega) q3
  refine ⟨bT,aP,?_,h2⟩
  unfold fA
  rw [yr (at_ _ _ _ h),hx]
  simp only
  rw [q1]
  simp only
  rw [q2]
  simp only [zC]
  exact r
def VZ {fs:Ah}{gt:PV->zd->Option zd}{body:Aj}{e:zd}{s s1:aa}{r:Nat}{xs:An}{X:Res Fl}(h:fs e s=.ok [.ref r] s1) (hr:s1[r]?=some (.lst xs)) (hX:fA gt body r (lim+1) 0 e s1=X):sH fs gt body e s=X:=by
 show (fs e s).bind _=_
 rw [h,zC]
 have o:gF [.ref r] s1=.ok r s1:=by simp [gF,yr hr]
 rw [o,zC]
 exact hX
structure Nq (d q:Nat) (a b:aa):Prop where
 ob:∀(m:Nat) so,m≠d->m≠q->a[m]?=some so->b[m]?=some so
 dc:Dc d b
def Nq.trans {d q:Nat}{a b c:aa}(h:Nq d q a b) (h':Nq d q b c):Nq d q a c:=⟨λm so h1 h2 e=>h'.ob m so h1 h2 (h.ob m so h1 h2 e),h'.dc⟩
def Nq.of {d q:Nat}{a b:aa}(h:Nx d a b):Nq d q a b:=⟨λm so h1 _ e=>h.ob m so h1 e,h.dc⟩
theorem Nq.set {d q:Nat}{a:aa}(h:Dc d a) (hq:q≠d) (so:SO):Nq d q a (a.set q so):=⟨λm s h1 h2 e=>by rw [yN (yL h2)];exact e,by obtain ⟨l,e⟩:=h;exact ⟨l,by rw [yN hq];exact e⟩⟩
def Nq.nx {d q:Nat}{st a b:aa}(h:Nx d st a) (hq:st.length<=q) (h':Nq d q a b):Nx d st b:=⟨λm so h1 e=>h'.ob m so h1 (by have:=yD e;omega) (h.ob m so h1 e),h'.dc⟩
def Wr.nq {d n r q:Nat}{ws:Ad}{f:Str->Tr}{a b:aa}(h:Wr d n r ws f a) (k:Nq d q a b) (hn:n≠q) (hr:r≠q):Wr d n r ws f b:=⟨k.dc,k.ob _ _ h.ne hr h.w,k.ob _ _ h.nd hn h.rc,h.ne⟩
def V0 {t:Tr}(h:Sv t) (st:aa):yM (pv t) (pv t) st=.ok (.bl false) st:=by
 rcases h with ⟨i,rfl,_⟩|⟨z,rfl,hz⟩|rfl|⟨i,rfl,_⟩|⟨z,rfl,hz⟩<;>simp [yM,pv,Mi.plain,bz,dep,cS,bA,cV]
abbrev lU:Ad:=["", "A", "a b", "abcdefghi", "a1", "a~"]
def Jm:∀z∈lU,bg z=false/\z.length<=1000:=by decide +kernel
def BZ (a b:Int) (st:aa):jJ (.int a) (.int b) st=.ok (.bl (a==b)) st:=rfl
abbrev eR (d n r:Nat) (z3 z4 z5 z6 z7:Ao):zd:=[sR d,sR n,sR r,z3,z4,z5,z6,z7]
abbrev B0:Ai:=(zj zJ (jA (ze (zc 6) (ze (zj zJ (jA (mT ["", "A", "a b", "abcdefghi", "a1", "a~"])) (zn yO (ze (zc 0) (ze (Ar 6) zh)))) zh))) (zn mL (ze (zj jJ (zc 5) (zc 3)) zh)))
def V1 {d n r:Nat}{a i:Nat}{w:Str}{z4 z7:Ao}{s:aa}(hd:Dc d s):∃z s1,B0 (eR d n r (sI a) z4 (sI i) (some (.str w)) z7) s=.ok (.str z) s1/\Nx d s s1/\(i≠a->z=w)/\(i=a->z∈lU):=by
 have n1:Nx d s (s++[SO.lst (lU.map PV.str)]):=Nx.of hd (zR _ _)
 have dl:d<s.length:=by obtain ⟨l,e⟩:=hd;exact yD e
 obtain ⟨k,s2,e2,hk,n2⟩:=jP n1.dc 6 (by decide)
 have g:s2[s.length]?=some (.lst (lU.map PV.str)):=n2.ob _ _ (by omega) (yi _ _)
 obtain ⟨z,hz⟩:∃z,lU[k]?=some z:=⟨lU[k]'(by simpa using hk),yb _⟩
 have ix:zJ (.ref s.length) (.int (k:Int)) s2=.ok (.str z) s2:=by
  have q:bY (lU.map PV.str) (k:Int)=some (.str z):=bj (by rw [yP,hz];rfl)
  rw [lC,yr g,q];rfl
 have n3:Nx d s2 (s2++[SO.lst [.str w,.str z]]):=Nx.of n2.dc (zR _ _)
 have L:(jA (ze (zc 6) (ze (zj zJ (jA (mT ["", "A", "a b", "abcdefghi", "a1", "a~"])) (zn yO (ze (zc 0) (ze (Ar 6) zh)))) zh))) (eR d n r (sI a) z4 (sI i) (some (.str w)) z7) s=.ok (.ref s2.length) (s2++[.lst [.str w,.str z]]) :=
  iB (yf (zg rfl) (zq (iB (EW _) (by simp)) (zA (yf (zg rfl) rfl) e2) ix)) (by simp)
 have I:(zn mL (ze (zj jJ (zc 5) (zc 3)) zh)) (eR d n r (sI a) z4 (sI i) (some (.str w)) z7) (s2++[.lst [.str w,.str z]])=.ok (.int (if ((i:Int)==(a:Int))=true then 1 else 0)) (s2++[.lst [.str w,.str z]]):=zA (zG (zq (zg rfl) (zg rfl) (BZ _ _ _))) (Ew _)
 by_cases h:i=a
 ·subst h
  refine ⟨z,_,zq L I ?_,(n1.trans n2).trans n3,λq=>absurd rfl q,λ_=>jG hz⟩
  rw [zp (by simp),lC,yr (yi _ _)]
  rfl
 ·refine ⟨w,_,zq L I ?_,(n1.trans n2).trans n3,λ_=>rfl,λq=>absurd q h⟩
  rw [zD (by simp;omega),lC,yr (yi _ _)]
  rfl
def B1 {z:Str}{ks:Ad}(h:ks.Nodup):(pK z ks).Nodup:=by
 by_cases hz:z∈ks
 ·rw [qx hz];exact h
 ·rw [nA hz,List.nodup_append]
  exact ⟨h,by simp,λa ha b hb e=>by rw [iJ.mp hb] at e;subst e;exact hz ha⟩
def nL {z k:Str}{ks:Ad}:k∈pK z ks↔k∈ks\/k=z:=by
 by_cases hz:z∈ks
 ·rw [qx hz];exact ⟨.inl,λh=>h.elim id λe=>e▸hz⟩
 ·rw [nA hz];simp
def V2 (z:Str) (ks:Ad):(pK z ks).length<=ks.length+1:=by
 by_cases hz:z∈ks
 ·rw [qx hz];omega
 ·rw [nA hz];simp
def Jn (q a i:Nat) (s:aa):Prop:=∃ks g,Rc s q ks g/\ks.Nodup/\(∀k∈ks,k.length<=1000/\Sv (g k))/\ks.length<=i/\(a<i->∃z∈ks,bg z=false)
def V3 {d n r a:Nat}{ws:Ad}{f:Str->Tr}{s:aa}(W:Wr d n r ws f s) (K:Kn ws f):∃z5 z6 s',sH (ze (zc 2) zh) (g2 5 6) (jp (zc 4) B0 (zj zJ (zc 1) (zc 6))) (eR d n r (sI a) (sR s.length) none none none) (s++[.dic [] []])=.ok (.nx (eR d n r (sI a) (sR s.length) z5 z6 none)) s'/\Nx d s s'/\Jn s.length a ws.length s':=by
 have dl:d<s.length:=by obtain ⟨l,e⟩:=W.dc;exact yD e
 have nl:=yD W.rc
 have rl:=yD W.w
 have W0:=W.old (zR s [SO.dic [] []])
 obtain ⟨e',s',F,⟨z5,z6,he⟩,hq,ho⟩:=Jl (g:=g2 5 6) (body:=jp (zc 4) B0 (zj zJ (zc 1) (zc 6))) (n:=r) (ws.map PV.str) (λi e s'=>(∃z5 z6,e=eR d n r (sI a) (sR s.length) z5 z6 none)/\Nq d s.length (s++[SO.dic [] []]) s'/\Jn s.length a i s') (λi e s' h=>(W0.nq h.2.1 (by omega) (by omega)).w) (λi x e s' hx ⟨⟨z5,z6,he⟩,hq,ks,g,o1,o2,o3,o4,o5⟩=>by
  subst he
  rw [yP] at hx
  cases ec:ws[i]? with
  |none=>rw [ec] at hx;cases hx
  |some w =>
   rw [ec] at hx
   cases hx
   have hw:=jG ec
   have hi:=(yu.mp ec).1
   have W1:=W0.nq hq (by omega) (by omega)
   obtain ⟨z,s1,e1,n1,c1,c2⟩:=V1 (d:=d) (n:=n) (r:=r) (a:=a) (i:=i) (w:=w) (z4:=sR s.length) (z7:=none) W1.dc
   have BX:Rc s1 s.length ks g:=n1.ob _ _ (by omega) o1
   have oO:=K.hi
   obtain ⟨s2,e2,se,r2⟩:=kA BX (by omega) z (f w)
   have zl:z.length<=1000:=by
    by_cases h:i=a
    ·exact (Jm z (c2 h)).2
    ·rw [c1 h];exact (K.wx w hw).len
   refine ⟨_,_,s2,rfl,lT (zq (zg rfl) (zg rfl) (nv W1.rc hw)) (zg rfl) e1 e2,⟨_,_,rfl⟩,(hq.trans (Nq.of n1)).trans (by rw [se];exact Nq.set n1.dc (by omega) _),pK z ks,up g z (f w),r2,B1 o2,λk hk=>?_,by have:=V2 z ks;omega,λha=>?_⟩
   ·unfold up
    rcases nL.mp hk with q|q
    ·refine ⟨(o3 k q).1,?_⟩
     split
     ·exact K.sv w hw
     ·exact (o3 k q).2
    ·subst q
     rw [zp rfl]
     exact ⟨zl,K.sv w hw⟩
   ·by_cases h:i=a
    ·exact ⟨z,nL.mpr (.inr rfl),(Jm z (c2 h)).1⟩
    ·obtain ⟨y,hy,y2⟩:=o5 (by omega)
     exact ⟨y,nL.mpr (.inl hy),y2⟩) ws.length 0 (lim+1) (eR d n r (sI a) (sR s.length) none none none) (s++[SO.dic [] []]) (by simp) (by have:=K.hi;simp [lim];omega) ⟨⟨_,_,rfl⟩,Nq.of (Nx.refl W0.dc),[],λ_=>.num 0,(show Rc (s++[SO.dic [] []]) s.length [] (λ_=>Tr.num 0) from yi s _),.nil,(λ_ h=>nomatch h),jh _,λh=>absurd h (by omega)⟩
 rw [y3] at ho
 subst he
 exact ⟨z5,z6,s',VZ (zG (zg rfl)) W0.w F,Nq.nx (Nx.of W.dc (zR _ _)) (z0 _) hq,ho⟩
theorem Jo {f:Str->Tr}:∀l:Ad,(∀w∈l,Sv (f w))->aQ (l.map f)<=2*l.length
 |[],_=>by simp [aQ]
 |a::l,q=>by have a1:=(q a (yj ..)).sz;have a2:=Jo l λw hw=>q w (yz _ hw);simp only [ye,aQ,yF];omega
theorem Jp {f:Str->Tr}:∀l:Ad,(∀w∈l,Sv (f w))->okTs (l.map f)=true
 |[],_=>rfl
 |a::l,q=>by simp only [ye,okTs,(q a (yj ..)).okT,Jp l λw hw=>q w (yz _ hw),Bool.and_self]
def B2 {s:aa}{r:Nat}{ws:Ad}(h:s[r]?=some (.lst (ws.map PV.str))):yk [.ref r] s=.ok (.int (ws.length:Int)) s:=by
 have:=iA h
 rwa [y3] at this
def uJ {s:aa}{r i:Nat}{ws:Ad}{w:Str}(h:s[r]?=some (.lst (ws.map PV.str))) (hw:ws[i]?=some w):zJ (.ref r) (.int (i:Int)) s=.ok (.str w) s:=by
 have q:bY (ws.map PV.str) (i:Int)=some (.str w):=bj (by rw [yP,hw];rfl)
 rw [lC,yr h,q];rfl
def u_ (a b:Bool) (s:aa):pG (.bl a) (.bl b) s=.ok (.bl (!(a==b))) s:=rfl
def Jq:("vvvvv" : Str).length=5:=by decide +kernel
def V4 {d n r:Nat}{ws:Ad}{f:Str->Tr}{st:aa}(W:Wr d n r ws f st) (K:Kn ws f):∃s1,tK [.ref d,.ref n,.ref r] st=.ok (.bl true) s1/\Nx d st s1:=by
 have T:∀s,Wr d n r ws f s->TR s (.rec_ ws (ws.map f)) (.ref n):=λs h=>h.rc.tr K.good
 have zz:sz (.rec_ ws (ws.map f))<=58:=by have:=K.sz;simp only [sz];omega
 obtain ⟨a1,p1,o1⟩:=Hv (T _ W) (by omega)
 have W1:=W.old o1
 obtain ⟨a2,p2,o2⟩:=Jd W1.rc K.sv
 have W2:=W1.old o2
 obtain ⟨a3,p3,o3⟩:=Ua (T _ W2) (by omega)
 have W3:=W2.old o3
 obtain ⟨a4,p4,o4⟩:=VO W3.rc K.sv
 have W4:=W3.old o4
 obtain ⟨a5,p5,o5⟩:=Hr (T _ W4) (by omega)
 have W5:=W4.old o5
 have V6:(decide (sz (.rec_ ws (ws.map f))<=60)&&okT (.rec_ ws (ws.map f)))=true:=by
  have:ws.all bg=true:=List.all_eq_true.mpr λw hw=>(K.wx w hw).1
  simp only [okT,ok,this,Jp ws K.sv,Bool.and_self,Bool.and_true]
  simp;omega
 rw [V6] at p5
 obtain ⟨at_,a6,p6,ha,n6⟩:=jP W5.dc ws.length (by have:=K.lo;omega)
 have W6:=W5.nx n6
 obtain ⟨z5,z6,a7,p7,n7,ks,g,q1,q2,q3,q4,q5⟩:=V3 (a:=at_) W6 K
 have W7:=W6.nx n7
 have kl:=K.hi
 obtain ⟨a8,p8,o8⟩:=Hr (st:=a7) (t:=.rec_ ks (ks.map g)) (v:=.ref a6.length) ⟨a6.length,_,rfl,q1,q2,by simp,ue _ ks λk hk=>(q3 k hk).2,λk hk=>(q3 k hk).1⟩ (by have:=Jo (f:=g) ks λk hk=>(q3 k hk).2;simp only [sz];omega)
 have V7:okT (.rec_ ks (ks.map g))=false:=by
  obtain ⟨z,hz,nz⟩:=q5 (by omega)
  have:ks.all bg=false:=by
   rw [List.all_eq_false]
   exact ⟨z,hz,by rw [nz];simp⟩
  simp only [okT,ok,this,Bool.false_and]
 rw [V7,Bool.and_false] at p8
 have W8:=W7.old o8
 obtain ⟨e',a9,F,⟨y6,he⟩,o9⟩:=qF (g:=gN 6) (body:=(zQ (mB (zj yM (zn yG (ze (As "field") (ze (yQ (ze (zc 1) (ze (zc 6) zh))) zh))) (zj zJ (zc 1) (zc 6)))) (zH (mC (.bl false))) zT)) (n:=r) (ws.map PV.str) (λi e s=>(∃y6,e=eR d n r (sI at_) (sR a6.length) z5 y6 none)/\Old a8 s) (λi e s h=>(W8.old h.2).w) (λi x e s hx ⟨⟨y6,he⟩,ho⟩=>by
  subst he
  rw [yP] at hx
  cases ec:ws[i]? with
  |none=>rw [ec] at hx;cases hx
  |some w =>
   rw [ec] at hx
   cases hx
   have hw:=jG ec
   have W':=W8.old ho
   obtain ⟨s1,e1,o1⟩:=Uu W'.rc K.good hw
   exact ⟨_,_,s1,rfl,zZ (zF (zq (zA (yf rfl (j8 (yf (zg rfl) (zg rfl)) (by simp))) e1) (zq (zg rfl) (zg rfl) (nv (W'.old o1).rc hw)) (V0 (K.sv w hw) _))),⟨_,rfl⟩,ho.trans o1⟩) ws.length 0 (lim+1) (eR d n r (sI at_) (sR a6.length) z5 z6 none) a8 (by simp) (by simp [lim];omega) ⟨⟨_,rfl⟩,Old.refl _⟩
 subst he
 have W9:=W8.old o9
 obtain ⟨w0,h0⟩:∃w,ws[0]?=some w:=⟨ws[0]'(by have:=K.lo;omega),yb _⟩
 have l0:=jK (K.wx w0 (jG h0)).1
 have sl:=Txt.slice_le w0 none (some 2)
 have S1:wU (.str w0) none (some 2) a9=.ok (.str (Txt.slice w0 none (some 2))) a9:=by
  show (if w0.length<=lim then _ else _)=_
  rw [zp (by simp [lim];omega)]
 have A1:=ad (Txt.slice w0 none (some 2)) "vvvvv" (by rw [Jq];omega) a9
 have bl:(Txt.slice w0 none (some 2)++("vvvvv" : Str)).length<=1000:=by rw [Str.length_append,Jq];omega
 generalize Txt.slice w0 none (some 2)++("vvvvv" : Str)=bs at A1 bl
 have Jr:Nx d st a9:=((Nx.of W.dc ((((o1.trans o2).trans o3).trans o4).trans o5)).trans n6).trans (n7.trans (Nx.of W7.dc (o8.trans o9)))
 have H:∀s',(j1 (mB (zj (yS true) (zc 7) (zc 2))) (mB (zj yM (zn yG (ze (As "field") (ze (yQ (ze (zc 1) (ze (zc 7) zh))) zh))) (As "fault field")))) (eR d n r (sI at_) (sR a6.length) z5 y6 (some (.str bs))) a9=.ok false s'->tK [.ref d,.ref n,.ref r] st=.ok (.bl true) s':=λs' hb =>
  yp rfl (zu (zZ (gI (zF (zq (zA (zG (zg rfl)) p1) (zA (zG (zg rfl)) p2) ((m3 _ _).trans (by simp)))) (gI (zF (zq (zA (zG (zg rfl)) p3) (zA (zG (zg rfl)) p4) ((m3 _ _).trans (by simp)))) (zF (zq (zA (zG (zg rfl)) p5) rfl (u_ _ _ _))))))
   (zu (yg (zA (yf (zg rfl) (zA (zG (zg rfl)) (B2 W5.w))) p6)) (zu (yg rfl) (zu p7 (zu (zZ (zF (zq (zA (zG (zg rfl)) p8) rfl (u_ _ _ _)))) (zu (uE (zg rfl) W8.w F) (zu (yg (zq (gK (zq (zg rfl) rfl (uJ (i:=0) W9.w h0)) lG (wn rfl) S1) rfl A1)) (zu (zZ hb) (yo rfl)))))))))
 by_cases hb:bs∈ws
 ·exact ⟨a9,H a9 (pU (zF (zq (zg rfl) (zg rfl) ((BU W9.w true).trans (by simp [hb]))))),Jr⟩
 ·obtain ⟨s1,e1,o1⟩:=Uv W9.rc K.good hb bl
  exact ⟨s1,H s1 (pV (zF (zq (zg rfl) (zg rfl) ((BU W9.w true).trans (by simp [hb])))) (zF (zq (zA (yf rfl (j8 (yf (zg rfl) (zg rfl)) (by simp))) e1) rfl ((pW _ _).trans (by simp))))),Jr.trans (Nx.of W9.dc o1)⟩
theorem qQ:∀ws:Ad,strsOf (ws.map PV.str)=some ws
 |[]=>rfl
 |w::ws=>by simp [strsOf,qQ ws]
def Js {s:aa}{r:Nat}{ws:Ad}(h:s[r]?=some (.lst (ws.map PV.str))) (hl:ws.length<64):lH [.ref r] s=.ok (.ref s.length) (s++[.lst ((ak ws).map PV.str)]):=by
 show yl s r _=_
 rw [yr h,qQ]
 simp only
 rw [zp hl]
def V8 (f:Str->Tr) (w:Str):up f w (f w)=f:=by
 funext k
 unfold up
 split
 ·rename_i h;rw [h]
 ·rfl
def qR {s:aa}{q:Nat}{ks:Ad}{g:Str->Tr}(h:Rc s q ks g) (nd:ks.Nodup) (len:∀k∈ks,k.length<=1000) (sv:∀k∈ks,Sv (g k)):TR s (.rec_ ks (ks.map g)) (.ref q):=⟨q,_,rfl,h,nd,by simp,ue s ks sv,len⟩
def q8:("qqvvqqvv" : Str).length=8/\("vvvvvvqv" : Str).length=8:=by decide +kernel
def Kn.qq {ws:Ad} {f:Str->Tr} (K:Kn ws f):("qqvvqqvv" : Str)∉ws/\("vvvvvvqv" : Str)∉ws:=by
 refine ⟨λh=>?_,λh=>?_⟩
 ·rcases (K.wx _ h).2 with q|⟨k,hk,e⟩
  ·have:=q8.1;omega
  ·exact (BV k hk).2.2.2.1 e.symm
 ·rcases (K.wx _ h).2 with q|⟨k,hk,e⟩
  ·have:=q8.2;omega
  ·exact (BV k hk).2.2.2.2 e.symm
def V9 {ws:Ad}{i:Nat}{w:Str}(nd:ws.Nodup) (ec:ws[i]?=some w):w∉ws.take i:=λhm=>by
 have hi:=(yu.mp ec).1
 have:=nd
 rw [<-List.take_append_drop i ws,List.nodup_append] at this
 refine this.2.2 w hm w ?_ rfl
 rw [jy hi]
 have:=(yu.mp ec).2
 rw [this]
 exact yj ..
abbrev eS (d n r q:Nat) (z4 z5:Ao):zd:=[sR d,sR n,sR r,sR q,z4,z5]
def V_ {d n r:Nat}{ws:Ad}{f:Str->Tr}{s:aa}(W:Wr d n r ws f s) (K:Kn ws f):∃z4 s',js (yA (zn lH (ze (zc 2) zh))) (gN 4) (jp (zc 3) (zc 4) (zj zJ (zc 1) (zc 4))) (eS d n r s.length none none) (s++[.dic [] []])=.ok (.nx (eS d n r s.length z4 none)) s'/\Nq d s.length (s++[SO.dic [] []]) s'/\Rc s' s.length (ak ws) f:=by
 have dl:d<s.length:=by obtain ⟨l,e⟩:=W.dc;exact yD e
 have nl:=yD W.rc
 have rl:=yD W.w
 have W0:=W.old (zR s [SO.dic [] []])
 have hi:=K.hi
 have sl:=Js W0.w (by omega)
 have pm:=jd ws
 have W1:=W0.old (zR (s++[SO.dic [] []]) [SO.lst ((ak ws).map PV.str)])
 have ll:(ak ws).length=ws.length:=pm.length_eq
 obtain ⟨e',s',F,⟨z4,he⟩,hq,hl,hr⟩:=qF (g:=gN 4) (body:=jp (zc 3) (zc 4) (zj zJ (zc 1) (zc 4))) (n:=(s++[SO.dic [] []]).length) ((ak ws).map PV.str) (λi e s'=>(∃z4,e=eS d n r s.length z4 none)/\Nq d s.length (s++[SO.dic [] []]++[SO.lst ((ak ws).map PV.str)]) s'/\s'[(s++[SO.dic [] []]).length]?=some (.lst ((ak ws).map PV.str))/\Rc s' s.length ((ak ws).take i) f) (λi e s' h=>h.2.2.1) (λi x e s' hx ⟨⟨z4,he⟩,hq,hl,hr⟩=>by
  subst he
  rw [yP] at hx
  cases ec:(ak ws)[i]? with
  |none=>rw [ec] at hx;cases hx
  |some w =>
   rw [ec] at hx
   cases hx
   have hw:w∈ws:=pm.mem_iff.mp (jG ec)
   have W2:=W1.nq hq (by omega) (by omega)
   obtain ⟨s2,e2,se,r2⟩:=kA hr (by simp;omega) w (f w)
   have tk:pK w ((ak ws).take i)=(ak ws).take (i+1):=by rw [nA (V9 (pm.nodup_iff.mpr K.nd) ec),lP ec]
   rw [tk,V8] at se r2
   refine ⟨_,_,s2,rfl,lT (zq (zg rfl) (zg rfl) (nv W2.rc hw)) (zg rfl) (zg rfl) e2,⟨_,rfl⟩,hq.trans (by rw [se];exact Nq.set W2.dc (by omega) _),?_,r2⟩
   rw [se,yN (by simp)];exact hl) (ak ws).length 0 (lim+1) (eS d n r s.length none none) (s++[SO.dic [] []]++[SO.lst ((ak ws).map PV.str)]) (by simp) (by simp [lim];omega) ⟨⟨_,rfl⟩,Nq.of (Nx.refl W1.dc),yi _ _,zR _ _ _ _ (yi s (SO.dic [] []))⟩
 rw [y3,List.take_length] at hr
 subst he
 exact ⟨z4,s',uE (zA (zG (zg rfl)) sl) (yi _ _) F,(Nq.of (Nx.of W0.dc (zR _ _))).trans hq,hr⟩
def uK {d n r q:Nat} {z4 z5:Ao} {i j a b:Nat} {s s1:aa} {x:PV} (hi:(eS d n r q z4 z5)[i]?=some (sR a)) (hj:(eS d n r q z4 z5)[j]?=some (sR b)) (h:yG [.str "same", .tup [.ref a,.ref b]] s=.ok x s1):(zn yG (ze (As "same") (ze (yQ (ze (zc i) (ze (zc j) zh))) zh))) (eS d n r q z4 z5) s=.ok x s1 :=
 zA (yf rfl (j8 (yf (zg hi) (zg hj)) (by simp))) h
def Jt:Sv (.row [.word "other"]):=.inr (.inr (.inr (.inr ⟨_,rfl,by decide +kernel⟩)))
def Wa {d n r:Nat}{ws:Ad}{f:Str->Tr}{st:aa}(W:Wr d n r ws f st) (K:Kn ws f):∃s1,Bh [.ref d,.ref n,.ref r] st=.ok (.bl true) s1/\Nx d st s1:=by
 have dl:d<st.length:=by obtain ⟨l,e⟩:=W.dc;exact yD e
 have nl:=yD W.rc
 have rl:=yD W.w
 have hi:=K.hi
 have W0:=W.old (zR st [SO.dic [] []])
 obtain ⟨z4,s1,F,q1,r1⟩:=V_ W K
 have W1:=W0.nq q1 (by omega) (by omega)
 have pm:=jd ws
 have uL:(ak ws).Nodup:=pm.nodup_iff.mpr K.nd
 have ml:∀k,k∈ak ws↔k∈ws:=λk=>pm.mem_iff
 have Ju:∀k∈ak ws,k.length<=1000:=λk hk=>(K.wx k ((ml k).mp hk)).len
 have T:∀s,Wr d n r ws f s->TR s (.rec_ ws (ws.map f)) (.ref n):=λs h=>h.rc.tr K.good
 obtain ⟨s2,e2,o2⟩:=uf (T _ W1) (qR r1 uL Ju λk hk=>K.sv k ((ml k).mp hk)) (b:=true) λs o=>HP (W1.old o).rc (r1.old o) K.nd pm.length_eq.symm (λk hk=>⟨(ml k).mpr hk,rfl⟩) K.sv
 have W2:=W1.old o2
 obtain ⟨a,s3,e3,ha,n3⟩:=jP W2.dc ws.length (by have:=K.lo;omega)
 have W3:=W2.nx n3
 have r3:Rc s3 st.length (ak ws) f:=n3.ob _ _ (by omega) (r1.old o2)
 obtain ⟨w,hw⟩:∃w,ws[a]?=some w:=⟨ws[a]'ha,yb _⟩
 have gU:=jG hw
 have B3:=(ml w).mpr gU
 obtain ⟨s4,e4,Jv,r4⟩:=kA r3 (by rw [pm.length_eq];omega) w (.row [.word "other"])
 rw [qx B3] at Jv r4
 have q4:Nq d st.length s3 s4:=by rw [Jv];exact Nq.set W3.dc (by omega) _
 have W4:=W3.nq q4 (by omega) (by omega)
 have Jw:f w ≠ .row [.word "other"]:=(K.vv w gU).2
 have B4:∀k∈ak ws,Sv (up f w (.row [.word "other"]) k):=λk hk=>by
  unfold up
  split
  ·exact Jt
  ·exact K.sv k ((ml k).mp hk)
 have T4:∀s,Old s4 s->TR s (.rec_ (ak ws) ((ak ws).map (up f w (.row [.word "other"])))) (.ref st.length):=λs o=>qR (r4.old o) uL Ju B4
 have uw:up f w (.row [.word "other"]) w=.row [.word "other"]:=zp rfl
 obtain ⟨s5,e5,o5⟩:=uf (T _ W4) (T4 s4 (Old.refl _)) (b:=false) λs o=>ud (W4.old o).rc (r4.old o) K.nd (λ_=>⟨w,gU,.inr (by rw [uw];exact Jw)⟩) K.sv B4
 have W5:=W4.old o5
 obtain ⟨s6,e6,o6⟩:=uf (T4 s5 o5) (T _ W5) (b:=false) λs o=>ud (r4.old (o5.trans o)) (W5.old o).rc uL (λ_=>⟨w,B3,.inr (by rw [uw];exact λq=>Jw q.symm)⟩) B4 K.sv
 have W6:=W5.old o6
 have r6:=r4.old (o5.trans o6)
 have pd:=Jj r6 B3
 have Yz:(ak ws).filter (λk=>!decide (k=w))=(ak ws).filter (λk=>!decide (k=w)):=rfl
 generalize hks:(ak ws).filter (λk=>!decide (k=w))=ks at pd
 have Wb:∀k,k∈ks↔k∈ws/\k≠w:=λk=>by rw [<-hks,List.mem_filter,ml];simp
 have kl:ks.length<=1000:=by have:=List.length_filter_le (λk=>!decide (k=w)) (ak ws);rw [hks,pm.length_eq] at this;omega
 have r7:Rc (s6.set st.length (.dic ks (mp ks (up f w (.row [.word "other"]))))) st.length ks (up f w (.row [.word "other"])):=jf (yD r6)
 have q7:Nq d st.length s6 (s6.set st.length (.dic ks (mp ks (up f w (.row [.word "other"]))))):=Nq.set W6.dc (by omega) _
 have W7:=W6.nq q7 (by omega) (by omega)
 obtain ⟨s8,e8,Wc,r8⟩:=kA r7 kl "qqvvqqvv" (f w)
 have Jx:Nq d st.length (s6.set st.length (.dic ks (mp ks (up f w (.row [.word "other"]))))) s8:=by rw [Wc];exact Nq.set W7.dc (by omega) _
 have W8:=W7.nq Jx (by omega) (by omega)
 have mk8:∀k,k∈pK "qqvvqqvv" ks↔(k∈ws/\k≠w)\/k = "qqvvqqvv" := λk=>by rw [nL,Wb]
 have Jy:(pK "qqvvqqvv" ks).Nodup:=B1 (by rw [<-hks];exact uL.filter _)
 have B5:∀k∈pK "qqvvqqvv" ks,Sv (up (up f w (.row [.word "other"])) "qqvvqqvv" (f w) k):=λk hk=>by
  unfold up
  split
  ·exact K.sv w gU
  ·split
   ·exact Jt
   ·rcases (mk8 k).mp hk with q|q
    ·exact K.sv k q.1
    ·contradiction
 have Wd:∀k∈pK "qqvvqqvv" ks,k.length<=1000:=λk hk=>by
  rcases (mk8 k).mp hk with q|q
  ·exact (K.wx k q.1).len
  ·rw [q,q8.1];decide
 have wq:w ≠ "qqvvqqvv" := λe=>K.qq.1 (e▸gU)
 have f1:∀s,Old s8 s->eqT s 150 (.ref n) (.ref st.length)=some false:=λs o=>ud (W8.old o).rc (r8.old o) K.nd (λ_=>⟨w,gU,.inl λq=>by
  rcases (mk8 w).mp q with q|q
  ·exact q.2 rfl
  ·exact wq q⟩) K.sv B5
 have f2:∀s,Old s8 s->eqT s 150 (.ref st.length) (.ref n)=some false:=λs o=>ud (r8.old o) (W8.old o).rc Jy (λ_=>⟨"qqvvqqvv", (mk8 _).mpr (.inr rfl),.inl K.qq.1⟩) B5 K.sv
 obtain ⟨s9,e9,o9⟩:=uf (T _ W8) (qR r8 Jy Wd B5) (b:=false) f1
 have f3:jJ (.ref st.length) (.ref n) s9=.ok (.bl false) s9:=by unfold jJ;rw [f2 s9 o9]
 refine ⟨s9,?_,Nq.nx (Nx.of W.dc (zR st [SO.dic [] []])) (z0 _) ((((q1.trans (Nq.of ((Nx.of W1.dc o2).trans n3))).trans q4).trans (Nq.of (Nx.of W4.dc (o5.trans o6)))).trans ((q7.trans Jx).trans (Nq.of (Nx.of W8.dc o9))))⟩
 have B6:∀s,Wr d n r ws f s->(zj zJ (zc 2) (zc 5)) (eS d n r st.length z4 (sI a)) s=.ok (.str w) s:=λs h=>zq (zg rfl) (zg rfl) (uJ h.w hw)
 exact yp rfl (zu (yg rfl) (zu F (zu (zZ (zF (zq (uK rfl rfl e2) rfl ((m3 _ _).trans (by simp))))) (zu (yg (zA (yf (zg rfl) (zA (zG (zg rfl)) (B2 W2.w))) e3)) (zu (lT (j8 (zG rfl) (by simp)) (zg rfl) (B6 _ W3) e4) (zu (zZ (gI (zF (zq (uK rfl rfl e5) rfl ((m3 _ _).trans (by simp)))) (zF (zq (uK rfl rfl e6) rfl ((m3 _ _).trans (by simp)))))) (zu (wF (Jk (zg rfl) r6 (B6 _ W6) pd)) (zu (lT (zq (zg rfl) (B6 _ W7) (nv W7.rc gU)) (zg rfl) rfl e8) (yo (zq (uK rfl rfl e9) (zA (zG (zq (zg rfl) (zg rfl) f3)) (Ew _)) (BZ _ _ _)))))))))))
section
variable {c:Str} {ks:Ad} {zs xs:An} {e:zd} {st s1 s2:aa} {f:Ai} {g g':Aj}
def uM {m n:Nat}(hl:xs.length=m) (h:g (xs.map some++List.replicate (n-m) none) st=.err c ks zs s1):zB m n g xs st=.err c ks zs s1:=by
 unfold zB
 rw [zp hl,h]
 rfl
def uN (h:g e st=.err c ks zs s1):zt g g' e st=.err c ks zs s1:=by rw [pj,h,pf]
def We {i:Nat}(h:f e st=.err c ks zs s1):zV i f e st=.err c ks zs s1:=by rw [xT,h,pf]
def Wf (h:f e st=.err c ks zs s1):yU f e st=.err c ks zs s1:=by rw [Ey,h,pf]
def Wg (h:f e st=.err c ks zs s1):zH f e st=.err c ks zs s1:=by rw [sC,h,pf]
def Wh {cn:Str}{fv:Ai}{bF:Aj}{e2:zd}(hv:fv e st=.err cn ks zs s1) (hs:bF e s1=.ok (.nx e2) s2):p9 cn fv bF e st=.ok (.nx e2) s2:=by
 unfold p9
 rw [hv]
 simp [hs]
end
def Wi {a b:Str}(h:¬bN b a) (s:aa):sV (.str a) (.str b) s=.ok (.bl true) s:=by
 show Res.ok (PV.bl (!decide (b.cps.toList<a.cps.toList))) s=_
 rw [wc (show ¬b.cps.toList<a.cps.toList from h)]
 rfl
section
variable {o:Nat} {L:List Nat} {mr:Al}
def Wj {s:aa} {p b q:Nat} {r:List Nat} {k last:Str} (h:s[o]?=some (rd L p b)) (hp:p<=L.length) (hL:L.length<=100000) (hk:bg k=true) (hd:L.drop p=k.cps.toList++(58::r)) (lR:¬bN last k):∃s',m_ValueReader_read_entry mr [.ref o,.ref q,.str last] s=.err "NoText" [] [] s'/\Ob o s s':=by
 obtain ⟨s1,e1,G1⟩:=BJ h hp hL hd hk (.inr ⟨58,_,rfl,by omega⟩)
 exact ⟨s1,uM rfl (zu (yg (yW (zg rfl) h (by decide) (zp rfl) jE e1)) (uN (yV (zF (zq (zg rfl) (zg rfl) (Wi lR s1))) (R4 ..)))),G1.ob⟩
theorem Jz {a:aa}{q:Nat}{R r:List Nat}{f:Str->Tr}{k9:Str}{rest:Ad}(hL:L.length<=100000) (ho:o<a.length) (nK:a.length<=q) (hR:∀x∈R,x<a.length) (nM:bg k9=true):∀(kr kd:Ad) (k0:Str) (fuel p b:Nat) (s:aa) (ys:An),(∀k∈kr,bg k=true/\Rp mr (f k))->Go o L a s p b->p<=L.length->s[q]?=some (.dic (kd++[k0]) ys)->aW (vw (q::R) s) ((kd++[k0]).map λk=>cn (f k)) ys->(kd++[k0]++kr).Pairwise bN->(kd++[k0]++kr).Nodup->L.drop p=jt ((kr++k9::rest).map λk=>ent k (tx (cn (f k))))++125::r->b+aQ (kr.map f)<=60->kr.length<fuel->kd.length+kr.length<=900->(∀z∈(kd++[k0]++kr).getLast?,¬bN z k9) ->
  ∃s',bG tC (bE mr) fuel [sR o,sR q] s=.err "NoText" [] [] s'/\Ob o a s'
 |[],kd,k0,fuel,p,b,s,ys,hm,G,hp,hq,tr,pw,nd,hd,hb,hf,hz,lV=>by
  obtain ⟨fl,rfl⟩:∃f,fuel=f+1:=⟨fuel-1,by simp at hf;omega⟩
  have aY:L.drop p=44::(k9.cps.toList++(58::(tx (cn (f k9))++(jt (rest.map λk=>ent k (tx (cn (f k))))++125::r)))):=by rw [hd];simp [jt,ent]
  obtain ⟨g1,g2,g3⟩:=wN aY
  have T:tC [sR o,sR q] s=.ok true (s.set o (rd L (p+1) b)):=zF (ask nH G.at_ rfl (gf G.at_ hp hL aY))
  have G1:Go o L s (s.set o (rd L (p+1) b)) (p+1) b:=Go.set G.at_
  have oq:q≠o:=by omega
  have c7:=G1.ob q _ oq hq
  have qK:(kd++[k0]).Pairwise bN:=(List.pairwise_append.mp pw).1
  obtain ⟨s2,e2,o2⟩:=Wj (mr:=mr) (q:=q) (last:=k0) G1.at_ (by omega) hL nM g3 (lV k0 (by simp))
  have B:bE mr [sR o,sR q] (s.set o (rd L (p+1) b))=.err "NoText" [] [] s2:=Wf (yW (zg rfl) G1.at_ (by decide) w5 (yf (zg rfl) (zA (zG (zg rfl)) (BL c7 qK))) e2)
  refine ⟨s2,?_,(G.ob.trans G1.ob).trans o2⟩
  rw [wE,T,zC,zp rfl,B,pf]
 |k::kr,kd,k0,fuel,p,b,s,ys,hm,G,hp,hq,tr,pw,nd,hd,hb,hf,hz,lV=>by
  obtain ⟨fl,rfl⟩:∃f,fuel=f+1:=⟨fuel-1,by simp at hf;omega⟩
  simp only [ye,aQ] at hb
  have aY:L.drop p=44::(ent k (tx (cn (f k)))++(jt ((kr++k9::rest).map λk=>ent k (tx (cn (f k))))++125::r)):=by rw [hd];simp [jt]
  obtain ⟨g1,g2,g3⟩:=wN aY
  have T:tC [sR o,sR q] s=.ok true (s.set o (rd L (p+1) b)):=zF (ask nH G.at_ rfl (gf G.at_ hp hL aY))
  have G1:Go o L s (s.set o (rd L (p+1) b)) (p+1) b:=Go.set G.at_
  have oq:q≠o:=by omega
  have c7:=G1.ob q _ oq hq
  obtain ⟨hk,lS⟩:=hm k (yj ..)
  have qK:(kd++[k0]).Pairwise bN:=(List.pairwise_append.mp pw).1
  have kC:bN k0 k:=(List.pairwise_append.mp pw).2.2 k0 (by simp) k (yj ..)
  have nk:k∉kd++[k0]:=λh=>(List.nodup_append.mp nd).2.2 k h k (yj ..) rfl
  obtain ⟨s2,v,e2,G2,dU,BN⟩:=uD (mr:=mr) (a:=a) (last:=k0) hL ho nK hR (G.trans G1) (by omega) c7 (aW.mono (G1.vw G.at_) _ tr) hk lS g3 (nI _ (.inr rfl) r) (by omega) kC nk (by simp at hz ⊢;omega)
  have B:bE mr [sR o,sR q] (s.set o (rd L (p+1) b))=.ok (.nx [sR o,sR q]) s2:=wF (yW (zg rfl) G1.at_ (by decide) w5 (yf (zg rfl) (zA (zG (zg rfl)) (BL c7 qK))) e2)
  obtain ⟨s',e',o'⟩:=Jz (r:=r) (f:=f) (rest:=rest) hL ho nK hR nM kr (kd++[k0]) k fl (p+1+(ent k (tx (cn (f k)))).length) (b+sz (f k)) s2 (ys++[v]) (λu hu=>hm u (yz _ hu)) G2 (gR (i:=0) g3 (by omega)) dU (by rw [wa];exact BN) (by simpa using pw) (by simpa using nd) (f_ g3) (by omega) (by simp at hf;omega) (by simp at hz ⊢;omega) (by simpa using lV)
  refine ⟨s',?_,o'⟩
  rw [wE,T,zC,zp rfl,B,zC]
  exact e'
def Wk {s:aa}{p b:Nat}{r:List Nat}{k:Str}{kr rest:Ad}{k9:Str}{f:Str->Tr}(h:s[o]?=some (rd L p b)) (hp:p<=L.length) (hL:L.length<=100000) (hm:∀z∈k::kr,bg z=true/\Rp mr (f z)) (nM:bg k9=true) (pw:(k::kr).Pairwise bN) (nd:(k::kr).Nodup) (hd:L.drop p=jn ((k::kr++k9::rest).map λk=>ent k (tx (cn (f k))))++125::r) (hb:b+aQ ((k::kr).map f)<=60) (lV:∀z∈(k::kr).getLast?,¬bN z k9) :
  ∃s1,m_ValueReader_read_record mr [.ref o] s=.err "NoText" [] [] s1/\Ob o s s1:=by
 have so:o<s.length:=yD h
 simp only [ye,aQ] at hb
 obtain ⟨hk,lS⟩:=hm k (yj ..)
 have aY:L.drop p=ent k (tx (cn (f k)))++(jt ((kr++k9::rest).map λk=>ent k (tx (cn (f k))))++125::r):=by rw [hd];simp [jn]
 have BO:∃c l,k.cps.toList=c::l/\c≠125:=by
  have hc:∀c∈k.cps.toList,c∈abc.cps.toList:=by
   simp only [bg,y4,List.all_eq_true,jH] at hk
   exact hk.2
  cases ek:k.cps.toList with
  |nil =>
   have:=jK hk
   have e:k.cps.toList.length=k.length:=by cases k;simp [Str.length]
   rw [ek] at e;simp at e;omega
  |cons c l=>exact ⟨c,l,rfl,λq=>by
    have:=hc c (by rw [ek];exact yj ..)
    rw [q] at this
    exact absurd this (by decide +kernel)⟩
 obtain ⟨c,l,ec,n1⟩:=BO
 have F:=wM (c:=125) h hp hL (by rw [aY];simp only [ent,ec,List.cons_append];exact gh n1)
 have G0:Go o L s (s++[.dic [] []]) p b:=Go.old h (zR _ _)
 obtain ⟨s1,v,e1,G1,c7,BP⟩:=uD (mr:=mr) (a:=s) (q:=s.length) (R:=[]) (last := "") (us:=[]) (ys:=[]) hL so (z0 _) (λ_ h=>nomatch h) G0 hp (yi _ _) rfl hk lS aY (nI _ (.inr rfl) r) (by omega) (Iw hk) (by simp) (by simp)
 have kn:=iE (kr.map f)
 rw [y3] at kn
 obtain ⟨s',e',o'⟩:=Jz (mr:=mr) (a:=s) (q:=s.length) (R:=[]) (r:=r) (f:=f) (rest:=rest) hL so (z0 _) (λ_ h=>nomatch h) nM kr [] k lim (p+(ent k (tx (cn (f k)))).length) (b+sz (f k)) s1 [v] (λu hu=>hm u (yz _ hu)) G1 (gR (i:=0) aY hp) c7 BP (by simpa using pw) (by simpa using nd) (f_ aY) (by omega) (by simp [lim];omega) (by simp;omega) (by simpa using lV)
 exact ⟨s',uM rfl (zu (zZ (zF (ask qJ h rfl F))) (zu (yg rfl) (zu (wF (yW (zg rfl) G0.at_ (by decide) w5 (yf (zg rfl) rfl) e1)) (uN e')))),o'⟩
end
def Wl {k:Str}{kr rest:Ad}{k9:Str}{f:Str->Tr}(st:aa) (hm:∀z∈k::kr,bg z=true/\Rp (wJ 2) (f z)) (nM:bg k9=true) (pw:(k::kr).Pairwise bN) (nd:(k::kr).Nodup) (hb:aQ ((k::kr).map f)<=59) (lV:∀z∈(k::kr).getLast?,¬bN z k9) (hl:(jn ((k::kr++k9::rest).map λk=>ent k (tx (cn (f k))))).length<=5000) :
  ∃s1,qu [.str (S (123::(jn ((k::kr++k9::rest).map λk=>ent k (tx (cn (f k))))++[125])))] st=.ok (.bl true) s1/\Old st s1:=by
 generalize hL:(123::(jn ((k::kr++k9::rest).map λk=>ent k (tx (cn (f k))))++[125]))=L
 have ll:L.length<=100000:=by rw [<-hL,yF,jo,ma];omega
 have h0:(st++[rd L 0 0])[st.length]?=some (rd L 0 0):=yi _ _
 have G1:Go st.length L (st++[rd L 0 0]) ((st++[rd L 0 0]).set st.length (rd L 0 1)) 0 1:=Go.set h0
 have hd:L.drop 0=123::(jn ((k::kr++k9::rest).map λk=>ent k (tx (cn (f k))))++125::[]):=by rw [<-hL];rfl
 obtain ⟨g1,g2,g3⟩:=wN hd
 have P:=gf G1.at_ (jh _) ll hd
 have F1:=wM (c:=39) G1.at_ (jh _) ll (by rw [hd];exact gh (by decide))
 have F2:=wM (c:=91) G1.at_ (jh _) ll (by rw [hd];exact gh (by decide))
 have G2:=Go.set (p':=0+1) (b':=1) G1.at_
 obtain ⟨s2,e2,o2⟩:=Wk (mr:=wJ 2) (r:=[]) (f:=f) (rest:=rest) G2.at_ (by omega) ll hm nM pw nd g3 (by omega) lV
 have rp:wJ 3 [.ref st.length] (st++[rd L 0 0])=.err "NoText" [] [] s2:=by
  show m_ValueReader_read_part (wJ 2) [.ref st.length] (st++[rd L 0 0])=_
  exact uM rfl (zu (Io rfl h0) (zu (zZ (zF (zq (jm (zg rfl) (Il G1.at_)) rfl (iG false (by decide) _)))) (zu (zZ (zF (ask qH G1.at_ rfl F1))) (zu (zZ (zF (ask qI G1.at_ rfl F2))) (uN (yV (zF (ask uC G1.at_ rfl P)) (Wg (yW (zg rfl) G2.at_ (by decide) w5 jE e2))))))))
 have rv:ky [.str (S L)] st=.err "NoText" [] [] s2:=uM rfl (zu (zZ (gJ (b:=true) (zF (zA (yf (zg rfl) rfl) (show yC [.str (S L),.ty "str"] st=.ok (.bl true) st from rfl))))) (zu (yg (zA (zG (zg rfl)) (IG _ st))) (uN (We (yW (zg rfl) h0 (by decide) w5 jE rp)))))
 have xc:ly ky (ze (zc 0) zh) [some (.str (S L)),some (.bl false)] st=.err "NoText" [] [] s2:=by
  show (bH ((ze (zc 0) zh) [some (.str (S L)),some (.bl false)] st)).bind _=_
  rw [zG (zg rfl),wX,zC,rv]
 refine ⟨s2,yp rfl (zu (yg rfl) (zu (Wh xc (yg rfl)) (yo (zg rfl)))),λn so e=>?_⟩
 have nl:=yD e
 exact o2 n so (by omega) (G2.ob n so (by omega) (G1.ob n so (by omega) (zR _ _ n so e)))
theorem Sv.gd {t:Tr}(h:Sv t):FK28.gd t:=by
 rcases h with ⟨i,rfl,h1,h2⟩|⟨z,rfl,hz⟩|rfl|⟨i,rfl,h1,h2⟩|⟨z,rfl,hz⟩
 ·exact ⟨h1,h2⟩
 ·exact hz
 ·exact trivial
 ·exact ⟨⟨h1,h2⟩,trivial⟩
 ·exact ⟨hz,trivial⟩
theorem Sv.cn {t:Tr}(h:Sv t):FK28.cn t=t:=by
 rcases h with ⟨i,rfl,h1,h2⟩|⟨z,rfl,hz⟩|rfl|⟨i,rfl,h1,h2⟩|⟨z,rfl,hz⟩<;>simp [FK28.cn,od,nE]
theorem Sv.dp {t:Tr}(h:Sv t):FK28.dp t<=1:=by
 rcases h with ⟨i,rfl,h1,h2⟩|⟨z,rfl,hz⟩|rfl|⟨i,rfl,h1,h2⟩|⟨z,rfl,hz⟩<;>simp [FK28.dp,cU]
def JA {fe:Ai}{x y:PV}{env:zd}{st:aa}(h:fe (some x::env) st=.ok y st) (e0:env[0]?=some (some (.tup [x]))):yB (yA (zc 0)) fe env st=.ok (.ref st.length) (st++[.lst [y]]):=by
 rw [iq,il,zg e0,zC]
 show bI fe env (.im [x]) st=_
 rw [bI,zp (by simp [lim])]
 simp [bU,h]
def Wm {fe:Ai}{env:zd}{st:aa}(e0:env[0]?=some (some (.tup []))):yB (yA (zc 0)) fe env st=.ok (.ref st.length) (st++[.lst []]):=by
 rw [iq,il,zg e0,zC]
 show bI fe env (.im []) st=_
 rw [bI,zp (by simp [lim])]
 simp [bU]
def kC (k:Nat) {i:Int}(g:gd (.num i)) (st:aa):wH (k+1) [.int i] st=.ok (.str (S (tx (.num i)))) st :=
 yp (m:=1) (n:=1) (xs:=[.int i]) (st:=st) (g:=tL (wH k)) rfl (zu (zZ (je rfl (uG _ _ _) t2)) (zu (zZ (je rfl (uG _ _ _) t1)) (yo (zA (zG (zg rfl)) (Ih g st)))))
def JB (k:Nat) {z:Str}(g:bg z=true) (st:aa):wH (k+1) [.str z] st=.ok (.str (S (tx (.word z)))) st :=
 yp (m:=1) (n:=1) (xs:=[.str z]) (st:=st) (g:=tL (wH k)) rfl (zu (zZ (je rfl (uH _ _ _) t6)) (jc (yV (je rfl (uH _ _ _) t5) (yo (zq rfl (zg rfl) (Ii g st))))))
def Wn {t:Tr}(h:Sv t) (st:aa):∃s1,wH 2 [pv t] st=.ok (.str (S (tx t))) s1/\Old st s1:=by
 have row:∀(xs:An) (ls:List (List Nat)) (s1:aa),(yB (yA (zc 0)) (zn (wH 1) (ze (zc 0) zh))) [some (.tup xs)] st=.ok (.ref st.length) (st++[.lst (ls.map λl=>PV.str (S l))])->(jn ls).length<=5000->wH 2 [.tup xs] st=.ok (.str (S (91::(jn ls++[93])))) (st++[.lst (ls.map λl=>PV.str (S l))]):=λxs ls s1 hc hl =>
  yp (m:=1) (n:=1) (xs:=[.tup xs]) (st:=st) (g:=tL (wH 1)) rfl (jc (yV (je rfl (fw _ _ _) wK) (yo (glue hc (yi _ _) hl qI uB))))
 rcases h with ⟨i,rfl,h1,h2⟩|⟨z,rfl,hz⟩|rfl|⟨i,rfl,h1,h2⟩|⟨z,rfl,hz⟩
 ·exact ⟨st,kC 1 ⟨h1,h2⟩ st,Old.refl _⟩
 ·exact ⟨st,JB 1 hz st,Old.refl _⟩
 ·exact ⟨_,row [] [] st (Wm rfl) (by simp [jn]),zR _ _⟩
 ·have l:=uv (t:=.num i) ⟨h1,h2⟩
  simp only [sz] at l
  have e:=row [.int i] [tx (.num i)] st (JA (zA (zG (zg rfl)) (kC 0 ⟨h1,h2⟩ st)) rfl) (by simp [jn,jt];omega)
  rw [show 91::(jn [tx (.num i)]++[93])=tx (.row [.num i]) by simp only [nF,ye,List.map_nil]] at e
  exact ⟨_,e,zR _ _⟩
 ·have l:=uv (t:=.word z) hz
  simp only [sz] at l
  have e:=row [.str z] [tx (.word z)] st (JA (zA (zG (zg rfl)) (JB 0 hz st)) rfl) (by simp [jn,jt];omega)
  rw [show 91::(jn [tx (.word z)]++[93])=tx (.row [.word z]) by simp only [nF,ye,List.map_nil]] at e
  exact ⟨_,e,zR _ _⟩
abbrev bx (ks:Ad) (f:Str->Tr):An:=ks.map λk=>PV.tup [.str k,pv (f k)]
abbrev en (f:Str->Tr) (k:Str):List Nat:=ent k (tx (cn (f k)))
abbrev wr (ks:Ad) (f:Str->Tr):Str:=S (123::(jn (ks.map λk=>ent k (tx (cn (f k))))++[125]))
structure Ps (ks:Ad) (f:Str->Tr):Prop where
 w:∀k∈ks,bg k=true
 sv:∀k∈ks,Sv (f k)
 len:ks.length<=40
def va (k:Str):k.cps.toList.length=k.length:=by cases k;simp [Str.length]
def JC {k:Str}{t:Tr}(hk:bg k=true) (h:Sv t):(ent k (tx (cn t))).length+1<=60:=by
 have:=jK hk
 have l:=uv h.gd
 have z:=h.sz
 rw [h.cn]
 unfold ent
 rw [jo,yF,va]
 omega
theorem JD:∀ks:Ad,(ks.map λ_=>60).sum=60*ks.length
 |[]=>rfl
 |k::ks=>by rw [ye,List.sum_cons,JD ks,yF];omega
def Ps.jl {ks:Ad}{f:Str->Tr}(h:Ps ks f):(jn (ks.map λk=>ent k (tx (cn (f k))))).length<=5000:=by
 have:=qB (l:=ks) (f:=λk=>ent k (tx (cn (f k)))) (g:=λ_=>60) λk hk=>JC (h.w k hk) (h.sv k hk)
 have l:=h.len
 rw [JD] at this
 omega
abbrev fW:Ai:=(zj zM (zj zM (zc 0) (As ":")) (zn (wH 2) (ze (zc 1) zh)))
def Wo {k:Str}{t:Tr}{env:zd}(hk:bg k=true) (h:Sv t) (st:aa):∃s1,fW (some (.str k)::some (pv t)::env) st=.ok (.str (S (ent k (tx (cn t))))) s1/\Old st s1:=by
 obtain ⟨s1,e1,o1⟩:=Wn h st
 have l:=JC hk h
 rw [h.cn] at l ⊢
 have kl:=jK hk
 have a1:=qN k.cps.toList [58] (by rw [va];simp;omega) st
 rw [lN,<-Iy] at a1
 have a2:=qN (k.cps.toList++[58]) (tx t) (by unfold ent at l;rw [jo,yF] at l;rw [jo,ma];omega) s1
 rw [qX,List.singleton_append] at a2
 exact ⟨s1,zq (zq (zg rfl) rfl a1) (zA (zG (zg rfl)) e1) a2,o1⟩
theorem JE {n:Nat}{env:zd}{ks:Ad}{f:Str->Tr}(P:Ps ks f):∀(k i m:Nat) (st:aa),i+k=ks.length->k<m->st[n]?=some (.lst (bx ks f))->∃r s1,mZ fW env n m i ((ks.take i).map λk=>PV.str (S (ent k (tx (cn (f k)))))) st=.ok (.ref r) s1/\s1[r]?=some (.lst (ks.map λk=>PV.str (S (ent k (tx (cn (f k)))))))/\Old st s1
 |0,i,m,st,hk,hm,h=>by
  obtain ⟨m,rfl⟩:∃j,m=j+1:=⟨m-1,by omega⟩
  refine ⟨st.length,_,?_,yi _ _,zR _ _⟩
  unfold mZ
  rw [yr h,qW (by simp;omega)]
  simp only
  rw [List.take_of_length_le (by omega)]
 |k+1,i,m,st,hk,hm,h=>by
  obtain ⟨m,rfl⟩:∃j,m=j+1:=⟨m-1,by omega⟩
  have hx:ks[i]?=some (ks[i]'(by omega)):=yb (by omega)
  have qS:=jG hx
  generalize ks[i]'(by omega)=z at hx qS
  have hp:(bx ks f)[i]?=some (.tup [.str z,pv (f z)]):=by rw [yP,hx];rfl
  obtain ⟨s1,e1,o1⟩:=Wo (env:=env) (P.w z qS) (P.sv z qS) st
  obtain ⟨r,s2,e2,h2,o2⟩:=JE (env:=env) P k (i+1) m s1 (by omega) (by omega) (o1 _ _ h)
  refine ⟨r,s2,?_,h2,o1.trans o2⟩
  unfold mZ
  rw [yr h,hp]
  simp only [pairOf]
  rw [e1,wX,zC]
  rw [lP hx,wa] at e2
  exact e2
def B7 {p:Nat}{ks:Ad}{f:Str->Tr}{st:aa}(P:Ps ks f) (h:st[p]?=some (.lst (bx ks f))):∃s1,qt [.ref p] st=.ok (.str (wr ks f)) s1/\Old st s1:=by
 obtain ⟨r,s1,e1,h1,o1⟩:=JE (env:=[sR p]) P ks.length 0 (lim+1) st (by omega) (by have:=P.len;simp [lim];omega) h
 have C:(AG (yA (zc 0)) fW) [sR p] st=.ok (.ref r) s1:=by
  show ((yA (zc 0)) [sR p] st).bind _=_
  rw [il,zg rfl,zC]
  simp only [d_]
  rw [yr h,zC]
  simp only [u7]
  exact e1
 refine ⟨s1,yp rfl (yo (glue (ls:=ks.map λk=>ent k (tx (cn (f k)))) C ?_ P.jl uC qJ)),o1⟩
 rw [h1,List.map_map]
 rfl
theorem JF {st:aa}{f:Str->Tr}:∀{ks:Ad}{xs:An},(∀k∈ks,Sv (f k))->aW st (ks.map f) xs->xs=mp ks f
 |[],xs,_,h=>h
 |k::ks,xs,sv,h=>by
  obtain ⟨x,r,rfl,h1,h2⟩:=h
  rw [(sv k (yj ..)).back h1,JF (λz hz=>sv z (yz _ hz)) h2]
  rfl
def Wq {f:Str->Tr}{ks:Ad}(sv:∀k∈ks,Sv (f k)):(ks.map λk=>cn (f k))=ks.map f:=List.map_congr_left λk hk=>(sv k hk).cn
def JG {ws:Ad}{f:Str->Tr}(K:Kn ws f):gd (.rec_ ws (ws.map f)):=⟨K.nd,by simp,λk hk=>(K.wx k hk).1,gP.mpr λt ht=>by
 obtain ⟨k,hk,rfl⟩:=wP.mp ht
 exact (K.sv k hk).gd⟩
def JH {ws:Ad}{f:Str->Tr}(K:Kn ws f):dp (.rec_ ws (ws.map f))<3:=by
 have:cU (ws.map f)<=1:=nB λt ht=>by
  obtain ⟨k,hk,rfl⟩:=wP.mp ht
  exact (K.sv k hk).dp
 simp only [dp]
 omega
def Ws {n:Nat}{ws:Ad}{f:Str->Tr}{st:aa}(h:Rc st n ws f) (K:Kn ws f):∃s1,ku 3 [.ref n] st=.ok (.str (wr (ak ws) f)) s1/\Old st s1:=by
 have z:=K.sz
 obtain ⟨s1,e,o⟩:=US 3 _ (JH K) (by simp only [sz];omega) (JG K) st (.ref n) (h.tr K.good)
 rw [qD] at e
 exact ⟨s1,e,o⟩
def JI {ws:Ad}{f:Str->Tr}(K:Kn ws f) (st:aa):∃m s1,ky [.str (wr (ak ws) f)] st=.ok (.ref m) s1/\Rc s1 m (ak ws) f/\Old st s1:=by
 have z:=K.sz
 obtain ⟨v,s1,e,tv,o⟩:=Vq (JG K) (JH K) (by simp only [sz];omega) st
 rw [qD] at e
 rw [cn,qy (jd.sub ws)] at tv
 have kE:∀k∈ak ws,Sv (f k):=λk hk=>K.sv k (jd.sub ws k hk)
 obtain ⟨m,xs,rfl,hm,_,_,tr,_⟩:=tv
 have gT:aW s1 ((ak ws).map f) xs:=by rw [<-Wq kE];exact tr
 rw [JF kE gT] at hm
 exact ⟨m,s1,e,hm,o⟩
def qT {s:aa}{n m:Nat}{xs ys:An}(h1:s[n]?=some (.lst xs)) (h2:s[m]?=some (.lst ys)) (hl:xs.length+ys.length<=1000):zM (.ref n) (.ref m) s=.ok (.ref s.length) (s++[.lst (xs++ys)]):=by
 show yl s n _=_
 rw [yr h1,yr h2,zp (by show _<=1000000;omega)]
def uO {s:aa}{n:Nat}{xs:An}(h:s[n]?=some (.lst xs)) (lo hi:Option Int):wU (.ref n) lo hi s=.ok (.ref s.length) (s++[.lst (bS xs lo hi)]):=by
 rw [QP,yr h]
def JJ {s:aa}{n i:Nat}{xs:An}{x:PV}(h:s[n]?=some (.lst xs)) (hx:xs[i]?=some x):zJ (.ref n) (.int (i:Int)) s=.ok x s:=by
 have q:bY xs (i:Int)=some x:=bj hx
 rw [lC,yr h,q];rfl
abbrev eT (d n r:Nat) (z3 z4 z5 z6:Ao):zd:=[sR d,sR n,sR r,z3,z4,z5,z6]
def Wt {d n r:Nat}{ws:Ad}{f:Str->Tr}{st:aa}(W:Wr d n r ws f st) (K:Kn ws f):∃p s1,(yB (yA (zn lH (ze (zc 2) zh))) (yQ (ze (zc 0) (ze (zj zJ (zc 2) (zc 0)) zh)))) (eT d n r none none none none) st=.ok (.ref p) s1/\s1[p]?=some (.lst (bx (ak ws) f))/\Old st s1:=by
 have hi:=K.hi
 have sl:=Js W.w (by omega)
 have W1:=W.old (zR st [SO.lst ((ak ws).map PV.str)])
 have lt:(st++[SO.lst ((ak ws).map PV.str)])[st.length]?=some (.lst ((ak ws).map PV.str)):=yi _ _
 have ll:(ak ws).length=ws.length:=(jd ws).length_eq
 obtain ⟨ys,s1,C,hy,o⟩:=Bv (fe:=(yQ (ze (zc 0) (ze (zj zJ (zc 2) (zc 0)) zh)))) (env:=eT d n r none none none none) (n:=st.length) ((ak ws).map PV.str) (λi ys s=>ys=bx ((ak ws).take i) f/\Old (st++[SO.lst ((ak ws).map PV.str)]) s) (λi ys s h=>h.2 _ _ lt) (λi x ys s hx ⟨h1,h2⟩=>by
  rw [yP] at hx
  cases ec:(ak ws)[i]? with
  |none=>rw [ec] at hx;cases hx
  |some w =>
   rw [ec] at hx
   cases hx
   have hw:w∈ws:=(jd ws).mem_iff.mp (jG ec)
   exact ⟨.tup [.str w,pv (f w)],s,j8 (yf (zg rfl) (zq (zg rfl) (zg rfl) (nv (W1.old h2).rc hw))) (by simp),by rw [h1,lP ec];simp [bx],h2⟩) ((ak ws).map PV.str).length 0 (lim+1) [] (st++[SO.lst ((ak ws).map PV.str)]) (by omega) (by simp [lim];omega) ⟨rfl,Old.refl _⟩
 rw [y3,List.take_length] at hy
 refine ⟨s1.length,s1++[.lst ys],?_,by rw [<-hy];exact yi _ _,((zR _ _).trans o).trans (zR _ _)⟩
 rw [iq,il,zA (zG (zg rfl)) sl,zC]
 simp only [d_]
 rw [yr lt,zC]
 simp only [bI]
 exact C
def JK (a:Str):¬bN a a:=List.lt_irrefl _
def Wu {a b:Str}(h:bN a b):¬bN b a:=λh'=>List.lt_irrefl _ (List.lt_trans h h')
def JL {P rest:Ad}{k9 z:Str}{f:Str->Tr}(st:aa) (A:Ps (P++z::k9::rest) f) (pw:(P++[z]).Pairwise bN) (hz:aQ ((P++[z]).map f)<=59) (hl:¬bN z k9):∃s1,qu [.str (wr (P++z::k9::rest) f)] st=.ok (.bl true) s1/\Old st s1:=by
 have e0:P++z::k9::rest=(P++[z])++k9::rest:=by simp
 obtain ⟨k,kr,e⟩:∃k kr,P++[z]=k::kr:=by
  cases P with
  |nil=>exact ⟨z,[],rfl⟩
  |cons a P=>exact ⟨a,P++[z],rfl⟩
 have lst:(k::kr).getLast?=some z:=by rw [<-e];simp
 have jl:=A.jl
 have mem:∀y∈k::kr,y∈P++z::k9::rest:=λy hy=>by rw [e0,e];exact iI _ hy
 have nd:(k::kr).Nodup:=by
  rw [<-e]
  exact List.Pairwise.imp (R:=bN) (S:=λa b=>a≠b) (λ{a b} (h:bN a b) (q:a=b)=>JK b (by rw [q] at h;exact h)) pw
 rw [e] at pw hz
 rw [e0,e] at jl
 unfold wr
 rw [e0,e]
 exact Wl st (λy hy=>⟨A.w y (mem y hy),IE 2 (f y) (by have:=(A.sv y (mem y hy)).dp;omega) (A.sv y (mem y hy)).gd⟩) (A.w k9 (by simp)) pw nd hz (λy hy=>by rw [lst] at hy;cases hy;exact hl) jl
def uP {f:Str->Tr}(a b:Ad):aQ ((a++b).map f)=aQ (a.map f)+aQ (b.map f):=by rw [wa,Bo]
def Wv {d n r:Nat}{ws:Ad}{f:Str->Tr}{st:aa}(W:Wr d n r ws f st) (K:Kn ws f):∃s1,Bk [.ref d,.ref n,.ref r] st=.ok (.bl true) s1/\Nx d st s1:=by
 have hi:=K.hi
 have lo:=K.lo
 have pm:=jd ws
 have ll:(ak ws).length=ws.length:=pm.length_eq
 have zs:aQ ((ak ws).map f)<=57:=by rw [uk (pm.map f)];exact K.sz
 have kE:∀k∈ak ws,Sv (f k):=λk hk=>K.sv k (pm.mem_iff.mp hk)
 have B8:∀k∈ak ws,bg k=true:=λk hk=>(K.wx k (pm.mem_iff.mp hk)).1
 have PS:Ps (ak ws) f:=⟨B8,kE,by omega⟩
 have uQ:=Iv K.nd
 obtain ⟨p,s1,e1,h1,o1⟩:=Wt W K
 obtain ⟨s2,e2,o2⟩:=B7 PS h1
 have W2:=(W.old o1).old o2
 obtain ⟨s3,e3,o3⟩:=Ws W2.rc K
 obtain ⟨m,s4,e4,B9,o4⟩:=JI K s3
 have W4:=(W2.old o3).old o4
 have D4:=Bu 146 B9 W4.rc (pm.nodup_iff.mpr K.nd) ll (λk hk=>⟨pm.mem_iff.mp hk,rfl⟩) kE
 have ne4:lI (.ref m) (.ref n) s4=.ok (.bl false) s4:=by
  show (match cT (eqT s4 149) s4[m]? s4[n]? with|some b=>Res.ok (PV.bl (!b)) s4|none=>.stuck)=_
  rw [show cT (eqT s4 149) s4[m]? s4[n]?=some true from D4]
  rfl
 obtain ⟨a,s5,e5,ha,n5⟩:=jP W4.dc (ws.length-1) (by omega)
 have W5:=W4.nx n5
 have Ww:p≠d:=λe=>by
  obtain ⟨l,q⟩:=(W.old o1).dc
  rw [e,q] at h1
  have:l.map PV.int=bx (ak ws) f:=by injection h1 with h1;injection h1
  have l1:(bx (ak ws) f)[0]?=some (.tup [.str (ak ws)[0],pv (f (ak ws)[0])]):=by rw [yP,yb (by omega)];rfl
  rw [<-this,yP] at l1
  cases hq:l[0]? with
  |none=>rw [hq] at l1;cases l1
  |some z=>rw [hq] at l1;cases l1
 have h5:s5[p]?=some (.lst (bx (ak ws) f)):=n5.ob _ _ Ww (o4 _ _ (o3 _ _ (o2 _ _ h1)))
 obtain ⟨A,x,y,B,es,al⟩:∃A x y B,ak ws=A++x::y::B/\A.length=a:=by
  refine ⟨(ak ws).take a,(ak ws)[a],(ak ws)[a+1],(ak ws).drop (a+2),?_,by simp;omega⟩
  conv=>lhs;rw [<-List.take_append_drop a (ak ws),jy (by omega),jy (i:=a+1) (by omega)]
 have px:(bx (ak ws) f)[a]?=some (.tup [.str x,pv (f x)]):=by rw [yP,es,<-al];simp
 have py:(bx (ak ws) f)[a+1]?=some (.tup [.str y,pv (f y)]):=by
  rw [yP,es,iL (by omega),show a+1-A.length=1 by omega];rfl
 have pl:(bx (ak ws) f).length=ws.length:=by simp [ll]
 have ct:∀j,j<=ws.length->bS (bx (ak ws) f) none (some ((j:Nat):Int))=bx ((ak ws).take j) f:=λj hj=>by rw [HC (by omega)];simp [bx,List.map_take]
 have cd:∀j,j<=ws.length->bS (bx (ak ws) f) (some ((j:Nat):Int)) none=bx ((ak ws).drop j) f:=λj hj=>by rw [HD (by omega)];simp [bx,List.map_drop]
 have tA:(ak ws).take a=A:=by rw [es,<-al];simp
 have tX:(ak ws).take (a+1)=A++[x]:=by rw [es,<-al,List.take_append,List.take_of_length_le (by omega)];simp
 have dX:(ak ws).drop a=x::y::B:=by rw [es,<-al];simp
 have dB:(ak ws).drop (a+2)=B:=by rw [es,List.drop_append,iM (by omega),show a+2-A.length=2 by omega];rfl
 have lA:A.length+B.length+2=ws.length:=by rw [<-ll,es];simp;omega
 have r1:=uO h5 none (some ((a:Nat):Int))
 rw [ct a (by omega),tA] at r1
 generalize hs6:s5++[SO.lst (bx A f)]=s6 at r1
 have o6:Old s5 s6:=by rw [<-hs6];exact zR _ _
 have t6:s6[s5.length]?=some (.lst (bx A f)):=by rw [<-hs6];exact yi _ _
 have h6:=o6 _ _ h5
 have r2:(jA (ze (zj zJ (zc 3) (zj zM (zc 5) (Ar 1))) (ze (zj zJ (zc 3) (zc 5)) zh))) (eT d n r (sR p) (some (.str (wr (ak ws) f))) (sI a) none) s6=.ok (.ref s6.length) (s6++[.lst (bx [y,x] f)]):=iB (yf (zq (zg rfl) (zq (zg rfl) rfl (y7 _ _)) (JJ (i:=a+1) h6 py)) (zq (zg rfl) (zg rfl) (JJ h6 px))) (by simp)
 generalize hs7:s6++[SO.lst (bx [y,x] f)]=s7 at r2
 have o7:Old s6 s7:=by rw [<-hs7];exact zR _ _
 have t7:s7[s6.length]?=some (.lst (bx [y,x] f)):=by rw [<-hs7];exact yi _ _
 have r3:=qT (o7 _ _ t6) t7 (by simp;omega)
 generalize hs8:s7++[SO.lst (bx A f++bx [y,x] f)]=s8 at r3
 have o8:Old s7 s8:=by rw [<-hs8];exact zR _ _
 have t8:s8[s7.length]?=some (.lst (bx A f++bx [y,x] f)):=by rw [<-hs8];exact yi _ _
 have h8:=o8 _ _ (o7 _ _ h6)
 have r4:=uO h8 (some ((a+2:Nat):Int)) none
 rw [cd (a+2) (by omega),dB] at r4
 generalize hs9:s8++[SO.lst (bx B f)]=s9 at r4
 have o9:Old s8 s9:=by rw [<-hs9];exact zR _ _
 have t9:s9[s8.length]?=some (.lst (bx B f)):=by rw [<-hs9];exact yi _ _
 have r5:=qT (o9 _ _ t8) t9 (by simp;omega)
 rw [show bx A f++bx [y,x] f++bx B f=bx (A++y::x::B) f by simp [bx]] at r5
 generalize hs10:s9++[SO.lst (bx (A++y::x::B) f)]=B_ at r5
 have JM:Old s9 B_:=by rw [<-hs10];exact zR _ _
 have wK:B_[s9.length]?=some (.lst (bx (A++y::x::B) f)):=by rw [<-hs10];exact yi _ _
 rw [es] at uQ zs
 have Ca:(A++y::x::B).Perm (ak ws):=by rw [es];exact List.Perm.append_left _ (List.Perm.swap x y B)
 have PT:Ps (A++y::x::B) f:=⟨λk hk=>B8 k (Ca.mem_iff.mp hk),λk hk=>kE k (Ca.mem_iff.mp hk),by rw [Ca.length_eq];omega⟩
 obtain ⟨Cb,Cc,JN⟩:=B7 PT wK
 have xy:bN x y:=by
  have:=(List.pairwise_append.mp uQ).2.1
  exact (List.pairwise_cons.mp this).1 y (yj ..)
 have Wy:(A++[y]).Pairwise bN:=uQ.sublist (List.Sublist.append (List.Sublist.refl _) ((List.Sublist.cons_cons y (List.nil_sublist B)).cons x))
 have Wz:(A++[x]).Pairwise bN:=uQ.sublist (List.Sublist.append (List.Sublist.refl _) (List.Sublist.cons_cons x (List.nil_sublist _)))
 rw [uP] at zs
 simp only [ye,aQ] at zs
 have zY:aQ ((A++[y]).map f)<=59:=by rw [uP];simp only [ye,List.map_nil,aQ];omega
 have zX:aQ ((A++[x]).map f)<=59:=by rw [uP];simp only [ye,List.map_nil,aQ];omega
 obtain ⟨uR,WA,JO⟩:=JL Cb PT Wy zY (Wu xy)
 have JP:uR[p]?=some (.lst (bx (ak ws) f)):=JO _ _ (JN _ _ (JM _ _ (o9 _ _ h8)))
 have r6:=uO JP none (some ((a+1:Nat):Int))
 rw [ct (a+1) (by omega),tX] at r6
 generalize hs13:uR++[SO.lst (bx (A++[x]) f)]=s13 at r6
 have JQ:Old uR s13:=by rw [<-hs13];exact zR _ _
 have qv:s13[uR.length]?=some (.lst (bx (A++[x]) f)):=by rw [<-hs13];exact yi _ _
 have r7:=uO (JQ _ _ JP) (some ((a:Nat):Int)) none
 rw [cd a (by omega),dX] at r7
 generalize hs14:s13++[SO.lst (bx (x::y::B) f)]=s14 at r7
 have JR:Old s13 s14:=by rw [<-hs14];exact zR _ _
 have ng:s14[s13.length]?=some (.lst (bx (x::y::B) f)):=by rw [<-hs14];exact yi _ _
 have r8:=qT (JR _ _ qv) ng (by simp;omega)
 rw [show bx (A++[x]) f++bx (x::y::B) f=bx (A++x::x::y::B) f by simp [bx]] at r8
 generalize hs15:s14++[SO.lst (bx (A++x::x::y::B) f)]=s15 at r8
 have WB:Old s14 s15:=by rw [<-hs15];exact zR _ _
 have ni:s15[s14.length]?=some (.lst (bx (A++x::x::y::B) f)):=by rw [<-hs15];exact yi _ _
 have mD:∀k∈A++x::x::y::B,k∈ak ws:=λk hk=>by
  rw [es]
  simp only [g_,yE] at hk ⊢
  rcases hk with h|h|h|h|h
  ·exact .inl h
  ·exact .inr (.inl h)
  ·exact .inr (.inl h)
  ·exact .inr (.inr (.inl h))
  ·exact .inr (.inr (.inr h))
 have PD:Ps (A++x::x::y::B) f:=⟨λk hk=>B8 k (mD k hk),λk hk=>kE k (mD k hk),by simp;omega⟩
 obtain ⟨WC,WD,WE⟩:=B7 PD ni
 obtain ⟨WG,WH,WI⟩:=JL WC PD Wz zX (JK x)
 obtain ⟨m',uS,WJ,JS,WK⟩:=JI K WG
 have oo:Old s5 uS:=((((((((((o6.trans o7).trans o8).trans o9).trans JM).trans JN).trans JO).trans JQ).trans JR).trans WB).trans WE).trans (WI.trans WK)
 have WL:=W5.old oo
 have WM:jJ (.ref m') (.ref n) uS=.ok (.bl true) uS:=by
  unfold jJ
  rw [HP JS WL.rc (pm.nodup_iff.mpr K.nd) ll (λk hk=>⟨pm.mem_iff.mp hk,rfl⟩) kE]
 have lm:((ws.length:Nat):Int)-1=((ws.length-1:Nat):Int):=by omega
 have LP:yk [.ref p] s4=.ok (.int ((ws.length:Nat):Int)) s4:=by
  have:=iA (o4 _ _ (o3 _ _ (o2 _ _ h1)))
  rwa [pl] at this
 refine ⟨uS,?_,((Nx.of W.dc (((o1.trans o2).trans o3).trans o4)).trans n5).trans (Nx.of W5.dc oo)⟩
 refine yp rfl (zu (yg e1) (zu (yg (zA (zG (zg rfl)) e2)) (zu (zZ (gI (zF (zq (zA (zG (zg rfl)) e3) (zg rfl) ((pW _ _).trans (by simp)))) (zF (zq (zA (zG (zg rfl)) e4) (zg rfl) ne4)))) (zu (yg (zA (yf (zg rfl) (zq (zA (zG (zg rfl)) LP) rfl ((Ft _ _).trans (by rw [lm])))) e5)) (zu (yg (zq (zq (gK (zg rfl) lG (wn (zg rfl)) r1) r2 r3) (gK (zg rfl) (wn (zq (zg rfl) rfl (y7 _ _))) lG r4) r5)) (zu (zZ (gJ (b:=true) (zF (zA (zG (zA (zG (zg rfl)) Cc)) WA)))) ?_))))))
 exact yo (Fs (zA (zG (zA (zG (zq (gK (zg rfl) lG (wn (zq (zg rfl) rfl (y7 _ _))) r6) (gK (zg rfl) (wn (zg rfl)) lG r7) r8)) WD)) WH) (zq (zA (zG (zg rfl)) WJ) (zg rfl) WM))
theorem Cd:∀ns:List Int,bz (ns.map PV.int)=true
 |[]=>rfl
 |n::ns=>by simp [bz,Mi.plain,Cd ns]
theorem JT:∀ns:List Int,cS (ns.map PV.int)=0
 |[]=>rfl
 |n::ns=>by simp [cS,dep,JT ns]
theorem JU:∀ns:List Int,cV (ns.map PV.int) (ns.map PV.int)=true
 |[]=>rfl
 |n::ns=>by simp [cV,bA,JU ns]
def WN (ns:List Int) (st:aa):yM (.tup (ns.map PV.int)) (.tup (ns.map PV.int)) st=.ok (.bl false) st:=by
 unfold yM
 rw [zp ⟨by simp [Mi.plain,Cd],by simp [Mi.plain,Cd],by simp [dep,JT]⟩]
 simp [bA,JU]
abbrev bR:Aj:=(zt (zQ (mB (zj yM (zn yG (ze (As "item") (ze (yQ (ze (zc 1) (ze (zc 2) zh))) zh))) (zj zJ (zc 1) (zc 2))))
  (zH (mC (.bl false)))
  zT)
  (zQ (mB (zj yM (zn yG (ze (As "put") (ze (yQ (ze (zc 1) (ze (zc 2) (ze (Ar 99) zh)))) zh))) (zj zM (zj zM (jC (zc 1) cx (bB (zc 2))) (yQ (ze (Ar 99) zh))) (jC (zc 1) (bB (zj zM (zc 2) (Ar 1))) cx))))
  (zH (mC (.bl false)))
  zT))
def WO {d:Nat}{st:aa}(hd:Dc d st):∃s1,Bl [.ref d] st=.ok (.bl true) s1:=by
 obtain ⟨c,s1,e1,hc,n1⟩:=jP hd 30 (by decide)
 have BW:(1:Int)+(c:Int)=((1+c:Nat):Int):=by omega
 obtain ⟨ys,s2,C,ns,hy,hl,h2⟩:=BB (fe:=(zn yO (ze (zc 1) (ze (Ar 50) zh)))) (fs:=(ze (zj zM (Ar 1) (zn yO (ze (zc 0) (ze (Ar 30) zh)))) zh)) (env:=[sR d,none,none]) (st:=st) (s0:=s1) (1+c) (by omega) (zG (zq rfl (zA (yf (zg rfl) rfl) e1) ((y7 _ _).trans (by rw [BW]))))
  (λi ys s=>∃ns:List Int,ys=ns.map PV.int/\ns.length=i/\Nx d s1 s) (λi ys s hi ⟨ns,h1,h2,h4⟩=>by
   obtain ⟨k,s',ek,hk,nk⟩:=jP h4.dc 50 (by decide)
   exact ⟨.int k,s',zA (yf (zg rfl) rfl) ek,ns++[(k:Int)],by rw [h1,wa];rfl,by simp [h2],h4.trans nk⟩) ⟨[],rfl,rfl,Nx.refl n1.dc⟩
 subst hy
 have tp:lp [.ref s2.length] (s2++[.lst (ns.map PV.int)])=.ok (.tup (ns.map PV.int)) (s2++[.lst (ns.map PV.int)]):=by rw [x6,yr (yi _ _)]
 have LN:∀s:aa,yk [.tup (ns.map PV.int)] s=.ok (.int (ns.length:Int)) s:=λs=>by simp
 obtain ⟨e',s3,F,z2,he⟩:=uA (gt:=gN 2) (body:=bR) (fs:=ze (zn yk (ze (zc 1) zh)) zh) (e:=[sR d,some (.tup (ns.map PV.int)),none]) (st:=s2++[.lst (ns.map PV.int)]) (λi e s=>∃z2,e=[sR d,some (.tup (ns.map PV.int)),z2]) ns.length (by omega) (zG (zA (zG (zg rfl)) (LN _))) (λi e s hi ⟨z2,he⟩=>by
  subst he
  have hx:ns[i]?=some (ns[i]'hi):=yb hi
  generalize ns[i]'hi=x at hx
  obtain ⟨a1,p1,_⟩:=Uo (st:=s) hx
  obtain ⟨a2,p2,_⟩:=Uq (st:=a1) 99 hi (by omega)
  obtain ⟨c1,c2,q1,q2⟩:=HJ (xs:=ns.map PV.int) (i:=i) (.int 99) a2 (by simpa using hi) (by simp;omega)
  rw [HK] at q2
  have ix:zJ (.tup (ns.map PV.int)) (.int (i:Int)) a1=.ok (.int x) a1:=by
   have g:bY (ns.map PV.int) (i:Int)=some (.int x):=bj (by rw [yP,hx];rfl)
   simp [g]
  exact ⟨_,_,a2,rfl,zu (zZ (zF (zq (zA (yf rfl (j8 (yf (zg rfl) (zg rfl)) (by simp))) p1) (zq (zg rfl) (zg rfl) ix) ((m3 _ _).trans (by simp))))) (zZ (zF (zq (zA (yf rfl (j8 (gH (zg rfl) (yf (zg rfl) rfl)) (by simp))) p2) (zq (zq (gK (zg rfl) lG (wn (zg rfl)) c1) (j8 (zG rfl) (by simp)) q1) (gK (zg rfl) (wn (zq (zg rfl) rfl (y7 _ _))) lG c2) q2) (WN _ _)))),_,rfl⟩) ⟨_,rfl⟩
 subst he
 obtain ⟨a1,p1,_⟩:=Up (st:=s3) (ns:=ns)
 obtain ⟨a2,p2,_⟩:=Ur (st:=a1) (ns:=ns) 1
 obtain ⟨a3,p3,_⟩:=Us (st:=a2) (ns:=ns)
 refine ⟨a3,yp rfl (zu (yg (zA (zG C) tp)) (zu F (zu (zZ (gI (zF (zq (zA (yf rfl (j8 (yf (zg rfl) (zA (zG (zg rfl)) (LN _))) (by simp))) p1) rfl ((pW _ _).trans (by simp)))) (zF (zq (zA (yf rfl (j8 (gH (zg rfl) (yf (zA (zG (zg rfl)) (LN _)) rfl)) (by simp))) p2) rfl ((pW _ _).trans (by simp)))))) (yo (zq (zA (yf rfl (j8 (zG (zg rfl)) (by simp))) p3) (zA (zG (zg rfl)) (LN _)) ((BZ _ _ _).trans (by simp))))))) ⟩
theorem JV {f g:Str->Tr}:∀l:Ad,(∀k∈l,sz (g k)<=sz (f k))->aQ (l.map g)<=aQ (l.map f)
 |[],_=>z0 _
 |a::l,h=>by have h1:=h a (yj ..);have h2:=JV l λk hk=>h k (yz _ hk);simp only [ye,aQ];omega
def JW {ws:Ad}{f:Str->Tr}{z:Str}{i:Int}:aQ (ws.map (up f z (.num i)))<=aQ (ws.map f):=JV ws λk _=>by
 unfold up
 split
 ·have:=tU (f k);simp only [sz];omega
 ·exact z0 _
def WQ {ws:Ad}{f:Str->Tr}(K:Kn ws f) {z:Str}{i:Int}(hz:z∈ws) (hi : -1000000000000000000<i/\i<1000000000000000000):Good (pK z ws) (up f z (.num i)):=by
 rw [qx hz]
 refine ⟨K.nd,λk hk=>(K.wx k hk).len,λk hk=>?_,by have:=JW (ws:=ws) (f:=f) (z:=z) (i:=i);have:=K.sz;omega⟩
 unfold up
 split
 ·exact .inl ⟨i,rfl,hi⟩
 ·exact K.sv k hk
def WR {ws:Ad}{f:Str->Tr}(K:Kn ws f) {z:Str}{i:Int}(hz:z∉ws) (hl:z.length<=1000) (hi : -1000000000000000000<i/\i<1000000000000000000):Good (pK z ws) (up f z (.num i)):=by
 refine ⟨B1 K.nd,λk hk=>?_,λk hk=>?_,?_⟩
 ·rcases nL.mp hk with q|q
  ·exact (K.wx k q).len
  ·rw [q];exact hl
 ·unfold up
  split
  ·exact .inl ⟨i,rfl,hi⟩
  ·rename_i h
   rcases nL.mp hk with q|q
   ·exact K.sv k q
   ·exact absurd q h
 ·rw [nA hz,uP]
  have:=JW (ws:=ws) (f:=f) (z:=z) (i:=i)
  have k:=K.sz
  have e:aQ ([z].map (up f z (.num i)))=1:=by simp [aQ,up,sz]
  omega
def JX {s:aa}{n:Nat}{ks:Ad}{f:Str->Tr}(h:Rc s n ks f):kj [.ref n] s=.ok (.ref s.length) (s++[.dic ks (mp ks f)]):=by
 simp [kj,wZ h]
def gw {s:aa}{m n:Nat}{ks:Ad}{f:Str->Tr}(h1:Rc s m ks f) (h2:Rc s n ks f) (g:Good ks f):lI (.ref m) (.ref n) s=.ok (.bl false) s:=by
 have D:=Bu 146 h1 h2 g.nd rfl (λk hk=>⟨hk,rfl⟩) g.sv
 show (match cT (eqT s 149) s[m]? s[n]? with|some b=>Res.ok (PV.bl (!b)) s|none=>.stuck)=_
 rw [show cT (eqT s 149) s[m]? s[n]?=some true from D]
 rfl
def zxH (ns:List Int):∃st,Bm [.frl (ns.map .int)] []=.ok (.bl true) st:=by
 obtain ⟨d,r,n,z4,ws,f,s0,K,W,H⟩:=VX ns []
 have hi:=K.hi
 have lo:=K.lo
 obtain ⟨s1,e1,n1⟩:=V4 W K
 have W1:=W.nx n1
 obtain ⟨s2,e2,n2⟩:=Wa W1 K
 have W2:=W1.nx n2
 obtain ⟨a,s3,e3,ha,n3⟩:=jP W2.dc ws.length (by omega)
 have W3:=W2.nx n3
 obtain ⟨w,hw⟩:∃w,ws[a]?=some w:=⟨ws[a]'ha,yb _⟩
 have gU:=jG hw
 have kl:ws.length<=1000:=by omega
 have c4:=JX W3.rc
 have B9:Rc (s3++[SO.dic ws (mp ws f)]) s3.length ws f:=yi _ _
 obtain ⟨s5,e5,WS,r5⟩:=kA B9 kl w (.num 77)
 have JY:s5=s3++[.dic (pK w ws) (mp (pK w ws) (up f w (.num 77)))]:=by rw [WS];simp
 have o5:Old s3 s5:=by rw [JY];exact zR _ _
 have W4:=W3.old (zR s3 [SO.dic ws (mp ws f)])
 have W5:=W3.old o5
 have c6:=JX W5.rc
 have WT:Rc (s5++[SO.dic ws (mp ws f)]) s5.length ws f:=yi _ _
 obtain ⟨s7,e7,WU,r7⟩:=kA WT kl "vvvvvvqv" (.num 5)
 have JZ:s7=s5++[.dic (pK "vvvvvvqv" ws) (mp (pK "vvvvvvqv" ws) (up f "vvvvvvqv" (.num 5)))]:=by rw [WU];simp
 have o7:Old s5 s7:=by rw [JZ];exact zR _ _
 have W7:=W5.old o7
 have g1:=WQ K (i:=77) gU (by decide)
 have g2:=WR K (i:=5) K.qq.2 (by rw [q8.2];decide) (by decide)
 obtain ⟨m1,s8,e8,o8,r8⟩:=HU W7.rc K.good (K.wx w gU).len g1
 have W8:=W7.old o8
 obtain ⟨m2,s9,e9,o9,r9⟩:=HU W8.rc K.good (z := "vvvvvvqv") (i:=5) (by rw [q8.2];decide) g2
 have W9:=W8.old o9
 obtain ⟨B_,WV,WW⟩:=Wv W9 K
 obtain ⟨Cb,Cc⟩:=WO (W9.nx WW).dc
 refine ⟨Cb,H _ _ ?_⟩
 exact zu (zZ (gI (gJ (b:=true) (zF (zA (gH (zg rfl) (yf (zg rfl) (zg rfl))) e1))) (gJ (b:=true) (zF (zA (gH (zg rfl) (yf (zg rfl) (zg rfl))) e2)))))
  (zu (yg (zA (yf (zg rfl) (zA (zG (zg rfl)) (B2 W2.w))) e3))
  (zu (yg (zA (zG (zg rfl)) c4))
  (zu (lT rfl (zg rfl) (zq (zg rfl) (zg rfl) (uJ W4.w hw)) e5)
  (zu (yg (zA (zG (zg rfl)) c6))
  (zu (lT rfl (zg rfl) rfl e7)
  (zu (zZ (gI (zF (zq (zA (yf rfl (j8 (gH (zg rfl) (yf (zq (zg rfl) (zg rfl) (uJ W7.w hw)) rfl)) (by simp))) e8) (zg rfl) (gw r8 ((r5.old o7).old o8) g1))) (zF (zq (zA (yf rfl (j8 (gH (zg rfl) (yf rfl rfl)) (by simp))) e9) (zg rfl) (gw r9 ((r7.old o8).old o9) g2)))))
  (yo (Fs (zA (gH (zg rfl) (yf (zg rfl) (zg rfl))) WV) (zA (zG (zg rfl)) Cc)))))))))
end FK28
open PySem PySem.W PyProof.Rows
set_option maxHeartbeats 0
namespace PySem.W.Fast
def tw14718541597684909176:=()
def tw6070829186260601482:=()
local macro_rules
|`(command|#print $s:str)=>do
 let c<-(s.getString.splitOn " ").toArray.flatMapM λw=>do
  let [p,a,b]:=w.splitOn "_"|Lean.Macro.throwUnsupported
  (Array.range (b.toNat!+1-a.toNat!)).mapM λk=>do
   let n:=Lean.mkIdent (.mkSimple s!"tw{((`hdT).str s!"{p}_{a.toNat!+k}").hash}")
   `(command|theorem $n : True := trivial)
 return Lean.mkNullNode c
#print "o_43_638 sts_49_49 sts_71_71 sts_93_93 sts_115_115 sts_156_156 sts_243_243 sts_336_336 sts_345_345 sts_383_383 sts_441_441 sts_534_534 sts_613_613 tree_47_47 tree_70_70 tree_92_92 tree_114_114 tree_155_155 tree_242_242 tree_335_335 tree_344_344 tree_380_380 tree_440_440 tree_533_533 tree_612_612 tree_638_638 heap_39_46 heap_639_639 env_41_41 view_39_39"
end PySem.W.Fast
open_top hdT for PySem.Challenge.rw_foreknown_k28_records_of_many_parts
theorem uu1 {us:List PySem.Value}(h:us.length=1):∃a,us=[a]:=match us,h with|[a],_=>⟨a,rfl⟩
theorem uu2 {us:List PySem.Value}(h:us.length=2):∃a b,us=[a,b]:=match us,h with|[a,b],_=>⟨a,b,rfl⟩
theorem uu3 {us:List PySem.Value}(h:us.length=3):∃a b c,us=[a,b,c]:=match us,h with|[a,b,c],_=>⟨a,b,c,rfl⟩
theorem PySem.Challenge.cw_foreknown_k28_records_of_many_parts_holds : PySem.Challenge.rw_foreknown_k28_records_of_many_parts.Holds :=
 hdT (by
 k_fill
 refine Mi.walkM (l:=PySem.Challenge.rw_foreknown_k28_records_of_many_parts) (k:=23) (x := "_law_script") rfl rfl ⟨rfl,by decide,by decide⟩ (λw h Y=>PySem.W.kIn_of Y) ?F
 case F =>
  intro w mg fa h KX G hmg
  have x0_NoText:Mi.X0F (L2.KOf KX) mg "NoText" := by
   dsimp only [L2.KOf]
   refine' Mi.ztV KX G ?aC ?hB ?kp
   (case aC=>k_is)
   (case hB=>k_exc)
   (case kp=>k_is)
  have x_Fault:Mi.XnF (L2.KOf KX) mg "Fault" "word" "Fault.__init__" FK28.zgr:=by
   dsimp only [L2.KOf]
   refine' Mi.zsx KX G ?aC ?hC ?hB ?hN ?he ?hi ?fn ?kp ?sa ?hcl ?hl ?no ?hd ?l ?c ?k ?b
   (case aC|hC=>k_is)
   (case hB=>k_exc)
   (case hN=>k_is)
   (case he=>first|rfl|with_unfolding_all rfl|simp)
   (case hi|fn|kp|sa|hcl=>k_is)
   (case hl=>rfl)
   (case no|hd|l|c|k=>k_is)
   (case b=>exact λ_ _ _ _ _ _ us hl=>by obtain ⟨_,_,rfl⟩:=uu2 hl;rfl)
  have c_FIGURES:∃t,mg "FIGURES" = some (.str "0123456789" t):=by
   refine' Mi.zjg KX G ?a
   (case a=>k_is)
  have c_LETTERS:∃t,mg "LETTERS" = some (.str "abcdefghijklmnopqrstuvwxyz" t):=by
   refine' Mi.zjg KX G ?a
   (case a=>k_is)
  have c_MOST_FIGURES:∃t,mg "MOST_FIGURES" = some (.int 18 t):=by
   refine' Mi.zd6 KX G ?a
   (case a=>k_is)
  have c_MOST_PARTS:∃t,mg "MOST_PARTS" = some (.int 60 t):=by
   refine' Mi.zd6 KX G ?a
   (case a=>k_is)
  have c_MOST_SIGNS:∃t,mg "MOST_SIGNS" = some (.int 8 t):=by
   refine' Mi.zd6 KX G ?a
   (case a=>k_is)
  have c_NUMBER_BOUND:∃t,mg "NUMBER_BOUND" = some (.int 1000000000000000000 t):=by
   refine' Mi.zd6 KX G ?a
   (case a=>k_is)
  have kd_OPS:∀X:L2.Cx,X.K=(L2.KOf KX)->X.mg=mg->X.w=w->Mi.KdF X "OPS" FK28.zat FK28.zau FK28.zgs:=by
   dsimp only [L2.KOf]
   refine' Mi.zsC KX G ?aO ?lO ?hk ?no ?hi
   (case aO|lO=>k_is)
   case hk =>
    repeat (refine ⟨⟨_,_,rfl,rfl⟩,?_⟩)
    exact trivial
   (case no=>first|rfl|decide)
   case hi =>
    simp only [FK28.zat,FK28.zau,List.zip_cons_cons,List.zip_nil_left]
    refine Mi.all_cons ?_ ?_
    ·refine' Mi.zfS KX G ?e ?l1 ?l2 ?a
     (case e|l1|l2|a=>k_is)
    refine Mi.all_cons ?_ ?_
    ·refine' Mi.zsB KX G ?e ?l1 ?l2 ?a
     (case e|l1|l2|a=>k_is)
    refine Mi.all_cons ?_ ?_
    ·refine' Mi.zfS KX G ?e ?l1 ?l2 ?a
     (case e|l1|l2|a=>k_is)
    refine Mi.all_cons ?_ ?_
    ·refine' Mi.zjW KX G ?e ?l1 ?l2 ?a
     (case e|l1|l2|a=>k_is)
    refine Mi.all_cons ?_ ?_
    ·refine' Mi.zfS KX G ?e ?l1 ?l2 ?a
     (case e|l1|l2|a=>k_is)
    refine Mi.all_cons ?_ ?_
    ·refine' Mi.zjW KX G ?e ?l1 ?l2 ?a
     (case e|l1|l2|a=>k_is)
    exact Mi.zsA
  have T:FK28.Txt w (L2.KOf KX) mg:=by
   constructor
   case x0_NoText=>exact x0_NoText
   case x_Fault=>exact x_Fault
   case c_FIGURES=>exact c_FIGURES
   case c_LETTERS=>exact c_LETTERS
   case c_MOST_FIGURES=>exact c_MOST_FIGURES
   case c_MOST_PARTS=>exact c_MOST_PARTS
   case c_MOST_SIGNS=>exact c_MOST_SIGNS
   case c_NUMBER_BOUND=>exact c_NUMBER_BOUND
   case kd_OPS=>exact kd_OPS
   all_goals first
    | (show Mi.MtF _ _ _ _ _ _ [_];dsimp only [L2.KOf];refine' Mi.zfR KX G ?aC ?pg ?hd ?po ?sa ?a ?i ?l ?c ?k ?b;(case aC|pg|hd|po|sa|a|i|l|c|k=>k_is);(case b=>exact λ_ _ _ _ _ _ us hl=>by obtain ⟨_,rfl⟩:=uu1 hl;rfl))
    | (show Mi.MtF _ _ _ _ _ _ [_,_];dsimp only [L2.KOf];refine' Mi.zfR KX G ?aC ?pg ?hd ?po ?sa ?a ?i ?l ?c ?k ?b;(case aC|pg|hd|po|sa|a|i|l|c|k=>k_is);(case b=>exact λ_ _ _ _ _ _ us hl=>by obtain ⟨_,_,rfl⟩:=uu2 hl;rfl))
    | (show Mi.MtF _ _ _ _ _ _ [_,_,_];dsimp only [L2.KOf];refine' Mi.zfR KX G ?aC ?pg ?hd ?po ?sa ?a ?i ?l ?c ?k ?b;(case aC|pg|hd|po|sa|a|i|l|c|k=>k_is);(case b=>exact λ_ _ _ _ _ _ us hl=>by obtain ⟨_,_,_,rfl⟩:=uu3 hl;rfl))
    | (show Mi.NwF _ _ _ _ _ [_,_];dsimp only [L2.KOf];refine' Mi.zsv KX G ?aC ?mk ?kc ?a ?i ?l ?c ?k ?b;(case aC|mk|kc|a|i|l|c|k=>k_is);(case b=>exact λ_ _ _ _ _ _ us hl=>by obtain ⟨_,_,rfl⟩:=uu2 hl;rfl))
    | (show Mi.FldF _ _ _ _ _
       refine ⟨λc hc=>?_,λc hc=>?_⟩
       ·simp [FK28.insOf,or_assoc] at hc
        rcases hc with rfl|rfl
        all_goals
         dsimp only [L2.KOf]
         refine' Mi.zsy KX G ?aC ?pg ?hd ?po ?sa ?na
         (case aC|pg|hd|po|sa|na=>k_is)
       ·simp [FK28.excOf,or_assoc] at hc
        rcases hc with rfl
        ·dsimp only [L2.KOf]
         refine' Mi.zsz KX G ?aC ?ga ?hk ?hB ?hd ?no
         (case aC|ga|hk|hB|hd|no=>k_is))
    | (show Mi.FnF _ _ _ _ [_];dsimp only [L2.KOf];refine' Mi.zfQ KX G ?a ?l ?c ?k ?b;(case a|l|c|k=>k_is);(case b=>exact λ_ _ _ _ _ _ us hl=>by obtain ⟨_,rfl⟩:=uu1 hl;rfl))
    | (show Mi.FnF _ _ _ _ [_,_];dsimp only [L2.KOf];refine' Mi.zfQ KX G ?a ?l ?c ?k ?b;(case a|l|c|k=>k_is);(case b=>exact λ_ _ _ _ _ _ us hl=>by obtain ⟨_,_,rfl⟩:=uu2 hl;rfl))
    | (show Mi.FnF _ _ _ _ [_,_,_];dsimp only [L2.KOf];refine' Mi.zfQ KX G ?a ?l ?c ?k ?b;(case a|l|c|k=>k_is);(case b=>exact λ_ _ _ _ _ _ us hl=>by obtain ⟨_,_,_,rfl⟩:=uu3 hl;rfl))
    | (refine' Mi.zsE KX G ?a;case a=>k_is)
  exact Mi.zsD T.f_law hmg (λ_ _ _ _ _ _ _=>rfl) (λf fd F base=>FK28.zvw T F) (λns _=>FK28.zxH ns))
