import PyProof.Rows.All
import Wide.All
import OpenK.AllK
import Wide.FinOn
import Lean
import PyProof.EqAt
import PyProof.EqKinds
import PyProof.TupleCall
import PySem.Challenge.RW_foreknown_k72_what_may_fault_stays
set_option Elab.async false
set_option linter.all false
set_option maxRecDepth 100000
noncomputable section
abbrev Aa:=PySem.Value->PySem.Shared->Prop
abbrev Ab:=PySem.Str->Option PySem.Value
abbrev Ac:=List (PySem.Addr×PySem.Obj)
abbrev Ae:=List PySem.Str
abbrev Af:=List PySem.Addr
abbrev Ah:=List PySem.Value
def zu:=@PySem.wpAny_bind
def yl:=@PySem.Heap.get?_push_of_some
def ya:=@PySem.wpAny_pure
def yw:=@PySem.Heap.lt_size
def yP:=@PySem.Heap.get?_push_size
def jc:=@PySem.wpAny_field
def g_:=@PySem.wpAny_call_entry
def wn:=@PySem.wpAny_newObj_type
def hG:=@PySem.wpAny_holding
def jn:=@PySem.wpAny_mono
def wz:=@PySem.Heap.get?_update_other
def oI:=@PySem.wpAny_truthy_bool
def wK:=@PySem.lookup_relabel_local
def yi:=@List.getElem?_eq_getElem
def yJ:=@List.getElem?_set_ne
def yD:=@List.getElem?_eq_some_iff
def yz:=@List.getElem?_set_self
def zM:=@Nat.le_refl
def yT:=@List.size_toArray
def jC:=@List.mem_cons_self
def jZ:=@List.mem_cons_of_mem
def y0:=@List.mem_append_right
def hV:=@List.mem_append_left
def zC:=@if_pos
def zQ:=@if_neg
def jJ:=@List.mem_singleton
def jd:=@List.getElem?_map
def yE:=@List.mem_cons
def wo:=@List.drop_eq_getElem_cons
def jw:=@Nat.le_trans
def wA:=@List.length_append
def jK:=@Nat.zero_le
def jR:=@List.mem_of_getElem?
def jD:=@List.length_map
def ja:=@List.map_append
def jx:=@Nat.lt_of_lt_of_le
def j5:=@or_false
def jg:=@List.map_cons
def yX:=@Nat.ne_of_lt
def oJ:=@List.getElem_of_mem
def hW:=@List.range_succ
def wB:=@Bool.and_eq_true
def wC:=@List.mem_map
def jy:=@List.mem_append
def wc:=@List.length_cons
def j6:=@List.nodup_cons
def wD:=@List.getElem?_append_left
def wX:=@List.getElem?_append_right
def jo:=@decide_eq_false
def wq:=@decide_eq_true
def jS:=@Nat.mod_lt
def hZ:=@List.drop_of_length_le
def h_:=@List.flatMap_cons
def wL:=@List.lookup_cons
def uU:=@List.getElem?_eq_none
def kY:=@List.getElem?_eq_none_iff
def oK:=@List.append_assoc
def m7:=@List.mem_range
def m8:=@decide_eq_true_eq
def yM:=@Ne.symm
def uV:=@List.length_singleton
def wt:=@Nat.lt_succ_self
namespace L2
open PySem PySem.Spec PyProof.Rows
abbrev Key:=Sum Int Str
def dN:Key->Value->Bool
 |.inl k,v=>Value.isInt k v
 |.inr x,v=>Value.isStrOf x v
def BE (w:World):Key->Int
 |.inl k=>hashInt k
 |.inr x=>hashStr w x
def wY:∀{k:Key}{v:Value},dN k v=true->(∃i t,k=Sum.inl i/\v=Value.int i t)\/(∃x t,k=Sum.inr x/\v=Value.str x t)
 |.inl i,v,h=>by
  obtain ⟨t,e⟩:=Value.isInt_shape (k:=i) (v:=v) h
  exact .inl ⟨i,t,rfl,e⟩
 |.inr x,v,h=>by
  obtain ⟨t,e⟩:=Value.isStrOf_shape (x:=x) (v:=v) h
  exact .inr ⟨x,t,rfl,e⟩
def Iu (i:Int) (t:Tok):dN (.inl i) (.int i t)=true:=by simp [dN,Value.isInt]
def Iv (x:Str) (t:Tok):dN (.inr x) (.str x t)=true:=by simp [dN,Value.isStrOf]
def Iw (a b:Int):decide ((Sum.inl a:Key)=Sum.inl b)=(a==b):=by
 by_cases e:a=b
 ·subst e;simp
 ·have h:¬(Sum.inl a:Key)=Sum.inl b:=λq=>e (Sum.inl.inj q)
  rw [jo h]
  exact (beq_eq_false_iff_ne.mpr e).symm
def Iy (a b:Str):decide ((Sum.inr a:Key)=Sum.inr b)=decide (a=b):=by
 by_cases e:a=b
 ·subst e;simp
 ·have h:¬(Sum.inr a:Key)=Sum.inr b:=λq=>e (Sum.inr.inj q)
  rw [jo h,jo e]
def Iz (a:Int) (b:Str):decide ((Sum.inl a:Key)=Sum.inr b)=false:=jo (λq=>nomatch q)
def IA (a:Str) (b:Int):decide ((Sum.inr a:Key)=Sum.inl b)=false:=jo (λq=>nomatch q)
def a_ (prog:Program) (w:World):PySem.KeyKind prog w Key where
 is:=dN
 hash:=BE w
 inj:=λv a b ha hb=>by
  rcases wY ha with ⟨i,t,rfl,rfl⟩|⟨x,t,rfl,rfl⟩
  ·rcases wY hb with ⟨j,u,rfl,e⟩|⟨y,u,rfl,e⟩
   ·injection e with e1 _;rw [e1]
   ·exact nomatch e
  ·rcases wY hb with ⟨j,u,rfl,e⟩|⟨y,u,rfl,e⟩
   ·exact nomatch e
   ·injection e with e1 _;rw [e1]
 byValue:=λk v h=>by
  rcases wY h with ⟨i,t,rfl,rfl⟩|⟨x,t,rfl,rfl⟩<;>rfl
 pyHash:=λhv h=>by
  rcases wY hv with ⟨i,t,rfl,rfl⟩|⟨x,t,rfl,rfl⟩
  ·exact wpAny_pyHash_int h
  ·exact wpAny_pyHash_str h
 eqBool:=λhu hv h=>by
  rcases wY hu with ⟨i,t,rfl,rfl⟩|⟨x,t,rfl,rfl⟩
  ·rcases wY hv with ⟨j,u,rfl,rfl⟩|⟨y,u,rfl,rfl⟩
   ·rw [Iw] at h;exact wpAny_eqBool_int h
   ·rw [Iz] at h;exact SeqAt.EqAt.int_str i t y u _ _ _ _ h
  ·rcases wY hv with ⟨j,u,rfl,rfl⟩|⟨y,u,rfl,rfl⟩
   ·rw [IA] at h;exact SeqAt.EqAt.str_int x t j u _ _ _ _ h
   ·rw [Iy] at h;exact wpAny_eqBool_str h
 «strs» := λk x t v h=>by
  rcases wY h with ⟨i,u,rfl,e⟩|⟨y,u,rfl,e⟩
  ·exact nomatch e
  ·injection e with e1 _
   subst e1
   cases v<;>rfl
def IB (prog:Program) (w:World) (i:Int) (t:Tok):(a_ prog w).is (.inl i) (.int i t)=true:=Iu i t
def IC (prog:Program) (w:World) (x:Str) (t:Tok):(a_ prog w).is (.inr x) (.str x t)=true:=Iv x t
inductive V where
 |non|bl (b:Bool)|int (i:Int)|str (x:Str)|byt (b:Array UInt8)|flt (b:UInt64)|ref (a:Addr)|ty (n:String)
 deriving DecidableEq
def RelV:V->Value->Prop
 |.non,u=>u=Value.none
 |.bl b,u=>u=Value.bool b
 |.int i,u=>∃t,u=Value.int i t
 |.str x,u=>∃t,u=Value.str x t
 |.byt b,u=>∃t,u=Value.bytes b t
 |.flt b,u=>∃t,u=Value.float b t
 |.ref a,u=>u=Value.ref a
 |.ty n,u=>u=Value.type n
abbrev Vals:List V->List Value->Prop:=Paired RelV
theorem Vals.length {xs:List V}{us:Ah}(r:Vals xs us):xs.length=us.length:=Paired.length r
theorem Vals.get:∀{xs:List V}{us:Ah}{i:Nat}{x:V},Vals xs us->xs[i]?=some x->∃u,us[i]?=some u/\RelV x u
 |_,_,_,_,.nil,e=>by simp at e
 |_,_,0,_,.cons r _,e=>by simp at e;subst e;exact ⟨_,rfl,r⟩
 |_,_,i+1,x,.cons _ t,e=>by
  obtain ⟨u,h1,h2⟩:=Vals.get (i:=i) (x:=x) t (by simpa using e)
  exact ⟨u,by simpa using h1,h2⟩
theorem Vals.set {x:V}{u:Value}(r:RelV x u):∀{xs:List V}{us:Ah}(i:Nat),Vals xs us->Vals (xs.set i x) (us.set i u)
 |_,_,_,.nil=>.nil
 |_,_,0,.cons _ t=>.cons r t
 |_,_,i+1,.cons q t=>.cons q (Vals.set r i t)
theorem Vals.append:∀{xs ys:List V}{us ws:Ah},Vals xs us->Vals ys ws->Vals (xs++ys) (us++ws)
 |_,_,_,_,.nil,s=>s
 |_,_,_,_,.cons r t,s=>.cons r (Vals.append t s)
theorem Vals.take:∀{xs:List V}{us:Ah}(n:Nat),Vals xs us->Vals (xs.take n) (us.take n)
 |_,_,0,_=>.nil
 |_,_,_+1,.nil=>.nil
 |_,_,n+1,.cons r t=>.cons r (Vals.take n t)
theorem Vals.drop:∀{xs:List V}{us:Ah}(n:Nat),Vals xs us->Vals (xs.drop n) (us.drop n)
 |_,_,0,r=>r
 |_,_,_+1,.nil=>.nil
 |_,_,n+1,.cons _ t=>Vals.drop n t
def cm:Option V->Option Value->Prop
 |some v,some u=>RelV v u
 |none,none=>True
 |_,_=>False
def KV {κ:Type}:List (κ×V)->List (κ×Value)->Prop:=Paired λ(p:κ×V) (q:κ×Value)=>p.1=q.1/\RelV p.2 q.2
def kV:Key->V
 |.inl i=>.int i
 |.inr x=>.str x
inductive HO where
 |lst (xs:List V)
 |tup (xs:List V)
 |dK (kvs:List (Key×V))|dT (kvs:List (List Key×V))
 |set (S:Int->Bool) (n:Nat)
 |ins (C dx:Addr) (fs:List (Str×V))
 |own (x:Addr)
 |xd (fs:List (Str×V))
 |met (f x:Addr)
 |rng (lo hi:Int)
 |frz (o:Obj) (u:HO)
 |tbl (ps:Array Value)
 |ext (φ:Program->World->Heap->Prop)
abbrev Hp:=Addr->Option HO
def upd (H:Hp) (a:Addr) (o:HO):Hp:=λb=>if b=a then some o else H b
def yU {H:Hp}{a:Addr}{o:HO}:upd H a o a=some o:=by unfold upd;rw [zC rfl]
def yf {H:Hp}{a b:Addr}{o:HO}(h:b≠a):upd H a o b=H b:=by unfold upd;rw [zQ h]
def ID {H:Hp}{a b:Addr}{o u:HO}(h:H a=some o) (h':H b=some u) (d:o≠u):a≠b:=by
 intro e;subst e;rw [h] at h';exact d (Option.some.inj h')
def wZ {H:Hp}{a b:Addr}{o:HO}(h:H a=some o) (h':H b=none):a≠b:=by
 intro e;subst e;rw [h] at h';cases h'
section
variable (P:Program) (w:World)
def a9 (H:Hp) (h:Heap) (a:Addr):HO->Prop
 |.lst xs=>xs.length<=sizeLine/\∃(its:Ah) (n:Nat),Vals xs its/\h.get? a=some { cls:=.type "list", data:=.seq its.toArray n }
 |.tup xs=>xs.length<=sizeLine/\∃its:Ah,Vals xs its/\IsTup h a its.toArray
 |.dK kvs=>kvs.length<=sizeLine/\(a==sysModules)=false/\∃vs,KV kvs vs/\h.DictOf (a_ P w) a vs
 | .dT kvs=>kvs.length<=sizeLine/\(a==sysModules)=false/\∃xs:List (List Key×Addr×Value),
   Paired (λ(p:List Key×V) (q:List Key×Addr×Value)=>p.1=q.1/\H q.2.1=some (.tup (p.1.map kV))/\RelV p.2 q.2.2) kvs xs /\
   ∃o es ep,h.get? a=some o/\o.ExactDict/\o.data=.dict es ep/\es.toList=xs.map (entryOfKey (tupleKind (a_ P w)))/\(xs.map (·.1)).Nodup
 |.set S n=>h.SetOf (intKind P w) a S n
 | .ins C dx fs=>H dx=some (.own a)/\fs.length<=1000/\dx≠a/\h.get? a=some (PySem.W.instObj C dx) /\
   ∃mA,h.Ns1 dx mA/\(∀f,cm (fs.lookup f) (mA f))/\PySem.Within mA (fs.map (·.1))
 |.own _=>∃o,h.get? a=some o
 |.xd fs=>∃mA,h.Ns1 a mA/\∀f,cm (fs.lookup f) (mA f)
 |.rng lo hi=>∃t u v,h.get? a=some { cls:=.type "range", data:=.fields #[.int lo t,.int hi u,.int 1 v] }
 |.frz o u=>h.get? a=some o/\a9 H h a u
 |.tbl ps=>h.get? a=some { cls:=.none,data:=.fields ps }
 |.met f x=>h.get? a=some (PySem.W.methodObj (.ref f) (.ref x))
 |.ext φ=>φ P w h/\(∃o,h.get? a=some o)/\∀h1 h2:Heap,φ P w h1->(∀o,h1.get? a=some o->h2.get? a=some o)->φ P w h2
def bZ (H:Hp) (h:Heap):Prop:=∀a o,H a=some o->a9 P w H h a o
end
section
variable {P:Program} {w:World} {H H':Hp} {h h':Heap} {a:Addr} {o:HO}
theorem a9.lt (x:a9 P w H h a o):a<h.objs.size:=by
 cases o with
 |lst xs=>obtain ⟨_,_,_,_,e⟩:=x;exact yw e
 |tup xs=>obtain ⟨_,_,_,p⟩:=x;exact p.lt
 |dK kvs=>obtain ⟨_,_,_,_,o,_,_,e,_⟩:=x;exact yw e
 |dT kvs=>obtain ⟨_,_,_,_,o,_,_,e,_⟩:=x;exact yw e
 |set S n=>obtain ⟨o,_,_,_,e,_⟩:=x;exact yw e
 |ins C dx fs=>obtain ⟨_,_,_,e,_⟩:=x;exact yw e
 |own y=>obtain ⟨_,e⟩:=x;exact yw e
 |xd fs=>obtain ⟨_,⟨_,_,_,e,_⟩,_⟩:=x;exact yw e
 |rng lo hi=>obtain ⟨_,_,_,e⟩:=x;exact yw e
 |frz ob u=>obtain ⟨e,_⟩:=x;exact yw e
 |tbl ps=>exact yw (show h.get? a=some _ from x)
 |met f y=>exact yw (show h.get? a=some _ from x)
 |ext φ=>obtain ⟨_,⟨_,e⟩,_⟩:=x;exact yw e
theorem Paired.mapP {α β:Type}{F G:α->β->Prop}:∀{aP:List α}{aQ:List β},Paired F aP aQ->(∀a b,F a b->G a b)->Paired G aP aQ
 |_,_,.nil,_=>.nil
 |_,_,.cons r t,f=>.cons (f _ _ r) (Paired.mapP t f)
def a9.stay (x:a9 P w H h a o) (k:∀b u,(b=a\/H b=some (.own a))->h.get? b=some u->h'.get? b=some u)
  (ho:∀b,H b=some (.own a)->H' b=some (.own a)) (ht:∀b xs,H b=some (.tup xs)->H' b=some (.tup xs)):a9 P w H' h' a o:=by
 induction o with
 |lst xs=>obtain ⟨z,its,n,r,e⟩:=x;exact ⟨z,its,n,r,k _ _ (.inl rfl) e⟩
 |tup xs=>obtain ⟨z,its,r,ob,e,c⟩:=x;exact ⟨z,its,r,ob,k _ _ (.inl rfl) e,c⟩
 |dK kvs=>obtain ⟨z,y,vs,r,ob,es,ep,e,c⟩:=x;exact ⟨z,y,vs,r,ob,es,ep,k _ _ (.inl rfl) e,c⟩
 |dT kvs =>
  obtain ⟨z,y,xs,r,ob,es,ep,e,c⟩:=x
  exact ⟨z,y,xs,Paired.mapP r λp q z=>⟨z.1,ht _ _ z.2.1,z.2.2⟩,ob,es,ep,k _ _ (.inl rfl) e,c⟩
 |set S n=>obtain ⟨ob,es,ep,t,e,c⟩:=x;exact ⟨ob,es,ep,t,k _ _ (.inl rfl) e,c⟩
 |ins C dx fs =>
  obtain ⟨d,z,ne,e,mA,⟨od,es,ep,e2,c⟩,r⟩:=x
  exact ⟨ho _ d,z,ne,k _ _ (.inl rfl) e,mA,⟨od,es,ep,k _ _ (.inr d) e2,c⟩,r⟩
 |own y=>obtain ⟨ob,e⟩:=x;exact ⟨ob,k _ _ (.inl rfl) e⟩
 |xd fs=>obtain ⟨mA,⟨od,es,ep,e,c⟩,r⟩:=x;exact ⟨mA,⟨od,es,ep,k _ _ (.inl rfl) e,c⟩,r⟩
 |rng lo hi=>obtain ⟨t,u,v,e⟩:=x;exact ⟨t,u,v,k _ _ (.inl rfl) e⟩
 |frz ob u ih=>obtain ⟨e,q⟩:=x;exact ⟨k _ _ (.inl rfl) e,ih q⟩
 |tbl ps =>
  have e:h.get? a=some { cls:=.none,data:=.fields ps }:=x
  show h'.get? a=some { cls:=.none,data:=.fields ps }
  exact k a _ (.inl rfl) e
 |met f y =>
  have e:h.get? a=some (PySem.W.methodObj (.ref f) (.ref y)):=x
  show h'.get? a=some (PySem.W.methodObj (.ref f) (.ref y))
  exact k a _ (.inl rfl) e
 |ext φ=>obtain ⟨p,⟨o,e⟩,st⟩:=x;exact ⟨st _ _ p λo q=>k _ _ (.inl rfl) q,⟨o,k _ _ (.inl rfl) e⟩,st⟩
theorem bZ.lt (x:bZ P w H h) (e:H a=some o):a<h.objs.size:=(x a o e).lt
def bZ.fresh (x:bZ P w H h) (e:h.objs.size<=a):H a=none:=by
 cases q:H a with
 |none=>rfl
 |some u=>exact absurd (jx (x.lt q) e) (Nat.lt_irrefl _)
def bZ.kept (x:bZ P w H h) (k:∀b u,h.get? b=some u->h'.get? b=some u):bZ P w H h':=λa o e =>
 (x a o e).stay (λb u _ q=>k b u q) (λ_ q=>q) λ_ _ q=>q
def bZ.laid (x:bZ P w H h) (k:∀b u,h.get? b=some u->h'.get? b=some u) (hp:h.objs.size<=a) (new:a9 P w (upd H a o) h' a o):bZ P w (upd H a o) h':=λb u e=>by
 have hn:=x.fresh hp
 by_cases hb:b=a
 ·subst hb;rw [yU] at e;cases e;exact new
 ·rw [yf hb] at e
  exact (x b u e).stay (λc v _ q=>k c v q) (λc q=>by rw [yf (wZ q hn)];exact q) λc xs q=>by rw [yf (wZ q hn)];exact q
end
def Rd (H:Hp) (a:Addr) (u:HO):Prop:=H a=some u\/∃o,H a=some (.frz o u)
def Rd.ok {P:Program}{w:World}{H:Hp}{h:Heap}{a:Addr}{u:HO}(r:Rd H a u) (x:bZ P w H h):a9 P w H h a u:=by
 rcases r with r|⟨o,r⟩
 ·exact x a u r
 ·obtain ⟨_,q⟩:=x a _ r
  exact q
def m9:Option HO->Prop
 |some (.lst _)=>True
 |some (.dK _)=>True
 |some (.dT _)=>True
 |some (.set _ _)=>True
 |some (.ins _ _ _)=>True
 |some (.ext _)=>True
 |_=>False
section
variable {P:Program} {w:World} {H:Hp} {h h':Heap} {x e:Addr} {o':HO}
def bZ.write (ok:bZ P w H h) (mu:m9 (H x)) (he:e=x\/H e=some (.own x)) (k:∀b u,b≠e->h.get? b=some u->h'.get? b=some u) (ng:∃u,h'.get? e=some u)
  (new:a9 P w (upd H x o') h' x o'):bZ P w (upd H x o') h':=λb u q=>by
 have uF:∀c y,H c=some (.own y)->c≠x:=λc y r z=>by subst z;rw [r] at mu;exact mu
 have BF:∀c xs,H c=some (.tup xs)->c≠x:=λc xs r z=>by subst z;rw [r] at mu;exact mu
 by_cases hb:b=x
 ·subst hb;rw [yU] at q;cases q;exact new
 ·rw [yf hb] at q
  by_cases hbe:b=e
  ·have q':H b=some (.own x):=by
    rcases he with z|z
    ·exact absurd (hbe.trans z) hb
    ·rw [hbe];exact z
   rw [q] at q';cases q'
   obtain ⟨v,hv⟩:=ng
   exact ⟨v,by rw [hbe];exact hv⟩
  ·refine (ok b u q).stay (λc v hc r=>k c v ?_ r) (λc r=>by rw [yf (uF c b r)];exact r) λc xs r=>by rw [yf (BF c xs r)];exact r
   rcases hc with rfl|hc
   ·exact hbe
   ·rintro rfl
    rcases he with z|z
    ·exact uF c b hc z
    ·rw [hc] at z;cases z;exact hb rfl
end
structure Un (fs ex:Af) (H H':Hp) (h h':Heap):Prop where
 keep:∀b o,h.get? b=some o->H b=none->b∉fs->b∉ex->h'.get? b=some o
 slot:∀b o,h.get? b=some o->H b=none->b∈fs->b∉ex->∃sl,h'.get? b=some { o with slots:=sl }
 free:∀b o,h.get? b=some o->H b=none->b∉ex->H' b=none
 there:∀b o,h.get? b=some o->b∉ex->∃o',h'.get? b=some o'
 tups:∀b xs,H b=some (.tup xs)->H' b=some (.tup xs)
 frzs:∀b o u,H b=some (.frz o u)->H' b=some (.frz o u)
 tbls:∀b ps,H b=some (.tbl ps)->∃more,H' b=some (.tbl (ps++more))
section
variable {fs ex:Af} {H H1 H2:Hp} {h h1 h2 h':Heap} {a x e:Addr} {o:HO}
def Un.any (u:Un fs ex H H1 h h1) {b:Addr}{ob:Obj}(q:h.get? b=some ob) (n:H b=none) (hx:b∉ex):∃sl,h1.get? b=some { ob with slots:=sl }:=by
 by_cases hb:b∈fs
 ·exact u.slot b ob q n hb hx
 ·exact ⟨ob.slots,u.keep b ob q n hb hx⟩
def Un.trans (a:Un fs ex H H1 h h1) (b:Un fs ex H1 H2 h1 h2):Un fs ex H H2 h h2 where
 keep:=λc ob q n hc hx=>b.keep c ob (a.keep c ob q n hc hx) (a.free c ob q n hx) hc hx
 slot:=λc ob q n hc hx=>by
  obtain ⟨sl,e1⟩:=a.slot c ob q n hc hx
  obtain ⟨qZ,e2⟩:=b.slot c _ e1 (a.free c ob q n hx) hc hx
  exact ⟨qZ,e2⟩
 free:=λc ob q n hx=>by
  obtain ⟨o',e1⟩:=a.there c ob q hx
  exact b.free c o' e1 (a.free c ob q n hx) hx
 there:=λc ob q hx=>by
  obtain ⟨o',e1⟩:=a.there c ob q hx
  exact b.there c o' e1 hx
 tups:=λc xs q=>b.tups c xs (a.tups c xs q)
 frzs:=λc ob xs q=>b.frzs c ob xs (a.frzs c ob xs q)
 tbls:=λc ps q=>by
  obtain ⟨m1,e1⟩:=a.tbls c ps q
  obtain ⟨m2,e2⟩:=b.tbls c _ e1
  exact ⟨m1++m2,by rw [e2,Array.append_assoc]⟩
def Un.kept (k:∀b u,h.get? b=some u->h'.get? b=some u):Un fs ex H H h h' :=
 ⟨λb ob q _ _ _=>k b ob q,λb ob q _ _ _=>⟨ob.slots,k b ob q⟩,λ_ _ _ n _=>n,λb ob q _=>⟨ob,k b ob q⟩,λ_ _ q=>q,λ_ _ _ q=>q,λ_ ps q=>⟨#[],by rw [q];simp⟩⟩
def Un.refl:Un fs ex H H h h:=Un.kept λ_ _ q=>q
def Un.laid (k:∀b u,h.get? b=some u->h'.get? b=some u) (hp:h.objs.size<=a) (hn:H a=none):Un fs ex H (upd H a o) h h' where
 keep:=λb u q _ _ _=>k b u q
 slot:=λb u q _ _ _=>⟨u.slots,k b u q⟩
 free:=λb u q n _=>by rw [yf (yX (jx (yw q) hp))];exact n
 there:=λb u q _=>⟨u,k b u q⟩
 tups:=λb xs q=>by rw [yf (wZ q hn)];exact q
 frzs:=λb u xs q=>by rw [yf (wZ q hn)];exact q
 tbls:=λb ps q=>⟨#[],by rw [yf (wZ q hn),q];simp⟩
def Un.write (mu:m9 (H x)) (he:e=x\/H e=some (.own x)) (k:∀b u,b≠e->h.get? b=some u->h'.get? b=some u) (ng:∃u,h'.get? e=some u):Un fs ex H (upd H x o) h h':=by
 have hx:∀b,H b=none->b≠x:=λb n z=>by subst z;rw [n] at mu;exact mu
 have hb:∀b,H b=none->b≠e:=λb n z=>by
  subst z
  rcases he with r|r
  ·exact hx b n r
  ·rw [n] at r;cases r
 have hm:∀b u,H b=some u->¬m9 (some u)->b≠x:=λb u q nm z=>by subst z;rw [q] at mu;exact nm mu
 refine ⟨λb u q n _ _=>k b u (hb b n) q,λb u q n _ _=>⟨u.slots,k b u (hb b n) q⟩,λb u q n _=>by rw [yf (hx b n)];exact n,λb u q _=>?_,
  λb xs q=>by rw [yf (hm b _ q λz=>z)];exact q,λb u xs q=>by rw [yf (hm b _ q λz=>z)];exact q,λb ps q=>⟨#[],by rw [yf (hm b _ q λz=>z),q];simp⟩⟩
 by_cases hbe:b=e
 ·subst hbe;exact ng
 ·exact ⟨u,k b u hbe q⟩
end
def q8 (h:Heap) (H:Hp):Af:=(List.range h.objs.size).filter λa=>(H a).isSome
def eS (h:Heap) (H:Hp):Heap:=PySem.W.hideAll h (q8 h H)
def IG (h:Heap) (H:Hp):(eS h H).objs.size=h.objs.size:=PySem.W.hideAll_size _ _
def IH {h:Heap}{H:Hp}{b:Addr}{o:Obj}(e:h.get? b=some o) (n:H b=none):(eS h H).get? b=some o :=
 PySem.W.hideAll_get _ e λhm=>by
  have q:(H b).isSome=true:=(List.mem_filter.mp hm).2
  rw [n] at q;simp at q
def II {h:Heap}{H:Hp}{b:Addr}{o:Obj}(e:(eS h H).get? b=some o):h.get? b=some o/\H b=none:=by
 have e':h.get? b=some o:=PySem.W.of_hideAll (q8 h H) e
 refine ⟨e',?_⟩
 cases q:H b with
 |none=>rfl
 |some x =>
  have hm:b∈q8 h H:=List.mem_filter.mpr ⟨m7.mpr (yw e'),by simp [q]⟩
  have z:(eS h H).get? b=none:=PySem.W.hideAll_none (q8 h H) hm
  rw [z] at e;cases e
def oM (g h:Heap) (L:Addr):Ac:=(List.range h.objs.size).filterMap λa=>if a=L\/(g.get? a).isSome=true then none else (h.get? a).map λo=>(a,o)
def rest (g h:Heap) (L d:Addr):Ac:=(oM g h L).filter λp=>decide (p.1≠d)
structure Mod (K:PySem.W.Frag) (mg:Ab) (base:Heap):Prop where
 kin:K.In base
 glob:base.Ns mainGlobals mg
 blt:∃mb,base.Ns builtinsNs mb/\∀x:Str,x ≠ "__name__" -> mb x=bootBuiltins x
 nolimit:base.NoLimit
structure Cx where
 prog:Program
 w:World
 K:PySem.W.Frag
 mg:Ab
 base:Heap
 A:Around
 N:Ae
 s₀:Shared
 H₀:Hp
 env:Env
 outer:List Env
 stack:List Env
 ex:Af
 fn:Str->Bool
 calm:Bool
 pn:Ac
 xe:Aa
def cN (l:List Env):Af:=l.filterMap (·.frame)
abbrev Cx.fs (X:Cx):Af:=cN X.outer
def q9 (sc:Scope) (x:Str):Prop:=sc.names.lookup x=some .local\/sc.names.lookup x=some .cell\/sc.names.lookup x=some .free
def Loc (sc:Scope) (x:Str):Prop:=sc.names.lookup x=some .local\/sc.names.lookup x=some .cell
def Look (env:Env) (h:Heap) (m:Ab) (x:Str) (u:Value):Prop :=
 (env.kindOf x=some .local/\m x=some u)\/((env.kindOf x=some .cell\/env.kindOf x=some .free)/\∃c,env.cells.lookup x=some c/\h.IsCell c (some u))
structure Cx.Ok (X:Cx):Prop where
 mod:Mod X.K X.mg X.base
 kind:X.env.scope.kind=.function
 glob:X.env.globals=mainGlobals
 blt:X.env.builtins=builtinsNs
 above:X.s₀.heap.objs.size<=X.env.locals
 inj:∀x y c,X.env.cells.lookup x=some c->X.env.cells.lookup y=some c->x=y
 has:∀x,(X.env.kindOf x=some .cell\/X.env.kindOf x=some .free)->∃c,X.env.cells.lookup x=some c
 cab:∀x c,X.fn x=true->X.env.cells.lookup x=some c->X.s₀.heap.objs.size<=c
 hd:X.calm=true->X.A.handled=none
 frames:X.A.frames=some X.stack
 stk:X.stack=X.outer\/(X.stack=X.env::X.outer/\X.env.frame=some X.env.locals)
 exf:∀b∈X.ex,b≠X.env.locals/\∀x c,X.env.cells.lookup x=some c->c≠b
 bs:∀b o,X.base.get? b=some o->X.s₀.heap.get? b=some o/\X.H₀ b=none
 bsz:X.base.objs.size<=X.s₀.heap.objs.size
 noex:∀b o,X.base.get? b=some o->b∉X.ex
 exfs:∀b∈X.ex,b∉X.fs
 funs:X.s₀.heap.FunFrames X.base X.outer
 frf:∀b∈X.fs,X.H₀ b=none
structure Inv (X:Cx) (pins:Ac) (σ:List (Option V)) (H:Hp) (s:Shared):Prop where
 ok:X.Ok
 os:s.os=X.s₀.os
 bare:AllBare s.gens
 base:Un X.fs X.ex X.H₀ H X.s₀.heap s.heap
 loc:∃m,s.heap.Ns X.env.locals m/\∀(i:Nat) (x:Str) (v:V),X.N[i]?=some x->σ[i]?=some (some v)->q9 X.env.scope x->∃u,RelV v u/\Look X.env s.heap m x u
 cell:∀x c,X.env.cells.lookup x=some c->∃v,s.heap.IsCell c v
 free:H X.env.locals=none
 freeC:∀x c,X.env.cells.lookup x=some c->H c=none
 pin:∀p∈X.pn++pins,s.heap.get? p.1=some p.2/\H p.1=none/\p.1≠X.env.locals/\p.1∉X.fs/\∀v,p.2.data ≠ .cell v
 hok:bZ X.prog X.w H s.heap
 len:σ.length=X.N.length
section
variable {X:Cx} {pins:Ac} {σ:List (Option V)} {H H':Hp} {s:Shared} {h':Heap}
def Cx.Ok.nofr (ok:X.Ok) {b:Addr}{o:Obj}(e:X.base.get? b=some o):b∉X.fs:=λhb=>by
 have:=(ok.funs.mem hb).1
 rw [e] at this;cases this
theorem Inv.bs (I:Inv X pins σ H s):∀b o,X.base.get? b=some o->s.heap.get? b=some o/\H b=none:=λb o e =>
 ⟨I.base.keep b o (I.ok.bs b o e).1 (I.ok.bs b o e).2 (I.ok.nofr e) (I.ok.noex b o e),I.base.free b o (I.ok.bs b o e).1 (I.ok.bs b o e).2 (I.ok.noex b o e)⟩
def Inv.bk (I:Inv X pins σ H s):∀b o,X.base.get? b=some o->s.heap.get? b=some o:=λb o e=>(I.bs b o e).1
theorem Inv.mod (I:Inv X pins σ H s):Mod X.K X.mg X.base:=I.ok.mod
def Inv.kIn (I:Inv X pins σ H s):X.K.In s.heap:=I.ok.mod.kin.keeps I.bk
def Inv.fr (I:Inv X pins σ H s):∃m,Fr X.base X.env.locals s.heap m :=
 let ⟨m,hn,_⟩:=I.loc
 ⟨m,hn,I.bk,jw I.ok.bsz I.ok.above⟩
theorem Inv.lt (I:Inv X pins σ H s):X.env.locals<s.heap.objs.size:=let ⟨_,hn,_⟩:=I.loc;hn.lt
def Inv.sz (I:Inv X pins σ H s):X.s₀.heap.objs.size<=s.heap.objs.size:=jw I.ok.above (Nat.le_of_lt I.lt)
def Inv.nofs (I:Inv X pins σ H s) {a:Addr}(h:s.heap.objs.size<=a):a∉X.fs:=λhb=>by
 obtain ⟨_,o,ho,_⟩:=I.ok.funs.mem hb
 exact absurd (jx (yw ho) (jw I.sz h)) (Nat.lt_irrefl _)
def Inv.cne (I:Inv X pins σ H s):∀x c,X.env.cells.lookup x=some c->c≠X.env.locals:=λx c e z=>by
 obtain ⟨v,o,ho,hd⟩:=I.cell x c e
 obtain ⟨m,⟨o',es,ep,ho',fR,_⟩,_⟩:=I.loc
 rw [z,ho'] at ho;cases ho;rw [fR] at hd;cases hd
theorem Inv.funs (I:Inv X pins σ H s):s.heap.FunFrames X.base X.outer:=by
 have all:∀(l:List Env),(∀b∈cN l,b∈X.fs)->X.s₀.heap.FunFrames X.base l->s.heap.FunFrames X.base l:=by
  intro l
  induction l with
  |nil=>intro _ _;trivial
  |cons env r ih =>
   intro hs hl
   obtain ⟨hk,⟨L,o,hf,hn,ho,hd⟩,hr⟩:=hl
   have hL:L∈X.fs:=hs L (by unfold cN;rw [List.filterMap_cons,hf];exact jC)
   obtain ⟨sl,e⟩:=I.base.slot L o ho (I.ok.frf L hL) hL λz=>I.ok.exfs L z hL
   exact ⟨hk,⟨L,_,hf,hn,e,hd⟩,ih (λb hb=>hs b (by unfold cN;rw [List.filterMap_cons,hf];exact jZ _ hb)) hr⟩
 exact all X.outer (λ_ hb=>hb) I.ok.funs
theorem Inv.stack (I:Inv X pins σ H s):s.heap.FunFrames X.base X.stack:=by
 rcases I.ok.stk with e|⟨e,hf⟩
 ·rw [e];exact I.funs
 ·rw [e]
  obtain ⟨m,hn,_⟩:=I.loc
  refine .cons (by rw [I.ok.kind];decide) hf hn ?_ I.funs
  exact Heap.get?_none_of_le (jw I.ok.bsz I.ok.above)
def Inv.stkSub (I:Inv X pins σ H s):∀b∈cN X.stack,b∈X.env.locals::X.fs:=λb hb=>by
 rcases I.ok.stk with e|⟨e,hf⟩
 ·rw [e] at hb;exact jZ _ hb
 ·rw [e] at hb
  unfold cN at hb
  rw [List.filterMap_cons,hf] at hb
  exact hb
def Inv.stkFree (I:Inv X pins σ H s):∀b∈cN X.stack,H b=none:=λb hb=>by
 rcases yE.mp (I.stkSub b hb) with e|hb
 ·rw [e];exact I.free
 ·obtain ⟨_,o,ho,_⟩:=I.ok.funs.mem hb
  exact I.base.free b o ho (I.ok.frf b hb) λz=>I.ok.exfs b z hb
def Inv.step {g':Array GenState}{t':Nat}{d':Drawn}{ch:Af}(I:Inv X pins σ H s)
  (gA:∀b∈ch,(b∈X.ex\/X.s₀.heap.objs.size<=b)/\b≠X.env.locals/\(∀x c,X.env.cells.lookup x=some c->c≠b)/\∀p∈X.pn++pins,p.1≠b)
  (keep:∀b o,b≠X.env.locals->b∉X.fs->b∉ch->s.heap.get? b=some o->H b=none->h'.get? b=some o)
  (slot:∀b o,b≠X.env.locals->b∈X.fs->b∉ch->s.heap.get? b=some o->H b=none->∃sl,h'.get? b=some { o with slots:=sl }) (free:∀b o,b∉ch->s.heap.get? b=some o->H b=none->H' b=none)
  (there:∀b o,b∉ch->s.heap.get? b=some o->∃o',h'.get? b=some o')
  (tups:∀b xs,H b=some (.tup xs)->H' b=some (.tup xs)) (frzs:∀b o u,H b=some (.frz o u)->H' b=some (.frz o u)) (tbls:∀b ps,H b=some (.tbl ps)->∃more,H' b=some (.tbl (ps++more)))
  (ns:∀m,s.heap.Ns X.env.locals m->h'.Ns X.env.locals m) (hok:bZ X.prog X.w H' h') (hg:AllBare g') :
  Inv X pins σ H' { s with heap:=h',gens:=g',drawn:=d',toks:=t' }:=by
 have BG:∀b o,X.s₀.heap.get? b=some o->b≠X.env.locals:=λb o e=>yX (jx (yw e) I.ok.above)
 have gE:∀b o,X.s₀.heap.get? b=some o->b∉X.ex->b∉ch:=λb o e hx hb=>by
  rcases (gA b hb).1 with z|z
  ·exact hx z
  ·exact absurd (jx (yw e) z) (Nat.lt_irrefl _)
 have cellK:∀x c,X.env.cells.lookup x=some c->∀v,s.heap.IsCell c v->h'.IsCell c v:=λx c e v ⟨o,ho,hd⟩=>by
  have fS:c∉ch:=λz=>(gA c z).2.2.1 x c e rfl
  by_cases hc:c∈X.fs
  ·obtain ⟨sl,q⟩:=slot c o (I.cne x c e) hc fS ho (I.freeC x c e)
   exact ⟨_,q,hd⟩
  ·exact ⟨o,keep c o (I.cne x c e) hc fS ho (I.freeC x c e),hd⟩
 refine ⟨I.ok,I.os,hg,⟨λb o e n hb hx=>?_,λb o e n hb hx=>?_,λb o e n hx=>?_,λb o e hx=>?_,λb xs e=>tups b xs (I.base.tups b xs e),λb o xs e=>frzs b o xs (I.base.frzs b o xs e),λb ps e=>?_⟩,?_,λx c e=>?_,?_,λx c e=>?_,λp hp=>?_,hok,I.len⟩
 ·exact keep b o (BG b o e) hb (gE b o e hx) (I.base.keep b o e n hb hx) (I.base.free b o e n hx)
 ·obtain ⟨sl,e1⟩:=I.base.slot b o e n hb hx
  obtain ⟨qZ,e2⟩:=slot b _ (BG b o e) hb (gE b o e hx) e1 (I.base.free b o e n hx)
  exact ⟨qZ,e2⟩
 ·obtain ⟨o',e1⟩:=I.base.there b o e hx
  exact free b o' (gE b o e hx) e1 (I.base.free b o e n hx)
 ·obtain ⟨o',e1⟩:=I.base.there b o e hx
  exact there b o' (gE b o e hx) e1
 ·obtain ⟨m1,e1⟩:=I.base.tbls b ps e
  obtain ⟨m2,e2⟩:=tbls b _ e1
  exact ⟨m1++m2,by rw [e2,Array.append_assoc]⟩
 ·obtain ⟨m,hn,hl⟩:=I.loc
  refine ⟨m,ns m hn,λi x v e1 e2 e3=>?_⟩
  obtain ⟨u,r,l⟩:=hl i x v e1 e2 e3
  refine ⟨u,r,?_⟩
  rcases l with l|⟨k,c,e,z⟩
  ·exact .inl l
  ·exact .inr ⟨k,c,e,cellK x c e _ z⟩
 ·obtain ⟨v,z⟩:=I.cell x c e
  exact ⟨v,cellK x c e v z⟩
 ·obtain ⟨m,⟨o,_,_,ho,_⟩,_⟩:=I.loc
  exact free _ o (λz=>(gA _ z).2.1 rfl) ho I.free
 ·obtain ⟨v,o,ho,hd⟩:=I.cell x c e
  exact free c o (λz=>(gA c z).2.2.1 x c e rfl) ho (I.freeC x c e)
 ·obtain ⟨e,n,ne,nf,d⟩:=I.pin p hp
  have fS:p.1∉ch:=λz=>(gA p.1 z).2.2.2 p hp rfl
  exact ⟨keep p.1 p.2 ne nf fS e n,free p.1 p.2 fS e n,ne,nf,d⟩
def Inv.un {t':Nat}(I:Inv X pins σ H s) (u:Un X.fs [] H H' s.heap h') (hok:bZ X.prog X.w H' h'):Inv X pins σ H' { s with heap:=h',toks:=t' }:=by
 obtain ⟨m,⟨o,es,ep,ho,r⟩,_⟩:=id I.loc
 obtain ⟨sl,hL⟩:=u.any ho I.free (by simp)
 exact I.step (g':=s.gens) (d':=s.drawn) (ch:=[]) (λ_ z=>nomatch z) (λb o _ hb _ e n=>u.keep b o e n hb (by simp)) (λb o _ hb _ e n=>u.slot b o e n hb (by simp)) (λb o _ e n=>u.free b o e n (by simp)) (λb o _ e=>u.there b o e (by simp)) u.tups u.frzs u.tbls (λm' hm=>by
  obtain ⟨o',q_,rg,ho',r'⟩:=hm
  rw [ho] at ho';cases ho'
  exact ⟨_,q_,rg,hL,r'⟩) hok I.bare
def Inv.call {g':Array GenState}{t':Nat}{d':Drawn}{ch:Af}(I:Inv X pins σ H s) (u:Un (cN X.stack) ch H H' s.heap h') (hok:bZ X.prog X.w H' h') (hg:AllBare g')
  (gA:∀b∈ch,(b∈X.ex\/X.s₀.heap.objs.size<=b)/\b≠X.env.locals/\(∀x c,X.env.cells.lookup x=some c->c≠b)/\∀p∈X.pn++pins,p.1≠b) :
  Inv X pins σ H' { s with heap:=h',gens:=g',drawn:=d',toks:=t' }:=by
 obtain ⟨m,⟨o,es,ep,ho,r⟩,_⟩:=id I.loc
 obtain ⟨sl,hL⟩:=u.any ho I.free λz=>(gA _ z).2.1 rfl
 exact I.step (ch:=ch) gA (λb o hL hb hc e n=>u.keep b o e n (λz=>(yE.mp (I.stkSub b z)).elim hL hb) hc) (λb o _ _ hc e n=>u.any e n hc) (λb o hc e n=>u.free b o e n hc) (λb o hc e=>u.there b o e hc) u.tups u.frzs u.tbls (λm' hm=>by
  obtain ⟨o',q_,rg,ho',r'⟩:=hm
  rw [ho] at ho';cases ho'
  exact ⟨_,q_,rg,hL,r'⟩) hok hg
def Inv.turned {t':Nat}{it:Addr}(I:Inv X pins σ H s) (k:∀b o,b≠it->s.heap.get? b=some o->h'.get? b=some o) (hn:H it=none) (hL:it≠X.env.locals)
  (h1:it∈X.ex\/X.s₀.heap.objs.size<=it) (h2:∀x c,X.env.cells.lookup x=some c->c≠it) (h3:∀p∈X.pn++pins,p.1≠it):Inv X pins σ H { s with heap:=h',toks:=t' }:=by
 have BH:∀b u,H b=some u->b≠it:=λb u e z=>by rw [z,hn] at e;cases e
 refine I.step (g':=s.gens) (d':=s.drawn) (ch:=[it]) (λb hb=>?_) (λb o _ _ hc e _=>k b o (λz=>hc (by simp [z])) e) (λb o _ _ hc e _=>⟨o.slots,k b o (λz=>hc (by simp [z])) e⟩) (λ_ _ _ _ n=>n)
  (λb o hc e=>⟨o,k b o (λz=>hc (by simp [z])) e⟩) (λ_ _ e=>e) (λ_ _ _ e=>e) (λb ps e=>⟨#[],by rw [e];simp⟩) (λm hm=>?_) (λb u e=>?_) I.bare
 ·have e:b=it:=by simpa using hb
  subst e
  exact ⟨h1,hL,h2,h3⟩
 ·obtain ⟨o,es,ep,ho,r⟩:=hm
  exact ⟨o,es,ep,k _ o (yM hL) ho,r⟩
 ·refine (I.hok b u e).stay (λc v hc q=>k c v ?_ q) (λ_ q=>q) λ_ _ q=>q
  rcases hc with z|z
  ·rw [z];exact BH b u e
  ·exact BH c _ z
def Inv.tok (I:Inv X pins σ H s) (t:Nat):Inv X pins σ H { s with toks:=t }:=I.un (h':=s.heap) (t':=t) Un.refl I.hok
theorem Inv.kept {t':Nat}(I:Inv X pins σ H s) (k:∀b u,s.heap.get? b=some u->h'.get? b=some u):Inv X pins σ H { s with heap:=h',toks:=t' }:=I.un (Un.kept k) (I.hok.kept k)
theorem Inv.laid {a:Addr}{o:HO}{t':Nat}(I:Inv X pins σ H s) (k:∀b u,s.heap.get? b=some u->h'.get? b=some u) (hp:s.heap.objs.size<=a) (new:a9 X.prog X.w (upd H a o) h' a o) :
  Inv X pins σ (upd H a o) { s with heap:=h',toks:=t' }:=I.un (Un.laid k hp (I.hok.fresh hp)) (I.hok.laid k hp new)
theorem Inv.write {x e:Addr}{o:HO}{t':Nat}(I:Inv X pins σ H s) (mu:m9 (H x)) (he:e=x\/H e=some (.own x)) (k:∀b u,b≠e->s.heap.get? b=some u->h'.get? b=some u) (ng:∃u,h'.get? e=some u)
  (new:a9 X.prog X.w (upd H x o) h' x o):Inv X pins σ (upd H x o) { s with heap:=h',toks:=t' }:=I.un (Un.write mu he k ng) (I.hok.write mu he k ng new)
def Inv.weak {aj:List (Option V)}(I:Inv X pins σ H s) (hl:aj.length=σ.length) (w:∀(i:Nat) v,aj[i]?=some (some v)->σ[i]?=some (some v)):Inv X pins aj H s :=
 ⟨I.ok,I.os,I.bare,I.base,let ⟨m,hn,ia⟩:=I.loc;⟨m,hn,λi x v e1 e2 e3=>ia i x v e1 (w i v e2) e3⟩,I.cell,I.free,I.freeC,I.pin,I.hok,hl.trans I.len⟩
def Inv.pins_of {pins':Ac}(I:Inv X pins σ H s) (h:∀p∈pins',s.heap.get? p.1=some p.2/\H p.1=none/\p.1≠X.env.locals/\p.1∉X.fs/\∀v,p.2.data ≠ .cell v):Inv X pins' σ H s :=
 ⟨I.ok,I.os,I.bare,I.base,I.loc,I.cell,I.free,I.freeC,λp hp=>(jy.mp hp).elim (λz=>I.pin p (hV _ z)) (h p),I.hok,I.len⟩
def uW {N:Ae}(hN:N.Nodup) {i j:Nat}{x:Str}(a:N[i]?=some x) (b:N[j]?=some x):i=j:=by
 obtain ⟨h1,e1⟩:=yD.mp a
 obtain ⟨h2,e2⟩:=yD.mp b
 exact (List.getElem_inj hN).mp (e1.trans e2.symm)
def IJ {M:Model}{A:Around}{E:Aa}{i:Nat}{x:Str}{v:V}{u:Value}{Q:Unit->Shared->Prop}(I:Inv X pins σ H s) (hN:X.N.Nodup) (hi:X.N[i]?=some x) (hx:Loc X.env.scope x) (r:RelV v u)
  (h:∀s',Inv X pins (σ.set i (some v)) H s'->(∃a,Heap.SameBut a s.heap s'.heap/\(a=X.env.locals\/X.env.cells.lookup x=some a))->Q () s') (hf:X.fn x=true\/X.env.scope.names.lookup x=some .local:=by first|exact .inl rfl|exact .inr rfl|assumption):wpAny M A (storeName X.env x u) Q E s:=by
 obtain ⟨m,hn,hl⟩:=id I.loc
 have ki:(X.env.scope.kind == .class||(X.env.scope.kind == .module&&X.env.locals != X.env.globals))=false:=by rw [I.ok.kind];rfl
 have aK:i<σ.length:=by rw [I.len];exact (yD.mp hi).1
 have cne:=I.cne
 have tracked:∀{a:Addr} {h':Heap},(∃o,s.heap.get? a=some o/\H a=none)->Heap.SameBut a s.heap h'->bZ X.prog X.w H h':=λ{a h'} ha hs b ob e=>by
  obtain ⟨_,_,ib⟩:=ha
  refine (I.hok b ob e).stay (λc w' hc q=>(hs.2 c ?_).trans q) (λ_ q=>q) λ_ _ q=>q
  rintro rfl
  rcases hc with rfl|hc
  ·rw [ib] at e;cases e
  ·rw [ib] at hc;cases hc
 rcases hx with hk|hk
 ·refine wpAny_storeName_local hk hn (λh' kZ hs=>?_) ki
  obtain ⟨oL,_,_,BI,_⟩:=id hn
  refine h _ ⟨I.ok,I.os,I.bare,⟨λb o e n hb hx=>?_,λb o e n hb hx=>?_,I.base.free,λb o e hx=>?_,I.base.tups,I.base.frzs,I.base.tbls⟩,⟨_,kZ,λj y v' e1 e2 e3=>?_⟩,λy c e=>?_,I.free,I.freeC,λp hp=>?_,tracked ⟨oL,BI,I.free⟩ hs,by simpa using I.len⟩ ⟨_,hs,.inl rfl⟩
  ·exact (hs.2 b (yX (jx (yw e) I.ok.above))).trans (I.base.keep b o e n hb hx)
  ·obtain ⟨sl,e1⟩:=I.base.slot b o e n hb hx
   exact ⟨sl,(hs.2 b (yX (jx (yw e) I.ok.above))).trans e1⟩
  ·obtain ⟨o',e1⟩:=I.base.there b o e hx
   exact ⟨o',(hs.2 b (yX (jx (yw e) I.ok.above))).trans e1⟩
  ·by_cases hj:j=i
   ·subst hj
    rw [hi] at e1;cases e1
    rw [yz aK] at e2
    cases e2
    exact ⟨u,r,.inl ⟨hk,by simp⟩⟩
   ·rw [yJ (yM hj)] at e2
    obtain ⟨u',r',q⟩:=hl j y v' e1 e2 e3
    refine ⟨u',r',?_⟩
    rcases q with ⟨k,e⟩|⟨k,c,e,z⟩
    ·refine .inl ⟨k,?_⟩
     have:y≠x:=λe=>hj (uW hN e1 (e▸hi))
     simp [this,e]
    ·exact .inr ⟨k,c,e,z.sameBut hs (cne y c e)⟩
  ·obtain ⟨w',z⟩:=I.cell y c e
   exact ⟨w',z.sameBut hs (cne y c e)⟩
  ·obtain ⟨e,n,ne,nf,d⟩:=I.pin p hp
   exact ⟨(hs.2 p.1 ne).trans e,n,ne,nf,d⟩
 ·have uX:X.fn x=true:=by
   rcases hf with z|z
   ·exact z
   ·rw [z] at hk;cases hk
  obtain ⟨c,hc⟩:=I.ok.has x (.inl hk)
  obtain ⟨w',z⟩:=I.cell x c hc
  refine wpAny_storeName_cell I.ok.kind hk hc z (λh' cG hs=>?_)
  obtain ⟨oc,BJ,BK⟩:=id z
  refine h { s with heap:=h' } ⟨I.ok,I.os,I.bare,⟨λb o e n hb hx=>?_,λb o e n hb hx=>?_,I.base.free,λb o e hx=>?_,I.base.tups,I.base.frzs,I.base.tbls⟩,⟨m,hn.sameBut hs (yM (cne x c hc)),λj y v' e1 e2 e3=>?_⟩,λy c' e=>?_,I.free,I.freeC,λp hp=>?_,tracked ⟨oc,BJ,I.freeC x c hc⟩ hs,by simpa using I.len⟩ ⟨c,hs,.inr hc⟩
  ·exact (hs.2 b (yX (jx (yw e) (I.ok.cab x c uX hc)))).trans (I.base.keep b o e n hb hx)
  ·obtain ⟨sl,e1⟩:=I.base.slot b o e n hb hx
   exact ⟨sl,(hs.2 b (yX (jx (yw e) (I.ok.cab x c uX hc)))).trans e1⟩
  ·obtain ⟨o',e1⟩:=I.base.there b o e hx
   exact ⟨o',(hs.2 b (yX (jx (yw e) (I.ok.cab x c uX hc)))).trans e1⟩
  ·by_cases hj:j=i
   ·subst hj
    rw [hi] at e1;cases e1
    rw [yz aK] at e2
    cases e2
    exact ⟨u,r,.inr ⟨.inl hk,c,hc,cG⟩⟩
   ·rw [yJ (yM hj)] at e2
    obtain ⟨u',r',q⟩:=hl j y v' e1 e2 e3
    refine ⟨u',r',?_⟩
    rcases q with q|⟨k,c',e,z'⟩
    ·exact .inl q
    ·refine .inr ⟨k,c',e,z'.sameBut hs ?_⟩
     rintro rfl
     exact hj (uW hN e1 (I.ok.inj _ _ _ e hc▸hi))
  ·by_cases ni:c'=c
   ·subst ni;exact ⟨_,cG⟩
   ·obtain ⟨w2,z2⟩:=I.cell y c' e
    exact ⟨w2,z2.sameBut hs ni⟩
  ·obtain ⟨e,n,ne,nf,d⟩:=I.pin p hp
   refine ⟨(hs.2 p.1 ?_).trans e,n,ne,nf,d⟩
   intro q
   rw [q,BJ] at e
   have q':oc=p.2:=Option.some.inj e
   exact d w' (by rw [<-q'];exact BK)
def nj {M:Model}{A:Around}{E:Aa}{i:Nat}{x:Str}{v:V}{u:Value}{Q:Unit->Shared->Prop}(I:Inv X pins σ H s) (hN:X.N.Nodup) (hi:X.N[i]?=some x) (hx:Loc X.env.scope x) (r:RelV v u)
  (h:∀s',Inv X pins (σ.set i (some v)) H s'->Q () s') (hf:X.fn x=true\/X.env.scope.names.lookup x=some .local:=by first|exact .inl rfl|exact .inr rfl|assumption):wpAny M A (storeName X.env x u) Q E s :=
 IJ I hN hi hx r (λs' I' _=>h s' I') hf
def Inv.call' {s':Shared}{ch:Af}(I:Inv X pins σ H s) (ho:s'.os=s.os) (u:Un (cN X.stack) ch H H' s.heap s'.heap) (hok:bZ X.prog X.w H' s'.heap) (hg:AllBare s'.gens)
  (gA:∀b∈ch,(b∈X.ex\/X.s₀.heap.objs.size<=b)/\b≠X.env.locals/\(∀x c,X.env.cells.lookup x=some c->c≠b)/\∀p∈X.pn++pins,p.1≠b):Inv X pins σ H' s':=by
 obtain ⟨h',g',d',t',o'⟩:=s'
 have e:o'=s.os:=ho
 subst e
 exact I.call (g':=g') (t':=t') (d':=d') u hok hg gA
end
abbrev XK:=Value->Option Addr->Hp->Prop
abbrev St:=List (Option V)
abbrev VK:=V->Hp->Prop
abbrev TE:=St->Hp->VK->Prop
abbrev TT:=St->Hp->(Bool->Hp->Prop)->Prop
abbrev TA:=St->Hp->(List V->Hp->Prop)->Prop
structure Ends where
 nx:St->Hp->Prop
 rt:VK
 bk:St->Hp->Prop:=λ_ _=>False
 ct:St->Hp->Prop:=λ_ _=>False
abbrev TS:=Ends->St->Hp->Prop
def EP (X:Cx) (pins:Ac) (σ:St) (Q:VK) (u:Value) (s':Shared):Prop:=∃v H',Inv X pins σ H' s'/\RelV v u/\Q v H'
def TP (X:Cx) (pins:Ac) (σ:St) (Q:Bool->Hp->Prop) (b:Bool) (s':Shared):Prop:=∃H',Inv X pins σ H' s'/\Q b H'
def AP (X:Cx) (pins:Ac) (σ:St) (Q:List V->Hp->Prop) (us:Ah) (s':Shared):Prop:=∃vs H',Inv X pins σ H' s'/\Vals vs us/\Q vs H'
def SP (X:Cx) (pins:Ac) (D:Ends) (f:Flow) (s':Shared):Prop :=
 match f with
 |.next=>∃aj H',Inv X pins aj H' s'/\D.nx aj H'
 |.brk=>∃aj H',Inv X pins aj H' s'/\D.bk aj H'
 |.cont=>∃aj H',Inv X pins aj H' s'/\D.ct aj H'
 |.ret u=>∃v aj H',Inv X pins aj H' s'/\RelV v u/\D.rt v H'
def PE (X:Cx) (e:Expr) (t:TE):Prop :=
 ∀(pins:Ac) (s:Shared) (σ:St) (H:Hp) (Q:VK),Inv X pins σ H s->t σ H Q->wpAny (model X.prog X.w) X.A (eval e X.env) (EP X pins σ Q) X.xe s
def PT (X:Cx) (e:Expr) (t:TT):Prop :=
 ∀(pins:Ac) (s:Shared) (σ:St) (H:Hp) (Q:Bool->Hp->Prop),Inv X pins σ H s->t σ H Q->wpAny (model X.prog X.w) X.A (isTrue e X.env (eval e X.env)) (TP X pins σ Q) X.xe s
def PW (X:Cx) (e:Expr) (t:TT):Prop :=
 ∀(whole:Sem Value) (pins:Ac) (s:Shared) (σ:St) (H:Hp) (Q:Bool->Hp->Prop),Inv X pins σ H s->t σ H Q->wpAny (model X.prog X.w) X.A (isTrue e X.env whole) (TP X pins σ Q) X.xe s
def PW.pt {X:Cx}{e:Expr}{t:TT}(h:PW X e t):PT X e t:=h _
def PA (X:Cx) (es:List Expr) (t:TA):Prop :=
 ∀(pos:Pos) (pins:Ac) (s:Shared) (σ:St) (H:Hp) (Q:List V->Hp->Prop),Inv X pins σ H s->t σ H Q->wpAny (model X.prog X.w) X.A (spliced (backTo pos (starEach es X.env))) (AP X pins σ Q) X.xe s
def PS (X:Cx) (st:Stmt) (t:TS):Prop :=
 ∀(pins:Ac) (s:Shared) (σ:St) (H:Hp) (D:Ends),Inv X pins σ H s->t D σ H->wpAny (model X.prog X.w) X.A (exec st X.env) (SP X pins D) X.xe s
def cq (X:Cx) (st:List Stmt) (t:TS):Prop :=
 ∀(pins:Ac) (s:Shared) (σ:St) (H:Hp) (D:Ends),Inv X pins σ H s->t D σ H->wpAny (model X.prog X.w) X.A (execs st X.env) (SP X pins D) X.xe s
def aX {α:Type}{t:Sem α}{Q Q':α->Shared->Prop}{M:Model}{A:Around}{E:Aa}{s:Shared}(h:wpAny M A t Q E s) (hQ:∀a s,Q a s->Q' a s):wpAny M A t Q' E s:=jn h hQ λ_ _ x=>x
section
variable {X:Cx}
def uY (i:Nat):TE:=fun σ H Q=>∃v,σ[i]?=some (some v)/\Q v H
def tC (v:V):TE:=λ_ H Q=>Q v H
def IK {i:Nat} {x:Str} {pos:Pos} (hN:X.N[i]?=some x) (hv:q9 X.env.scope x) (hd:(x==("__debug__" : Str))=false:=by decide) (fw:(x==("__classdict__" : Str))=false:=by decide):PE X (.Name x pos) (uY i):=by
 intro pins s σ H Q I h
 obtain ⟨v,e,h⟩:=h
 obtain ⟨m,hn,hl⟩:=I.loc
 obtain ⟨u,r,l⟩:=hl i x v hN e hv
 have fin:EP X pins σ Q u s:=⟨v,H,I,r,h⟩
 rcases l with ⟨hk,hm⟩|⟨hk,c,hc,dO⟩
 ·exact wpAny_Name (wpAny_loadName_local I.ok.kind hk hn hm fin) hd
 ·rcases hk with hk|hk
  ·exact wpAny_Name (wpAny_loadName_cell I.ok.kind hk hc dO fin) hd
  ·exact wpAny_Name (wpAny_loadName_free I.ok.kind hk hc dO fin fw) hd
def IL {i j pos}:PE X (.Constant (.int i) j pos) (tC (.int i)):=λ_ _ _ H _ I h=>wpAny_Constant_int ⟨.int i,H,I.tok _,⟨_,rfl⟩,h⟩
def IM {b j pos}:PE X (.Constant (.bool b) j pos) (tC (.bl b)):=λ_ _ _ H _ I h=>Constant_bool ⟨.bl b,H,I,rfl,h⟩
def IQ {j pos}:PE X (.Constant .none j pos) (tC .non):=λ_ _ _ H _ I h=>Constant_none ⟨.non,H,I,rfl,h⟩
def BL {x j pos}:PE X (.Constant (.str x) j pos) (tC (.str x)):=λ_ _ _ H _ I h=>Calls.Constant_str ⟨.str x,H,I.tok _,⟨_,rfl⟩,h⟩
def Gl (X:Cx) (x:Str):Prop:=X.env.kindOf x=some .globalImplicit
def rh {E:Aa}{pins:Ac}{s:Shared}{σ:St}{H:Hp}{x:Str}{u:Value}{pos:Pos}{Q:Aa}(I:Inv X pins σ H s) (hg:Gl X x) (hm:X.mg x=some u) (h:Q u s)
  (hd:(x==("__debug__" : Str))=false:=by decide):wpAny (model X.prog X.w) X.A (eval (.Name x pos) X.env) Q E s :=
 Calls.Name_function_global I.ok.kind hg (Calls.loadGlobal_global (by rw [I.ok.glob];exact I.mod.glob.keeps I.bk) hm h) hd
def gF {E:Aa}{pins:Ac}{s:Shared}{σ:St}{H:Hp}{x:Str}{u:Value}{pos:Pos}{Q:Aa}(I:Inv X pins σ H s) (hg:Gl X x) (hm:X.mg x=none) (hv:bootBuiltins x=some u) (h:Q u s)
  (hn:x ≠ "__name__" := by decide) (hd:(x==("__debug__" : Str))=false:=by decide):wpAny (model X.prog X.w) X.A (eval (.Name x pos) X.env) Q E s:=by
 obtain ⟨mb,h1,h2⟩:=I.mod.blt
 exact Calls.Name_function_global I.ok.kind hg (Calls.loadGlobal_builtin (by rw [I.ok.glob];exact I.mod.glob.keeps I.bk) hm (by rw [I.ok.blt];exact h1.keeps I.bk) ((h2 x hn).trans hv) h) hd
def uZ {x:Str} {v:V} {u:Value} {pos:Pos} (hg:Gl X x) (hm:X.mg x=some u) (r:RelV v u) (hd:(x==("__debug__" : Str))=false:=by decide):PE X (.Name x pos) (tC v) :=
 λ_ _ _ H _ I h=>rh I hg hm ⟨v,H,I,r,h⟩ hd
def IU {x:Str} {v:V} {u:Value} {pos:Pos} (hg:Gl X x) (hm:X.mg x=none) (hv:bootBuiltins x=some u) (r:RelV v u) (hn:x ≠ "__name__" := by decide) (hd:(x==("__debug__" : Str))=false:=by decide):PE X (.Name x pos) (tC v) :=
 λ_ _ _ H _ I h=>gF I hg hm hv ⟨v,H,I,r,h⟩ hn hd
variable {a b:Expr} {ta tb:TE} {pos:Pos}
def tB (t:TE):TT:=fun σ H Q=>t σ H λx H1=>∃c,x=.bl c/\Q c H1
def IV {e:Expr}{t:TE}(h:PE X e t) (he:∀whole,isTrue e X.env whole=(do let v <-whole;standAt e.pos;holding [v] (truthy v)):=by intro _;rfl):PT X e (tB t):=by
 intro pins s σ H Q I hw
 refine isTrue_plain (aX (h pins s σ H _ I hw) λv s1 ⟨x,H1,I1,r1,q1⟩=>?_) (he _)
 obtain ⟨d,rfl,q⟩:=q1
 cases r1
 exact oI ⟨H1,I1,q⟩
variable {tA rj:TT} {rest:List Expr}
def IW (t u:TT):TT:=fun σ H Q=>t σ H λc H1=>if c=true then u σ H1 Q else Q false H1
def IY (t u:TT):TT:=fun σ H Q=>t σ H λc H1=>if c=true then Q true H1 else u σ H1 Q
def IZ (t:TT):TT:=fun σ H Q=>t σ H λc H1=>Q (!c) H1
def I_ (ha:PT X a tA):PW X (.BoolOp .And [a] pos) tA:=by
 intro wh pins s σ H Q I h
 refine isTrue_and (aX (ha pins s σ H Q I h) λc s1 e=>?_)
 cases c with
 |true=>exact isTrue_and_nil e
 |false=>exact e
def Ja (ha:PT X a tA):PW X (.BoolOp .Or [a] pos) tA:=by
 intro wh pins s σ H Q I h
 refine isTrue_or (aX (ha pins s σ H Q I h) λc s1 e=>?_)
 cases c with
 |false=>exact isTrue_or_nil e
 |true=>exact e
def Jb (ha:PT X a tA) (hb:PW X (.BoolOp .And (b::rest) pos) rj):PW X (.BoolOp .And (a::b::rest) pos) (IW tA rj):=by
 intro wh pins s σ H Q I h
 refine isTrue_and (aX (ha pins s σ H _ I h) λc s1 ⟨H1,I1,q1⟩=>?_)
 cases c with
 |true=>exact hb wh pins s1 σ H1 Q I1 q1
 |false=>exact ⟨H1,I1,q1⟩
def Jc (ha:PT X a tA) (hb:PW X (.BoolOp .Or (b::rest) pos) rj):PW X (.BoolOp .Or (a::b::rest) pos) (IY tA rj):=by
 intro wh pins s σ H Q I h
 refine isTrue_or (aX (ha pins s σ H _ I h) λc s1 ⟨H1,I1,q1⟩=>?_)
 cases c with
 |true=>exact ⟨H1,I1,q1⟩
 |false=>exact hb wh pins s1 σ H1 Q I1 q1
def Jd (ha:PT X a tA):PT X (.UnaryOp .Not a pos) (IZ tA):=by
 intro pins s σ H Q I h
 exact isTrue_not (ha pins s σ H (λc H1=>Q (!c) H1) I h)
def Je (ta tb:TE):TE:=fun σ H Q=>ta σ H λx H1=>∃c,x=.bl c/\if c=true then tb σ H1 Q else Q (.bl false) H1
def Jf (ta:TE):TE:=fun σ H Q=>ta σ H λx H1=>∃c,x=.bl c/\Q (.bl (!c)) H1
def Jg {op}{t:TE}(h:PE X a t):PE X (.BoolOp op [a] pos) t:=λpins s σ H Q I hw=>BoolOp_one (h pins s σ H Q I hw)
def Jh (ha:PE X a ta) (hb:PE X (.BoolOp .And (b::rest) pos) tb):PE X (.BoolOp .And (a::b::rest) pos) (Je ta tb):=by
 intro pins s σ H Q I h
 refine BoolOp_and (aX (ha pins s σ H _ I h) λv s1 ⟨x,H1,I1,r1,q1⟩=>?_)
 obtain ⟨c,rfl,q1⟩:=q1
 cases r1
 refine oI ?_
 cases c with
 |true=>exact hb pins s1 σ H1 Q I1 q1
 |false=>exact ⟨.bl false,H1,I1,rfl,q1⟩
def Ji (ha:PE X a ta):PE X (.UnaryOp .Not a pos) (Jf ta):=by
 intro pins s σ H Q I h
 refine UnaryOp_ (aX (ha pins s σ H _ I h) λv s1 ⟨x,H1,I1,r1,q1⟩=>?_)
 obtain ⟨c,rfl,q1⟩:=q1
 cases r1
 exact not_of (oI ⟨.bl (!c),H1,I1,rfl,q1⟩)
def Jj (t:TT) (ta tb:TE):TE:=fun σ H Q=>t σ H λc H1=>if c=true then ta σ H1 Q else tb σ H1 Q
def Jk {c:Expr}(hc:PT X c tA) (ha:PE X a ta) (hb:PE X b tb):PE X (.IfExp c a b pos) (Jj tA ta tb):=by
 intro pins s σ H Q I h
 refine wpAny_IfExp (aX (hc pins s σ H _ I h) λd s1 ⟨H1,I1,q1⟩=>?_)
 cases d with
 |true=>exact ha pins s1 σ H1 Q I1 q1
 |false=>exact hb pins s1 σ H1 Q I1 q1
end
def ba (K:PySem.W.Frag) (H:Hp) (a:Addr) (xs:List V):Prop :=
 Rd H a (.lst xs) \/
  ∃(o:Obj) (its:Array Value) (n:Nat),K.lookup a=some o/\o.cls=.type "list" /\ o.dict=none/\o.data=.seq its n/\its.size<=sizeLine/\Vals xs its.toList
def bt (K:PySem.W.Frag) (H:Hp) (a:Addr) (xs:List V):Prop :=
 Rd H a (.tup xs) \/
  ∃(o:Obj) (its:Array Value) (n:Nat),K.lookup a=some o/\o.cls=.type "tuple" /\ o.data=.seq its n/\its.size<=sizeLine/\Vals xs its.toList
def BM:Value->Option V
 |.none=>some .non
 |.bool b=>some (.bl b)
 |.int i _=>some (.int i)
 |.str x _=>some (.str x)
 |.bytes b _=>some (.byt b)
 |.float b _=>some (.flt b)
 |.ref a=>some (.ref a)
 |.type n=>some (.ty n)
 |_=>none
def RelV.abs {x:V}{u:Value}(r:RelV x u):BM u=some x:=by
 cases x with
 |non=>cases r;rfl
 |bl _=>cases r;rfl
 |int _=>obtain ⟨t,rfl⟩:=r;rfl
 |str _=>obtain ⟨t,rfl⟩:=r;rfl
 |byt _=>obtain ⟨t,rfl⟩:=r;rfl
 |flt _=>obtain ⟨t,rfl⟩:=r;rfl
 |ref _=>cases r;rfl
 |ty _=>cases r;rfl
theorem RelV.inj {x y:V}{u:Value}(r:RelV x u) (q:RelV y u):x=y:=Option.some.inj (r.abs.symm.trans q.abs)
theorem Vals.inj:∀{xs ys:List V}{us:Ah},Vals xs us->Vals ys us->xs=ys
 |_,_,_,.nil,.nil=>rfl
 |_,_,_,.cons r t,.cons r' t'=>by rw [r.inj r',Vals.inj t t']
section
variable {X:Cx} {pins:Ac} {σ:St} {H:Hp} {s:Shared} {a:Addr} {xs ys:List V}
def ba.of {K:PySem.W.Frag}(h:H a=some (.lst xs)):ba K H a xs:=.inl (.inl h)
def bt.of {K:PySem.W.Frag}(h:H a=some (.tup xs)):bt K H a xs:=.inl (.inl h)
def Inv.list (I:Inv X pins σ H s) (h:ba X.K H a xs):∃its:Ah,Vals xs its/\PlainL s.heap a its.toArray/\xs.length<=sizeLine:=by
 rcases h with h|⟨o,its,n,hk,hc,hd,hs,hz,r⟩
 ·obtain ⟨z,its,n,r,e⟩:=h.ok I.hok
  exact ⟨its,r,⟨_,n,e,rfl,rfl,rfl⟩,z⟩
 ·refine ⟨its.toList,r,⟨o,n,I.kIn a o hk,hc,hd,by simpa using hs⟩,?_⟩
  have e:=r.length
  simp only [Array.length_toList] at e
  omega
def Inv.tuple (I:Inv X pins σ H s) (h:bt X.K H a xs):∃its:Ah,Vals xs its/\IsTup s.heap a its.toArray/\xs.length<=sizeLine:=by
 rcases h with h|⟨o,its,n,hk,hc,hs,hz,r⟩
 ·obtain ⟨z,its,r,p⟩:=h.ok I.hok
  exact ⟨its,r,p,z⟩
 ·refine ⟨its.toList,r,⟨o,I.kIn a o hk,hc,n,by simpa using hs⟩,?_⟩
  have e:=r.length
  simp only [Array.length_toList] at e
  omega
def Inv.list_inj (I:Inv X pins σ H s) (h:ba X.K H a xs) (h':ba X.K H a ys):xs=ys:=by
 obtain ⟨its,r,⟨o,n,e,_,_,d⟩,_⟩:=I.list h
 obtain ⟨its',r',⟨o',n',e',_,_,d'⟩,_⟩:=I.list h'
 rw [e] at e';cases e'
 rw [d] at d'
 injection d' with d1 _
 have:its=its':=by simpa using congrArg Array.toList d1
 subst this
 exact r.inj r'
def Inv.tuple_inj (I:Inv X pins σ H s) (h:bt X.K H a xs) (h':bt X.K H a ys):xs=ys:=by
 obtain ⟨its,r,⟨o,e,_,n,d⟩,_⟩:=I.tuple h
 obtain ⟨its',r',⟨o',e',_,n',d'⟩,_⟩:=I.tuple h'
 rw [e] at e';cases e'
 rw [d] at d'
 injection d' with d1 _
 have:its=its':=by simpa using congrArg Array.toList d1
 subst this
 exact r.inj r'
end
abbrev Cx.wish (X:Cx) (E:Aa):Cx:={ X with xe:=E }
abbrev Cx.nox (X:Cx):Cx:=X.wish λ_ _=>False
theorem Cx.Ok.wish {X:Cx}(ok:X.Ok) (E:Aa):(X.wish E).Ok :=
 ⟨ok.mod,ok.kind,ok.glob,ok.blt,ok.above,ok.inj,ok.has,ok.cab,ok.hd,ok.frames,ok.stk,ok.exf,ok.bs,ok.bsz,ok.noex,ok.exfs,ok.funs,ok.frf⟩
def Cx.Ok.unwish {X:Cx}{E:Aa}(ok:(X.wish E).Ok):X.Ok :=
 ⟨ok.mod,ok.kind,ok.glob,ok.blt,ok.above,ok.inj,ok.has,ok.cab,ok.hd,ok.frames,ok.stk,ok.exf,ok.bs,ok.bsz,ok.noex,ok.exfs,ok.funs,ok.frf⟩
section
variable {X:Cx} {pins:Ac} {σ:St} {H:Hp} {s:Shared} {E:Aa}
theorem Inv.wish (I:Inv X pins σ H s) (E:Aa):Inv (X.wish E) pins σ H s:=⟨I.ok.wish E,I.os,I.bare,I.base,I.loc,I.cell,I.free,I.freeC,I.pin,I.hok,I.len⟩
theorem Inv.unwish (I:Inv (X.wish E) pins σ H s):Inv X pins σ H s:=⟨I.ok.unwish,I.os,I.bare,I.base,I.loc,I.cell,I.free,I.freeC,I.pin,I.hok,I.len⟩
theorem SP.unwish {D:Ends}{f:Flow}{s':Shared}(h:SP (X.wish E) pins D f s'):SP X pins D f s':=by
 cases f with
 |next=>obtain ⟨aj,H',I,q⟩:=h;exact ⟨aj,H',I.unwish,q⟩
 |brk=>obtain ⟨aj,H',I,q⟩:=h;exact ⟨aj,H',I.unwish,q⟩
 |cont=>obtain ⟨aj,H',I,q⟩:=h;exact ⟨aj,H',I.unwish,q⟩
 |ret u=>obtain ⟨v,aj,H',I,r,q⟩:=h;exact ⟨v,aj,H',I.unwish,r,q⟩
theorem PE.nox {e:Expr}{t:TE}(h:PE X.nox e t):PE X e t:=λpins s σ H Q I hw =>
 jn (h pins s σ H Q (I.wish _) hw) (λ_ _ ⟨v,H',I',r,q⟩=>⟨v,H',I'.unwish,r,q⟩) λ_ _ z=>z.elim
theorem PT.nox {e:Expr}{t:TT}(h:PT X.nox e t):PT X e t:=λpins s σ H Q I hw =>
 jn (h pins s σ H Q (I.wish _) hw) (λ_ _ ⟨H',I',q⟩=>⟨H',I'.unwish,q⟩) λ_ _ z=>z.elim
theorem cq.nox {st:List Stmt}{t:TS}(h:cq X.nox st t):cq X st t:=λpins s σ H D I hw =>
 jn (h pins s σ H D (I.wish _) hw) (λ_ _ q=>q.unwish) λ_ _ z=>z.elim
end
section
variable {X:Cx} {st:Stmt} {rest:List Stmt} {t u:TS} {e:Expr} {te:TE} {pos:Pos}
def Jl:TS:=λD σ H=>D.nx σ H
def Jm (t u:TS):TS:=λD σ H=>t { D with nx:=u D } σ H
def Jn:cq X [] Jl:=λ_ _ σ H _ I h=>wpAny_execs_nil ⟨σ,H,I,h⟩
def Jo (h1:PS X st t) (h2:cq X rest u):cq X (st::rest) (Jm t u):=by
 intro pins s σ H D I h
 refine wpAny_execs_cons (aX (h1 pins s σ H { D with nx:=u D } I h) λf s1 q=>?_)
 cases f with
 |next =>
  obtain ⟨aj,H',I',q⟩:=q
  exact h2 pins s1 aj H' D I' q
 |ret v=>exact q
 |brk=>exact q
 |cont=>exact q
def Jp (h1:PS X st t):cq X [st] t:=by
 intro pins s σ H D I h
 refine wpAny_execs_cons (aX (h1 pins s σ H D I h) λf s1 q=>?_)
 cases f with
 |next=>exact wpAny_execs_nil q
 |ret v=>exact q
 |brk=>exact q
 |cont=>exact q
def Inv.quiet {pins:Ac}{σ:St}{H:Hp}{s:Shared}(I:Inv X pins σ H s):interactive X.env=false:=by simp [interactive,I.ok.kind]
def Jq (te:TE):TS:=λD σ H=>te σ H λ_ H1=>D.nx σ H1
def Jr (he:PE X e te) (hs:swapsWith e none pos.line X.env=pure false:=by rfl):PS X (.Expr e pos) (Jq te):=by
 intro pins s σ H D I h
 exact wpAny_Expr_any (aX (he pins s σ H _ I h) λv s1 ⟨x,H1,I1,r1,q1⟩=>⟨σ,H1,I1,q1⟩) I.quiet hs
def Js (te:TE):TS:=λD σ H=>te σ H D.rt
def Jt (he:PE X e te):PS X (.Return (some e) pos) (Js te):=by
 intro pins s σ H D I h
 exact wpAny_Return_some (aX (he pins s σ H _ I h) λv s1 ⟨x,H1,I1,r1,q1⟩=>⟨x,σ,H1,I1,r1,q1⟩)
def Ju (c:TT) (t u:TS):TS:=λD σ H=>c σ H λb H1=>if b=true then t D σ H1 else u D σ H1
def Jv {c:Expr}{a b:List Stmt}{tc:TT}(hc:PT X c tc) (ha:cq X a t) (hb:cq X b u):PS X (.If c a b pos) (Ju tc t u):=by
 intro pins s σ H D I h
 refine wpAny_If (aX (hc pins s σ H _ I h) λd s1 ⟨H1,I1,q1⟩=>?_)
 cases d with
 |true=>exact ha pins s1 σ H1 D I1 q1
 |false=>exact hb pins s1 σ H1 D I1 q1
def BN:TS:=λ_ _ _=>False
def Jw:PS X st BN:=λ_ _ _ _ _ _ h=>h.elim
def Jx {cO:List Stmt}:cq X cO BN:=λ_ _ _ _ _ _ h=>h.elim
end
abbrev TG:=V->St->Hp->(St->Hp->Prop)->Prop
abbrev k9:=List V->St->Hp->(St->Hp->Prop)->Prop
def PG (X:Cx) (target:Expr) (t:TG):Prop :=
 ∀(pins:Ac) (s:Shared) (σ:St) (H:Hp) (v:V) (u:Value) (Q:St->Hp->Prop),Inv X pins σ H s->RelV v u->t v σ H Q ->
  wpAny (model X.prog X.w) X.A (assign target X.env u) (λ_ s'=>∃aj H',Inv X pins aj H' s'/\Q aj H') X.xe s
def rl (X:Cx) (ts:List Expr) (t:k9):Prop :=
 ∀(pins:Ac) (s:Shared) (σ:St) (H:Hp) (vs:List V) (us:Ah) (Q:St->Hp->Prop),Inv X pins σ H s->Vals vs us->t vs σ H Q ->
  wpAny (model X.prog X.w) X.A (assignInOrder ((assignEach ts X.env).map (·.2)) us) (λ_ s'=>∃aj H',Inv X pins aj H' s'/\Q aj H') X.xe s
abbrev oN:=V->V->V->Hp->(Hp->Prop)->Prop
def uG (X:Cx) (t:oN):Prop :=
 ∀(pins:Ac) (s:Shared) (σ:St) (H:Hp) (o i v:V) (ov iv u:Value) (Q:Hp->Prop),Inv X pins σ H s->RelV o ov->RelV i iv->RelV v u->t o i v H Q ->
  wpAny (model X.prog X.w) X.A (setItem ov iv u) (λ_ s'=>∃H',Inv X pins σ H' s'/\Q H') X.xe s
abbrev rm:=V->V->Hp->VK->Prop
def u7 (X:Cx) (op:Operator) (t:rm):Prop :=
 ∀(pins:Ac) (s:Shared) (σ:St) (H:Hp) (x y:V) (v u:Value) (Q:VK),Inv X pins σ H s->RelV x v->RelV y u->t x y H Q ->
  wpAny (model X.prog X.w) X.A (inplaceOp op v u) (EP X pins σ Q) X.xe s
section
variable {X:Cx} {pos:Pos}
def w8 (i:Nat):TG:=λv σ H Q=>Q (σ.set i (some v)) H
def wM {i:Nat}{x:Str}(hN:X.N.Nodup) (hi:X.N[i]?=some x) (hx:Loc X.env.scope x) (hf:X.fn x=true\/X.env.scope.names.lookup x=some .local:=by first|exact .inl rfl|exact .inr rfl|assumption):PG X (.Name x pos) (w8 i):=by
 intro pins s σ H v u Q I r h
 exact wpAny_assign_Name (nj I hN hi hx r (λs' I'=>⟨_,H,I',h⟩) hf)
def BO:k9:=λvs σ H Q=>vs=[]/\Q σ H
def u9 (t:TG) (u:k9):k9:=λvs σ H Q=>∃v r,vs=v::r/\t v σ H λaj H'=>u r aj H' Q
def u_:rl X [] BO:=by
 intro pins s σ H vs us Q I r h
 obtain ⟨e,h⟩:=h
 subst e
 cases r
 exact assignInOrder_nil ⟨σ,H,I,h⟩
def lg {e:Expr}{es:List Expr}{t:TG}{u:k9}(h1:PG X e t) (h2:rl X es u)
  (hs:(assignEach (e::es) X.env).map (·.2)=assign e X.env::(assignEach es X.env).map (·.2):=by rfl):rl X (e::es) (u9 t u):=by
 intro pins s σ H vs us Q I r h
 obtain ⟨v,vr,e1,h⟩:=h
 subst e1
 cases r with
 |cons r rr =>
  rw [hs]
  refine assignInOrder_cons (aX (h1 pins s σ H _ _ _ I r h) λ_ s1 ⟨az,H1,I1,q1⟩=>?_)
  exact h2 pins s1 az H1 _ _ Q I1 rr q1
def BP (K:PySem.W.Frag) (n:Nat) (t:k9):TG:=λv σ H Q=>∃a xs,v=.ref a/\bt K H a xs/\xs.length=n/\t xs σ H Q
def va {es:List Expr}{k:Nat}{t:k9}{n:Nat}(hc:X.calm=true) (h:rl X es t)
  (hn:(assignEach es X.env).length=n:=by rfl) (bx:(assignEach es X.env).findIdx? (·.1)=none:=by rfl):PG X (.Tuple es k pos) (BP X.K n t):=by
 intro pins s σ H v u Q I r hw
 obtain ⟨a,xs,e1,hq,hl,hw⟩:=hw
 subst e1
 cases r
 obtain ⟨its,rv,ht,hz⟩:=I.tuple hq
 refine assign_Tuple_tuple (I.ok.hd hc) ht (by simp [hn,<-hl,rv.length]) bx λh' hx=>?_
 have I1:Inv X pins σ H { s with heap:=h' }:=I.kept (t':=s.toks) λb o e=>hx b o (yX (yw e)) e
 exact h pins _ σ H xs _ Q I1 (by simpa using rv) hw
def Jy (to ti:TE) (t:oN):TG:=λv σ H Q=>to σ H λo H1=>ti σ H1 λi H2=>t o i v H2 λH3=>Q σ H3
def Jz {o i:Expr}{to ti:TE}{t:oN}(ho:PE X o to) (hi:PE X i ti) (hs:uG X t)
  (ha:∀v,assign (.Subscript o i pos) X.env v=(do
   let ov <-holding [v] (eval o X.env)
   let iv <-holding [v,ov] (eval i X.env)
   standAt pos
   holding [v,ov,iv] (setItem ov iv v)
   release [v,ov,iv] []):=by intro _;rfl):PG X (.Subscript o i pos) (Jy to ti t):=by
 intro pins s σ H v u Q I r h
 rw [ha]
 refine zu (hG (aX (ho pins s σ H _ I h) λov s1 ⟨x,H1,I1,r1,q1⟩=>?_))
 refine zu (hG (aX (hi pins s1 σ H1 _ I1 q1) λiv s2 ⟨y,H2,I2,r2,q2⟩=>?_))
 refine zu (wpAny_standAt (zu (hG (aX (hs pins s2 σ H2 x y v ov iv u _ I2 r1 r2 r q2) λ_ s3 ⟨H3,I3,q3⟩=>?_))))
 exact wpAny_release ⟨σ,H3,I3,q3⟩
def BR (te:TE) (g:TG):TS:=λD σ H=>te σ H λx H1=>g x σ H1 D.nx
def BS {tg e:Expr}{te:TE}{g:TG}(he:PE X e te) (hg:PG X tg g) (hs:swapsWithSole [tg] e pos.line X.env=pure false:=by rfl) (hw:swappedStores [tg] e X.env=pure none:=by rfl)
  (h1:(assignEach [tg] X.env).map (·.2)=[assign tg X.env]:=by rfl):PS X (.Assign [tg] e pos) (BR te g):=by
 intro pins s σ H D I h
 refine wpAny_Assign_stores (aX (he pins s σ H _ I h) λv s1 ⟨x,H1,I1,r1,q1⟩=>?_) hs hw
 rw [h1]
 exact aX (hg pins s1 σ H1 x v _ I1 r1 q1) λ_ s2 q=>q
def JA {i:Nat}{x:Str}{e:Expr}{te:TE}{pos':Pos}(hN:X.N.Nodup) (hi:X.N[i]?=some x) (hx:Loc X.env.scope x) (he:PE X e te) (hs:swapsWith e (some (.Name x pos')) pos.line X.env=pure false:=by rfl) (hf:X.fn x=true\/X.env.scope.names.lookup x=some .local:=by first|exact .inl rfl|exact .inr rfl|assumption) :
  PS X (.Assign [.Name x pos'] e pos) (BR te (w8 i)):=by
 intro pins s σ H D I h
 refine wpAny_Assign_Name (aX (he pins s σ H _ I h) λv s1 ⟨y,H1,I1,r1,q1⟩=>?_) hs
 exact nj I1 hN hi hx r1 (λs2 I2=>⟨_,H1,I2,q1⟩) hf
def JB (i:Nat) (te:TE) (ti:rm):TS:=λD σ H=>∃x,σ[i]?=some (some x)/\te σ H λy H1=>ti x y H1 λz H2=>D.nx (σ.set i (some z)) H2
def JC {i:Nat}{x:Str}{e:Expr}{te:TE}{op:Operator}{ti:rm}{pos':Pos}(hN:X.N.Nodup) (hi:X.N[i]?=some x) (hx:Loc X.env.scope x) (he:PE X e te) (ho:u7 X op ti) (hf:X.fn x=true\/X.env.scope.names.lookup x=some .local:=by first|exact .inl rfl|exact .inr rfl|assumption) :
  PS X (.AugAssign (.Name x pos') op e pos) (JB i te ti):=by
 intro pins s σ H D I h
 obtain ⟨v,e1,h⟩:=h
 obtain ⟨m,hn,hl⟩:=I.loc
 have JD:q9 X.env.scope x:=by rcases hx with k|k;exact .inl k;exact .inr (.inl k)
 obtain ⟨u,r,l⟩:=hl i x v hi e1 JD
 refine wpAny_AugAssign_Name ?_
 have go:wpAny (model X.prog X.w) X.A (eval e X.env) (λw af=>wpAny (model X.prog X.w) X.A (inplaceOp op u w) (λr aR=>wpAny (model X.prog X.w) X.A (storeName X.env x r) (λ_=>SP X pins D .next) X.xe aR) X.xe af) X.xe s:=by
  refine aX (he pins s σ H _ I h) λw s1 ⟨y,H1,I1,r1,q1⟩=>?_
  refine aX (ho pins s1 σ H1 v y u w _ I1 r r1 q1) λz s2 ⟨zv,H2,I2,r2,q2⟩=>?_
  exact nj I2 hN hi hx r2 (λs3 I3=>⟨_,H2,I3,q2⟩) hf
 rcases l with ⟨hk,hm⟩|⟨hk,c,hc,dO⟩
 ·exact wpAny_loadName_local I.ok.kind hk hn hm go
 ·rcases hk with hk|hk
  ·exact wpAny_loadName_cell I.ok.kind hk hc dO go
  ·rcases hx with k|k
   ·have:X.env.scope.names.lookup x=some .free:=hk
    rw [k] at this;cases this
   ·have:X.env.scope.names.lookup x=some .free:=hk
    rw [k] at this;cases this
def JE (f:Int->Int->Int):rm:=λx y H Q=>∃i j,x=.int i/\y=.int j/\Q (.int (f i j)) H
def JF:u7 X .Add (JE λi j=>i+j):=by
 intro pins s σ H x y v u Q I r1 r2 h
 obtain ⟨i,j,e1,e2,q⟩:=h
 subst e1;subst e2
 obtain ⟨t,rfl⟩:=r1
 obtain ⟨t',rfl⟩:=r2
 exact iadd_int ⟨.int _,H,I.tok _,⟨_,rfl⟩,q⟩
def JG (c:TT) (tb:TS):TS:=λD σ H=>∃W:Nat->St->Hp->Prop,(∃m,W m σ H)/\∀m σ H,W m σ H ->
 c σ H λb H1=>if b=true then ∃N:St->Hp->Prop,(∀aj H',N aj H'->∃m',m'<m/\W m' aj H')/\tb { D with nx:=N,ct:=N,bk:=D.nx } σ H1 else D.nx σ H1
def JH {c:Expr}{body:List Stmt}{tc:TT}{tb:TS}(hp:PassesOwn (model X.prog X.w) X.A X.env X.xe) (hc:PT X c tc) (hb:cq X body tb):PS X (.While c body [] pos) (JG tc tb):=by
 intro pins s σ H D I h
 obtain ⟨W,⟨m0,w0⟩,turn⟩:=h
 refine wpAny_While (codeAny_whileLoop (λn s'=>∃aj H',Inv X pins aj H' s'/\W n aj H') ?_ m0 ⟨σ,H,I,w0⟩)
 rintro n s1 ⟨az,H1,I1,w1⟩
 refine wpAny_passesOwn hp (aX (hc pins s1 az H1 _ I1 (turn n az H1 w1)) λb s2 ⟨H2,I2,q2⟩=>?_)
 cases b with
 |true =>
  obtain ⟨N,hN,q2⟩:=q2
  rw [zC rfl]
  refine wpAny_passesOwn hp (aX (hb pins s2 az H2 _ I2 q2) λf s3 q3=>?_)
  cases f with
  |next =>
   obtain ⟨aD,H3,I3,n3⟩:=q3
   obtain ⟨m',hm,w3⟩:=hN aD H3 n3
   exact ⟨m',hm,aD,H3,I3,w3⟩
  |cont =>
   obtain ⟨aD,H3,I3,n3⟩:=q3
   obtain ⟨m',hm,w3⟩:=hN aD H3 n3
   exact ⟨m',hm,aD,H3,I3,w3⟩
  |brk=>exact q3
  |ret v=>exact q3
 |false =>
  rw [zQ Bool.false_ne_true]
  exact wpAny_execs_nil ⟨az,H2,I2,q2⟩
end
structure It where
 go:Nat->Hp->Prop
 yld:Nat->Hp->V->Hp->Prop
 stop:Nat->Hp->Prop
def cP (X:Cx) (pins:Ac) (H:Hp) (b:Addr):Prop :=
 H b=none/\b≠X.env.locals/\b∉X.fs/\(b∈X.ex\/X.s₀.heap.objs.size<=b)/\(∀x c,X.env.cells.lookup x=some c->c≠b)/\∀p∈X.pn++pins,p.1≠b
def Inv.fpOk {X:Cx}{pins:Ac}{σ:St}{H H':Hp}{s:Shared}{b:Addr}(I:Inv X pins σ H s) (hb:s.heap.objs.size<=b) (hn:H' b=none):cP X pins H' b:=by
 refine ⟨hn,Nat.ne_of_gt (jx I.lt hb),I.nofs hb,.inr (jw I.sz hb),λx c e z=>?_,λp hp z=>?_⟩
 ·obtain ⟨v,q⟩:=I.cell x c e
  exact absurd (jx q.lt (by rw [z];exact hb)) (Nat.lt_irrefl _)
 ·exact absurd (jx (yw (I.pin p hp).1) (by rw [z];exact hb)) (Nat.lt_irrefl _)
structure Turn (P:Program) (w:World) (K:PySem.W.Frag) (tg:Expr) (J:It) (fp:Af) (it:Addr) (tn:Nat->Heap->Prop):Prop where
 mem:it∈fp
 obj:∀i h,tn i h->∀b∈fp,∃o,h.get? b=some o/\∀v,o.data ≠ .cell v
 keep:∀i h h',tn i h->(∀b∈fp,∀o,h.get? b=some o->h'.get? b=some o)->tn i h'
 item:∀(X:Cx),X.prog=P->X.w=w->X.K=K->X.calm=true->∀(i:Nat) (pins:Ac) (s:Shared) (σ:St) (H:Hp) (E:Aa),Inv X pins σ H s->(∀b∈fp,cP X pins H b)->tn i s.heap->J.go i H ->
  wpAny (model P w) X.A (pyNext (.ref it)) (λr s1=>∃u,r=some u /\
   wpAny (model P w) X.A (letOwnedTupleGo tg (.ref it) u) (λ_ s2=>∃x H',Inv X pins σ H' s2/\RelV x u/\J.yld i H x H'/\tn (i+1) s2.heap/\∀b∈fp,H' b=none) E s1) E s
 done:∀(X:Cx),X.prog=P->X.w=w->X.K=K->X.calm=true->∀(i:Nat) (pins:Ac) (s:Shared) (σ:St) (H:Hp) (E:Aa),Inv X pins σ H s->(∀b∈fp,cP X pins H b)->tn i s.heap->J.stop i H ->
  wpAny (model P w) X.A (pyNext (.ref it)) (λr s1=>r=none/\Inv X pins σ H s1) E s
 self:∀(A:Around) (i:Nat) (s:Shared) (Q:Aa) (E:Aa),tn i s.heap->Q (.ref it) s->wpAny (model P w) A (pyIter (.ref it)) Q E s
abbrev TI:=St->Hp->(It->Hp->Prop)->Prop
def BU (X:Cx) (pins:Ac) (σ:St) (tg:Expr) (R:It->Hp->Prop) (rp:Value) (s2:Shared):Prop :=
 ∃(it:Addr) (fp:Af) (tn:Nat->Heap->Prop) (J:It) (H':Hp),rp=.ref it/\Inv X pins σ H' s2/\Turn X.prog X.w X.K tg J fp it tn/\tn 0 s2.heap/\(∀b∈fp,cP X pins H' b)/\R J H'
def PI (X:Cx) (tg iter:Expr) (wi:TI):Prop :=
 ∀(pins:Ac) (s:Shared) (σ:St) (H:Hp) (R:It->Hp->Prop),Inv X pins σ H s->wi σ H R ->
  wpAny (model X.prog X.w) X.A (eval iter X.env) (λv s1=>wpAny (model X.prog X.w) X.A (pyIter v) (BU X pins σ tg R) X.xe s1) X.xe s
def nk {M:Model}{A:Around}{E:Aa}{s:Shared}{tg:Expr}{it:Addr}{u:Value}{o:Obj}{n:String}{vs:Array Value}{Q:Unit->Shared->Prop}(ho:s.heap.get? it=some o) (hc:o.cls=.type n) (hd:o.data=.fields vs)
  (hn:["enumerate", "zip", "dict_itemiterator", "dict_reverseitemiterator", "odict_iterator", "itertools.zip_longest", "itertools.pairwise"].contains n=false) (hQ:Q () s):wpAny M A (letOwnedTupleGo tg (.ref it) u) Q E s:=by
 unfold letOwnedTupleGo
 cases tg<;>first
  |exact ya hQ
  | (cases u<;>first
    |exact ya hQ
    | (refine zu (wpAny_load ho ?_)
       rw [hc,hd]
       show wpAny M A (if (["enumerate", "zip", "dict_itemiterator", "dict_reverseitemiterator", "odict_iterator", "itertools.zip_longest", "itertools.pairwise"].contains n&&vs[0]?==some (rawInt _))=true then _ else _) Q E s
       rw [zQ (by intro h;rw [hn,Bool.false_and] at h;cases h)]
       exact ya hQ))
def rq (K:PySem.W.Frag) (a:Addr):It :=
 ⟨λi H=>∃xs x,ba K H a xs/\xs[i]?=some x,λi H x H'=>H'=H/\∀xs,ba K H a xs->xs[i]?=some x,λi H=>∃xs,ba K H a xs/\xs.length<=i⟩
def nu (K:PySem.W.Frag) (a:Addr):It :=
 ⟨λi H=>∃xs x,bt K H a xs/\xs[i]?=some x,λi H x H'=>H'=H/\∀xs,bt K H a xs->xs[i]?=some x,λi H=>∃xs,bt K H a xs/\xs.length<=i⟩
def rA (lo:Int) (n:Nat):It:=⟨λi _=>i<n,λi H x H'=>H'=H/\x=.int (lo+i),λi _=>n<=i⟩
def JI {P:Program}{w:World}{K:PySem.W.Frag}{tg:Expr}(a it:Addr):Turn P w K tg (rq K a) [it] it (λi h=>h.IsListIter it a i) where
 mem:=by simp
 obj:=λi h st b hb=>by
  have e:b=it:=by simpa using hb
  subst e
  obtain ⟨o,e,c,d⟩:=st
  exact ⟨o,e,λv z=>by rw [d] at z;cases z⟩
 keep:=λi h h' st k=>st.at λo e=>k it (by simp) o e
 item:=by
  intro X hP hw hK hc i pins s σ H E I hf st hg
  subst hP hw hK
  obtain ⟨xs,x,hq,hx⟩:=hg
  obtain ⟨its,rv,p,hz⟩:=I.list hq
  obtain ⟨u,hu,ru⟩:=rv.get hx
  obtain ⟨f0,f1,f2,f3,f4,f5⟩:=hf it (by simp)
  refine wpAny_pyNext_list_item st p.isList (x:=u) (by simpa using hu) λh' a5 sb=>?_
  have I1:Inv X pins σ H { s with heap:=h' }:=I.turned (t':=s.toks) (λb o hb e=>(sb.2 b hb).trans e) f0 f1 f3 f4 f5
  obtain ⟨o,e,c,d⟩:=id a5
  exact ⟨u,rfl,nk (s:={ s with heap:=h' }) e c d (by decide) ⟨x,H,I1,ru,⟨rfl,λys hy=>by rw [I.list_inj hy hq];exact hx⟩,a5,λb hb=>(hf b hb).1⟩⟩
 done:=by
  intro X hP hw hK hc i pins s σ H E I hf st hg
  subst hP hw hK
  obtain ⟨xs,hq,hx⟩:=hg
  obtain ⟨its,rv,p,hz⟩:=I.list hq
  obtain ⟨f0,f1,f2,f3,f4,f5⟩:=hf it (by simp)
  have hl:=rv.length
  exact wpAny_pyNext_list_end (I.ok.hd hc) st p.isList (by simp;omega) λh' eb=>⟨rfl,I.turned (t':=s.toks) (λb o hb e=>eb b o hb e) f0 f1 f3 f4 f5⟩
 self:=λ_ _ _ _ _ st h=>wpAny_pyIter_listiter st h
def JJ {P:Program}{w:World}{K:PySem.W.Frag}{tg:Expr}(a it:Addr):Turn P w K tg (nu K a) [it] it (λi h=>h.IsTupleIter it a i) where
 mem:=by simp
 obj:=λi h st b hb=>by
  have e:b=it:=by simpa using hb
  subst e
  obtain ⟨o,e,c,d⟩:=st
  exact ⟨o,e,λv z=>by rw [d] at z;cases z⟩
 keep:=λi h h' st k=>st.at λo e=>k it (by simp) o e
 item:=by
  intro X hP hw hK hc i pins s σ H E I hf st hg
  subst hP hw hK
  obtain ⟨xs,x,hq,hx⟩:=hg
  obtain ⟨its,rv,p,hz⟩:=I.tuple hq
  obtain ⟨u,hu,ru⟩:=rv.get hx
  obtain ⟨f0,f1,f2,f3,f4,f5⟩:=hf it (by simp)
  refine wpAny_pyNext_tuple_item st (show s.heap.IsTuple a its.toArray from p) (x:=u) (by simpa using hu) λh' a5 sb=>?_
  have I1:Inv X pins σ H { s with heap:=h' }:=I.turned (t':=s.toks) (λb o hb e=>(sb.2 b hb).trans e) f0 f1 f3 f4 f5
  obtain ⟨o,e,c,d⟩:=id a5
  exact ⟨u,rfl,nk (s:={ s with heap:=h' }) e c d (by decide) ⟨x,H,I1,ru,⟨rfl,λys hy=>by rw [I.tuple_inj hy hq];exact hx⟩,a5,λb hb=>(hf b hb).1⟩⟩
 done:=by
  intro X hP hw hK hc i pins s σ H E I hf st hg
  subst hP hw hK
  obtain ⟨xs,hq,hx⟩:=hg
  obtain ⟨its,rv,p,hz⟩:=I.tuple hq
  obtain ⟨f0,f1,f2,f3,f4,f5⟩:=hf it (by simp)
  have hl:=rv.length
  exact wpAny_pyNext_tuple_end (I.ok.hd hc) st (show s.heap.IsTuple a its.toArray from p) (by simp;omega) λh' eb=>⟨rfl,I.turned (t':=s.toks) (λb o hb e=>eb b o hb e) f0 f1 f3 f4 f5⟩
 self:=λ_ _ _ _ _ st h=>wpAny_pyIter_tupleiter st h
def JK {P:Program}{w:World}{K:PySem.W.Frag}{tg:Expr}(it:Addr) (lo:Int) (n:Nat):Turn P w K tg (rA lo n) [it] it (λi h=>IsRangeIter h it (lo+(i:Nat)*1) ((n:Int)-(i:Nat)) 1) where
 mem:=by simp
 obj:=λi h st b hb=>by
  have e:b=it:=by simpa using hb
  subst e
  exact ⟨_,st,λv z=>by
   have z':Data.fields _=Data.cell v:=z
   cases z'⟩
 keep:=λi h h' st k=>k it (by simp) _ st
 item:=by
  intro X hP hw hK hc i pins s σ H E I hf st hg
  subst hP hw hK
  obtain ⟨f0,f1,f2,f3,f4,f5⟩:=hf it (by simp)
  have W:=Walks.range (prog:=X.prog) (w:=X.w) (I.ok.hd hc) it lo 1 n
  refine W.item i s _ _ hg st λv h' tk hv a5 kk=>?_
  obtain ⟨t,rfl⟩:=hv
  have I1:Inv X pins σ H { s with heap:=h',toks:=tk }:=I.turned (λb o hb e=>kk b o (by simpa using hb) e) f0 f1 f3 f4 f5
  refine ⟨_,rfl,nk (s:={ s with heap:=h',toks:=tk }) (n := "range_iterator") a5 rfl rfl (by decide) ⟨.int (lo+i),H,I1,⟨t,?_⟩,⟨rfl,rfl⟩,a5,λb hb=>(hf b hb).1⟩⟩
  rw [Int.mul_one]
 done:=by
  intro X hP hw hK hc i pins s σ H E I hf st hg
  subst hP hw hK
  obtain ⟨f0,f1,f2,f3,f4,f5⟩:=hf it (by simp)
  exact wpAny_pyNext_range_end (I.ok.hd hc) st (by have:n<=i:=hg;omega) λh' eb=>⟨rfl,I.turned (t':=s.toks) (λb o hb e=>eb b o hb e) f0 f1 f3 f4 f5⟩
 self:=λ_ _ _ _ _ st h=>wpAny_pyIter_rangeiter st h
section
variable {X:Cx} {tg:Expr}
def JL {pins:Ac}{σ:St}{H:Hp}{s:Shared}{R:It->Hp->Prop}{E:Aa}{lo hi:Int}{t u v:Tok}{tk:Nat}(I:Inv X pins σ H s) (h1 : -(2 ^ 62)<=lo) (h2:lo<2 ^ 62) (h3 : -(2 ^ 62)<=hi) (h4:hi<2 ^ 62)
  (q:R (rA lo (hi-lo).toNat) H):wpAny (model X.prog X.w) X.A (pyIter (.ref s.heap.objs.size)) (BU X pins σ tg R) E { s with heap:=s.heap.push { cls:=.type "range", data:=.fields #[.int lo t,.int hi u,.int 1 v] },toks:=tk }:=by
 refine wpAny_pyIter_range (IsRange.new ..) (small_one h1 h2 h3 h4) ?_
 have I1:Inv X pins σ H { s with heap:=s.heap.push { cls:=.type "range", data:=.fields #[.int lo t,.int hi u,.int 1 v] },toks:=tk }:=I.kept λb o e=>yl _ e
 refine ⟨(s.heap.push { cls:=.type "range", data:=.fields #[.int lo t,.int hi u,.int 1 v] }).objs.size,[(s.heap.push { cls:=.type "range", data:=.fields #[.int lo t,.int hi u,.int 1 v] }).objs.size],_,_,H,rfl,
  I1.kept (t':=tk) λb o e=>yl _ e,JK _ lo (hi-lo).toNat,?_,λb hb=>?_,q⟩
 ·have e1:lo+((0:Nat):Int)*1=lo:=by simp
  have e2:(((hi-lo).toNat:Nat):Int)-((0:Nat):Int)=Builtin.Range.rangeSize lo hi 1:=by rw [rangeSize_one];split<;>omega
  show IsRangeIter _ _ (lo+((0:Nat):Int)*1) ((((hi-lo).toNat:Nat):Int)-((0:Nat):Int)) 1
  rw [e1,e2]
  exact yP _ rfl
 ·have e:b=(s.heap.push { cls:=.type "range", data:=.fields #[.int lo t,.int hi u,.int 1 v] }).objs.size:=by simpa using hb
  subst e
  exact I1.fpOk (zM _) (I1.hok.fresh (zM _))
def cf (ta:TA):TI:=fun σ H R=>ta σ H λvs H1=>∃j:Int,vs=[.int j] /\ -(2 ^ 62)<=j/\j<2 ^ 62/\R (rA 0 j.toNat) H1
def JM {a:Expr} {ta:TA} {p pos:Pos} (hg:Gl X "range") (hm:X.mg "range" = none) (ha:PA X [a] ta) (hs:starEach [a] X.env=[(false,eval a X.env)]:=by rfl):PI X tg (.Call (.Name "range" p) [a] [] pos) (cf ta):=by
 intro pins s σ H R I h
 refine Call_ (gF I hg hm boot_range (PyProof.Rows.callWith_type1 (aX (ha pos pins s σ H _ I h) λus s1 ⟨vs,H1,I1,r1,q1⟩=>?_) hs rfl))
 obtain ⟨j,e,q1,q2,q⟩:=q1
 subst e
 cases r1 with
 |cons r rr =>
  cases rr
  obtain ⟨t,rfl⟩:=r
  exact call_range_1 (JL I1 (by omega) (by omega) q1 q2 (by simpa using q))
def JO (wi:TI) (g:TG) (tb:TS):TS:=λD σ H=>wi σ H λJ H1=>∃W:Nat->Nat->St->Hp->Prop,(∃m,W 0 m σ H1)/\∀i m σ H,W i m σ H ->
 (J.stop i H/\D.nx σ H)\/(J.go i H/\∃N:St->Hp->Prop,(∀aj H',N aj H'->∃m',m'<m/\W (i+1) m' aj H')/\∀x H',J.yld i H x H'->g x σ H' λaI H2=>tb { D with nx:=N,ct:=N,bk:=D.nx } aI H2)
def fO (fp:Af) (h:Heap):Ac:=fp.filterMap λb=>(h.get? b).map λo=>(b,o)
def oO {fp:Af}{h:Heap}{b:Addr}{o:Obj}(hb:b∈fp) (e:h.get? b=some o):(b,o)∈fO fp h:=List.mem_filterMap.mpr ⟨b,hb,by rw [e];rfl⟩
def JP {fp:Af}{h:Heap}{p:Addr×Obj}(hp:p∈fO fp h):p.1∈fp/\h.get? p.1=some p.2:=by
 obtain ⟨b,hb,e⟩:=List.mem_filterMap.mp hp
 cases q:h.get? b with
 |none=>rw [q] at e;cases e
 |some o =>
  rw [q] at e
  have e':(b,o)=p:=Option.some.inj e
  subst e'
  exact ⟨hb,q⟩
def Inv.pinned {pins:Ac}{σ:St}{H:Hp}{s:Shared}{fp:Af}(I:Inv X pins σ H s) (hf:∀b∈fp,cP X pins H b) (ho:∀b∈fp,∃o,s.heap.get? b=some o/\∀v,o.data ≠ .cell v):Inv X (pins++fO fp s.heap) σ H s :=
 I.pins_of λp hp=>(jy.mp hp).elim (λz=>I.pin p (y0 _ z)) λz=>by
  obtain ⟨hb,e⟩:=JP z
  obtain ⟨f0,f1,f2,_⟩:=hf p.1 hb
  obtain ⟨o,e',d⟩:=ho p.1 hb
  rw [e] at e';cases e'
  exact ⟨e,f0,f1,f2,d⟩
def Inv.unpinned {pins pl:Ac}{σ:St}{H:Hp}{s:Shared}(I:Inv X (pins++pl) σ H s):Inv X pins σ H s:=I.pins_of λp hp=>I.pin p (y0 _ (hV _ hp))
def oP {iter:Expr}{body:List Stmt}{wi:TI}{g:TG}{tb:TS}{pos:Pos}(hp:PassesOwn (model X.prog X.w) X.A X.env X.xe) (hc:X.calm=true) (hi:PI X tg iter wi) (hg:PG X tg g) (hb:cq X body tb)
  (hs:∀x,foldedSetIterable iter X.env x=pure x:=by intro _;rfl):PS X (.For tg iter body [] pos) (JO wi g tb):=by
 intro pins s σ H D I h
 refine wpAny_For (aX (hi pins s σ H _ I h) λv s1 h1=>aX h1 λrp s2 h2=>?_) hs
 obtain ⟨it,fp,tn,J,H2,e,I2,T,aG,f2,W,⟨m0,w0⟩,turn⟩:=h2
 subst e
 have stat:∀{H':Hp},(∀b∈fp,H' b=none)->∀b∈fp,cP X pins H' b:=λhn b hb=>⟨hn b hb,(f2 b hb).2⟩
 refine codeAny_forLoop_any (λn s'=>∃i aj H',Inv X pins aj H' s'/\tn i s'.heap/\(∀b∈fp,H' b=none)/\W i n aj H') ?_ m0 ⟨0,σ,H2,I2,aG,λb hb=>(f2 b hb).1,w0⟩
 rintro n s3 ⟨i,aD,H3,I3,a8,kj,w3⟩
 rcases turn i n aD H3 w3 with ⟨stop,qn⟩|⟨go,N,hN,step⟩
 ·refine wpAny_passesOwn hp (aX (T.done X rfl rfl rfl hc i pins s3 aD H3 X.xe I3 (stat kj) a8 stop) λr s4 ⟨hr,I4⟩=>?_)
  subst hr
  exact wpAny_execs_nil ⟨aD,H3,I4,qn⟩
 ·refine wpAny_passesOwn hp (aX (T.item X rfl rfl rfl hc i pins s3 aD H3 X.xe I3 (stat kj) a8 go) λr s4 ⟨u,hr,h4⟩=>?_)
  subst hr
  refine wpAny_passesOwn hp (aX h4 λ_ s5 ⟨x,H5,I5,r5,y5,fy,oQ⟩=>?_)
  have oR:=I5.pinned (stat oQ) (T.obj _ _ fy)
  refine wpAny_passesOwn hp (aX (hg _ s5 aD H5 x u _ oR r5 (step x H5 y5)) λ_ s6 ⟨aM,H6,I6,q6⟩=>?_)
  refine wpAny_passesOwn hp (aX (hb _ s6 aM H6 _ I6 q6) λf s7 q7=>?_)
  have again:∀{aB:St} {H7:Hp},Inv X (pins++fO fp s5.heap) aB H7 s7->N aB H7->∃m,m<n/\∃i aj H',Inv X pins aj H' s7/\tn i s7.heap/\(∀b∈fp,H' b=none)/\W i m aj H':=λ{aB H7} I7 n7=>by
   obtain ⟨m',hm,w7⟩:=hN aB H7 n7
   refine ⟨m',hm,i+1,aB,H7,I7.unpinned,T.keep _ _ _ fy λb hb o e=>(I7.pin (b,o) (y0 _ (y0 _ (oO hb e)))).1,λb hb=>?_,w7⟩
   obtain ⟨o,e,d⟩:=T.obj _ _ fy b hb
   exact (I7.pin (b,o) (y0 _ (y0 _ (oO hb e)))).2.1
  cases f with
  |next=>obtain ⟨aB,H7,I7,n7⟩:=q7;exact again I7 n7
  |cont=>obtain ⟨aB,H7,I7,n7⟩:=q7;exact again I7 n7
  |brk=>obtain ⟨aB,H7,I7,q7⟩:=q7;exact ⟨aB,H7,I7.unpinned,q7⟩
  |ret v=>obtain ⟨x7,aB,H7,I7,r7,q7⟩:=q7;exact ⟨x7,aB,H7,I7.unpinned,r7,q7⟩
end
def di {K:PySem.W.Frag}{a:Addr}{xs:List V}{g:TG}{tb:TS}{D:Ends}{σ:St}{H:Hp}(Pv:Nat->St->Hp->Prop) (h0:Pv 0 σ H) (hl:∀i σ H,i<=xs.length->Pv i σ H->bt K H a xs)
  (hs:∀i x σ H,xs[i]?=some x->Pv i σ H->g x σ H λaI H2=>tb { D with nx:=Pv (i+1),ct:=Pv (i+1),bk:=D.nx } aI H2) (hd:∀σ H,Pv xs.length σ H->D.nx σ H) :
  ∃W:Nat->Nat->St->Hp->Prop,(∃m,W 0 m σ H)/\∀i m σ H,W i m σ H ->
   ((nu K a).stop i H/\D.nx σ H)\/((nu K a).go i H/\∃N:St->Hp->Prop,(∀aj H',N aj H'->∃m',m'<m/\W (i+1) m' aj H')/\∀x H',(nu K a).yld i H x H'->g x σ H' λaI H2=>tb { D with nx:=N,ct:=N,bk:=D.nx } aI H2):=by
 refine ⟨λi m σ H=>m=xs.length-i/\i<=xs.length/\Pv i σ H,⟨xs.length,by simp,jK _,h0⟩,?_⟩
 rintro i m σ H ⟨rfl,hi,p⟩
 have q:=hl i σ H hi p
 by_cases bf:i<xs.length
 ·refine .inr ⟨⟨xs,xs[i],q,by simp [bf]⟩,Pv (i+1),λaj H' p'=>⟨xs.length-(i+1),by omega,rfl,bf,p'⟩,λx H' y=>?_⟩
  obtain ⟨e,y⟩:=y
  subst e
  exact hs i x σ _ (y xs q) p
 ·have e:i=xs.length:=by omega
  subst e
  exact .inl ⟨⟨xs,q,zM _⟩,hd σ H p⟩
abbrev R2:=V->V->Hp->VK->Prop
def bI (X:Cx) (f:Value->Value->Sem Value) (r:R2):Prop :=
 ∀(pins:Ac) (s:Shared) (σ:St) (H:Hp) (x y:V) (v u:Value) (Q:VK),Inv X pins σ H s->RelV x v->RelV y u->r x y H Q ->
  wpAny (model X.prog X.w) X.A (f v u) (EP X pins σ Q) X.xe s
def oU (X:Cx) (f:Value->Sem Value) (r:V->Hp->VK->Prop):Prop :=
 ∀(pins:Ac) (s:Shared) (σ:St) (H:Hp) (x:V) (v:Value) (Q:VK),Inv X pins σ H s->RelV x v->r x H Q ->
  wpAny (model X.prog X.w) X.A (f v) (EP X pins σ Q) X.xe s
def bV (X:Cx) (f:Value) (r:List V->Hp->VK->Prop):Prop :=
 ∀(pins:Ac) (s:Shared) (σ:St) (H:Hp) (xs:List V) (us:Ah) (Q:VK),Inv X pins σ H s->Vals xs us->r xs H Q ->
  wpAny (model X.prog X.w) X.A (call f us) (EP X pins σ Q) X.xe s
def oV (r:R2) (ta tb:TE):TE:=fun σ H Q=>ta σ H λx H1=>tb σ H1 λy H2=>r x y H2 Q
def JQ (r:V->Hp->VK->Prop) (ta:TE):TE:=fun σ H Q=>ta σ H λx H1=>r x H1 Q
def rI (C:Int->Int->Prop) (g:Int->Int->V):R2:=λx y H Q=>∃i j,x=.int i/\y=.int j/\C i j/\Q (g i j) H
def km (g:Int->Int->V):R2:=λx y H Q=>∃i j,x=.int i/\y=.int j/\Q (g i j) H
def rU (g:Int->V):V->Hp->VK->Prop:=λx H Q=>∃i,x=.int i/\Q (g i) H
section
variable {X:Cx} {a b:Expr} {ta tb:TE} {pos:Pos}
def oW (ha:PE X a ta) (hb:PE X b tb) {pins:Ac}{s:Shared}{σ:St}{H:Hp}{R:V->V->Hp->Prop}(I:Inv X pins σ H s)
  (h:ta σ H λx H1=>tb σ H1 λy H2=>R x y H2) {Q:Aa} {f:Value->Value->Sem Value}
  (hf:∀v u s2 x y H2,Inv X pins σ H2 s2->RelV x v->RelV y u->R x y H2->wpAny (model X.prog X.w) X.A (f v u) Q X.xe s2) :
  wpAny (model X.prog X.w) X.A (eval a X.env) (λv am=>wpAny (model X.prog X.w) X.A (eval b X.env) (λu af=>wpAny (model X.prog X.w) X.A (f v u) Q X.xe af) X.xe am) X.xe s:=by
 refine aX (ha pins s σ H _ I h) λv s1 ⟨x,H1,I1,r1,q1⟩=>?_
 refine aX (hb pins s1 σ H1 _ I1 q1) λu s2 ⟨y,H2,I2,r2,q2⟩=>?_
 exact hf v u s2 x y H2 I2 r1 r2 q2
def JR {op:Operator}{r:R2}(ho:bI X (binaryOp op) r) (ha:PE X a ta) (hb:PE X b tb):PE X (.BinOp a op b pos) (oV r ta tb):=by
 intro pins s σ H Q I h
 exact wpAny_BinOp (oW ha hb I h λv u s2 x y H2 I2 rx ry q=>ho pins s2 σ H2 x y v u Q I2 rx ry q)
def JS {op:UnaryOp}{r:V->Hp->VK->Prop}(ho:oU X (unaryOp op) r) (ha:PE X a ta):PE X (.UnaryOp op a pos) (JQ r ta):=by
 intro pins s σ H Q I h
 exact UnaryOp_ (aX (ha pins s σ H _ I h) λv s1 ⟨x,H1,I1,r1,q1⟩=>ho pins s1 σ H1 x v Q I1 r1 q1)
def opI {f:Value->Value->Sem Value}{C:Int->Int->Prop}{g:Int->Int->Int}
  (rule:∀(i j:Int) (t u:Tok) (s:Shared) (Q:Aa) (E:Aa),C i j->Q (.int (g i j) s.toks) { s with toks:=s.toks+1 }->wpAny (model X.prog X.w) X.A (f (.int i t) (.int j u)) Q E s) :
  bI X f (rI C λi j=>.int (g i j)):=by
 intro pins s σ H x y v u Q I rx ry h
 obtain ⟨i,j,rfl,rfl,hc,q⟩:=h
 obtain ⟨t,rfl⟩:=rx
 obtain ⟨t',rfl⟩:=ry
 exact rule i j t t' s _ _ hc ⟨.int (g i j),H,I.tok _,⟨_,rfl⟩,q⟩
def BV {f:Value->Value->Sem Value}{g:Int->Int->Int}
  (rule:∀(i j:Int) (t u:Tok) (s:Shared) (Q:Aa) (E:Aa),Q (.int (g i j) s.toks) { s with toks:=s.toks+1 }->wpAny (model X.prog X.w) X.A (f (.int i t) (.int j u)) Q E s) :
  bI X f (km λi j=>.int (g i j)):=by
 intro pins s σ H x y v u Q I rx ry h
 obtain ⟨i,j,rfl,rfl,q⟩:=h
 obtain ⟨t,rfl⟩:=rx
 obtain ⟨t',rfl⟩:=ry
 exact rule i j t t' s _ _ ⟨.int (g i j),H,I.tok _,⟨_,rfl⟩,q⟩
def BW {f:Value->Value->Sem Value}{g:Int->Int->Bool}
  (rule:∀(i j:Int) (t u:Tok) (s:Shared) (Q:Aa) (E:Aa),Q (.bool (g i j)) s->wpAny (model X.prog X.w) X.A (f (.int i t) (.int j u)) Q E s) :
  bI X f (km λi j=>.bl (g i j)):=by
 intro pins s σ H x y v u Q I rx ry h
 obtain ⟨i,j,rfl,rfl,q⟩:=h
 obtain ⟨t,rfl⟩:=rx
 obtain ⟨t',rfl⟩:=ry
 exact rule i j t t' s _ _ ⟨.bl (g i j),H,I,rfl,q⟩
def BX (i j:Int):Prop:=0<=j/\j<=1000000/\i.natAbs<2 ^ 64
def mU (i j:Int):Prop:=(-(2 ^ 64)<i/\i<2 ^ 64)\/(-(2 ^ 64)<j/\j<2 ^ 64)
def mU.ok {i j:Int}(h:mU i j):IntMulOk i j:=by
 rcases h with ⟨h1,h2⟩|⟨h1,h2⟩
 ·exact .of_left (intBits_le_64 h1 h2)
 ·exact .of_right (intBits_le_64 h1 h2)
def JT:bI X (binaryOp .Add) (km λi j=>.int (i+j)):=BV λ_ _ _ _ _ _ _ q=>add_int q
def JU:bI X (binaryOp .Sub) (km λi j=>.int (i-j)):=BV λ_ _ _ _ _ _ _ q=>sub_int q
def JV:bI X (binaryOp .Mult) (rI mU λi j=>.int (i*j)):=opI λ_ _ _ _ _ _ _ hc q=>mul_int q hc.ok
def JW:bI X (binaryOp .Mod) (rI (λ_ j=>j≠0) λi j=>.int (i.fmod j)):=opI λ_ _ _ _ _ _ _ hc q=>mod_int' hc q
def JX:bI X (binaryOp .Pow) (rI BX λi j=>.int (i ^ j.toNat)):=opI λ_ _ _ _ _ _ _ hc q=>pow_int_small hc.1 hc.2.1 hc.2.2 q
def JY {f:Value->Sem Value}{g:Int->Int}
  (rule:∀(i:Int) (t:Tok) (s:Shared) (Q:Aa) (E:Aa),Q (.int (g i) s.toks) { s with toks:=s.toks+1 }->wpAny (model X.prog X.w) X.A (f (.int i t)) Q E s) :
  oU X f (rU λi=>.int (g i)):=by
 intro pins s σ H x v Q I rx h
 obtain ⟨i,rfl,q⟩:=h
 obtain ⟨t,rfl⟩:=rx
 exact rule i t s _ _ ⟨.int (g i),H,I.tok _,⟨_,rfl⟩,q⟩
def JZ:oU X (unaryOp .USub) (rU λi=>.int (-i)):=JY λ_ _ _ _ _ q=>neg_int q
def vb {pins:Ac}{σ:St}{H:Hp}{s:Shared}{Q:VK}{k k':Bool}(I:Inv X pins σ H s) (q:Q (.bl k) H) (e:k=k'):EP X pins σ Q (.bool k') s:=by
 subst e
 exact ⟨.bl k,H,I,rfl,q⟩
def J3:bI X (compareOp .Lt) (km λi j=>.bl (decide (i<j))):=BW λ_ _ _ _ _ _ _ q=>lt_int q
def J4:bI X (compareOp .Gt) (km λi j=>.bl (decide (j<i))):=BW λ_ _ _ _ _ _ _ q=>gt_int q
def J5:bI X (compareOp .In) (λx y H Q=>∃i j,x=.str i/\y=.str j/\Q (.bl (!(Builtin.Str.occurrences j i 0 j.length 1).isEmpty)) H):=by
 intro pins s σ H x y v u Q I rx ry h
 obtain ⟨i,j,rfl,rfl,q⟩:=h
 obtain ⟨t,rfl⟩:=rx
 obtain ⟨t',rfl⟩:=ry
 exact in_str (vb I q rfl)
def J6:bI X (compareOp .Is) (λx y H Q=>y=.non/\Q (.bl (decide (x=.non))) H):=by
 intro pins s σ H x y v u Q I rx ry h
 obtain ⟨rfl,q⟩:=h
 cases ry
 refine is_none_gen (vb I q ?_)
 cases x<;>first
  | (cases rx;rfl)
  | (obtain ⟨t,rfl⟩:=rx;rfl)
def J7:bI X (compareOp .IsNot) (λx y H Q=>y=.non/\Q (.bl (!decide (x=.non))) H):=by
 intro pins s σ H x y v u Q I rx ry h
 obtain ⟨rfl,q⟩:=h
 cases ry
 refine isnot_none_gen (vb I q ?_)
 cases x<;>first
  | (cases rx;rfl)
  | (obtain ⟨t,rfl⟩:=rx;rfl)
def bI.or {f:Value->Value->Sem Value}{r r':R2}(h:bI X f r) (h':bI X f r'):bI X f (λx y H Q=>r x y H Q\/r' x y H Q):=by
 intro pins s σ H x y v u Q I rx ry q
 rcases q with q|q
 ·exact h pins s σ H x y v u Q I rx ry q
 ·exact h' pins s σ H x y v u Q I rx ry q
def mV (b:Expr) {op:CmpOp}(h:op ≠ .In:=by decide) (h2:op ≠ .NotIn:=by decide):behindInMarks op b=false:=by
 have e1:(op==CmpOp.In)=false:=by cases op<;>first|rfl|exact absurd rfl h
 have e2:(op==CmpOp.NotIn)=false:=by cases op<;>first|rfl|exact absurd rfl h2
 cases b<;>simp [behindInMarks,e1,e2]
def J8 {op:CmpOp}{r:R2}(ho:bI X (compareOp op) r) (ha:PE X a ta) (hb:PE X b tb) (hm:behindInMarks op b=false):PE X (.Compare a [op] [b] pos) (oV r ta tb):=by
 intro pins s σ H Q I h
 exact wpAny_Compare1 (oW ha hb I h λv u s2 x y H2 I2 rx ry q=>ho pins s2 σ H2 x y v u Q I2 rx ry q) hm
def J9 (t:TE):TT:=fun σ H Q=>t σ H λx H'=>∃k,x=.bl k/\Q k H'
def BZ {op:CmpOp}{r:R2}(ho:bI X (compareOp op) r) (ha:PE X a ta) (hb:PE X b tb) (hm:behindInMarks op b=false):PT X (.Compare a [op] [b] pos) (J9 (oV r ta tb)):=by
 intro pins s σ H Q I h
 refine wpAny_isTrue_Compare1 (aX (ha pins s σ H _ I h) λv s1 ⟨x,H1,I1,r1,q1⟩=>aX (hb pins s1 σ H1 _ I1 q1) λu s2 ⟨y,H2,I2,r2,q2⟩ =>
  aX (ho pins s2 σ H2 x y v u _ I2 r1 r2 q2) λc s3 ⟨z,H3,I3,r3,k,e,q3⟩=>?_) hm
 subst e
 cases r3
 exact oI ⟨H3,I3,q3⟩
def oX:(sizeLine:Nat)<2 ^ 63:=by rw [sizeLine_eq];decide
def J_:bI X (binaryOp .Add) (λx y H Q=>∃i j,x=.str i/\y=.str j/\i.length+j.length<=sizeLine/\Q (.str (i++j)) H):=by
 intro pins s σ H x y v u Q I rx ry h
 obtain ⟨i,j,rfl,rfl,hz,q⟩:=h
 obtain ⟨t,rfl⟩:=rx
 obtain ⟨t',rfl⟩:=ry
 exact add_str (λt' tk=>⟨.str (i++j),H,I.tok _,⟨_,rfl⟩,q⟩) hz
def ic {x:V}{us:Ah}(r:Vals [x] us):∃u,us=[u]/\RelV x u:=by
 cases r with
 |cons r1 r2=>cases r2;exact ⟨_,rfl,r1⟩
def vc {x y:V}{us:Ah}(r:Vals [x,y] us):∃u w',us=[u,w']/\RelV x u/\RelV y w':=by
 cases r with
 |cons r1 r2 =>
  cases r2 with
  |cons r3 r4=>cases r4;exact ⟨_,_,rfl,r1,r3⟩
def Ka (hc:X.calm=true):bV X (.builtin "max") (λxs H Q=>∃i j,xs=[.int i,.int j]/\Q (.int (if j>i then j else i)) H):=by
 intro pins s σ H xs us Q I r h
 obtain ⟨i,j,rfl,q⟩:=h
 obtain ⟨u,w',rfl,⟨t,rfl⟩,⟨t',rfl⟩⟩:=vc r
 refine max_two_ints (I.ok.hd hc) λh' tk k=>⟨_,H,I.kept k,?_,q⟩
 by_cases hj:j>i
 ·rw [zC hj,zC hj];exact ⟨_,rfl⟩
 ·rw [zQ hj,zQ hj];exact ⟨_,rfl⟩
def Kb:bV X (.type "str") (λxs H Q=>∃i,xs=[.int i]/\i.natAbs.log2<1920/\Q (.str (toString i)) H):=by
 intro pins s σ H xs us Q I r h
 obtain ⟨i,rfl,hz,q⟩:=h
 obtain ⟨u,rfl,t,rfl⟩:=ic r
 exact PySem.P.str_of_int hz ⟨.str _,H,I.tok _,⟨_,rfl⟩,q⟩
def B0 (K:PySem.W.Frag) (x:V) (H:Hp) (n:Nat):Prop :=
 match x with
 |.str y=>y.length<=sizeLine/\n=y.length
 |.byt y=>y.size<=sizeLine/\n=y.size
 |.ref p=>(∃xs,ba K H p xs/\n=xs.length)\/∃xs,bt K H p xs/\n=xs.length
 |_=>False
def Kc:bV X (.builtin "len") (λxs H Q=>∃x n,xs=[x]/\B0 X.K x H n/\Q (.int n) H):=by
 intro pins s σ H xs us Q I r h
 obtain ⟨x,n,rfl,e,q⟩:=h
 obtain ⟨u,rfl,rx⟩:=ic r
 have hl:=oX
 have hs:sizeLine=16777216:=sizeLine_eq
 cases x with
 |str y =>
  obtain ⟨t,rfl⟩:=rx
  obtain ⟨hy,e'⟩:y.length<=sizeLine/\n=y.length:=e
  subst e'
  exact len_str (by omega) ⟨.int _,H,I.tok _,⟨_,rfl⟩,q⟩
 |byt y =>
  obtain ⟨t,rfl⟩:=rx
  obtain ⟨hy,e'⟩:y.size<=sizeLine/\n=y.size:=e
  subst e'
  exact PySem.W.len_bytes (by omega) ⟨.int _,H,I.tok _,⟨_,rfl⟩,q⟩
 |ref p =>
  cases rx
  have e':(∃xs,ba X.K H p xs/\n=xs.length)\/∃xs,bt X.K H p xs/\n=xs.length:=e
  rcases e' with ⟨xs,hx,e'⟩|⟨xs,hx,e'⟩
  ·subst e'
   obtain ⟨its,r',pl,hz⟩:=I.list hx
   have hlen:=r'.length
   exact Calls.call_len_list pl.isList (by simp only [yT];omega) ⟨.int xs.length,H,I.tok _,⟨_,by simp only [yT];rw [hlen]⟩,q⟩
  ·subst e'
   obtain ⟨its,r',pl,hz⟩:=I.tuple hx
   have hlen:=r'.length
   exact len_tuple pl (by simp only [yT];omega) ⟨.int xs.length,H,I.tok _,⟨_,by simp only [yT];rw [hlen]⟩,q⟩
 |_=>exact (show False from e).elim
end
structure fU (h:Heap) (x dx C:Addr) (mA:Ab):Prop where
 obj:h.get? x=some (PySem.W.instObj C dx)
 ns:h.Ns1 dx mA
 ne:dx≠x
def B1 {h:Heap}{dx:Addr}{mA:Ab}(n:h.Ns1 dx mA):∃od,h.get? dx=some od/\∀name,PySem.W.lookIn name od=some (mA name):=by
 obtain ⟨o,es,ep,ho,hd,hk,_,hm⟩:=n
 refine ⟨o,ho,λname=>?_⟩
 have e:=hm name
 unfold nsFind findBy at e
 rw [<-Array.find?_toList] at e
 unfold PySem.W.lookIn
 rw [hd]
 dsimp only
 split
 ·rename_i y q
  rw [q] at e
  exact congrArg some e
 ·rename_i q
  rw [q] at e
  have a:es.toList.any (·.refKey)=false:=by
   rw [List.any_eq_false]
   intro y hy
   obtain ⟨z,t,oY⟩:=hk y (Array.mem_toList_iff.mp hy)
   simp [DictEntry.refKey,oY]
  have a':¬es.toList.any (·.refKey)=true:=by rw [a];exact Bool.false_ne_true
  rw [zQ a']
  exact congrArg some e
def fU.look {h:Heap}{x dx C:Addr}{mA:Ab}(I:fU h x dx C mA):∃od,PySem.W.InstAt h x (PySem.W.instObj C dx) C (some od)/\∀name,PySem.W.lookIn name od=some (mA name) :=
 let ⟨od,ho,hl⟩:=B1 I.ns
 ⟨od,⟨I.obj,rfl,rfl,ho⟩,hl⟩
section
variable {prog:Program} {w:World} {A:Around} {E:Aa} {s:Shared} {K:PySem.W.Frag} {x dx C f:Addr} {mA:Ab} {name:Str} {v:Value}
def Kd {expr:Bool}{Q:Aa}(X:K.In s.heap) (I:fU s.heap x dx C mA) (hg:PySem.W.plainGet K C name=true) (hh:PySem.W.hasDictIn K C=true)
  (ha:PySem.W.findIn K (.ref C) name=some none) (hv:mA name=some v) (Ke:PySem.W.handedIn v=true) (h:Q v { s with toks:=s.toks+1 }) :
  wpAny (model prog w) A (getAttr (.ref x) name expr) Q E s:=by
 obtain ⟨od,J,hl⟩:=I.look
 exact PySem.W.get_value X J (PySem.W.plainGet_of hg).1 (PySem.W.findObj_own hh ha rfl (by rw [hl,hv])) Ke h
def Kf {pl:Sem Bool}{Q:Value×List Value->Shared->Prop}(X:K.In s.heap) (I:fU s.heap x dx C mA) (hg:PySem.W.plainGet K C name=true)
  (hf:PySem.W.findIn K (.ref C) name=some (some (.ref f))) (ht:PySem.W.isFn K (.ref f)=true) (hv:mA name=none) (h:Q (.ref f,[.ref x]) s) :
  wpAny (model prog w) A (getMethod (.ref x) name pl) Q E s:=by
 obtain ⟨od,J,hl⟩:=I.look
 exact PySem.W.method_fn X J (PySem.W.plainGet_of hg).1 (PySem.W.plainGet_of hg).2 hf (beq_iff_eq.mp ht) (by show (PySem.W.lookIn name od).map (·.isSome)=some false;rw [hl,hv];rfl) h
def Kg {ns:Ae}{Q:Unit->Shared->Prop}(X:K.In s.heap) (I:fU s.heap x dx C mA)
  (hs:PySem.W.findIn K (.ref C) "__setattr__" = some (some (.builtin "object.__setattr__"))) (hp:PySem.W.plainOver K C=true) (ht:PySem.W.takerIn K C name=some none) (hh:PySem.W.hasDictIn K C=true)
  (hw:PySem.Within mA ns) (hsz:ns.length<=sizeLine)
  (h:∀h',fU h' x dx C (λy=>if y=name then some v else mA y)->Heap.SameBut dx s.heap h'->Q () { s with heap:=h',toks:=s.toks+2 }) :
  wpAny (model prog w) A (setAttr (.ref x) name v) Q E s:=by
 obtain ⟨od,J,hl⟩:=I.look
 refine PySem.W.set_plain X J hs (PySem.W.osa_open (s:={ s with toks:=s.toks+1 }) (r:=none) X J hp ht λb=>?_)
 obtain ⟨cd,hc,fR⟩:=PySem.W.any_some hh
 have hx:s.heap.get? x=some ⟨.ref C,some dx,.plain,#[]⟩:=I.obj
 refine zu (ya (zu (zu (wpAny_loadPart hx (zu (PySem.W.Looks.here (s:={ s with toks:=s.toks+1 }) (PySem.W.looks_clsIn X hc) ?_))))))
 rw [fR]
 refine ya (a:=some dx) (zu (ya (zu ?_)))
 refine wpAny_nsSet1 (s:={ s with toks:=s.toks+1 }) I.ns λh' fK dY=>?_
 obtain ⟨oD,VZ,V0,Kh,Ki,Kj⟩:=fK.count (PySem.Within.cons name v hw)
 refine zu (wpAny_lookBehind Kh (by rw [Ki];exact pastItsLine_dict (jw Kj (by rw [wc];omega))) ?_)
 exact ya (h _ ⟨(dY.2 _ (yM I.ne)).trans I.obj,fK,I.ne⟩ dY)
def Kk {R:Result->Shared->Prop}{vs:Ah}{kw:List (Str×Value)}(X:K.In s.heap) (hm:PySem.W.makesIn K C=true)
  (hi:PySem.W.findIn K (.ref C) "__init__" = some (some (.ref f))) (hf:PySem.W.typeIn K (.ref f)=some (.type "function"))
  (h:codeAny (model prog w) (A.under (.builtin "type.__call__" ⟨.ref C::vs,kw⟩)) (.call (.ref f) ⟨.ref (s.heap.objs.size+1)::vs,kw⟩) (PySem.W.InitBack (s.heap.objs.size+1) R)
   { s with heap:=(s.heap.push PySem.W.emptyDict).push (PySem.W.instObj C s.heap.objs.size) }) :
  codeAny (model prog w) A (.call (.ref C) ⟨vs,kw⟩) R s:=by
 obtain ⟨hh,g,d,t,os⟩:=s
 exact PySem.W.make_core (PySem.W.makes_of X hm) (PySem.W.looks_findIn X hi) (λself=>PySem.W.bind_fn X self hf) (.inl rfl) h
end
def cu (f:Str) (v:V):List (Str×V)->List (Str×V)
 |[]=>[(f,v)]
 | (g,x)::r=>if g=f then (g,v)::r else (g,x)::cu f v r
theorem B3 (f g:Str) (v:V):∀fs:List (Str×V),(cu f v fs).lookup g=if g=f then some v else fs.lookup g
 |[]=>by
  show List.lookup g [(f,v)]=_
  by_cases h:g=f
  ·have hb:(g==f)=true:=beq_iff_eq.mpr h
   simp only [List.lookup,hb,zC h]
  ·have hb:(g==f)=false:=beq_eq_false_iff_ne.mpr h
   simp only [List.lookup,hb,zQ h]
 | (k,x)::r=>by
  have ih:=B3 f g v r
  rw [show cu f v ((k,x)::r)=(if k=f then (k,v)::r else (k,x)::cu f v r) from rfl]
  by_cases hk:k=f
  ·rw [zC hk]
   by_cases h:g=k
   ·have hb:(g==k)=true:=beq_iff_eq.mpr h
    simp only [List.lookup,hb,zC (h.trans hk)]
   ·have hb:(g==k)=false:=beq_eq_false_iff_ne.mpr h
    simp only [List.lookup,hb,zQ (λe:g=f=>h (e.trans hk.symm))]
  ·rw [zQ hk]
   by_cases h:g=k
   ·have hb:(g==k)=true:=beq_iff_eq.mpr h
    simp only [List.lookup,hb,zQ (λe:g=f=>hk (h.symm.trans e))]
   ·have hb:(g==k)=false:=beq_eq_false_iff_ne.mpr h
    simp only [List.lookup,hb]
    exact ih
theorem vd (f:Str) (v:V):∀fs:List (Str×V),f∈(cu f v fs).map (·.1)/\∀g,g∈fs.map (·.1)->g∈(cu f v fs).map (·.1)
 |[]=>⟨by simp [cu],λg h=>by simp at h⟩
 | (k,x)::r=>by
  obtain ⟨i1,i2⟩:=vd f v r
  rw [show cu f v ((k,x)::r)=(if k=f then (k,v)::r else (k,x)::cu f v r) from rfl]
  by_cases hk:k=f
  ·rw [zC hk]
   subst hk
   exact ⟨by simp,λg h=>by simpa using h⟩
  ·rw [zQ hk]
   refine ⟨?_,λg h=>?_⟩
   ·rw [jg]
    exact jZ _ i1
   ·rw [jg] at h ⊢
    rcases yE.mp h with e|e
    ·exact yE.mpr (.inl e)
    ·exact jZ _ (i2 g e)
theorem B7 (f:Str) (v:V):∀fs:List (Str×V),(cu f v fs).length<=fs.length+1
 |[]=>by simp [cu]
 | (k,x)::r=>by
  have ih:=B7 f v r
  rw [show cu f v ((k,x)::r)=(if k=f then (k,v)::r else (k,x)::cu f v r) from rfl]
  by_cases hk:k=f
  ·rw [zC hk,wc,wc];omega
  ·rw [zQ hk,wc,wc];omega
def cm.some_of {v:V}{o:Option Value}(r:cm (some v) o):∃u,o=some u/\RelV v u:=by
 cases o with
 |none=>exact (show False from r).elim
 |some u=>exact ⟨u,rfl,r⟩
def cm.none_of {o:Option Value}(r:cm none o):o=none:=by
 cases o with
 |none=>rfl
 |some u=>exact (show False from r).elim
def B8 {v:V}{u:Value}(r:RelV v u):PySem.W.handedIn u=true:=by
 cases v with
 |non=>cases (show u=Value.none from r);rfl
 |bl b=>cases (show u=Value.bool b from r);rfl
 |int i=>obtain ⟨t,e⟩:=(show ∃t,u=Value.int i t from r);cases e;rfl
 |str x=>obtain ⟨t,e⟩:=(show ∃t,u=Value.str x t from r);cases e;rfl
 |byt b=>obtain ⟨t,e⟩:=(show ∃t,u=Value.bytes b t from r);cases e;rfl
 |flt b=>obtain ⟨t,e⟩:=(show ∃t,u=Value.float b t from r);cases e;rfl
 |ref a=>cases (show u=Value.ref a from r);rfl
 |ty n=>cases (show u=Value.type n from r);rfl
section
variable {P:Program} {w:World} {H:Hp} {h:Heap} {a C dx:Addr} {fs:List (Str×V)}
def rB (hok:bZ P w H h) (e:H a=some (.ins C dx fs)):∃mA,fU h a dx C mA/\(∀f,cm (fs.lookup f) (mA f))/\PySem.Within mA (fs.map (·.1))/\fs.length<=1000/\H dx=some (.own a):=by
 obtain ⟨d,z,ne,ob,mA,n,r,q⟩:=(show a9 P w H h a (.ins C dx fs) from hok a _ e)
 exact ⟨mA,⟨ob,n,ne⟩,r,q,z,d⟩
end
structure eh (K:PySem.W.Frag) (C:Addr):Prop where
 pg:PySem.W.plainGet K C Str.empty=true
 hd:PySem.W.hasDictIn K C=true
 po:PySem.W.plainOver K C=true
 sa:PySem.W.findIn K (.ref C) "__setattr__" = some (some (.builtin "object.__setattr__"))
def eh.get {K:PySem.W.Frag}{C:Addr}(c:eh K C) (f:Str):PySem.W.plainGet K C f=true:=c.pg
def c5 (K:PySem.W.Frag) (C:Addr) (f:Str):Prop:=PySem.W.findIn K (.ref C) f=some none
def c5.taker {K:PySem.W.Frag}{C:Addr}{f:Str}(n:c5 K C f):PySem.W.takerIn K C f=some none:=by
 unfold PySem.W.takerIn
 rw [show PySem.W.findIn K (.ref C) f=some none from n]
 rfl
structure V1 (K:PySem.W.Frag) (C:Addr) (f:Str) (v:V) (u:Value):Prop where
 at_:PySem.W.findIn K (.ref C) f=some (some u)
 rel:RelV v u
 get:PySem.W.specialIn K u "__get__" = some none
 cp:PySem.W.copiedNames.contains f=false
structure Meth (K:PySem.W.Frag) (C:Addr) (m:Str) (f:Addr):Prop where
 at_:PySem.W.findIn K (.ref C) m=some (some (.ref f))
 fn:PySem.W.isFn K (.ref f)=true
 kp:PySem.W.keepIn K (.ref f)=true
section
variable {X:Cx} {pins:Ac} {σ:St} {H:Hp} {s:Shared} {a C dx:Addr} {fs:List (Str×V)} {f:Str} {v:V} {A:Around} {E:Aa}
def Kl {b:Bool}{Q:Aa}(I:Inv X pins σ H s) (e:H a=some (.ins C dx fs)) (c:eh X.K C) (n:c5 X.K C f) (l:fs.lookup f=some v)
  (h:∀u s',Inv X pins σ H s'->RelV v u->Q u s'):wpAny (model X.prog X.w) A (getAttr (.ref a) f b) Q E s:=by
 obtain ⟨mA,O,r,_,_,_⟩:=rB I.hok e
 obtain ⟨u,hu,ru⟩:=cm.some_of (v:=v) (o:=mA f) (by rw [<-l];exact r f)
 exact Kd I.kIn O (c.get f) c.hd n hu (B8 ru) (h u _ (I.tok _) ru)
def ve {m:Str}{g:Addr}{pl:Sem Bool}{Q:Value×List Value->Shared->Prop}(I:Inv X pins σ H s) (e:H a=some (.ins C dx fs)) (c:eh X.K C) (k:Meth X.K C m g) (l:fs.lookup m=none)
  (h:Q (.ref g,[.ref a]) s):wpAny (model X.prog X.w) A (getMethod (.ref a) m pl) Q E s:=by
 obtain ⟨mA,O,r,_,_,_⟩:=rB I.hok e
 have hn:mA m=none:=cm.none_of (by rw [<-l];exact r m)
 exact Kf I.kIn O (c.get m) k.at_ k.fn hn h
def Km {y:V}{u:Value}{Q:Unit->Shared->Prop}(I:Inv X pins σ H s) (e:H a=some (.ins C dx fs)) (c:eh X.K C) (n:c5 X.K C f) (hl:fs.length<1000) (ry:RelV y u)
  (h:∀s',Inv X pins σ (upd H a (.ins C dx (cu f y fs))) s'->Q () s'):wpAny (model X.prog X.w) A (setAttr (.ref a) f u) Q E s:=by
 obtain ⟨mA,O,r,wi,_,ho⟩:=rB I.hok e
 have hz:(fs.map (·.1)).length<=sizeLine:=by rw [jD,sizeLine_eq];omega
 refine Kg I.kIn O c.sa c.po n.taker c.hd wi hz λh' O' sb=>h _ ?_
 have hd:∃o,h'.get? dx=some o:=let ⟨o,_,_,e',_⟩:=O'.ns;⟨o,e'⟩
 refine I.write (x:=a) (e:=dx) (by rw [e];exact True.intro) (.inr ho) (λb q hb z=>(sb.2 b hb).trans z) hd ?_
 refine ⟨by rw [yf O.ne];exact ho,?_,O.ne,O'.obj,_,O'.ns,λg=>?_,λg hg=>?_⟩
 ·have:=B7 f y fs;omega
 ·show cm ((cu f y fs).lookup g) (if g=f then some u else mA g)
  rw [B3]
  by_cases q:g=f
  ·rw [zC q,zC q];exact ry
  ·rw [zQ q,zQ q];exact r g
 ·by_cases q:g=f
  ·rw [q];exact (vd f y fs).1
  ·refine (vd f y fs).2 g (wi g λz=>hg ?_)
   show (if g=f then some u else mA g)=none
   rw [zQ q];exact z
def Inv.made (I:Inv X pins σ H s):Inv X pins σ (upd (upd H s.heap.objs.size (.own (s.heap.objs.size+1))) (s.heap.objs.size+1) (.ins C s.heap.objs.size []))
  { s with heap:=(s.heap.push PySem.W.emptyDict).push (PySem.W.instObj C s.heap.objs.size) }:=by
 have e1:(s.heap.push PySem.W.emptyDict).get? s.heap.objs.size=some PySem.W.emptyDict:=yP s.heap rfl
 have e2:((s.heap.push PySem.W.emptyDict).push (PySem.W.instObj C s.heap.objs.size)).get? (s.heap.objs.size+1)=some (PySem.W.instObj C s.heap.objs.size):=by
  have:=yP (s.heap.push PySem.W.emptyDict) (o:=PySem.W.instObj C s.heap.objs.size) rfl
  rwa [Heap.size_push] at this
 have e3:(s.heap.push PySem.W.emptyDict).Ns s.heap.objs.size (λ_=>none):=⟨PySem.W.emptyDict,#[],_,e1,rfl,(λe he=>absurd he (by simp)),λ_=>rfl⟩
 have I1:=I.laid (a:=s.heap.objs.size) (o:=.own (s.heap.objs.size+1)) (h':=s.heap.push PySem.W.emptyDict) (t':=s.toks) (λb u q=>yl _ q) (zM _) ⟨_,e1⟩
 refine I1.laid (a:=s.heap.objs.size+1) (o:=.ins C s.heap.objs.size []) (t':=s.toks) (λb u q=>yl _ q) (Nat.le_of_eq (Heap.size_push _ _)) ?_
 have ne:s.heap.objs.size≠s.heap.objs.size+1:=yX (wt _)
 refine ⟨by rw [yf ne,yU],jK _,ne,e2,λ_=>none,(Heap.Ns1.of_empty e3).at λo q=>yl _ q,λ_=>True.intro,λy hy=>absurd rfl hy⟩
def Ko {prog:Program}{w:World}{env:Env}{e:Expr}{f:Str}{pos:Pos}{s:Shared}{Q:Aa}(hb:attributeBase e f env (eval e env)=eval e env)
  (h:wpAny (model prog w) A (eval e env) (λo am=>wpAny (model prog w) A (getAttr o f true) Q E am) E s):wpAny (model prog w) A (eval (.Attribute e f pos) env) Q E s :=
 Attribute_any_ h (by rw [arm_eval_Attribute,hb])
end
def sFld (K:PySem.W.Frag) (ta tv:TE) (f:Str):TS:=λD σ H=>tv σ H λy H1=>ta σ H1 λx H2=>∃a C dx fs,x=.ref a/\H2 a=some (.ins C dx fs)/\eh K C/\c5 K C f/\fs.length<1000 /\
 D.nx σ (upd H2 a (.ins C dx (cu f y fs)))
section
variable {X:Cx} {o value:Expr} {f:Str} {pos pos':Pos} {ta tv:TE}
def Kp (ha:PE X o ta) (hv:PE X value tv) (hs:swapsWith value (some (.Attribute o f pos')) pos.line X.env=pure false):PS X (.Assign [.Attribute o f pos'] value pos) (sFld X.K ta tv f):=by
 intro pins s σ H D I h
 refine plainObj_wpAny_Assign_Attribute (aX (hv pins s σ H _ I h) λu s1 ⟨y,H1,I1,ry,q⟩=>aX (ha pins s1 σ H1 _ I1 q) λov s2 gg=>?_) hs
 obtain ⟨x,H2,I2,rx,a,C,dx,fs,ex,ea,c,n,l,q2⟩:=gg
 subst ex
 obtain rfl:ov=Value.ref a:=rx
 exact Km I2 ea c n l ry λs3 I3=>⟨σ,_,I3,q2⟩
end
section
variable {X:Cx} {pins:Ac} {σ:St} {H:Hp} {s:Shared} {A:Around} {E:Aa} {Q:Aa} {c:Value} {b:Bool}
inductive dj (K:PySem.W.Frag) (H:Hp):V->Value->Prop where
 |non:dj K H .non (.type "NoneType")
 |bl (x:Bool):dj K H (.bl x) (.type "bool")
 |int (i:Int):dj K H (.int i) (.type "int")
 |str (x:Str):dj K H (.str x) (.type "str")
 |flt (x:UInt64):dj K H (.flt x) (.type "float")
 |lst {a:Addr} {xs:List V} (e:H a=some (.lst xs)):dj K H (.ref a) (.type "list")
 |frz {a:Addr} {o:Obj} {xs:List V} (e:H a=some (.frz o (.lst xs))):dj K H (.ref a) (.type "list")
 |tup {a:Addr} {xs:List V} (e:H a=some (.tup xs)):dj K H (.ref a) (.type "tuple")
 |dK {a:Addr} {kvs:List (Key×V)} (e:H a=some (.dK kvs)):dj K H (.ref a) (.type "dict")
 |dT {a:Addr} {kvs:List (List Key×V)} (e:H a=some (.dT kvs)):dj K H (.ref a) (.type "dict")
 | ins {a C dx:Addr} {fs:List (Str×V)} (e:H a=some (.ins C dx fs)) (cl:eh K C) (ha:PySem.W.findIn K (.ref C) "__class__" = some (some (.builtin "object.__class__")))
   (hn:PySem.W.specialIn K (.builtin "object.__class__") "__get__" = some (some (.builtin "getset_descriptor.__get__"))) (B_:PySem.W.takesIn K (.builtin "object.__class__")=some true)
   (hm:PySem.W.mroIn K C (.type "object")=some true):dj K H (.ref a) (.ref C)
def Kq {x:V}{u t:Value}(I:Inv X pins σ H s) (rx:RelV x u) (ty:dj X.K H x t) (e:PySem.W.kitOne X.K t c=some b) (h:∀tk,Q (.bool b) { s with toks:=tk }) :
  wpAny (model X.prog X.w) A (call (.builtin "isinstance") [u,c]) Q E s:=by
 cases ty with
 |non=>cases (show u=Value.none from rx);exact PySem.W.kia_one PySem.W.kitx_none I.kIn True.intro e (λz=>nomatch z) h
 |bl y=>cases (show u=Value.bool y from rx);exact PySem.W.kia_one PySem.W.kitx_bool I.kIn True.intro e (λz=>nomatch z) h
 |int i=>obtain ⟨t,q⟩:=(show ∃t,u=Value.int i t from rx);cases q;exact PySem.W.kia_one PySem.W.kitx_int I.kIn True.intro e (λz=>nomatch z) h
 |str y=>obtain ⟨t,q⟩:=(show ∃t,u=Value.str y t from rx);cases q;exact PySem.W.kia_one PySem.W.kitx_str I.kIn True.intro e (λz=>nomatch z) h
 |flt y=>obtain ⟨t,q⟩:=(show ∃t,u=Value.float y t from rx);cases q;exact PySem.W.kia_one PySem.W.kitx_float I.kIn True.intro e (λz=>nomatch z) h
 |@lst a xs ea =>
  cases (show u=Value.ref a from rx)
  obtain ⟨_,_,n,_,h1⟩:=(show a9 X.prog X.w H s.heap a (.lst xs) from I.hok a _ ea)
  exact PySem.W.kia_one PySem.W.kitx_list I.kIn ⟨_,h1,rfl⟩ e (λz=>nomatch z) h
 |@frz a ob xs ea =>
  cases (show u=Value.ref a from rx)
  obtain ⟨_,_,_,n,_,h1⟩:=(show a9 X.prog X.w H s.heap a (.frz ob (.lst xs)) from I.hok a _ ea)
  exact PySem.W.kia_one PySem.W.kitx_list I.kIn ⟨_,h1,rfl⟩ e (λz=>nomatch z) h
 |@tup a xs ea =>
  cases (show u=Value.ref a from rx)
  obtain ⟨_,_,_,p⟩:=(show a9 X.prog X.w H s.heap a (.tup xs) from I.hok a _ ea)
  obtain ⟨o,h1,h2,_⟩:=p
  exact PySem.W.kia_one PySem.W.kitx_tuple I.kIn ⟨o,h1,h2⟩ e (λz=>nomatch z) h
 |@dK a kvs ea =>
  cases (show u=Value.ref a from rx)
  obtain ⟨_,_,vs,_,p⟩:=(show a9 X.prog X.w H s.heap a (.dK kvs) from I.hok a _ ea)
  obtain ⟨o,es,ep,h1,h2,_⟩:=p
  exact PySem.W.kia_one PySem.W.kitx_dict I.kIn ⟨o,h1,h2.1⟩ e (λz=>nomatch z) h
 |@dT a kvs ea =>
  cases (show u=Value.ref a from rx)
  obtain ⟨_,_,xs,_,o,es,ep,h1,h2,_⟩:=(show a9 X.prog X.w H s.heap a (.dT kvs) from I.hok a _ ea)
  exact PySem.W.kia_one PySem.W.kitx_dict I.kIn ⟨o,h1,h2.1⟩ e (λz=>nomatch z) h
 |@ins a C dx fs ea cl ha hn B_ hm =>
  cases (show u=Value.ref a from rx)
  obtain ⟨mA,O,_⟩:=rB I.hok ea
  obtain ⟨od,J,_⟩:=O.look
  exact PySem.W.kia_one (PySem.W.kitx_own (cl.get _) cl.hd ha hn B_ hm) I.kIn J e (λz=>nomatch z) h
end
structure bb (k:Nat) (A:Around):Prop where
 hd:A.handled=none
 dp:A.depth+3*k+5<recursionLimit
 un:A.units+16*k+200<cLine
def bb.mono {j k:Nat}{A:Around}(r:bb k A) (h:j<=k):bb j A:=⟨r.hd,by have:=r.dp;omega,by have:=r.un;omega⟩
theorem bb.deeper {k:Nat}{A:Around}(r:bb (k+1) A) (env:Env):bb k (A.deeper env) :=
 ⟨r.hd,by have:=r.dp;show A.depth+1+3*k+5<_;omega,by have:=r.un;show A.units+3+16*k+200<_;omega⟩
theorem bb.in1 {k:Nat}{A:Around}(r:bb (k+1) A):bb k A.in1 :=
 ⟨r.hd,by have:=r.dp;show A.depth+3*k+5<_;omega,by have:=r.un;show A.units+1+16*k+200<_;omega⟩
def Kr {A:Around} {C:Addr} {us:Ah} {kw:List (Str×Value)}:(A.under (.builtin "type.__call__" ⟨.ref C::us,kw⟩)).depth=A.depth+1:=by
 first|rfl|simp [Around.under,Code.weight,Code.isCreation,Code.isGuard,Code.isCaller,Code.frames,Code.isFrame,guardIds]
def Ks {A:Around} {C:Addr} {us:Ah} {kw:List (Str×Value)}:(A.under (.builtin "type.__call__" ⟨.ref C::us,kw⟩)).units=A.units+1:=by
 first|rfl|simp [Around.under,Code.cUnits,Code.frames,Code.isFrame]
def bb.make {k:Nat} {A:Around} (r:bb (k+1) A) (C:Addr) (us:Ah) (kw:List (Str×Value)):bb k (A.under (.builtin "type.__call__" ⟨.ref C::us,kw⟩)) :=
 ⟨r.hd,by have:=r.dp;rw [Kr];omega,by have:=r.un;rw [Ks];omega⟩
theorem bb.depth {k:Nat}{A:Around}(r:bb k A):A.depth<recursionLimit:=by have:=r.dp;omega
theorem bb.units {k:Nat}{A:Around}(r:bb k A):A.units+64<cLine:=by have:=r.un;omega
def Ca:TA:=λ_ H Q=>Q [] H
def Kt (ta:TE) (tr:TA):TA:=fun σ H Q=>ta σ H λx H1=>tr σ H1 λxs H2=>Q (x::xs) H2
section
variable {X:Cx} {e:Expr} {es:List Expr} {te:TE} {t:TA} {pos:Pos}
def rD:PA X [] Ca:=λ_ _ _ _ H Q I h=>Calls.spliced_nil ⟨[],H,I,.nil,h⟩
def rE (ha:PE X e te) (hr:PA X es t) (hs:starEach (e::es) X.env=(false,eval e X.env)::starEach es X.env:=by rfl):PA X (e::es) (Kt te t):=by
 intro pos pins s σ H Q I h
 rw [hs]
 show wpAny _ _ (spliced ((false,eval e X.env)::backTo pos (starEach es X.env))) _ _ s
 refine Calls.spliced_cons (aX (ha pins s σ H _ I h) λu s1 ⟨x,H1,I1,r1,q1⟩=>?_)
 exact aX (hr pos pins s1 σ H1 _ I1 q1) λus s2 ⟨xs,H2,I2,r2,q2⟩=>⟨x::xs,H2,I2,.cons r1 r2,q2⟩
def Ku (t:TA):TE:=fun σ H Q=>t σ H λxs H1=>xs.length<=sizeLine/\∀p,H1 p=none->Q (.ref p) (upd H1 p (.tup xs))
def Kv (t:TA):TE:=fun σ H Q=>t σ H λxs H1=>xs.length<=sizeLine/\∀p,H1 p=none->Q (.ref p) (upd H1 p (.lst xs))
def Kw {x1}(h:PA X es t):PE X (.Tuple es x1 pos) (Ku t):=by
 intro pins s σ H Q I hq
 refine wpAny_Tuple_spliced (aX (h pos pins s σ H _ I hq) λus s1 ⟨xs,H1,I1,r,z,q⟩=>⟨by rw [<-r.length];exact z,?_⟩)
 have hf:H1 s1.heap.objs.size=none:=I1.hok.fresh (zM _)
 refine ⟨.ref s1.heap.objs.size,upd H1 s1.heap.objs.size (.tup xs),I1.laid (t':=s1.toks) (λb u e=>yl _ e) (zM _) ?_,rfl,q _ hf⟩
 exact ⟨z,us,r,⟨_,yP _ rfl,rfl,_,rfl⟩⟩
def Ky (h:PA X es t):PE X (.List es pos) (Kv t):=by
 intro pins s σ H Q I hq
 refine wpAny_List_spliced (aX (h pos pins s σ H _ I hq) λus s1 ⟨xs,H1,I1,r,z,q⟩=>⟨by rw [<-r.length];exact z,?_⟩)
 have hf:H1 s1.heap.objs.size=none:=I1.hok.fresh (zM _)
 refine ⟨.ref s1.heap.objs.size,upd H1 s1.heap.objs.size (.lst xs),I1.laid (t':=s1.toks) (λb u e=>yl _ e) (zM _) ?_,rfl,q _ hf⟩
 exact ⟨z,us,0,r,yP _ rfl⟩
end
abbrev Sp:=List V->Hp->VK->XK->Prop
abbrev ez:=List Env->Hp->Shared->XK->Aa
structure d9 (P:Program) (w:World) (K:PySem.W.Frag) (mg:Ab) (base:Heap) (A:Around) (outer:List Env) (s:Shared) (H:Hp):Prop where
 frames:A.frames=some outer
 mod:Mod K mg base
 bs:∀b o,base.get? b=some o->s.heap.get? b=some o/\H b=none
 bsz:base.objs.size<=s.heap.objs.size
 funs:s.heap.FunFrames base outer
 frf:∀b∈cN outer,H b=none
 hok:bZ P w H s.heap
 bare:AllBare s.gens
def CE (outer:List Env) (P:Program) (w:World) (H:Hp) (s:Shared) (Q:VK) (u:Value) (s':Shared):Prop :=
 ∃v H',s'.os=s.os/\AllBare s'.gens/\Un (cN outer) [] H H' s.heap s'.heap/\bZ P w H' s'.heap/\RelV v u/\Q v H'
def CR (CX:ez) (outer:List Env) (P:Program) (w:World) (H:Hp) (s:Shared) (Q:VK) (E:XK) (r:Result) (s':Shared):Prop :=
 match r with
 |.ok (.ret u)=>CE outer P w H s Q u s'
 |.ok _=>False
 |.error e=>CX outer H s E e s'
structure bz (P:Program) (w:World) (K:PySem.W.Frag) (mg:Ab) (base:Heap) (CX:ez) (k:Nat) (f:Addr) (fd:FuncData) (ps:Ae) (sp:Sp):Prop where
 len:∀vs H Q E,sp vs H Q E->vs.length=ps.length
 run:∀(A:Around) (outer:List Env) (s:Shared) (H:Hp) (args:Args) (us:Ah) (vs:List V) (Q:VK) (E:XK),bb k A->d9 P w K mg base A outer s H->BindsTo s fd args (ps.zip us)->Vals vs us->sp vs H Q E ->
  codeAny (model P w) A (.call (.ref f) args) (CR CX outer P w H s Q E) s
theorem bz.mono {P:Program}{w:World}{K:PySem.W.Frag}{mg:Ab}{base:Heap}{CX:ez}{j k:Nat}{f:Addr}{fd:FuncData}{ps:Ae}{sp:Sp}(F:bz P w K mg base CX j f fd ps sp) (h:j<=k) :
  bz P w K mg base CX k f fd ps sp:=⟨F.len,λA outer s H args us vs Q E hr=>F.run A outer s H args us vs Q E (hr.mono h)⟩
def bz.imp {P:Program}{w:World}{K:PySem.W.Frag}{mg:Ab}{base:Heap}{CX:ez}{k:Nat}{f:Addr}{fd:FuncData}{ps:Ae}{sp Cb:Sp}(F:bz P w K mg base CX k f fd ps sp)
  (h:∀vs H Q E,Cb vs H Q E->sp vs H Q E):bz P w K mg base CX k f fd ps Cb :=
 ⟨λvs H Q E q=>F.len vs H Q E (h _ _ _ _ q),λA outer s H args us vs Q E hr he hb hv hs=>F.run A outer s H args us vs Q E hr he hb hv (h _ _ _ _ hs)⟩
def d9.make {P:Program}{w:World}{K:PySem.W.Frag}{mg:Ab}{base:Heap}{A:Around}{outer:List Env}{s:Shared}{H:Hp}(e:d9 P w K mg base A outer s H) (C:Addr) (us:Ah) (kw:List (Str×Value)) :
  d9 P w K mg base (A.under (.builtin "type.__call__" ⟨.ref C::us,kw⟩)) outer s H:=⟨by first|exact e.frames|(simpa [Around.under,Code.envs,Code.isFrame,pushEnvs] using e.frames),e.mod,e.bs,e.bsz,e.funs,e.frf,e.hok,e.bare⟩
theorem d9.in1 {P:Program}{w:World}{K:PySem.W.Frag}{mg:Ab}{base:Heap}{A:Around}{outer:List Env}{s:Shared}{H:Hp}(e:d9 P w K mg base A outer s H) :
  d9 P w K mg base A.in1 outer s H:=⟨e.frames,e.mod,e.bs,e.bsz,e.funs,e.frf,e.hok,e.bare⟩
section
variable {X:Cx} {pins:Ac} {σ:St} {H:Hp} {s s':Shared}
def Inv.env0 (I:Inv X pins σ H s):d9 X.prog X.w X.K X.mg X.base X.A X.stack s H :=
 ⟨I.ok.frames,I.ok.mod,I.bs,jw I.ok.bsz I.sz,I.stack,I.stkFree,I.hok,I.bare⟩
def Inv.after {Q:VK}{u:Value}(I:Inv X pins σ H s) (h:CE X.stack X.prog X.w H s Q u s'):EP X pins σ Q u s':=by
 obtain ⟨v,H',os,bare,un,hok,r,q⟩:=h
 obtain ⟨hh,g,d,t,Kz⟩:=s'
 obtain rfl:Kz=s.os:=os
 exact ⟨v,H',I.call (h':=hh) (g':=g) (d':=d) (t':=t) (ch:=[]) un hok bare (λb z=>absurd z (by simp)),r,q⟩
end
def KA (sp:Sp) (dm:List V) (E:XK) (t:TA):TE:=fun σ H Q=>t σ H λvs H1=>sp (vs++dm) H1 Q E
def KC (C:Addr) (sp:Sp) (dm:List V) (E:XK) (t:TA):TE:=fun σ H Q=>t σ H λvs H1=>∀x dx,H1 x=none->H1 dx=none->dx≠x ->
 sp (.ref x::(vs++dm)) (upd (upd H1 dx (.own x)) x (.ins C dx [])) (λv H2=>v=.non/\Q (.ref x) H2) E
def Binds (K:PySem.W.Frag) (fd:FuncData) (ps:Ae) (ds:Ah):Prop :=
 ∀(s:Shared) (us:Ah),K.In s.heap->(us++ds).length=ps.length->BindsTo s fd ⟨us,[]⟩ (ps.zip (us++ds))
def Binds.all {K:PySem.W.Frag}{fd:FuncData}{ps:Ae}(h:∀us:Ah,us.length=ps.length->bindArgs fd ⟨us,[]⟩=pure (ps.zip us)):Binds K fd ps []:=λs us _ hl=>by
 rw [List.append_nil] at hl ⊢
 exact .of_eq (h us hl)
def Passes (CX:ez) (X:Cx) (E:XK):Prop:=∀(pins:Ac) (σ:St) (H:Hp) (s:Shared) (e:Value) (s':Shared),Inv X pins σ H s->CX X.stack H s E e s'->X.xe e s'
section
variable {X:Cx} {CX:ez} {k:Nat} {f C:Addr} {fd:FuncData} {ps:Ae} {sp:Sp} {dm:List V} {ds:Ah} {E:XK} {x:Str} {p pos:Pos} {e:Expr} {es:List Expr} {t:TA}
def vf {pins:Ac}{σ:St}{H:Hp}{s:Shared}{Q:VK}{us:Ah}{vs:List V}(F:bz X.prog X.w X.K X.mg X.base CX k f fd ps sp) (hr:bb k X.A) (hb:Binds X.K fd ps ds) (hd:Vals dm ds) (hx:Passes CX X E)
  (I:Inv X pins σ H s) (r:Vals vs us) (h:sp (vs++dm) H Q E):wpAny (model X.prog X.w) X.A (call (.ref f) us) (EP X pins σ Q) X.xe s:=by
 have r2:Vals (vs++dm) (us++ds):=r.append hd
 have hl:(us++ds).length=ps.length:=by rw [<-r2.length];exact F.len _ _ _ _ h
 refine wpAny_call (codeAny_mono (F.run X.A X.stack s H ⟨us,[]⟩ (us++ds) (vs++dm) Q E hr I.env0 (hb s us I.kIn hl) r2 h) λr s' hq=>?_)
 cases r with
 |error e=>exact hx pins σ H s e s' I hq
 |ok fl =>
  cases fl with
  |ret u=>exact I.after hq
  |next=>exact hq.elim
  |brk=>exact hq.elim
  |cont=>exact hq.elim
def KG (F:bz X.prog X.w X.K X.mg X.base CX k f fd ps sp) (hr:bb k X.A) (hg:Gl X x) (hm:X.mg x=some (.ref f)) (hk:PySem.W.keepIn X.K (.ref f)=true) (hb:Binds X.K fd ps ds) (hd:Vals dm ds) (hx:Passes CX X E)
  (ha:PA X (e::es) t) (dg:(x==("__debug__" : Str))=false:=by decide) (he:starEach (e::es) X.env=(false,eval e X.env)::starEach es X.env:=by rfl) (bT:(backTo pos (starEach es X.env)).any (·.1)=false:=by rfl) :
  PE X (.Call (.Name x p) (e::es) [] pos) (KA sp dm E t):=by
 intro pins s σ H Q I h
 refine wpAny_Call_Name_kw (rh I hg hm ?_ dg)
 refine PySem.W.callWith_K (h₀:=X.base) I.ok.mod.kin hk (aX (ha pos pins s σ H _ I h) λus s1 ⟨vs,H1,I1,r,q⟩=>⟨I1.kIn,?_⟩) he bT
 exact vf F hr hb hd hx I1 r q
structure Mk (K:PySem.W.Frag) (C f:Addr):Prop where
 makes:PySem.W.makesIn K C=true
 init:PySem.W.findIn K (.ref C) "__init__" = some (some (.ref f))
 fn:PySem.W.isFn K (.ref f)=true
 kp:PySem.W.keepIn K (.ref C)=true
def KH {pins:Ac}{σ:St}{H:Hp}{s:Shared}{Q:VK}{us:Ah}{vs:List V}(M:Mk X.K C f) (F:bz X.prog X.w X.K X.mg X.base CX k f fd ps sp) (hr:bb (k+1) X.A) (hb:Binds X.K fd ps ds) (hd:Vals dm ds)
  (hx:Passes CX X E) (I:Inv X pins σ H s) (r:Vals vs us)
  (h:∀x dx,H x=none->H dx=none->dx≠x->sp (.ref x::(vs++dm)) (upd (upd H dx (.own x)) x (.ins C dx [])) (λv H2=>v=.non/\Q (.ref x) H2) E) :
  wpAny (model X.prog X.w) X.A (call (.ref C) us) (EP X pins σ Q) X.xe s:=by
 have hq:=h (s.heap.objs.size+1) s.heap.objs.size (I.hok.fresh (Nat.le_succ _)) (I.hok.fresh (zM _)) (yX (wt _))
 have I2:=Inv.made (C:=C) I
 have r2:Vals (V.ref (s.heap.objs.size+1)::(vs++dm)) (Value.ref (s.heap.objs.size+1)::(us++ds)):=.cons rfl (r.append hd)
 have hl:(Value.ref (s.heap.objs.size+1)::us++ds).length=ps.length:=by
  have e:=r2.length
  rw [F.len _ _ _ _ hq] at e
  exact e.symm
 refine wpAny_call (Kk (f:=f) I.kIn M.makes M.init (beq_iff_eq.mp M.fn) (codeAny_mono (F.run _ X.stack _ _ ⟨Value.ref (s.heap.objs.size+1)::us,[]⟩ (Value.ref (s.heap.objs.size+1)::(us++ds)) _ _ E (hr.make C us [])
  (I2.env0.make C us []) (hb _ (Value.ref (s.heap.objs.size+1)::us) I2.kIn hl) r2 hq) λr s' oZ=>?_))
 cases r with
 |error e=>exact hx pins σ _ _ e s' I2 oZ
 |ok fl =>
  cases fl with
  |ret u =>
   obtain ⟨v,H',I3,rv,ev,q3⟩:=I2.after oZ
   subst ev
   exact ⟨rv,⟨V.ref (s.heap.objs.size+1),H',I3,rfl,q3⟩⟩
  |next=>exact oZ.elim
  |brk=>exact oZ.elim
  |cont=>exact oZ.elim
def KI (M:Mk X.K C f) (F:bz X.prog X.w X.K X.mg X.base CX k f fd ps sp) (hr:bb (k+1) X.A) (hg:Gl X x) (hm:X.mg x=some (.ref C)) (hb:Binds X.K fd ps ds) (hd:Vals dm ds) (hx:Passes CX X E)
  (ha:PA X (e::es) t) (dg:(x==("__debug__" : Str))=false:=by decide) (he:starEach (e::es) X.env=(false,eval e X.env)::starEach es X.env:=by rfl) (bT:(backTo pos (starEach es X.env)).any (·.1)=false:=by rfl) :
  PE X (.Call (.Name x p) (e::es) [] pos) (KC C sp dm E t):=by
 intro pins s σ H Q I h
 refine wpAny_Call_Name_kw (rh I hg hm ?_ dg)
 refine PySem.W.callWith_K (h₀:=X.base) I.ok.mod.kin M.kp (aX (ha pos pins s σ H _ I h) λus s1 ⟨vs,H1,I1,r,q⟩=>⟨I1.kIn,?_⟩) he bT
 exact KH M F hr hb hd hx I1 r q
end
section
variable {fd:FuncData} {ps ks:Ae}
structure Iq (K:PySem.W.Frag) (fd:FuncData) (ps ks:Ae) (g:List Value->List Value->Ah) (gV:List V->List V->List V):Prop where
 to:∀(s:Shared) (us ws:Ah),K.In s.heap->(g us ws).length=ps.length->BindsTo s fd ⟨us,ks.zip ws⟩ (ps.zip (g us ws))
 rel:∀{vs:List V} {us:Ah} {zs:List V} {ws:Ah},Vals vs us->Vals zs ws->Vals (gV vs zs) (g us ws)
end
structure aE (N P:Ae) (sc:Scope):Prop where
 kind:sc.kind=.function
 co:sc.isCoroutine=false
 gen:sc.isGenerator=false
 nd:N.Nodup
 pre:N.take P.length=P
 par:∀x∈P,sc.names.lookup x=some .local\/sc.names.lookup x=some .cell
 nofree:∀y∈sc.names,y.2 ≠ .free
theorem Cc {kindOf:Str->Option NameKind}{x:Str}:∀{binds:List (Str×Value)}{m:Ab},(∀v,(x,v)∉binds)->bindL kindOf binds m x=m x
 |[],_,_=>rfl
 | (n,v)::r,m,h=>by
  unfold bindL
  rw [Cc λw hw=>h w (jZ _ hw)]
  split
  ·have:x≠n:=by rintro rfl;exact h v jC
   simp [this]
  ·rfl
theorem Cd {kindOf:Str->Option NameKind}{x:Str}:∀{binds:List (Str×Value)}{m:Ab},(∀v,(x,v)∉binds)->bindC kindOf binds m x=m x
 |[],_,_=>rfl
 | (n,v)::r,m,h=>by
  unfold bindC
  rw [Cd λw hw=>h w (jZ _ hw)]
  split
  ·rfl
  ·have:x≠n:=by rintro rfl;exact h v jC
   simp [this]
theorem Ce {kindOf:Str->Option NameKind}{x:Str}{v:Value}:∀{P:Ae}{vs:Ah}{i:Nat}{m:Ab},P.Nodup->P[i]?=some x->vs[i]?=some v->kindOf x=some .local ->
  bindL kindOf (P.zip vs) m x=some v
 |[],_,_,_,_,h,_,_=>by simp at h
 |_::_,[],_,_,_,_,h,_=>by simp at h
 |p::P,w::vs,0,m,nd,h1,h2,hk=>by
  simp at h1 h2;subst h1;subst h2
  show bindL kindOf ((p,w)::P.zip vs) m p=_
  unfold bindL
  rw [Cc λv hv=>(j6.mp nd).1 (List.of_mem_zip hv).1,zC hk]
  simp
 |p::P,w::vs,i+1,m,nd,h1,h2,hk=>by
  show bindL kindOf ((p,w)::P.zip vs) m x=_
  unfold bindL
  exact Ce (i:=i) (j6.mp nd).2 (by simpa using h1) (by simpa using h2) hk
theorem Cf {kindOf:Str->Option NameKind}{x:Str}{v:Value}:∀{P:Ae}{vs:Ah}{i:Nat}{m:Ab},P.Nodup->P[i]?=some x->vs[i]?=some v->kindOf x≠some .local ->
  bindC kindOf (P.zip vs) m x=some v
 |[],_,_,_,_,h,_,_=>by simp at h
 |_::_,[],_,_,_,_,h,_=>by simp at h
 |p::P,w::vs,0,m,nd,h1,h2,hk=>by
  simp at h1 h2;subst h1;subst h2
  show bindC kindOf ((p,w)::P.zip vs) m p=_
  unfold bindC
  rw [Cd λv hv=>(j6.mp nd).1 (List.of_mem_zip hv).1,zQ hk]
  simp
 |p::P,w::vs,i+1,m,nd,h1,h2,hk=>by
  show bindC kindOf ((p,w)::P.zip vs) m x=_
  unfold bindC
  exact Cf (i:=i) (j6.mp nd).2 (by simpa using h1) (by simpa using h2) hk
def start (N:Ae) (vs:List V):St:=vs.map some++List.replicate (N.length-vs.length) none
def dn (CX:ez) (P:Program) (w:World) (K:PySem.W.Frag) (mg:Ab) (base:Heap) (N:Ae) (qual:Str) (scope:Scope) (f:Addr) (cd:Value) (A:Around) (outer:List Env) (s:Shared) (H:Hp) (E:XK):Cx where
 prog:=P
 w:=w
 K:=K
 mg:=mg
 base:=base
 A:=A.deeper (envOfC qual scope s.heap.objs.size f cd)
 N:=N
 s₀:=s
 H₀:=H
 env:=envOfC qual scope s.heap.objs.size f cd
 outer:=outer
 stack:=envOfC qual scope s.heap.objs.size f cd::outer
 ex:=[]
 calm:=true
 fn:=λ_=>true
 pn:=[]
 xe:=λe s'=>wpAny (model P w) (A.deeper (envOfC qual scope s.heap.objs.size f cd)) (leaving (envOfC qual scope s.heap.objs.size f cd) e) (λ_ vg=>CX outer H s E e vg) (λe' vg=>CX outer H s E e' vg) s'
def Cg {sc:Scope}{n:Nat}{x:Str}(h:sc.names.lookup x=some .cell):∃c,(cellsFrom n sc.names []).lookup x=some c:=by
 have q:=PySem.W.cellsFrom_some sc.names n [] (.inl h)
 exact Option.isSome_iff_exists.mp q
def KJ {CX:ez}{P:Program}{w:World}{K:PySem.W.Frag}{mg:Ab}{base:Heap}{N ps:Ae}{qual:Str}{scope:Scope}{f:Addr}{cd:Value}{A:Around}{outer:List Env}{s s1:Shared}{H:Hp}{E:XK}{us:Ah}{vs:List V}
  (S:aE N ps scope) (hd:A.handled=none) (e0:d9 P w K mg base A outer s H) (hl:vs.length=ps.length) (r:Vals vs us)
  (x:InCallC s s.heap.objs.size (bindL (envOfC qual scope s.heap.objs.size f cd).kindOf (ps.zip us) λ_=>none) (cellsFrom (s.heap.objs.size+1) scope.names []) (bindC (envOfC qual scope s.heap.objs.size f cd).kindOf (ps.zip us) λ_=>none) s1) :
  Inv (dn CX P w K mg base N qual scope f cd A outer s H E) [] (start N vs) H s1:=by
 have bT:ps.length<=N.length:=by have:=congrArg List.length S.pre;rw [List.length_take] at this;omega
 obtain ⟨h1,tk,rfl,hk⟩:=x.done
 have o9:∀b:Addr,b∉(dn CX P w K mg base N qual scope f cd A outer s H E).ex:=λb z=>absurd (show b∈([]:Af) from z) (by simp)
 refine ⟨⟨e0.mod,S.kind,rfl,rfl,zM _,λy z c h1 h2=>?_,λy hy=>?_,λy c _ h=>?_,λ_=>hd,Around.frames_deeper e0.frames,.inr ⟨rfl,rfl⟩,λb z=>absurd z (o9 b),e0.bs,e0.bsz,λb _ _=>o9 b,λb z=>absurd z (o9 b),e0.funs,e0.frf⟩,
  rfl,e0.bare,Un.kept hk,⟨_,x.toInCall.ns,λi y v h1 h2 h3=>?_⟩,λy c h=>⟨_,x.cell y c h⟩,e0.hok.fresh (zM _),λy c h=>?_,λp hp=>absurd (show p∈([]:Ac) from hp) (by simp),e0.hok.kept hk,?_⟩
 ·exact name_of_addr x.apart (PySem.mem_of_lookup h1) (PySem.mem_of_lookup h2)
 ·have hy:scope.names.lookup y=some .cell\/scope.names.lookup y=some .free:=hy
  rcases hy with hy|hy
  ·exact Cg hy
  ·exact absurd rfl (S.nofree _ (PySem.mem_of_lookup hy))
 ·exact Nat.le_of_lt (x.above y c (PySem.mem_of_lookup h))
 ·have hi:i<vs.length:=by
   unfold start at h2
   by_cases hi:i<vs.length
   ·exact hi
   ·rw [wX (by simpa using hi)] at h2
    rw [List.getElem?_replicate] at h2
    split at h2<;>cases h2
  have ha:vs[i]?=some v:=by
   unfold start at h2
   rw [wD (by simpa using hi),jd] at h2
   cases e:vs[i]? with
   |none=>rw [e] at h2;cases h2
   |some a=>rw [e] at h2;cases h2;rfl
  obtain ⟨u,hu,rv⟩:=r.get ha
  have hp:ps[i]?=some y:=by
   rw [<-S.pre,List.getElem?_take_of_lt (by omega)];exact h1
  have Ci:ps.Nodup:=by rw [<-S.pre];exact S.nd.sublist (List.take_sublist _ _)
  refine ⟨u,rv,?_⟩
  rcases S.par y (jR hp) with k|k
  ·exact .inl ⟨k,Ce Ci hp hu k⟩
  ·obtain ⟨c,e⟩:=Cg (n:=s.heap.objs.size+1) k
   refine .inr ⟨.inl k,c,e,?_⟩
   have q:=x.cell y c e
   rw [Cf Ci hp hu (by show scope.names.lookup y≠_;rw [k];decide)] at q
   exact q
 ·exact e0.hok.fresh (Nat.le_of_lt (x.above y c (PySem.mem_of_lookup h)))
 ·unfold start
  show _=N.length
  rw [wA,jD,List.length_replicate]
  omega
def Cj {CX:ez}{P:Program}{w:World}{K:PySem.W.Frag}{mg:Ab}{base:Heap}{k:Nat}{f:Addr}{name qual:Str}{params:Arguments}{body:List Stmt}{scope:Scope}{dV kV doc pm aY ct oc:Value}{an od:Option Addr}
  {eA:Array (Option Value)} {N ps:Ae} {sp:Sp} (lk:K.lookup f=some ⟨oc,od,.func (PySem.W.fnOf name qual params body scope dV kV doc pm an aY ct),eA⟩) (fw:PySem.W.codeIn K aY qual=true) (S:aE N ps scope)
  (len:∀vs H Q E,sp vs H Q E->vs.length=ps.length)
  (eE:∀(A:Around) (outer:List Env) (s:Shared) (H:Hp) (vs:List V) (Q:VK) (E:XK),bb k (A.deeper (envOfC qual scope s.heap.objs.size f aY))->sp vs H Q E ->
   ∃t,cq (dn CX P w K mg base N qual scope f aY A outer s H E) body t/\t { nx:=λ_ H'=>Q .non H',rt:=Q } (start N vs) H) :
  bz P w K mg base CX (k+1) f (PySem.W.fnOf name qual params body scope dV kV doc pm an aY ct) ps sp:=by
 refine ⟨len,λA outer s H args us vs Q E hr e0 hb r gG=>?_⟩
 have hl:=len _ _ _ _ gG
 have KX:K.In s.heap:=e0.mod.kin.keeps λb o e=>(e0.bs b o e).1
 have lim:s.heap.NoLimit:=e0.mod.nolimit.keeps λb o e=>(e0.bs b o e).1
 have vh:∀y∈ps.zip us,scope.names.lookup y.1=some .local\/(scope.names.lookup y.1=some .cell/\((cellsFrom (s.heap.objs.size+1) scope.names []).lookup y.1).isSome=true):=λ⟨n,v⟩ hy=>by
  rcases S.par n (List.of_mem_zip hy).1 with q|q
  ·exact .inl q
  ·exact .inr ⟨q,PySem.W.cellsFrom_some _ _ _ (.inl q)⟩
 refine codeAny_call_function hr.depth (KX _ _ lk) rfl S.co S.gen rfl (PySem.W.codeRec_of KX fw) (hb _ _ _ _ ?_)
 refine wpAny_newFunctionEnv_cells S.kind vh λenv he s1 x=>?_
 subst he
 refine ⟨lim.keeps x.toInCall.keep,codeAny_func ?_⟩
 obtain ⟨t,ht,hq⟩:=eE A outer s H vs Q E (hr.deeper _) gG
 have I:Inv (dn CX P w K mg base N qual scope f aY A outer s H E) [] (start N vs) H s1:=KJ S hr.hd e0 hl r x
 refine jn (ht [] s1 (start N vs) H _ I hq) (λfl s' hs=>?_) λe s' hs=>hs
 have fin:∀{aj:St} {H':Hp} {v:V} {u:Value},Inv (dn CX P w K mg base N qual scope f aY A outer s H E) [] aj H' s'->RelV v u->Q v H'->CE outer P w H s Q u s' :=
  λ{aj H' v u} J rv q=>⟨v,H',J.os,J.bare,J.base,J.hok,rv,q⟩
 cases fl with
 |ret u =>
  obtain ⟨v,aj,H',J,rv,q⟩:=hs
  exact fin J rv q
 |next =>
  obtain ⟨aj,H',J,q⟩:=hs
  exact fin (v:=V.non) (u:=Value.none) J rfl q
 |brk =>
  obtain ⟨_,_,_,q⟩:=hs
  exact q.elim
 |cont =>
  obtain ⟨_,_,_,q⟩:=hs
  exact q.elim
section
variable {X:Cx} {x:Str} {p pos:Pos} {e:Expr} {es:List Expr} {t:TA} {id T:String} {r:List V->Hp->VK->Prop}
def Ck (r:List V->Hp->VK->Prop) (t:TA):TE:=fun σ H Q=>t σ H λvs H1=>r vs H1 Q
def KL (hc:bV X (.builtin id) r) (hg:Gl X x) (hm:X.mg x=none) (hv:bootBuiltins x=some (.builtin id)) (ha:PA X (e::es) t) (hn:x ≠ "__name__" := by decide) (dg:(x==("__debug__" : Str))=false:=by decide)
  (he:starEach (e::es) X.env=(false,eval e X.env)::starEach es X.env:=by rfl) (bT:(backTo pos (starEach es X.env)).any (·.1)=false:=by rfl):PE X (.Call (.Name x p) (e::es) [] pos) (Ck r t):=by
 intro pins s σ H Q I h
 refine wpAny_Call_Name_kw (gF I hg hm hv ?_ hn dg)
 exact PyProof.Rows.callWith_builtin1 (aX (ha pos pins s σ H _ I h) λus s1 ⟨vs,H1,I1,r1,q1⟩=>hc pins s1 σ H1 vs us Q I1 r1 q1) he bT
def KN (hc:bV X (.type T) r) (hg:Gl X x) (hm:X.mg x=none) (hv:bootBuiltins x=some (.type T)) (ha:PA X (e::es) t) (hn:x ≠ "__name__" := by decide) (dg:(x==("__debug__" : Str))=false:=by decide)
  (he:starEach (e::es) X.env=(false,eval e X.env)::starEach es X.env:=by rfl) (bT:(backTo pos (starEach es X.env)).any (·.1)=false:=by rfl):PE X (.Call (.Name x p) (e::es) [] pos) (Ck r t):=by
 intro pins s σ H Q I h
 refine wpAny_Call_Name_kw (gF I hg hm hv ?_ hn dg)
 exact PyProof.Rows.callWith_type1 (aX (ha pos pins s σ H _ I h) λus s1 ⟨vs,H1,I1,r1,q1⟩=>hc pins s1 σ H1 vs us Q I1 r1 q1) he bT
end
end L2
namespace HT
open PySem PyProof.Rows
section
open PySem.SeqAt
open PySem.AutoSeq1 (wpAny_loadPart')
open PySem.MeetsSeq PySem.MeetsSeq2 PySem.MeetsSeq3
end
section
variable {prog:Program} {w:World} {A:Around} {E:Aa} {s:Shared}
def cat_tup {t b:Addr}{vs ws:Ah}{Q:Aa}(ht:IsTup s.heap t vs.toArray) (hb:IsTup s.heap b ws.toArray) (hv:vs≠[])
  (h1:ws=[]->Q (.ref t) s) (h2:ws≠[]->Q (.ref s.heap.objs.size) { s with heap:=s.heap.push { cls:=.type "tuple", data:=.seq (vs++ws).toArray } })
  (hsz:vs.length+ws.length<=sizeLine):wpAny (model prog w) A (binaryOp .Add (.ref t) (.ref b)) Q E s:=by
 obtain ⟨⟨cls,dd,data,sl⟩,ho,hc,n,hd⟩:=id ht
 obtain ⟨⟨Cm,dd2,data2,gH⟩,fV,o_,n2,hd2⟩:=id hb
 simp only at hc hd o_ hd2
 subst hc hd o_ hd2
 have e:vs.toArray++ws.toArray=(vs++ws).toArray:=by simp
 by_cases hw:ws=[]
 ·exact concat_meets ⟨_,ho,rfl⟩ ⟨_,fV,rfl⟩ noFill_tuple_add seq_tuple_add PySem.F.slot_tuple_add PySem.F.entry_tuple_add (PySem.F.args_tuple_add_2 _ _)
   (tuple_addW1 t b vs.toArray ws.toArray n n2 dd dd2 sl gH (by simpa using hv) (by simp [hw])) ⟨ho,fV,h1 hw⟩
 ·refine concat_meets ⟨_,ho,rfl⟩ ⟨_,fV,rfl⟩ noFill_tuple_add seq_tuple_add PySem.F.slot_tuple_add PySem.F.entry_tuple_add (PySem.F.args_tuple_add_2 _ _)
   (tuple_addW2 t b vs.toArray ws.toArray n n2 dd dd2 sl gH (by simpa using hv) (by simpa using hw) (by rw [yT,yT];exact hsz)) ⟨ho,fV,?_⟩
  rw [e]
  exact h2 hw
def sIx (n d:Nat):Option Int->Nat
 |none=>d
 |some v=>if v<0 then (v+(n:Int)).toNat else min v.toNat n
def KO (n d:Nat) (hd:d<=n) (o:Option Int):sIx n d o<=n:=by
 cases o with
 |none=>exact hd
 |some v =>
  show (if v<0 then (v+(n:Int)).toNat else min v.toNat n)<=n
  by_cases hv:v<0
  ·rw [zC hv];omega
  ·rw [zQ hv];exact Nat.min_le_right _ _
def Cn (v:Int) (n d:Nat):(if v<0 then max (v+(n:Int)) 0 else min v (n:Int))=((sIx n d (some v):Nat):Int):=by
 show (if v<0 then max (v+(n:Int)) 0 else min v (n:Int))=(((if v<0 then (v+(n:Int)).toNat else min v.toNat n):Nat):Int)
 by_cases hv:v<0
 ·simp only [zC hv];omega
 ·simp only [zQ hv];omega
def KP (lo hi:Option Int) (n:Nat):Builtin.Slice.sliceAdjust lo hi 1 (n:Int)=(((sIx n 0 lo:Nat):Int),((sIx n n hi:Nat):Int)):=by
 have h1:¬((1:Int)<0):=by omega
 unfold Builtin.Slice.sliceAdjust
 simp only [h1,if_false]
 refine Prod.ext ?_ ?_
 ·cases lo with
  |none=>rfl
  |some v=>exact Cn v n 0
 ·cases hi with
  |none=>rfl
  |some v=>exact Cn v n n
def KQ (i j:Nat):Builtin.Slice.slicePlaces (i:Int) (j:Int) 1=j-i:=by
 unfold Builtin.Slice.slicePlaces
 have h1:(1:Int)>0:=by omega
 simp only [h1,if_true,Int.ediv_one]
 split<;>omega
def Co {v:Value}{o:Option Int}{Q:Option Int->Shared->Prop}(p:IsPart v o) (h:Q o s):wpAny (model prog w) A (Builtin.Slice.slicePartIndex v) Q E s:=by
 cases p with
 |none=>exact slicePart_none h
 |int i t=>exact slicePart_int h
def Cp {sl:Addr}{vl vu:Value}{lo hi:Option Int}{n:Nat}{Q:Int×Int×Nat->Shared->Prop}(hs:s.heap.IsSliceOf sl vl vu .none) (pl:IsPart vl lo) (pu:IsPart vu hi)
  (h:Q (((sIx n 0 lo:Nat):Int),1,sIx n n hi-sIx n 0 lo) s):wpAny (model prog w) A (Builtin.Slice.sliceApplied (.ref sl) (pure (n:Int))) Q E s:=by
 obtain ⟨os,lh,ko,nv⟩:=id hs
 unfold Builtin.Slice.sliceApplied Builtin.Slice.sliceFields
 refine zu (zu (jc lh nv (x:=vl) rfl (zu (jc lh nv (x:=vu) rfl (zu (jc lh nv (x:=.none) rfl (ya ?_)))))))
 refine zu (slicePart_none ?_)
 show wpAny _ _ (if ((1:Int)==0)=true then _ else _) _ _ s
 rw [zQ (by decide)]
 refine zu (Co pl (zu (Co pu (zu (ya ?_)))))
 show wpAny _ _ (match Builtin.Slice.sliceAdjust lo hi 1 (n:Int) with|(lo,hi)=>pure (lo,(1:Int),Builtin.Slice.slicePlaces lo hi 1)) _ _ s
 rw [KP lo hi n]
 show wpAny _ _ (pure (((sIx n 0 lo:Nat):Int),(1:Int),Builtin.Slice.slicePlaces ((sIx n 0 lo:Nat):Int) ((sIx n n hi:Nat):Int) 1)) _ _ s
 rw [KQ]
 exact ya h
def KR (xs:Array Value) (i k:Nat):((List.range k).filterMap λ(m:Nat)=>xs[((i:Int)+(m:Int)*1).toNat]?).toArray=((xs.toList.drop i).take k).toArray:=by
 have e:(λ(m:Nat)=>xs[((i:Int)+(m:Int)*1).toNat]?)=λm=>xs[i+m]?:=by
  funext m
  have:((i:Int)+(m:Int)*1).toNat=i+m:=by omega
  rw [this]
 rw [e]
 have:=pick_run xs i k
 rw [List.filterMap_map] at this
 have e2:((λx=>xs[x]?)∘λx=>i+x)=λm=>xs[i+m]?:=rfl
 rw [e2] at this
 rw [this]
def getItem_tuple_cut {t sl:Addr}{items:Array Value}{vl vu:Value}{lo hi:Option Int}{Q:Aa}(ht:IsTup s.heap t items) (hs:s.heap.IsSliceOf sl vl vu .none) (pl:IsPart vl lo) (pu:IsPart vu hi)
  (hw:¬(sIx items.size 0 lo=0/\sIx items.size items.size hi=items.size))
  (h:Q (.ref s.heap.objs.size) { s with heap:=s.heap.push { cls:=.type "tuple", data:=.seq ((items.toList.drop (sIx items.size 0 lo)).take (sIx items.size items.size hi-sIx items.size 0 lo)).toArray } })
  (hsz:items.size<=sizeLine):wpAny (model prog w) A (getItem (.ref t) (.ref sl)) Q E s:=by
 have ie:sizeOk (.seq ((items.toList.drop (sIx items.size 0 lo)).take (sIx items.size items.size hi-sIx items.size 0 lo)).toArray):=by
  show ((items.toList.drop (sIx items.size 0 lo)).take (sIx items.size items.size hi-sIx items.size 0 lo)).toArray.size<=sizeLine
  rw [yT,List.length_take,List.length_drop,Array.length_toList]
  omega
 have hj:sIx items.size items.size hi<=items.size:=KO _ _ (zM _) hi
 obtain ⟨os,lh,ko,nv⟩:=id hs
 have vi:s.TypeIs (.ref sl) "slice" := ⟨os,lh,ko⟩
 unfold getItem
 try with_reducible refine hG ?_
 first|refine zu (ya ?_)|skip
 refine zu (wpAny_sequenceKey ht.typeIs (by decide) ?_)
 refine zu (wpAny_callSpecial?_slot (name:=Str.ofString "__getitem__") ht.typeIs PyProof.Rows.slot_tuple_getitem
  (g_ PyProof.Rows.slot_tuple_getitem ht.typeIs entry_tuple_getitem ?_ (args_tuple_getitem _ _)))
 show wpAny _ _ (Builtin.Tuple.tupleItemsOf (.ref t) >>= _) _ _ s
 refine zu (tupleItemsOf_ ht ?_)
 refine zu (wpAny_typeOf vi ?_)
 rw [zC (by decide)]
 refine zu (Cp hs pl pu ?_)
 have KS:¬((((sIx items.size 0 lo:Nat):Int)==0&&(1:Int)==1&&(sIx items.size items.size hi-sIx items.size 0 lo)==items.size)=true):=by
  intro q
  rw [wB,wB] at q
  have q1:((sIx items.size 0 lo:Nat):Int)=0:=eq_of_beq q.1.1
  have q2:sIx items.size items.size hi-sIx items.size 0 lo=items.size:=eq_of_beq q.2
  exact hw ⟨by omega,by omega⟩
 show wpAny _ _ (if (((sIx items.size 0 lo:Nat):Int)==0&&(1:Int)==1&&(sIx items.size items.size hi-sIx items.size 0 lo)==items.size)=true then _ else _) _ _ s
 rw [zQ KS,KR]
 first
  |exact zu (m:=Builtin.Tuple.tupleExact _) (wn (ya ⟨_,rfl,ya h⟩) ie)
  |exact zu (m:=Builtin.Tuple.tupleExact _) (wn (zu (ya (ya ⟨_,rfl,ya h⟩))) ie)
  |exact zu (zu (m:=Builtin.Tuple.tupleExact _) (wn (ya (ya ⟨_,rfl,ya h⟩)) ie))
  |exact zu (zu (m:=Builtin.Tuple.tupleExact _) (wn (ya ⟨_,rfl,ya h⟩) ie))
end
end HT
namespace L2
open PySem PySem.Spec PyProof.Rows
abbrev TO:=St->Hp->(Option Int->Hp->Prop)->Prop
def PO (X:Cx) (e:Option Expr) (t:TO):Prop :=
 ∀(pins:Ac) (s:Shared) (σ:St) (H:Hp) (Q:Option Int->Hp->Prop),Inv X pins σ H s->t σ H Q ->
  wpAny (model X.prog X.w) X.A (evalPart e X.env) (λu s'=>∃o H',Inv X pins σ H' s'/\IsPart u o/\Q o H') X.xe s
def KU:TO:=λ_ H Q=>Q none H
def KW (t:TE):TO:=fun σ H Q=>t σ H λx H1=>∃i,x=.int i/\Q (some i) H1
section
variable {X:Cx} {e:Expr} {te:TE} {lo hi:Option Expr} {tl th:TO} {pos p2:Pos}
def KY:PO X none KU:=by
 intro pins s σ H Q I h
 rw [evalPart_none]
 exact ya ⟨none,H,I,.none,h⟩
def KZ (h:PE X e te):PO X (some e) (KW te):=by
 intro pins s σ H Q I hw
 rw [evalPart_some]
 refine aX (h pins s σ H _ I hw) λu s1 ⟨x,H1,I1,r1,q1⟩=>?_
 obtain ⟨i,rfl,q⟩:=q1
 obtain ⟨t,rfl⟩:=r1
 exact ⟨some i,H1,I1,.int i t,q⟩
def ig (X:Cx) (r:V->Option Int->Option Int->Hp->VK->Prop):Prop :=
 ∀(pins:Ac) (s:Shared) (σ:St) (H:Hp) (x:V) (v vl vu:Value) (lo hi:Option Int) (sl:Addr) (Q:VK),Inv X pins σ H s->RelV x v->s.heap.IsSliceOf sl vl vu .none->IsPart vl lo->IsPart vu hi->r x lo hi H Q ->
  ∃T id,typeLookup (.type T) "__getitem__" = pure (some (.builtin id))/\s.TypeIs v T/\wpAny (model X.prog X.w) X.A (getItem v (.ref sl)) (EP X pins σ Q) X.xe s
def ig.or {r r':V->Option Int->Option Int->Hp->VK->Prop}(h:ig X r) (h':ig X r'):ig X (λx lo hi H Q=>r x lo hi H Q\/r' x lo hi H Q):=by
 intro pins s σ H x v vl vu lo hi sl Q I rx hs pl pu q
 rcases q with q|q
 ·exact h pins s σ H x v vl vu lo hi sl Q I rx hs pl pu q
 ·exact h' pins s σ H x v vl vu lo hi sl Q I rx hs pl pu q
def K0 (r:V->Option Int->Option Int->Hp->VK->Prop) (te:TE) (tl th:TO):TE:=fun σ H Q=>te σ H λx H1=>tl σ H1 λl H2=>th σ H2 λu H3=>r x l u H3 Q
def K2 {r:V->Option Int->Option Int->Hp->VK->Prop}(hr:ig X r) (he:PE X e te) (hl:PO X lo tl) (hu:PO X hi th):PE X (.Subscript e (.Slice lo hi none p2) pos) (K0 r te tl th):=by
 intro pins s σ H Q I h
 refine Subscript_ (aX (he pins s σ H _ I h) λv s1 ⟨x,H1,I1,r1,q1⟩=>?_)
 refine wpAny_Slice (aX (hl pins s1 σ H1 _ I1 q1) λvl s2 ⟨l,H2,I2,pl,q2⟩=>aX (hu pins s2 σ H2 _ I2 q2) λvu s3 ⟨u,H3,I3,pu,q3⟩=>?_)
 rw [evalPart_none]
 refine ya ?_
 have I4:Inv X pins σ H3 { s3 with heap:=s3.heap.push { cls:=.type "slice", data:=.fields #[vl,vu,.none] } }:=I3.kept (t':=s3.toks) λb ob q=>yl _ q
 obtain ⟨T,id,hT,ht,hg⟩:=hr pins { s3 with heap:=s3.heap.push { cls:=.type "slice", data:=.fields #[vl,vu,.none] } } σ H3 x v vl vu l u s3.heap.objs.size Q I4 r1 (Heap.IsSliceOf.new ..) pl pu q3
 show wpAny (model X.prog X.w) X.A (subscriptTail e (.Slice lo hi none p2) v (.ref s3.heap.objs.size)) (EP X pins σ Q) X.xe { s3 with heap:=s3.heap.push { cls:=.type "slice", data:=.fields #[vl,vu,.none] } }
 exact tail_any (ops:=[.ref s3.heap.objs.size,v]) ht hT hg (by with_unfolding_all rfl)
def fF (xs:List V) (lo hi:Option Int):List V:=(xs.drop (HT.sIx xs.length 0 lo)).take (HT.sIx xs.length xs.length hi-HT.sIx xs.length 0 lo)
def Cq (xs:List V) (lo hi:Option Int):(fF xs lo hi).length<=xs.length:=by
 unfold fF
 rw [List.length_take,List.length_drop]
 omega
def K3 (K:PySem.W.Frag):V->Option Int->Option Int->Hp->VK->Prop:=λx lo hi H Q=>∃a xs,x=.ref a/\bt K H a xs /\
 ¬(HT.sIx xs.length 0 lo=0/\HT.sIx xs.length xs.length hi=xs.length)/\∀p,H p=none->Q (.ref p) (upd H p (.tup (fF xs lo hi)))
def K5:ig X (K3 X.K):=by
 intro pins s σ H x v vl vu lo hi sl Q I rx hs pl pu h
 obtain ⟨a,xs,rfl,hx,hw,q⟩:=h
 cases rx
 obtain ⟨its,r,ht,hz⟩:=I.tuple hx
 have hlen:its.toArray.size=xs.length:=by rw [yT];exact r.length.symm
 refine ⟨"tuple", _,PyProof.Rows.slot_tuple_getitem.lookup,ht.typeIs,?_⟩
 refine HT.getItem_tuple_cut ht hs pl pu (by rw [hlen];exact hw) ?_ (by rw [hlen];exact hz)
 rw [hlen]
 refine ⟨.ref s.heap.objs.size,_,I.laid (t':=s.toks) (o:=.tup (fF xs lo hi)) (λb ob q=>yl _ q) (zM _) ?_,rfl,q _ (I.hok.fresh (zM _))⟩
 exact ⟨jw (Cq xs lo hi) hz,_,(r.drop (HT.sIx xs.length 0 lo)).take (HT.sIx xs.length xs.length hi-HT.sIx xs.length 0 lo),IsTup.new _ _⟩
def K8 (K:PySem.W.Frag):R2:=λx y H Q=>∃a b xs ys,x=.ref a/\y=.ref b/\bt K H a xs/\bt K H b ys/\xs≠[]/\xs.length+ys.length<=sizeLine /\
 (ys=[]->Q (.ref a) H)/\(ys≠[]->∀p,H p=none->Q (.ref p) (upd H p (.tup (xs++ys))))
def Vals.nil_iff {xs:List V}{us:Ah}(r:Vals xs us):us=[]↔xs=[]:=by
 cases r with
 |nil=>simp
 |cons _ _=>simp
def K9:bI X (binaryOp .Add) (K8 X.K):=by
 intro pins s σ H x y v u Q I rx ry h
 obtain ⟨a,b,xs,ys,rfl,rfl,ha,hb,hx,hz,q1,q2⟩:=h
 cases rx
 cases ry
 obtain ⟨its,r1,p1,_⟩:=I.tuple ha
 obtain ⟨c6,r2,p2,_⟩:=I.tuple hb
 refine HT.cat_tup p1 p2 (λz=>hx (r1.nil_iff.mp z)) (λz=>⟨.ref a,H,I,rfl,q1 (r2.nil_iff.mp z)⟩) (λz=>?_) (by rw [<-r1.length,<-r2.length];exact hz)
 refine ⟨.ref s.heap.objs.size,_,I.laid (t':=s.toks) (o:=.tup (xs++ys)) (λb ob q=>yl _ q) (zM _) ?_,rfl,q2 (λw=>z (r2.nil_iff.mpr w)) _ (I.hok.fresh (zM _))⟩
 exact ⟨by rw [wA];exact hz,_,r1.append r2,IsTup.new _ _⟩
end
def ik (n:Nat) (i:Int):Option Nat:=if 0<=i then (if i<n then some i.toNat else none) else if -(n:Int)<=i then some (i+n).toNat else none
def cQ {α:Type}(xs:List α) (i:Int):Option α:=(ik xs.length i).bind λj=>xs[j]?
def Cr {n:Nat}{i:Int}{j:Nat}(h:ik n i=some j):seqIndex? i n=some j/\j<n /\ -(n:Int)<=i/\i<n:=by
 unfold ik at h
 by_cases h0:0<=i
 ·rw [zC h0] at h
  by_cases h1:i<n
  ·rw [zC h1] at h
   have e:i.toNat=j:=Option.some.inj h
   exact ⟨by rw [seqIndex_of h0 h1,e],by omega,by omega,h1⟩
  ·rw [zQ h1] at h;cases h
 ·rw [zQ h0] at h
  by_cases h1 : -(n:Int)<=i
  ·rw [zC h1] at h
   have e:(i+n).toNat=j:=Option.some.inj h
   exact ⟨by rw [seqIndex_neg (by omega) h1,e],by omega,h1,by omega⟩
  ·rw [zQ h1] at h;cases h
def bu {α:Type}{xs:List α}{i:Int}{v:α}(h:cQ xs i=some v):∃j,seqIndex? i xs.length=some j/\xs[j]?=some v/\j<xs.length /\ -(xs.length:Int)<=i/\i<xs.length:=by
 unfold cQ at h
 cases e:ik xs.length i with
 |none=>rw [e] at h;cases h
 |some j =>
  rw [e] at h
  obtain ⟨h1,h2,h3,h4⟩:=Cr e
  exact ⟨j,h1,h,h2,h3,h4⟩
def eU (b:Expr):Prop:=∀o i,subscripted b false o i=operate [o,i] (getItem o i)
def fz (X:Cx) (r:R2):Prop :=
 ∀(value slice:Expr) (pins:Ac) (s:Shared) (σ:St) (H:Hp) (x y:V) (v u:Value) (Q:VK),Inv X pins σ H s->RelV x v->RelV y u->r x y H Q ->
  subscripted slice false v u=operate [v,u] (getItem v u)->wpAny (model X.prog X.w) X.A (subscriptTail value slice v u) (EP X pins σ Q) X.xe s
def vj (X:Cx) (id:String) (r:V->List V->Hp->VK->Prop):Prop :=
 ∀(pins:Ac) (s:Shared) (σ:St) (H:Hp) (x:V) (xs:List V) (v:Value) (us:Ah) (Q:VK),Inv X pins σ H s->RelV x v->Vals xs us->r x xs H Q ->
  wpAny (model X.prog X.w) X.A (call (.builtin id) (v::us)) (EP X pins σ Q) X.xe s
section
variable {X:Cx} {a b:Expr} {ta tb:TE} {pos:Pos}
def fz.or {r r':R2}(h:fz X r) (h':fz X r'):fz X (λx y H Q=>r x y H Q\/r' x y H Q):=by
 intro value slice pins s σ H x y v u Q I rx ry q hs
 rcases q with q|q
 ·exact h value slice pins s σ H x y v u Q I rx ry q hs
 ·exact h' value slice pins s σ H x y v u Q I rx ry q hs
def Cs {r:R2}(hr:fz X r) (ha:PE X a ta) (hb:PE X b tb) (hs:eU b):PE X (.Subscript a b pos) (oV r ta tb):=by
 intro pins s σ H Q I h
 exact Subscript_ (oW ha hb I h λv u s2 x y H2 I2 rx ry q=>hr a b pins s2 σ H2 x y v u Q I2 rx ry q (hs _ _))
def Ct (K:PySem.W.Frag):R2:=λx y H Q=>∃p xs i v,x=.ref p/\y=.int i/\ba K H p xs/\cQ xs i=some v/\Q v H
def Cu (K:PySem.W.Frag):R2:=λx y H Q=>∃p xs i v,x=.ref p/\y=.int i/\bt K H p xs/\cQ xs i=some v/\Q v H
def Cw:R2:=λx y H Q=>∃z i c,x=.str z/\y=.int i/\z.length<=sizeLine/\cQ z.cps.toList i=some c/\Q (.str ⟨#[c]⟩) H
def K_:fz X (Ct X.K):=by
 intro value slice pins s σ H x y v u Q I rx ry h hs
 obtain ⟨p,xs,i,z,rfl,rfl,hq,he,q⟩:=h
 cases rx
 obtain ⟨t,rfl⟩:=ry
 obtain ⟨its,r,pl,hz⟩:=I.list hq
 obtain ⟨j,h1,h2,h3,h4,h5⟩:=bu he
 obtain ⟨w,ew,rw'⟩:=r.get h2
 have hl:=r.length
 have hn:=oX
 have fin:EP X pins σ Q w s:=⟨z,H,I,rw',q⟩
 by_cases h0:0<=i
 ·have hj:i.toNat=j:=by
   rw [seqIndex_of h0 h5] at h1
   exact Option.some.inj h1
  exact item_listR pl.isList h0 (by omega) (by rw [hj];simpa using ew) fin hs
 ·have hj:(i+(its.toArray.size:Int)).toNat=j:=by
   rw [seqIndex_neg (by omega) h4] at h1
   rw [yT,<-hl]
   exact Option.some.inj h1
  exact subscriptTail_builtinR (x:=w) pl.isList.typeIs slot_list_getitem.lookup
   (wpAny_getItem_list_neg (Q:=λr s'=>r=w/\EP X pins σ Q r s') pl.isList (by omega) (by rw [yT]<;>omega) (by omega) (by rw [hj];simpa using ew) ⟨rfl,fin⟩) hs
def Lb:fz X (Cu X.K):=by
 intro value slice pins s σ H x y v u Q I rx ry h hs
 obtain ⟨p,xs,i,z,rfl,rfl,hq,he,q⟩:=h
 cases rx
 obtain ⟨t,rfl⟩:=ry
 obtain ⟨its,r,pl,hz⟩:=I.tuple hq
 obtain ⟨j,h1,h2,h3,h4,h5⟩:=bu he
 obtain ⟨w,ew,rw'⟩:=r.get h2
 have hl:=r.length
 have hn:=oX
 have fin:EP X pins σ Q w s:=⟨z,H,I,rw',q⟩
 exact subscriptTail_builtinR (x:=w) pl.typeIs slot_tuple_getitem.lookup
  (getItem_tuple (j:=j) (Q:=λr s'=>r=w/\EP X pins σ Q r s') pl (by omega) (by omega) (by rw [yT,<-hl];exact h1) (by simpa using ew) ⟨rfl,fin⟩) hs
def Lc:fz X Cw:=by
 intro value slice pins s σ H x y v u Q I rx ry h hs
 obtain ⟨z,i,c,rfl,rfl,hz,he,q⟩:=h
 obtain ⟨t,rfl⟩:=rx
 obtain ⟨t',rfl⟩:=ry
 obtain ⟨j,h1,h2,h3,h4,h5⟩:=bu he
 have hl:z.cps.toList.length=z.length:=by simp [Str.length]
 rw [hl] at h1 h4 h5
 have hn:=oX
 exact tail_any (typeIs_str s z t) slot_str_getitem.lookup (getItem_str (c:=c) (by
  have e1:decide (i < -(2 ^ 63:Int))=false:=jo (by omega)
  have e2:decide (i>=2 ^ 63)=false:=jo (by omega)
  rw [e1,e2,Bool.or_false]) (by rw [h1];simpa using h2) ⟨.str ⟨#[c]⟩,H,I.tok _,⟨_,rfl⟩,q⟩) hs
def Ld (K:PySem.W.Frag):R2:=λx y H Q=>Ct K x y H Q\/Cu K x y H Q\/Cw x y H Q
def Le:fz X (Ld X.K):=K_.or (Lb.or Lc)
def Lf (its:Ah) (n j:Nat) (u:Value):Obj.mapSeq (·.setIfInBounds j u) { cls:=.type "list", data:=.seq its.toArray n }={ cls:=.type "list", data:=.seq (its.set j u).toArray n }:=by
 simp [Obj.mapSeq]
theorem Inv.lst {pins:Ac}{σ:St}{H:Hp}{s:Shared}{p:Addr}{xs:List V}(I:Inv X pins σ H s) (h:H p=some (.lst xs)) :
  ∃(its:Ah) (n:Nat),Vals xs its/\s.heap.get? p=some { cls:=.type "list", data:=.seq its.toArray n }/\xs.length<=sizeLine:=by
 obtain ⟨z,its,n,r,e⟩:=I.hok p _ h
 exact ⟨its,n,r,e,z⟩
def Inv.lstUpd {pins:Ac}{σ:St}{H:Hp}{s:Shared}{p:Addr}{xs ys:List V}{its its':Ah}{n n':Nat}{f:Obj->Obj}(I:Inv X pins σ H s) (h:H p=some (.lst xs))
  (ho:s.heap.get? p=some { cls:=.type "list", data:=.seq its.toArray n }) (hf:f { cls:=.type "list", data:=.seq its.toArray n }={ cls:=.type "list", data:=.seq its'.toArray n' }) (r:Vals ys its') (hz:ys.length<=sizeLine) (t:Nat) :
  Inv X pins σ (upd H p (.lst ys)) { s with heap:=s.heap.update p f,toks:=t }:=by
 have e:(s.heap.update p f).get? p=some { cls:=.type "list", data:=.seq its'.toArray n' }:=by
  rw [Heap.get?_update_self f ho (by rw [hf]<;>rfl),hf]
 refine I.write (x:=p) (e:=p) (by rw [h];trivial) (.inl rfl) (λb u hb q=>(wz _ _ (yM hb)).trans q) ⟨_,e⟩ ?_
 exact ⟨hz,its',n',r,e⟩
def Lg:V->V->V->Hp->(Hp->Prop)->Prop:=λo i v H Q=>∃p xs k j,o=.ref p/\i=.int k/\H p=some (.lst xs)/\ik xs.length k=some j/\Q (upd H p (.lst (xs.set j v)))
def Lh:uG X Lg:=by
 intro pins s σ H o i v ov iv u Q I ro ri rv h
 obtain ⟨p,xs,k,j,rfl,rfl,hp,hj,q⟩:=h
 cases ro
 obtain ⟨t,rfl⟩:=ri
 obtain ⟨its,n,r,ho,hz⟩:=I.lst hp
 obtain ⟨h1,h2,h3,h4⟩:=Cr hj
 have hl:=r.length
 have hn:=oX
 have I':Inv X pins σ (upd H p (.lst (xs.set j v))) { s with heap:=s.heap.update p (Obj.mapSeq (·.setIfInBounds j u)) } :=
  I.lstUpd hp ho (Lf its n j u) (r.set rv j) (by rw [List.length_set];exact hz) s.toks
 by_cases h0:0<=k
 ·have hk:k.toNat=j:=by
   rw [seqIndex_of h0 h4] at h1
   exact Option.some.inj h1
  exact PySem.W.ki_setAt ho h0 (by omega) (by rw [yT,<-hl];exact h4) (by rw [hk];exact ⟨_,I',q⟩)
 ·have hk:(k+(its.toArray.size:Int)).toNat=j:=by
   rw [seqIndex_neg (by omega) h3] at h1
   rw [yT,<-hl]
   exact Option.some.inj h1
  exact PySem.W.ki_setBack ho (by omega) (by rw [yT,<-hl];exact h3) (by omega) (by rw [hk];exact ⟨_,I',q⟩)
def Li (lo hi:Option Int) (n:Nat):(sliceBounds lo hi none n).1=((HT.sIx n 0 lo:Nat):Int)/\(sliceBounds lo hi none n).2.1=((HT.sIx n n hi:Nat):Int)/\(sliceBounds lo hi none n).2.2=1:=by
 refine ⟨?_,?_,rfl⟩
 ·cases lo with
  |none=>simp [sliceBounds,HT.sIx]
  |some i =>
   simp only [sliceBounds,HT.sIx,Option.getD_none,show (1:Int)>0 by decide,if_true]
   by_cases h:i<0
   ·simp only [h,if_true]<;>omega
   ·simp only [h,if_false]<;>omega
 ·cases hi with
  |none=>simp [sliceBounds,HT.sIx]
  |some i =>
   simp only [sliceBounds,HT.sIx,Option.getD_none,show (1:Int)>0 by decide,if_true]
   by_cases h:i<0
   ·simp only [h,if_true]<;>omega
   ·simp only [h,if_false]<;>omega
def Lj (its:Ah) (lo hi:Option Int):slicePick its.toArray lo hi none=((its.drop (HT.sIx its.length 0 lo)).take (HT.sIx its.length its.length hi-HT.sIx its.length 0 lo)).toArray:=by
 obtain ⟨h1,h2,h3⟩:=Li lo hi its.toArray.size
 unfold slicePick
 rw [h1,h2,h3]
 simp only [sliceRange_one,pick_run,yT]<;>rfl
def Ll (K:PySem.W.Frag):V->Option Int->Option Int->Hp->VK->Prop:=λx lo hi H Q=>∃a xs,x=.ref a/\ba K H a xs/\∀p,H p=none->Q (.ref p) (upd H p (.lst (fF xs lo hi)))
def Lm:ig X (Ll X.K):=by
 intro pins s σ H x v vl vu lo hi sl Q I rx hs pl pu h
 obtain ⟨a,xs,rfl,hx,q⟩:=h
 cases rx
 obtain ⟨its,r,ht,hz⟩:=I.list hx
 have hlen:=r.length
 refine ⟨"list", _,slot_list_getitem.lookup,ht.isList.typeIs,?_⟩
 refine wpAny_getItem_list_slice ht.isList hs pl pu .none (by simp) ?_ (by rw [yT]<;>omega)
 rw [Lj,<-hlen]
 refine ⟨.ref s.heap.objs.size,_,I.laid (t':=s.toks) (o:=.lst (fF xs lo hi)) (λb ob q=>yl _ q) (zM _) ?_,rfl,q _ (I.hok.fresh (zM _))⟩
 exact ⟨jw (Cq xs lo hi) hz,_,0,(r.drop (HT.sIx xs.length 0 lo)).take (HT.sIx xs.length xs.length hi-HT.sIx xs.length 0 lo),yP _ rfl⟩
def zon:bI X (compareOp .NotIn) (λx y H Q=>∃i j,x=.str i/\y=.str j/\Q (.bl (!(!(Builtin.Str.occurrences j i 0 j.length 1).isEmpty))) H):=by
 intro pins s σ H x y v u Q I rx ry h
 obtain ⟨i,j,rfl,rfl,q⟩:=h
 obtain ⟨t,rfl⟩:=rx
 obtain ⟨t',rfl⟩:=ry
 exact notIn_str ⟨.bl _,H,I,rfl,q⟩
def bV.or {f:Value}{r r':List V->Hp->VK->Prop}(h:bV X f r) (h':bV X f r'):bV X f (λxs H Q=>r xs H Q\/r' xs H Q):=by
 intro pins s σ H xs us Q I rs q
 rcases q with q|q
 ·exact h pins s σ H xs us Q I rs q
 ·exact h' pins s σ H xs us Q I rs q
def Ln:bV X (.type "list") (λxs H Q=>∃p ys,xs=[.ref p]/\(ba X.K H p ys\/bt X.K H p ys)/\∀l,H l=none->Q (.ref l) (upd H l (.lst ys))):=by
 intro pins s σ H xs us Q I r h
 obtain ⟨p,ys,rfl,hq,q⟩:=h
 obtain ⟨u,rfl,rx⟩:=ic r
 cases rx
 have fin:∀(its:Ah),Vals ys its->ys.length<=sizeLine->∀(h':Heap) (c':Nat),(∀b o',s.heap.get? b=some o'->h'.get? b=some o') ->
   h'.get? s.heap.objs.size=some { cls:=.type "list", dict:=none,data:=.seq its.toArray c',slots:=#[] }->EP X pins σ Q (.ref s.heap.objs.size) { s with heap:=h' }:=λits r' hz h' c' kp e =>
  ⟨.ref s.heap.objs.size,_,I.laid (t':=s.toks) kp (zM _) (show a9 X.prog X.w _ h' _ (.lst ys) from ⟨hz,its,c',r',e⟩),rfl,q _ (I.hok.fresh (zM _))⟩
 rcases hq with hq|hq
 ·obtain ⟨its,r',pl,hz⟩:=I.list hq
  have hlen:=r'.length
  obtain ⟨o,ho,hc,n,hd⟩:=pl.isList
  exact call_list_seq p (.inl rfl) ho hc hd (λh' c' kp e=>fin its r' hz h' c' kp e) (by simp only [yT]<;>omega)
 ·obtain ⟨its,r',pl,hz⟩:=I.tuple hq
  have hlen:=r'.length
  obtain ⟨o,ho,hc,n,hd⟩:=pl
  exact call_list_seq p (.inr rfl) ho hc hd (λh' c' kp e=>fin its r' hz h' c' kp e) (by simp only [yT]<;>omega)
def Lo:bV X (.type "tuple") (λxs H Q=>∃p ys,xs=[.ref p]/\((ba X.K H p ys/\∀l,H l=none->Q (.ref l) (upd H l (.tup ys)))\/(bt X.K H p ys/\Q (.ref p) H))):=by
 intro pins s σ H xs us Q I r h
 obtain ⟨p,ys,rfl,h⟩:=h
 obtain ⟨u,rfl,rx⟩:=ic r
 cases rx
 rcases h with ⟨hq,q⟩|⟨hq,q⟩
 ·obtain ⟨its,r',pl,hz⟩:=I.list hq
  have hlen:=r'.length
  refine call_tuple_list pl.isList (λh' kp=>?_) (by simp only [yT]<;>omega)
  have I1:Inv X pins σ H { s with heap:=h' }:=I.kept (t':=s.toks) kp
  have I2:Inv X pins σ (upd H h'.objs.size (.tup ys)) { s with heap:=h'.push { cls:=.type "tuple", data:=.seq its.toArray } } :=
   I1.laid (t':=s.toks) (λb o e=>yl _ e) (zM _) (show a9 X.prog X.w _ _ _ (.tup ys) from ⟨hz,its,r',IsTup.new _ _⟩)
  exact ⟨.ref h'.objs.size,_,I2,rfl,q _ (I1.hok.fresh (zM _))⟩
 ·obtain ⟨its,r',pl,hz⟩:=I.tuple hq
  exact call_tuple_same pl ⟨.ref p,H,I,rfl,q⟩
def vm (K:PySem.W.Frag) (T:String) (x:V) (H:Hp):Prop:=match x with
 |.str _=>T = "str"
 |.int _=>T = "int"
 | .ref p=>(T = "list" /\ ∃xs,ba K H p xs)\/(T = "tuple" /\ ∃o,K.lookup p=some o/\o.cls=.type "tuple" /\ o.dict=none) \/
   (T = "dict" /\ ((∃kvs,H p=some (.dK kvs))\/∃kvs,H p=some (.dT kvs)))\/(T = "set" /\ ∃S n,H p=some (.set S n))
 |_=>False
def Cy {pins:Ac}{σ:St}{H:Hp}{s:Shared}{T:String}{x:V}{v:Value}(I:Inv X pins σ H s) (r:RelV x v) (ty:vm X.K T x H) :
  s.TypeIs v T/\∀a,v=.ref a->∃ob,s.heap.get? a=some ob/\ob.dict=none:=by
 cases x with
 |str z =>
  obtain ⟨t,rfl⟩:=r
  cases (show T = "str" from ty)
  exact ⟨typeIs_str s z t,λ_ e=>nomatch e⟩
 |int i =>
  obtain ⟨t,rfl⟩:=r
  cases (show T = "int" from ty)
  exact ⟨typeIs_int s i t,λ_ e=>nomatch e⟩
 |ref p =>
  cases r
  rcases ty with ⟨rfl,xs,hq⟩|⟨rfl,o,hk,hc,hd⟩|⟨rfl,hk⟩|⟨rfl,S,n,hk⟩
  ·obtain ⟨its,_,pl,_⟩:=I.list hq
   refine ⟨pl.isList.typeIs,λa e=>?_⟩
   cases e
   obtain ⟨o,n,e,c,hd,_⟩:=pl
   exact ⟨o,e,hd⟩
  ·refine ⟨⟨o,I.kIn p o hk,hc⟩,λa e=>?_⟩
   cases e
   exact ⟨o,I.kIn _ o hk,hd⟩
  ·have z:∃o,s.heap.get? p=some o/\o.ExactDict:=by
    rcases hk with ⟨kvs,hk⟩|⟨kvs,hk⟩
    ·obtain ⟨_,_,_,_,o,_,_,e,ex,_⟩:=I.hok p _ hk
     exact ⟨o,e,ex⟩
    ·obtain ⟨_,_,_,_,o,_,_,e,ex,_⟩:=I.hok p _ hk
     exact ⟨o,e,ex⟩
   obtain ⟨o,e,ex⟩:=z
   refine ⟨⟨o,e,ex.1⟩,λa e2=>?_⟩
   cases e2
   exact ⟨o,e,ex.2.1⟩
  ·obtain ⟨o,_,_,_,e,ex,_⟩:=I.hok p _ hk
   refine ⟨⟨o,e,ex.1⟩,λa e2=>?_⟩
   cases e2
   exact ⟨o,e,ex.2.1⟩
 |_=>exact ty.elim
def Lp (K:PySem.W.Frag) (T:String) (r:V->List V->Hp->VK->Prop) (to:TE):TE:=fun σ H Q=>to σ H λx H1=>vm K T x H1/\r x [] H1 Q
def Ls (K:PySem.W.Frag) (T:String) (r:V->List V->Hp->VK->Prop) (to:TE) (t:TA):TE:=fun σ H Q=>to σ H λx H1=>vm K T x H1/\t σ H1 λxs H2=>r x xs H2 Q
variable {o e:Expr} {es:List Expr} {to:TE} {t:TA} {name:Str} {apos a6:Pos} {T id:String} {r:V->List V->Hp->VK->Prop}
def Lu (pa:PlainAttrs T) (slot:Slot T name id) (kq:typeOf (.builtin id)=pure (.type "method_descriptor")) (hm:vj X id r) (ho:PE X o to)
  (cg:attributeBase o name X.env (eval o X.env)=eval o X.env:=by rfl) (cw:(apos.endLine==a6.line)=true:=by rfl):PE X (.Call (.Attribute o name apos) [] [] a6) (Lp X.K T r to):=by
 intro pins s σ H Q I h
 refine wpAny_Call_method0_late cg cw (aX (ho pins s σ H _ I h) λv s1 ⟨x,H1,I1,r1,ty,q1⟩=>?_)
 obtain ⟨h1,h2⟩:=Cy I1 r1 ty
 exact ⟨T,id,pa,slot,kq,h1,h2,Calls.callWith_builtin rfl (PySem.evalArgs_none (hm pins s1 σ H1 x [] v [] Q I1 r1 .nil q1))⟩
def vn (pa:PlainAttrs T) (slot:Slot T name id) (kq:typeOf (.builtin id)=pure (.type "method_descriptor")) (hm:vj X id r) (ho:PE X o to) (ha:PA X (e::es) t)
  (cg:attributeBase o name X.env (eval o X.env)=eval o X.env:=by rfl)
  (eV:((backTo a6 (starEach (e::es) X.env)).all (λx=>!x.1)&&(backToKw a6 (keywordEach [] X.env)).all (λx=>x.1.isSome)
   && decide ((e::es).length+([]:List Keyword).length+(if ([]:List Keyword).isEmpty then 0 else 1)<30))=true:=by rfl)
  (cw:(apos.endLine==a6.line)=true:=by rfl) (hs:starEach (e::es) X.env=(false,eval e X.env)::starEach es X.env:=by rfl) (rF:(backTo a6 (starEach es X.env)).any (·.1)=false:=by rfl) :
  PE X (.Call (.Attribute o name apos) (e::es) [] a6) (Ls X.K T r to t):=by
 intro pins s σ H Q I h
 refine wpAny_Call_method_late cg eV cw rfl (aX (ho pins s σ H _ I h) λv s1 ⟨x,H1,I1,r1,ty,q1⟩=>?_)
 obtain ⟨h1,h2⟩:=Cy I1 r1 ty
 refine ⟨T,id,pa,slot,kq,h1,h2,?_⟩
 have hA:=ha a6 pins s1 σ H1 _ I1 q1
 rw [hs] at hA ⊢
 refine Calls.callWith_builtin (by show (false||(backTo a6 (starEach es X.env)).any (·.1))=false;rw [rF]<;>rfl) (Calls.evalArgs_plain ?_)
 exact aX hA λus s2 ⟨vs,H2,I2,r2,q2⟩=>hm pins s2 σ H2 x vs v us Q I2 r1 r2 q2
end
def vo (X:Cx) (id:String) (r:V->List V->Hp->VK->Prop):Prop :=
 ∀(pins:Ac) (s:Shared) (σ:St) (H:Hp) (x:V) (xs:List V) (v:Value) (us:Ah) (Q:VK),Inv X pins σ H s->RelV x v->Vals xs us->r x xs H Q ->
  wpAny (model X.prog X.w) X.A (call (.builtin id) (v::us)) (EP X pins σ Q) X.xe s
def Vals.one:∀{x:V}{us:Ah},Vals [x] us->∃u,us=[u]/\RelV x u
 |_,_,.cons r .nil=>⟨_,rfl,r⟩
def Vals.zero:∀{us:Ah},Vals [] us->us=[]
 |_,.nil=>rfl
theorem Vals.dropLast {xs:List V}{us:Ah}(h:Vals xs us):Vals xs.dropLast us.dropLast:=by
 induction h with
 |nil=>exact .nil
 |cons r t ih =>
  cases t with
  |nil=>exact .nil
  |cons q t'=>exact .cons r ih
theorem Vals.eraseIdx:∀{xs:List V}{us:Ah}(i:Nat),Vals xs us->Vals (xs.eraseIdx i) (us.eraseIdx i)
 |_,_,_,.nil=>.nil
 |_,_,0,.cons _ t=>t
 |_,_,i+1,.cons r t=>.cons r (Vals.eraseIdx i t)
theorem Vals.reverse {xs:List V}{us:Ah}(h:Vals xs us):Vals xs.reverse us.reverse:=by
 induction h with
 |nil=>exact .nil
 |cons r t ih=>rw [List.reverse_cons,List.reverse_cons];exact Vals.append ih (.cons r .nil)
def Lv {α:Type}(l:List α):l.eraseIdx (l.length-1)=l.dropLast:=by
 induction l with
 |nil=>rfl
 |cons a r ih =>
  cases r with
  |nil=>rfl
  |cons b r =>
   have e:(a::b::r).length-1=((b::r).length-1)+1:=by
    have h1:(a::b::r).length=r.length+2:=rfl
    have h2:(b::r).length=r.length+1:=rfl
    omega
   rw [e,List.eraseIdx_cons_succ,ih]
   all_goals rfl
theorem Cz {α:Type}:∀(l:List α) (i:Nat),(l.eraseIdx i).length<=l.length
 |[],_=>zM _
 |_::_,0=>Nat.le_succ _
 |_::r,i+1=>Nat.succ_le_succ (Cz r i)
section
variable {X:Cx} {pins:Ac} {σ:St} {H:Hp} {s:Shared} {l:Addr} {xs ys:List V}
def Inv.lset {its its':Ah}{n:Nat}{f:Array Value->Array Value}{t':Nat}(I:Inv X pins σ H s) (hH:H l=some (.lst xs))
  (e:s.heap.get? l=some { cls:=.type "list", data:=.seq its.toArray n }) (hf:f its.toArray=its'.toArray) (hv:Vals ys its') (hz:ys.length<=sizeLine) :
  Inv X pins σ (upd H l (.lst ys)) { s with heap:=s.heap.update l (Obj.mapSeq f),toks:=t' }:=by
 have q:=PySem.IsL.update e f
 rw [hf] at q
 refine I.write (x:=l) (e:=l) (by rw [hH];exact trivial) (.inl rfl) (λb' u hb hu=>(wz s.heap (Obj.mapSeq f) (yM hb)).trans hu) ⟨_,q⟩ ?_
 exact ⟨hz,its',_,hv,q⟩
def Inv.lnew {its:Ah}{t':Nat}(I:Inv X pins σ H s) (hv:Vals ys its) (hz:ys.length<=sizeLine) :
  Inv X pins σ (upd H s.heap.objs.size (.lst ys)) { s with heap:=s.heap.push { cls:=.type "list", data:=.seq its.toArray },toks:=t' } :=
 I.laid (λ_ _ q=>yl _ q) (zM _) ⟨hz,its,0,hv,yP _ rfl⟩
theorem Inv.fresh (I:Inv X pins σ H s):H s.heap.objs.size=none:=I.hok.fresh (zM _)
def Inv.lstM (I:Inv X pins σ H s) (hH:H l=some (.lst xs)):xs.length<=sizeLine/\∃(its:Ah) (n:Nat),Vals xs its/\xs.length=its.length/\s.heap.get? l=some { cls:=.type "list", data:=.seq its.toArray n }:=by
 obtain ⟨z,its,n,r,e⟩:=I.hok l _ hH
 exact ⟨z,its,n,r,r.length,e⟩
end
section
variable {X:Cx}
def Lw:V->List V->Hp->VK->Prop:=λx vs H Q=>∃l xs y,x=.ref l/\vs=[y]/\H l=some (.lst xs)/\xs.length<sizeLine/\Q .non (upd H l (.lst (xs++[y])))
def zov:vo X "list.append" Lw:=by
 intro pins s σ H x vs v us Q I rx rv h
 obtain ⟨l,xs,y,rfl,rfl,hH,hz,q⟩:=h
 cases rx
 obtain ⟨u,rfl,ru⟩:=rv.one
 obtain ⟨z,its,n,r,hl,e⟩:=I.lstM hH
 refine call_meets F.slot_list_append ⟨_,e,rfl⟩ F.entry_list_append (F.args_list_append_2 _ _) (PySem.list_append l its.toArray n u (by rw [yT];omega)) ⟨e,?_⟩
 refine ⟨.non,_,I.lset (its':=its++[u]) hH e (by simp) (r.append (.cons ru .nil)) ?_,rfl,q⟩
 rw [wA,uV]
 omega
def Lx:V->List V->Hp->VK->Prop:=λx vs H Q=>∃l xs y,x=.ref l/\vs=[]/\H l=some (.lst xs)/\xs[xs.length-1]?=some y/\Q y (upd H l (.lst xs.dropLast))
def Ly:vo X "list.pop" Lx:=by
 intro pins s σ H x vs v us Q I rx rv h
 obtain ⟨l,xs,y,rfl,rfl,hH,hy,q⟩:=h
 cases rx
 have Lz:=rv.zero
 subst Lz
 obtain ⟨z,its,n,r,hl,e⟩:=I.lstM hH
 obtain ⟨u,hu,ru⟩:=r.get hy
 have LA:its.toArray[its.toArray.size-1]?=some u:=by
  show its.toArray[its.length-1]?=some u
  rw [<-Array.getElem?_toList,<-hl]
  exact hu
 refine call_meets F.slot_list_pop ⟨_,e,rfl⟩ F.entry_list_pop (F.args_list_pop_1 _) (MeetsSeq.list_pop_last l its.toArray n u LA (by rw [yT];omega)) ⟨e,?_⟩
 refine ⟨y,_,I.lset (its':=its.dropLast) hH e ?_ r.dropLast ?_,ru,q⟩
 ·show its.toArray.eraseIdxIfInBounds (its.toArray.size-1)=its.dropLast.toArray
  rw [yT,List.eraseIdxIfInBounds_toArray,Lv]
 ·rw [List.length_dropLast]
  omega
def LB:V->List V->Hp->VK->Prop:=λx vs H Q=>∃l xs i k y,x=.ref l/\vs=[.int i]/\H l=some (.lst xs) /\ -(2 ^ 63)<=i/\i<2 ^ 63/\seqIndex? i xs.length=some k/\xs[k]?=some y/\Q y (upd H l (.lst (xs.eraseIdx k)))
def LC:vo X "list.pop" LB:=by
 intro pins s σ H x vs v us Q I rx rv h
 obtain ⟨l,xs,i,k,y,rfl,rfl,hH,h1,h2,hk,hy,q⟩:=h
 cases rx
 obtain ⟨u,rfl,ru⟩:=rv.one
 obtain ⟨t,rfl⟩:=ru
 obtain ⟨z,its,n,r,hl,e⟩:=I.lstM hH
 obtain ⟨w,hw,rw'⟩:=r.get hy
 refine call_meets F.slot_list_pop ⟨_,e,rfl⟩ F.entry_list_pop (F.args_list_pop_2 _ _)
  (MeetsSeq.list_pop_at l its.toArray n i t k w (fitsIndex_both h1 h2) (by rw [yT,<-hl];exact hk) (by rw [<-Array.getElem?_toList];exact hw) (by rw [yT];omega)) ⟨e,?_⟩
 refine ⟨y,_,I.lset (its':=its.eraseIdx k) hH e ?_ (r.eraseIdx k) ?_,rw',q⟩
 ·show its.toArray.eraseIdxIfInBounds k=(its.eraseIdx k).toArray
  rw [List.eraseIdxIfInBounds_toArray]
 ·have:=Cz xs k
  omega
def LF:R2:=λx y H Q=>∃l b xs zs,x=.ref l/\y=.ref b/\H l=some (.lst xs)/\H b=some (.lst zs)/\xs.length+zs.length<=sizeLine/\∀p,H p=none->Q (.ref p) (upd H p (.lst (xs++zs)))
def LG:bI X (binaryOp .Add) LF:=by
 intro pins s σ H x y v u Q I rx ry h
 obtain ⟨l,b,xs,zs,rfl,rfl,hH,hB,hz,q⟩:=h
 cases rx
 cases ry
 obtain ⟨z,its,n,r,hl,e⟩:=I.lstM hH
 obtain ⟨z2,c6,n2,r2,V3,e2⟩:=I.lstM hB
 refine PySem.P.add_list e e2 ?_ (by rw [yT,yT];omega)
 have ea:its.toArray++c6.toArray=(its++c6).toArray:=by simp
 rw [ea]
 exact ⟨.ref _,_,I.lnew (t':=s.toks) (r.append r2) (by rw [wA];omega),rfl,q _ I.fresh⟩
end
end L2
namespace Att
open PySem PySem.W PySem.Calls PyProof.Rows
def LH {P:Params}{h:Heap}:∀(ns:List Int) (vs:Ah),WellAll P h vs (ns.map WData.int)->IntsAre vs ns:=by
 intro ns
 induction ns with
 |nil =>
  intro vs w
  rw [List.map_nil] at w
  cases w
  exact .nil
 |cons n ns ih =>
  intro vs w
  rw [jg] at w
  cases w with
  |cons a b =>
   cases a
   exact .cons _ _ (ih _ b)
def LI {l:OpenLaw}{n:Nat}(hn:l.most=some n) {P:Params}{h:Heap}{args:List WData}{vals:Ah}
  (mW:l.row.toRowW.claim.pre args=true) (hwl:WellAll P h vals args) :
  ∃a vs ns,vals=[Value.ref a]/\args=[WData.list (ns.map WData.int)]/\h.get? a=some { cls:=.type "list", data:=.seq vs.toArray }/\IntsAre vs ns/\ns.length<=n:=by
 have LJ:WShape.hasAll [] args [.list .int]=true:=(pre_splitW mW).1
 have hc:l.pre.holds [] { args:=args }=true:=(pre_splitW mW).2
 obtain ⟨d,r,rfl,h1,h2⟩:=hasAllW_cons LJ
 obtain rfl:=hasAllW_nil h2
 obtain ⟨xs,rfl,h3⟩:=hasW_list h1
 obtain ⟨ns,rfl⟩:=items_int h3
 have hlen:ns.length<=n:=by
  unfold OpenLaw.pre at hc
  have h4:(WTm.not (.lt (.lit (.int (n:Int))) (.len (.arg 0)))).holds [] { args:=[.list (ns.map .int)] }=true:=by
   have h4:=(holds_andW hc).1
   rw [hn] at h4
   exact h4
  have h5:=condW_of h4 (w_not (w_lt w_lit (w_len_list (w_arg rfl))))
  rw [jD] at h5
  refine Nat.le_of_not_lt λq=>?_
  have q':(n:Int)<((ns.length:Nat):Int):=by omega
  first
   | (rw [wq q'] at h5;exact absurd h5 (by decide))
   | (simp at h5;omega)
 cases hwl with
 |cons w1 w2 =>
  cases w2
  cases w1 with
  |list ho eX=>exact ⟨_,_,ns,rfl,rfl,ho,LH ns _ eX,hlen⟩
def LM (l:OpenLaw) (args:List WData):l.row.toRowW.claim.post args (.bool true) args=true :=
 postW_of (r:=l.row.toRowW) (X:=(true==true))
  (show WShape.has [] (.bool true) .bool=true by first|rfl|decide|simp [WShape.has,WShape.arms,WShape.armsAll])
  (show (WTm.eq .res (.lit (.bool true))).value [] { args:=args,res:=some (.bool true),after:=args }=some (.bool (true==true)) from w_eq_bool (w_res rfl) w_lit) rfl
def attach_call {l:OpenLaw}{n:Nat}{q:Program}{loose:Ae}{XP:(Ab)->Heap->Prop}{YP:World->Heap->Prop}{d:DefRec}
  (hn:l.most=some n) (pd:d.params.defaults=[])
  (call:∀(w:World) (s₀ am:Shared) (mg mb:Ab) (fa:Addr) (o:Obj) (pm cd doc:Value) (a:Addr) (vs:Ah) (ns:List Int),
   Ground q loose [] XP w s₀ mg mb am.heap->YP w am.heap ->
   am.heap.get? fa=some o->o.data=.func (docDef d.name d.params d.body d.scope pm cd doc)->am.heap.CodeRec cd d.name->mg d.name=some (.ref fa) ->
   am.heap.get? a=some { cls:=.type "list", data:=.seq vs.toArray }->IntsAre vs ns->ns.length<=n->am.gens=#[] ->
   codeAny (model l.prog w) callerA (.call (.ref fa) ⟨[.ref a],[]⟩) (λr s'=>r=.ok (.ret (.bool true))/\OldK am.heap s'.heap/\s'.os=am.os/\AllBare s'.gens) am) :
  WalkO q loose XP YP l.row.toRowW d [] (λf vs=>PySem.call f vs):=by
 intro w s₀ am mg mb G Y fa o pm cd doc dV kV ho hd fw hD hmg hg args vals as mW hlay hrd hwl rG
 obtain rfl:dV=.none:=Dflts.none hD pd
 obtain rfl:kV=.none:=Dflts.noKw hD
 obtain ⟨a,vs,ns,rfl,rfl,pe,hints,hlen⟩:=LI hn mW hwl
 refine enter_call (codeAny_mono (call w s₀ am mg mb fa o pm cd doc a vs ns G Y ho (fd_plain hd) fw hmg pe hints hlen hg) λr s' hq=>?_)
 obtain ⟨rfl,h2,h3,h4⟩:=hq
 exact ⟨.inl ⟨.bool true,.bool true,[],rfl,λ_=>rfl,.bool true,LM l _,λ_=>⟨List.Pairwise.nil,λ_ hm=>(nomatch hm)⟩⟩,h2,h3,h4⟩
end Att
namespace L2
open PySem PySem.Spec PyProof.Rows
theorem CA:∀{vs:Ah}{ns:List Int},IntsAre vs ns->Vals (ns.map V.int) vs
 |_,_,.nil=>.nil
 |_,_,.cons n t h=>.cons ⟨t,rfl⟩ (CA h)
def Only (H:Hp):Prop:=∀b,H b=none\/∃o xs,H b=some (.frz o (.lst xs))
def LQ {P:Program}{w:World}{K:PySem.W.Frag}{mg mb:Ab}{CX:ez}{k:Nat}{fa a:Addr}{fd:FuncData}{x:Str}{sp:Sp}{am:Shared}{vs:Ah}{ns:List Int}
  (KX:K.In am.heap) (CB:am.heap.Ns mainGlobals mg) (hb:am.heap.Ns builtinsNs mb) (LR:∀x:Str,x ≠ "__name__" -> mb x=bootBuiltins x) (pf:am.heap.NoLimit) (hg:am.gens=#[])
  (ha:am.heap.get? a=some { cls:=.type "list", data:=.seq vs.toArray }) (hi:IntsAre vs ns) (hl:ns.length<=sizeLine) (hr:bb k callerA)
  (F:∀base:Heap,K.In base->base.Ns mainGlobals mg->bz P w K mg base CX k fa fd [x] sp) (vp:∀(s:Shared) (u:Value),BindsTo s fd ⟨[u],[]⟩ [(x,u)])
  (gG:∀H:Hp,Only H->ba K H a (ns.map V.int)->sp [.ref a] H (λv _=>v=.bl true) λ_ _ _=>False)
  (vq:∀H e s',CX [] H am (λ_ _ _=>False) e s'->False) :
  codeAny (model P w) callerA (.call (.ref fa) ⟨[.ref a],[]⟩) (λr s'=>r=.ok (.ret (.bool true))/\OldK am.heap s'.heap/\s'.os=am.os/\AllBare s'.gens) am:=by
 have rv:=CA hi
 have CC:=hi.length
 have core:∀H:Hp,Only H->ba K H a (ns.map V.int)->bZ P w H am.heap->(∀b,H b≠none->b=a)->(H a≠none->K.lookup a=none) ->
   codeAny (model P w) callerA (.call (.ref fa) ⟨[.ref a],[]⟩) (λr s'=>r=.ok (.ret (.bool true))/\OldK am.heap s'.heap/\s'.os=am.os/\AllBare s'.gens) am:=by
  intro H hO hS hok hA hK
  have kr:∀{b:Addr} {o:Obj},am.heap.get? b=some o->H b=none->(eS am.heap H).get? b=some o:=λe n=>IH e n
  have o9:∀{b:Addr} {o:Obj} {es:Array DictEntry} {ep:Nat},am.heap.get? b=some o->o.data=.dict es ep->H b=none:=λ{b o es ep} e d=>by
   cases q:H b with
   |none=>rfl
   |some u =>
    have e':b=a:=hA b (by rw [q];simp)
    subst e'
    rw [ha] at e;cases e
    have d':Data.seq vs.toArray _=Data.dict es ep:=d
    cases d'
  have rH:∀{b:Addr} {m:Ab},am.heap.Ns b m->(eS am.heap H).Ns b m:=λ{b m} ⟨o,es,ep,e,d,r⟩=>⟨o,es,ep,kr e (o9 e d),d,r⟩
  have CD:K.In (eS am.heap H):=λb o e=>kr (KX b o e) (by
   cases q:H b with
   |none=>rfl
   |some u =>
    have e':b=a:=hA b (by rw [q];simp)
    subst e'
    rw [hK (by rw [q];simp)] at e;cases e)
  have hM:Mod K mg (eS am.heap H):=⟨CD,rH CB,⟨mb,rH hb,LR⟩,let ⟨mc,h1,h2⟩:=pf;⟨mc,rH h1,h2⟩⟩
  have e0:d9 P w K mg (eS am.heap H) callerA [] am H:=⟨rfl,hM,λb o e=>II e,Nat.le_of_eq (IG _ _),trivial,λb hb=>absurd (show b∈([]:Af) from hb) (by simp),hok,.of_eq hg⟩
  refine codeAny_mono ((F _ CD (rH CB)).run callerA [] am H ⟨[.ref a],[]⟩ [.ref a] [.ref a] _ _ hr e0 (vp am (.ref a)) (.cons rfl .nil) (gG H hO hS)) λr s' h=>?_
  cases r with
  |error e=>exact (vq H e s' h).elim
  |ok fl =>
   cases fl with
   |next=>exact h.elim
   |brk=>exact h.elim
   |cont=>exact h.elim
   |ret u =>
    obtain ⟨v,H',os,bare,un,CF,r',q⟩:=h
    have q':v=.bl true:=q
    subst q'
    obtain rfl:u=Value.bool true:=r'
    refine ⟨rfl,OldK.of_keep λb o e=>?_,os,bare⟩
    cases q:H b with
    |none=>exact un.keep b o e q (by intro z;exact absurd (show b∈([]:Af) from z) (by simp)) (by simp)
    |some u =>
     rcases hO b with z|⟨ob,xs,z⟩
     ·rw [q] at z;cases z
     ·have z2:=un.frzs b ob _ z
      obtain ⟨e1,_⟩:=hok b _ z
      obtain ⟨e2,_⟩:=CF b _ z2
      rw [e] at e1;cases e1
      exact e2
 cases hk:K.lookup a with
 |some o =>
  have e:=KX a o hk
  rw [ha] at e
  cases e
  refine core (λ_=>none) (λ_=>.inl rfl) (.inr ⟨_,vs.toArray,_,hk,rfl,rfl,rfl,by rw [yT,CC];exact hl,by simpa using rv⟩) (λb u z=>by have z':(none:Option HO)=some u:=z;cases z') (λb z=>absurd rfl z) λz=>absurd rfl z
 |none =>
  refine core (λb=>if b=a then some (.frz { cls:=.type "list", data:=.seq vs.toArray } (.lst (ns.map V.int))) else none) (λb=>?_) (.inl (.inr ⟨{ cls:=.type "list", data:=.seq vs.toArray },zC rfl⟩)) (λb u z=>?_) (λb z=>?_) λ_=>hk
  ·by_cases hb:b=a
   ·exact .inr ⟨_,_,zC hb⟩
   ·exact .inl (zQ hb)
  ·by_cases hb:b=a
   ·have z':=(zC hb).symm.trans z
    cases z'
    subst hb
    exact ⟨ha,by rw [jD];exact hl,vs,_,rv,ha⟩
   ·have z':=(zQ hb).symm.trans z
    cases z'
  ·by_cases hb:b=a
   ·exact hb
   ·exact absurd (zQ hb) z
abbrev KOf {K:PySem.W.Frag}{h:Heap}(_:K.In h):PySem.W.Frag:=K
def zoG {l:PySem.W.OpenLaw}{n k:Nat}{q:Program}{loose:Ae}{XP:(Ab)->Heap->Prop}{YP:World->Heap->Prop}{d:DefRec}{K:Params->PySem.W.Frag}{CX:World->ez}{sp:World->Sp}{x:Str}
  (hn:l.most=some n) (fK:n<=sizeLine) (pd:d.params.defaults=[]) (hr:bb k callerA)
  (hY:∀(w:World) (h:Heap),YP w h->(K w.params).In h)
  (F:∀(w:World) (mg:Ab) (fa:Addr) (h:Heap),(K w.params).In h->h.Ns mainGlobals mg->mg d.name=some (.ref fa) ->
   ∃fd:FuncData,(∀(s:Shared) (u:Value),BindsTo s fd ⟨[u],[]⟩ [(x,u)]) /\
    ∀base:Heap,(K w.params).In base->base.Ns mainGlobals mg->bz l.prog w (K w.params) mg base (CX w) k fa fd [x] (sp w))
  (gG:∀(w:World) (H:Hp) (a:Addr) (ns:List Int),ns.length<=n->Only H->ba (K w.params) H a (ns.map V.int)->sp w [.ref a] H (λv _=>v=.bl true) λ_ _ _=>False)
  (vq:∀(w:World) (H:Hp) (s:Shared) (e:Value) (s':Shared),CX w [] H s (λ_ _ _=>False) e s'->False) :
  PySem.W.WalkO q loose XP YP l.row.toRowW d [] (λf vs=>PySem.call f vs):=by
 refine Att.attach_call hn pd λw s₀ am mg mb fa o pm cd doc a vs ns G Y ho hd fw hmg pe hints hlen hg=>?_
 have KX:=hY w _ Y
 obtain ⟨fd,hb,hF⟩:=F w mg fa _ KX G.T.g hmg
 exact LQ KX G.T.g G.T.b G.T.builtins G.T.nolimit hg pe hints (jw hlen fK) hr hF hb (λH hO hS=>gG w H a ns hlen hO hS) λH e s'=>vq w H am e s'
def inClass (s:Stmt) (j:Nat):Stmt:=match s with
 |.ClassDef _ _ _ body _ _ _ _ _ _ _=>body.getD j (.Pass ⟨0,0,0,0⟩)
 |_=>.Pass ⟨0,0,0,0⟩
def wE (s:Stmt):Arguments:=match s with
 |.FunctionDef _ a _ _ _ _ _ _ _ _=>a
 |_=>{ posonlyargs:=[],args:=[],vararg:=none,kwonlyargs:=[],kw_defaults:=[],kwarg:=none,defaults:=[] }
def jz (s:Stmt):List Stmt:=match s with
 |.FunctionDef _ _ b _ _ _ _ _ _ _=>b
 |_=>[]
def zG (s:Stmt):Scope:=match s with
 |.FunctionDef _ _ _ _ _ _ sc _ _ _=>sc
 |_=>{ kind:=.function,names:=[],isGenerator:=false,isCoroutine:=false }
abbrev CG:ez:=λ_ _ _ _ _ _=>False
abbrev E0:XK:=λ_ _ _=>False
structure dJ (K:PySem.W.Frag) (x qual:Str) (st:Stmt) (f:Addr) (fd:FuncData):Prop where
 ex:∃(oc:Value) (od:Option Addr) (kV doc pm:Value) (an:Option Addr) (aY ct:Value) (eA:Array (Option Value)),
  fd=PySem.W.fnOf x qual (wE st) (jz st) (zG st) .none kV doc pm an aY ct/\K.lookup f=some ⟨oc,od,.func fd,eA⟩/\PySem.W.codeIn K aY qual=true
 kp:PySem.W.keepIn K (.ref f)=true
section
variable {P:Program} {w:World} {K:PySem.W.Frag} {mg:Ab} {base:Heap}
def dJ.ok {x qual:Str}{st:Stmt}{f:Addr}{fd:FuncData}{N ps:Ae}{k:Nat}{sp:Sp}(F:dJ K x qual st f fd) (S:aE N ps (zG st)) (len:∀vs H Q E,sp vs H Q E->vs.length=ps.length)
  (eE:∀(aY:Value) (A:Around) (outer:List Env) (s:Shared) (H:Hp) (vs:List V) (Q:VK) (E:XK),bb k (A.deeper (envOfC qual (zG st) s.heap.objs.size f aY))->sp vs H Q E ->
   ∃t,cq (dn CG P w K mg base N qual (zG st) f aY A outer s H E).nox (jz st) t/\t { nx:=λ_ H'=>Q .non H',rt:=Q } (start N vs) H):bz P w K mg base CG (k+1) f fd ps sp:=by
 obtain ⟨oc,od,kV,doc,pm,an,aY,ct,eA,rfl,lk,fw⟩:=F.ex
 refine Cj lk fw S len λA outer s H vs Q E hr gG=>?_
 obtain ⟨t,h,q⟩:=eE aY A outer s H vs Q E hr gG
 exact ⟨t,h.nox,q⟩
def dJ.binds {x qual:Str}{st:Stmt}{f:Addr}{fd:FuncData}{ps:Ae}(F:dJ K x qual st f fd)
  (h:∀(kV doc pm:Value) (an:Option Addr) (aY ct:Value) (us:Ah),us.length=ps.length->bindArgs (PySem.W.fnOf x qual (wE st) (jz st) (zG st) .none kV doc pm an aY ct) ⟨us,[]⟩=pure (ps.zip us)):Binds K fd ps []:=by
 obtain ⟨oc,od,kV,doc,pm,an,aY,ct,eA,rfl,lk,fw⟩:=F.ex
 exact .all (h kV doc pm an aY ct)
def ku {x qual:Str}{st:Stmt}{f:Addr}{oc:Value}{od an:Option Addr}{eA:Array (Option Value)}{kV doc pm aY ct:Value}(l:K.lookup f=some ⟨oc,od,.func (PySem.W.fnOf x qual (wE st) (jz st) (zG st) .none kV doc pm an aY ct),eA⟩)
  (c:PySem.W.codeIn K aY qual=true) (k:PySem.W.keepIn K (.ref f)=true):dJ K x qual st f (PySem.W.fnOf x qual (wE st) (jz st) (zG st) .none kV doc pm an aY ct):=⟨⟨oc,od,kV,doc,pm,an,aY,ct,eA,rfl,l,c⟩,k⟩
end
def d_ (H H':Hp):Prop:=∀b o,H b=some o->H' b=some o
def d_.refl (H:Hp):d_ H H:=λ_ _ h=>h
def d_.trans {H H1 H2:Hp}(a:d_ H H1) (b:d_ H1 H2):d_ H H2:=λc o h=>b c o (a c o h)
def d_.free {H H':Hp}(e:d_ H H') {l:Addr}(h:H' l=Option.none):H l=Option.none:=by
 cases q:H l with
 |none=>rfl
 |some o =>
  rw [e l o q] at h
  cases h
def d_.seq {K:PySem.W.Frag}{H H':Hp}{a:Addr}{xs:List V}(e:d_ H H') (h:ba K H a xs):ba K H' a xs:=by
 rcases h with (h|⟨o,h⟩)|h
 ·exact .inl (.inl (e _ _ h))
 ·exact .inl (.inr ⟨o,e _ _ h⟩)
 ·exact .inr h
end L2
set_option maxHeartbeats 4000000
namespace L2
open PySem PySem.Spec PyProof.Rows
def CH {l z D b:Nat}(h1:l<z) (h2:z=D) (h3:D<=b) (h4:b=l):False:=by omega
def lj {b D C:Nat}(h1:b<D) (h2:C=D+1) (h3:b=C):False:=by omega
def CJ {b e d:Nat}(h1:b<e) (h2:e<=d) (h3:d<=b):False:=by omega
def CK {b D p:Nat}(h1:b<D) (h2:p=D) (h3:p=b):False:=by omega
theorem vt (env:Env):∀(l:List (Str×NameKind)) (acc:List (Str×Addr)),(∀p∈l,p.2=.free->∃c,env.cells.lookup p.1=some c) ->
  ∃cl,(forIn l acc (λ(x:Str×NameKind) (cs:List (Str×Addr))=>if (x.snd==NameKind.free)=true then do
            let a <-cellOf env x.fst
            pure (ForInStep.yield ((x.fst,a)::cs))
      else pure (ForInStep.yield cs)):Sem (List (Str×Addr)))=pure cl /\
   (∀y c,(y,c)∈cl->(y,c)∈acc\/(env.cells.lookup y=some c/\(y,NameKind.free)∈l))/\(∀p∈acc,p∈cl)/\(∀y,(y,NameKind.free)∈l->∃c,(y,c)∈cl)
 |[],acc,_=>⟨acc,rfl,λ_ _ h=>.inl h,λ_ h=>h,λ_ h=>nomatch h⟩
 | (n,k)::r,acc,eX=>by
  by_cases hk:k=.free
  ·subst hk
   obtain ⟨c,hc⟩:=eX (n,.free) jC rfl
   obtain ⟨cl,e,h1,h2,h3⟩:=vt env r ((n,c)::acc) λp hp=>eX p (jZ _ hp)
   refine ⟨cl,?_,λy d hy=>?_,λp hp=>h2 p (jZ _ hp),λy hy=>?_⟩
   ·rw [List.forIn_cons]
    simp only [beq_self_eq_true,if_true]
    have:cellOf env n=pure c:=by unfold cellOf;rw [hc]
    rw [this]
    exact e
   ·rcases h1 y d hy with q|q
    ·rcases yE.mp q with q|q
     ·cases q
      exact .inr ⟨hc,jC⟩
     ·exact .inl q
    ·exact .inr ⟨q.1,jZ _ q.2⟩
   ·rcases yE.mp hy with q|q
    ·cases q
     exact ⟨c,h2 _ jC⟩
    ·exact h3 y q
  ·obtain ⟨cl,e,h1,h2,h3⟩:=vt env r acc λp hp=>eX p (jZ _ hp)
   refine ⟨cl,?_,λy d hy=>?_,h2,λy hy=>?_⟩
   ·rw [List.forIn_cons]
    have:(k==NameKind.free)=false:=by simpa using hk
    simp only [this,Bool.false_eq_true,if_false]
    exact e
   ·rcases h1 y d hy with q|q
    ·exact .inl q
    ·exact .inr ⟨q.1,jZ _ q.2⟩
   ·rcases yE.mp hy with q|q
    ·cases q
     exact absurd rfl hk
    ·exact h3 y q
theorem CL {β:Type}{y:Str}:∀{l:List (Str×β)}{c:β},(y,c)∈l->∃d,l.lookup y=some d
 | (n,b)::r,c,h=>by
  rw [wL]
  cases e:y==n with
  |true=>exact ⟨b,rfl⟩
  |false =>
   rcases yE.mp h with q|q
   ·cases q
    simp at e
   ·exact CL q
def CM (env:Env) (scope:Scope) (eX:∀p∈scope.names,p.2=.free->∃c,env.cells.lookup p.1=some c) :
  ∃cl,closureFor scope env=pure cl/\(∀y c,cl.lookup y=some c->env.cells.lookup y=some c)/\(∀y,(y,NameKind.free)∈scope.names->∃c,cl.lookup y=some c):=by
 obtain ⟨cl,e,h1,_,h3⟩:=vt env scope.names [] eX
 refine ⟨cl,?_,λy c hy=>?_,λy hy=>?_⟩
 ·simp only [closureFor]
  rw [e]
  rfl
 ·rcases h1 y c (PySem.mem_of_lookup hy) with z|z
  ·cases z
  ·exact z.1
 ·obtain ⟨c,hc⟩:=h3 y hy
  exact CL hc
structure cy (sc scope:Scope) (x:Str):Prop where
 kind:scope.kind=.function
 ncell:∀y∈scope.names,y.2 ≠ .cell
 names:∀y∈scope.names,y.2=.local->scope.names.lookup y.1=some .local/\(y.1=x\/y.1 = ".0")
 hx:scope.names.lookup x=some .local
 free:∀y∈scope.names,y.2=.free->sc.names.lookup y.1=some .cell
def kA (X:Cx) (M:Ae) (scope:Scope) (cl:List (Str×Addr)) (x:Str) (C:Addr) (af:Shared) (ai:Hp) (fp:Af) (E:Aa):Cx :=
 { X with N:=x::M,s₀:=af,H₀:=ai,env:=compEnvC scope cl C X.env,outer:=X.stack,ex:=fp,fn:=λ_=>false,pn:=[],xe:=E }
def Hid (scope:Scope) (M N:Ae):Prop:=M.length=N.length/\∀p∈M.zip N,p.1=p.2\/p.1∉scope.names.map Prod.fst
def Hid.refl {scope:Scope}{N:Ae}:Hid scope N N:=⟨rfl,λp hp=>.inl (by
 obtain ⟨i,hi,e⟩:=oJ hp
 rw [List.getElem_zip] at e
 rw [<-e])⟩
def Hid.get {scope:Scope}{M N:Ae}(h:Hid scope M N) {i:Nat}{y:Str}(e:M[i]?=some y):N[i]?=some y\/y∉scope.names.map Prod.fst:=by
 obtain ⟨hi,ei⟩:=yD.mp e
 have hj:i<N.length:=h.1▸hi
 have hm:(M[i],N[i])∈M.zip N:=jR (i:=i) (by rw [List.getElem?_zip_eq_some];exact ⟨yi hi,yi hj⟩)
 rcases h.2 _ hm with q|q
 ·exact .inl (by rw [yi hj,<-ei];exact congrArg some q.symm)
 ·exact .inr (by rw [<-ei];exact q)
def rJ (X:Cx) (scope:Scope) (cl:List (Str×Addr)) (x:Str) (C:Addr) (af:Shared) (ai:Hp) (fp:Af) (E:Aa):Cx :=
 { X with N:=x::X.N,s₀:=af,H₀:=ai,env:=compEnvC scope cl C X.env,outer:=X.stack,ex:=fp,fn:=λ_=>false,pn:=[],xe:=E }
section
variable {X:Cx} {scope:Scope} {x:Str}
def kB {env:Env}{y:Str}{k:NameKind}(h:(relabel scope env).names.lookup y=some k):∃k0,(y,k0)∈scope.names/\((k0=.free/\env.kindOf y=some .cell/\k=.cell)\/(k=k0/\¬(k0=.free/\env.scope.kind=.function/\env.kindOf y=some .cell))):=by
 have hm:=PySem.mem_of_lookup h
 obtain ⟨⟨n,k0⟩,hn,e⟩:=wC.mp hm
 by_cases hc:(k0==NameKind.free&&env.scope.kind == .function&&env.kindOf n==some .cell)=true
 ·have e':(n,NameKind.cell)=(y,k):=by rw [<-e];simp only [hc,if_true]
  cases e'
  simp only [wB,beq_iff_eq] at hc
  exact ⟨_,hn,.inl ⟨hc.1.1,hc.2,rfl⟩⟩
 ·have e':(n,k0)=(y,k):=by rw [<-e];simp only [hc,if_false];rfl
  cases e'
  refine ⟨_,hn,.inr ⟨rfl,λ⟨a,b,c⟩=>hc ?_⟩⟩
  simp [a,b,c]
def CN (S:cy X.env.scope scope x) {y:Str} (h:(relabel scope X.env).names.lookup y=some .local):y=x\/y = ".0" := by
 obtain ⟨k0,hm,⟨_,_,e⟩|⟨e,_⟩⟩:=kB h
 ·cases e
 ·subst e
  exact (S.names _ hm rfl).2
def vv (S:cy X.env.scope scope x) (hk:X.env.scope.kind=.function) {y:Str}(h:(relabel scope X.env).names.lookup y=some .cell\/(relabel scope X.env).names.lookup y=some .free):(y,NameKind.free)∈scope.names:=by
 rcases h with h|h
 ·obtain ⟨k0,hm,⟨e,_,_⟩|⟨e,_⟩⟩:=kB h
  ·subst e;exact hm
  ·subst e;exact absurd rfl (S.ncell _ hm)
 ·obtain ⟨k0,hm,⟨_,_,e⟩|⟨e,n⟩⟩:=kB h
  ·cases e
  ·subst e
   exact hm
end
def LS {P:Program}{wd:World}{B:Around}{Z:Result->Shared->Prop}{u0:Shared}{el tg iter:Expr}{sc:Scope}{ps:Pos}{iv ac:Value}{ev:Env}(J0:Nat->Shared->Prop)
  (turn:∀k u,J0 k u->wpAny (model P wd) B (pyNext iv) (λr u1=>match r with|none=>Z (.ok .next) u1|some v=>wpAny (model P wd) B (letOwnedTupleGo tg iv v) (λ_ u2 =>
   wpAny (model P wd) B (assign tg ev v) (λ_ u3=>wpAny (model P wd) B (eval el ev) (λy u4=>wpAny (model P wd) B (call (.builtin "list.append") [ac,y]) (λ_ u5=>∃m,m<k/\J0 m u5)
    (notedBy (model P wd) B ev λe u=>Z (.error e) u) u4) (notedBy (model P wd) B ev λe u=>Z (.error e) u) u3) (notedBy (model P wd) B ev λe u=>Z (.error e) u) u2) (notedBy (model P wd) B ev λe u=>Z (.error e) u) u1)
   (notedBy (model P wd) B ev λe u=>Z (.error e) u) u)
  (k0:Nat) (il:J0 k0 u0):codeAny (model P wd) B (.compLoop (.ListComp el [⟨tg,iter,[],0⟩] sc ps) 0 iv ac ev) Z u0:=by
 refine codeAny_loop rfl J0 (λk u hJ=>wpAny_noted (E:=λe u=>Z (.error e) u) (env:=ev) (m:=compTurn (.ListComp el [⟨tg,iter,[],0⟩] sc ps) 0 iv ac ev) ?_) k0 il
 rw [compTurn_list1]
 have one:=turn k u hJ
 refine zu (wpAny_standAt (zu (jn one (λr u1 q1=>?_) λ_ _ z=>z)))
 cases r with
 |none=>exact ya q1
 |some v =>
  refine zu (jn q1 (λ_ u2 q2=>zu (jn q2 (λ_ u3 q3=>?_) λ_ _ z=>z)) λ_ _ z=>z)
  exact zu (zu (jn q3 (λy u4 q4=>zu (jn q4 (λ_ u5 q5=>ya (ya ⟨rfl,q5⟩)) λ_ _ z=>z)) λ_ _ z=>z))
def lq (J:It) (te:TE) (σ:St) (Q:VK) (H1:Hp):Prop:=∃W:Nat->Nat->List V->Hp->Prop,(∃m,W 0 m [] H1)/\∀i m ys H,W i m ys H ->
 (J.stop i H/\ys.length<=sizeLine/\∀l,H l=none->Q (.ref l) (upd H l (.lst ys))) \/
 (J.go i H/\ys.length<=sizeLine/\∀z H',J.yld i H z H'->te (some z::σ) H' λy H2=>∃m',m'<m/\W (i+1) m' (ys++[y]) H2)
def vw (wi:TI) (te:TE):TE:=fun σ H Q=>wi σ H λJ H1=>lq J te σ Q H1
end L2
namespace L2
open PySem PySem.Spec PyProof.Rows PySem.W
structure c7 (sc scope:Scope) (xs:Ae):Prop where
 kind:scope.kind=.function
 ncell:∀y∈scope.names,y.2 ≠ .cell
 names:∀y∈scope.names,y.2=.local->scope.names.lookup y.1=some .local/\(y.1∈xs\/y.1 = ".0")
 free:∀y∈scope.names,y.2=.free->sc.names.lookup y.1=some .cell
def fW (X:Cx) (scope:Scope) (cl:List (Str×Addr)) (xs:Ae) (C:Addr) (af:Shared) (ai:Hp) (fp:Af) (E:Aa):Cx :=
 { X with N:=xs++X.N,s₀:=af,H₀:=ai,env:=compEnvC scope cl C X.env,outer:=X.stack,ex:=fp,fn:=λ_=>false,pn:=[],xe:=E }
def dH (X:Cx) (M:Ae) (scope:Scope) (cl:List (Str×Addr)) (xs:Ae) (C:Addr) (af:Shared) (ai:Hp) (fp:Af) (E:Aa):Cx :=
 { X with N:=xs++M,s₀:=af,H₀:=ai,env:=compEnvC scope cl C X.env,outer:=X.stack,ex:=fp,fn:=λ_=>false,pn:=[],xe:=E }
section
variable {X:Cx} {scope:Scope} {xs:Ae}
def CO (S:c7 X.env.scope scope xs) {y:Str} (h:(relabel scope X.env).names.lookup y=some .local):y∈xs\/y = ".0" := by
 obtain ⟨k0,hm,⟨_,_,e⟩|⟨e,_⟩⟩:=kB h
 ·cases e
 ·subst e
  exact (S.names _ hm rfl).2
def vx (S:c7 X.env.scope scope xs) (hk:X.env.scope.kind=.function) {y:Str}(h:(relabel scope X.env).names.lookup y=some .cell\/(relabel scope X.env).names.lookup y=some .free):(y,NameKind.free)∈scope.names:=by
 rcases h with h|h
 ·obtain ⟨k0,hm,⟨e,_,_⟩|⟨e,_⟩⟩:=kB h
  ·subst e;exact hm
  ·subst e;exact absurd rfl (S.ncell _ hm)
 ·obtain ⟨k0,hm,⟨_,_,e⟩|⟨e,n⟩⟩:=kB h
  ·cases e
  ·subst e
   exact hm
end
def iq (X:Cx) (ifs:List Expr) (t:TT):Prop:=∀(pins:Ac) (s:Shared) (σ:St) (H:Hp) (Q:Bool->Hp->Prop),Inv X pins σ H s->t σ H Q ->
 wpAny (model X.prog X.w) X.A (forIn ifs true λc r=>if r=true then do let ok <-isTrue c X.env (eval c X.env);pure (ForInStep.yield ok) else pure (ForInStep.yield r)) (TP X pins σ Q) X.xe s
def nE:TT:=λ_ H Q=>Q true H
def CP {X:Cx}:iq X [] nE:=λpins s σ H Q I h=>wpAny_tests_nil ⟨H,I,h⟩
def CQ {X:Cx}{c:Expr}{t:TT}(h:PT X c t):iq X [c] t:=λpins s σ H Q I q=>wpAny_tests_one (h pins s σ H Q I q)
theorem iq.nox {X:Cx}{ifs:List Expr}{t:TT}(h:iq X.nox ifs t):iq X ifs t:=λpins s σ H Q I hw =>
 jn (h pins s σ H Q (I.wish _) hw) (λb s' ⟨H',I',q⟩=>⟨H',I'.unwish,q⟩) λ_ _ z=>z.elim
def LU {P:Program}{wd:World}{B:Around}{Z:Result->Shared->Prop}{u0:Shared}{el tg iter:Expr}{ifs:List Expr}{sc:Scope}{ps:Pos}{iv ac:Value}{ev:Env}(J0:Nat->Shared->Prop)
  (turn:∀k u,J0 k u->wpAny (model P wd) B (pyNext iv) (λr u1=>match r with|none=>Z (.ok .next) u1|some v=>wpAny (model P wd) B (letOwnedTupleGo tg iv v) (λ_ u2 =>
   wpAny (model P wd) B (assign tg ev v) (λ_ u3=>wpAny (model P wd) B (forIn ifs true λc r=>if r=true then do let ok <-isTrue c ev (eval c ev);pure (ForInStep.yield ok) else pure (ForInStep.yield r)) (λok u4 =>
    if ok=true then wpAny (model P wd) B (eval el ev) (λy u5=>wpAny (model P wd) B (call (.builtin "list.append") [ac,y]) (λ_ u6=>∃m,m<k/\J0 m u6)
    (notedBy (model P wd) B ev λe u=>Z (.error e) u) u5) (notedBy (model P wd) B ev λe u=>Z (.error e) u) u4 else ∃m,m<k/\J0 m u4) (notedBy (model P wd) B ev λe u=>Z (.error e) u) u3) (notedBy (model P wd) B ev λe u=>Z (.error e) u) u2) (notedBy (model P wd) B ev λe u=>Z (.error e) u) u1)
   (notedBy (model P wd) B ev λe u=>Z (.error e) u) u)
  (k0:Nat) (il:J0 k0 u0):codeAny (model P wd) B (.compLoop (.ListComp el [⟨tg,iter,ifs,0⟩] sc ps) 0 iv ac ev) Z u0:=by
 refine codeAny_loop rfl J0 (λk u hJ=>wpAny_noted (E:=λe u=>Z (.error e) u) (env:=ev) (m:=compTurn (.ListComp el [⟨tg,iter,ifs,0⟩] sc ps) 0 iv ac ev) ?_) k0 il
 rw [compTurn_list]
 have one:=turn k u hJ
 refine zu (wpAny_standAt (zu (jn one (λr u1 q1=>?_) λ_ _ z=>z)))
 cases r with
 |none=>exact ya q1
 |some v =>
  refine zu (jn q1 (λ_ u2 q2=>zu (jn q2 (λ_ u3 q3=>zu (jn q3 (λok u4 q4=>?_) λ_ _ z=>z)) λ_ _ z=>z)) λ_ _ z=>z)
  cases ok with
  |true=>exact zu (zu (jn q4 (λy u4 q4=>zu (jn q4 (λ_ u5 q5=>ya (ya ⟨rfl,q5⟩)) λ_ _ z=>z)) λ_ _ z=>z))
  |false=>exact zu (ya (ya ⟨rfl,q4⟩))
def iu (J:It) (gt:TG) (tt:TT) (te:TE) (n:Nat) (σ:St) (Q:VK) (H1:Hp):Prop:=∃W:Nat->Nat->List V->Hp->Prop,(∃m,W 0 m [] H1)/\∀i m ys H,W i m ys H ->
 (J.stop i H/\ys.length<=sizeLine/\∀l,H l=none->Q (.ref l) (upd H l (.lst ys))) \/
 (J.go i H/\ys.length<=sizeLine/\∀z H',J.yld i H z H'->gt z (List.replicate n none++σ) H' λaz H1=>∃own:St,az=own++σ/\own.length=n/\tt az H1 λb H2 =>
  if b=true then te az H2 λy H3=>∃m',m'<m/\W (i+1) m' (ys++[y]) H3 else ∃m',m'<m/\W (i+1) m' ys H2)
def vy (wi:TI) (gt:TG) (tt:TT) (te:TE) (n:Nat):TE:=fun σ H Q=>wi σ H λJ H1=>iu J gt tt te n σ Q H1
def vz {X:Cx} {elt iter tg:Expr} {ifs:List Expr} {xs:Ae} {pos:Pos} {scope:Scope} {wi:TI} {gt:TG} {tt:TT} {te:TE} {M:Ae} (hc:X.calm=true) (S:c7 X.env.scope scope xs) (eN:Hid scope M X.N) (cj:((".0" : Str)::(xs++M)).Nodup)
  (hi:PI X tg iter wi) (vA:∀cl C af ai fp E,PG (dH X M scope cl xs C af ai fp E) tg gt) (lu:∀cl C af ai fp,iq (dH X M scope cl xs C af ai fp (λ_ _=>False)) ifs tt) (he:∀cl C af ai fp,PE (dH X M scope cl xs C af ai fp (λ_ _=>False)) elt te)
  (hs:∀v,foldedSetIterable iter X.env v=pure v:=by intro _;rfl):PE X (.ListComp elt [⟨tg,iter,ifs,0⟩] scope pos) (vy wi gt tt te xs.length):=by
 intro pins s σ H Q I h
 have hN:(xs++M).Nodup:=(j6.mp cj).2
 have vB:(".0" : Str)∉M:=λz=>(j6.mp cj).1 (y0 _ z)
 obtain ⟨cl,lx,cS,kC⟩:=CM X.env scope λp hp hf=>I.ok.has p.1 (.inl (S.free p hp hf))
 have ly:X.env.scope.kind=.function:=I.ok.kind
 rw [eval_ListComp]
 refine wpAny_comprehension_free (use:=none) rfl hs lx S.kind (λy hy hl=>(S.names y hy hl).1) ?_
 refine aX (hi pins s σ H _ I h) λv s1 h1=>aX h1 λrp af h2=>?_
 obtain ⟨it,fp,tn,J,H2,e,I2,T,aG,f2,W,⟨m0,w0⟩,turn⟩:=h2
 subst e
 refine wn (wpAny_newFunctionEnv S.ncell (by intro y hy;simp at hy) (λay aH aF=>?_) S.kind)
 dsimp only at aH aF ⊢
 generalize hH2:af.heap.push { cls:=.type "list", dict:=none,data:=.seq ([]:Ah).toArray }=G2 at aH aF ⊢
 have hC:G2.objs.size=af.heap.objs.size+1:=by rw [<-hH2,Heap.size_push]
 have gI:af.heap.objs.size≠G2.objs.size:=by rw [hC];exact yX (wt _)
 have CS:af.heap.objs.size<=G2.objs.size:=by rw [hC];exact Nat.le_succ _
 have old:∀b o,af.heap.get? b=some o->ay.get? b=some o:=λb o e=>by
  have hb:b≠G2.objs.size:=by rw [hC];exact yX (Nat.lt_succ_of_lt (yw e))
  exact aF.extBut b o hb (yl _ (hH2▸yl _ e))
 have cF:ay.get? af.heap.objs.size=some { cls:=.type "list", data:=.seq (#[]:Array Value) 0 }:=aF.extBut _ _ gI (yl _ (hH2▸yP _ rfl))
 generalize hD:af.heap.objs.size=D at *
 generalize hCC:G2.objs.size=C at *
 have dZ:∀{b:Nat} {o:Obj},af.heap.get? b=some o->b<D:=λe=>by rw [<-hD];exact yw e
 have nofr:∀b,D<=b->b∉cN X.stack:=λb hb z=>by
  rcases yE.mp (I2.stkSub b z) with q|q
  ·exact CH I2.lt hD hb q
  ·exact I2.nofs (by rw [hD];exact hb) q
 let E':Aa:=notedBy (model X.prog X.w) X.A (compEnvC scope cl C X.env) λe s'=>compPost (model X.prog X.w) X.A X.xe none (EP X pins σ Q) (.ref D) C (.error e) s'
 let Y:Cx:=dH X M scope cl xs C af H2 fp E'
 have dy:∀b∈fp,cP X pins H2 b:=f2
 have lC:Y.Ok:=by
  refine ⟨I2.ok.mod,S.kind,I2.ok.glob,I2.ok.blt,(by show af.heap.objs.size<=C;omega),λy z c h1 h2=>?_,λy hy=>?_,λy c hf=>?_,I2.ok.hd,I2.ok.frames,.inl rfl,λb hb=>?_,I2.bs,jw I2.ok.bsz I2.sz,λb o hb hx=>?_,λb hb hx=>?_,I2.stack,I2.stkFree⟩
  ·exact I2.ok.inj y z c (cS y c h1) (cS z c h2)
  ·exact kC y (vx S ly hy)
  ·cases hf
  ·refine ⟨λz=>?_,λy c hy=>(dy b hb).2.2.2.2.1 y c (cS y c hy)⟩
   obtain ⟨o,ho,_⟩:=T.obj 0 _ aG b hb
   exact lj (dZ ho) hC z
  ·rcases (dy b hx).2.2.2.1 with z|z
   ·exact I2.ok.noex b o hb z
   ·exact CJ (yw hb) I2.ok.bsz z
  ·rcases yE.mp (I2.stkSub b hx) with q|q
   ·exact (dy b hb).2.1 q
   ·exact (dy b hb).2.2.1 q
 have fA:∀{s':Shared} {H':Hp} {o:Obj},s'.heap.get? D=some o->H' D=none->(∀v,o.data ≠ .cell v)->∀p∈[(D,o)],s'.heap.get? p.1=some p.2/\H' p.1=none/\p.1≠Y.env.locals/\p.1∉Y.fs/\∀v,p.2.data ≠ .cell v:=λ{s' H' o} e1 e2 e3 p hp=>by
  have ep:p=(D,o):=by simpa using hp
  subst ep
  exact ⟨e1,e2,gI,nofr D (zM _),e3⟩
 have I0:Inv Y [(D,{ cls:=.type "list", data:=.seq (#[]:Array Value) 0 })] (List.replicate xs.length none++σ) H2 { af with heap:=ay,toks:=af.toks+([]:List (Str×Value)).length }:=by
  have fresh:∀b,D<=b->H2 b=none:=λb hb=>I2.hok.fresh (by rw [hD];exact hb)
  refine ⟨lC,rfl,I2.bare,Un.kept old,⟨_,aH,λi y v e1 e2 e3=>?_⟩,λy c hy=>?_,fresh C (by omega),λy c hy=>I2.freeC y c (cS y c hy),λp hp=>fA cF (fresh D (zM _)) (λv z=>by cases z) p hp,I2.hok.kept old,?_⟩
  ·by_cases bf:i<xs.length
   ·rw [wD (by simpa using bf),List.getElem?_replicate] at e2
    simp [bf] at e2
   ·obtain ⟨j,rfl⟩:∃j,i=xs.length+j:=⟨i-xs.length,by omega⟩
    have ph:M[j]?=some y:=by
     have:(xs++M)[xs.length+j]?=some y:=e1
     rw [wX (by omega)] at this
     simpa using this
    have pj:X.N[j]?=some y:=by
     rcases eN.get ph with q|q
     ·exact q
     ·refine absurd ?_ q
      rcases e3 with e3|e3|e3<;>(obtain ⟨k0,hm,_⟩:=kB e3;exact wC.mpr ⟨_,hm,rfl⟩)
    have vC:σ[j]?=some (some v):=by
     rw [wX (by simp)] at e2
     simpa using e2
    have pv:¬(y∈xs\/y = ".0"):=λz=>by
     have hm:=jR ph
     rcases z with z|z
     ·exact (List.nodup_append.mp hN).2.2 y z y hm rfl
     ·rw [z] at hm
      exact vB hm
    have dq:(y,NameKind.free)∈scope.names:=by
     rcases e3 with e3|e3|e3
     ·exact absurd (CO S e3) pv
     ·exact vx S ly (.inl e3)
     ·exact vx S ly (.inr e3)
    have pA:X.env.scope.names.lookup y=some .cell:=S.free _ dq rfl
    obtain ⟨m,hn,hl⟩:=I2.loc
    obtain ⟨u,r,l⟩:=hl j y v pj vC (.inr (.inl pA))
    refine ⟨u,r,?_⟩
    rcases l with ⟨hk,_⟩|⟨_,c,ni,dO⟩
    ·have:X.env.kindOf y=some .cell:=pA
     rw [this] at hk;cases hk
    ·obtain ⟨c',cG⟩:=kC y dq
     have:=cS y c' cG
     rw [ni] at this
     cases this
     refine .inr ⟨?_,c,cG,?_⟩
     ·rcases e3 with e3|e3|e3
      ·exact absurd (CO S e3) pv
      ·exact .inl e3
      ·exact .inr e3
     ·obtain ⟨o,ho,hd⟩:=dO
      exact ⟨o,old c o ho,hd⟩
  ·obtain ⟨v,o,ho,hd⟩:=I2.cell y c (cS y c hy)
   exact ⟨v,o,old c o ho,hd⟩
  ·show (List.replicate xs.length none++σ).length=(xs++M).length
   simp [I2.len,eN.1]
 have lE:∀{pl:Ac} {H':Hp},(∀p∈pl,p.1=D)->(∀b∈fp,H' b=none)->∀b∈fp,cP Y pl H' b:=λ{pl H'} bT hn b hb=>by
  obtain ⟨o,ho,_⟩:=T.obj 0 _ aG b hb
  refine ⟨hn b hb,λz=>?_,?_,.inl hb,(lC.exf b hb).2,λp hp z=>?_⟩
  ·exact lj (dZ ho) hC z
  ·exact lC.exfs b hb
  ·have hp':p∈pl:=by simpa [Y,dH] using hp
   exact CK (dZ ho) (bT p hp') z
 have loop:codeAny (model X.prog X.w) X.A (.compLoop (.ListComp elt [⟨tg,iter,ifs,0⟩] scope pos) 0 (.ref it) (.ref D) (compEnvC scope cl C X.env))
   (compPost (model X.prog X.w) X.A X.xe none (EP X pins σ Q) (.ref D) C) { af with heap:=ay,toks:=af.toks+([]:List (Str×Value)).length }:=by
  refine LU (λn s'=>∃i ys H' its k,Inv Y [(D,{ cls:=.type "list", data:=.seq (its:Ah).toArray k })] (List.replicate xs.length none++σ) H' s'/\Vals ys its/\tn i s'.heap/\(∀b∈fp,H' b=none)/\W i n ys H') ?_ m0
   ⟨0,[],H2,[],0,I0,.nil,T.keep 0 _ _ aG (λb hb o e=>old b o e),λb hb=>(dy b hb).1,w0⟩
  rintro n s3 ⟨i,ys,H3,its,k,I3,rv,a8,kj,w3⟩
  have fX:∀{o:Obj},∀p∈[(D,o)],p.1=D:=λ{o} p hp=>by
   have ep:p=(D,o):=by simpa using hp
   rw [ep]
  obtain ⟨gD,nD,_,_,_⟩:=I3.pin (D,_) (y0 _ jC)
  rcases turn i n ys H3 w3 with ⟨stop,hz,q⟩|⟨go,hz,step⟩
  ·refine aX (T.done Y rfl rfl rfl hc i _ s3 _ H3 E' I3 (lE fX kj) a8 stop) λr s4 ⟨hr,I4⟩=>?_
   subst hr
   obtain ⟨vD,lG,_,_,_⟩:=I4.pin (D,_) (y0 _ jC)
   obtain ⟨m4,vE,_⟩:=id I4.loc
   refine ⟨m4,vE,λh' dz=>?_⟩
   refine ⟨.ref D,upd H3 D (.lst ys),?_,rfl,q D lG⟩
   have gE:∀{b:Addr} {u:HO},H3 b=some u->b≠C:=λe z=>by
    have:H3 C=none:=I4.free
    rw [z,this] at e;cases e
   refine I2.call' (s':={ s4 with heap:=h' }) (ch:=fp) (H':=upd H3 D (.lst ys)) I4.os ?_ ?_ I4.bare λb hb=>⟨(dy b hb).2.2.2.1,(dy b hb).2.1,(dy b hb).2.2.2.2.1,(dy b hb).2.2.2.2.2⟩
   ·have B:=I4.base
    have lH:∀{b:Nat} {o:Obj},af.heap.get? b=some o->b≠C:=λe z=>lj (dZ e) hC z
    have lI:∀{b:Addr} {u:HO},H3 b=some u->b≠D:=λe z=>by rw [z,lG] at e;cases e
    refine ⟨λb o e nn hb hx=>(dz.2 b (lH e)).trans (B.keep b o e nn hb hx),λb o e nn hb hx=>?_,λb o e nn hx=>?_,λb o e hx=>?_,λb xs e=>?_,λb o u e=>?_,λb ps e=>?_⟩
    ·obtain ⟨sl,z⟩:=B.slot b o e nn hb hx
     exact ⟨sl,(dz.2 b (lH e)).trans z⟩
    ·have vF:b≠D:=yX (dZ e)
     rw [yf vF]
     exact B.free b o e nn hx
    ·obtain ⟨o',z⟩:=B.there b o e hx
     exact ⟨o',(dz.2 b (lH e)).trans z⟩
    ·have z:=B.tups b xs e
     rw [yf (lI z)];exact z
    ·have z:=B.frzs b o u e
     rw [yf (lI z)];exact z
    ·obtain ⟨more,z⟩:=B.tbls b ps e
     exact ⟨more,by rw [yf (lI z)];exact z⟩
   ·intro a o e
    by_cases ha:a=D
    ·subst ha
     rw [yU] at e
     cases e
     exact ⟨hz,its,k,rv,(dz.2 _ gI).trans vD⟩
    ·rw [yf ha] at e
     have eY:∀b u,H3 b=some u->(upd H3 D (.lst ys)) b=some u:=λb u z=>by
      have hb:b≠D:=λw=>by rw [w,lG] at z;cases z
      rw [yf hb];exact z
     refine (I4.hok a o e).stay (λb u hb z=>(dz.2 b ?_).trans z) (λb z=>eY b _ z) λb xs z=>eY b _ z
     rcases hb with hb|hb
     ·rw [hb];exact gE e
     ·exact gE hb
  ·refine aX (T.item Y rfl rfl rfl hc i _ s3 _ H3 E' I3 (lE fX kj) a8 go) λr s4 ⟨u,hr,h4⟩=>?_
   subst hr
   refine aX h4 λ_ s5 ⟨z,H5,I5,r5,y5,fy,oQ⟩=>?_
   have oR:=I5.pinned (lE fX oQ) (T.obj _ _ fy)
   have fY:PG Y tg gt:=vA cl C af H2 fp E'
   have vG:PE Y elt te:=PE.nox (X:=Y) (he cl C af H2 fp)
   have LV:iq Y ifs tt:=iq.nox (X:=Y) (lu cl C af H2 fp)
   refine aX (fY _ s5 (List.replicate xs.length none++σ) H5 z u _ oR r5 (step z _ y5)) λ_ s6 ⟨aM,H6,I6,own,e1,e2,q6⟩=>?_
   subst e1
   have wk:∀(j:Nat) v,(List.replicate xs.length none++σ)[j]?=some (some v)->(own++σ)[j]?=some (some v):=λj v e=>by
    by_cases bf:j<xs.length
    ·rw [wD (by simpa using bf),List.getElem?_replicate] at e
     simp [bf] at e
    ·rw [wX (by simp;omega)] at e
     rw [wX (by omega),e2]
     simpa using e
   have wl:(List.replicate xs.length none++σ).length=(own++σ).length:=by simp [e2]
   refine aX (LV _ s6 _ _ _ I6 q6) λb s7 ⟨H7,I7,q7⟩=>?_
   cases b with
   |true =>
    refine aX (vG _ s7 _ _ _ I7 q7) λuy s7 ⟨y,H7,I7,ry,m',hm,w7⟩=>?_
    obtain ⟨pB,lJ,_,_,_⟩:=I7.pin (D,_) (y0 _ (hV _ jC))
    refine wpAny_list_append_plain ⟨k,pB⟩ (λh' bT dz=>?_) (by rw [yT,<-rv.length];exact hz)
    obtain ⟨k',pD⟩:=bT
    have I8:Inv Y [] (own++σ) H7 { s7 with heap:=h' }:=(I7.pins_of (pins':=[]) (λp hp=>nomatch hp)).turned (it:=D) (t':=s7.toks) (λb o hb e=>(dz.2 b hb).trans e) lJ gI
     (.inr (by show af.heap.objs.size<=D;omega)) (λa c hy lK=>by
      obtain ⟨v',o',ho',_⟩:=I2.cell a c (cS a c hy)
      exact yX (dZ ho') lK) (λp hp=>by simp [Y,dH] at hp)
    have I9:Inv Y [] (List.replicate xs.length none++σ) H7 { s7 with heap:=h' }:=I8.weak wl wk
    have dP:∀b∈fp,∃o,s5.heap.get? b=some o/\s7.heap.get? b=some o/\H7 b=none:=λb hb=>by
     obtain ⟨o,e,_⟩:=T.obj _ _ fy b hb
     have q:=I7.pin (b,o) (y0 _ (y0 _ (oO hb e)))
     exact ⟨o,e,q.1,q.2.1⟩
    have vH:∀b∈fp,b≠D:=λb hb=>by
     obtain ⟨o,ho,_⟩:=T.obj 0 _ aG b hb
     exact yX (dZ ho)
    have eT:its.toArray.push uy=(its++[uy]).toArray:=by simp
    rw [eT] at pD
    refine ⟨m',hm,i+1,ys++[y],H7,its++[uy],k',I9.pins_of (fA pD lJ λv e=>by cases e),rv.append (.cons ry .nil),T.keep (i+1) _ _ fy λb hb o e=>?_,λb hb=>?_,w7⟩
    ·obtain ⟨o',e1,e2,_⟩:=dP b hb
     rw [e] at e1
     cases e1
     exact (dz.2 b (vH b hb)).trans e2
    ·obtain ⟨_,_,_,q⟩:=dP b hb
     exact q
   |false =>
    obtain ⟨m',hm,w7⟩:=q7
    obtain ⟨pB,lJ,_,_,_⟩:=I7.pin (D,_) (y0 _ (hV _ jC))
    have I9:Inv Y [] (List.replicate xs.length none++σ) H7 s7:=(I7.pins_of (pins':=[]) (λp hp=>nomatch hp)).weak wl wk
    have dP:∀b∈fp,∃o,s5.heap.get? b=some o/\s7.heap.get? b=some o/\H7 b=none:=λb hb=>by
     obtain ⟨o,e,_⟩:=T.obj _ _ fy b hb
     have q:=I7.pin (b,o) (y0 _ (y0 _ (oO hb e)))
     exact ⟨o,e,q.1,q.2.1⟩
    refine ⟨m',hm,i+1,ys,H7,its,k,I9.pins_of (fA pB lJ λv e=>by cases e),rv,T.keep (i+1) _ _ fy λb hb o e=>?_,λb hb=>?_,w7⟩
    ·obtain ⟨o',e1,e2,_⟩:=dP b hb
     rw [e] at e1
     cases e1
     exact e2
    ·obtain ⟨_,_,_,q⟩:=dP b hb
     exact q
 exact codeAny_compStart_list loop (T.self X.A 0 _ _ _ (T.keep 0 _ _ aG (λb hb o e=>old b o e)) loop)
def CT {X:Cx} {elt iter tg:Expr} {ifs:List Expr} {xs:Ae} {pos:Pos} {scope:Scope} {wi:TI} {gt:TG} {tt:TT} {te:TE} {N:Ae} (hc:X.calm=true) (S:c7 X.env.scope scope xs) (eN:X.N=N) (cj:((".0" : Str)::(xs++N)).Nodup)
  (hi:PI X tg iter wi) (vA:∀cl C af ai fp E,PG (fW X scope cl xs C af ai fp E) tg gt) (lu:∀cl C af ai fp,iq (fW X scope cl xs C af ai fp (λ_ _=>False)) ifs tt) (he:∀cl C af ai fp,PE (fW X scope cl xs C af ai fp (λ_ _=>False)) elt te)
  (hs:∀v,foldedSetIterable iter X.env v=pure v:=by intro _;rfl):PE X (.ListComp elt [⟨tg,iter,ifs,0⟩] scope pos) (vy wi gt tt te xs.length) :=
 vz (M:=X.N) hc S Hid.refl (by rw [eN];exact cj) hi vA lu he hs
def CU {X:Cx} {elt iter:Expr} {x:Str} {px pos:Pos} {scope:Scope} {wi:TI} {te:TE} {M:Ae} (hc:X.calm=true) (S:cy X.env.scope scope x) (eN:Hid scope M X.N) (cj:((".0" : Str)::x::M).Nodup)
  (hi:PI X (.Name x px) iter wi) (he:∀cl C af ai fp,PE (kA X M scope cl x C af ai fp (λ_ _=>False)) elt te)
  (hs:∀v,foldedSetIterable iter X.env v=pure v:=by intro _;rfl):PE X (.ListComp elt [⟨.Name x px,iter,[],0⟩] scope pos) (vw wi te):=by
 have hN:([x]++M).Nodup:=(j6.mp cj).2
 have S':c7 X.env.scope scope [x]:=⟨S.kind,S.ncell,λy hy h=>⟨(S.names y hy h).1,(S.names y hy h).2.imp (λe=>by rw [e];exact List.mem_singleton_self _) id⟩,S.free⟩
 have fY:∀cl C af ai fp E,PG (dH X M scope cl [x] C af ai fp E) (.Name x px) (w8 0):=λcl C af ai fp E=>wM (X:=dH X M scope cl [x] C af ai fp E) (i:=0) hN rfl (.inl (wK S.hx)) (.inr (wK S.hx))
 have e:∀σ Q,(λJ H1=>lq J te σ Q H1)=λJ H1=>iu J (w8 0) nE te 1 σ Q H1:=fun σ Q=>by
  funext J H1
  exact propext (exists_congr λW=>and_congr Iff.rfl (forall_congr' λi=>forall_congr' λm=>forall_congr' λys=>forall_congr' λH=>imp_congr Iff.rfl (or_congr Iff.rfl (and_congr Iff.rfl (and_congr Iff.rfl (forall_congr' λz=>forall_congr' λH'=>imp_congr Iff.rfl
   ⟨λh=>⟨[some z],rfl,rfl,h⟩,λ⟨_,_,_,h⟩=>h⟩))))))
 intro pins s σ H Q I h
 refine vz (te:=te) (tt:=nE) hc S' eN cj hi fY (λcl C af ai fp=>CP) (λcl C af ai fp=>he cl C af ai fp) hs pins s σ H Q I ?_
 show wi σ H λJ H1=>iu J (w8 0) nE te 1 σ Q H1
 rw [<-e]
 exact h
end L2
namespace L2
open PySem PySem.Spec PyProof.Rows
def LW {X:Cx} {elt iter:Expr} {x:Str} {px pos:Pos} {scope:Scope} {wi:TI} {te:TE} {N:Ae} (hc:X.calm=true) (S:cy X.env.scope scope x) (eN:X.N=N) (cj:((".0" : Str)::x::N).Nodup)
  (hi:PI X (.Name x px) iter wi) (he:∀cl C af ai fp,PE (rJ X scope cl x C af ai fp (λ_ _=>False)) elt te)
  (hs:∀v,foldedSetIterable iter X.env v=pure v:=by intro _;rfl):PE X (.ListComp elt [⟨.Name x px,iter,[],0⟩] scope pos) (vw wi te) :=
 CU hc S Hid.refl (eN▸cj) hi he hs
def vI (z:Str):It:=⟨λi _=>i<z.cps.size,λi H v H'=>H'=H/\∃c,z.cps[i]?=some c/\v=.str ⟨#[c]⟩,λi _=>z.cps.size<=i⟩
def CV {P:Program} {w:World} {K:PySem.W.Frag} {tg:Expr} (z:Str) (t:Tok) (it:Addr) (ty:String) (kq:ty = "str_ascii_iterator" \/ ty = "str_iterator"):Turn P w K tg (vI z) [it] it (λi h=>h.IsStrIter it ty z t i) where
 mem:=by simp
 obj:=λi h st b hb=>by
  have e:b=it:=by simpa using hb
  subst e
  obtain ⟨o,e,c,d⟩:=st
  exact ⟨o,e,λv z=>by rw [d] at z;cases z⟩
 keep:=λi h h' st k=>by
  obtain ⟨o,e,r⟩:=st
  exact ⟨o,k it (by simp) o e,r⟩
 item:=by
  intro X hP hw hK hc i pins s σ H E I hf st hg
  subst hP hw hK
  obtain ⟨f0,f1,f2,f3,f4,f5⟩:=hf it (by simp)
  have W:Walks X.prog X.w X.A it [it] [it] z.cps.size (SignAt z) (λi h=>h.IsStrIter it ty z t i):=by
   rcases kq with e|e
   ·rw [e];exact Walks.strAscii (I.ok.hd hc) it z t
   ·rw [e];exact Walks.strWide (I.ok.hd hc) it z t
  refine W.item i s _ _ hg st λv h' tk hv a5 kk=>?_
  obtain ⟨c,u,LX,rfl⟩:=hv
  have I1:Inv X pins σ H { s with heap:=h',toks:=tk }:=I.turned (λb o hb e=>kk b o (by simpa using hb) e) f0 f1 f3 f4 f5
  obtain ⟨o,e,cc,d⟩:=id a5
  exact ⟨_,rfl,nk (s:={ s with heap:=h',toks:=tk }) e cc d (by rcases kq with e|e<;>rw [e]<;>decide) ⟨.str ⟨#[c]⟩,H,I1,⟨u,rfl⟩,⟨rfl,c,LX,rfl⟩,a5,λb hb=>(hf b hb).1⟩⟩
 done:=by
  intro X hP hw hK hc i pins s σ H E I hf st hg
  subst hP hw hK
  obtain ⟨f0,f1,f2,f3,f4,f5⟩:=hf it (by simp)
  have hn:z.cps[i]?=none:=by
   have LY:z.cps.size<=i:=hg
   simpa using LY
  rcases kq with e|e
  ·rw [e] at st
   exact wpAny_pyNext_ascii_end (I.ok.hd hc) st hn λh' eb=>⟨rfl,I.turned (t':=s.toks) (λb o hb e=>eb b o hb e) f0 f1 f3 f4 f5⟩
  ·rw [e] at st
   exact wpAny_pyNext_wide_end (I.ok.hd hc) st hn λh' eb=>⟨rfl,I.turned (t':=s.toks) (λb o hb e=>eb b o hb e) f0 f1 f3 f4 f5⟩
 self:=λA i s Q E st h=>by
  rcases kq with e|e
  ·rw [e] at st;exact wpAny_pyIter_striter_ascii st h
  ·rw [e] at st;exact wpAny_pyIter_striter_wide st h
section
variable {X:Cx}
def LZ:ig X (λx lo hi H Q=>∃z,x=.str z/\z.length<=sizeLine/\Q (.str (Txt.slice z lo hi)) H):=by
 intro pins s σ H x v vl vu lo hi sl Q I rx hs pl pu h
 obtain ⟨z,rfl,hz,q⟩:=h
 obtain ⟨t,rfl⟩:=rx
 refine ⟨"str", _,F.slot_str_getitem.lookup,typeIs_str _ _ _,?_⟩
 have fin:∀t' k,EP X pins σ Q (.str (Txt.slice z lo hi) t') { s with toks:=k }:=λt' k=>⟨.str _,H,I.tok _,⟨_,rfl⟩,q⟩
 cases pl with
 |none =>
  cases pu with
  |none=>exact wpAny_getItem_str_slice (l:=none) (u:=none) (st:=none) hs rfl (post_val_or_str ⟨jw (Txt.slice_le z _ _) hz,fin⟩)
  |int j uj=>exact wpAny_getItem_str_slice (l:=none) (u:=some (j,uj)) (st:=none) hs rfl (post_val_or_str ⟨jw (Txt.slice_le z _ _) hz,fin⟩)
 |int i ui =>
  cases pu with
  |none=>exact wpAny_getItem_str_slice (l:=some (i,ui)) (u:=none) (st:=none) hs rfl (post_val_or_str ⟨jw (Txt.slice_le z _ _) hz,fin⟩)
  |int j uj=>exact wpAny_getItem_str_slice (l:=some (i,ui)) (u:=some (j,uj)) (st:=none) hs rfl (post_val_or_str ⟨jw (Txt.slice_le z _ _) hz,fin⟩)
theorem CW:∀{bs:List Bool}{us:Ah},Vals (bs.map V.bl) us->us=bs.map Value.bool
 |[],us,r=>by rw [List.map_nil] at r;cases r;rfl
 |b::bs,us,r=>by
  rw [jg] at r
  cases r with
  |cons r1 r2 =>
   have e:_=Value.bool b:=r1
   rw [jg,<-CW r2,e]
theorem cT:∀{ys:Ae}{us:Ah},Vals (ys.map V.str) us->StrsAre us ys
 |[],us,r=>by rw [List.map_nil] at r;cases r;exact .nil
 |y::ys,us,r=>by
  rw [jg] at r
  cases r with
  |cons r1 r2 =>
   obtain ⟨t,e⟩:=r1
   subst e
   exact .cons y t (cT r2)
def L5 (hc:X.calm=true):bV X (.builtin "all") (λxs H Q=>∃(a:Addr) (bs:List Bool),xs=[.ref a]/\ba X.K H a (bs.map V.bl)/\Q (.bl (bs.all id)) H):=by
 intro pins s σ H xs us Q I r h
 obtain ⟨a,bs,rfl,hl,q⟩:=h
 obtain ⟨u,rfl,ru⟩:=ic r
 cases ru
 obtain ⟨its,rv,pl,hz⟩:=I.list hl
 have e:=CW rv
 subst e
 refine call_all_walk (wpAny_pyIter_list pl.isList ?_)
 have hh:X.A.in1.handled=none:=I.ok.hd hc
 have bf:a<s.heap.objs.size:=by
  obtain ⟨o,e,_⟩:=pl.isList
  exact yw e
 have nF:a≠s.heap.objs.size:=yX bf
 refine ⟨s.heap.objs.size,_,_,_,_,_,λi=>(bs[i]?).getD true,rfl,Walks.list hh s.heap.objs.size a nF (bs.map Value.bool).toArray,⟨⟨_,yP _ rfl,rfl,rfl⟩,pl.isList.at λo e=>yl _ e⟩,?_,λh' tk kk=>?_⟩
 ·intro i v s' Q' E' hp hq
  have hp':(bs.map Value.bool)[i]?=some v:=by simpa using hp
  rw [jd] at hp'
  cases eb:bs[i]? with
  |none=>rw [eb] at hp';cases hp'
  |some b =>
   rw [eb] at hp'
   have:Value.bool b=v:=Option.some.inj hp'
   subst this
   refine oI ?_
   dsimp only at hq
   rw [eb] at hq
   exact hq
 ·have e1:(List.range (bs.map Value.bool).toArray.size).all (λi=>(bs[i]?).getD true)=bs.all id:=by
   rw [yT,jD]
   rw [Bool.eq_iff_iff,List.all_eq_true,List.all_eq_true]
   constructor
   ·intro hh b hb
    obtain ⟨i,hi,e⟩:=oJ hb
    have:=hh i (m7.mpr hi)
    rw [yi hi,e] at this
    exact this
   ·intro hh i hi
    have hi':=m7.mp hi
    rw [yi hi']
    exact hh _ (List.getElem_mem hi')
  rw [e1]
  refine ⟨.bl (bs.all id),H,?_,rfl,q⟩
  exact I.kept (t':=tk) λb o e=>kk b o (λz=>by
   have z':b=s.heap.objs.size:=by simpa using z
   exact absurd (yw e) (by rw [z'];exact Nat.lt_irrefl _)) (yl _ e)
def L6:vj X "str.join" (λx xs H Q=>∃(z:Str) (a:Addr) (ys:Ae),x=.str z/\xs=[.ref a]/\ba X.K H a (ys.map V.str)/\(ys.map (·.length)).sum+ys.length*z.length<=16777216/\Q (.str (Txt.join z ys)) H):=by
 intro pins s σ H x xs v us Q I rx r h
 obtain ⟨z,a,ys,rfl,rfl,hl,hz,q⟩:=h
 obtain ⟨t,rfl⟩:=rx
 obtain ⟨u,rfl,ru⟩:=ic r
 cases ru
 obtain ⟨its,rv,pl,_⟩:=I.list hl
 exact join_list pl.isList (by simpa using cT rv) hz λt' k=>⟨.str _,H,I.tok _,⟨_,rfl⟩,q⟩
def L_:bV X (.type "int") (λxs H Q=>∃z n,xs=[.str z]/\PySem.intText? z=some n/\z.length<=640/\Q (.int n) H):=by
 intro pins s σ H xs us Q I r h
 obtain ⟨z,n,rfl,hn,hz,q⟩:=h
 obtain ⟨u,rfl,t,rfl⟩:=ic r
 exact PySem.W.KIN.call_text hn hz ⟨.int n,H,I.tok _,⟨_,rfl⟩,q⟩
def Ma:bI X (compareOp .In) (λx y H Q=>∃(c:Nat) (z:Str),x=.str ⟨#[c]⟩/\y=.str z/\Q (.bl (decide (c∈z.cps.toList))) H):=by
 intro pins s σ H x y v u Q I rx ry h
 obtain ⟨c,z,rfl,rfl,q⟩:=h
 refine J5 pins s σ H _ _ v u Q I rx ry ⟨_,_,rfl,rfl,?_⟩
 rw [StrLaws.found_one]
 exact q
end
section
variable {κ:Type} [DecidableEq κ]
def cU (kvs:List (κ×V)) (k:κ):Option V:=(kvs.find? λkv=>decide (kv.1=k)).map (·.2)
def putK (kvs:List (κ×V)) (k:κ) (v:V):List (κ×V) :=
 if (kvs.any λkv=>decide (kv.1=k))=true then kvs.map (λkv=>if kv.1=k then (kv.1,v) else kv) else kvs++[(k,v)]
def rK {p:κ×V}{r:List (κ×V)}{k:κ}(e:p.1=k):cU (p::r) k=some p.2:=by simp [cU,List.find?_cons,e]
def rL {p:κ×V}{r:List (κ×V)}{k:κ}(e:¬p.1=k):cU (p::r) k=cU r k:=by simp [cU,List.find?_cons,e]
theorem CY (k:κ):∀kvs:List (κ×V),(kvs.any λkv=>decide (kv.1=k))=(cU kvs k).isSome
 |[]=>rfl
 |p::r=>by
  rw [List.any_cons]
  by_cases e:p.1=k
  ·simp only [rK e,wq e,Bool.true_or,Option.isSome_some]
  ·rw [rL e,jo e,Bool.false_or];exact CY k r
def vJ (kvs:List (κ×V)) (k:κ) (v:V):(putK kvs k v).length<=kvs.length+1:=by
 unfold putK
 split
 ·rw [jD];omega
 ·rw [wA,wc,List.length_nil];omega
def cm.isSome_eq {o:Option V}{u:Option Value}(r:cm o u):o.isSome=u.isSome:=by
 cases o with
 | none=>cases u with
  |none=>rfl
  |some _=>exact (show False from r).elim
 | some _=>cases u with
  |none=>exact (show False from r).elim
  |some _=>rfl
theorem cm.getD {o:Option V}{u:Option Value}{d:V}{d':Value}(r:cm o u) (rd:RelV d d'):RelV (o.getD d) (u.getD d'):=by
 cases o with
 | none=>cases u with
  |none=>exact rd
  |some _=>exact (show False from r).elim
 | some _=>cases u with
  |none=>exact (show False from r).elim
  |some _=>exact r
def KV.val {kvs:List (κ×V)}{vs:List (κ×Value)}(r:KV kvs vs) (k:κ):cm (cU kvs k) (valueAt vs k):=by
 unfold KV at r
 induction r with
 |nil=>exact True.intro
 |@cons p q ps qs h t ih =>
  obtain ⟨h1,h2⟩:=h
  by_cases e:p.1=k
  ·have e':q.1=k:=h1.symm.trans e
   have b:valueAt (q::qs) k=some q.2:=by simp [valueAt,List.find?_cons,e']
   rw [rK e,b];exact h2
  ·have e':¬q.1=k:=λz=>e (h1.trans z)
   have b:valueAt (q::qs) k=valueAt qs k:=by simp [valueAt,List.find?_cons,e']
   rw [rL e,b];exact ih
theorem KV.any {kvs:List (κ×V)}{vs:List (κ×Value)}(r:KV kvs vs) (k:κ):(kvs.any λkv=>decide (kv.1=k))=vs.any λkv=>decide (kv.1=k):=by
 unfold KV at r
 induction r with
 |nil=>rfl
 |cons h t ih=>rw [List.any_cons,List.any_cons,ih,h.1]
def KV.repl {kvs:List (κ×V)}{vs:List (κ×Value)}(r:KV kvs vs) (k:κ) {y:V}{u:Value}(ry:RelV y u) :
  KV (kvs.map λkv=>if kv.1=k then (kv.1,y) else kv) (vs.map λkv=>if kv.1=k then (kv.1,u) else kv):=by
 unfold KV at r ⊢
 induction r with
 |nil=>exact .nil
 |@cons p q ps qs h t ih =>
  rw [jg,jg]
  refine .cons ?_ ih
  obtain ⟨h1,h2⟩:=h
  by_cases e:p.1=k
  ·rw [zC e,zC (h1.symm.trans e)];exact ⟨h1,ry⟩
  ·rw [zQ e,zQ (λz=>e (h1.trans z))];exact ⟨h1,h2⟩
def KV.put {kvs:List (κ×V)}{vs:List (κ×Value)}(r:KV kvs vs) (k:κ) {y:V}{u:Value}(ry:RelV y u):KV (putK kvs k y) (stored vs k u):=by
 unfold putK stored
 rw [r.any k]
 by_cases e:(vs.any λkv=>decide (kv.1=k))=true
 ·rw [zC e,zC e];exact r.repl k ry
 ·rw [zQ e,zQ e];exact Paired.snoc r ⟨rfl,ry⟩
def KV.keys {kvs:List (κ×V)}{vs:List (κ×Value)}(r:KV kvs vs):kvs.map (·.1)=vs.map (·.1):=by
 unfold KV at r
 induction r with
 |nil=>rfl
 |cons h t ih=>rw [jg,jg,ih,h.1]
theorem KV.length {kvs:List (κ×V)}{vs:List (κ×Value)}(r:KV kvs vs):kvs.length=vs.length:=Paired.length r
end
def lM {P:Program}{w:World}{k:Key}{u:Value}(r:RelV (kV k) u):(a_ P w).is k u=true:=by
 cases k with
 |inl i=>obtain ⟨t,e⟩:=(show ∃t,u=Value.int i t from r);subst e;exact IB P w i t
 |inr x=>obtain ⟨t,e⟩:=(show ∃t,u=Value.str x t from r);subst e;exact IC P w x t
theorem CZ {P:Program}{w:World}:∀{ks:List Key}{us:Ah},Vals (ks.map kV) us->ItemsAre (a_ P w) ks us
 |[],_,r=>by rw [List.map_nil] at r;cases r;exact .nil
 |k::ks,_,r=>by
  rw [jg] at r
  cases r with
  |cons h t=>exact .cons (lM h) (CZ t)
abbrev KT (H:Hp):List (List Key×V)->List (List Key×Addr×Value)->Prop:=Paired λp q=>p.1=q.1/\H q.2.1=some (.tup (p.1.map kV))/\RelV p.2 q.2.2
def KT.val {H:Hp}{kvs:List (List Key×V)}{xs:List (List Key×Addr×Value)}(r:KT H kvs xs) (k:List Key):cm (cU kvs k) ((atKey xs k).map (·.2)):=by
 induction r with
 |nil=>exact True.intro
 |@cons p q ps qs h t ih =>
  obtain ⟨h1,_,h2⟩:=h
  by_cases e:p.1=k
  ·have e':q.1=k:=h1.symm.trans e
   have b:atKey (q::qs) k=some q.2:=by simp [atKey,List.find?_cons,e']
   rw [rK e,b];exact h2
  ·have e':¬q.1=k:=λz=>e (h1.trans z)
   have b:atKey (q::qs) k=atKey qs k:=by simp [atKey,List.find?_cons,e']
   rw [rL e,b];exact ih
def KT.repl {H:Hp}{kvs:List (List Key×V)}{xs:List (List Key×Addr×Value)}(r:KT H kvs xs) (k:List Key) {y:V}{u:Value}(ry:RelV y u) :
  KT H (kvs.map λkv=>if kv.1=k then (kv.1,y) else kv) (xs.map (putAt k u)):=by
 induction r with
 |nil=>exact .nil
 |@cons p q ps qs h t ih =>
  rw [jg,jg]
  refine .cons ?_ ih
  obtain ⟨h1,h2,h3⟩:=h
  unfold putAt
  by_cases e:p.1=k
  ·rw [zC e,zC (h1.symm.trans e)];exact ⟨h1,h2,ry⟩
  ·rw [zQ e,zQ (λz=>e (h1.trans z))];exact ⟨h1,h2,h3⟩
def KT.put {H:Hp}{kvs:List (List Key×V)}{xs:List (List Key×Addr×Value)}(r:KT H kvs xs) (k:List Key) {b:Addr}{y:V}{u:Value}(hb:H b=some (.tup (k.map kV))) (ry:RelV y u) :
  KT H (putK kvs k y) (storedH xs k b u):=by
 have e:(kvs.any λkv=>decide (kv.1=k))=(atKey xs k).isSome:=by
  rw [CY,(r.val k).isSome_eq,Option.isSome_map]
 unfold putK storedH
 rw [e]
 by_cases q:(atKey xs k).isSome=true
 ·rw [zC q,zC q];exact r.repl k ry
 ·rw [zQ q,zQ q];exact Paired.snoc r ⟨rfl,hb,ry⟩
def KT.keeps {H H':Hp}{kvs:List (List Key×V)}{xs:List (List Key×Addr×Value)}(r:KT H kvs xs) (ht:∀b ys,H b=some (.tup ys)->H' b=some (.tup ys)):KT H' kvs xs :=
 Paired.mapP r λ_ _ z=>⟨z.1,ht _ _ z.2.1,z.2.2⟩
section
variable {P:Program} {w:World} {H:Hp} {h:Heap} {a:Addr}
def C0 {u:HO}(ok:bZ P w H h) (e:Rd H a u):a9 P w H h a u:=e.ok ok
def iw {kvs:List (Key×V)}(ok:bZ P w H h) (e:Rd H a (.dK kvs)):kvs.length<=sizeLine/\(a==sysModules)=false/\∃vs,KV kvs vs/\h.DictOf (a_ P w) a vs :=
 show a9 P w H h a (.dK kvs) from C0 ok e
def C3 {kvs:List (Key×V)}(ok:bZ P w H h) (e:H a=some (.dK kvs)):kvs.length<=sizeLine/\(a==sysModules)=false/\∃vs,KV kvs vs/\h.DictOf (a_ P w) a vs:=iw ok (.inl e)
def nG {ks:List Key}(ok:bZ P w H h) (e:H a=some (.tup (ks.map kV))):(tupleKind (a_ P w)).is h ks a:=by
 obtain ⟨_,its,r,o,h1,h2,n,h3⟩:=(show a9 P w H h a (.tup (ks.map kV)) from ok a _ e)
 exact ⟨o,its.toArray,n,h1,h2,h3,by simpa using CZ r⟩
def lN {kvs:List (List Key×V)}(ok:bZ P w H h) (e:Rd H a (.dT kvs)):kvs.length<=sizeLine/\(a==sysModules)=false /\
  ∃xs,KT H kvs xs/\h.DictOfH (tupleKind (a_ P w)) a xs:=by
 obtain ⟨z,y,xs,r,o,es,ep,h1,h2,h3,h4,h5⟩:=(show a9 P w H h a (.dT kvs) from C0 ok e)
 refine ⟨z,y,xs,r,o,es,ep,h1,h2,h3,h4,λx hx=>?_,h5⟩
 have all:∀{l:List (List Key×V)} {m:List (List Key×Addr×Value)},KT H l m->∀x∈m,(tupleKind (a_ P w)).is h x.1 x.2.1:=by
  intro l m q
  induction q with
  |nil=>intro x hx;exact nomatch hx
  |@cons p q ps qs hq t ih =>
   intro x hx
   rcases yE.mp hx with e|hx
   ·subst e
    exact nG ok (by rw [<-hq.1];exact hq.2.1)
   ·exact ih x hx
 exact all r x hx
def Mb {kvs:List (List Key×V)}(ok:bZ P w H h) (e:H a=some (.dT kvs)):kvs.length<=sizeLine/\(a==sysModules)=false /\
  ∃xs,KT H kvs xs/\h.DictOfH (tupleKind (a_ P w)) a xs:=lN ok (.inl e)
end
def c9 (H:Hp) (a:Addr) (y:V) (r:Option V):Prop :=
 (∃kvs k,Rd H a (.dK kvs)/\y=kV k/\r=cU kvs k)\/∃kvs k b,Rd H a (.dT kvs)/\y=.ref b/\H b=some (.tup (k.map kV))/\r=cU kvs k
def fZ (H:Hp) (a:Addr) (y v:V) (H':Hp):Prop :=
 (∃kvs k,H a=some (.dK kvs)/\y=kV k/\kvs.length<sizeLine/\H'=upd H a (.dK (putK kvs k v))) \/
 ∃kvs k b,H a=some (.dT kvs)/\y=.ref b/\H b=some (.tup (k.map kV))/\kvs.length<sizeLine/\H'=upd H a (.dT (putK kvs k v))
theorem c9.k {H:Hp}{a:Addr}{kvs:List (Key×V)}{k:Key}(e:H a=some (.dK kvs)):c9 H a (kV k) (cU kvs k):=.inl ⟨kvs,k,.inl e,rfl,rfl⟩
def c9.t {H:Hp}{a b:Addr}{kvs:List (List Key×V)}{k:List Key}(e:H a=some (.dT kvs)) (eb:H b=some (.tup (k.map kV))):c9 H a (.ref b) (cU kvs k):=.inr ⟨kvs,k,b,.inl e,rfl,eb,rfl⟩
theorem fZ.k {H:Hp}{a:Addr}{kvs:List (Key×V)}{k:Key}{v:V}(e:H a=some (.dK kvs)) (hl:kvs.length<sizeLine):fZ H a (kV k) v (upd H a (.dK (putK kvs k v))):=.inl ⟨kvs,k,e,rfl,hl,rfl⟩
def fZ.t {H:Hp}{a b:Addr}{kvs:List (List Key×V)}{k:List Key}{v:V}(e:H a=some (.dT kvs)) (eb:H b=some (.tup (k.map kV))) (hl:kvs.length<sizeLine) :
  fZ H a (.ref b) v (upd H a (.dT (putK kvs k v))):=.inr ⟨kvs,k,b,e,rfl,eb,hl,rfl⟩
section
variable {X:Cx} {pins:Ac} {σ:St} {H:Hp} {s:Shared} {a:Addr} {y v:V} {u r:Value} {o:Option V} {A:Around} {E:Aa}
def Inv.big (I:Inv X pins σ H s):sysModules<s.heap.objs.size:=by
 have h:mainGlobals<s.heap.objs.size:=(I.mod.glob.keeps I.bk).lt
 exact Nat.lt_trans (by decide) h
def Mc {Q:Aa}(hu:A.units+1<cLine) (I:Inv X pins σ H s) (g:c9 H a y (some v)) (ry:RelV y u) (h:∀w' s',Inv X pins σ H s'->RelV v w'->Q w' s') :
  wpAny (model X.prog X.w) A (getItem (.ref a) u) Q E s:=by
 rcases g with ⟨kvs,k,e,ey,l⟩|⟨kvs,k,b,e,ey,eb,l⟩
 ·subst ey
  obtain ⟨z,hd,vs,rel,dd⟩:=iw I.hok e
  obtain ⟨w',hw,rw'⟩:=cm.some_of (v:=v) (o:=valueAt vs k) (by rw [l];exact rel.val k)
  exact wpAny_getItem_of (lM ry) dd.mapOf hw (h w' _ (I.tok _) rw')
 ·subst ey
  cases (show u=Value.ref b from ry)
  obtain ⟨z,hd,xs,rel,dd⟩:=lN I.hok e
  obtain ⟨w',hw,rw'⟩:=cm.some_of (v:=v) (o:=(atKey xs k).map (·.2)) (by rw [l];exact rel.val k)
  obtain ⟨p,hp,pE⟩:=Option.map_eq_some_iff.mp hw
  refine wpAny_getItem_heap (tupleKind_room_in1 hu) (nG I.hok eb) dd hp ?_
  rw [pE]
  exact h w' _ (I.tok _) rw'
def Md {Q:Aa}(hu:A.units+1<cLine) (I:Inv X pins σ H s) (g:c9 H a y o) (ry:RelV y u) (h:∀s',Inv X pins σ H s'->Q (.bool o.isSome) s') :
  wpAny (model X.prog X.w) A (compareOp .In u (.ref a)) Q E s:=by
 rcases g with ⟨kvs,k,e,ey,l⟩|⟨kvs,k,b,e,ey,eb,l⟩
 ·subst ey
  obtain ⟨z,hd,vs,rel,dd⟩:=iw I.hok e
  refine wpAny_in_of (lM ry) hd dd.mapOf ?_
  rw [<-(rel.val k).isSome_eq,<-l]
  exact h _ (I.tok _)
 ·subst ey
  cases (show u=Value.ref b from ry)
  obtain ⟨z,hd,xs,rel,dd⟩:=lN I.hok e
  refine wpAny_in_heap (tupleKind_room_in1 hu) (nG I.hok eb) hd dd ?_
  have q:=(rel.val k).isSome_eq
  rw [Option.isSome_map] at q
  rw [<-q,<-l]
  exact h _ (I.tok _)
def Me {Q:Aa}(hu:A.units+1<cLine) (I:Inv X pins σ H s) (g:c9 H a y o) (ry:RelV y u) (h:∀s',Inv X pins σ H s'->Q (.bool (!o.isSome)) s') :
  wpAny (model X.prog X.w) A (compareOp .NotIn u (.ref a)) Q E s:=by
 rcases g with ⟨kvs,k,e,ey,l⟩|⟨kvs,k,b,e,ey,eb,l⟩
 ·subst ey
  obtain ⟨z,hd,vs,rel,dd⟩:=iw I.hok e
  refine wpAny_notIn_of (lM ry) hd dd.mapOf ?_
  rw [<-(rel.val k).isSome_eq,<-l]
  exact h _ (I.tok _)
 ·subst ey
  cases (show u=Value.ref b from ry)
  obtain ⟨z,hd,xs,rel,dd⟩:=lN I.hok e
  refine wpAny_notIn_heap (tupleKind_room_in1 hu) (nG I.hok eb) hd dd ?_
  have q:=(rel.val k).isSome_eq
  rw [Option.isSome_map] at q
  rw [<-q,<-l]
  exact h _ (I.tok _)
def vK {h':Heap}{t':Nat}{ob:HO}(I:Inv X pins σ H s) (mu:m9 (H a)) (hs:Heap.SameBut a s.heap h') (he:∃q,h'.get? a=some q) (new:a9 X.prog X.w (upd H a ob) h' a ob) :
  Inv X pins σ (upd H a ob) { s with heap:=h',toks:=t' } :=
 I.write (x:=a) (e:=a) mu (.inl rfl) (λb q hb z=>(hs.2 b hb).trans z) he new
def C5 {P:Program}{w:World}{H':Hp}{h':Heap}{kvs:List (Key×V)}{vs:List (Key×Value)}(z:kvs.length<=sizeLine) (hd:(a==sysModules)=false) (rel:KV kvs vs) (dd:h'.DictOf (a_ P w) a vs) :
  a9 P w H' h' a (.dK kvs):=⟨z,hd,vs,rel,dd⟩
def Mf {H':Hp}{Q:Unit->Shared->Prop}(hu:A.units+1<cLine) (I:Inv X pins σ H s) (g:fZ H a y v H') (ry:RelV y u) (rv:RelV v r) (h:∀s',Inv X pins σ H' s'->Q () s') :
  wpAny (model X.prog X.w) A (setItem (.ref a) u r) Q E s:=by
 rcases g with ⟨kvs,k,e,ey,l,eH⟩|⟨kvs,k,b,e,ey,eb,l,eH⟩
 ·subst ey eH
  obtain ⟨z,hd,vs,rel,dd⟩:=C3 I.hok e
  have hz:vs.length<=sizeLine:=by rw [<-rel.length];exact z
  have hl:(putK kvs k v).length<=sizeLine:=by have:=vJ kvs k v;omega
  refine wpAny_setItem_pairs (hsz:=hz) (lM ry) dd λh' kD hs=>h _ ?_
  have he:∃q,h'.get? a=some q:=let ⟨q,_,_,hq,_⟩:=kD;⟨q,hq⟩
  exact vK I (by rw [e];exact True.intro) hs he (C5 hl hd (rel.put k rv) kD)
 ·subst ey eH
  cases (show u=Value.ref b from ry)
  obtain ⟨z,hd,xs,rel,dd⟩:=Mb I.hok e
  have hz:xs.length<=sizeLine:=by rw [<-Paired.length rel];exact z
  have hl:(putK kvs k v).length<=sizeLine:=by have:=vJ kvs k v;omega
  refine wpAny_setItem_heap (hsz:=hz) (tupleKind_room_in1 hu) (nG I.hok eb) dd λh' kD hs=>h _ ?_
  obtain ⟨q,es,ep,hq,h2,h3,h4,_,h5⟩:=kD
  refine vK I (by rw [e];exact True.intro) hs ⟨q,hq⟩ ⟨hl,hd,_,(rel.put k eb rv).keeps λc ys ec=>?_,q,es,ep,hq,h2,h3,h4,h5⟩
  rw [yf (ID ec e (λz=>nomatch z))]
  exact ec
end
section
variable {X:Cx} {pins:Ac} {σ:St} {H:Hp} {s:Shared} {a:Addr} {kvs:List (Key×V)} {A:Around} {E:Aa}
def Mg {Q:Aa} (I:Inv X pins σ H s) (e:Rd H a (.dK kvs)) (h:∀t s',Inv X pins σ H s'->Q (.int kvs.length t) s'):wpAny (model X.prog X.w) A (call (.builtin "len") [.ref a]) Q E s:=by
 obtain ⟨z,hd,vs,rel,dd⟩:=iw I.hok e
 refine call_len_dict hd dd (by rw [<-rel.length];rw [sizeLine_eq] at z;omega) ?_
 rw [<-rel.length]
 exact h _ _ (I.tok _)
end
def Mh {X:Cx} {pins:Ac} {σ:St} {H:Hp} {s:Shared} {a:Addr} {y:V} {o:Option V} (I:Inv X pins σ H s) (g:c9 H a y o):s.TypeIs (.ref a) "dict" := by
 rcases g with ⟨kvs,k,e,_,_⟩|⟨kvs,k,b,e,_,_,_⟩
 ·obtain ⟨_,_,vs,_,dd⟩:=iw I.hok e
  exact dd.typeIs
 ·obtain ⟨_,_,xs,_,dd⟩:=lN I.hok e
  exact dd.typeIs
def Mj (td ty tv:TE):TS:=λD σ H=>tv σ H λv H1=>td σ H1 λx H2=>ty σ H2 λy H3=>∃a H4,x=.ref a/\fZ H3 a y v H4/\D.nx σ H4
section
variable {X:Cx} {o i value:Expr} {pos pos':Pos} {td ty tv:TE}
def Ml (hu:X.A.units+1<cLine) (ho:PE X o td) (hi:PE X i ty) (hv:PE X value tv) (hs:swapsWith value (some (.Subscript o i pos')) pos.line X.env=pure false) :
  PS X (.Assign [.Subscript o i pos'] value pos) (Mj td ty tv):=by
 intro pins s σ H D I h
 refine wpAny_Assign_Subscript (aX (hv pins s σ H _ I h) λr s1 ⟨v,H1,I1,rv,q1⟩=>aX (ho pins s1 σ H1 _ I1 q1) λu s2 ⟨x,H2,I2,rx,q2⟩=>aX (hi pins s2 σ H2 _ I2 q2) λiv s3 gg=>?_) hs
 obtain ⟨y,H3,I3,ry,a,H4,ex,g,q3⟩:=gg
 subst ex
 obtain rfl:u=Value.ref a:=rx
 exact Mf hu I3 g ry rv λs4 I4=>⟨σ,H4,I4,q3⟩
end
def C8 {P:Program} {w:World} {H:Hp} (h:Heap) (hb:sysModules<h.objs.size):a9 P w H (h.push { cls:=.type "dict", data:=.dict #[] }) h.objs.size (.dK []) :=
 ⟨jK _,beq_eq_false_iff_ne.mpr (yM (yX hb)),[],.nil,Heap.DictOf.new h⟩
def Mm:TE:=λ_ H Q=>∀p,H p=none->Q (.ref p) (upd H p (.dK []))
section
variable {X:Cx} {pos:Pos}
def Mn:PE X (.Dict [] [] pos) Mm:=λpins s σ H Q I h =>
 wpAny_Dict_empty ⟨.ref s.heap.objs.size,_,I.laid (a:=s.heap.objs.size) (o:=.dK []) (t':=s.toks) (λ_ _ q=>yl _ q) (zM _) (C8 s.heap I.big),rfl,h _ (I.hok.fresh (zM _))⟩
end
def pF:List (TE×TE)->St->Hp->(List (V×V)->Hp->Prop)->Prop
 |[],_,H,Q=>Q [] H
 | (tk,tv)::r,σ,H,Q=>tk σ H λx H1=>tv σ H1 λy H2=>pF r σ H2 λps H3=>Q ((x,y)::ps) H3
abbrev VV:List (V×V)->List (Value×Value)->Prop:=Paired λp q=>RelV p.1 q.1/\RelV p.2 q.2
def nH (X:Cx) (pos:Pos) (keys:List (Option Expr)) (values:List Expr) (trs:List (TE×TE)):Prop :=
 ∀(pins:Ac) (s:Shared) (σ:St) (H:Hp) (Q:List (V×V)->Hp->Prop),Inv X pins σ H s->pF trs σ H Q ->
  wpAny (model X.prog X.w) X.A (evalPairs (pairTrees keys values X.env pos)) (λvs s'=>∃ps H',Inv X pins σ H' s'/\VV ps vs/\Q ps H') X.xe s
def C9 {X:Cx}{pos:Pos}:nH X pos [] [] []:=λpins s σ H Q I h=>pairTrees_nil_walk ⟨[],H,I,.nil,h⟩
def C_ {X:Cx}{pos:Pos}{k v:Expr}{ks:List (Option Expr)}{vs:List Expr}{tk tv:TE}{trs:List (TE×TE)}(hk:PE X k tk) (hv:PE X v tv) (hr:nH X pos ks vs trs) :
  nH X pos (some k::ks) (v::vs) ((tk,tv)::trs):=λpins s σ H Q I h =>
 pairTrees_cons_walk (aX (hk pins s σ H _ I h) λu s1 ⟨x,H1,I1,rx,q1⟩=>aX (hv pins s1 σ H1 _ I1 q1) λw2 s2 ⟨y,H2,I2,ry,q2⟩ =>
  aX (hr pins s2 σ H2 _ I2 q2) λws s3 ⟨ps,H3,I3,rel,q3⟩=>⟨(x,y)::ps,H3,I3,.cons ⟨rx,ry⟩ rel,q3⟩)
def dA (kvs more:List (Key×V)):List (Key×V):=more.foldl (λacc kv=>putK acc kv.1 kv.2) kvs
def KV.merge:∀{more:List (Key×V)}{rs:List (Key×Value)}{kvs:List (Key×V)}{vs:List (Key×Value)},KV more rs->KV kvs vs->KV (dA kvs more) (merged vs rs):=by
 intro more rs kvs vs r
 unfold KV at r
 induction r generalizing kvs vs with
 |nil=>intro q;exact q
 |@cons p q ps qs h t ih =>
  intro r0
  have e:KV (putK kvs p.1 p.2) (stored vs q.1 q.2):=by
   have:=r0.put p.1 h.2
   rw [<-h.1];exact this
  exact ih e
theorem Dd:∀(more kvs:List (Key×V)),(dA kvs more).length<=kvs.length+more.length
 |[],kvs=>by show kvs.length<=kvs.length+0;omega
 |p::r,kvs=>by
  have h1:=Dd r (putK kvs p.1 p.2)
  have h2:=vJ kvs p.1 p.2
  show (dA (putK kvs p.1 p.2) r).length<=_
  rw [wc];omega
theorem De {P:Program}{w:World}:∀{kvs:List (Key×V)}{ws:List (Value×Value)},VV (kvs.map λkv=>(kV kv.1,kv.2)) ws->∃rs,Carries (a_ P w) ws rs/\KV kvs rs
 |[],_,r=>by rw [List.map_nil] at r;cases r;exact ⟨[],True.intro,.nil⟩
 |p::kvs,_,r=>by
  rw [jg] at r
  cases r with
  |@cons a b as bs h t =>
   obtain ⟨rs,c,q⟩:=De (P:=P) (w:=w) t
   obtain ⟨b1,b2⟩:=b
   exact ⟨(p.1,b2)::rs,⟨lM h.1,rfl,c⟩,.cons ⟨rfl,h.2⟩ q⟩
def Mp (trs:List (TE×TE)):TE:=fun σ H Q=>∀p,H p=none->pF trs σ (upd H p (.dK [])) λps H2=>H2 p=some (.dK [])/\∃kvs:List (Key×V),ps=kvs.map (λkv=>(kV kv.1,kv.2))/\kvs.length<=15/\Q (.ref p) (upd H2 p (.dK (dA [] kvs)))
def Df {X:Cx}{pos:Pos}{keys:List (Option Expr)}{values:List Expr}{trs:List (TE×TE)}(h:nH X pos keys values trs) (eX:keys.all (·.isSome)=true) (hl:keys.length=values.length) (h0:keys≠[])
  (pG:keys.length<=15):PE X (.Dict keys values pos) (Mp trs):=by
 intro pins s σ H Q I q
 have hn:=I.hok.fresh (zM s.heap.objs.size)
 have I1:=I.laid (a:=s.heap.objs.size) (o:=.dK []) (h':=s.heap.push { cls:=.type "dict", data:=.dict #[] }) (t':=s.toks) (λ_ _ q=>yl _ q) (zM _) (C8 s.heap I.big)
 refine wpAny_Dict_walk (knd:=a_ X.prog X.w) eX hl h0 pG (aX (h pins _ σ _ _ I1 (q _ hn)) λws s2 gg=>?_)
 obtain ⟨ps,H2,I2,rel,e,kvs,ep,lk,q2⟩:=gg
 subst ep
 obtain ⟨rs,c,rk⟩:=De (P:=X.prog) (w:=X.w) rel
 obtain ⟨z,hd,lP,r0,dd⟩:=C3 I2.hok e
 cases r0
 refine ⟨rs,c,dd,λh' kD hs=>⟨.ref s.heap.objs.size,_,?_,rfl,q2⟩⟩
 have hz:(dA [] kvs).length<=sizeLine:=by
  have h1:=Dd kvs []
  rw [List.length_nil] at h1
  rw [sizeLine_eq];omega
 have he:∃q,h'.get? s.heap.objs.size=some q:=let ⟨q,_,_,hq,_⟩:=kD;⟨q,hq⟩
 exact vK I2 (by rw [e];exact True.intro) hs he (C5 hz hd (rk.merge .nil) kD)
structure M1 (X:Cx) (o:Expr) (m:Str) (apos:Pos) (e:Expr) (a6:Pos):Prop where
 base:attributeBase o m X.env (eval o X.env)=eval o X.env
 few:((backTo a6 (starEach [e] X.env)).all (λx=>!x.1)&&(backToKw a6 (keywordEach [] X.env)).all (λx=>x.1.isSome)
  && decide (([e]:List Expr).length+([]:List Keyword).length+(if ([]:List Keyword).isEmpty then 0 else 1)<30))=true
 line:(apos.endLine==a6.line)=true
 trees:backTo a6 (starEach [e] X.env)=[(false,eval e X.env)]
structure M2 (X:Cx) (o:Expr) (m:Str) (apos:Pos) (e f:Expr) (a6:Pos):Prop where
 base:attributeBase o m X.env (eval o X.env)=eval o X.env
 few:((backTo a6 (starEach [e,f] X.env)).all (λx=>!x.1)&&(backToKw a6 (keywordEach [] X.env)).all (λx=>x.1.isSome)
  && decide (([e,f]:List Expr).length+([]:List Keyword).length+(if ([]:List Keyword).isEmpty then 0 else 1)<30))=true
 line:(apos.endLine==a6.line)=true
 trees:backTo a6 (starEach [e,f] X.env)=[(false,eval e X.env),(false,eval f X.env)]
def Dg (H:Hp) (a:Addr):Prop:=(∃kvs,Rd H a (.dK kvs))\/∃kvs,Rd H a (.dT kvs)
def Mq {X:Cx}{pins:Ac}{σ:St}{H:Hp}{s:Shared}{a:Addr}(I:Inv X pins σ H s) (d:Dg H a) :
  s.TypeIs (.ref a) "dict" /\ (∀b,Value.ref a=.ref b->∃ob,s.heap.get? b=some ob/\ob.dict=none)/\(a==sysModules)=false:=by
 rcases d with ⟨kvs,e⟩|⟨kvs,e⟩
 ·obtain ⟨_,hd,vs,_,dd⟩:=iw I.hok e
  refine ⟨dd.typeIs,λb q=>?_,hd⟩
  cases q
  obtain ⟨ob,_,_,h1,h2,_⟩:=dd
  exact ⟨ob,h1,h2.2.1⟩
 ·obtain ⟨_,hd,xs,_,dd⟩:=lN I.hok e
  refine ⟨dd.typeIs,λb q=>?_,hd⟩
  cases q
  obtain ⟨ob,_,_,h1,h2,_⟩:=dd
  exact ⟨ob,h1,h2.2.1⟩
section
variable {X:Cx} {pins:Ac} {σ:St} {H:Hp} {s:Shared} {a:Addr} {y d:V} {u r:Value} {o:Option V} {A:Around} {E:Aa}
def Mr {Q:Aa}(hu:A.units+1<cLine) (I:Inv X pins σ H s) (g:c9 H a y o) (ry:RelV y u) (rd:RelV d r) (h:∀w' s',Inv X pins σ H s'->RelV (o.getD d) w'->Q w' s') :
  wpAny (model X.prog X.w) A (call (.builtin "dict.get") [.ref a,u,r]) Q E s:=by
 rcases g with ⟨kvs,k,e,ey,l⟩|⟨kvs,k,b,e,ey,eb,l⟩
 ·subst ey
  obtain ⟨z,hd,vs,rel,dd⟩:=iw I.hok e
  refine call_meetsIn PySem.F.slot_dict_get dd.typeIs PySem.F.entry_dict_get (PySem.F.args_dict_get_3 _ _ _) (meets_dict_get_default (a_ X.prog X.w) a (lM ry) hd r) ⟨_,dd.mapOf,h _ _ (I.tok _) ?_⟩
  rw [l]
  exact (rel.val k).getD rd
 ·subst ey
  cases (show u=Value.ref b from ry)
  obtain ⟨z,hd,xs,rel,dd⟩:=lN I.hok e
  refine call_meetsIn PySem.F.slot_dict_get dd.typeIs PySem.F.entry_dict_get (PySem.F.args_dict_get_3 _ _ _) (meetsH_dict_get_default (tupleKind (a_ X.prog X.w)) a b hd r) ⟨tupleKind_room_in1 hu,k,xs,nG I.hok eb,dd,h _ _ (I.tok _) ?_⟩
  rw [l]
  exact (rel.val k).getD rd
end
def Ms (td ty tx:TE):TE:=fun σ H Q=>td σ H λx H1=>∃a,x=.ref a/\Dg H1 a/\ty σ H1 λy H2=>tx σ H2 λz H3=>∃o,c9 H3 a y o/\Q (o.getD z) H3
section
variable {X:Cx} {o e f:Expr} {apos a6:Pos} {td ty tx:TE}
def Mt (hu:X.A.units+1<cLine) (ho:PE X o td) (he:PE X e ty) (hf:PE X f tx) (m:M2 X o "get" apos e f a6):PE X (.Call (.Attribute o "get" apos) [e,f] [] a6) (Ms td ty tx):=by
 intro pins s σ H Q I h
 refine wpAny_Call_method m.base m.few m.line PySem.F.plainAttrs_dict PySem.F.slot_dict_get PySem.F.type_dict_get (aX (ho pins s σ H _ I h) λu s1 ⟨x,H1,I1,rx,a,ex,d,q1⟩=>?_)
 subst ex
 obtain rfl:u=Value.ref a:=rx
 obtain ⟨t1,t2,_⟩:=Mq I1 d
 refine ⟨t1,t2,?_⟩
 rw [m.trees]
 refine Calls.callWith_builtin rfl (Calls.evalArgs_plain (Calls.spliced_cons (aX (he pins s1 σ H1 _ I1 q1) λiv s2 ⟨y,H2,I2,ry,q2⟩ =>
  Calls.spliced_cons (aX (hf pins s2 σ H2 _ I2 q2) λfv s3 ⟨z,H3,I3,rz,ov,g,q3⟩=>Calls.spliced_nil ?_))))
 exact Mr hu I3 g ry rz λw' s4 I4 rw'=>⟨_,H3,I4,rw',q3⟩
end
def XO (h:Heap) (a:Addr) (C:Value) (d:Option Addr) (head:Value):Prop :=
 ∃oe vs,h.get? a=some oe/\oe.cls=C/\oe.dict=d/\oe.data=.fields vs/\vs.size=6/\vs[1]?=some head
def TB (h:Heap) (T:Addr) (fl:Value):Prop:=∃oT ts,h.get? T=some oT/\oT.data=.fields ts/\ts[3]?=some fl
def Mu (o:Obj) (f):(o.mapFields f).dict=o.dict:=by
 obtain ⟨c,d,dt,sl⟩:=o
 cases dt<;>rfl
def XO.keeps {h h':Heap}{a:Addr}{C:Value}{d:Option Addr}{head:Value}(x:XO h a C d head) (k:∀o,h.get? a=some o->h'.get? a=some o):XO h' a C d head:=by
 obtain ⟨oe,vs,e,r⟩:=x
 exact ⟨oe,vs,k _ e,r⟩
def TB.keeps {h h':Heap}{T:Addr}{fl:Value}(x:TB h T fl) (k:∀o,h.get? T=some o->h'.get? T=some o):TB h' T fl:=by
 obtain ⟨oT,ts,e,r⟩:=x
 exact ⟨oT,ts,k _ e,r⟩
def XO.set1 {h:Heap}{a:Addr}{C:Value}{d:Option Addr}{head:Value}(x:XO h a C d head) (u:Value):XO (h.update a (Obj.mapFields (·.setIfInBounds 1 u))) a C d u:=by
 obtain ⟨oe,vs,e,hc,nI,hd,hz,h1⟩:=x
 have fR:=Obj.data_mapFields hd (·.setIfInBounds 1 u)
 refine ⟨_,_,Heap.get?_update_self _ e (Obj.isFreed_of_fields fR),(Obj.cls_mapFields _ _).trans hc,(Mu _ _).trans nI,fR,?_,?_⟩
 ·rw [Array.size_setIfInBounds];exact hz
 ·have:1<vs.size:=by omega
  simp [this]
def TB.set3 {h:Heap}{T:Addr}{fl:Value}(x:TB h T fl) (u:Value):TB (h.update T (Obj.mapFields (·.setIfInBounds 3 u))) T u:=by
 obtain ⟨oT,ts,e,hd,h3⟩:=x
 have fR:=Obj.data_mapFields hd (·.setIfInBounds 3 u)
 refine ⟨_,_,Heap.get?_update_self _ e (Obj.isFreed_of_fields fR),fR,?_⟩
 have:3<ts.size:=(Array.getElem?_eq_some_iff.mp h3).1
 simp [this]
section
variable {M:Model} {A:Around} {E:Aa} {s:Shared} {base:Heap} {env:Env} {outer:List Env} {L a:Addr} {C:Value} {d:Option Addr} {head:Value} {Q:Unit->Shared->Prop}
def Dh {b2:Bool}(dq:A.frames=some (env::outer)) (hl:s.heap.FunFrames base (env::outer)) (hf:env.frame=some L) (x:XO s.heap a C d head)
  (h:∀h' T,s.heap.objs.size<=T->XO h' a C d (.ref T)->TB h' T (rawInt L)->(∀b o,b≠a->b∉cN (env::outer)->s.heap.get? b=some o->h'.get? b=some o) ->
   (∀b o,b≠a->b∈cN (env::outer)->s.heap.get? b=some o->∃sl,h'.get? b=some { o with slots:=sl })->Q () { s with heap:=h' }) :
  wpAny M A (do let fr <-frameOf env;let pl <-entryPlaceOf L b2;let tb <-EntryCells.newEntry head fr .none (rawInt L) .none pl;setField (.ref a) 1 tb) Q E s:=by
 obtain ⟨oe,vs,e,hc,nI,hd,hz,h1⟩:=id x
 have aN:a∉cN (env::outer):=λhm=>by
  obtain ⟨_,o,ho,nf⟩:=hl.mem hm
  rw [e] at ho
  cases ho
  exact nf vs hd
 refine zu (wpAny_frameOf_fun dq hl hf λg1 rM=>zu (wpAny_entryPlaceOf λpl Di=>?_))
 unfold EntryCells.newEntry newFields
 refine zu (wn ?_ (Di.sizeOk5 _ _ _ _ _))
 have x1:XO g1 a C d head:=⟨oe,vs,(rM.2.1 a aN).trans e,hc,nI,hd,hz,h1⟩
 generalize hob:({ cls:=.type "traceback", dict:=none,data:=.fields ([head,.ref L,.none,rawInt L,.none]++(if pl.isEmpty then List.replicate 6 Value.none else pl)).toArray }:Obj)=ob
 have x2:XO (g1.push ob) a C d head:=x1.keeps λo q=>yl _ q
 obtain ⟨V4,nJ,e2,_,_,hd2,V6,_⟩:=id x2
 refine wpAny_setField e2 hd2 (by omega) ?_
 have aT:g1.objs.size≠a:=λz=>by
  obtain ⟨_,_,q,_⟩:=x1
  have:=yw q
  rw [<-z] at this
  exact Nat.lt_irrefl _ this
 have Dj:s.heap.objs.size<=g1.objs.size:=Nat.le_of_eq rM.1.symm
 refine h _ g1.objs.size Dj (x2.set1 _) ?_ (λb o nb nf q=>?_) (λb o nb nf q=>?_)
 ·have t0:TB (g1.push ob) g1.objs.size (rawInt L):=by
   refine ⟨ob,_,yP _ (by rw [<-hob];rfl),by rw [<-hob],?_⟩
   rcases Di with rfl|⟨_,_,_,_,_,_,_,rfl⟩<;>simp
  exact t0.keeps λo q=>(wz _ _ (yM aT)).trans q
 ·exact (wz _ _ (yM nb)).trans (yl _ ((rM.2.1 b nf).trans q))
 ·obtain ⟨sl,z⟩:=rM.2.2 b o q
  exact ⟨sl,(wz _ _ (yM nb)).trans (yl _ z)⟩
def Mv (dq:A.frames=some (env::outer)) (hl:s.heap.FunFrames base (env::outer)) (hf:env.frame=some L) (x:XO s.heap a C d head)
  (ht:head=.none\/∃T0,head=.ref T0/\T0≠a/\TB s.heap T0 .none)
  (h:∀h' T,s.heap.objs.size<=T->XO h' a C d (.ref T)->TB h' T (rawInt L)->(∀b o,b≠a->.ref b≠head->b∉cN (env::outer)->s.heap.get? b=some o->h'.get? b=some o) ->
   (∀b o,b∈cN (env::outer)->s.heap.get? b=some o->∃sl,h'.get? b=some { o with slots:=sl })->Q () { s with heap:=h' }) :
  wpAny M A (noteFrame (.ref a) env) Q E s:=by
 obtain ⟨oe,vs,e,hc,nI,hd,hz,h1⟩:=id x
 have aN:a∉cN (env::outer):=λhm=>by
  obtain ⟨_,o,ho,nf⟩:=hl.mem hm
  rw [e] at ho
  cases ho
  exact nf vs hd
 unfold noteFrame
 simp only [hf]
 refine zu (jc e hd h1 ?_)
 rcases ht with rfl|⟨T0,rfl,nT,t0⟩
 ·rw [zQ (by decide)]
  exact Dh dq hl hf x λh' T k1 k2 k3 k4 k5=>h h' T k1 k2 k3 (λb o nb _ nf q=>k4 b o nb nf q) λb o hb q=>k5 b o (λz=>aN (z▸hb)) hb q
 ·obtain ⟨oT,ts,eT,hdT,h3⟩:=id t0
  have TN:T0∉cN (env::outer):=λhm=>by
   obtain ⟨_,o,ho,nf⟩:=hl.mem hm
   rw [eT] at ho
   cases ho
   exact nf ts hdT
  rw [zC (show (Value.ref T0 != Value.none)=true from by simp)]
  refine zu (jc eT hdT h3 ?_)
  rw [zQ (show ¬((Value.none==rawInt L)=true) from by simp [rawInt])]
  refine zu (wpAny_setField eT hdT (Array.getElem?_eq_some_iff.mp h3).1 ?_)
  have lQ:∀b,b≠T0->(s.heap.update T0 (Obj.mapFields (·.setIfInBounds 3 Value.none))).get? b=s.heap.get? b:=λb hb=>wz _ _ (yM hb)
  refine Dh (s:={ s with heap:=s.heap.update T0 (Obj.mapFields (·.setIfInBounds 3 Value.none)) }) dq (hl.of_keeps λb o hb nf=>⟨o,(lQ b λq=>?_).trans hb,rfl⟩) hf (x.keeps λo q=>(lQ a (yM nT)).trans q) λh' T k1 k2 k3 k4 k5 =>
   h h' T (by simpa using k1) k2 k3 (λb o nb nh nf q=>k4 b o nb nf ((lQ b λz=>nh (by rw [z])).trans q)) λb o hb q=>k5 b o (λz=>aN (z▸hb)) hb ((lQ b λz=>TN (z▸hb)).trans q)
  rw [q,eT] at hb
  cases hb
  exact nf ts hdT
def Mw {T:Addr}{fl:Value}(x:XO s.heap a C d (.ref T)) (t:TB s.heap T fl) (ne:T≠a)
  (h:∀h',XO h' a C d (.ref T)->TB h' T .none->(∀b o,b≠T->s.heap.get? b=some o->h'.get? b=some o)->h'.objs.size=s.heap.objs.size->Q () { s with heap:=h' }):wpAny M A (setFlight (.ref a) none) Q E s:=by
 obtain ⟨oe,vs,e,_,_,hd,_,h1⟩:=id x
 obtain ⟨oT,ts,eT,hdT,h3⟩:=id t
 unfold setFlight
 refine zu (jc e hd h1 ?_)
 rw [zC (show (Value.ref T != Value.none)=true from by simp)]
 refine wpAny_setField eT hdT (Array.getElem?_eq_some_iff.mp h3).1 ?_
 exact h _ (x.keeps λo q=>(wz _ _ ne).trans q) (t.set3 _) (λb o nb q=>(wz _ _ (yM nb)).trans q) (by simp)
end
def bj (X:Cx) (pins:Ac) (H:Hp) (b:Addr):Prop :=
 H b=none/\X.s₀.heap.objs.size<=b/\b≠X.env.locals/\(∀x c,X.env.cells.lookup x=some c->c≠b)/\∀p∈X.pn++pins,p.1≠b
def bj.new {X:Cx}{pins:Ac}{σ:St}{H H':Hp}{s:Shared}{b:Addr}(I:Inv X pins σ H s) (hb:s.heap.objs.size<=b) (hn:H' b=none):bj X pins H' b:=by
 obtain ⟨f0,f1,f2,f3,f4,f5⟩:=I.fpOk (H':=H') hb hn
 exact ⟨hn,jw I.sz hb,f1,f4,f5⟩
def rN (X:Cx) (pins:Ac) (H:Hp) (h:Heap) (a C:Addr) (d:Option Addr):Prop :=
 ∃head,XO h a (.ref C) d head/\bj X pins H a/\(head=.none\/∃T,head=.ref T/\T≠a/\TB h T .none/\bj X pins H T)
def Throws (X:Cx) (E:XK):Prop:=∀(pins:Ac) (σ:St) (H:Hp) (s:Shared) (a C:Addr) (d:Option Addr),Inv X pins σ H s->rN X pins H s.heap a C d->E (.ref C) d H->X.xe (.ref a) s
def cv (P:Program) (w:World):ez:=λouter H s E e s'=>∃(a C T:Addr) (d:Option Addr) (H':Hp),e=.ref a/\s'.os=s.os/\AllBare s'.gens/\Un (cN outer) [] H H' s.heap s'.heap/\bZ P w H' s'.heap /\
 XO s'.heap a (.ref C) d (.ref T)/\T≠a/\TB s'.heap T .none/\(s.heap.objs.size<=a/\H' a=none)/\(s.heap.objs.size<=T/\H' T=none)/\E (.ref C) d H'
def Mx {X:Cx}{E:XK}(t:Throws X E):Passes (cv X.prog X.w) X E:=by
 rintro pins σ H s e s' I ⟨a,C,T,d,H',rfl,os,bare,un,hok,x,ne,tb,⟨a1,a2⟩,⟨t1,t2⟩,q⟩
 have I':Inv X pins σ H' s':=I.call' (ch:=[]) os un hok bare λb z=>absurd z (by simp)
 exact t pins σ H' s' a C d I' ⟨_,x,bj.new I a1 a2,.inr ⟨T,rfl,ne,tb,bj.new I t1 t2⟩⟩ q
def f6 (a:Addr):Value->Af
 |.ref T0=>[a,T0]
 |_=>[a]
def Dk (a:Addr) (v:Value):a∈f6 a v:=by cases v<;>simp [f6]
def Dl (a T0:Addr):T0∈f6 a (.ref T0):=by simp [f6]
section
variable {X:Cx} {pins:Ac} {σ:St} {H:Hp} {s:Shared} {a C:Addr} {d:Option Addr} {A:Around} {E:Aa} {Q:Unit->Shared->Prop}
def Dm (I:Inv X pins σ H s) (dq:A.frames=some X.stack) (bx:X.stack=X.env::X.outer) (hf:X.env.frame=some X.env.locals) (F:rN X pins H s.heap a C d)
  (h:∀s' T,Inv X pins σ H s'->XO s'.heap a (.ref C) d (.ref T)->T≠a->TB s'.heap T (rawInt X.env.locals)->bj X pins H a->bj X pins H T->Q () s'):wpAny (model X.prog X.w) A (noteFrame (.ref a) X.env) Q E s:=by
 obtain ⟨head,x,oa,ht⟩:=F
 have hl:s.heap.FunFrames X.base (X.env::X.outer):=bx▸I.stack
 have Dp:A.frames=some (X.env::X.outer):=dq.trans (congrArg some bx)
 have Dq:cN (X.env::X.outer)=X.env.locals::X.fs:=by
  unfold cN
  rw [List.filterMap_cons,hf]
  rfl
 have ib:∀b∈X.env.locals::X.fs,H b=none:=λb hb=>I.stkFree b (by rw [bx,Dq];exact hb)
 have vL:∀b u,H b=some u->Value.ref b≠head:=λb u e z=>by
  rcases ht with rfl|⟨T0,rfl,_,_,r⟩
  ·cases z
  ·cases z
   rw [r.1] at e
   cases e
 refine Mv Dp hl hf x (ht.imp id λ⟨T0,e1,e2,e3,_⟩=>⟨T0,e1,e2,e3⟩) λh' T k1 k2 k3 k4 k5=>?_
 rw [Dq] at k4 k5
 have oT:bj X pins H T:=bj.new I k1 (I.hok.fresh k1)
 have neT:T≠a:=λz=>by
  obtain ⟨_,_,e,_⟩:=x
  have:=yw e
  rw [<-z] at this
  exact Nat.lt_irrefl _ (jx this k1)
 refine h { s with heap:=h' } T ?_ k2 neT k3 oa oT
 refine I.step (g':=s.gens) (t':=s.toks) (d':=s.drawn) (ch:=f6 a head) (λb hb=>?_) (λb o n1 n2 n3 e n=>k4 b o (λz=>n3 ?_) (λz=>n3 ?_) (λz=>(yE.mp z).elim n1 n2) e)
  (λb o n1 n2 n3 e n=>k5 b o (jZ _ n2) e) (λ_ _ _ _ n=>n) (λb o n3 e=>?_) (λ_ _ e=>e) (λ_ _ _ e=>e) (λb ps e=>⟨#[],by rw [e];simp⟩) (λm hm=>?_) (λb u e=>?_) I.bare
 ·have own:bj X pins H b:=by
   rcases ht with rfl|⟨T0,rfl,_,_,r⟩
   ·have z:b=a:=by simpa [f6] using hb
    rw [z];exact oa
   ·have z:b=a\/b=T0:=by simpa [f6] using hb
    rcases z with z|z
    ·rw [z];exact oa
    ·rw [z];exact r
  exact ⟨.inr own.2.1,own.2.2.1,own.2.2.2.1,own.2.2.2.2⟩
 ·rw [z]
  exact Dk a head
 ·rw [<-z]
  exact Dl a b
 ·by_cases hb:b∈X.env.locals::X.fs
  ·obtain ⟨sl,z⟩:=k5 b o hb e
   exact ⟨_,z⟩
  ·exact ⟨o,k4 b o (λz=>n3 (by rw [z];exact Dk a head)) (λz=>n3 (by rw [<-z];exact Dl a b)) hb e⟩
 ·obtain ⟨o,es,ep,ho,r⟩:=hm
  obtain ⟨sl,z⟩:=k5 _ o jC ho
  exact ⟨_,es,ep,z,r⟩
 ·refine (I.hok b u e).stay (λc v hc q=>?_) (λ_ q=>q) λ_ _ q=>q
  have tr:∃u',H c=some u':=by
   rcases hc with z|z
   ·exact ⟨u,by rw [z];exact e⟩
   ·exact ⟨_,z⟩
  obtain ⟨u',eu⟩:=tr
  exact k4 c v (λz=>by rw [z,oa.1] at eu;cases eu) (vL c u' eu) (λz=>by rw [ib c z] at eu;cases eu) q
def vM {T:Addr}{fl:Value}(I:Inv X pins σ H s) (x:XO s.heap a (.ref C) d (.ref T)) (ne:T≠a) (tb:TB s.heap T fl) (oa:bj X pins H a) (oT:bj X pins H T)
  (h:∀s',Inv X pins σ H s'->XO s'.heap a (.ref C) d (.ref T)->TB s'.heap T .none->Q () s'):wpAny (model X.prog X.w) A (setFlight (.ref a) none) Q E s:=by
 refine Mw x tb ne λh' k1 k2 k3 _=>h { s with heap:=h' } ?_ k1 k2
 exact I.turned (t':=s.toks) (it:=T) (λb o nb e=>k3 b o nb e) oT.1 oT.2.2.1 (.inr oT.2.1) oT.2.2.2.1 oT.2.2.2.2
end
section
variable {P:Program} {w:World} {K:PySem.W.Frag} {mg:Ab} {base:Heap}
def dJ.okX {x qual:Str}{st:Stmt}{f:Addr}{fd:FuncData}{N ps:Ae}{k:Nat}{sp:Sp}(F:dJ K x qual st f fd) (S:aE N ps (zG st)) (len:∀vs H Q E,sp vs H Q E->vs.length=ps.length)
  (eE:∀(aY:Value) (A:Around) (outer:List Env) (s:Shared) (H:Hp) (vs:List V) (Q:VK) (E:XK),bb k (A.deeper (envOfC qual (zG st) s.heap.objs.size f aY))->sp vs H Q E ->
   ∃t,cq (dn (cv P w) P w K mg base N qual (zG st) f aY A outer s H E) (jz st) t/\t { nx:=λ_ H'=>Q .non H',rt:=Q } (start N vs) H):bz P w K mg base (cv P w) (k+1) f fd ps sp:=by
 obtain ⟨oc,od,kV,doc,pm,an,aY,ct,eA,rfl,lk,fw⟩:=F.ex
 exact Cj lk fw S len λA outer s H vs Q E hr gG=>eE aY A outer s H vs Q E hr gG
end
end L2
namespace L2
open PySem PySem.Spec PyProof.Rows PySem.W PySem.Builtin PySem.Builtin.ObjectAttr
def eZ:List Value->Bool
 |[.type a,.type b,.type c,.type d]=>a == "ValueError" && b == "Exception" && c == "BaseException" && d == "object"
 |.ref _::r=>eZ r
 |_=>false
def iA (K:Frag) (C:Addr):Bool:=(clsIn K C).any λcd=>eZ cd.mro
def rP (C t:Addr) (d:Option Addr) (a:Addr):HO:=.ext λ_ _ h=>h.get? a=some { cls:=.ref C,dict:=d,data:=.fields #[.ref t,.none,.none,.none,.bool false,.none] }
structure lS (K:PySem.W.Frag) (C:Addr) (f:Str):Prop where
 sa:PySem.W.findIn K (.ref C) "__setattr__" = some (some (.builtin "object.__setattr__"))
 line:iA K C=true
 no:PySem.W.takerIn K C f=some none
 hd:PySem.W.hasDictIn K C=true
def Mz (K:PySem.W.Frag) (ta tv:TE) (f:Str):TS:=λD σ H=>tv σ H λy H1=>ta σ H1 λx H2=>∃a C t,x=.ref a/\H2 a=some (rP C t none a)/\lS K C f /\
 ∀d,H2 d=none->D.nx σ (upd (upd H2 d (.xd [(f,y)])) a (rP C t (some d) a))
abbrev da:Ah:=[.type "ValueError", .type "Exception", .type "BaseException", .type "object"]
structure g0 (K:Frag) (C:Addr):Prop where
 ob:∃nm q N bs bm c_ sn sub ab col dd k0 k1 k2 k3 k5,K.lookup C=some (excClassObj nm q C N bs bm c_ sn sub ab col dd k0 k1 k2 k3 k5 "ValueError.__new__")/\tailIn K da bm=true/\nsOkIn K N=true
 kp:keepIn K (.ref C)=true
structure f7 (K:Frag) (C f:Addr):Prop where
 ob:∃nm q N bs bm c_ sn sub ab col dd k0 k1 k2 k3 k5,K.lookup C=some (excClassObj nm q C N bs bm c_ sn sub ab col dd k0 k1 k2 k3 k5 "ValueError.__new__")/\tailIn K da bm=true/\nsOkIn K N=true/\nsIn K N "__init__" = some (some (.ref f))
 fn:isFn K (.ref f)=true
 kp:keepIn K (.ref C)=true
def f7.of {K:Frag}{C f:Addr}(x:f7 K C f):g0 K C:=by
 obtain ⟨⟨nm,q,N,bs,bm,c_,sn,sub,ab,col,dd,k0,k1,k2,k3,k5,a,b,c,_⟩,_,k⟩:=x
 exact ⟨⟨nm,q,N,bs,bm,c_,sn,sub,ab,col,dd,k0,k1,k2,k3,k5,a,b,c⟩,k⟩
section
variable {f C:Addr}
def MB (C:Addr) (f:Str):Sp:=λvs H Q _=>∃a t y,vs=[.ref a,y]/\H a=some (rP C t none a)/\∀d,H d=none->Q .non (upd (upd H d (.xd [(f,y)])) a (rP C t (some d) a))
end
def XP (X:Cx) (pins:Ac) (σ:St) (E:XK) (u:Value) (s':Shared):Prop:=∃(a C:Addr) (d:Option Addr) (H':Hp),u=.ref a/\Inv X pins σ H' s'/\rN X pins H' s'.heap a C d/\E (.ref C) d H'
abbrev TX:=St->Hp->VK->XK->Prop
def PX (X:Cx) (e:Expr) (t:TX):Prop :=
 ∀(pins:Ac) (s:Shared) (σ:St) (H:Hp) (Q:VK) (E:XK),Inv X pins σ H s->t σ H Q E->wpAny (model X.prog X.w) X.A (eval e X.env) (EP X pins σ Q) (XP X pins σ E) s
section
variable {X:Cx} {k:Nat} {f C:Addr} {fd:FuncData} {ps:Ae} {sp:Sp} {dm:List V} {ds:Ah} {E:XK} {x:Str} {e:Expr}
def MC {pins:Ac}{σ:St}{H:Hp}{s:Shared}{Q:VK}{us:Ah}{vs:List V}(F:bz X.prog X.w X.K X.mg X.base (cv X.prog X.w) k f fd ps sp) (hr:bb k X.A) (hb:Binds X.K fd ps ds) (hd:Vals dm ds)
  (I:Inv X pins σ H s) (r:Vals vs us) (h:sp (vs++dm) H Q E):wpAny (model X.prog X.w) X.A (call (.ref f) us) (EP X pins σ Q) (XP X pins σ E) s:=by
 have r2:Vals (vs++dm) (us++ds):=r.append hd
 have hl:(us++ds).length=ps.length:=by rw [<-r2.length];exact F.len _ _ _ _ h
 refine wpAny_call (codeAny_mono (F.run X.A X.stack s H ⟨us,[]⟩ (us++ds) (vs++dm) Q E hr I.env0 (hb s us I.kIn hl) r2 h) λr s' hq=>?_)
 cases r with
 |error e =>
  obtain ⟨a,C,T,d,H',rfl,os,bare,un,hok,x,ne,tb,⟨a1,a2⟩,⟨t1,t2⟩,q⟩:=hq
  have I':Inv X pins σ H' s':=I.call' (ch:=[]) os un hok bare λb z=>absurd z (by simp)
  exact ⟨a,C,d,H',rfl,I',⟨_,x,bj.new I a1 a2,.inr ⟨T,rfl,ne,tb,bj.new I t1 t2⟩⟩,q⟩
 |ok fl =>
  cases fl with
  |ret u=>exact I.after hq
  |next=>exact hq.elim
  |brk=>exact hq.elim
  |cont=>exact hq.elim
end
def f9 (C:Addr) (d:Option Addr) (a:Addr):HO:=.ext λ_ _ h=>∃T:Addr,XO h a (.ref C) d (.ref T)
abbrev Cx.caught (X:Cx) (a:Addr):Cx:={ X with A:=X.A.mark (some (.ref a)),calm:=false,xe:=λ_ _=>False }
section
variable {X:Cx} {pins:Ac} {σ:St} {H:Hp} {s:Shared} {a C:Addr} {d:Option Addr}
theorem Inv.caught (I:Inv X pins σ H s) (a:Addr):Inv (X.caught a) pins σ H s :=
 ⟨⟨I.ok.mod,I.ok.kind,I.ok.glob,I.ok.blt,I.ok.above,I.ok.inj,I.ok.has,I.ok.cab,(λz=>nomatch z),I.ok.frames,I.ok.stk,I.ok.exf,I.ok.bs,I.ok.bsz,I.ok.noex,I.ok.exfs,I.ok.funs,I.ok.frf⟩,I.os,I.bare,I.base,I.loc,I.cell,I.free,I.freeC,I.pin,I.hok,I.len⟩
def Inv.uncaught (J:X.Ok) (I:Inv (X.caught a) pins σ H s):Inv X pins σ H s:=⟨J,I.os,I.bare,I.base,I.loc,I.cell,I.free,I.freeC,I.pin,I.hok,I.len⟩
def Inv.track {o:HO}(I:Inv X pins σ H s) (ow:bj X pins H a) (new:a9 X.prog X.w (upd H a o) s.heap a o):Inv X pins σ (upd H a o) s:=by
 have ne:∀b u,H b=some u->b≠a:=λb u e z=>by rw [z,ow.1] at e;cases e
 have t:=I.step (h':=s.heap) (H':=upd H a o) (g':=s.gens) (t':=s.toks) (d':=s.drawn) (ch:=[a]) (λb hb=>?_) (λb u _ _ _ e _=>e) (λb u _ _ _ e _=>⟨u.slots,e⟩) (λb u nb e n=>?_) (λb u _ e=>⟨u,e⟩) (λb xs e=>?_) (λb u v e=>?_) (λb ps e=>?_) (λm hm=>hm) (λb u e=>?_) I.bare
 ·exact t
 ·have z:b=a:=by simpa using hb
  rw [z]
  exact ⟨.inr ow.2.1,ow.2.2.1,ow.2.2.2.1,ow.2.2.2.2⟩
 ·rw [yf (λz=>nb (by simp [z]))];exact n
 ·rw [yf (ne b _ e)];exact e
 ·rw [yf (ne b _ e)];exact e
 ·exact ⟨#[],by rw [yf (ne b _ e),e];simp⟩
 ·by_cases z:b=a
  ·rw [z] at e ⊢
   rw [yU] at e
   cases e
   exact new
  ·rw [yf z] at e
   exact (I.hok b u e).stay (λ_ _ _ q=>q) (λc q=>by rw [yf (ne c _ q)];exact q) λc xs q=>by rw [yf (ne c _ q)];exact q
def Inv.catch {T:Addr}(I:Inv X pins σ H s) (ow:bj X pins H a) (x:XO s.heap a (.ref C) d (.ref T)):Inv X pins σ (upd H a (f9 C d a)) s :=
 Inv.track I ow ⟨⟨T,x⟩,(let ⟨oe,_,e,_⟩:=x;⟨oe,e⟩),λh1 h2 p k=>let ⟨T,z⟩:=p;⟨T,z.keeps λo q=>k o q⟩⟩
def Dr {M:Model}{A:Around}{E:Aa}{j:Nat}{n:Str}{pos:Pos}{Q:Unit->Shared->Prop}(I:Inv X pins σ H s) (hN:X.N.Nodup) (hj:X.N[j]?=some n) (hk:X.env.scope.names.lookup n=some .local)
  (h:∀s',Inv X pins (σ.set j none) H s'->Q () s'):wpAny M A (do bindName X.env n .none;unbindBehindTheSuite X.env n pos) Q E s:=by
 obtain ⟨m,hn,hl⟩:=id I.loc
 have ki:(X.env.scope.kind == .class||(X.env.scope.kind == .module&&X.env.locals != X.env.globals))=false:=by rw [I.ok.kind];rfl
 have aK:j<σ.length:=by rw [I.len];exact (yD.mp hj).1
 have cne:=I.cne
 obtain ⟨oL,_,_,BI,_⟩:=id hn
 refine wpAny_nameGoes_keeps hk hn ki λh' v kZ hs=>?_
 refine h _ ⟨I.ok,I.os,I.bare,⟨λb o e n hb hx=>?_,λb o e n hb hx=>?_,I.base.free,λb o e hx=>?_,I.base.tups,I.base.frzs,I.base.tbls⟩,⟨_,kZ,λi y v' e1 e2 e3=>?_⟩,λy c e=>?_,I.free,I.freeC,λp hp=>?_,λb ob e=>?_,by simpa using I.len⟩
 ·exact (hs.2 b (yX (jx (yw e) I.ok.above))).trans (I.base.keep b o e n hb hx)
 ·obtain ⟨sl,e1⟩:=I.base.slot b o e n hb hx
  exact ⟨sl,(hs.2 b (yX (jx (yw e) I.ok.above))).trans e1⟩
 ·obtain ⟨o',e1⟩:=I.base.there b o e hx
  exact ⟨o',(hs.2 b (yX (jx (yw e) I.ok.above))).trans e1⟩
 ·by_cases hi:i=j
  ·subst hi
   rw [yz aK] at e2
   cases e2
  ·rw [yJ (yM hi)] at e2
   obtain ⟨u',r',q⟩:=hl i y v' e1 e2 e3
   refine ⟨u',r',?_⟩
   rcases q with ⟨k,e⟩|⟨k,c,e,z⟩
   ·refine .inl ⟨k,?_⟩
    have:y≠n:=λe=>hi (uW hN e1 (e▸hj))
    simp [this,e]
   ·exact .inr ⟨k,c,e,z.sameBut hs (cne y c e)⟩
 ·obtain ⟨w',z⟩:=I.cell y c e
  exact ⟨w',z.sameBut hs (cne y c e)⟩
 ·obtain ⟨e,n,ne,nf,d⟩:=I.pin p hp
  exact ⟨(hs.2 p.1 ne).trans e,n,ne,nf,d⟩
 ·refine (I.hok b ob e).stay (λc w' hc q=>(hs.2 c ?_).trans q) (λ_ q=>q) λ_ _ q=>q
  rintro rfl
  rcases hc with rfl|hc
  ·rw [I.free] at e;cases e
  ·rw [I.free] at hc;cases hc
end
section
variable {X:Cx} {pins:Ac} {σ:St} {H:Hp} {s:Shared} {a C d:Addr} {fs:List (Str×V)}
def Ds (I:Inv X pins σ H s) (ha:H a=some (f9 C (some d) a)) (hd:H d=some (.xd fs)):∃ox od,InstAt s.heap a ox C (some od)/\∀n,∃o,lookIn n od=some o/\cm (fs.lookup n) o:=by
 obtain ⟨T,oe,vs,e,hc,nI,vO,_⟩:=(show a9 X.prog X.w H s.heap a (f9 C (some d) a) from I.hok a _ ha).1
 obtain ⟨mA,hn,r⟩:=(show a9 X.prog X.w H s.heap d (.xd fs) from I.hok d _ hd)
 obtain ⟨od,ho,hl⟩:=B1 hn
 refine ⟨oe,od,⟨e,hc,by unfold notCls;rw [vO],by rw [nI];exact ho⟩,λn=>⟨mA n,hl n,r n⟩⟩
end
def f7.mk' {K:Frag}{C B N f:Addr}{nm q:Str}{bs:Ah}{c_:Bool}{sn:Ae}{sub:Ah}{ab:Bool}{col:Option Bool}{dd:Option Addr}{k0 k1 k2 k3 k5:Option Value}{c:Value}{d:Option Addr}{es:Array DictEntry}{n:Nat}{sl:Array (Option Value)}
  (hC:K.lookup C=some (excClassObj nm q C N bs (.ref B::da) c_ sn sub ab col dd k0 k1 k2 k3 k5 "ValueError.__new__")) (hB:excIn K B da "ValueError.__new__" = true)
  (hN:K.lookup N=some ⟨c,d,.dict es n,sl⟩) (he:(es.all λe=>match e.key with | .str _ _=>true|_=>false)=true) (hi:nsIn K N "__init__" = some (some (.ref f))) (fn:isFn K (.ref f)=true) (kp:keepIn K (.ref C)=true):f7 K C f:=by
 refine ⟨⟨nm,q,N,bs,_,c_,sn,sub,ab,col,dd,k0,k1,k2,k3,k5,hC,?_,?_,hi⟩,fn,kp⟩
 ·unfold excIn at hB
  split at hB
  ·rename_i dd cd sl ho
   split at hB
   ·simp only [wB,beq_iff_eq,Bool.not_eq_true'] at hB
    obtain ⟨⟨_,hok⟩,MD⟩:=hB
    unfold tailIn
    dsimp only
    rw [ho]
    have t0:tailIn K da da=true:=by unfold tailIn;rw [beq_self_eq_true,Bool.true_or]
    simp only [hok,MD,beq_self_eq_true,Bool.true_and,t0,Bool.or_true]
   ·cases hB
  ·cases hB
 ·unfold nsOkIn
  rw [hN]
  exact he
end L2
namespace L2
open PySem PySem.Spec PyProof.Rows PySem.W
def vP (X:Cx) (pins:Ac) (H:Hp) (h:Heap) (a C:Addr) (d:Option Addr):Prop :=
 ∃T,XO h a (.ref C) d (.ref T)/\T≠a/\TB h T (rawInt X.env.locals)/\bj X pins H a/\bj X pins H T
def vQ (X:Cx) (pins:Ac) (H:Hp) (h:Heap) (a C:Addr) (d:Option Addr):Prop:=rN X pins H h a C d\/vP X pins H h a C d
def w9 (X:Cx) (E:XK):Prop:=∀(pins:Ac) (σ:St) (H:Hp) (s:Shared) (a C:Addr) (d:Option Addr),Inv X pins σ H s->vQ X pins H s.heap a C d->E (.ref C) d H->X.xe (.ref a) s
def w9.one {X:Cx}{E:XK}(t:w9 X E):Throws X E:=λpins σ H s a C d I F q=>t pins σ H s a C d I (.inl F) q
def XA (X:Cx) (Er:XK) (e:Value) (s:Shared):Prop:=∃(pins:Ac) (σ:St) (H:Hp) (a C:Addr) (d:Option Addr),e=.ref a/\Inv X pins σ H s/\vQ X pins H s.heap a C d/\Er (.ref C) d H
section
variable {X:Cx} {pins:Ac} {σ:St} {H:Hp} {s:Shared} {a C:Addr} {d:Option Addr} {A:Around} {E:Aa} {Q:Unit->Shared->Prop} {Er:XK}
def zK:w9 (X.wish (XA X Er)) Er:=λpins σ H s a C d I F q=>⟨pins,σ,H,a,C,d,rfl,I.unwish,F,q⟩
def Dt (I:Inv X pins σ H s) (dq:A.frames=some X.stack) (bx:X.stack=X.env::X.outer) (hf:X.env.frame=some X.env.locals) (F:vQ X pins H s.heap a C d)
  (h:∀s' T,Inv X pins σ H s'->XO s'.heap a (.ref C) d (.ref T)->T≠a->TB s'.heap T (rawInt X.env.locals)->bj X pins H a->bj X pins H T->Q () s'):wpAny (model X.prog X.w) A (noteFrame (.ref a) X.env) Q E s:=by
 rcases F with F|⟨T,x,ne,tb,oa,oT⟩
 ·exact Dm I dq bx hf F h
 ·obtain ⟨oe,vs,e,_,_,hd,_,h1⟩:=id x
  obtain ⟨ot,ts,et,vO,h3⟩:=id tb
  unfold noteFrame
  simp only [hf]
  refine zu (jc e hd h1 ?_)
  rw [zC (show (Value.ref T != Value.none)=true by simp)]
  refine zu (jc et vO h3 ?_)
  rw [zC (by simp)]
  exact ya (h s T I x ne tb oa oT)
def MF {T f:Addr}{fl:Value}(x:XO s.heap a (.ref C) d (.ref T)) (t:TB s.heap T fl) (ne:T≠a)
  (h:∀h',XO h' a (.ref C) d (.ref T)->TB h' T (rawInt f)->(∀b o,b≠T->s.heap.get? b=some o->h'.get? b=some o)->Q () { s with heap:=h' }) {M:Model}:wpAny M A (setFlight (.ref a) (some f)) Q E s:=by
 obtain ⟨oe,vs,e,_,_,hd,_,h1⟩:=id x
 obtain ⟨oT,ts,eT,hdT,h3⟩:=id t
 unfold setFlight
 refine zu (jc e hd h1 ?_)
 rw [zC (show (Value.ref T != Value.none)=true by simp)]
 refine wpAny_setField eT hdT (Array.getElem?_eq_some_iff.mp h3).1 ?_
 exact h _ (x.keeps λo q=>(wz _ _ ne).trans q) (t.set3 _) λb o nb q=>(wz _ _ (yM nb)).trans q
def yC (bx:X.stack=X.env::X.outer) (hf:X.env.frame=some X.env.locals):PassesOwn (model X.prog X.w) X.A X.env (XA X Er):=by
 rintro e s ⟨pins,σ,H,a,C,d,rfl,I,F,q⟩
 unfold notedBy
 refine Dt I I.ok.frames bx hf F λs2 T I2 x2 ne vR oa oT=>?_
 unfold cameBackBy
 obtain ⟨oe,vs,e2,_,_,hd,_,h1⟩:=id x2
 refine zu (jc e2 hd h1 ?_)
 rw [zQ (show ¬((Value.ref T==Value.none)=true) by simp),hf]
 refine MF x2 vR ne λh' x3 pH k3=>⟨pins,σ,H,a,C,d,rfl,?_,.inr ⟨T,x3,ne,pH,oa,oT⟩,q⟩
 exact I2.turned (t':=s2.toks) (it:=T) (λb o nb e=>k3 b o nb e) oT.1 oT.2.2.1 (.inr oT.2.1) oT.2.2.2.1 oT.2.2.2.2
def cq.throwing {st:List Stmt}{t:TS}(h:cq (X.wish (XA X Er)) st t) (ht:w9 X Er):cq X st t:=λpins s σ H D I hw =>
 jn (h pins s σ H D (I.wish _) hw) (λ_ _ q=>q.unwish) λe s' ⟨pins,σ,H,a,C,d,ee,I1,F,q⟩=>ee▸ht pins σ H s' a C d I1 F q
def rQ (t:w9 X Er):Passes (cv X.prog X.w) X Er:=Mx t.one
end
def MH {P:Program}{w:World}{K:PySem.W.Frag}{mg:Ab}{base:Heap}{N:Ae}{qual:Str}{scope:Scope}{f:Addr}{cd:Value}{A:Around}{outer:List Env}{s:Shared}{H:Hp}{E:XK} :
  w9 (dn (cv P w) P w K mg base N qual scope f cd A outer s H E) E:=by
 intro pins σ H1 s1 a C d I F q
 show wpAny (model P w) (A.deeper (envOfC qual scope s.heap.objs.size f cd)) (leaving (envOfC qual scope s.heap.objs.size f cd) (.ref a)) _ _ s1
 unfold leaving
 refine zu (Dt I I.ok.frames rfl rfl F λs2 T I2 x ne tb oa oT=>vM I2 x ne tb oa oT λs3 I3 x3 pH=>?_)
 exact ⟨a,C,T,d,H1,rfl,I3.os,I3.bare,I3.base,I3.hok,x3,ne,pH,⟨oa.2.1,oa.1⟩,⟨oT.2.1,oT.1⟩,q⟩
section
variable {P:Program} {w:World} {K:PySem.W.Frag} {mg:Ab} {base:Heap}
def dJ.okT {x qual:Str}{st:Stmt}{f:Addr}{fd:FuncData}{N ps:Ae}{k:Nat}{sp:Sp}(F:dJ K x qual st f fd) (S:aE N ps (zG st)) (len:∀vs H Q E,sp vs H Q E->vs.length=ps.length)
  (eE:∀(aY:Value) (A:Around) (outer:List Env) (s:Shared) (H:Hp) (vs:List V) (Q:VK) (E:XK),bb k (A.deeper (envOfC qual (zG st) s.heap.objs.size f aY))->sp vs H Q E ->
   ∃t,cq ((dn (cv P w) P w K mg base N qual (zG st) f aY A outer s H E).wish (XA (dn (cv P w) P w K mg base N qual (zG st) f aY A outer s H E) E)) (jz st) t/\t { nx:=λ_ H'=>Q .non H',rt:=Q } (start N vs) H):bz P w K mg base (cv P w) (k+1) f fd ps sp :=
 dJ.okX F S len λaY A outer s H vs Q E hr hs=>let ⟨t,h1,h2⟩:=eE aY A outer s H vs Q E hr hs;⟨t,cq.throwing h1 MH,h2⟩
end
end L2
namespace L2
open PySem PySem.Spec PyProof.Rows PySem.W PySem.Builtin PySem.Builtin.ObjectAttr
section
variable {prog:Program} {w:World} {A:Around} {E:Aa} {K:Frag} {x C:Addr} {s:Shared} {ox:Obj} {od:Option Obj} {name:Str} {tk:Tok}
structure f_ (K:Frag) (C:Addr):Prop where
 ga:findIn K (.ref C) "__getattribute__" = some (some (.builtin "BaseException.__getattribute__"))
 hk:findIn K (.ref C) "__getattr__" = some none
 hB:mroIn K C (.type "BaseException")=some true
def Du {fill expr:Bool}{Q:Aa}(X:K.In s.heap) (I:InstAt s.heap x ox C od) (G:f_ K C)
  (h:wpAny (model prog w) A.in1 (Builtin.«object.__getattribute__» ⟨[.ref x,.str name tk],[]⟩) (λfin s'=>∃v,fin=.done (.ret v)/\handedIn v=true/\Q v s') (λ_ _=>False) s) :
  wpAny (model prog w) A (getAttrBy (.ref x) (.str name tk) fill expr) Q E s:=by
 have L0:=I.type (M:=model prog w)
 have L1:=looks_findIn (M:=model prog w) X G.ga
 have L2:=looks_findIn (M:=model prog w) X G.hk
 have nL:Looks (model prog w) s.heap (isInstance (.ref x) (.type "BaseException")) true:=I.type.andThen (looks_mroIn X G.hB)
 unfold getAttrBy
 refine hG (zu (L0.here (zu (L1.here ?_))))
 dsimp only
 rw [zQ (show ¬((onTheHeap (Value.ref C)&&Value.builtin "BaseException.__getattribute__" == Value.builtin "object.__getattribute__")=true) by
  rw [show (Value.builtin "BaseException.__getattribute__" == Value.builtin "object.__getattribute__")=false by decide +kernel,Bool.and_false];exact Bool.false_ne_true)]
 unfold getAttrByItsOwn hookBefore
 rw [zC (show onTheHeap (Value.ref C)=true from rfl)]
 refine zu (L2.here (zu (wpAny_attempt (hG ?_))))
 unfold callGetattribute
 rw [zQ (show ¬((expr&&onTheHeap (Value.builtin "BaseException.__getattribute__"))=true) by cases expr<;>exact Bool.false_ne_true)]
 unfold boundAndCalled
 refine zu (wpAny_of_eq (PySem.F.excAttr_ValueError.ga.bind (.ref x)) ?_)
 refine wpAny_call (codeAny_call_builtin PySem.F.excAttr_ValueError.ga.plain PySem.F.entry_bexc_ga (@check_slot (model prog w) _ _ s "BaseException.__getattribute__" "BaseException" "__getattribute__" (.ref x) [.str name tk] [] _ (by decide +kernel) (by decide +kernel) nL (PySem.F.args_bexc_ga (.ref x) (.str name tk)) ?_))
 refine jn h (λfin s' ⟨v,ef,hv,q⟩=>?_) λ_ _ z=>z.elim
 subst ef
 show wpAny _ _ (handedOut v) _ _ _
 rw [handedOut_of hv]
 exact ya q
def MJ {v:Value}{Q:Fin->Shared->Prop}(X:K.In s.heap) (I:InstAt s.heap x ox C od) (hf:findObj K C od name=some (.value v)) (h:Q (.done (.ret v)) s) :
  wpAny (model prog w) A (Builtin.«object.__getattribute__» ⟨[.ref x,.str name tk],[]⟩) Q E s:=by
 have L0:=I.type (M:=model prog w)
 have L1:=looks_find (M:=model prog w) X I hf
 exact zu (ya (zu (ya (zu (L0.here (zu (L1.here (ya h))))))))
def ML {Q:Fin->Shared->Prop} (X:K.In s.heap) (I:InstAt s.heap x ox C od) (hf:findObj K C od "__class__" = some (.bind (.builtin "getset_descriptor.__get__") (.builtin "object.__class__"))) (hm:mroIn K C (.type "object")=some true)
  (h:Q (.done (.ret (.ref C))) s):wpAny (model prog w) A (Builtin.«object.__getattribute__» ⟨[.ref x,.str "__class__" tk],[]⟩) Q E s:=by
 have L0:=I.type (M:=model prog w)
 have L1:=looks_find (M:=model prog w) X I hf
 refine zu (ya (zu (ya (zu (L0.here (zu (L1.here ?_)))))))
 show wpAny _ _ (holding [.builtin "object.__class__"] (call (.builtin "getset_descriptor.__get__") [.builtin "object.__class__", .ref x,.ref C]) >>= ret) _ _ _
 exact zu (hG (wpAny_call (class_get (ox:=ox) (od:=od) X I hm (ya h))))
end
def MM {K:Frag} {x D:Addr} {ox:Obj} {od:Option Obj} (G:f_ K D) (hcl:(clsIn K D).isSome=true) (hf:findObj K D od "__class__" = some (.bind (.builtin "getset_descriptor.__get__") (.builtin "object.__class__"))) (hm:mroIn K D (.type "object")=some true) :
  KitX K (.ref x) (.ref D) (λh=>InstAt h x ox D od):=by
 obtain ⟨cd,hc⟩:=Option.isSome_iff_exists.mp hcl
 unfold clsIn at hc
 split at hc
 ·rename_i c' d' V7 qZ ho
  refine ⟨λ_ _ _ I=>I.type,λM h X _=>?_,λh tp dd its n sl X MN=>?_,λ{prog w A E Q s} X I k=>?_⟩
  ·intro A' Q' E' s' k q
   unfold isType loadHead
   exact zu (wpAny_loadPart (k _ _ (X _ _ ho)) (ya q))
  ·refine Bool.eq_false_iff.mpr λq=>?_
   obtain rfl:D=tp:=Value.ref.inj (beq_iff_eq.mp q)
   have z:=(X _ _ ho).symm.trans MN
   cases z
  ·unfold getAttr? getAttrBy?
   refine zu (wpAny_mkText (zu (wpAny_attempt ?_)))
   exact Du (s:={ s with toks:=s.toks+1 }) X I G (ML (s:={ s with toks:=s.toks+1 }) X I hf hm ⟨_,rfl,rfl,ya k⟩)
 ·cases hc
structure mX (K:Frag) (C:Addr):Prop where
 g:f_ K C
 hd:hasDictIn K C=true
 ha:findIn K (.ref C) "__class__" = some (some (.builtin "object.__class__"))
 hn:specialIn K (.builtin "object.__class__") "__get__" = some (some (.builtin "getset_descriptor.__get__"))
 tk:takesIn K (.builtin "object.__class__")=some true
 hm:mroIn K C (.type "object")=some true
section
variable {X:Cx} {pins:Ac} {σ:St} {H:Hp} {s:Shared} {a C d:Addr} {fs:List (Str×V)} {A:Around} {E:Aa}
def MP {b:Bool}{f:Str}{v:V}{Q:Aa}(I:Inv X pins σ H s) (ha:H a=some (f9 C (some d) a)) (hd:H d=some (.xd fs)) (g:f_ X.K C) (hh:hasDictIn X.K C=true) (no:findIn X.K (.ref C) f=some none) (l:fs.lookup f=some v)
  (h:∀u s',Inv X pins σ H s'->RelV v u->Q u s'):wpAny (model X.prog X.w) A (getAttr (.ref a) f b) Q E s:=by
 obtain ⟨ox,od,J,hl⟩:=Ds I ha hd
 obtain ⟨o,ho,r⟩:=hl f
 rw [l] at r
 obtain ⟨u,rfl,ru⟩:=cm.some_of (v:=v) (o:=o) r
 unfold getAttr
 refine zu (wpAny_mkText ?_)
 exact Du (s:={ s with toks:=s.toks+1 }) I.kIn J g (MJ (s:={ s with toks:=s.toks+1 }) I.kIn J (findObj_own hh no rfl ho) ⟨u,rfl,B8 ru,h u _ (I.tok _) ru⟩)
def MQ {c:Value}{b:Bool}{Q:Aa}(I:Inv X pins σ H s) (ha:H a=some (f9 C (some d) a)) (hd:H d=some (.xd fs)) (k:mX X.K C) (e:kitOne X.K (.ref C) c=some b) (h:∀tk,Q (.bool b) { s with toks:=tk }) :
  wpAny (model X.prog X.w) A (call (.builtin "isinstance") [.ref a,c]) Q E s:=by
 obtain ⟨ox,od,J,_⟩:=Ds I ha hd
 have cl:(clsIn X.K C).isSome=true:=by obtain ⟨cd,hc,_⟩:=any_some k.hd;rw [hc];rfl
 exact kia_one (MM k.g cl (findObj_data cl k.ha k.hn k.tk) k.hm) I.kIn J e (λz=>nomatch z) h
end
end L2
namespace L2
open PySem PySem.Spec PyProof.Rows PySem.W
structure lT (prog:Program) (w:World) (it src:Addr) (xs:Array Value) (St:Nat->Heap->Prop):Prop where
 at_:∀{k h h'},St k h->(∀o,h.get? it=some o->h'.get? it=some o)->(∀o,h.get? src=some o->h'.get? src=some o)->St k h'
 lt:∀{k h},St k h->it<h.objs.size
 item:∀{A:Around} {E:Aa} {s:Shared} {k:Nat} {x:Value} {Q:Aa},St k s.heap->xs[k]?=some x->(∀h',St (k+1) h'->Heap.SameBut it s.heap h'->Q x { s with heap:=h' }) ->
  wpAny (model prog w) A (Builtin.SmallTypes.nextOf (.ref it)) Q E s
 stop:∀{A:Around} {E:Aa} {s:Shared} {k:Nat} {Q:Aa},A.handled=none->St k s.heap->xs[k]?=none ->
  (∀h' e,Heap.ExtBut it s.heap h'->(∃o,h'.get? e=some o/\o.cls=.type "StopIteration")->E (.ref e) { s with heap:=h' })->wpAny (model prog w) A (Builtin.SmallTypes.nextOf (.ref it)) Q E s
def pI (it t:Addr) (xs:Array Value) (k:Nat) (h:Heap):Prop:=IsTupIter h it t k/\IsTup h t xs
def iB {prog:Program}{w:World}{it t:Addr}{xs:Array Value}(ne:t≠it):lT prog w it t xs (pI it t xs) where
 at_:=λ{k h h'} q k1 k2=>by
  obtain ⟨⟨o,ho,r⟩,⟨o',ho',r'⟩⟩:=q
  exact ⟨⟨o,k1 o ho,r⟩,⟨o',k2 o' ho',r'⟩⟩
 lt:=λq=>let ⟨⟨_,ho,_⟩,_⟩:=q;yw ho
 item:=λ{A E s k x Q} q hx hQ=>by
  obtain ⟨hit,ht⟩:=q
  obtain ⟨o,ho,hc,hd⟩:=id hit
  obtain ⟨ol,vS,_,nl,vT⟩:=id ht
  unfold Builtin.SmallTypes.nextOf
  refine zu (wpAny_callSpecial?_slot (name:=Str.ofString "__next__") hit.typeIs slot_tupleiter_next (g_ slot_tupleiter_next hit.typeIs entry_tupleiter_next ?_ (args_tupleiter_next _)))
  change wpAny _ _ (field (.ref it) 0 >>= _) _ _ s
  refine zu (jc ho hd (x:=.ref t) rfl ?_)
  rw [zQ (by simp)]
  change wpAny _ _ (field (.ref it) 1 >>= _) _ _ s
  refine zu (jc ho hd (x:=.int k 0) rfl ?_)
  change wpAny _ _ (seqItems? (.ref t) >>= _) _ _ s
  refine zu (wpAny_seqItems vS vT ?_)
  simp only [hx,Int.toNat_natCast]
  have fl:=Obj.data_mapFields hd (·.setIfInBounds 1 (rawInt (k+1)))
  refine zu (wpAny_setField ho hd (by simp) (ya ⟨x,rfl,ya (hQ _ ⟨⟨_,Heap.get?_update_self _ ho (Obj.isFreed_of_fields fl),(Obj.cls_mapFields ..).trans hc,?_⟩,?_⟩ (Heap.SameBut.update ..))⟩))
  ·rw [fl];simp [rawInt]
  ·exact ht.extBut (Heap.SameBut.update ..).extBut ne
 stop:=λ{A E s k Q} hh q hx hE=>by
  obtain ⟨hit,ht⟩:=q
  obtain ⟨o,ho,hc,hd⟩:=id hit
  obtain ⟨ol,vS,_,nl,vT⟩:=id ht
  unfold Builtin.SmallTypes.nextOf
  refine zu (wpAny_callSpecial?_slot (name:=Str.ofString "__next__") hit.typeIs slot_tupleiter_next (g_ slot_tupleiter_next hit.typeIs entry_tupleiter_next ?_ (args_tupleiter_next _)))
  change wpAny _ _ (field (.ref it) 0 >>= _) _ _ s
  refine zu (jc ho hd (x:=.ref t) rfl ?_)
  rw [zQ (by simp)]
  change wpAny _ _ (field (.ref it) 1 >>= _) _ _ s
  refine zu (jc ho hd (x:=.int k 0) rfl ?_)
  change wpAny _ _ (seqItems? (.ref t) >>= _) _ _ s
  refine zu (wpAny_seqItems vS vT ?_)
  simp only [hx,Int.toNat_natCast]
  refine zu (wpAny_rule (zu (wpAny_setField ho hd (by simp) ?_)))
  change wpAny _ _ (newExc (.type "StopIteration") [] >>= _) _ _ _
  refine zu ?_
  simp only [newExc,newTuple]
  refine zu (wn (zu (m:=firstArgMember _ _) (wpAny_of_eq (a:=Value.none) (by first|rfl|(simp only [firstArgMember];rfl)) (wn ?_ (by size_fits)))) (by size_fits))
  simp only [raiseNew]
  refine zu (wpAny_handled ?_)
  first|rw [show A.in1.handled=none from hh]|rw [hh]
  exact zu (ya (wpAny_throw (hE _ _ (((Heap.SameBut.update ..).extBut.push _).push _) ⟨_,yP _ rfl,rfl⟩)))
section
variable {prog:Program} {w:World} {A:Around} {E:Aa} {s:Shared} {z TI TO i1 i2 t1 t2:Addr} {k:Nat} {xs ys:Array Value} {x y a b:Value} {S1 S2:Nat->Heap->Prop}
def lT.by_same (S:lT prog w i1 t1 xs S1) {h h':Heap}{c:Addr}(q:S1 k h) (hs:Heap.SameBut c h h') (n1:i1≠c) (n2:t1≠c):S1 k h' :=
 S.at_ q (λo e=>hs.extBut _ _ n1 e) λo e=>hs.extBut _ _ n2 e
def MR {Q:Aa}(D:ZipApart z TI TO i1 i2 t1 t2) (U1:lT prog w i1 t1 xs S1) (U2:lT prog w i2 t2 ys S2) (hz:IsZip s.heap z TI TO .none) (eF:IsPair s.heap TI (.ref i1) (.ref i2)) (d5:IsPair s.heap TO a b)
  (q1:S1 k s.heap) (q2:S2 k s.heap) (hx:xs[k]?=some x) (hy:ys[k]?=some y)
  (hQ:∀h',IsZip h' z TI TO (rawInt s.heap.objs.size)->IsPair h' TO x y->S1 (k+1) h'->S2 (k+1) h'->IsPair h' s.heap.objs.size x y ->
   (∀c o,c≠z->c≠TO->c≠i1->c≠i2->s.heap.get? c=some o->h'.get? c=some o)->Q (.ref s.heap.objs.size) { s with heap:=h' }) :
  wpAny (model prog w) A (Builtin.«zip.__next__» ⟨[.ref z],[]⟩) (λfin s'=>∃v,fin=.done (.ret v)/\Q v s') E s:=by
 change wpAny _ _ (field (.ref z) 2 >>= _) _ _ _
 refine zu (jc hz rfl (x:=.bool false) rfl ?_)
 change wpAny _ _ (field (.ref z) 3 >>= _) _ _ _
 refine zu (jc hz rfl (x:=.ref TI) rfl (zu (wpAny_seqItems eF rfl ?_)))
 change wpAny _ _ (Builtin.SmallTypes.ownedTupleIsFree (.ref z) >>= _) _ _ _
 refine zu ?_
 unfold Builtin.SmallTypes.ownedTupleIsFree
 refine zu (jc hz rfl (x:=.none) rfl (ya ?_))
 rw [zC rfl]
 refine zu (wpAny_rule (zu (jc hz rfl (x:=.ref TO) rfl (zu (wpAny_setField_rec hz (by simp) λh1 z1 e1=>?_)))))
 replace z1:IsZip h1 z TI TO .ellipsis:=z1
 refine zu ?_
 simp only [List.zipIdx_cons,List.zipIdx_nil,List.forIn_cons,List.forIn_nil]
 refine zu (zu (wpAny_onRaise ?_))
 change wpAny _ _ (Builtin.SmallTypes.nextOf (.ref i1) >>= _) _ _ _
 refine zu (U1.item (U1.by_same q1 e1 D.i1z D.l1z) hx λh2 p2 e2=>ya ?_)
 have o2:IsPair h2 TO a b:=e2.extBut _ _ D.TOi1 (e1.extBut _ _ D.TOz d5)
 refine zu (wpAny_seqItems o2 rfl (zu (wpAny_updateSeq_pair o2 λh3 o3 e3=>?_)))
 replace o3:IsPair h3 TO x b:=o3
 refine zu (wpAny_letGo (ya (zu (zu (wpAny_onRaise ?_)))))
 change wpAny _ _ (Builtin.SmallTypes.nextOf (.ref i2) >>= _) _ _ _
 have r3:S2 k h3:=U2.by_same (U2.by_same (U2.by_same q2 e1 D.i2z D.l2z) e2 D.i12.symm D.l2i1) e3 D.TOi2.symm D.l2TO
 refine zu (U2.item r3 hy λh4 p4 e4=>ya ?_)
 have o4:IsPair h4 TO x b:=e4.extBut _ _ D.TOi2 o3
 refine zu (wpAny_seqItems o4 rfl (zu (wpAny_updateSeq_pair o4 λh5 o5 e5=>?_)))
 replace o5:IsPair h5 TO x y:=o5
 refine zu (wpAny_letGo (ya (ya (zu (wpAny_seqItems o5 rfl (zu (wpAny_newTuple ?_)))))))
 have sz:h5.objs.size=s.heap.objs.size:=by rw [e5.1,e4.1,e3.1,e2.1,e1.1]
 have z5:IsZip h5 z TI TO .ellipsis:=e5.extBut _ _ D.TOz.symm (e4.extBut _ _ D.i2z.symm (e3.extBut _ _ D.TOz.symm (e2.extBut _ _ D.i1z.symm z1)))
 have k5:∀c o,c≠z->c≠TO->c≠i1->c≠i2->s.heap.get? c=some o->h5.get? c=some o:=λc o c1 c2 c3 c4 e=>e5.extBut _ _ c2 (e4.extBut _ _ c4 (e3.extBut _ _ c2 (e2.extBut _ _ c3 (e1.extBut _ _ c1 e))))
 have f1:S1 (k+1) h5:=U1.by_same (U1.by_same (U1.by_same p2 e3 D.TOi1.symm D.l1TO) e4 D.i12 D.l1i2) e5 D.TOi1.symm D.l1TO
 have f2:S2 (k+1) h5:=U2.by_same p4 e5 D.TOi2.symm D.l2TO
 change wpAny _ _ (Builtin.SmallTypes.ownedTupleHandOut (.ref z) (.ref h5.objs.size) >>= _) _ _ _
 refine zu ?_
 unfold Builtin.SmallTypes.ownedTupleHandOut
 have z6:IsZip (h5.push { cls:=.type "tuple", data:=.seq #[x,y] }) z TI TO .ellipsis:=yl _ z5
 refine zu (wpAny_setField_rec z6 (by simp) λh7 z7 e7=>?_)
 replace z7:IsZip h7 z TI TO (rawInt h5.objs.size):=z7
 refine wpAny_setField_rec z7 (by simp) λh8 z8 e8=>?_
 replace z8:IsZip h8 z TI TO (rawInt h5.objs.size):=z8
 have up:∀c o,c≠z->h5.get? c=some o->h8.get? c=some o:=λc o c1 e=>e8.extBut _ _ c1 (e7.extBut _ _ c1 (yl _ e))
 have nz:h5.objs.size≠z:=Nat.ne_of_gt (yw z5)
 have pT:IsPair h8 h5.objs.size x y:=e8.extBut _ _ nz (e7.extBut _ _ nz (yP _ rfl))
 rw [sz] at z8 pT
 refine ya ⟨_,rfl,?_⟩
 change Q (.ref h5.objs.size) _
 rw [sz]
 exact hQ h8 z8 (up _ _ D.TOz o5) (U1.at_ f1 (λo e=>up _ o D.i1z e) λo e=>up _ o D.l1z e) (U2.at_ f2 (λo e=>up _ o D.i2z e) λo e=>up _ o D.l2z e) pT λc o c1 c2 c3 c4 e=>up c o c1 (k5 c o c1 c2 c3 c4 e)
def MU {Q:Fin->Shared->Prop}(hh:A.handled=none) (D:ZipApart z TI TO i1 i2 t1 t2) (U1:lT prog w i1 t1 xs S1) (U2:lT prog w i2 t2 ys S2) (hz:IsZip s.heap z TI TO .none) (eF:IsPair s.heap TI (.ref i1) (.ref i2)) (d5:IsPair s.heap TO a b)
  (q1:S1 k s.heap) (q2:S2 k s.heap) (he:xs[k]?=none\/ys[k]?=none)
  (hE:∀h' e,(∀c o,c≠z->c≠TO->c≠i1->c≠i2->s.heap.get? c=some o->h'.get? c=some o)->(∃o,h'.get? e=some o/\o.cls=.type "StopIteration")->E (.ref e) { s with heap:=h' }) :
  wpAny (model prog w) A (Builtin.«zip.__next__» ⟨[.ref z],[]⟩) Q E s:=by
 change wpAny _ _ (field (.ref z) 2 >>= _) _ _ _
 refine zu (jc hz rfl (x:=.bool false) rfl ?_)
 change wpAny _ _ (field (.ref z) 3 >>= _) _ _ _
 refine zu (jc hz rfl (x:=.ref TI) rfl (zu (wpAny_seqItems eF rfl ?_)))
 change wpAny _ _ (Builtin.SmallTypes.ownedTupleIsFree (.ref z) >>= _) _ _ _
 refine zu ?_
 unfold Builtin.SmallTypes.ownedTupleIsFree
 refine zu (jc hz rfl (x:=.none) rfl (ya ?_))
 rw [zC rfl]
 refine zu (wpAny_rule (zu (jc hz rfl (x:=.ref TO) rfl (zu (wpAny_setField_rec hz (by simp) λh1 z1 e1=>?_)))))
 replace z1:IsZip h1 z TI TO .ellipsis:=z1
 refine zu ?_
 simp only [List.zipIdx_cons,List.zipIdx_nil,List.forIn_cons,List.forIn_nil]
 refine zu (zu (wpAny_onRaise ?_))
 change wpAny _ _ (Builtin.SmallTypes.nextOf (.ref i1) >>= _) _ _ _
 have p1:=U1.by_same q1 e1 D.i1z D.l1z
 have Dv:∀{h:Heap} {e:Addr} {oe:Obj},IsZip h z TI TO .ellipsis->h.get? e=some oe->oe.cls=.type "StopIteration" -> e≠z:=λiz ho hc x=>by
  rw [x,iz] at ho
  cases ho
  simp at hc
 cases hx:xs[k]? with
 |none =>
  refine zu (U1.stop hh p1 hx λh2 e e2 ⟨oe,pJ,pK⟩=>?_)
  have z2:IsZip h2 z TI TO .ellipsis:=e2 _ _ D.i1z.symm z1
  exact wpAny_setField_rec z2 (by simp) λh3 _ e3=>hE h3 e (λc o c1 _ c3 _ x=>e3.extBut _ _ c1 (e2 _ _ c3 (e1.extBut _ _ c1 x))) ⟨oe,e3.extBut _ _ (Dv z2 pJ pK) pJ,pK⟩
 |some x =>
  have hy:ys[k]?=none:=by
   rcases he with h|h
   ·rw [hx] at h;cases h
   ·exact h
  refine zu (U1.item p1 hx λh2 p2 e2=>ya ?_)
  have o2:IsPair h2 TO a b:=e2.extBut _ _ D.TOi1 (e1.extBut _ _ D.TOz d5)
  refine zu (wpAny_seqItems o2 rfl (zu (wpAny_updateSeq_pair o2 λh3 o3 e3=>?_)))
  refine zu (wpAny_letGo (ya (zu (zu (wpAny_onRaise ?_)))))
  change wpAny _ _ (Builtin.SmallTypes.nextOf (.ref i2) >>= _) _ _ _
  have r3:S2 k h3:=U2.by_same (U2.by_same (U2.by_same q2 e1 D.i2z D.l2z) e2 D.i12.symm D.l2i1) e3 D.TOi2.symm D.l2TO
  refine zu (U2.stop hh r3 hy λh4 e e4 ⟨oe,pJ,pK⟩=>?_)
  have z4:IsZip h4 z TI TO .ellipsis:=e4 _ _ D.i2z.symm (e3.extBut _ _ D.TOz.symm (e2.extBut _ _ D.i1z.symm z1))
  exact wpAny_setField_rec z4 (by simp) λh5 _ e5=>hE h5 e (λc o c1 c2 c3 c4 x=>e5.extBut _ _ c1 (e4 _ _ c4 (e3.extBut _ _ c2 (e2.extBut _ _ c3 (e1.extBut _ _ c1 x))))) ⟨oe,e5.extBut _ _ (Dv z4 pJ pK) pJ,pK⟩
end
section
variable {X:Cx} {pins:Ac} {σ:St} {H:Hp} {s:Shared} {h':Heap}
def Inv.turnL {ch:Af}{t':Nat}(I:Inv X pins σ H s) (hc:∀b∈ch,cP X pins H b) (k:∀b o,b∉ch->s.heap.get? b=some o->h'.get? b=some o):Inv X pins σ H { s with heap:=h',toks:=t' }:=by
 have fS:∀b u,H b=some u->b∉ch:=λb u e z=>by rw [(hc b z).1] at e;cases e
 refine I.step (g':=s.gens) (d':=s.drawn) (ch:=ch) (λb hb=>?_) (λb o _ _ nb e _=>k b o nb e) (λb o _ _ nb e _=>⟨o.slots,k b o nb e⟩) (λ_ _ _ _ n=>n)
  (λb o nb e=>⟨o,k b o nb e⟩) (λ_ _ e=>e) (λ_ _ _ e=>e) (λb ps e=>⟨#[],by rw [e];simp⟩) (λm hm=>?_) (λb u e=>?_) I.bare
 ·obtain ⟨_,f1,_,f3,f4,f5⟩:=hc b hb
  exact ⟨f3,f1,f4,f5⟩
 ·obtain ⟨o,es,ep,ho,r⟩:=hm
  exact ⟨o,es,ep,k _ o (λz=>(hc _ z).2.1 rfl) ho,r⟩
 ·refine (I.hok b u e).stay (λc v cG q=>k c v ?_ q) (λ_ q=>q) λ_ _ q=>q
  rcases cG with z|z
  ·rw [z];exact fS b u e
  ·exact fS c _ z
def Inv.turnN {ch:Af}{T:Addr}{o:HO}{t':Nat}(I:Inv X pins σ H s) (hc:∀b∈ch,cP X pins H b) (k:∀b o,b∉ch->s.heap.get? b=some o->h'.get? b=some o) (hT:s.heap.objs.size<=T)
  (new:a9 X.prog X.w (upd H T o) h' T o):Inv X pins σ (upd H T o) { s with heap:=h',toks:=t' }:=by
 have fT:H T=none:=I.hok.fresh hT
 have fS:∀b u,H b=some u->b∉ch:=λb u e z=>by rw [(hc b z).1] at e;cases e
 have nT:∀b u,H b=some u->b≠T:=λb u e z=>by rw [z,fT] at e;cases e
 refine I.step (g':=s.gens) (d':=s.drawn) (ch:=ch) (λb hb=>?_) (λb o _ _ nb e _=>k b o nb e) (λb o _ _ nb e _=>⟨o.slots,k b o nb e⟩) (λb u _ e n=>?_)
  (λb o nb e=>⟨o,k b o nb e⟩) (λb xs e=>?_) (λb u v e=>?_) (λb ps e=>⟨#[],?_⟩) (λm hm=>?_) (λb u e=>?_) I.bare
 ·obtain ⟨_,f1,_,f3,f4,f5⟩:=hc b hb
  exact ⟨f3,f1,f4,f5⟩
 ·rw [yf (yX (jx (yw e) hT))];exact n
 ·rw [yf (nT b _ e)];exact e
 ·rw [yf (nT b _ e)];exact e
 ·rw [yf (nT b _ e),e];simp
 ·obtain ⟨o,es,ep,ho,r⟩:=hm
  exact ⟨o,es,ep,k _ o (λz=>(hc _ z).2.1 rfl) ho,r⟩
 ·by_cases z:b=T
  ·rw [z] at e ⊢
   rw [yU] at e
   cases e
   exact new
  ·rw [yf z] at e
   refine (I.hok b u e).stay (λc v cG q=>k c v ?_ q) (λc q=>by rw [yf (nT c _ q)];exact q) λc xs q=>by rw [yf (nT c _ q)];exact q
   rcases cG with z|z
   ·rw [z];exact fS b u e
   ·exact fS c _ z
end
def vU (K:Frag) (a b:Addr):It :=
 ⟨λi H=>∃xs ys x y,bt K H a xs/\bt K H b ys/\xs[i]?=some x/\ys[i]?=some y,
  λi H v H'=>∃T x y,H T=none/\v=.ref T/\H'=upd H T (.tup [x,y])/\(∀xs,bt K H a xs->xs[i]?=some x)/\∀ys,bt K H b ys->ys[i]?=some y,
  λi H=>∃xs ys,bt K H a xs/\bt K H b ys/\(xs.length<=i\/ys.length<=i)⟩
def Dw (z TI TO i1 i2 a b:Addr) (k:Nat) (h:Heap):Prop:=IsZip h z TI TO .none/\IsPair h TI (.ref i1) (.ref i2)/\(∃u v,IsPair h TO u v)/\IsTupIter h i1 a k/\IsTupIter h i2 b k
def nM {X:Cx}{pins:Ac}{σ:St}{H:Hp}{s:Shared}{a c:Addr}{xs:List V}(I:Inv X pins σ H s) (hf:cP X pins H c) (hq:bt X.K H a xs):a≠c:=by
 rintro rfl
 rcases hq with q|⟨o,its,n,hl,_⟩
 ·rcases q with q|⟨ob,q⟩<;>(rw [hf.1] at q;cases q)
 ·have e:=I.ok.mod.kin _ _ hl
  rcases hf.2.2.2.1 with z|z
  ·exact I.ok.noex _ _ e z
  ·exact absurd (jx (yw (I.ok.bs _ _ e).1) z) (Nat.lt_irrefl _)
structure Dx (z TI TO i1 i2:Addr):Prop where
 TIz:TI≠z
 TOz:TO≠z
 i1z:i1≠z
 i2z:i2≠z
 TITO:TI≠TO
 TIi1:TI≠i1
 TIi2:TI≠i2
 TOi1:TO≠i1
 TOi2:TO≠i2
 i12:i1≠i2
def MV {P:Program}{w:World}{K:Frag}{elts:List Expr}{kt:Nat}{pos:Pos}{z TI TO i1 i2 a b:Addr}(V5:Dx z TI TO i1 i2):Turn P w K (.Tuple elts kt pos) (vU K a b) [z,TI,TO,i1,i2] z (Dw z TI TO i1 i2 a b) where
 mem:=by simp
 obj:=λi h st c hc=>by
  obtain ⟨hz,eF,⟨u,v,d5⟩,⟨o1,e1,_,d1⟩,⟨o2,e2,_,d2⟩⟩:=st
  simp only [yE,List.not_mem_nil,j5] at hc
  rcases hc with q|q|q|q|q<;>rw [q]
  ·exact ⟨_,hz,λv z=>by cases z⟩
  ·exact ⟨_,eF,λv z=>by cases z⟩
  ·exact ⟨_,d5,λv z=>by cases z⟩
  ·exact ⟨_,e1,λv z=>by rw [d1] at z;cases z⟩
  ·exact ⟨_,e2,λv z=>by rw [d2] at z;cases z⟩
 keep:=λi h h' st k=>by
  obtain ⟨hz,eF,⟨u,v,d5⟩,⟨o1,e1,r1⟩,⟨o2,e2,r2⟩⟩:=st
  exact ⟨k z (by simp) _ hz,k TI (by simp) _ eF,⟨u,v,k TO (by simp) _ d5⟩,⟨o1,k i1 (by simp) _ e1,r1⟩,⟨o2,k i2 (by simp) _ e2,r2⟩⟩
 item:=by
  intro X hP hw hK hc i pins s σ H E I hf st hg
  subst hP hw hK
  obtain ⟨xs,ys,x,y,kE,gd,hx,hy⟩:=hg
  obtain ⟨hz,eF,⟨u0,v0,d5⟩,rR,rS⟩:=st
  obtain ⟨uH,vV,p1,_⟩:=I.tuple kE
  obtain ⟨c6,pL,p2,_⟩:=I.tuple gd
  obtain ⟨u,hu,ru⟩:=vV.get hx
  obtain ⟨v,hv,rv⟩:=pL.get hy
  have n1:∀c∈[z,TI,TO,i1,i2],a≠c:=λc h=>nM I (hf c h) kE
  have n2:∀c∈[z,TI,TO,i1,i2],b≠c:=λc h=>nM I (hf c h) gd
  have D:ZipApart z TI TO i1 i2 a b:=⟨V5.TIz,V5.TOz,V5.i1z,V5.i2z,V5.TITO,V5.TIi1,V5.TIi2,V5.TOi1,V5.TOi2,V5.i12,n1 z (by simp),n1 TO (by simp),n1 i1 (by simp),n1 i2 (by simp),n2 z (by simp),n2 TO (by simp),n2 i1 (by simp),n2 i2 (by simp)⟩
  have hT:s.TypeIs (.ref z) "zip" := ⟨_,hz,rfl⟩
  unfold pyNext
  refine zu (wpAny_attempt (wpAny_callSpecial?_slot (name:=Str.ofString "__next__") hT F.slot_zip_next (g_ F.slot_zip_next hT F.entry_zip_next
   (MR D (iB D.l1i1) (iB D.l2i2) hz eF d5 ⟨rR,p1⟩ ⟨rS,p2⟩ (by simpa using hu) (by simpa using hv) λh1 z1 o1 f1 f2 pT kk=>ya ⟨_,rfl,?_⟩) (F.args_zip_next_1 _))))
  refine wpAny_letOwnedTupleGo_zip (s:={ s with heap:=h1 }) z1 λh2 z2 e2=>?_
  have fr:H s.heap.objs.size=none:=I.hok.fresh (zM _)
  have up:∀c o,c≠z->h1.get? c=some o->h2.get? c=some o:=λc o n e=>e2.extBut _ _ n e
  have nz:s.heap.objs.size≠z:=Nat.ne_of_gt (yw hz)
  have k2:∀c o,c∉[z,TI,TO,i1,i2]->s.heap.get? c=some o->h2.get? c=some o:=λc o nc e =>
   up c o (λq=>nc (by simp [q])) (kk c o (λq=>nc (by simp [q])) (λq=>nc (by simp [q])) (λq=>nc (by simp [q])) (λq=>nc (by simp [q])) e)
  refine ⟨.ref s.heap.objs.size,upd H s.heap.objs.size (.tup [x,y]),?_,rfl,⟨s.heap.objs.size,x,y,fr,rfl,rfl,λe6 h'=>by rw [I.tuple_inj h' kE];exact hx,λcH h'=>by rw [I.tuple_inj h' gd];exact hy⟩,?_,λc cG=>?_⟩
  ·exact Inv.turnN (s:=s) (h':=h2) (t':=s.toks) I hf k2 (zM _) ⟨show 2<=sizeLine by decide,[u,v],.cons ru (.cons rv .nil),_,up _ _ nz pT,rfl,_,rfl⟩
  ·exact ⟨z2,up _ _ D.TIz (kk _ _ D.TIz D.TITO D.TIi1 D.TIi2 eF),⟨_,_,up _ _ D.TOz o1⟩,(let ⟨o,e,r⟩:=f1.1;⟨o,up _ _ D.i1z e,r⟩),(let ⟨o,e,r⟩:=f2.1;⟨o,up _ _ D.i2z e,r⟩)⟩
  ·have q:c≠s.heap.objs.size:=by
    have lt:∃o,s.heap.get? c=some o:=by
     simp only [yE,List.not_mem_nil,j5] at cG
     rcases cG with q|q|q|q|q<;>rw [q]
     ·exact ⟨_,hz⟩
     ·exact ⟨_,eF⟩
     ·exact ⟨_,d5⟩
     ·exact let ⟨o,e,_⟩:=rR;⟨o,e⟩
     ·exact let ⟨o,e,_⟩:=rS;⟨o,e⟩
    obtain ⟨o,e⟩:=lt
    exact yX (yw e)
   rw [yf q]
   exact (hf c cG).1
 done:=by
  intro X hP hw hK hc i pins s σ H E I hf st hg
  subst hP hw hK
  obtain ⟨xs,ys,kE,gd,hx⟩:=hg
  obtain ⟨hz,eF,⟨u0,v0,d5⟩,rR,rS⟩:=st
  obtain ⟨uH,vV,p1,_⟩:=I.tuple kE
  obtain ⟨c6,pL,p2,_⟩:=I.tuple gd
  have l1:=vV.length
  have l2:=pL.length
  have n1:∀c∈[z,TI,TO,i1,i2],a≠c:=λc h=>nM I (hf c h) kE
  have n2:∀c∈[z,TI,TO,i1,i2],b≠c:=λc h=>nM I (hf c h) gd
  have D:ZipApart z TI TO i1 i2 a b:=⟨V5.TIz,V5.TOz,V5.i1z,V5.i2z,V5.TITO,V5.TIi1,V5.TIi2,V5.TOi1,V5.TOi2,V5.i12,n1 z (by simp),n1 TO (by simp),n1 i1 (by simp),n1 i2 (by simp),n2 z (by simp),n2 TO (by simp),n2 i1 (by simp),n2 i2 (by simp)⟩
  have hT:s.TypeIs (.ref z) "zip" := ⟨_,hz,rfl⟩
  unfold pyNext
  refine zu (wpAny_attempt (wpAny_callSpecial?_slot (name:=Str.ofString "__next__") hT F.slot_zip_next (g_ F.slot_zip_next hT F.entry_zip_next
   (MU (I.ok.hd hc) D (iB D.l1i1) (iB D.l2i2) hz eF d5 ⟨rR,p1⟩ ⟨rS,p2⟩ (hx.imp (λh=>by simp;omega) λh=>by simp;omega) λh1 e kk he=>?_) (F.args_zip_next_1 _))))
  obtain ⟨o,ho,MY⟩:=he
  refine zu (wpAny_isInstance (T := "StopIteration") (b:=true) ⟨o,ho,MY⟩ isSubtype_stop ?_)
  exact ya ⟨rfl,Inv.turnL (t':=s.toks) I hf λc o nc e=>kk c o (λq=>nc (by simp [q])) (λq=>nc (by simp [q])) (λq=>nc (by simp [q])) (λq=>nc (by simp [q])) e⟩
 self:=λ_ _ _ _ _ st h=>wpAny_pyIter_zip st.1 h
abbrev rT (h:Heap) (a:Addr):Heap:=h.push { cls:=.type "tuple_iterator", data:=.fields #[.ref a,.int 0 0] }
abbrev rV (h:Heap) (a b:Addr):Heap:=(rT h a).push { cls:=.type "tuple_iterator", data:=.fields #[.ref b,.int 0 0] }
abbrev rW (h:Heap) (a b:Addr):Heap:=(rV h a b).push { cls:=.type "tuple", data:=.seq #[.ref h.objs.size,.ref (rT h a).objs.size] }
abbrev rX (h:Heap) (a b:Addr):Heap:=(rW h a b).push { cls:=.type "tuple", data:=.seq #[.none,.none] }
abbrev iC (h:Heap) (a b:Addr):Heap:=(rX h a b).push { cls:=.type "zip", data:=.fields #[.none,.bool false,.bool false,.ref (rV h a b).objs.size,.ref (rW h a b).objs.size] }
def MZ (a b:Addr) (xs ys:Array Value) :
  Meets (Builtin.«zip.__new__» ⟨[.type "zip", .ref a,.ref b],[]⟩) (λ_ R s=>IsTup s.heap a xs/\IsTup s.heap b ys/\R (.ok (.ret (.ref (rX s.heap a b).objs.size))) { s with heap:=iC s.heap a b }) :=
 .of_wp λprog w A R s h=>by
  obtain ⟨hp,g,d,tk,os⟩:=s
  obtain ⟨h1,h2,h⟩:=h
  have uI:=sub_zip
  have H1:IsTup (Shared.heap ⟨hp,g,d,tk,os⟩) a xs:=h1
  have H2:IsTup (Shared.heap ⟨hp.push { cls:=.type "tuple_iterator", data:=.fields #[.ref a,.int 0 0] },g,d,tk,os⟩) b ys:=h2.push _
  wp_walk using iter_tuple H1,iter_tuple H2
  exact ⟨_,rfl,h⟩
section
variable {prog:Program} {w:World} {A:Around} {E:Aa} {s:Shared}
def M0 {a b:Addr}{xs ys:Array Value}{Q:Aa}(h1:IsTup s.heap a xs) (h2:IsTup s.heap b ys)
  (h:Dw (s.heap.objs.size+4) (s.heap.objs.size+2) (s.heap.objs.size+3) s.heap.objs.size (s.heap.objs.size+1) a b 0 (iC s.heap a b)->Q (.ref (s.heap.objs.size+4)) { s with heap:=iC s.heap a b }) :
  wpAny (model prog w) A (call (.type "zip") [.ref a,.ref b]) Q E s:=by
 refine callType_new F.called_zip (by decide) (F.typeCall_zip_2 _ _) (F.newCall_zip_2 _ _) (λobj=>F.args_object_init_3 obj _ _) F.entry_zip_new (MZ a b xs ys) ⟨h1,h2,?_⟩
 have z1:(rT s.heap a).objs.size=s.heap.objs.size+1:=Heap.size_push ..
 have z2:(rV s.heap a b).objs.size=s.heap.objs.size+2:=by rw [Heap.size_push,z1]
 have z3:(rW s.heap a b).objs.size=s.heap.objs.size+3:=by rw [Heap.size_push,z2]
 have z4:(rX s.heap a b).objs.size=s.heap.objs.size+4:=by rw [Heap.size_push,z3]
 have g5:(iC s.heap a b).get? (rX s.heap a b).objs.size=some _:=yP _ rfl
 have g4:(iC s.heap a b).get? (rW s.heap a b).objs.size=some _:=yl _ (yP _ rfl)
 have g3:(iC s.heap a b).get? (rV s.heap a b).objs.size=some _:=yl _ (yl _ (yP _ rfl))
 have g2:(iC s.heap a b).get? (rT s.heap a).objs.size=some _:=yl _ (yl _ (yl _ (yP _ rfl)))
 have g1:(iC s.heap a b).get? s.heap.objs.size=some _:=yl _ (yl _ (yl _ (yl _ (yP _ rfl))))
 show _/\_
 rw [z2,z3,z4] at g5
 rw [z1,z2] at g3
 rw [z3] at g4
 rw [z1] at g2
 rw [z4]
 exact ⟨⟨_,g5,rfl⟩,h ⟨g5,g3,⟨_,_,g4⟩,⟨_,g1,rfl,rfl⟩,⟨_,g2,rfl,rfl⟩⟩⟩
end
def M4:bootBuiltins "zip" = some (.type "zip"):=by decide +kernel
def M7 (K:Frag) (ta:TA):TI:=fun σ H R=>ta σ H λvs H1=>∃a b,vs=[.ref a,.ref b]/\(∃xs,bt K H1 a xs)/\(∃ys,bt K H1 b ys)/\R (vU K a b) H1
def M8 {X:Cx} {elts:List Expr} {kt:Nat} {tp:Pos} {x y:Expr} {ta:TA} {p pos:Pos} (hg:Gl X "zip") (hm:X.mg "zip" = none) (ha:PA X [x,y] ta) (hs:starEach [x,y] X.env=[(false,eval x X.env),(false,eval y X.env)]:=by rfl) (dY:starEach [y] X.env=[(false,eval y X.env)]:=by rfl) :
  PI X (.Tuple elts kt tp) (.Call (.Name "zip" p) [x,y] [] pos) (M7 X.K ta):=by
 intro pins s σ H R I h
 refine Call_ (gF I hg hm M4 (PyProof.Rows.callWith_type1 (aX (ha pos pins s σ H _ I h) λus s1 ⟨vs,H1,I1,r1,q1⟩=>?_) (by rw [hs,dY]) (by rw [dY];rfl)))
 obtain ⟨a,b,e,⟨xs,kE⟩,⟨ys,gd⟩,q⟩:=q1
 subst e
 obtain ⟨u,v,rfl,ru,rv⟩:=vc r1
 obtain rfl:u=Value.ref a:=ru
 obtain rfl:v=Value.ref b:=rv
 obtain ⟨uH,_,p1,_⟩:=I1.tuple kE
 obtain ⟨c6,_,p2,_⟩:=I1.tuple gd
 refine M0 p1 p2 λst=>wpAny_pyIter_zip st.1 ?_
 have kk:∀c o,s1.heap.get? c=some o->(iC s1.heap a b).get? c=some o:=λc o e=>yl _ (yl _ (yl _ (yl _ (yl _ e))))
 refine ⟨_,[s1.heap.objs.size+4,s1.heap.objs.size+2,s1.heap.objs.size+3,s1.heap.objs.size,s1.heap.objs.size+1],_,_,H1,rfl,I1.kept (t':=s1.toks) kk,MV ?_,st,λc hc=>?_,q⟩
 ·have ne:∀(n i j:Nat),i≠j->n+i≠n+j:=λn i j h z=>h (Nat.add_left_cancel z)
  have rY:∀(n i:Nat),i≠0->n+i≠n:=λn i h z=>h (by omega)
  exact ⟨ne _ 2 4 (by decide),ne _ 3 4 (by decide),(rY _ 4 (by decide)).symm,ne _ 1 4 (by decide),ne _ 2 3 (by decide),rY _ 2 (by decide),ne _ 2 1 (by decide),rY _ 3 (by decide),ne _ 3 1 (by decide),(rY _ 1 (by decide)).symm⟩
 ·have le:s1.heap.objs.size<=c:=by
   simp only [yE,List.not_mem_nil,j5] at hc
   rcases hc with q|q|q|q|q<;>rw [q]<;>first|exact zM _|exact Nat.le_add_right _ _
  exact I1.fpOk le (I1.hok.fresh le)
structure KD (X:Cx) (a:Addr):Prop where
 ob:∃es n,X.K.lookup a=some ⟨.type "dict", none,.dict es n,#[]⟩/\KeysLit X.w.params es.toList
 no:(a==sysModules)=false
section
variable {X:Cx}
def M9:fz X (λx y H Q=>∃a z u v,x=.ref a/\y=.str z/\KD X a/\nsIn X.K a z=some (some u)/\RelV v u/\Q v H):=by
 intro a b pins s σ H x y v u Q I rx ry h hs
 obtain ⟨p,z,u',v',rfl,rfl,⟨⟨es,n,hl,hk⟩,_⟩,e,rv,q⟩:=h
 obtain rfl:v=Value.ref p:=rx
 obtain ⟨t,rfl⟩:=ry
 obtain ⟨m,F⟩:=I.fr
 exact topItem_K F I.ok.mod.kin hl hk e ⟨v',H,I.tok _,rv,q⟩ hs
def M_:bI X (compareOp .NotIn) (λx y H Q=>∃a z r,x=.str z/\y=.ref a/\KD X a/\nsIn X.K a z=some r/\Q (.bl (!r.isSome)) H):=by
 intro pins s σ H x y v u Q I rx ry h
 obtain ⟨p,z,r,rfl,rfl,⟨⟨es,n,hl,hk⟩,no⟩,e,q⟩:=h
 obtain rfl:u=Value.ref p:=ry
 obtain ⟨t,rfl⟩:=rx
 refine wpAny_notIn_of (strKind_is X.prog X.w z t) no (mapOf_K (prog:=X.prog) I.kIn hl hk) ?_
 rw [find_K hl e]
 exact ⟨.bl (!r.isSome),H,I.tok _,rfl,q⟩
end
end L2
namespace Mi
open PySem L2 PySem.W
inductive PV where
 |non|bl (b:Bool)|int (i:Int)|str (x:Str)|ty (n:String)
 |tup (xs:List PV)|frl (xs:List PV)|ref (n:Nat)|fn (x:Str)|kd (ks:Ae) (xs:List PV)|exo (c:Str) (ks:Ae) (xs:List PV)
inductive SO where
 |lst (xs:List PV)|dic (ks:Ae) (xs:List PV)|ins (c:Str) (ks:Ae) (xs:List PV)|fdi (ks:Ae) (xs:List PV)|dit (ks:List (List Key)) (xs:List PV)
abbrev aa:=List SO
inductive Res (α:Type) where
 |ok (a:α) (st:aa)|err (c:Str) (ks:Ae) (xs:List PV) (st:aa)|stuck
abbrev Mo (α:Type):=aa->Res α
noncomputable def Res.bind {α β:Type}:Res α->(α->Mo β)->Res β
 |.ok a st,f=>f a st
 |.err c ks xs st,_=>.err c ks xs st
 |.stuck,_=>.stuck
abbrev ze:=List (Option PV)
def Na (K:Frag) (a:Addr) (ks:Ae) (us:Ah):Prop:=∀z,nsIn K a z=some ((ks.zip us).lookup z)
def iD (K:Frag) (H:Hp) (a:Addr) (vs:List V):Prop :=
 (∃o,H a=some (.frz o (.lst vs)))\/∃(o:Obj) (its:Array Value) (n:Nat),K.lookup a=some o/\o.cls=.type "list" /\ o.dict=none/\o.data=.seq its n/\its.size<=sizeLine/\Vals vs its.toList
def iD.sq {K:Frag}{H:Hp}{a:Addr}{vs:List V}(h:iD K H a vs):ba K H a vs:=by
 rcases h with ⟨o,h⟩|h
 ·exact .inl (.inr ⟨o,h⟩)
 ·exact .inr h
section
variable (K:Frag) (mg:Ab)
mutual
def R (ρ:Af) (H:Hp):PV->V->Prop
 |.non,v=>v=.non
 |.bl b,v=>v=.bl b
 |.int i,v=>v=.int i
 |.str x,v=>v=.str x
 |.ty n,v=>v=.ty n
 |.tup xs,v=>∃a vs,v=.ref a/\bt K H a vs/\Rs ρ H xs vs
 |.frl xs,v=>∃a vs,v=.ref a/\iD K H a vs/\Rs ρ H xs vs
 |.ref n,v=>∃a,v=.ref a/\ρ[n]?=some a
 |.fn x,v=>∃f,v=.ref f/\mg x=some (.ref f)
 |.kd ks xs,v=>∃a us vs,v=.ref a/\Na K a ks us/\Vals vs us/\Rs ρ H xs vs
 |.exo c ks xs,v=>∃a C d vs,v=.ref a/\mg c=some (.ref C)/\H a=some (f9 C (some d) a)/\H d=some (.xd (ks.zip vs))/\Rs ρ H xs vs/\ks.length=vs.length
def Rs (ρ:Af) (H:Hp):List PV->List V->Prop
 |[],vs=>vs=[]
 |x::xs,vs=>∃v r,vs=v::r/\R ρ H x v/\Rs ρ H xs r
end
def dE (a:Addr) (its:List (List Key×Addr×Value)):HO:=.ext λP w h=>its.length<=sizeLine/\(a==sysModules)=false /\
 ∃o es ep,h.get? a=some o/\o.ExactDict/\o.data=.dict es ep/\es.toList=its.map (entryOfKey (tupleKind (a_ P w)))/\(its.map (·.1)).Nodup
def fL (ρ:Af) (H:Hp):SO->Addr->Prop
 |.lst xs,a=>∃vs,H a=some (.lst vs)/\Rs K mg ρ H xs vs
 |.dic ks xs,a=>∃vs,H a=some (.dK ((ks.map Sum.inr).zip vs))/\Rs K mg ρ H xs vs/\ks.length=vs.length
 |.ins c ks xs,a=>∃C dx vs,mg c=some (.ref C)/\H a=some (.ins C dx (ks.zip vs))/\Rs K mg ρ H xs vs/\ks.length=vs.length
 |.fdi ks xs,a=>∃o vs,H a=some (.frz o (.dK ((ks.map Sum.inr).zip vs)))/\Rs K mg ρ H xs vs/\ks.length=vs.length
 |.dit ks xs,a=>∃its vs,H a=some (dE a its)/\its.map (·.1)=ks/\(∀x,x∈its->bt K H x.2.1 (x.1.map kV))/\Vals vs (its.map (·.2.2))/\Rs K mg ρ H xs vs
structure a4 (ρ:Af) (H:Hp) (st:aa):Prop where
 len:ρ.length=st.length
 nd:ρ.Nodup
 at_:∀(n:Nat) so,st[n]?=some so->∃a,ρ[n]?=some a/\fL K mg ρ H so a
def Still (φ:Program->World->Heap->Prop):Prop:=∀P w,∃h:Heap,φ P w h/\∀b o es ep,h.get? b=some o->o.data ≠ .dict es ep
open Classical in
def vW:HO->Bool
 |.tup _=>true
 |.frz _ _=>true
 |.xd _=>true
 |.ext φ=>decide (Still φ)
 |_=>false
structure Ext (ρ:Af) (H:Hp) (ak:Af) (H':Hp):Prop where
 pre:∃δ,ak=ρ++δ
 imm:∀a o,H a=some o->vW o=true->H' a=some o
def Nb {C:Addr}{d:Option Addr}{a:Addr}:vW (f9 C d a)=true:=by
 have st:Still λ_ _ h=>∃T:Addr,XO h a (.ref C) d (.ref T):=λP w=>by
  have g:∀b,(Heap.mk (Array.replicate (a+1) { cls:=.ref C,dict:=d,data:=.fields #[.none,.ref 0,.none,.none,.none,.none] }) {}).get? b=if b<a+1 then some { cls:=.ref C,dict:=d,data:=.fields #[.none,.ref 0,.none,.none,.none,.none] } else none:=by
   intro b
   unfold Heap.get?
   by_cases hb:b<a+1
   ·simp [Array.getElem?_replicate,hb]
   ·simp [Array.getElem?_replicate,hb]
  refine ⟨_,⟨0,_,_,(g a).trans (zC (wt a)),rfl,rfl,rfl,rfl,rfl⟩,λb o es ep e=>?_⟩
  rw [g b] at e
  split at e
  ·cases e;intro z;cases z
  ·cases e
 exact @decide_eq_true _ (Classical.propDecidable _) st
def XR (ρ:Af) (H:Hp) (c:Str) (ks:Ae) (xs:List PV) (Cv:Value) (d:Option Addr):Prop :=
 ∃C,Cv=.ref C/\mg c=some (.ref C)/\((ks=[]/\d=none)\/∃dd vs,d=some dd/\H dd=some (.xd (ks.zip vs))/\Rs K mg ρ H xs vs/\ks.length=vs.length)
def Out {α:Type}(ρ:Af) (H:Hp) (r:Res α) (good:List Addr->Hp->α->aa->Prop) (E:XK):Prop :=
 match r with
 |.ok x st=>∀ak H',Ext ρ H ak H'->a4 K mg ak H' st->good ak H' x st
 |.err c ks xs st=>∀ak H' C d,Ext ρ H ak H'->a4 K mg ak H' st->XR K mg ak H' c ks xs C d->E C d H'
 |.stuck=>False
structure bg (ρ:Af) (H:Hp) (env:ze) (σ:St):Prop where
 len:env.length=σ.length
 at_:∀(i:Nat) x,env[i]?=some (some x)->∃v,σ[i]?=some (some v)/\R K mg ρ H x v
def gV (Q:VK):List Addr->Hp->PV->aa->Prop:=fun ρ H x _=>∀v,R K mg ρ H x v->Q v H
def Nc (Q:List V->Hp->Prop):List Addr->Hp->List PV->aa->Prop:=fun ρ H x _=>∀v,Rs K mg ρ H x v->Q v H
def gB (Q:Bool->Hp->Prop):List Addr->Hp->Bool->aa->Prop:=λ_ H x _=>Q x H
inductive Fl where
 |nx (env:ze)|rt (x:PV)|bk (env:ze)|ct (env:ze)
abbrev Aj:=ze->Mo (List PV)
abbrev Ak:=ze->Mo PV
abbrev Al:=ze->Mo Fl
abbrev Am:=ze->Mo Bool
abbrev An:=List PV->Mo PV
abbrev Ao:=PV->PV->Mo PV
abbrev Aq:=List PV
abbrev Ar:=Option PV
def gS (D:Ends):List Addr->Hp->Fl->aa->Prop:=fun ρ H x _ =>
 match x with
 |.nx env=>∀σ,bg K mg ρ H env σ->D.nx σ H
 |.rt x=>∀v,R K mg ρ H x v->D.rt v H
 |.bk env=>∀σ,bg K mg ρ H env σ->D.bk σ H
 |.ct env=>∀σ,bg K mg ρ H env σ->D.ct σ H
end
section
variable {K:Frag} {mg:Ab} {ρ ah ax:Af} {H H1 H2:Hp}
def Ext.refl:Ext ρ H ρ H:=⟨⟨[],by simp⟩,λ_ _ h _=>h⟩
def Ext.trans (a:Ext ρ H ah H1) (b:Ext ah H1 ax H2):Ext ρ H ax H2:=by
 obtain ⟨⟨d,hd⟩,i⟩:=a
 obtain ⟨⟨d',fR⟩,i'⟩:=b
 exact ⟨⟨d++d',by rw [fR,hd,oK]⟩,λa o h m=>i' a o (i a o h m) m⟩
def Ext.get (a:Ext ρ H ah H1) {n:Nat}{p:Addr}(h:ρ[n]?=some p):ah[n]?=some p:=by
 obtain ⟨⟨d,hd⟩,_⟩:=a
 rw [hd,wD (yD.mp h).1]
 exact h
def Ext.sqT (e:Ext ρ H ah H1) {a:Addr}{xs:List V}(h:bt K H a xs):bt K H1 a xs:=by
 rcases h with (h|⟨o,h⟩)|h
 ·exact .inl (.inl (e.imm _ _ h rfl))
 ·exact .inl (.inr ⟨o,e.imm _ _ h rfl⟩)
 ·exact .inr h
def Ext.frl (e:Ext ρ H ah H1) {a:Addr}{xs:List V}(h:iD K H a xs):iD K H1 a xs:=by
 rcases h with ⟨o,h⟩|h
 ·exact .inl ⟨o,e.imm _ _ h rfl⟩
 ·exact .inr h
mutual
theorem R.ext (e:Ext ρ H ah H1):∀(x:PV) {v:V},R K mg ρ H x v->R K mg ah H1 x v
 |.non,_,h=>h
 |.bl _,_,h=>h
 |.int _,_,h=>h
 |.str _,_,h=>h
 |.ty _,_,h=>h
 |.tup xs,_,h=>by
  obtain ⟨a,vs,h1,h2,h3⟩:=h
  exact ⟨a,vs,h1,e.sqT h2,Rs.ext e xs h3⟩
 |.frl xs,_,h=>by
  obtain ⟨a,vs,h1,h2,h3⟩:=h
  exact ⟨a,vs,h1,e.frl h2,Rs.ext e xs h3⟩
 |.ref n,_,h=>by
  obtain ⟨a,h1,h2⟩:=h
  exact ⟨a,h1,e.get h2⟩
 |.fn _,_,h=>h
 |.kd ks xs,_,h=>by
  obtain ⟨a,us,vs,h1,h2,h4,h3⟩:=h
  exact ⟨a,us,vs,h1,h2,h4,Rs.ext e xs h3⟩
 |.exo c ks xs,_,h=>by
  obtain ⟨a,C,d,vs,h1,h2,h3,h4,h5,h6⟩:=h
  exact ⟨a,C,d,vs,h1,h2,e.imm _ _ h3 Nb,e.imm _ _ h4 rfl,Rs.ext e xs h5,h6⟩
theorem Rs.ext (e:Ext ρ H ah H1):∀(xs:Aq) {vs:List V},Rs K mg ρ H xs vs->Rs K mg ah H1 xs vs
 |[],_,h=>h
 |x::xs,_,h=>by
  obtain ⟨v,r,h1,h2,h3⟩:=h
  exact ⟨v,r,h1,R.ext e x h2,Rs.ext e xs h3⟩
end
theorem bg.ext (e:Ext ρ H ah H1) {env:ze}{σ:St}(h:bg K mg ρ H env σ):bg K mg ah H1 env σ :=
 ⟨h.len,λi x hx=>let ⟨v,a,b⟩:=h.at_ i x hx;⟨v,a,R.ext e x b⟩⟩
theorem Rs.len:∀{xs:Aq}{vs:List V},Rs K mg ρ H xs vs->xs.length=vs.length
 |[],_,h=>by cases h;rfl
 |x::xs,_,h=>by
  obtain ⟨v,r,rfl,_,h3⟩:=h
  simp [Rs.len h3]
theorem Rs.get:∀{xs:Aq}{vs:List V}{i:Nat}{x:PV},Rs K mg ρ H xs vs->xs[i]?=some x->∃v,vs[i]?=some v/\R K mg ρ H x v
 |[],_,_,_,_,e=>by simp at e
 |x::xs,_,0,_,h,e=>by
  obtain ⟨v,r,rfl,h2,h3⟩:=h
  simp at e
  subst e
  exact ⟨v,by simp,h2⟩
 |x::xs,_,i+1,y,h,e=>by
  obtain ⟨v,r,rfl,h2,h3⟩:=h
  simp at e
  obtain ⟨v',h4,h5⟩:=Rs.get h3 e
  exact ⟨v',by simpa using h4,h5⟩
theorem Rs.append:∀{xs ys:Aq}{vs ws:List V},Rs K mg ρ H xs vs->Rs K mg ρ H ys ws->Rs K mg ρ H (xs++ys) (vs++ws)
 |[],_,_,_,h,h'=>by cases h;exact h'
 |x::xs,_,_,_,h,h'=>by
  obtain ⟨v,r,rfl,h2,h3⟩:=h
  exact ⟨v,r++_,rfl,h2,Rs.append h3 h'⟩
theorem Rs.take:∀{xs:Aq}{vs:List V}(n:Nat),Rs K mg ρ H xs vs->Rs K mg ρ H (xs.take n) (vs.take n)
 |[],_,n,h=>by cases h;simp [Rs]
 |x::xs,_,0,h=>by simp [Rs]
 |x::xs,_,n+1,h=>by
  obtain ⟨v,r,rfl,h2,h3⟩:=h
  exact ⟨v,_,rfl,h2,Rs.take n h3⟩
theorem Rs.drop:∀{xs:Aq}{vs:List V}(n:Nat),Rs K mg ρ H xs vs->Rs K mg ρ H (xs.drop n) (vs.drop n)
 |[],_,n,h=>by cases h;simp [Rs]
 |x::xs,_,0,h=>h
 |x::xs,_,n+1,h=>by
  obtain ⟨v,r,rfl,h2,h3⟩:=h
  exact Rs.drop n h3
theorem Rs.set:∀{xs:Aq}{vs:List V}{x:PV}{v:V}(i:Nat),Rs K mg ρ H xs vs->R K mg ρ H x v->Rs K mg ρ H (xs.set i x) (vs.set i v)
 |[],_,_,_,i,h,_=>by cases h;simp [Rs]
 |x::xs,_,_,_,0,h,q=>by
  obtain ⟨v,r,rfl,h2,h3⟩:=h
  exact ⟨_,_,rfl,q,h3⟩
 |x::xs,_,_,_,i+1,h,q=>by
  obtain ⟨v,r,rfl,h2,h3⟩:=h
  exact ⟨_,_,rfl,h2,Rs.set i h3 q⟩
theorem bg.set {env:ze}{σ:St}{x:PV}{v:V}(h:bg K mg ρ H env σ) (i:Nat) (r:R K mg ρ H x v):bg K mg ρ H (env.set i (some x)) (σ.set i (some v)):=by
 refine ⟨by simp [h.len],λj y hy=>?_⟩
 rw [List.getElem?_set] at hy ⊢
 by_cases hij:i=j
 ·subst hij
  by_cases hl:i<env.length
  ·rw [zC rfl,zC hl] at hy
   rw [zC rfl,zC (by rw [<-h.len];exact hl)]
   cases hy
   exact ⟨v,rfl,r⟩
  ·rw [zC rfl,zQ hl] at hy
   cases hy
 ·rw [zQ hij] at hy ⊢
  exact h.at_ j y hy
def bg.unset {env:ze}{σ:St}(h:bg K mg ρ H env σ) (i:Nat):bg K mg ρ H (env.set i none) (σ.set i none):=by
 refine ⟨by simp [h.len],λj y hy=>?_⟩
 rw [List.getElem?_set] at hy ⊢
 by_cases hij:i=j
 ·subst hij
  by_cases hl:i<env.length
  ·rw [zC rfl,zC hl] at hy
   cases hy
  ·rw [zC rfl,zQ hl] at hy
   cases hy
 ·rw [zQ hij] at hy ⊢
  exact h.at_ j y hy
def bg.cons {env:ze}{σ:St}{x:PV}{v:V}(h:bg K mg ρ H env σ) (r:R K mg ρ H x v):bg K mg ρ H (some x::env) (some v::σ):=by
 refine ⟨by simp [h.len],λj y hy=>?_⟩
 cases j with
 |zero=>simp at hy;subst hy;exact ⟨v,by simp,r⟩
 |succ j=>simp at hy;simpa using h.at_ j y hy
def a4.addr {st:aa}{n:Nat}{so:SO}(s:a4 K mg ρ H st) (e:st[n]?=some so) {a:Addr}(ha:ρ[n]?=some a):fL K mg ρ H so a:=by
 obtain ⟨b,hb,h⟩:=s.at_ n so e
 rw [ha] at hb
 cases hb
 exact h
theorem fL.some {so:SO}{a:Addr}(h:fL K mg ρ H so a):∃o,H a=some o/\True:=by
 cases so with
 |lst xs=>obtain ⟨vs,h,_⟩:=h;exact ⟨_,h,trivial⟩
 |dic ks xs=>obtain ⟨vs,h,_⟩:=h;exact ⟨_,h,trivial⟩
 |ins c ks xs=>obtain ⟨C,dx,vs,_,h,_⟩:=h;exact ⟨_,h,trivial⟩
 |fdi ks xs=>obtain ⟨o,vs,h,_⟩:=h;exact ⟨_,h,trivial⟩
 |dit ks xs=>obtain ⟨its,vs,h,_⟩:=h;exact ⟨_,h,trivial⟩
def a4.in_ {st:aa}{n:Nat}{a:Addr}(s:a4 K mg ρ H st) (h:ρ[n]?=some a):∃so,st[n]?=some so/\fL K mg ρ H so a:=by
 have hl:n<st.length:=by rw [<-s.len];exact (yD.mp h).1
 refine ⟨st[n],by simp [hl],s.addr (by simp [hl]) h⟩
def fL.ext' {so:SO}{a:Addr}(e:Ext ρ H ah H1) (h:fL K mg ρ H so a) (k:H1 a=H a):fL K mg ah H1 so a:=by
 cases so with
 |lst xs=>obtain ⟨vs,h1,h2⟩:=h;exact ⟨vs,by rw [k];exact h1,Rs.ext e xs h2⟩
 |dic ks xs=>obtain ⟨vs,h1,h2,h3⟩:=h;exact ⟨vs,by rw [k];exact h1,Rs.ext e xs h2,h3⟩
 |ins c ks xs=>obtain ⟨C,dx,vs,h0,h1,h2,h3⟩:=h;exact ⟨C,dx,vs,h0,by rw [k];exact h1,Rs.ext e xs h2,h3⟩
 |fdi ks xs=>obtain ⟨o,vs,h1,h2,h3⟩:=h;exact ⟨o,vs,by rw [k];exact h1,Rs.ext e xs h2,h3⟩
 |dit ks xs=>obtain ⟨its,vs,h1,h2,h3,h4,h5⟩:=h;exact ⟨its,vs,by rw [k];exact h1,h2,λx hx=>e.sqT (h3 x hx),h4,Rs.ext e xs h5⟩
def Ext.new {p:Addr}{o:HO}(hp:H p=none):Ext ρ H ρ (upd H p o) :=
 ⟨⟨[],by simp⟩,λa o' h _=>by rw [yf (wZ h hp)];exact h⟩
theorem a4.new {st:aa}{p:Addr}{o:HO}(s:a4 K mg ρ H st) (hp:H p=none):a4 K mg ρ (upd H p o) st :=
 ⟨s.len,s.nd,λn so e=>by
  obtain ⟨a,ha,h⟩:=s.at_ n so e
  obtain ⟨o',ho,_⟩:=h.some
  exact ⟨a,ha,h.ext' (Ext.new hp) (yf (wZ ho hp))⟩⟩
def Ext.push {p:Addr}{o:HO}(hp:H p=none):Ext ρ H (ρ++[p]) (upd H p o) :=
 ⟨⟨[p],rfl⟩,λa o' h _=>by rw [yf (wZ h hp)];exact h⟩
theorem a4.push {st:aa}{p:Addr}{o:HO}{so:SO}(s:a4 K mg ρ H st) (hp:H p=none) (n:fL K mg (ρ++[p]) (upd H p o) so p):a4 K mg (ρ++[p]) (upd H p o) (st++[so]):=by
 refine ⟨by simp [s.len],?_,λi iE e=>?_⟩
 ·refine List.nodup_append.mpr ⟨s.nd,by simp,λa ha b hb=>?_⟩
  obtain rfl:b=p:=by simpa using hb
  obtain ⟨n,hn⟩:=List.getElem?_of_mem ha
  obtain ⟨iE,_,h⟩:=s.in_ hn
  obtain ⟨o',ho,_⟩:=h.some
  exact wZ ho hp
 ·by_cases hi:i<st.length
  ·rw [wD hi] at e
   obtain ⟨a,ha,h⟩:=s.at_ i iE e
   obtain ⟨o',ho,_⟩:=h.some
   exact ⟨a,(Ext.push (o:=o) hp).get ha,h.ext' (Ext.push hp) (yf (wZ ho hp))⟩
  ·rw [wX (by omega)] at e
   have hi':i=st.length:=by
    have:=(yD.mp e).1
    simp at this
    omega
   subst hi'
   simp at e
   subst e
   exact ⟨p,by rw [<-s.len];simp,n⟩
def Ext.write {a:Addr}{o o':HO}(ha:H a=some o) (hi:vW o=false):Ext ρ H ρ (upd H a o') :=
 ⟨⟨[],by simp⟩,λb u h m=>by
  rw [yf]
  ·exact h
  ·intro z;subst z;rw [ha] at h;cases h;rw [hi] at m;cases m⟩
def a4.write {st:aa}{n:Nat}{a:Addr}{o':HO}{so:SO}(s:a4 K mg ρ H st) (hn:ρ[n]?=some a) (ew:Ext ρ H ρ (upd H a o')) (h:fL K mg ρ (upd H a o') so a):a4 K mg ρ (upd H a o') (st.set n so):=by
 refine ⟨by simp [s.len],s.nd,λi iE e=>?_⟩
 rw [List.getElem?_set] at e
 by_cases hij:n=i
 ·subst hij
  rw [zC rfl] at e
  split at e
  ·cases e;exact ⟨a,hn,h⟩
  ·cases e
 ·rw [zQ hij] at e
  obtain ⟨b,hb,q⟩:=s.at_ i iE e
  have ne:b≠a:=by
   intro z
   subst z
   obtain ⟨h1,h2⟩:=yD.mp hn
   obtain ⟨h3,h4⟩:=yD.mp hb
   have pw:=List.pairwise_iff_getElem.mp s.nd
   rcases Nat.lt_trichotomy n i with c|c|c
   ·exact pw n i h1 h3 c (h2.trans h4.symm)
   ·exact hij c
   ·exact pw i n h3 h1 c (h4.trans h2.symm)
  exact ⟨b,hb,q.ext' ew (yf ne)⟩
section
variable {α β:Type} {E:XK} {good:List Addr->Hp->α->aa->Prop}
def Out.ext {r:Res α}(h:Out K mg ρ H r good E) (e:Ext ρ H ah H1):Out K mg ah H1 r good E:=by
 cases r with
 |ok x st=>exact λak H' e' s=>h ak H' (e.trans e') s
 |err c ks xs st=>exact λak H' C d e' s x=>h ak H' C d (e.trans e') s x
 |stuck=>exact h
def Out.mono {r:Res α}{dQ:List Addr->Hp->α->aa->Prop}(h:Out K mg ρ H r good E) (g:∀ak H' x st,Ext ρ H ak H'->a4 K mg ak H' st->good ak H' x st->dQ ak H' x st):Out K mg ρ H r dQ E:=by
 cases r with
 |ok x st=>exact λak H' e' s=>g ak H' x st e' s (h ak H' e' s)
 |err c ks xs st=>exact h
 |stuck=>exact h
theorem Out.bind {r:Res β}{f:β->Mo α}(h:Out K mg ρ H (r.bind f) good E):Out K mg ρ H r (λak H' x st=>Out K mg ak H' (f x st) good E) E:=by
 cases r with
 |ok x st=>exact λak H' e' s=>Out.ext h e'
 |err c ks xs st=>exact h
 |stuck=>exact h
def Out.then {r:Res β}{f:β->Mo α}{dQ:List Addr->Hp->β->aa->Prop}(h:Out K mg ρ H (r.bind f) good E) (g:∀ak H' x st,Ext ρ H ak H'->a4 K mg ak H' st->Out K mg ak H' (f x st) good E->dQ ak H' x st):Out K mg ρ H r dQ E:=h.bind.mono g
def Out.now {x:α}{st:aa}(h:Out K mg ρ H (.ok x st) good E) (s:a4 K mg ρ H st):good ρ H x st:=h ρ H Ext.refl s
end
end
end Mi
namespace Mi
open PySem L2 PySem.W PySem.Spec
abbrev lim:Nat:=1000000
def jt {n:Nat}(h:n<=lim):n<=sizeLine:=by rw [sizeLine_eq];show n<=16777216;exact jw h (by decide)
section
variable (K:Frag) (mg:Ab)
def tM (Er:XK) (f:Ak):TE:=fun σ H Q=>∃env st ρ,bg K mg ρ H env σ/\a4 K mg ρ H st/\Out K mg ρ H (f env st) (gV K mg Q) Er
def nO (Er:XK) (f:Am):TT:=fun σ H Q=>∃env st ρ,bg K mg ρ H env σ/\a4 K mg ρ H st/\Out K mg ρ H (f env st) (gB Q) Er
def Nd (Er:XK) (f:Aj):TA:=fun σ H Q=>∃env st ρ,bg K mg ρ H env σ/\a4 K mg ρ H st/\Out K mg ρ H (f env st) (Nc K mg Q) Er
def sM (Er:XK) (f:Al):TS:=λD σ H=>∃env st ρ,bg K mg ρ H env σ/\a4 K mg ρ H st/\Out K mg ρ H (f env st) (gS K mg D) Er
end
def ME (X:Cx) (Er:XK) (e:Expr) (f:Ak):Prop:=PE X e (tM X.K X.mg Er f)
def MT (X:Cx) (Er:XK) (e:Expr) (f:Am):Prop:=PT X e (nO X.K X.mg Er f)
def MW (X:Cx) (Er:XK) (e:Expr) (f:Am):Prop:=PW X e (nO X.K X.mg Er f)
def MA (X:Cx) (Er:XK) (e:List Expr) (f:Aj):Prop:=PA X e (Nd X.K X.mg Er f)
def MS (X:Cx) (Er:XK) (e:Stmt) (f:Al):Prop:=PS X e (sM X.K X.mg Er f)
def dB (X:Cx) (Er:XK) (e:List Stmt) (f:Al):Prop:=cq X e (sM X.K X.mg Er f)
section
variable {X:Cx} {Er:XK} {e a b c:Expr} {es:List Expr} {pos:Pos} {t t':TE}
def PE.weak (h:PE X e t) (w:∀σ H Q,t' σ H Q->t σ H Q):PE X e t':=λpins s σ H Q I q=>h pins s σ H Q I (w σ H Q q)
def PT.weak {t t':TT}(h:PT X e t) (w:∀σ H Q,t' σ H Q->t σ H Q):PT X e t':=λpins s σ H Q I q=>h pins s σ H Q I (w σ H Q q)
def PW.weak {t t':TT}(h:PW X e t) (w:∀σ H Q,t' σ H Q->t σ H Q):PW X e t':=λwh pins s σ H Q I q=>h wh pins s σ H Q I (w σ H Q q)
def PA.weak {t t':TA}(h:PA X es t) (w:∀σ H Q,t' σ H Q->t σ H Q):PA X es t':=λpos pins s σ H Q I q=>h pos pins s σ H Q I (w σ H Q q)
def PS.weak {st:Stmt}{t t':TS}(h:PS X st t) (w:∀D σ H,t' D σ H->t D σ H):PS X st t':=λpins s σ H D I q=>h pins s σ H D I (w D σ H q)
def cq.weak {st:List Stmt}{t t':TS}(h:cq X st t) (w:∀D σ H,t' D σ H->t D σ H):cq X st t':=λpins s σ H D I q=>h pins s σ H D I (w D σ H q)
def za (i:Nat):Ak:=λenv st=>match env[i]? with
 |some (some x)=>.ok x st
 |_=>.stuck
def mC (x:PV):Ak:=λ_ st=>.ok x st
def zd (i:Nat) {x:Str} {pos:Pos} (hN:X.N[i]?=some x:=by rfl) (hv:q9 X.env.scope x:=by first|exact Or.inl rfl|exact Or.inr (Or.inl rfl)|exact Or.inr (Or.inr rfl)) (hd:(x==("__debug__" : Str))=false:=by decide)
  (fw:(x==("__classdict__" : Str))=false:=by decide):ME X Er (.Name x pos) (za i):=PE.weak (IK hN hv hd fw) fun σ H Q ⟨env,st,ρ,re,rs,h⟩=>by
 unfold za at h
 split at h
 ·rename_i x' hx
  obtain ⟨v,h1,h2⟩:=re.at_ i x' hx
  exact ⟨v,h1,h.now rs v h2⟩
 ·exact h.elim
def nP {x:PV}{v:V}(hp:PE X e (tC v)) (hr:∀ρ H,R X.K X.mg ρ H x v):ME X Er e (mC x):=PE.weak hp fun σ H Q ⟨env,st,ρ,re,rs,h⟩=>h.now rs v (hr ρ H)
def zl {i:Int}{j}:ME X Er (.Constant (.int i) j pos) (mC (.int i)):=nP IL λ_ _=>rfl
def ye {x:Str}{j}:ME X Er (.Constant (.str x) j pos) (mC (.str x)):=nP BL λ_ _=>rfl
def za4 {b:Bool}{j}:ME X Er (.Constant (.bool b) j pos) (mC (.bl b)):=nP IM λ_ _=>rfl
def zaI {j}:ME X Er (.Constant .none j pos) (mC .non):=nP IQ λ_ _=>rfl
def Nf {x:Str} {p:PV} {v:V} {u:Value} (hm:X.mg x=some u) (r:RelV v u) (hr:∀ρ H,R X.K X.mg ρ H p v) (hg:Gl X x:=by rfl) (hd:(x==("__debug__" : Str))=false:=by decide):ME X Er (.Name x pos) (mC p):=nP (uZ hg hm r hd) hr
def fM (K:Frag) (mg:Ab) (r:R2) (op:Ao):Prop:=∀ρ H st x y v w (Q:VK) (E:XK),a4 K mg ρ H st->R K mg ρ H x v->R K mg ρ H y w->Out K mg ρ H (op x y st) (gV K mg Q) E->r v w H Q
def zc (op:Ao) (fa fb:Ak):Ak:=λenv st=>(fa env st).bind λx ae=>(fb env ae).bind λy aG=>op x y aG
variable {fa fb:Ak}
def rZ {r:R2}{op:Ao}{K:Frag}{mg:Ab}(hm:fM K mg r op) {σ:St}{H:Hp}{Q:VK}(h:tM K mg Er (zc op fa fb) σ H Q):oV r (tM K mg Er fa) (tM K mg Er fb) σ H Q:=by
 obtain ⟨env,st,ρ,re,rs,h⟩:=h
 exact ⟨env,st,ρ,re,rs,h.then λah H1 x ae e1 s1 h1 v rv=>⟨env,ae,ah,re.ext e1,s1,h1.then λax H2 y aG e2 s2 h2 w rw=>hm ax H2 aG x y v w Q Er s2 (R.ext e2 x rv) rw h2⟩⟩
def Ng {o:Operator}{r:R2}{op:Ao}(ho:bI X (binaryOp o) r) (hm:fM X.K X.mg r op) (ha:ME X Er a fa) (hb:ME X Er b fb):ME X Er (.BinOp a o b pos) (zc op fa fb) :=
 PE.weak (JR ho ha hb) fun σ H Q h=>rZ hm h
def Nh {o:CmpOp}{r:R2}{op:Ao}(ho:bI X (compareOp o) r) (hm:fM X.K X.mg r op) (ha:ME X Er a fa) (hb:ME X Er b fb) (hk:behindInMarks o b=false):ME X Er (.Compare a [o] [b] pos) (zc op fa fb) :=
 PE.weak (J8 ho ha hb hk) fun σ H Q h=>rZ hm h
def gJ:PV->Mo Bool
 |.bl b,st=>.ok b st
 |_,_=>.stuck
def mB (f:Ak):Am:=λenv st=>(f env st).bind gJ
def Ni {K:Frag}{mg:Ab}{ρ:Af}{H:Hp}{x:PV}{st:aa}{Q:Bool->Hp->Prop}(s:a4 K mg ρ H st) (h:Out K mg ρ H (gJ x st) (gB Q) Er) {v:V}(r:R K mg ρ H x v):∃k,v=.bl k/\Q k H:=by
 unfold gJ at h
 split at h
 ·cases r;exact ⟨_,rfl,h.now s⟩
 ·exact h.elim
def Dy {α:Type}{K:Frag}{mg:Ab}{ρ:Af}{H:Hp}{x:PV}{st:aa}{f:Bool->Mo α}{good:List Addr->Hp->α->aa->Prop}(h:Out K mg ρ H ((gJ x st).bind f) good Er):∃k,x=.bl k/\Out K mg ρ H (f k st) good Er:=by
 cases x with
 |bl k=>exact ⟨k,rfl,h⟩
 |_=>exact h.elim
def vX {f:Ak}{K:Frag}{mg:Ab}{σ:St}{H:Hp}{Q:Bool->Hp->Prop}(h:nO K mg Er (mB f) σ H Q):tM K mg Er f σ H λx H1=>∃c,x=.bl c/\Q c H1:=by
 obtain ⟨env,st,ρ,re,rs,h⟩:=h
 exact ⟨env,st,ρ,re,rs,h.then λah H1 x ae e1 s1 h1 v rv=>Ni s1 h1 rv⟩
def Nj {o:CmpOp}{r:R2}{op:Ao}(ho:bI X (compareOp o) r) (hm:fM X.K X.mg r op) (ha:ME X Er a fa) (hb:ME X Er b fb) (hk:behindInMarks o b=false):MT X Er (.Compare a [o] [b] pos) (mB (zc op fa fb)) :=
 PT.weak (BZ ho ha hb hk) fun σ H Q h=>rZ hm (vX h)
def wN (h:ME X Er e fa) (he:∀whole,isTrue e X.env whole=(do let v <-whole;standAt e.pos;holding [v] (truthy v)):=by intro _;rfl):MT X Er e (mB fa) :=
 PT.weak (IV h he) fun σ H Q h=>vX h
def Dz (K:Frag) (mg:Ab) (r:V->Hp->VK->Prop) (op:PV->Mo PV):Prop:=∀ρ H st x v (Q:VK) (E:XK),a4 K mg ρ H st->R K mg ρ H x v->Out K mg ρ H (op x st) (gV K mg Q) E->r v H Q
def yQ (op:PV->Mo PV) (fa:Ak):Ak:=λenv st=>(fa env st).bind op
def Nk {o:UnaryOp}{r:V->Hp->VK->Prop}{op:PV->Mo PV}(ho:oU X (unaryOp o) r) (hm:Dz X.K X.mg r op) (ha:ME X Er a fa):ME X Er (.UnaryOp o a pos) (yQ op fa) :=
 PE.weak (JS ho ha) fun σ H Q ⟨env,st,ρ,re,rs,h⟩=>⟨env,st,ρ,re,rs,h.then λah H1 x ae e1 s1 h1 v rv=>hm ah H1 ae x v Q Er s1 rv h1⟩
variable {ga gb:Am} {rest:List Expr}
def ju (ga gb:Am):Am:=λenv st=>(ga env st).bind λc ae=>if c=true then gb env ae else .ok false ae
def jL (ga gb:Am):Am:=λenv st=>(ga env st).bind λc ae=>if c=true then .ok true ae else gb env ae
def iF (ga:Am):Am:=λenv st=>(ga env st).bind λc ae=>.ok (!c) ae
def zaK (ha:MT X Er a ga):MW X Er (.BoolOp .And [a] pos) ga:=I_ ha
def zaL (ha:MT X Er a ga):MW X Er (.BoolOp .Or [a] pos) ga:=Ja ha
def zah (ha:MT X Er a ga) (hb:MW X Er (.BoolOp .And (b::rest) pos) gb):MW X Er (.BoolOp .And (a::b::rest) pos) (ju ga gb) :=
 PW.weak (Jb ha hb) fun σ H Q ⟨env,st,ρ,re,rs,h⟩=>⟨env,st,ρ,re,rs,h.then λah H1 k ae e1 s1 h1=>by
  cases k with
  |true=>exact ⟨env,ae,ah,re.ext e1,s1,h1⟩
  |false=>exact h1.now s1⟩
def zai (ha:MT X Er a ga) (hb:MW X Er (.BoolOp .Or (b::rest) pos) gb):MW X Er (.BoolOp .Or (a::b::rest) pos) (jL ga gb) :=
 PW.weak (Jc ha hb) fun σ H Q ⟨env,st,ρ,re,rs,h⟩=>⟨env,st,ρ,re,rs,h.then λah H1 k ae e1 s1 h1=>by
  cases k with
  |false=>exact ⟨env,ae,ah,re.ext e1,s1,h1⟩
  |true=>exact h1.now s1⟩
def jT {op:BoolOp}(h:MW X Er (.BoolOp op es pos) ga):MT X Er (.BoolOp op es pos) ga:=PW.pt h
def zcJ (ha:MT X Er a ga):MT X Er (.UnaryOp .Not a pos) (iF ga):=PT.weak (Jd ha) fun σ H Q ⟨env,st,ρ,re,rs,h⟩=>⟨env,st,ρ,re,rs,h.then λah H1 k ae e1 s1 h1=>h1.now s1⟩
def gK (fa fb:Ak):Ak:=λenv st=>(fa env st).bind λx ae=>(gJ x ae).bind λc aG=>if c=true then fb env aG else .ok (.bl false) aG
def r6 (fa:Ak):Ak:=λenv st=>(fa env st).bind λx ae=>(gJ x ae).bind λc aG=>.ok (.bl (!c)) aG
def zdF {op}(h:ME X Er a fa):ME X Er (.BoolOp op [a] pos) fa:=Jg h
def zb8 (ha:ME X Er a fa) (hb:ME X Er (.BoolOp .And (b::rest) pos) fb):ME X Er (.BoolOp .And (a::b::rest) pos) (gK fa fb) :=
 PE.weak (Jh ha hb) fun σ H Q ⟨env,st,ρ,re,rs,h⟩=>⟨env,st,ρ,re,rs,h.then λah H1 x ae e1 s1 h1 v rv=>by
  obtain ⟨k,rfl,h1⟩:=Dy h1
  cases rv
  refine ⟨k,rfl,?_⟩
  cases k with
  |true=>exact ⟨env,ae,ah,re.ext e1,s1,h1⟩
  |false=>exact Out.now (x:=PV.bl false) h1 s1 _ rfl⟩
def zpC (ha:ME X Er a fa):ME X Er (.UnaryOp .Not a pos) (r6 fa) :=
 PE.weak (Ji ha) fun σ H Q ⟨env,st,ρ,re,rs,h⟩=>⟨env,st,ρ,re,rs,h.then λah H1 x ae e1 s1 h1 v rv=>by
  obtain ⟨k,rfl,h1⟩:=Dy h1
  cases rv
  exact ⟨k,rfl,Out.now (x:=PV.bl (!k)) h1 s1 _ rfl⟩⟩
def se (g:Am) (fa fb:Ak):Ak:=λenv st=>(g env st).bind λc ae=>if c=true then fa env ae else fb env ae
def zpD {c:Expr}(hc:MT X Er c ga) (ha:ME X Er a fa) (hb:ME X Er b fb):ME X Er (.IfExp c a b pos) (se ga fa fb) :=
 PE.weak (Jk hc ha hb) fun σ H Q ⟨env,st,ρ,re,rs,h⟩=>⟨env,st,ρ,re,rs,h.then λah H1 k ae e1 s1 h1=>by
  cases k with
  |true=>exact ⟨env,ae,ah,re.ext e1,s1,h1⟩
  |false=>exact ⟨env,ae,ah,re.ext e1,s1,h1⟩⟩
def zj:Aj:=λ_ st=>.ok [] st
def zf (f:Ak) (fs:Aj):Aj:=λenv st=>(f env st).bind λx ae=>(fs env ae).bind λxs aG=>.ok (x::xs) aG
variable {fs:Aj}
def zn:MA X Er [] zj:=PA.weak rD fun σ H Q ⟨env,st,ρ,re,rs,h⟩=>h.now rs [] rfl
def DA (ha:ME X Er e fa) (hr:MA X Er es fs) (hs:starEach (e::es) X.env=(false,eval e X.env)::starEach es X.env:=by rfl):MA X Er (e::es) (zf fa fs) :=
 PA.weak (rE ha hr hs) fun σ H Q ⟨env,st,ρ,re,rs,h⟩=>⟨env,st,ρ,re,rs,h.then λah H1 x ae e1 s1 h1 v rv=>⟨env,ae,ah,re.ext e1,s1,h1.then λax H2 xs aG e2 s2 h2 vs pM =>
  h2.now s2 (v::vs) ⟨v,vs,rfl,R.ext e2 x rv,pM⟩⟩⟩
def yg (fs:Aj):Ak:=λenv st=>(fs env st).bind λxs ae=>if xs.length<=lim then .ok (.tup xs) ae else .stuck
def jb (fs:Aj):Ak:=λenv st=>(fs env st).bind λxs ae=>if xs.length<=lim then .ok (.ref ae.length) (ae++[.lst xs]) else .stuck
def R.tup_of {K:Frag}{mg:Ab}{ρ:Af}{H:Hp}{xs:Aq}{vs:List V}{p:Addr}(r:Rs K mg ρ H xs vs) (hp:H p=none):R K mg ρ (upd H p (.tup vs)) (.tup xs) (.ref p) :=
 ⟨p,vs,rfl,bt.of yU,Rs.ext (Ext.new hp) xs r⟩
def yp {x1}(h:MA X Er es fs):ME X Er (.Tuple es x1 pos) (yg fs) :=
 PE.weak (Kw h) fun σ H Q ⟨env,st,ρ,re,rs,h⟩=>⟨env,st,ρ,re,rs,h.then λah H1 xs ae e1 s1 h1 vs rv=>by
  split at h1
  ·rename_i hl
   exact ⟨by rw [<-rv.len];exact jt hl,λp hp=>h1 ah _ (Ext.new hp) (s1.new hp) _ (R.tup_of rv hp)⟩
  ·exact h1.elim⟩
def Out.newList {K:Frag}{mg:Ab}{ρ:Af}{H:Hp}{st:aa}{xs:Aq}{vs:List V}{p:Addr}{Q:VK}(h:Out K mg ρ H (.ok (.ref st.length) (st++[.lst xs])) (gV K mg Q) Er) (s:a4 K mg ρ H st) (r:Rs K mg ρ H xs vs) (hp:H p=none):Q (.ref p) (upd H p (.lst vs)) :=
 h (ρ++[p]) _ (Ext.push hp) (s.push hp ⟨vs,yU,Rs.ext (Ext.push hp) xs r⟩) _ ⟨p,rfl,by rw [<-s.len];simp⟩
def jp (h:MA X Er es fs):ME X Er (.List es pos) (jb fs) :=
 PE.weak (Ky h) fun σ H Q ⟨env,st,ρ,re,rs,h⟩=>⟨env,st,ρ,re,rs,h.then λah H1 xs ae e1 s1 h1 vs rv=>by
  split at h1
  ·rename_i hl
   exact ⟨by rw [<-rv.len];exact jt hl,λp hp=>Out.newList h1 s1 rv hp⟩
  ·exact h1.elim⟩
def Nl {r:R2}{op:Ao}(ho:fz X r) (hm:fM X.K X.mg r op) (ha:ME X Er a fa) (hb:ME X Er b fb) (hs:eU b:=by exact λ_ _=>rfl):ME X Er (.Subscript a b pos) (zc op fa fb) :=
 PE.weak (Cs ho ha hb hs) fun σ H Q h=>rZ hm h
end
end Mi
namespace HT
open PySem PySem.Spec PyProof.Rows
section
variable {prog:Program} {w:World} {A:Around} {E:Aa} {s:Shared}
def getItem_tuple_all {t sl:Addr}{items:Array Value}{vl vu:Value}{lo hi:Option Int}{Q:Aa}(ht:IsTup s.heap t items) (hs:s.heap.IsSliceOf sl vl vu .none) (pl:IsPart vl lo) (pu:IsPart vu hi)
  (hw:sIx items.size 0 lo=0/\sIx items.size items.size hi=items.size) (h:Q (.ref t) s)
  (hsz:items.size<=sizeLine):wpAny (model prog w) A (getItem (.ref t) (.ref sl)) Q E s:=by
 obtain ⟨os,lh,ko,nv⟩:=id hs
 have vi:s.TypeIs (.ref sl) "slice" := ⟨os,lh,ko⟩
 unfold getItem
 try with_reducible refine hG ?_
 first|refine zu (ya ?_)|skip
 refine zu (wpAny_sequenceKey ht.typeIs (by decide) ?_)
 refine zu (wpAny_callSpecial?_slot (name:=Str.ofString "__getitem__") ht.typeIs PyProof.Rows.slot_tuple_getitem
  (g_ PyProof.Rows.slot_tuple_getitem ht.typeIs entry_tuple_getitem ?_ (args_tuple_getitem _ _)))
 show wpAny _ _ (Builtin.Tuple.tupleItemsOf (.ref t) >>= _) _ _ s
 refine zu (tupleItemsOf_ ht ?_)
 refine zu (wpAny_typeOf vi ?_)
 rw [zC (by decide)]
 refine zu (Cp hs pl pu ?_)
 have DB:(((sIx items.size 0 lo:Nat):Int)==0&&(1:Int)==1&&(sIx items.size items.size hi-sIx items.size 0 lo)==items.size)=true:=by
  rw [hw.1,hw.2];simp
 show wpAny _ _ (if (((sIx items.size 0 lo:Nat):Int)==0&&(1:Int)==1&&(sIx items.size items.size hi-sIx items.size 0 lo)==items.size)=true then _ else _) _ _ s
 rw [zC DB]
 unfold Builtin.Tuple.tupleIsExact
 refine zu (zu (wpAny_typeOf ht.typeIs (ya ?_)))
 rw [zC (by decide)]
 exact zu (wpAny_rule (ya ⟨_,rfl,ya h⟩))
def cat_tup0 {t b:Addr}{ws:Ah}{Q:Aa}(ht:IsTup s.heap t #[]) (hb:IsTup s.heap b ws.toArray) (h1:Q (.ref b) s):wpAny (model prog w) A (binaryOp .Add (.ref t) (.ref b)) Q E s:=by
 obtain ⟨⟨cls,dd,data,sl⟩,ho,hc,n,hd⟩:=id ht
 obtain ⟨⟨Cm,dd2,data2,gH⟩,fV,o_,n2,hd2⟩:=id hb
 simp only at hc hd o_ hd2
 subst hc hd o_ hd2
 exact concat_meets ⟨_,ho,rfl⟩ ⟨_,fV,rfl⟩ noFill_tuple_add seq_tuple_add PySem.F.slot_tuple_add PySem.F.entry_tuple_add (PySem.F.args_tuple_add_2 _ _)
   (tuple_addW0 t b #[] ws.toArray n n2 dd dd2 sl gH (by simp)) ⟨ho,fV,h1⟩
end
end HT
namespace Mi
open PySem L2 PySem.W PySem.Spec
section
variable {X:Cx} {Er:XK} {K:Frag} {mg:Ab}
def dR (X:Cx) (o:Operator) (op:Ao):Prop:=∃r,bI X (binaryOp o) r/\fM X.K X.mg r op
def cz (X:Cx) (o:CmpOp) (op:Ao):Prop:=∃r,bI X (compareOp o) r/\fM X.K X.mg r op
def mY (X:Cx) (op:Ao):Prop:=∃r,fz X r/\fM X.K X.mg r op
def uJ (X:Cx) (o:UnaryOp) (op:PV->Mo PV):Prop:=∃r,oU X (unaryOp o) r/\Dz X.K X.mg r op
variable {a b c e:Expr} {pos:Pos} {fa fb:Ak}
def zJ {o:Operator}{op:Ao}(h:dR X o op) (ha:ME X Er a fa) (hb:ME X Er b fb):ME X Er (.BinOp a o b pos) (zc op fa fb):=let ⟨_,h1,h2⟩:=h;Ng h1 h2 ha hb
def Nn {o:CmpOp}{op:Ao}(h:cz X o op) (ha:ME X Er a fa) (hb:ME X Er b fb) (hk:behindInMarks o b=false:=by first|exact mV _|with_unfolding_all rfl):ME X Er (.Compare a [o] [b] pos) (zc op fa fb):=let ⟨_,h1,h2⟩:=h;Nh h1 h2 ha hb hk
def zX {o:CmpOp}{op:Ao}(h:cz X o op) (ha:ME X Er a fa) (hb:ME X Er b fb) (hk:behindInMarks o b=false:=by first|exact mV _|with_unfolding_all rfl):MT X Er (.Compare a [o] [b] pos) (mB (zc op fa fb)):=let ⟨_,h1,h2⟩:=h;Nj h1 h2 ha hb hk
def zw {op:Ao}(h:mY X op) (ha:ME X Er a fa) (hb:ME X Er b fb) (hs:eU b:=by exact λ_ _=>rfl):ME X Er (.Subscript a b pos) (zc op fa fb):=let ⟨_,h1,h2⟩:=h;Nl h1 h2 ha hb hs
def Np {o:UnaryOp}{op:PV->Mo PV}(h:uJ X o op) (ha:ME X Er a fa):ME X Er (.UnaryOp o a pos) (yQ op fa):=let ⟨_,h1,h2⟩:=h;Nk h1 h2 ha
def Out.ifp {α:Type}{ρ:Af}{H:Hp}{p:Prop} [Decidable p] {r:Res α}{good:List Addr->Hp->α->aa->Prop}(h:Out K mg ρ H (if p then r else .stuck) good Er):p/\Out K mg ρ H r good Er:=by
 split at h
 ·rename_i hp;exact ⟨hp,h⟩
 ·exact h.elim
def yq {α:Type}(st:aa) (n:Nat) (k:List PV->Res α):Res α:=match st[n]? with
 |some (.lst xs)=>k xs
 |_=>.stuck
def jv {α:Type}(st:aa) (n:Nat) (k:List Str->List PV->Res α):Res α:=match st[n]? with
 |some (.dic ks xs)=>k ks xs
 |_=>.stuck
def jA {α:Type}(st:aa) (n:Nat) (k:Str->List Str->List PV->Res α):Res α:=match st[n]? with
 |some (.ins c ks xs)=>k c ks xs
 |_=>.stuck
def jE {α:Type}{ρ:Af}{H:Hp}{st:aa}{n:Nat}{k:List PV->Res α}{good:List Addr->Hp->α->aa->Prop}(h:Out K mg ρ H (yq st n k) good Er):∃xs,st[n]?=some (.lst xs)/\Out K mg ρ H (k xs) good Er:=by
 unfold yq at h
 split at h
 ·rename_i xs e;exact ⟨xs,e,h⟩
 ·exact h.elim
def vY {α:Type}{ρ:Af}{H:Hp}{st:aa}{n:Nat}{k:List Str->List PV->Res α}{good:List Addr->Hp->α->aa->Prop}(h:Out K mg ρ H (jv st n k) good Er):∃ks xs,st[n]?=some (.dic ks xs)/\Out K mg ρ H (k ks xs) good Er:=by
 unfold jv at h
 split at h
 ·rename_i ks xs e;exact ⟨ks,xs,e,h⟩
 ·exact h.elim
def DC {α:Type}{ρ:Af}{H:Hp}{st:aa}{n:Nat}{k:Str->List Str->List PV->Res α}{good:List Addr->Hp->α->aa->Prop}(h:Out K mg ρ H (jA st n k) good Er):∃c ks xs,st[n]?=some (.ins c ks xs)/\Out K mg ρ H (k c ks xs) good Er:=by
 unfold jA at h
 split at h
 ·rename_i c ks xs e;exact ⟨c,ks,xs,e,h⟩
 ·exact h.elim
def opI (C:Int->Int->Bool) (g:Int->Int->Int):Ao
 |.int i,.int j,st=>if C i j=true then .ok (.int (g i j)) st else .stuck
 |_,_,_=>.stuck
def pN {C:Int->Int->Bool}{g:Int->Int->Int}{P:Int->Int->Prop}(hC:∀i j,C i j=true->P i j):fM K mg (rI P λi j=>.int (g i j)) (opI C g):=by
 intro ρ H st x y v w Q E s rx ry h
 cases x with
 |int i =>
  cases y with
  |int j =>
   cases rx;cases ry
   obtain ⟨c,h⟩:=Out.ifp h
   exact ⟨i,j,rfl,rfl,hC i j c,h.now s _ rfl⟩
  |_=>exact h.elim
 |_=>exact h.elim
abbrev c0:Int->Int->Bool:=λ_ _=>true
def Nq {g:Int->Int->V}{f:Value->Value->Sem Value}(h:bI X f (km g)):bI X f (rI (λ_ _=>True) g):=λpins s σ H x y v u Q I rx ry ⟨i,j,h1,h2,_,q⟩=>h pins s σ H x y v u Q I rx ry ⟨i,j,h1,h2,q⟩
abbrev jU:=opI c0 λi j=>i-j
abbrev cV:Int->Int->Bool:=λi j=>(decide (-(2 ^ 64)<i)&&decide (i<2 ^ 64))||(decide (-(2 ^ 64)<j)&&decide (j<2 ^ 64))
abbrev DD:=opI cV λi j=>i*j
abbrev fG:Int->Int->Bool:=λi j=>decide (0<=j)&&decide (j<=1000000)&&decide (i.natAbs<2 ^ 64)
abbrev wO:=opI fG λi j=>i ^ j.toNat
abbrev DE:Int->Int->Bool:=λ_ j=>decide (j≠0)
def jj (i j:Int):Int:=if 0<j then i%j else i.fmod j
abbrev yx:=opI DE jj
abbrev vZ:Int->Int->Bool:=λ_ j=>decide (j≠0)&&decide (j.natAbs<2 ^ 200)
def wF (i j:Int):Int:=if 0<j then i/j else i.fdiv j
abbrev yV:=opI vZ wF
def Nr (i j:Int):jj i j=i.fmod j:=by
 unfold jj;split
 ·rename_i h;rw [Int.fmod_eq_emod_of_nonneg _ (by omega)]
 ·rfl
def Nt (i j:Int):wF i j=i.fdiv j:=by
 unfold wF;split
 ·rename_i h;rw [Int.fdiv_eq_ediv_of_nonneg _ (by omega)]
 ·rfl
def wP:dR X .Sub jU:=⟨_,Nq JU,pN λ_ _ _=>trivial⟩
def Nu:dR X .Mult DD:=⟨_,JV,pN λi j h=>by simpa [cV,mU] using h⟩
def za6:dR X .Pow wO:=⟨_,JX,pN λi j h=>by simp [fG] at h;exact ⟨h.1.1,h.1.2,h.2⟩⟩
def je:dR X .Mod yx:=⟨_,JW,by
 have h:(λi j=>V.int (i.fmod j))=λi j=>V.int (jj i j):=by funext i j;rw [Nr]
 rw [h];exact pN λi j h=>by simpa [DE] using h⟩
def Nv {y:Int}(h:y.natAbs<2 ^ 200):y.natAbs.log2<9000:=by
 by_cases h0:y.natAbs=0
 ·rw [h0];decide
 ·have:=(Nat.log2_lt h0).mpr h
  omega
def Nw:bI X (binaryOp .FloorDiv) (rI (λ_ j=>j≠0/\j.natAbs<2 ^ 200) λi j=>.int (i.fdiv j)):=L2.opI λ_ _ _ _ _ _ _ hc q=>PyProof.Rows.floordiv_int hc.1 q (.inl (PyProof.noPylong_of_log2 (Nv hc.2)))
def j7:dR X .FloorDiv yV:=⟨_,Nw,by
 have h:(λi j=>V.int (i.fdiv j))=λi j=>V.int (wF i j):=by funext i j;rw [Nt]
 rw [h];exact pN λi j h=>by simpa [vZ] using h⟩
def nQ:PV->Mo PV
 |.int i,st=>.ok (.int (-i)) st
 |_,_=>.stuck
def Ny:uJ X .USub nQ:=⟨_,JZ,by
 intro ρ H st x v Q E s rx h
 cases x with
 |int i=>cases rx;exact ⟨i,rfl,Out.now (x:=PV.int (-i)) h s _ rfl⟩
 |_=>exact h.elim⟩
def yd:Ao
 |.int i,.int j,st=>.ok (.int (i+j)) st
 |.str x,.str y,st=>if x.length+y.length<=lim then .ok (.str (x++y)) st else .stuck
 |.tup xs,.tup ys,st=>if xs.length+ys.length<=lim then .ok (.tup (xs++ys)) st else .stuck
 |.ref n,.ref m,st=>yq st n λxs=>yq st m λys=>if xs.length+ys.length<=lim then .ok (.ref st.length) (st++[.lst (xs++ys)]) else .stuck
 |_,_,_=>.stuck
def Nz (K:Frag):R2:=λx y H Q=>∃a b ys,x=.ref a/\y=.ref b/\bt K H a []/\bt K H b ys/\Q (.ref b) H
def NA:bI X (binaryOp .Add) (Nz X.K):=by
 intro pins s σ H x y v u Q I rx ry h
 obtain ⟨a,b,ys,rfl,rfl,h1,h2,q⟩:=h
 cases rx;cases ry
 obtain ⟨i1,r1,p1,_⟩:=I.tuple h1
 obtain ⟨i2,r2,p2,_⟩:=I.tuple h2
 cases r1
 exact HT.cat_tup0 p1 p2 ⟨.ref b,H,I,rfl,q⟩
def yN:dR X .Add yd:=⟨_,JT.or (J_.or (NA.or (K9.or LG))),by
 intro ρ H st x y v w Q E s rx ry h
 cases x with
 |int i =>
  cases y with
  |int j=>cases rx;cases ry;exact .inl ⟨i,j,rfl,rfl,Out.now (x:=PV.int (i+j)) h s _ rfl⟩
  |_=>exact h.elim
 |str i =>
  cases y with
  |str j =>
   cases rx;cases ry
   obtain ⟨c,h⟩:=Out.ifp h
   exact .inr (.inl ⟨i,j,rfl,rfl,jt c,h.now s _ rfl⟩)
  |_=>exact h.elim
 |tup xs =>
  cases y with
  |tup ys =>
   obtain ⟨p,vs,rfl,h1,h2⟩:=rx
   obtain ⟨q,ws,rfl,h3,h4⟩:=ry
   obtain ⟨c,h⟩:=Out.ifp h
   cases xs with
   |nil =>
    cases h2
    exact .inr (.inr (.inl ⟨p,q,ws,rfl,rfl,h1,h3,h.now s _ ⟨q,ws,rfl,h3,h4⟩⟩))
   |cons x0 NB =>
    refine .inr (.inr (.inr (.inl ⟨p,q,vs,ws,rfl,rfl,h1,h3,?_,?_,λe=>?_,λ_ l hl=>?_⟩)))
    ·obtain ⟨v0,r0,e0,_⟩:=h2;rw [e0];simp
    ·rw [<-h2.len,<-h4.len];exact jt c
    ·subst e
     have:ys=[]:=by have:=h4.len;simpa using this
     subst this
     exact h.now s _ ⟨p,vs,rfl,h1,by simpa using h2⟩
    ·exact h ρ _ (Ext.new hl) (s.new hl) _ (R.tup_of (h2.append h4) hl)
  |_=>exact h.elim
 |ref n =>
  cases y with
  |ref m =>
   obtain ⟨p,rfl,hp⟩:=rx
   obtain ⟨q,rfl,hq⟩:=ry
   obtain ⟨xs,e1,h⟩:=jE h
   obtain ⟨ys,e2,h⟩:=jE h
   obtain ⟨c,h⟩:=Out.ifp h
   obtain ⟨vs,h1,h2⟩:=s.addr e1 hp
   obtain ⟨ws,h3,h4⟩:=s.addr e2 hq
   exact .inr (.inr (.inr (.inr ⟨p,q,vs,ws,rfl,rfl,h1,h3,by rw [<-h2.len,<-h4.len];exact jt c,λl hl=>Out.newList h s (h2.append h4) hl⟩)))
  |_=>exact h.elim
 |_=>exact h.elim⟩
def v3 (g:Int->Int->Bool):Ao
 |.int i,.int j,st=>.ok (.bl (g i j)) st
 |_,_,_=>.stuck
def DF {g:Int->Int->Bool}:fM K mg (km λi j=>.bl (g i j)) (v3 g):=by
 intro ρ H st x y v w Q E s rx ry h
 cases x with
 |int i =>
  cases y with
  |int j=>cases rx;cases ry;exact ⟨i,j,rfl,rfl,Out.now (x:=PV.bl (g i j)) h s _ rfl⟩
  |_=>exact h.elim
 |_=>exact h.elim
abbrev oLt:=v3 λi j=>decide (i<j)
abbrev j8:=v3 λi j=>decide (j<i)
def zdJ:cz X .Lt oLt:=⟨_,J3,DF⟩
def zbt:cz X .Gt j8:=⟨_,J4,DF⟩
def cW:PV->Bool
 |.non=>true
 |_=>false
def DG:Ao
 |x,.non,st=>.ok (.bl (cW x)) st
 |_,_,_=>.stuck
def DH:Ao
 |x,.non,st=>.ok (.bl (!cW x)) st
 |_,_,_=>.stuck
def DI {ρ:Af}{H:Hp}{x:PV}{v:V}(r:R K mg ρ H x v):decide (v=.non)=cW x:=by
 cases x with
 |non=>cases r;rfl
 |bl _=>cases r;rfl
 |int _=>cases r;rfl
 |str _=>cases r;rfl
 |ty _=>cases r;rfl
 |tup _=>obtain ⟨_,_,rfl,_⟩:=r;rfl
 |frl _=>obtain ⟨_,_,rfl,_⟩:=r;rfl
 |ref _=>obtain ⟨_,rfl,_⟩:=r;rfl
 |fn _=>obtain ⟨_,rfl,_⟩:=r;rfl
 |kd _ _=>obtain ⟨_,_,_,rfl,_⟩:=r;rfl
 |exo _ _ _=>obtain ⟨_,_,_,_,rfl,_⟩:=r;rfl
def NC:cz X .Is DG:=⟨_,J6,by
 intro ρ H st x y v w Q E s rx ry h
 cases y with
 |non=>cases ry;exact ⟨rfl,by rw [DI rx];exact Out.now (x:=PV.bl (cW x)) h s _ rfl⟩
 |_=>exact h.elim⟩
def ND:cz X .IsNot DH:=⟨_,J7,by
 intro ρ H st x y v w Q E s rx ry h
 cases y with
 |non=>cases ry;exact ⟨rfl,by rw [DI rx];exact Out.now (x:=PV.bl (!cW x)) h s _ rfl⟩
 |_=>exact h.elim⟩
def v5 {ρ:Af}{H:Hp}{xs:Aq}{vs:List V}{i:Int}{x:PV}(r:Rs K mg ρ H xs vs) (h:cQ xs i=some x):∃v,cQ vs i=some v/\R K mg ρ H x v:=by
 unfold cQ at h ⊢
 rw [<-r.len]
 cases hj:ik xs.length i with
 |none=>rw [hj] at h;cases h
 |some j =>
  rw [hj] at h
  obtain ⟨v,h1,h2⟩:=r.get (show xs[j]?=some x from h)
  exact ⟨v,h1,h2⟩
def b_:Option PV->Mo PV
 |some x,st=>.ok x st
 |none,_=>.stuck
def v7:Ao
 |.tup xs,.int i,st=>b_ (cQ xs i) st
 |.frl xs,.int i,st=>b_ (cQ xs i) st
 |.str z,.int i,st=>if z.length<=lim then b_ ((cQ z.cps.toList i).map λc=>.str ⟨#[c]⟩) st else .stuck
 |.ref n,.int i,st=>yq st n λxs=>b_ (cQ xs i) st
 |_,_,_=>.stuck
def iG {ρ:Af}{H:Hp}{o:Ar}{st:aa}{good}(h:Out K mg ρ H (b_ o st) good Er):∃x,o=some x/\Out K mg ρ H (.ok x st) good Er:=by
 cases o with
 |some x=>exact ⟨x,rfl,h⟩
 |none=>exact h.elim
def NF:mY X v7:=⟨_,Le,by
 intro ρ H st x y v w Q E s rx ry h
 cases x with
 |tup xs =>
  cases y with
  |int i =>
   cases ry
   obtain ⟨p,vs,rfl,h1,h2⟩:=rx
   obtain ⟨x,e,h⟩:=iG h
   obtain ⟨v,h3,h4⟩:=v5 h2 e
   exact .inr (.inl ⟨p,vs,i,v,rfl,rfl,h1,h3,h.now s _ h4⟩)
  |_=>exact h.elim
 |frl xs =>
  cases y with
  |int i =>
   cases ry
   obtain ⟨p,vs,rfl,h1,h2⟩:=rx
   obtain ⟨x,e,h⟩:=iG h
   obtain ⟨v,h3,h4⟩:=v5 h2 e
   exact .inl ⟨p,vs,i,v,rfl,rfl,h1.sq,h3,h.now s _ h4⟩
  |_=>exact h.elim
 |str z =>
  cases y with
  |int i =>
   cases ry;cases rx
   obtain ⟨c,h⟩:=Out.ifp h
   obtain ⟨x,e,h⟩:=iG h
   cases hc:cQ z.cps.toList i with
   |none=>rw [hc] at e;cases e
   |some k =>
    rw [hc] at e
    cases e
    exact .inr (.inr ⟨z,i,k,rfl,rfl,jt c,hc,h.now s _ rfl⟩)
  |_=>exact h.elim
 |ref n =>
  cases y with
  |int i =>
   cases ry
   obtain ⟨p,rfl,hp⟩:=rx
   obtain ⟨xs,e1,h⟩:=jE h
   obtain ⟨vs,h1,h2⟩:=s.addr e1 hp
   obtain ⟨x,e,h⟩:=iG h
   obtain ⟨v,h3,h4⟩:=v5 h2 e
   exact .inl ⟨p,vs,i,v,rfl,rfl,ba.of h1,h3,h.now s _ h4⟩
  |_=>exact h.elim
 |_=>exact h.elim⟩
end
mutual
def plain:PV->Bool
 |.non=>true
 |.bl _=>true
 |.int _=>true
 |.str _=>true
 |.tup xs=>bU xs
 |_=>false
def bU:List PV->Bool
 |[]=>true
 |x::xs=>plain x&&bU xs
end
mutual
def dep:PV->Nat
 |.tup xs=>dI xs+1
 |_=>0
def dI:List PV->Nat
 |[]=>0
 |x::xs=>max (dep x) (dI xs)
end
mutual
def bN:PV->PV->Bool
 |.non,.non=>true
 |.bl a,.bl b=>a==b
 |.bl a,.int b=>(if a then 1 else 0)==b
 |.int a,.bl b=>a==(if b then 1 else 0)
 |.int a,.int b=>a==b
 |.str a,.str b=>a==b
 |.tup xs,.tup ys=>fH xs ys
 |_,_=>false
def fH:List PV->List PV->Bool
 |[],[]=>true
 |x::xs,y::ys=>bN x y&&fH xs ys
 |_,_=>false
end
section
variable {X:Cx} {K:Frag} {mg:Ab} {ρ:Af} {pins:Ac} {σ:L2.St} {H:Hp} {s:Shared}
mutual
theorem DJ (I:Inv X pins σ H s):∀(x y:PV) {v:V},plain x=true->plain y=true->R X.K mg ρ H x v->R X.K mg ρ H y v->bN x y=true
 |.non,y,v,_,py,rx,ry=>by
  cases rx
  cases y with
  |non=>rfl
  |tup ys=>obtain ⟨_,_,e,_⟩:=ry;cases e
  |bl _=>cases ry
  |int _=>cases ry
  |str _=>cases ry
  |_=>cases py
 |.bl a,y,v,_,py,rx,ry=>by
  cases rx
  cases y with
  |bl b=>cases ry;simp [bN]
  |tup ys=>obtain ⟨_,_,e,_⟩:=ry;cases e
  |non=>cases ry
  |int _=>cases ry
  |str _=>cases ry
  |_=>cases py
 |.int a,y,v,_,py,rx,ry=>by
  cases rx
  cases y with
  |int b=>cases ry;simp [bN]
  |tup ys=>obtain ⟨_,_,e,_⟩:=ry;cases e
  |non=>cases ry
  |bl _=>cases ry
  |str _=>cases ry
  |_=>cases py
 |.str a,y,v,_,py,rx,ry=>by
  cases rx
  cases y with
  |str b=>cases ry;simp [bN]
  |tup ys=>obtain ⟨_,_,e,_⟩:=ry;cases e
  |non=>cases ry
  |bl _=>cases ry
  |int _=>cases ry
  |_=>cases py
 |.tup xs,y,v,px,py,rx,ry=>by
  obtain ⟨a,vs,rfl,h1,h2⟩:=rx
  cases y with
  |tup ys =>
   obtain ⟨b,ws,e,h3,h4⟩:=ry
   cases e
   have:=I.tuple_inj h1 h3
   subst this
   exact kF I xs ys px py h2 h4
  |non=>cases ry
  |bl _=>cases ry
  |int _=>cases ry
  |str _=>cases ry
  |_=>cases py
 |.ty _,_,_,px,_,_,_=>by cases px
 |.frl _,_,_,px,_,_,_=>by cases px
 |.ref _,_,_,px,_,_,_=>by cases px
 |.fn _,_,_,px,_,_,_=>by cases px
 |.kd _ _,_,_,px,_,_,_=>by cases px
 |.exo _ _ _,_,_,px,_,_,_=>by cases px
theorem kF (I:Inv X pins σ H s):∀(xs ys:Aq) {vs:List V},bU xs=true->bU ys=true->Rs X.K mg ρ H xs vs->Rs X.K mg ρ H ys vs->fH xs ys=true
 |[],ys,vs,_,py,rx,ry=>by
  cases rx
  cases ys with
  |nil=>rfl
  |cons y ys=>obtain ⟨_,_,e,_⟩:=ry;cases e
 |x::xs,ys,vs,px,py,rx,ry=>by
  obtain ⟨v,r,rfl,h1,h2⟩:=rx
  cases ys with
  |nil=>cases ry
  |cons y ys =>
   obtain ⟨v',r',e,h3,h4⟩:=ry
   cases e
   simp only [bU,wB] at px py
   simp only [fH,wB]
   exact ⟨DJ I x y px.1 py.1 h1 h3,kF I xs ys px.2 py.2 h2 h4⟩
end
def e9 (xs ys:Aq) (j:Nat):Bool:=match xs[j]?,ys[j]? with
 |some x,some y=>bN x y
 |_,_=>true
theorem DK:∀(xs ys:Aq),((List.range (min xs.length ys.length)).all (e9 xs ys)&&xs.length==ys.length)=fH xs ys
 |[],[]=>rfl
 |[],y::ys=>by simp [fH]
 |x::xs,[]=>by simp [fH]
 |x::xs,y::ys=>by
  have ih:=DK xs ys
  have e1:min (x::xs).length (y::ys).length=min xs.length ys.length+1:=by simp only [wc];omega
  have e2:((x::xs).length==(y::ys).length)=(xs.length==ys.length):=by
   rw [Bool.eq_iff_iff];simp
  rw [e1,e2,List.range_succ_eq_map,List.all_cons,List.all_map]
  have e3:(e9 (x::xs) (y::ys)∘Nat.succ)=e9 xs ys:=by
   funext j
   simp [e9]
  rw [e3,Bool.and_assoc,ih]
  simp [fH,e9]
theorem v8:∀{xs:Aq}{i:Nat}{x:PV},xs[i]?=some x->dep x<=dI xs
 |[],_,_,e=>by simp at e
 |y::xs,0,x,e=>by simp at e;subst e;simp only [dI];omega
 |y::xs,i+1,x,e=>by
  simp at e
  have:=v8 e
  simp only [dI];omega
theorem sf:∀{xs:Aq}{i:Nat}{x:PV},bU xs=true->xs[i]?=some x->plain x=true
 |[],_,_,_,e=>by simp at e
 |y::xs,0,x,p,e=>by simp at e;subst e;simp only [bU,wB] at p;exact p.1
 |y::xs,i+1,x,p,e=>by
  simp at e
  simp only [bU,wB] at p
  exact sf p.2 e
def DL (A:Around):A.in1.units=A.units+1:=rfl
def v9 (I:Inv X pins σ H s):∀(n:Nat) (x y:PV) {v w:V}{u u':Value}(A:Around),dep x<=n->plain x=true->plain y=true->R X.K mg ρ H x v->R X.K mg ρ H y w->RelV v u->RelV w u'->A.units+n<cLine ->
  SeqAt.EqAt A s u u' (bN x y)/\SeqAt.RcAt A s u u' (bN x y)/\SeqAt.RcNeAt A s u u' (!bN x y):=by
 intro n
 induction n with
 |zero =>
  intro x y v w u u' A hd px py rx ry rv rw hu
  cases x with
  |tup xs=>simp only [dep] at hd;omega
  |non =>
   cases rx;cases rv
   cases y with
   |non=>cases ry;cases rw;exact ⟨.same _,.none_none,.none_none⟩
   |bl b=>cases ry;cases rw;exact ⟨.none_bool b,.none_bool b,.none_bool b⟩
   |int b=>cases ry;obtain ⟨t,rfl⟩:=rw;exact ⟨.none_int b t,.none_int b t,.none_int b t⟩
   |str b=>cases ry;obtain ⟨t,rfl⟩:=rw;exact ⟨.none_str b t,.none_str b t,.none_str b t⟩
   |tup ys =>
    obtain ⟨p,ws,rfl,h1,h2⟩:=ry
    cases rw
    obtain ⟨its,_,pl,_⟩:=I.tuple h1
    exact ⟨.none_tuple pl (by omega),.none_tuple pl (by omega),.none_tuple pl (by omega)⟩
   |_=>cases py
  |bl a =>
   cases rx;cases rv
   cases y with
   |non=>cases ry;cases rw;exact ⟨.bool_none a,.bool_none a,.bool_none a⟩
   |bl b=>cases ry;cases rw;exact ⟨.bool_bool a b,.bool_bool a b,.bool_bool a b⟩
   |int b=>cases ry;obtain ⟨t,rfl⟩:=rw;exact ⟨.bool_int a b t,.bool_int a b t,.bool_int a b t⟩
   |str b=>cases ry;obtain ⟨t,rfl⟩:=rw;exact ⟨.bool_str a b t,.bool_str a b t,.bool_str a b t⟩
   |tup ys =>
    obtain ⟨p,ws,rfl,h1,h2⟩:=ry
    cases rw
    obtain ⟨its,_,pl,_⟩:=I.tuple h1
    exact ⟨.bool_tuple a pl (by omega),.bool_tuple a pl (by omega),.bool_tuple a pl (by omega)⟩
   |_=>cases py
  |int a =>
   cases rx;obtain ⟨t0,rfl⟩:=rv
   cases y with
   |non=>cases ry;cases rw;exact ⟨.int_none a t0,.int_none a t0,.int_none a t0⟩
   |bl b=>cases ry;cases rw;exact ⟨.int_bool a t0 b,.int_bool a t0 b,.int_bool a t0 b⟩
   |int b=>cases ry;obtain ⟨t,rfl⟩:=rw;exact ⟨.int_int a t0 b t,.int_int a t0 b t,.int_int a t0 b t⟩
   |str b=>cases ry;obtain ⟨t,rfl⟩:=rw;exact ⟨.int_str a t0 b t,.int_str a t0 b t,.int_str a t0 b t⟩
   |tup ys =>
    obtain ⟨p,ws,rfl,h1,h2⟩:=ry
    cases rw
    obtain ⟨its,_,pl,_⟩:=I.tuple h1
    exact ⟨.int_tuple a t0 pl (by omega),.int_tuple a t0 pl (by omega),.int_tuple a t0 pl (by omega)⟩
   |_=>cases py
  |str a =>
   cases rx;obtain ⟨t0,rfl⟩:=rv
   cases y with
   |non=>cases ry;cases rw;exact ⟨.str_none a t0,.str_none a t0,.str_none a t0⟩
   |bl b=>cases ry;cases rw;exact ⟨.str_bool a t0 b,.str_bool a t0 b,.str_bool a t0 b⟩
   |int b=>cases ry;obtain ⟨t,rfl⟩:=rw;exact ⟨.str_int a t0 b t,.str_int a t0 b t,.str_int a t0 b t⟩
   |str b=>cases ry;obtain ⟨t,rfl⟩:=rw;exact ⟨.str_str a t0 b t,.str_str a t0 b t,.str_str a t0 b t⟩
   |tup ys =>
    obtain ⟨p,ws,rfl,h1,h2⟩:=ry
    cases rw
    obtain ⟨its,_,pl,_⟩:=I.tuple h1
    exact ⟨.str_tuple a t0 pl (by omega),.str_tuple a t0 pl (by omega),.str_tuple a t0 pl (by omega)⟩
   |_=>cases py
  |_=>cases px
 |succ n ih =>
  intro x y v w u u' A hd px py rx ry rv rw hu
  cases x with
  |tup xs =>
   obtain ⟨a,vs,rfl,h1,h2⟩:=id rx
   cases rv
   obtain ⟨its,r1,p1,_⟩:=I.tuple h1
   cases y with
   |non=>cases ry;cases rw;exact ⟨.tuple_none p1 (by omega),.tuple_none p1 (by omega),.tuple_none p1 (by omega)⟩
   |bl b=>cases ry;cases rw;exact ⟨.tuple_bool b p1 (by omega),.tuple_bool b p1 (by omega),.tuple_bool b p1 (by omega)⟩
   |int b=>cases ry;obtain ⟨t,rfl⟩:=rw;exact ⟨.tuple_int b t p1 (by omega),.tuple_int b t p1 (by omega),.tuple_int b t p1 (by omega)⟩
   |str b=>cases ry;obtain ⟨t,rfl⟩:=rw;exact ⟨.tuple_str b t p1 (by omega),.tuple_str b t p1 (by omega),.tuple_str b t p1 (by omega)⟩
   |tup ys =>
    obtain ⟨b,ws,rfl,h3,h4⟩:=id ry
    cases rw
    obtain ⟨c6,r2,p2,_⟩:=I.tuple h3
    have l1:=h2.len
    have l2:=h4.len
    have l3:=r1.length
    have l4:=r2.length
    have item:∀j (g1:j<its.toArray.size) (g2:j<c6.toArray.size),SeqAt.EqAt A.in1 s its.toArray[j] c6.toArray[j] (e9 xs ys j):=λj g1 g2=>by
     have k1:j<xs.length:=by rw [l1,l3];simpa using g1
     have k2:j<ys.length:=by rw [l2,l4];simpa using g2
     obtain ⟨v1,e1,NG⟩:=h2.get (yi k1)
     obtain ⟨v2,e2,NH⟩:=h4.get (yi k2)
     obtain ⟨u1,f1,NJ⟩:=r1.get e1
     obtain ⟨u2,f2,NK⟩:=r2.get e2
     have w1:its.toArray[j]=u1:=by
      obtain ⟨_,z⟩:=yD.mp f1
      simpa using z
     have w2:c6.toArray[j]=u2:=by
      obtain ⟨_,z⟩:=yD.mp f2
      simpa using z
     have ej:e9 xs ys j=bN xs[j] ys[j]:=by
      unfold e9
      rw [yi k1,yi k2]
     rw [w1,w2,ej]
     have V8:=v8 (yi k1)
     simp only [dep] at hd
     exact (ih xs[j] ys[j] A.in1 (by omega) (sf px (yi k1)) (sf py (yi k2)) NG NH NJ NK (by rw [DL];omega)).1
    have uK:((List.range (min its.toArray.size c6.toArray.size)).all (e9 xs ys)&&its.toArray.size==c6.toArray.size)=bN (.tup xs) (.tup ys):=by
     have e:=DK xs ys
     rw [l1,l2,l3,l4] at e
     simpa [bN] using e
    have rc:SeqAt.RcAt A s (.ref a) (.ref b) (bN (.tup xs) (.tup ys)):=by
     rw [<-uK]
     exact SeqAt.RcAt.tuples (show s.heap.IsTuple a its.toArray from p1) (show s.heap.IsTuple b c6.toArray from p2) (by omega) item
    refine ⟨?_,rc,?_⟩
    ·by_cases hab:a=b
     ·subst hab
      rw [DJ I (.tup xs) (.tup ys) px py rx ry]
      exact .same _
     ·exact .of_refs hab rc
    ·rw [<-uK]
     exact SeqAt.RcNeAt.tuples (show s.heap.IsTuple a its.toArray from p1) (show s.heap.IsTuple b c6.toArray from p2) (by omega) item
   |_=>cases py
  |non=>exact ih _ y A (jK _) px py rx ry rv rw (by omega)
  |bl a=>exact ih _ y A (jK _) px py rx ry rv rw (by omega)
  |int a=>exact ih _ y A (jK _) px py rx ry rv rw (by omega)
  |str a=>exact ih _ y A (jK _) px py rx ry rv rw (by omega)
  |_=>cases px
def zU:Ao:=λx y st=>if plain x=true/\plain y=true/\dep x<=150 then .ok (.bl (bN x y)) st else .stuck
def jV:Ao:=λx y st=>if plain x=true/\plain y=true/\dep x<=150 then .ok (.bl (!bN x y)) st else .stuck
def DM (K:Frag) (mg:Ab) (f:Bool->Bool):R2:=λv w H Q=>∃ρ x y,plain x=true/\plain y=true/\dep x<=150/\R K mg ρ H x v/\R K mg ρ H y w/\Q (.bl (f (bN x y))) H
def NL (hu:X.A.units+200<cLine):bI X (compareOp .Eq) (DM X.K X.mg id):=by
 intro pins s σ H x y v u Q I rx ry h
 obtain ⟨ρ,a,b,pa,pb,hd,ra,rb,q⟩:=h
 exact PySem.EqBoolInt.of_rc (v9 I 150 a b X.A hd pa pb ra rb rx ry (by omega)).2.1 ⟨.bl _,H,I,rfl,q⟩
def NM (hu:X.A.units+200<cLine):bI X (compareOp .NotEq) (DM X.K X.mg not):=by
 intro pins s σ H x y v u Q I rx ry h
 obtain ⟨ρ,a,b,pa,pb,hd,ra,rb,q⟩:=h
 exact PySem.EqBoolInt.of_rcne (v9 I 150 a b X.A hd pa pb ra rb rx ry (by omega)).2.2 ⟨.bl _,H,I,rfl,q⟩
def yr (hu:X.A.units+200<cLine):cz X .Eq zU:=⟨_,NL hu,fun ρ H st x y v w Q E s rx ry h=>by
 obtain ⟨⟨p1,p2,p3⟩,h⟩:=Out.ifp h
 exact ⟨ρ,x,y,p1,p2,p3,rx,ry,h.now s _ rfl⟩⟩
def zca (hu:X.A.units+200<cLine):cz X .NotEq jV:=⟨_,NM hu,fun ρ H st x y v w Q E s rx ry h=>by
 obtain ⟨⟨p1,p2,p3⟩,h⟩:=Out.ifp h
 exact ⟨ρ,x,y,p1,p2,p3,rx,ry,h.now s _ rfl⟩⟩
end
section
variable {X:Cx} {Er:XK} {K:Frag} {mg:Ab} {a b c e:Expr} {es:List Expr} {pos:Pos} {fa:Ak} {fs:Aj}
def NN (K:Frag) (mg:Ab) (Er:XK) (f:ze->Mo (Option Int)):TO:=fun σ H Q=>∃env st ρ,bg K mg ρ H env σ/\a4 K mg ρ H st/\Out K mg ρ H (f env st) (λ_ H' o _=>Q o H') Er
def MO (X:Cx) (Er:XK) (e:Option Expr) (f:ze->Mo (Option Int)):Prop:=PO X e (NN X.K X.mg Er f)
def fB:ze->Mo (Option Int):=λ_ st=>.ok none st
def v_:PV->Mo (Option Int)
 |.int i,st=>.ok (some i) st
 |_,_=>.stuck
def dC (f:Ak):ze->Mo (Option Int):=λenv st=>(f env st).bind v_
def PO.weak {o:Option Expr}{t t':TO}(h:PO X o t) (w:∀σ H Q,t' σ H Q->t σ H Q):PO X o t':=λpins s σ H Q I q=>h pins s σ H Q I (w σ H Q q)
def zfv:MO X Er none fB:=PO.weak KY fun σ H Q ⟨env,st,ρ,re,rs,h⟩=>h.now rs
def zdL (h:ME X Er e fa):MO X Er (some e) (dC fa):=PO.weak (KZ h) fun σ H Q ⟨env,st,ρ,re,rs,h⟩=>⟨env,st,ρ,re,rs,h.then λah H1 x ae e1 s1 h1 v rv=>by
 cases x with
 |int i=>cases rv;exact ⟨i,rfl,Out.now (x:=some i) h1 s1⟩
 |_=>exact h1.elim⟩
def cX (xs:Aq) (lo hi:Option Int):Aq:=(xs.drop (HT.sIx xs.length 0 lo)).take (HT.sIx xs.length xs.length hi-HT.sIx xs.length 0 lo)
def pO:PV->Option Int->Option Int->Mo PV
 |.tup xs,lo,hi,st=>.ok (.tup (cX xs lo hi)) st
 |.frl xs,lo,hi,st=>.ok (.ref st.length) (st++[.lst (cX xs lo hi)])
 |.ref n,lo,hi,st=>yq st n λxs=>.ok (.ref st.length) (st++[.lst (cX xs lo hi)])
 |.str z,lo,hi,st=>if z.length<=lim then .ok (.str (Txt.slice z lo hi)) st else .stuck
 |_,_,_,_=>.stuck
def Rs.cut {ρ:Af}{H:Hp}{xs:Aq}{vs:List V}(r:Rs K mg ρ H xs vs) (lo hi:Option Int):Rs K mg ρ H (cX xs lo hi) (fF vs lo hi):=by
 unfold cX fF
 rw [r.len]
 exact (r.drop _).take _
def NP (K:Frag):V->Option Int->Option Int->Hp->VK->Prop:=λx lo hi H Q=>∃a xs,x=.ref a/\bt K H a xs/\(HT.sIx xs.length 0 lo=0/\HT.sIx xs.length xs.length hi=xs.length)/\Q (.ref a) H
def NQ:ig X (NP X.K):=by
 intro pins s σ H x v vl vu lo hi sl Q I rx hs pl pu h
 obtain ⟨a,xs,rfl,hx,hw,q⟩:=h
 cases rx
 obtain ⟨its,r,ht,hz⟩:=I.tuple hx
 have hlen:its.toArray.size=xs.length:=by rw [yT];exact r.length.symm
 refine ⟨"tuple", _,PyProof.Rows.slot_tuple_getitem.lookup,ht.typeIs,?_⟩
 exact HT.getItem_tuple_all ht hs pl pu (by rw [hlen];exact hw) ⟨.ref a,H,I,rfl,q⟩ (by rw [hlen];exact hz)
def lV (fa:Ak) (fl fu:ze->Mo (Option Int)):Ak:=λenv st=>(fa env st).bind λx ae=>(fl env ae).bind λl aG=>(fu env aG).bind λu a8=>pO x l u a8
def zfw {lo hi:Option Expr}{fl fu:ze->Mo (Option Int)}{p2:Pos}(ha:ME X Er a fa) (hl:MO X Er lo fl) (hu:MO X Er hi fu):ME X Er (.Subscript a (.Slice lo hi none p2) pos) (lV fa fl fu) :=
 PE.weak (K2 (K5.or (NQ.or (Lm.or LZ))) ha hl hu) fun σ H Q ⟨env,st,ρ,re,rs,h⟩=>⟨env,st,ρ,re,rs,h.then λah H1 x ae e1 s1 h1 v rv=>⟨env,ae,ah,re.ext e1,s1,h1.then λax H2 l aG e2 s2 h2 =>
  ⟨env,aG,ax,(re.ext e1).ext e2,s2,h2.then λao H3 u a8 e3 s3 h3=>by
  have rv:=R.ext e3 x (R.ext e2 x rv)
  cases x with
  |tup xs =>
   obtain ⟨p,vs,rfl,k1,k2⟩:=rv
   by_cases hw:HT.sIx vs.length 0 l=0/\HT.sIx vs.length vs.length u=vs.length
   ·refine .inr (.inl ⟨p,vs,rfl,k1,hw,Out.now (x:=PV.tup (cX xs l u)) h3 s3 _ ⟨p,vs,rfl,k1,?_⟩⟩)
    have:cX xs l u=xs:=by
     unfold cX
     rw [k2.len,hw.1,hw.2]
     simp [<-k2.len]
    rw [this];exact k2
   ·exact .inl ⟨p,vs,rfl,k1,hw,λq hq=>h3 ao _ (Ext.new hq) (s3.new hq) _ (R.tup_of (k2.cut l u) hq)⟩
  |frl xs =>
   obtain ⟨p,vs,rfl,k1,k2⟩:=rv
   exact .inr (.inr (.inl ⟨p,vs,rfl,k1.sq,λq hq=>Out.newList (xs:=cX xs l u) h3 s3 (k2.cut l u) hq⟩))
  |ref n =>
   obtain ⟨p,rfl,hp⟩:=rv
   obtain ⟨xs,k0,h3⟩:=jE h3
   obtain ⟨vs,k1,k2⟩:=s3.addr k0 hp
   exact .inr (.inr (.inl ⟨p,vs,rfl,ba.of k1,λq hq=>Out.newList (xs:=cX xs l u) h3 s3 (k2.cut l u) hq⟩))
  |str z =>
   cases rv
   obtain ⟨k0,h3⟩:=Out.ifp h3
   exact .inr (.inr (.inr ⟨z,rfl,jt k0,h3.now s3 _ rfl⟩))
  |_=>exact h3.elim⟩⟩⟩
def w_ (K:Frag) (mg:Ab) (r:List V->Hp->VK->Prop) (op:An):Prop:=∀ρ H st xs vs (Q:VK) (E:XK),a4 K mg ρ H st->Rs K mg ρ H xs vs->Out K mg ρ H (op xs st) (gV K mg Q) E->r vs H Q
def cA (X:Cx) (f:Value) (op:An):Prop:=∃r,bV X f r/\w_ X.K X.mg r op
def zq (op:An) (fs:Aj):Ak:=λenv st=>(fs env st).bind op
def yH {x:Str} {id:String} {op:An} {p:Pos} (h:cA X (.builtin id) op) (hm:X.mg x=none) (hv:bootBuiltins x=some (.builtin id)) (ha:MA X Er (e::es) fs) (hg:Gl X x:=by rfl) (hn:x ≠ "__name__" := by decide) (dg:(x==("__debug__" : Str))=false:=by decide)
  (he:starEach (e::es) X.env=(false,eval e X.env)::starEach es X.env:=by rfl) (bT:(backTo pos (starEach es X.env)).any (·.1)=false:=by rfl):ME X Er (.Call (.Name x p) (e::es) [] pos) (zq op fs):=by
 obtain ⟨r,h1,h2⟩:=h
 exact PE.weak (KL h1 hg hm hv ha hn dg he bT) fun σ H Q ⟨env,st,ρ,re,rs,h⟩=>⟨env,st,ρ,re,rs,h.then λah H1 xs ae e1 s1 k vs rv=>h2 ah H1 ae xs vs Q Er s1 rv k⟩
def jh {x:Str} {T:String} {op:An} {p:Pos} (h:cA X (.type T) op) (hm:X.mg x=none) (hv:bootBuiltins x=some (.type T)) (ha:MA X Er (e::es) fs) (hg:Gl X x:=by rfl) (hn:x ≠ "__name__" := by decide) (dg:(x==("__debug__" : Str))=false:=by decide)
  (he:starEach (e::es) X.env=(false,eval e X.env)::starEach es X.env:=by rfl) (bT:(backTo pos (starEach es X.env)).any (·.1)=false:=by rfl):ME X Er (.Call (.Name x p) (e::es) [] pos) (zq op fs):=by
 obtain ⟨r,h1,h2⟩:=h
 exact PE.weak (KN h1 hg hm hv ha hn dg he bT) fun σ H Q ⟨env,st,ρ,re,rs,h⟩=>⟨env,st,ρ,re,rs,h.then λah H1 xs ae e1 s1 k vs rv=>h2 ah H1 ae xs vs Q Er s1 rv k⟩
def kG {x:Str} {n:String} (hm:X.mg x=none) (hv:bootBuiltins x=some (.type n)) (hg:Gl X x:=by rfl) (hn:x ≠ "__name__" := by decide) (hd:(x==("__debug__" : Str))=false:=by decide):ME X Er (.Name x pos) (mC (.ty n)) :=
 nP (IU (v:=.ty n) hg hm hv rfl hn hd) λ_ _=>rfl
def Rs.one {ρ:Af}{H:Hp}{x:PV}{vs:List V}(r:Rs K mg ρ H [x] vs):∃v,vs=[v]/\R K mg ρ H x v:=by
 obtain ⟨v,r',rfl,h,h'⟩:=r
 cases h'
 exact ⟨v,rfl,h⟩
def Rs.two {ρ:Af}{H:Hp}{x y:PV}{vs:List V}(r:Rs K mg ρ H [x,y] vs):∃v w,vs=[v,w]/\R K mg ρ H x v/\R K mg ρ H y w:=by
 obtain ⟨v,r',rfl,h,h'⟩:=r
 obtain ⟨w,rfl,h2⟩:=Rs.one h'
 exact ⟨v,w,rfl,h,h2⟩
def pP:An
 |[.tup xs],st=>.ok (.int xs.length) st
 |[.frl xs],st=>.ok (.int xs.length) st
 |[.str z],st=>if z.length<=lim then .ok (.int z.length) st else .stuck
 |[.ref n],st=>yq st n λxs=>.ok (.int xs.length) st
 |_,_=>.stuck
def NR:cA X (.builtin "len") pP:=⟨_,Kc,fun ρ H st xs vs Q E s r h=>by
 match xs,r,h with
 |[.tup ys],r,h =>
  obtain ⟨v,rfl,p,ws,rfl,h1,h2⟩:=Rs.one r
  exact ⟨_,ws.length,rfl,.inr ⟨ws,h1,rfl⟩,by rw [<-h2.len];exact Out.now (x:=PV.int ys.length) h s _ rfl⟩
 |[.frl ys],r,h =>
  obtain ⟨v,rfl,p,ws,rfl,h1,h2⟩:=Rs.one r
  exact ⟨_,ws.length,rfl,.inl ⟨ws,h1.sq,rfl⟩,by rw [<-h2.len];exact Out.now (x:=PV.int ys.length) h s _ rfl⟩
 |[.str z],r,h =>
  obtain ⟨v,rfl,rfl⟩:=Rs.one r
  obtain ⟨c,h⟩:=Out.ifp h
  exact ⟨_,z.length,rfl,⟨jt c,rfl⟩,h.now s _ rfl⟩
 |[.ref n],r,h =>
  obtain ⟨v,rfl,p,rfl,hp⟩:=Rs.one r
  obtain ⟨ys,e,h⟩:=jE h
  obtain ⟨ws,h1,h2⟩:=s.addr e hp
  exact ⟨_,ws.length,rfl,.inl ⟨ws,ba.of h1,rfl⟩,by rw [<-h2.len];exact h.now s _ rfl⟩
 |[],r,h=>exact h.elim
 |[.non],r,h=>exact h.elim
 |[.bl _],r,h=>exact h.elim
 |[.int _],r,h=>exact h.elim
 |[.ty _],r,h=>exact h.elim
 |[.fn _],r,h=>exact h.elim
 |[.kd _ _],r,h=>exact h.elim
 |[.exo _ _ _],r,h=>exact h.elim
 |x::y::r',r,h=>cases x<;>exact h.elim⟩
def pQ:An
 |[.tup xs],st=>.ok (.ref st.length) (st++[.lst xs])
 |[.frl xs],st=>.ok (.ref st.length) (st++[.lst xs])
 |[.ref n],st=>yq st n λxs=>.ok (.ref st.length) (st++[.lst xs])
 |_,_=>.stuck
def NS:cA X (.type "list") pQ:=⟨_,Ln,fun ρ H st xs vs Q E s r h=>by
 match xs,r,h with
 |[.tup ys],r,h =>
  obtain ⟨v,rfl,p,ws,rfl,h1,h2⟩:=Rs.one r
  exact ⟨p,ws,rfl,.inr h1,λl hl=>Out.newList (xs:=ys) h s h2 hl⟩
 |[.frl ys],r,h =>
  obtain ⟨v,rfl,p,ws,rfl,h1,h2⟩:=Rs.one r
  exact ⟨p,ws,rfl,.inl h1.sq,λl hl=>Out.newList (xs:=ys) h s h2 hl⟩
 |[.ref n],r,h =>
  obtain ⟨v,rfl,p,rfl,hp⟩:=Rs.one r
  obtain ⟨ys,e,h⟩:=jE h
  obtain ⟨ws,h1,h2⟩:=s.addr e hp
  exact ⟨p,ws,rfl,.inl (ba.of h1),λl hl=>Out.newList (xs:=ys) h s h2 hl⟩
 |[],r,h=>exact h.elim
 |[.non],r,h=>exact h.elim
 |[.bl _],r,h=>exact h.elim
 |[.int _],r,h=>exact h.elim
 |[.str _],r,h=>exact h.elim
 |[.ty _],r,h=>exact h.elim
 |[.fn _],r,h=>exact h.elim
 |[.kd _ _],r,h=>exact h.elim
 |[.exo _ _ _],r,h=>exact h.elim
 |x::y::r',r,h=>cases x<;>exact h.elim⟩
def jF:An
 |[.tup xs],st=>.ok (.tup xs) st
 |[.frl xs],st=>.ok (.tup xs) st
 |[.ref n],st=>yq st n λxs=>.ok (.tup xs) st
 |_,_=>.stuck
def j9:cA X (.type "tuple") jF:=⟨_,Lo,fun ρ H st xs vs Q E s r h=>by
 match xs,r,h with
 |[.tup ys],r,h =>
  obtain ⟨v,rfl,p,ws,rfl,h1,h2⟩:=Rs.one r
  exact ⟨p,ws,rfl,.inr ⟨h1,Out.now (x:=PV.tup ys) h s _ ⟨p,ws,rfl,h1,h2⟩⟩⟩
 |[.frl ys],r,h =>
  obtain ⟨v,rfl,p,ws,rfl,h1,h2⟩:=Rs.one r
  exact ⟨p,ws,rfl,.inl ⟨h1.sq,λl hl=>h ρ _ (Ext.new hl) (s.new hl) _ (R.tup_of h2 hl)⟩⟩
 |[.ref n],r,h =>
  obtain ⟨v,rfl,p,rfl,hp⟩:=Rs.one r
  obtain ⟨ys,e,h⟩:=jE h
  obtain ⟨ws,h1,h2⟩:=s.addr e hp
  exact ⟨p,ws,rfl,.inl ⟨ba.of h1,λl hl=>h ρ _ (Ext.new hl) (s.new hl) _ (R.tup_of h2 hl)⟩⟩
 |[],r,h=>exact h.elim
 |[.non],r,h=>exact h.elim
 |[.bl _],r,h=>exact h.elim
 |[.int _],r,h=>exact h.elim
 |[.str _],r,h=>exact h.elim
 |[.ty _],r,h=>exact h.elim
 |[.fn _],r,h=>exact h.elim
 |[.kd _ _],r,h=>exact h.elim
 |[.exo _ _ _],r,h=>exact h.elim
 |x::y::r',r,h=>cases x<;>exact h.elim⟩
def pR (T n:String):Option Bool :=
 if T = "int" then (if n = "int" then some true else if n = "bool" \/ n = "str" \/ n = "tuple" \/ n = "dict" \/ n = "list" then some false else none)
 else if T = "bool" then (if n = "int" \/ n = "bool" then some true else if n = "str" \/ n = "tuple" \/ n = "dict" \/ n = "list" then some false else none)
 else if T = "str" then (if n = "str" then some true else if n = "int" \/ n = "bool" \/ n = "tuple" \/ n = "dict" \/ n = "list" then some false else none)
 else if T = "tuple" then (if n = "tuple" then some true else if n = "int" \/ n = "bool" \/ n = "str" \/ n = "dict" \/ n = "list" then some false else none)
 else if T = "list" then (if n = "list" then some true else if n = "int" \/ n = "bool" \/ n = "str" \/ n = "dict" \/ n = "tuple" then some false else none)
 else if T = "dict" then (if n = "dict" then some true else if n = "int" \/ n = "bool" \/ n = "str" \/ n = "list" \/ n = "tuple" then some false else none)
 else if T = "NoneType" then (if n = "int" \/ n = "bool" \/ n = "str" \/ n = "list" \/ n = "tuple" \/ n = "dict" then some false else none)
 else none
def NT (K:Frag) {T n:String}{b:Bool}(h:pR T n=some b):PySem.W.kitOne K (.type T) (.type n)=some b:=by
 unfold pR at h
 split at h
 ·rename_i e;subst e
  split at h
  ·rename_i e;subst e;cases h;first|rfl|kernel_rfl
  ·split at h
   ·rename_i e;cases h;rcases e with e|e|e|e|e<;>subst e<;>first|rfl|kernel_rfl
   ·cases h
 ·split at h
  ·rename_i e;subst e
   split at h
   ·rename_i e;cases h;rcases e with e|e<;>subst e<;>first|rfl|kernel_rfl
   ·split at h
    ·rename_i e;cases h;rcases e with e|e|e|e<;>subst e<;>first|rfl|kernel_rfl
    ·cases h
  ·split at h
   ·rename_i e;subst e
    split at h
    ·rename_i e;subst e;cases h;first|rfl|kernel_rfl
    ·split at h
     ·rename_i e;cases h;rcases e with e|e|e|e|e<;>subst e<;>first|rfl|kernel_rfl
     ·cases h
   ·split at h
    ·rename_i e;subst e
     split at h
     ·rename_i e;subst e;cases h;first|rfl|kernel_rfl
     ·split at h
      ·rename_i e;cases h;rcases e with e|e|e|e|e<;>subst e<;>first|rfl|kernel_rfl
      ·cases h
    ·split at h
     ·rename_i e;subst e
      split at h
      ·rename_i e;subst e;cases h;first|rfl|kernel_rfl
      ·split at h
       ·rename_i e;cases h;rcases e with e|e|e|e|e<;>subst e<;>first|rfl|kernel_rfl
       ·cases h
     ·split at h
      ·rename_i e;subst e
       split at h
       ·rename_i e;subst e;cases h;first|rfl|kernel_rfl
       ·split at h
        ·rename_i e;cases h;rcases e with e|e|e|e|e<;>subst e<;>first|rfl|kernel_rfl
        ·cases h
      ·split at h
       ·rename_i e;subst e
        split at h
        ·rename_i e;cases h;rcases e with e|e|e|e|e|e<;>subst e<;>first|rfl|kernel_rfl
        ·cases h
       ·cases h
end
def gL (K:Frag) (mg:Ab) (m:An):Sp:=λvs H Q E=>∃xs st ρ,Rs K mg ρ H xs vs/\a4 K mg ρ H st/\Out K mg ρ H (m xs st) (gV K mg Q) E
section
variable (P:Program) (w:World) (K:Frag) (mg:Ab) (base:Heap)
def a7 (x:Str) (k:Nat) (m:An):Prop:=∃f fd ps,mg x=some (.ref f)/\keepIn K (.ref f)=true/\Binds K fd ps []/\bz P w K mg base (cv P w) k f fd ps (gL K mg m)
def cY (c name:Str) (k:Nat) (m:An):Prop:=∃C f fd ps,mg c=some (.ref C)/\eh K C/\Meth K C name f/\Binds K fd ps []/\bz P w K mg base (cv P w) k f fd ps (gL K mg m)
def pS (c:Str) (k:Nat) (m:An):Prop:=∃C f fd ps,mg c=some (.ref C)/\Mk K C f/\Binds K fd ps []/\bz P w K mg base (cv P w) k f fd ps (gL K mg m)
def NU (c fld:Str):Prop:=∃C f fd,mg c=some (.ref C)/\f7 K C f/\bz P w K mg base (cv P w) 1 f fd ["self", fld] (MB C fld)/\Binds K fd ["self", fld] []
end
section
variable {X:Cx} {Er:XK} {K:Frag} {mg:Ab} {a b c e o:Expr} {es:List Expr} {pos p apos:Pos} {fa fc fo:Ak} {fs:Aj} {k:Nat} {x:Str} {m:An}
def zN (C:a7 X.prog X.w X.K X.mg X.base x k m) (hr:bb k X.A) (ht:w9 X Er) (ha:MA X Er (e::es) fs) (hg:Gl X x:=by rfl) (dg:(x==("__debug__" : Str))=false:=by decide)
  (he:starEach (e::es) X.env=(false,eval e X.env)::starEach es X.env:=by rfl) (bT:(backTo pos (starEach es X.env)).any (·.1)=false:=by rfl):ME X Er (.Call (.Name x p) (e::es) [] pos) (zq m fs):=by
 obtain ⟨f,fd,ps,hm,hk,hb,F⟩:=C
 exact PE.weak (KG F hr hg hm hk hb .nil (rQ ht) ha dg he bT) fun σ H Q ⟨env,st,ρ,re,rs,h⟩=>⟨env,st,ρ,re,rs,h.then λah H1 xs ae e1 s1 k vs rv=>by
  show gL X.K X.mg m (vs++[]) H1 Q Er
  rw [List.append_nil]
  exact ⟨xs,ae,ah,rv,s1,k⟩⟩
theorem lW {ρ:Af}{H:Hp}{f:Str}:∀{ks:Ae}{xs:Aq}{vs:List V}{x:PV},Rs K mg ρ H xs vs->(ks.zip xs).lookup f=some x->∃v,(ks.zip vs).lookup f=some v/\R K mg ρ H x v
 |[],_,_,_,_,h=>by simp at h
 |k::ks,[],_,_,_,h=>by simp at h
 |k::ks,y::xs,_,x,r,h=>by
  obtain ⟨v,r',rfl,h1,h2⟩:=r
  simp only [List.zip_cons_cons,wL] at h ⊢
  split at h
  ·cases h;exact ⟨v,rfl,h1⟩
  ·exact lW h2 h
theorem nR {f:Str}{β:Type}:∀{ks:Ae}{vs:List β},f∉ks->(ks.zip vs).lookup f=none
 |[],_,_=>by simp
 |k::ks,[],_=>by simp
 |k::ks,v::vs,h=>by
  simp only [yE,not_or] at h
  simp only [List.zip_cons_cons,wL]
  have:(f==k)=false:=by simpa using h.1
  rw [this]
  exact nR h.2
def DN (X:Cx) (name:Str) (k:Nat) (E:XK) (ta:TE) (t:TA):TE:=fun σ H Q=>ta σ H λx H1=>∃a C dx fs f fd ps sp,x=.ref a/\H1 a=some (.ins C dx fs)/\fs.lookup name=none/\eh X.K C/\Meth X.K C name f/\Binds X.K fd ps []/\bz X.prog X.w X.K X.mg X.base (cv X.prog X.w) k f fd ps sp /\
 t σ H1 λvs H2=>sp (x::vs) H2 Q E
def NV {pl:Sem Bool}{name:Str}{ta:TE}{t:TA}{E:XK}(he:PE X o ta) (hr:bb k X.A) (hx:Passes (cv X.prog X.w) X E) (ha:PA X (e::es) t)
  (bx:starEach (e::es) X.env=(false,eval e X.env)::starEach es X.env:=by rfl) (bT:(backTo pos (starEach es X.env)).any (·.1)=false:=by rfl)
  (ht:eval (.Call (.Attribute o name apos) (e::es) [] pos) X.env=(do
   let ov <-eval o X.env
   standAt apos.atName
   let (f,first) <-holding [ov] (getMethod ov name pl)
   callWith pos f first (backTo pos (starEach (e::es) X.env)) (backToKw pos (keywordEach [] X.env))):=by rfl) :
  PE X (.Call (.Attribute o name apos) (e::es) [] pos) (DN X name k E ta t):=by
 intro pins s σ H Q I h
 refine PySem.W.methodCall_KW (pl:=pl) (aX (he pins s σ H _ I h) λu s1 gg=>?_) ht
 obtain ⟨x,H1,I1,rx,a,C,dx,fs,f,fd,ps,sp,ex,ea,l,c,hm,hb,F,q⟩:=gg
 subst ex
 obtain rfl:u=Value.ref a:=rx
 refine ve I1 ea c hm l ?_
 refine PySem.W.callWith_K (first:=[.ref a]) (h₀:=X.base) I.ok.mod.kin hm.kp (aX (ha pos pins s1 σ H1 _ I1 q) λus s2 ⟨vs,H2,I2,r,q2⟩=>⟨I2.kIn,?_⟩) bx bT
 exact vf (us:=.ref a::us) (vs:=.ref a::vs) F hr hb .nil hx I2 (.cons rfl r) (by rw [List.append_nil];exact q2)
def NW {pl:Sem Bool}{name:Str}{ta:TE}{E:XK}(he:PE X o ta) (hr:bb k X.A) (hx:Passes (cv X.prog X.w) X E)
  (ht:eval (.Call (.Attribute o name apos) [] [] pos) X.env=(do
   let ov <-eval o X.env
   standAt apos.atName
   let (f,first) <-holding [ov] (getMethod ov name pl)
   callWith pos f first (backTo pos (starEach [] X.env)) (backToKw pos (keywordEach [] X.env))):=by rfl) :
  PE X (.Call (.Attribute o name apos) [] [] pos) (DN X name k E ta Ca):=by
 intro pins s σ H Q I h
 refine PySem.W.methodCall_KW (pl:=pl) (aX (he pins s σ H _ I h) λu s1 gg=>?_) ht
 obtain ⟨x,H1,I1,rx,a,C,dx,fs,f,fd,ps,sp,ex,ea,l,c,hm,hb,F,q⟩:=gg
 subst ex
 obtain rfl:u=Value.ref a:=rx
 refine ve I1 ea c hm l ?_
 exact PySem.W.callWith_K0 (first:=[.ref a]) I1.kIn hm.kp (vf (us:=[.ref a]) (vs:=[.ref a]) F hr hb .nil hx I1 (.cons rfl .nil) (by rw [List.append_nil];exact q))
def fP (name:Str) (tab:Str->Option (An)) (o:PV) (st:aa) (k:Nat->(An)->Res PV):Res PV:=match o with
 | .ref n=>jA st n λc ks _=>if name∈ks then .stuck else match tab c with
  |some m=>k n m
  |none=>.stuck
 |_=>.stuck
def jG (name:Str) (tab:Str->Option (An)) (fo:Ak) (fs:Aj):Ak:=λenv st=>(fo env st).bind λo ae=>fP name tab o ae λn m=>(fs env ae).bind λys aG=>m (.ref n::ys) aG
def xb {name:Str}{tab:Str->Option (An)}{o:PV}{st:aa}{kk:Nat->(An)->Res PV}{ρ:Af}{H:Hp}{good}(h:Out K mg ρ H (fP name tab o st kk) good Er) :
  ∃n c ks xs m,o=.ref n/\st[n]?=some (.ins c ks xs)/\name∉ks/\tab c=some m/\Out K mg ρ H (kk n m) good Er:=by
 cases o with
 |ref n =>
  obtain ⟨c,ks,xs,e,h⟩:=DC h
  split at h
  ·exact h.elim
  ·rename_i hn
   cases hc:tab c with
   |none=>rw [hc] at h;exact h.elim
   |some m=>rw [hc] at h;exact ⟨n,c,ks,xs,m,rfl,e,hn,hc,h⟩
 |_=>exact h.elim
def sg {pl:Sem Bool}{name:Str}{tab:Str->Option (An)}(hT:∀c m,tab c=some m->cY X.prog X.w X.K X.mg X.base c name k m) (ho:ME X Er o fo) (hr:bb k X.A) (ht:w9 X Er) (ha:MA X Er (e::es) fs)
  (bx:starEach (e::es) X.env=(false,eval e X.env)::starEach es X.env:=by rfl) (bT:(backTo pos (starEach es X.env)).any (·.1)=false:=by rfl)
  (pU:eval (.Call (.Attribute o name apos) (e::es) [] pos) X.env=(do
   let ov <-eval o X.env
   standAt apos.atName
   let (f,first) <-holding [ov] (getMethod ov name pl)
   callWith pos f first (backTo pos (starEach (e::es) X.env)) (backToKw pos (keywordEach [] X.env))):=by rfl) :
  ME X Er (.Call (.Attribute o name apos) (e::es) [] pos) (jG name tab fo fs) :=
 PE.weak (NV (pl:=pl) ho hr (rQ ht) ha bx bT pU) fun σ H Q ⟨env,st,ρ,re,rs,h⟩=>⟨env,st,ρ,re,rs,h.then λah H1 x ae e1 s1 h1 v rv=>by
  obtain ⟨n,c,ks,xs,m,rfl,hn,hk,hc,h1⟩:=xb h1
  obtain ⟨C,f,fd,ps,hC,cl,hm,hb,F⟩:=hT c m hc
  obtain ⟨p,rfl,hp⟩:=rv
  obtain ⟨C',dx,vs,hC',hH,hR,hl⟩:=s1.addr hn hp
  rw [hC] at hC'
  cases hC'
  exact ⟨p,C,dx,_,f,fd,ps,_,rfl,hH,nR hk,cl,hm,hb,F,env,ae,ah,re.ext e1,s1,Out.then h1 λax H2 ys aG e2 s2 h2 ws rws=>⟨.ref n::ys,aG,ax,⟨_,_,rfl,⟨p,rfl,e2.get hp⟩,rws⟩,s2,h2⟩⟩⟩
def NX {pl:Sem Bool}{name:Str}{tab:Str->Option (An)}(hT:∀c m,tab c=some m->cY X.prog X.w X.K X.mg X.base c name k m) (ho:ME X Er o fo) (hr:bb k X.A) (ht:w9 X Er)
  (pU:eval (.Call (.Attribute o name apos) [] [] pos) X.env=(do
   let ov <-eval o X.env
   standAt apos.atName
   let (f,first) <-holding [ov] (getMethod ov name pl)
   callWith pos f first (backTo pos (starEach [] X.env)) (backToKw pos (keywordEach [] X.env))):=by rfl) :
  ME X Er (.Call (.Attribute o name apos) [] [] pos) (jG name tab fo zj) :=
 PE.weak (NW (pl:=pl) ho hr (rQ ht) pU) fun σ H Q ⟨env,st,ρ,re,rs,h⟩=>⟨env,st,ρ,re,rs,h.then λah H1 x ae e1 s1 h1 v rv=>by
  obtain ⟨n,c,ks,xs,m,rfl,hn,hk,hc,h1⟩:=xb h1
  obtain ⟨C,f,fd,ps,hC,cl,hm,hb,F⟩:=hT c m hc
  obtain ⟨p,rfl,hp⟩:=rv
  obtain ⟨C',dx,vs,hC',hH,hR,hl⟩:=s1.addr hn hp
  rw [hC] at hC'
  cases hC'
  exact ⟨p,C,dx,_,f,fd,ps,_,rfl,hH,nR hk,cl,hm,hb,F,⟨[.ref n],ae,ah,⟨_,_,rfl,⟨p,rfl,hp⟩,rfl⟩,s1,h1⟩⟩⟩
def e_ (c:Str) (m:An) (ys:Aq):Mo PV:=λst=>(m (.ref st.length::ys) (st++[.ins c [] []])).bind λr aG=>if cW r=true then .ok (.ref st.length) aG else .stuck
def NY {x:PV}(h:cW x=true):x=.non:=by cases x<;>first|rfl|cases h
def NZ {cn:Str}{C f:Addr}{ρ:Af}{H:Hp}{st:aa}{ys:Aq}{vs:List V}{Q:VK}(hC:mg cn=some (.ref C)) (s:a4 K mg ρ H st) (r:Rs K mg ρ H ys vs) (h:Out K mg ρ H (e_ cn m ys st) (gV K mg Q) Er) :
  ∀x dx,H x=none->H dx=none->dx≠x->gL K mg m (.ref x::vs) (upd (upd H dx (.own x)) x (.ins C dx [])) (λv H2=>v=.non/\Q (.ref x) H2) Er:=λx dx hx sh ne=>by
 have nS:upd H dx (.own x) x=none:=by rw [yf (yM ne)];exact hx
 have s1:=s.new (o:=.own x) sh
 have e1:Ext ρ H ρ (upd H dx (.own x)):=Ext.new sh
 have e2:Ext ρ H (ρ++[x]) (upd (upd H dx (.own x)) x (.ins C dx [])):=e1.trans (Ext.push nS)
 have s2:a4 K mg (ρ++[x]) (upd (upd H dx (.own x)) x (.ins C dx [])) (st++[.ins cn [] []]):=s1.push nS ⟨C,dx,[],hC,yU,rfl,rfl⟩
 have gx:(ρ++[x])[st.length]?=some x:=by rw [<-s.len];simp
 refine ⟨.ref st.length::ys,_,ρ++[x],⟨_,_,rfl,⟨x,rfl,gx⟩,Rs.ext e2 ys r⟩,s2,Out.then (Out.ext h e2) λao H3 r3 a8 e3 s3 h3 v rv=>?_⟩
 obtain ⟨hn,h3⟩:=Out.ifp h3
 obtain rfl:=NY hn
 exact ⟨rv,h3.now s3 _ ⟨x,rfl,e3.get gx⟩⟩
def N0 {cn:Str} (C:pS X.prog X.w X.K X.mg X.base cn k m) (hr:bb (k+1) X.A) (ht:w9 X Er) (ha:MA X Er (e::es) fs) (hg:Gl X cn:=by rfl) (dg:(cn==("__debug__" : Str))=false:=by decide)
  (he:starEach (e::es) X.env=(false,eval e X.env)::starEach es X.env:=by rfl) (bT:(backTo pos (starEach es X.env)).any (·.1)=false:=by rfl):ME X Er (.Call (.Name cn p) (e::es) [] pos) (zq (e_ cn m) fs):=by
 obtain ⟨C,f,fd,ps,hm,M,hb,F⟩:=C
 exact PE.weak (KI M F hr hg hm hb .nil (rQ ht) ha dg he bT) fun σ H Q ⟨env,st,ρ,re,rs,h⟩=>⟨env,st,ρ,re,rs,h.then λah H1 xs ae e1 s1 k vs rv x dx hx sh ne=>by
  rw [List.append_nil]
  exact NZ (f:=f) hm s1 rv k x dx hx sh ne⟩
def bX (f:Str) (ins exc:Str->Bool):PV->Mo PV
 |.ref n,st=>jA st n λc ks xs=>if ins c=true then b_ ((ks.zip xs).lookup f) st else .stuck
 |.exo c ks xs,st=>if exc c=true then b_ ((ks.zip xs).lookup f) st else .stuck
 |_,_=>.stuck
structure FldF (K:Frag) (mg:Ab) (f:Str) (ins exc:Str->Bool):Prop where
 i:∀c,ins c=true->∃C,mg c=some (.ref C)/\eh K C/\c5 K C f
 x:∀c,exc c=true->∃C,mg c=some (.ref C)/\f_ K C/\hasDictIn K C=true/\findIn K (.ref C) f=some none
def N1 (K:Frag) (ta:TE) (f:Str):TE:=fun σ H Q=>ta σ H λx H1=>(∃a C dx fs v,x=.ref a/\H1 a=some (.ins C dx fs)/\eh K C/\c5 K C f/\fs.lookup f=some v/\Q v H1) \/
 ∃a C d fs v,x=.ref a/\H1 a=some (f9 C (some d) a)/\H1 d=some (.xd fs)/\f_ K C/\hasDictIn K C=true/\findIn K (.ref C) f=some none/\fs.lookup f=some v/\Q v H1
def N9 {f:Str}{ta:TE}(he:PE X e ta) (hb:attributeBase e f X.env (eval e X.env)=eval e X.env):PE X (.Attribute e f pos) (N1 X.K ta f):=by
 intro pins s σ H Q I h
 refine Ko hb (aX (he pins s σ H _ I h) λu s1 ⟨x,H1,I1,rx,h1⟩=>?_)
 rcases h1 with ⟨a,C,dx,fs,v,ex,ea,c,n,l,q⟩|⟨a,C,dx,fs,v,ex,ea,ed,g,hh,no,l,q⟩
 ·subst ex
  obtain rfl:u=Value.ref a:=rx
  exact Kl I1 ea c n l λu' s2 I2 ru=>⟨v,H1,I2,ru,q⟩
 ·subst ex
  obtain rfl:u=Value.ref a:=rx
  exact MP I1 ea ed g hh no l λu' s2 I2 ru=>⟨v,H1,I2,ru,q⟩
def N_ {f:Str}{ins exc:Str->Bool}(F:FldF X.K X.mg f ins exc) (he:ME X Er e fa) (hb:attributeBase e f X.env (eval e X.env)=eval e X.env:=by rfl):ME X Er (.Attribute e f pos) (yQ (bX f ins exc) fa) :=
 PE.weak (N9 he hb) fun σ H Q ⟨env,st,ρ,re,rs,h⟩=>⟨env,st,ρ,re,rs,h.then λah H1 x ae e1 s1 h1 v rv=>by
  cases x with
  |ref n =>
   obtain ⟨c,ks,xs,hn,h1⟩:=DC h1
   obtain ⟨hc,h1⟩:=Out.ifp h1
   obtain ⟨y,hy,h1⟩:=iG h1
   obtain ⟨p,rfl,hp⟩:=rv
   obtain ⟨C',dx,vs,hC',hH,hR,hl⟩:=s1.addr hn hp
   obtain ⟨C,hC,cl,na⟩:=F.i c hc
   rw [hC] at hC'
   cases hC'
   obtain ⟨v,hv,rv⟩:=lW hR hy
   exact .inl ⟨p,_,dx,_,v,rfl,hH,cl,na,hv,h1.now s1 _ rv⟩
  |exo c ks xs =>
   obtain ⟨hc,h1⟩:=Out.ifp h1
   obtain ⟨y,hy,h1⟩:=iG h1
   obtain ⟨a,C',d,vs,rfl,hC',hH,hd,hR,hl⟩:=rv
   obtain ⟨C,hC,g,hh,no⟩:=F.x c hc
   rw [hC] at hC'
   cases hC'
   obtain ⟨v,hv,rv⟩:=lW hR hy
   exact .inr ⟨a,_,d,_,v,rfl,hH,hd,g,hh,no,hv,h1.now s1 _ rv⟩
  |_=>exact h1.elim⟩
def iH:Option SO->Option (String ⊕ (Bool×Str))
 |some (.lst _)=>some (.inl "list")
 |some (.dic _ _)=>some (.inl "dict")
 |some (.ins c _ _)=>some (.inr (false,c))
 |some (.fdi _ _)=>none
 |some (.dit _ _)=>none
 |none=>none
def kH (st:aa):PV->Option (String ⊕ (Bool×Str))
 |.non=>some (.inl "NoneType")
 |.bl _=>some (.inl "bool")
 |.int _=>some (.inl "int")
 |.str _=>some (.inl "str")
 |.tup _=>some (.inl "tuple")
 |.ref n=>iH st[n]?
 |.exo c _ _=>some (.inr (true,c))
 |_=>none
def gg (o:Option Bool):Mo PV:=λst=>match o with
 |some b=>.ok (.bl b) st
 |none=>.stuck
def si {ρ:Af}{H:Hp}{o:Option Bool}{st:aa}{good}(h:Out K mg ρ H (gg o st) good Er):∃b,o=some b/\Out K mg ρ H (.ok (.bl b) st) good Er:=by
 cases o with
 |some x=>exact ⟨x,rfl,h⟩
 |none=>exact h.elim
structure IsT where
 isx:Str->Bool
 sub:Str->Str->Option Bool
 subT:Str->String->Option Bool
 tyC:String->Str->Option Bool
def pV (t:IsT) (st:aa):PV->Option (String ⊕ (Bool×Str))->Mo PV
 |.ty n,some (.inl T),st=>gg (pR T n) st
 |.ty n,some (.inr (f,c)),st=>if t.isx c=f then gg (t.subT c n) st else .stuck
 |.fn B,some (.inl T),st=>gg (t.tyC T B) st
 |.fn B,some (.inr (f,c)),st=>if t.isx c=f then gg (t.sub c B) st else .stuck
 |_,_,_=>.stuck
def gh (t:IsT):An
 |[x,y],st=>pV t st y (kH st x) st
 |_,_=>.stuck
structure uL (K:Frag) (C:Addr):Prop where
 cl:eh K C
 ha:findIn K (.ref C) "__class__" = some (some (.builtin "object.__class__"))
 hn:specialIn K (.builtin "object.__class__") "__get__" = some (some (.builtin "getset_descriptor.__get__"))
 tk:takesIn K (.builtin "object.__class__")=some true
 hm:mroIn K C (.type "object")=some true
structure IsF (K:Frag) (mg:Ab) (t:IsT):Prop where
 s:∀c B b,t.sub c B=some b->∃C D,mg c=some (.ref C)/\mg B=some (.ref D)/\kitOne K (.ref C) (.ref D)=some b
 tt:∀c n b,t.subT c n=some b->∃C,mg c=some (.ref C)/\kitOne K (.ref C) (.type n)=some b
 u:∀T B b,t.tyC T B=some b->∃D,mg B=some (.ref D)/\kitOne K (.type T) (.ref D)=some b
 x:∀c C,t.isx c=true->mg c=some (.ref C)->((∃B b,t.sub c B=some b)\/∃n b,t.subT c n=some b)->mX K C
 i:∀c C,t.isx c=false->mg c=some (.ref C)->((∃B b,t.sub c B=some b)\/∃n b,t.subT c n=some b)->uL K C
inductive lX (K:Frag) (H:Hp):V->Value->Prop where
 |of {v:V} {t:Value} (h:dj K H v t):lX K H v t
 |tup {a:Addr} {vs:List V} (h:bt K H a vs):lX K H (.ref a) (.type "tuple")
 |exc {a C d:Addr} {fs:List (Str×V)} (ha:H a=some (f9 C (some d) a)) (hd:H d=some (.xd fs)) (k:mX K C):lX K H (.ref a) (.ref C)
def Oa {pins:Ac}{σ:L2.St}{H:Hp}{s:Shared}{v:V}{u t c:Value}{b:Bool}{Q:Aa}{A:Around}{E:Aa}(I:Inv X pins σ H s) (r:RelV v u) (ty:lX X.K H v t) (e:kitOne X.K t c=some b) (h:∀tk,Q (.bool b) { s with toks:=tk }) :
  wpAny (model X.prog X.w) A (call (.builtin "isinstance") [u,c]) Q E s:=by
 cases ty with
 |of ty=>exact Kq I r ty e h
 |@tup a vs hq =>
  obtain rfl:u=Value.ref a:=r
  obtain ⟨its,_,p,_⟩:=I.tuple hq
  obtain ⟨o,h1,h2,_⟩:=p
  exact PySem.W.kia_one PySem.W.kitx_tuple I.kIn ⟨o,h1,h2⟩ e (λz=>nomatch z) h
 |@exc a C d fs ha hd k =>
  obtain rfl:u=Value.ref a:=r
  exact MQ I ha hd k e h
def Ob:bV X (.builtin "isinstance") (λxs H Q=>∃v w t c b,xs=[v,w]/\lX X.K H v t/\RelV w c/\(∀c',RelV w c'->c'=c)/\kitOne X.K t c=some b/\Q (.bl b) H):=by
 intro pins s σ H xs us Q I r h
 obtain ⟨v,w,t,c,b,rfl,ty,rw,un,e,q⟩:=h
 obtain ⟨u,w',rfl,ru,rw'⟩:=vc r
 obtain rfl:=un w' rw'
 exact Oa I ru ty e λtk=>⟨.bl b,H,I.tok _,rfl,q⟩
def DO {ρ:Af}{H:Hp}{st:aa}{x:PV}{v:V}{T:String}(s:a4 K mg ρ H st) (r:R K mg ρ H x v) (h:kH st x=some (.inl T)):lX K H v (.type T):=by
 cases x with
 |non=>cases h;cases r;exact .of .non
 |bl b=>cases h;cases r;exact .of (.bl b)
 |int i=>cases h;cases r;exact .of (.int i)
 |str z=>cases h;cases r;exact .of (.str z)
 |tup xs=>cases h;obtain ⟨a,vs,rfl,h1,_⟩:=r;exact .tup h1
 |frl xs=>cases h
 |ref n =>
  obtain ⟨a,rfl,ha⟩:=r
  have h:iH st[n]?=some (.inl T):=h
  cases e:st[n]? with
  |none=>rw [e] at h;cases h
  |some so =>
   rw [e] at h
   cases so with
   |lst xs=>cases h;obtain ⟨vs,h1,_⟩:=s.addr e ha;exact .of (.lst h1)
   |dic ks xs=>cases h;obtain ⟨vs,h1,_⟩:=s.addr e ha;exact .of (.dK h1)
   |ins c ks xs=>cases h
   |fdi ks xs=>cases h
   |dit ks xs=>cases h
 |ty _=>cases h
 |fn _=>cases h
 |kd _ _=>cases h
 |exo _ _ _=>cases h
def DQ {ρ:Af}{H:Hp}{st:aa}{x:PV}{v:V}{f:Bool}{c:Str}(hx:∀C,f=true->mg c=some (.ref C)->mX K C) (hi:∀C,f=false->mg c=some (.ref C)->uL K C) (s:a4 K mg ρ H st) (r:R K mg ρ H x v) (h:kH st x=some (.inr (f,c))):∃C,mg c=some (.ref C)/\lX K H v (.ref C):=by
 cases x with
 |ref n =>
  obtain ⟨a,rfl,ha⟩:=r
  have h:iH st[n]?=some (.inr (f,c)):=h
  cases e:st[n]? with
  |none=>rw [e] at h;cases h
  |some so =>
   rw [e] at h
   cases so with
   |lst xs=>cases h
   |dic ks xs=>cases h
   |fdi ks xs=>cases h
   |dit ks xs=>cases h
   |ins c' ks xs =>
    cases h
    obtain ⟨C,dx,vs,hC,hH,_⟩:=s.addr e ha
    have q:=hi C rfl hC
    exact ⟨C,hC,.of (.ins hH q.cl q.ha q.hn q.tk q.hm)⟩
 |exo c' ks xs =>
  cases h
  obtain ⟨a,C,d,vs,rfl,hC,hH,hd,_⟩:=r
  exact ⟨C,hC,.exc hH hd (hx C rfl hC)⟩
 |non=>cases h
 |bl _=>cases h
 |int _=>cases h
 |str _=>cases h
 |tup _=>cases h
 |frl _=>cases h
 |ty _=>cases h
 |fn _=>cases h
 |kd _ _=>cases h
def Oc {t:IsT} (F:IsF X.K X.mg t):cA X (.builtin "isinstance") (gh t):=⟨_,Ob,fun ρ H st xs vs Q E s r h=>by
 match xs,r,h with
 |[x,y],r,h =>
  obtain ⟨v,w,rfl,rx,ry⟩:=Rs.two r
  have h:Out X.K X.mg ρ H (pV t st y (kH st x) st) (gV X.K X.mg Q) E:=h
  cases hc:kH st x with
  |none=>rw [hc] at h;cases y<;>exact h.elim
  |some cc =>
   rw [hc] at h
   cases cc with
   |inl T =>
    cases y with
    |ty n =>
     cases ry
     obtain ⟨b,hb,h⟩:=si h
     exact ⟨v,_,_,_,b,rfl,DO s rx hc,rfl,λc' h=>h,NT X.K hb,h.now s _ rfl⟩
    |fn B =>
     obtain ⟨D,rfl,hD⟩:=ry
     obtain ⟨b,hb,h⟩:=si h
     obtain ⟨D',hD',k⟩:=F.u T B b hb
     rw [hD] at hD'
     cases hD'
     exact ⟨v,_,_,_,b,rfl,DO s rx hc,rfl,λc' h=>h,k,h.now s _ rfl⟩
    |_=>exact h.elim
   |inr fc =>
    obtain ⟨f,c⟩:=fc
    cases y with
    |ty n =>
     cases ry
     obtain ⟨hf,h⟩:=Out.ifp h
     obtain ⟨b,hb,h⟩:=si h
     obtain ⟨C,hC,k⟩:=F.tt c n b hb
     obtain ⟨C',hC',ty⟩:=DQ (λC e hC=>F.x c C (hf.trans e) hC (.inr ⟨n,b,hb⟩)) (λC e hC=>F.i c C (hf.trans e) hC (.inr ⟨n,b,hb⟩)) s rx hc
     rw [hC] at hC'
     cases hC'
     exact ⟨v,_,_,_,b,rfl,ty,rfl,λc' h=>h,k,h.now s _ rfl⟩
    |fn B =>
     obtain ⟨D,rfl,hD⟩:=ry
     obtain ⟨hf,h⟩:=Out.ifp h
     obtain ⟨b,hb,h⟩:=si h
     obtain ⟨C,D',hC,hD',k⟩:=F.s c B b hb
     rw [hD] at hD'
     cases hD'
     obtain ⟨C',hC',ty⟩:=DQ (λC e hC=>F.x c C (hf.trans e) hC (.inl ⟨B,b,hb⟩)) (λC e hC=>F.i c C (hf.trans e) hC (.inl ⟨B,b,hb⟩)) s rx hc
     rw [hC] at hC'
     cases hC'
     exact ⟨v,_,_,_,b,rfl,ty,rfl,λc' h=>h,k,h.now s _ rfl⟩
    |_=>exact h.elim
 |[],r,h=>exact h.elim
 |[_],r,h=>exact h.elim
 |_::_::_::_,r,h=>exact h.elim⟩
end
section
variable {X:Cx} {Er:XK} {K:Frag} {mg:Ab} {a c e o:Expr} {st:Stmt} {cO:List Stmt} {pos p pos':Pos} {fa fo:Ak} {k:Nat} {x:Str} {m:An}
variable {g g' gb:Al} {ga:Am}
theorem Out.fl {ρ:Af}{H:Hp}{st:aa}{D:Ends}{fl:Fl}{E:XK}(h:Out K mg ρ H (.ok fl st) (gS K mg D) E) (s:a4 K mg ρ H st):gS K mg D ρ H fl st:=h.now s
def zW:Al:=λenv st=>.ok (.nx env) st
def fQ (g:Al):Fl->Mo Fl
 |.nx env,st=>g env st
 |fl,st=>.ok fl st
def zp (g g':Al):Al:=λenv st=>(g env st).bind (fQ g')
def ym:dB X Er [] zW:=cq.weak Jn λD σ H ⟨env,st,ρ,re,rs,h⟩=>h.now rs σ re
def zt (h1:MS X Er st g) (h2:dB X Er cO g'):dB X Er (st::cO) (zp g g') :=
 cq.weak (Jo h1 h2) λD σ H ⟨env,st,ρ,re,rs,h⟩=>⟨env,st,ρ,re,rs,h.then λah H1 fl ae e1 s1 h1=>by
  cases fl with
  |nx bw=>exact λaz Od=>⟨bw,ae,ah,Od,s1,h1⟩
  |rt v=>exact Out.fl (D:=D) (fl:=.rt v) (E:=Er) h1 s1
  |bk bw=>exact Out.fl (D:=D) (fl:=.bk bw) (E:=Er) h1 s1
  |ct bw=>exact Out.fl (D:=D) (fl:=.ct bw) (E:=Er) h1 s1⟩
def zA (h1:MS X Er st g):dB X Er [st] g:=Jp h1
def zB (i:Nat) (f:Ak):Al:=λenv st=>(f env st).bind λx ae=>.ok (.nx (env.set i (some x))) ae
def zH (i:Nat) {x:Str}(he:ME X Er e fa) (hN:X.N.Nodup) (hi:X.N[i]?=some x:=by rfl) (hx:Loc X.env.scope x:=by first|exact Or.inl rfl|exact Or.inr rfl) (hs:swapsWith e (some (.Name x pos')) pos.line X.env=pure false:=by rfl)
  (hf:X.fn x=true\/X.env.scope.names.lookup x=some .local:=by first|exact .inl rfl|exact .inr rfl|assumption):MS X Er (.Assign [.Name x pos'] e pos) (zB i fa) :=
 PS.weak (JA hN hi hx he hs hf) λD σ H ⟨env,st,ρ,re,rs,h⟩=>⟨env,st,ρ,re,rs,h.then λah H1 x ae e1 s1 h1 v rv=>h1.now s1 _ ((re.ext e1).set i rv)⟩
def yK (f:Ak):Al:=λenv st=>(f env st).bind λ_ ae=>.ok (.nx env) ae
def wa (he:ME X Er e fa) (hs:swapsWith e none pos.line X.env=pure false:=by rfl):MS X Er (.Expr e pos) (yK fa) :=
 PS.weak (Jr he hs) λD σ H ⟨env,st,ρ,re,rs,h⟩=>⟨env,st,ρ,re,rs,h.then λah H1 x ae e1 s1 h1 v rv=>h1.now s1 _ (re.ext e1)⟩
def zY (f:Ak):Al:=λenv st=>(f env st).bind λx ae=>.ok (.rt x) ae
def yc (he:ME X Er e fa):MS X Er (.Return (some e) pos) (zY fa) :=
 PS.weak (Jt he) λD σ H ⟨env,st,ρ,re,rs,h⟩=>⟨env,st,ρ,re,rs,h.then λah H1 x ae e1 s1 h1 v rv=>h1.now s1 _ rv⟩
def zT (t:Am) (g g':Al):Al:=λenv st=>(t env st).bind λc ae=>if c=true then g env ae else g' env ae
def yj {A B:List Stmt}(hc:MT X Er c ga) (ha:dB X Er A g) (hb:dB X Er B g'):MS X Er (.If c A B pos) (zT ga g g') :=
 PS.weak (Jv hc ha hb) λD σ H ⟨env,st,ρ,re,rs,h⟩=>⟨env,st,ρ,re,rs,h.then λah H1 k ae e1 s1 h1=>by
  cases k with
  |true=>exact ⟨env,ae,ah,re.ext e1,s1,h1⟩
  |false=>exact ⟨env,ae,ah,re.ext e1,s1,h1⟩⟩
def lY:Ao
 |.int i,.int j,st=>.ok (.int (i+j)) st
 |_,_,_=>.stuck
def sj (i:Nat) (op:Ao) (f:Ak):Al:=λenv st=>(za i env st).bind λx cI=>(f env cI).bind λy ae=>(op x y ae).bind λz aG=>.ok (.nx (env.set i (some z))) aG
def uM (X:Cx) (o:Operator) (op:Ao):Prop:=∃r,u7 X o r/\fM X.K X.mg r op
def Oe:uM X .Add lY:=⟨_,JF,by
 intro ρ H st x y v w Q E s rx ry h
 cases x with
 |int i =>
  cases y with
  |int j=>cases rx;cases ry;exact ⟨i,j,rfl,rfl,Out.now (x:=PV.int (i+j)) h s _ rfl⟩
  |_=>exact h.elim
 |_=>exact h.elim⟩
def Of (i:Nat) {x:Str}{o:Operator}{op:Ao}(ho:uM X o op) (he:ME X Er e fa) (hN:X.N.Nodup) (hi:X.N[i]?=some x:=by rfl) (hx:Loc X.env.scope x:=by first|exact Or.inl rfl|exact Or.inr rfl)
  (hf:X.fn x=true\/X.env.scope.names.lookup x=some .local:=by first|exact .inl rfl|exact .inr rfl|assumption):MS X Er (.AugAssign (.Name x pos') o e pos) (sj i op fa):=by
 obtain ⟨r,h1,h2⟩:=ho
 refine PS.weak (JC hN hi hx he h1 hf) λD σ H ⟨env,st,ρ,re,rs,h⟩=>?_
 unfold sj za at h
 cases hx:env[i]? with
 |none=>simp only [hx] at h;exact h.elim
 |some q =>
  cases q with
  |none=>simp only [hx] at h;exact h.elim
  |some x0 =>
   simp only [hx] at h
   obtain ⟨v,hv,rv⟩:=re.at_ i x0 hx
   exact ⟨v,hv,env,st,ρ,re,rs,Out.then (f:=λy ae=>(op x0 y ae).bind λz aG=>Res.ok (Fl.nx (env.set i (some z))) aG) (good:=gS X.K X.mg D) h λah H1 y ae e1 s1 k1 w rw=>h2 ah H1 ae x0 y v w _ Er s1 (R.ext e1 x0 rv) rw (k1.then λax H2 z aG e2 s2 k2 u ru=>k2.now s2 _ (((re.ext e1).ext e2).set i ru))⟩
def putK (f:Str) (x:PV):List Str->List PV->List Str×List PV
 |k::ks,y::ys=>if k=f then (k::ks,x::ys) else (k::(putK f x ks ys).1,y::(putK f x ks ys).2)
 |_,_=>([f],[x])
theorem DR {ρ:Af}{H:Hp}{f:Str}{x:PV}{v:V}(r:R K mg ρ H x v):∀{ks:Ae}{xs:Aq}{vs:List V},ks.length=vs.length->Rs K mg ρ H xs vs->∃ws,cu f v (ks.zip vs)=(putK f x ks xs).1.zip ws/\Rs K mg ρ H (putK f x ks xs).2 ws/\(putK f x ks xs).1.length=ws.length
 |[],xs,vs,hl,h=>by
  have:vs=[]:=by cases vs with|nil=>rfl|cons=>simp at hl
  subst this
  have:xs=[]:=by cases xs with|nil=>rfl|cons=>obtain ⟨_,_,e,_⟩:=h;cases e
  subst this
  exact ⟨[v],rfl,⟨v,[],rfl,r,rfl⟩,rfl⟩
 |k::ks,xs,vs,hl,h=>by
  cases vs with
  |nil=>simp at hl
  |cons v0 vs =>
   cases xs with
   |nil=>cases h
   |cons y ys =>
    obtain ⟨V9,r',e,h1,h2⟩:=h
    cases e
    simp only [putK,List.zip_cons_cons,cu]
    by_cases hk:k=f
    ·rw [zC hk,zC hk]
     exact ⟨v::vs,rfl,⟨v,vs,rfl,r,h2⟩,by simpa using hl⟩
    ·rw [zQ hk,zQ hk]
     obtain ⟨ws,e1,e2,e3⟩:=DR r (by simpa using hl) h2
     exact ⟨v0::ws,by rw [e1];rfl,⟨v0,ws,rfl,h1,e2⟩,by simp [e3]⟩
def putAt (f:Str) (ins:Str->Bool) (x:PV):PV->Mo Unit
 |.ref n,st=>jA st n λc ks xs=>if ins c=true/\ks.length<1000 then .ok () (st.set n (.ins c (putK f x ks xs).1 (putK f x ks xs).2)) else .stuck
 |_,_=>.stuck
def sFld (f:Str) (ins:Str->Bool) (fo fv:Ak):Al:=λenv st=>(fv env st).bind λx ae=>(fo env ae).bind λo aG=>(putAt f ins x o aG).bind λ_ a8=>.ok (.nx env) a8
def Og {f:Str}{ins exc:Str->Bool}(F:FldF X.K X.mg f ins exc) (ho:ME X Er o fo) (he:ME X Er e fa) (hs:swapsWith e (some (.Attribute o f pos')) pos.line X.env=pure false:=by rfl):MS X Er (.Assign [.Attribute o f pos'] e pos) (sFld f ins fo fa) :=
 PS.weak (Kp ho he hs) λD σ H ⟨env,st,ρ,re,rs,h⟩=>⟨env,st,ρ,re,rs,h.then λah H1 x ae e1 s1 h1 v rv=>⟨env,ae,ah,re.ext e1,s1,h1.then λax H2 y aG e2 s2 h2 w rw=>by
  cases y with
  |ref n =>
   cases hn:aG[n]? with
   |none=>simp only [putAt,jA,hn] at h2;exact h2.elim
   |some so =>
    cases so with
    |lst _=>simp only [putAt,jA,hn] at h2;exact h2.elim
    |dic _ _=>simp only [putAt,jA,hn] at h2;exact h2.elim
    |fdi _ _=>simp only [putAt,jA,hn] at h2;exact h2.elim
    |dit _ _=>simp only [putAt,jA,hn] at h2;exact h2.elim
    |ins c ks xs =>
     simp only [putAt,jA,hn] at h2
     by_cases hc:ins c=true/\ks.length<1000
     ·rw [zC hc] at h2
      obtain ⟨p,rfl,hp⟩:=rw
      obtain ⟨C',dx,vs,hC',hH,hR,hl⟩:=s2.addr hn hp
      obtain ⟨C,hC,cl,na⟩:=F.i c hc.1
      rw [hC] at hC'
      cases hC'
      obtain ⟨ws,k1,k2,k3⟩:=DR (f:=f) (R.ext e2 x rv) hl hR
      refine ⟨p,_,dx,_,rfl,hH,cl,na,?_,?_⟩
      ·rw [List.length_zip,<-hl];have:=hc.2;omega
      ·have ew:Ext ax H2 ax (upd H2 p (.ins C' dx (cu f v (ks.zip vs)))):=Ext.write hH rfl
       exact h2 ax _ ew (s2.write hp ew ⟨_,dx,ws,hC,by rw [yU,k1],Rs.ext ew _ k2,k3⟩) σ (((re.ext e1).ext e2).ext ew)
     ·rw [zQ hc] at h2;exact h2.elim
  |_=>exact h2.elim⟩⟩
def MG (X:Cx) (Er:XK) (e:Expr) (g:PV->ze->Option ze):Prop:=PG X e λv σ H Q=>∃x env bA ρ,R X.K X.mg ρ H x v/\bg X.K X.mg ρ H env σ/\g x env=some bA/\∀aj,bg X.K X.mg ρ H bA aj->Q aj H
def PG.weak {t t':TG}(h:PG X e t) (w:∀v σ H Q,t' v σ H Q->t v σ H Q):PG X e t':=λpins s σ H v u Q I r q=>h pins s σ H v u Q I r (w v σ H Q q)
def gN (i:Nat):PV->ze->Option ze:=λx env=>some (env.set i (some x))
def yR (i:Nat) {x:Str}(hN:X.N.Nodup) (hi:X.N[i]?=some x:=by rfl) (hx:Loc X.env.scope x:=by first|exact Or.inl rfl|exact Or.inr rfl) (hf:X.fn x=true\/X.env.scope.names.lookup x=some .local:=by first|exact .inl rfl|exact .inr rfl|assumption):MG X Er (.Name x pos) (gN i) :=
 PG.weak (wM hN hi hx hf) λv σ H Q ⟨x,env,bA,ρ,rx,re,hg,q⟩=>by
  cases hg
  exact q _ (re.set i rx)
def g2 (i j:Nat):PV->ze->Option ze
 |.tup [x,y],env=>some ((env.set i (some x)).set j (some y))
 |_,_=>none
def Oh {i j:Nat}{x:PV}{env bA:ze}(h:g2 i j x env=some bA):∃y z,x=.tup [y,z]/\bA=(env.set i (some y)).set j (some z):=by
 unfold g2 at h
 split at h
 ·cases h;exact ⟨_,_,rfl,rfl⟩
 ·cases h
def xf (i j:Nat) {x y:Str}{kt:Nat}{px py:Pos}(hc:X.calm=true) (hN:X.N.Nodup) (hi:X.N[i]?=some x:=by rfl) (hj:X.N[j]?=some y:=by rfl) (hx:Loc X.env.scope x:=by first|exact Or.inl rfl|exact Or.inr rfl) (hy:Loc X.env.scope y:=by first|exact Or.inl rfl|exact Or.inr rfl)
  (hf:X.fn x=true\/X.env.scope.names.lookup x=some .local:=by first|exact .inl rfl|exact .inr rfl|assumption) (nU:X.fn y=true\/X.env.scope.names.lookup y=some .local:=by first|exact .inl rfl|exact .inr rfl|assumption):MG X Er (.Tuple [.Name x px,.Name y py] kt pos) (g2 i j) :=
 PG.weak (va (n:=2) hc (lg (wM hN hi hx hf) (lg (wM hN hj hy nU) u_))) λv σ H Q ⟨x,env,bA,ρ,rx,re,hg,q⟩=>by
  obtain ⟨y,z,rfl,rfl⟩:=Oh hg
  obtain ⟨a,vs,rfl,h1,h2⟩:=rx
  obtain ⟨u,w,rfl,r1,r2⟩:=Rs.two h2
  exact ⟨a,_,rfl,h1,rfl,u,[w],rfl,w,[],rfl,rfl,q _ ((re.set i r1).set j r2)⟩
def g3 (i j k:Nat):PV->ze->Option ze
 |.tup [x,y,z],env=>some (((env.set i (some x)).set j (some y)).set k (some z))
 |_,_=>none
def Oi {i j k:Nat}{x:PV}{env bA:ze}(h:g3 i j k x env=some bA):∃y z u,x=.tup [y,z,u]/\bA=((env.set i (some y)).set j (some z)).set k (some u):=by
 unfold g3 at h
 split at h
 ·cases h;exact ⟨_,_,_,rfl,rfl⟩
 ·cases h
def Oj (i j k:Nat) {x y z:Str}{kt:Nat}{px py pz:Pos}(hc:X.calm=true) (hN:X.N.Nodup) (hi:X.N[i]?=some x:=by rfl) (hj:X.N[j]?=some y:=by rfl) (hk:X.N[k]?=some z:=by rfl) (hx:Loc X.env.scope x:=by first|exact Or.inl rfl|exact Or.inr rfl) (hy:Loc X.env.scope y:=by first|exact Or.inl rfl|exact Or.inr rfl) (hz:Loc X.env.scope z:=by first|exact Or.inl rfl|exact Or.inr rfl)
  (hf:X.fn x=true\/X.env.scope.names.lookup x=some .local:=by first|exact .inl rfl|exact .inr rfl|assumption) (nU:X.fn y=true\/X.env.scope.names.lookup y=some .local:=by first|exact .inl rfl|exact .inr rfl|assumption) (Ol:X.fn z=true\/X.env.scope.names.lookup z=some .local:=by first|exact .inl rfl|exact .inr rfl|assumption):MG X Er (.Tuple [.Name x px,.Name y py,.Name z pz] kt pos) (g3 i j k) :=
 PG.weak (va (n:=3) hc (lg (wM hN hi hx hf) (lg (wM hN hj hy nU) (lg (wM hN hk hz Ol) u_)))) λv σ H Q ⟨x,env,bA,ρ,rx,re,hg,q⟩=>by
  obtain ⟨y,z,u,rfl,rfl⟩:=Oi hg
  obtain ⟨a,vs,rfl,h1,h2⟩:=rx
  obtain ⟨u1,r',rfl,r1,h3⟩:=h2
  obtain ⟨u2,u3,rfl,r2,r3⟩:=Rs.two h3
  exact ⟨a,_,rfl,h1,rfl,u1,_,rfl,u2,_,rfl,u3,[],rfl,rfl,q _ (((re.set i r1).set j r2).set k r3)⟩
def kI (g:PV->ze->Option ze) (f:Ak):Al:=λenv st=>(f env st).bind λx ae=>match g x env with
 |some bA=>.ok (.nx bA) ae
 |none=>.stuck
def ziJ {tg:Expr}{gt:PV->ze->Option ze}(hg:MG X Er tg gt) (he:ME X Er e fa) (hs:swapsWithSole [tg] e pos.line X.env=pure false:=by rfl) (hw:swappedStores [tg] e X.env=pure none:=by rfl)
  (h1:(assignEach [tg] X.env).map (·.2)=[assign tg X.env]:=by rfl):MS X Er (.Assign [tg] e pos) (kI gt fa) :=
 PS.weak (BS he hg hs hw h1) λD σ H ⟨env,st,ρ,re,rs,h⟩=>⟨env,st,ρ,re,rs,h.then λah H1 x ae e1 s1 h1 v rv=>by
  cases hx:gt x env with
  |none=>simp only [hx] at h1;exact h1.elim
  |some bA =>
   simp only [hx] at h1
   exact ⟨x,env,bA,ah,rv,re.ext e1,hx,λaj r'=>Out.now (x:=Fl.nx bA) h1 s1 aj r'⟩⟩
inductive Sq where
 |im (xs:Aq)|rf (n:Nat)
def Walk (K:Frag) (mg:Ab) (J:It) (ρ:Af) (H:Hp):Sq->Prop
 | .im xs=>(∀i ak H',Ext ρ H ak H'->i<xs.length->J.go i H')/\(∀i ak H',Ext ρ H ak H'->xs.length<=i->J.stop i H') /\
  ∀i ak H' st v H2,Ext ρ H ak H'->a4 K mg ak H' st->i<xs.length->J.yld i H' v H2->∃x,xs[i]?=some x/\Ext ak H' ak H2/\a4 K mg ak H2 st/\R K mg ak H2 x v
 |.rf n=>∃a,ρ[n]?=some a/\J=rq K a
def MI (X:Cx) (Er:XK) (tg iter:Expr) (src:ze->Mo Sq):Prop:=PI X tg iter fun σ H R=>∃env st ρ,bg X.K X.mg ρ H env σ/\a4 X.K X.mg ρ H st/\Out X.K X.mg ρ H (src env st) (λak H' q a5=>∀J,Walk X.K X.mg J ak H' q->R J H') Er
def forL (g:PV->ze->Option ze) (body:Al):List PV->Al
 |[],env,st=>.ok (.nx env) st
 | x::xs,env,st=>match g x env with
  |none=>.stuck
  | some bw=>(body bw st).bind λfl aG=>match fl with
   |.nx e=>forL g body xs e aG
   |.ct e=>forL g body xs e aG
   |.bk e=>.ok (.nx e) aG
   |.rt v=>.ok (.rt v) aG
def forR (g:PV->ze->Option ze) (body:Al) (n:Nat):Nat->Nat->Al
 |0,_,_,_=>.stuck
 | m+1,i,env,st=>yq st n λxs=>match xs[i]? with
  |none=>.ok (.nx env) st
  | some x=>match g x env with
   |none=>.stuck
   | some bw=>(body bw st).bind λfl aG=>match fl with
    |.nx e=>forR g body n m (i+1) e aG
    |.ct e=>forR g body n m (i+1) e aG
    |.bk e=>.ok (.nx e) aG
    |.rt v=>.ok (.rt v) aG
def pW (g:PV->ze->Option ze) (body:Al):Sq->Al
 |.im xs=>forL g body xs
 |.rf n=>forR g body n (lim+1) 0
def yF (src:ze->Mo Sq) (g:PV->ze->Option ze) (body:Al):Al:=λenv st=>(src env st).bind λq ae=>pW g body q env ae
def ji {tg iter:Expr}{src:ze->Mo Sq}{gt:PV->ze->Option ze}(hp:PassesOwn (model X.prog X.w) X.A X.env X.xe) (hc:X.calm=true) (hi:MI X Er tg iter src) (hg:MG X Er tg gt) (hb:dB X Er cO gb)
  (hs:∀x,foldedSetIterable iter X.env x=pure x:=by intro _;rfl):MS X Er (.For tg iter cO [] pos) (yF src gt gb) :=
 PS.weak (oP hp hc hi hg hb hs) λD σ H ⟨env,st,ρ,re,rs,h⟩=>⟨env,st,ρ,re,rs,h.then λau H0 q cI e0 s0 h0 J wk=>by
  cases q with
  |im xs =>
   obtain ⟨w1,w2,w3⟩:=wk
   refine ⟨λi m σ H=>m=xs.length-i/\i<=xs.length/\∃env st ρ,bg X.K X.mg ρ H env σ/\a4 X.K X.mg ρ H st/\Ext au H0 ρ H/\Out X.K X.mg ρ H (forL gt gb (xs.drop i) env st) (gS X.K X.mg D) Er,⟨xs.length,by simp,jK _,env,cI,au,re.ext e0,s0,Ext.refl,h0⟩,?_⟩
   rintro i m σ H ⟨rfl,hi,env,st,ρ,re,rs,ex,h⟩
   by_cases bf:i<xs.length
   ·refine .inr ⟨w1 i ρ H ex bf,_,λaj H' p'=>⟨xs.length-(i+1),by omega,rfl,bf,p'⟩,λv H' y=>?_⟩
    obtain ⟨x,hx,cb,s2,rx⟩:=w3 i ρ H st v H' ex rs bf y
    have hd:xs.drop i=x::xs.drop (i+1):=by
     rw [wo bf]
     have:=(yD.mp hx).2
     rw [this]
    rw [hd] at h
    cases hgx:gt x env with
    |none=>simp only [forL,hgx] at h;exact h.elim
    |some bw =>
     simp only [forL,hgx] at h
     refine ⟨x,env,bw,ρ,rx,re.ext cb,hgx,λaz r1=>⟨bw,st,ρ,r1,s2,Out.then (Out.ext h cb) λao H3 fl a8 e3 s3 h3=>?_⟩⟩
     cases fl with
     |nx e=>exact λaA r4=>⟨e,a8,ao,r4,s3,(ex.trans cb).trans e3,h3⟩
     |ct e=>exact λaA r4=>⟨e,a8,ao,r4,s3,(ex.trans cb).trans e3,h3⟩
     |bk e=>exact Out.fl (D:=D) (fl:=.nx e) (E:=Er) h3 s3
     |rt v=>exact Out.fl (D:=D) (fl:=.rt v) (E:=Er) h3 s3
   ·have e:i=xs.length:=by omega
    subst e
    rw [List.drop_length] at h
    exact .inl ⟨w2 _ ρ H ex (zM _),Out.now (x:=Fl.nx env) h rs σ re⟩
  |rf n =>
   obtain ⟨a,ha,rfl⟩:=wk
   refine ⟨λi m σ H=>∃env st ρ,bg X.K X.mg ρ H env σ/\a4 X.K X.mg ρ H st/\ρ[n]?=some a/\Out X.K X.mg ρ H (forR gt gb n m i env st) (gS X.K X.mg D) Er,⟨lim+1,env,cI,au,re.ext e0,s0,ha,h0⟩,?_⟩
   rintro i m σ H ⟨env,st,ρ,re,rs,ha,h⟩
   cases m with
   |zero=>exact h.elim
   |succ m =>
    obtain ⟨xs,hn,h⟩:=jE h
    obtain ⟨vs,hH,hR⟩:=rs.addr hn ha
    cases hx:xs[i]? with
    |none =>
     simp only [hx] at h
     have:vs.length<=i:=by rw [<-hR.len];exact kY.mp hx
     exact .inl ⟨⟨vs,ba.of hH,this⟩,Out.now (x:=Fl.nx env) h rs σ re⟩
    |some x =>
     simp only [hx] at h
     obtain ⟨v,hv,rv⟩:=hR.get hx
     refine .inr ⟨⟨vs,v,ba.of hH,hv⟩,_,λaj H' p'=>⟨m,wt m,p'⟩,λv' H' y=>?_⟩
     obtain ⟨e1,y⟩:=y
     subst e1
     have e2:=y vs (ba.of hH)
     rw [hv] at e2
     cases e2
     cases hgx:gt x env with
     |none=>simp only [hgx] at h;exact h.elim
     |some bw =>
      simp only [hgx] at h
      refine ⟨x,env,bw,ρ,rv,re,hgx,λaz r1=>⟨bw,st,ρ,r1,rs,Out.then h λao H3 fl a8 e3 s3 h3=>?_⟩⟩
      cases fl with
      |nx e=>exact λaA r4=>⟨e,a8,ao,r4,s3,e3.get ha,h3⟩
      |ct e=>exact λaA r4=>⟨e,a8,ao,r4,s3,e3.get ha,h3⟩
      |bk e=>exact Out.fl (D:=D) (fl:=.nx e) (E:=Er) h3 s3
      |rt v=>exact Out.fl (D:=D) (fl:=.rt v) (E:=Er) h3 s3⟩
end
section
variable {X:Cx} {Er:XK} {K:Frag} {mg:Ab} {a b c e o tg:Expr} {es:List Expr} {st:Stmt} {cO:List Stmt} {pos p apos:Pos} {fa fb fo:Ak} {fs:Aj} {k:Nat} {x:Str} {m:An}
variable {g gb:Al} {ga:Am}
def PI.weak {t t':TI}(h:PI X tg e t) (w:∀σ H Q,t' σ H Q->t σ H Q):PI X tg e t':=λpins s σ H Q I q=>h pins s σ H Q I (w σ H Q q)
def Om (K:Frag) (tl:TE):TI:=fun σ H R=>tl σ H λx H1=>(∃a,x=.ref a/\(∃xs,ba K H1 a xs)/\R (rq K a) H1)\/(∃a,x=.ref a/\(∃xs,bt K H1 a xs)/\R (nu K a) H1)\/∃z,x=.str z/\R (vI z) H1
def Oo {l:Expr}{tl:TE}(hl:PE X l tl):PI X tg l (Om X.K tl):=by
 intro pins s σ H R I h
 refine aX (hl pins s σ H _ I h) λv s1 ⟨x,H1,I1,r1,q1⟩=>?_
 have fin:∀b∈[s1.heap.objs.size],cP X pins H1 b:=λb hb=>by
  have e:b=s1.heap.objs.size:=by simpa using hb
  subst e
  exact I1.fpOk (zM _) (I1.hok.fresh (zM _))
 rcases q1 with ⟨a,e,⟨xs,hq⟩,q⟩|⟨a,e,⟨xs,hq⟩,q⟩|⟨z,rfl,q⟩
 ·subst e
  cases r1
  obtain ⟨its,rv,p,hz⟩:=I1.list hq
  exact wpAny_pyIter_list p.isList ⟨s1.heap.objs.size,[s1.heap.objs.size],_,_,H1,rfl,I1.kept (t':=s1.toks) (λb o e=>yl _ e),JI a _,⟨_,yP _ rfl,rfl,rfl⟩,fin,q⟩
 ·subst e
  cases r1
  obtain ⟨its,rv,p,hz⟩:=I1.tuple hq
  exact wpAny_pyIter_tuple (show s1.heap.IsTuple a its.toArray from p) ⟨s1.heap.objs.size,[s1.heap.objs.size],_,_,H1,rfl,I1.kept (t':=s1.toks) (λb o e=>yl _ e),JJ a _,⟨_,yP _ rfl,rfl,rfl⟩,fin,q⟩
 ·obtain ⟨t,rfl⟩:=r1
  cases ha:z.cps.all (·<128) with
  |false=>exact wpAny_pyIter_wide ha ⟨s1.heap.objs.size,[s1.heap.objs.size],_,_,H1,rfl,I1.kept (t':=s1.toks) (λb o e=>yl _ e),CV z t _ "str_iterator" (.inr rfl),⟨_,yP _ rfl,rfl,rfl⟩,fin,q⟩
  |true=>exact wpAny_pyIter_ascii ha ⟨s1.heap.objs.size,[s1.heap.objs.size],_,_,H1,rfl,I1.kept (t':=s1.toks) (λb o e=>yl _ e),CV z t _ "str_ascii_iterator" (.inl rfl),⟨_,yP _ rfl,rfl,rfl⟩,fin,q⟩
def Oq {ρ:Af}{H:Hp}{a:Addr}{xs:Aq}{vs:List V}(h:bt K H a vs) (r:Rs K mg ρ H xs vs):Walk K mg (nu K a) ρ H (.im xs):=by
 refine ⟨λi ak H' e hi=>?_,λi ak H' e hi=>⟨vs,e.sqT h,by rw [<-r.len];exact hi⟩,λi ak H' st v H2 e s hi y=>?_⟩
 ·obtain ⟨v,hv,_⟩:=r.get (yi hi)
  exact ⟨vs,v,e.sqT h,hv⟩
 ·obtain ⟨e1,y⟩:=y
  subst e1
  obtain ⟨v',hv,rv⟩:=r.get (yi hi)
  have:=y vs (e.sqT h)
  rw [hv] at this
  cases this
  exact ⟨_,yi hi,Ext.refl,s,R.ext e _ rv⟩
def Ot {ρ:Af}{H:Hp}{a:Addr}{xs:Aq}{vs:List V}(h:iD K H a vs) (r:Rs K mg ρ H xs vs):Walk K mg (rq K a) ρ H (.im xs):=by
 have hs:∀{ak H'},Ext ρ H ak H'->ba K H' a vs:=λe=>(e.frl h).sq
 refine ⟨λi ak H' e hi=>?_,λi ak H' e hi=>⟨vs,hs e,by rw [<-r.len];exact hi⟩,λi ak H' st v H2 e s hi y=>?_⟩
 ·obtain ⟨v,hv,_⟩:=r.get (yi hi)
  exact ⟨vs,v,hs e,hv⟩
 ·obtain ⟨e1,y⟩:=y
  subst e1
  obtain ⟨v',hv,rv⟩:=r.get (yi hi)
  have:=y vs (hs e)
  rw [hv] at this
  cases this
  exact ⟨_,yi hi,Ext.refl,s,R.ext e _ rv⟩
def signs (z:Str):Aq:=z.cps.toList.map λc=>.str ⟨#[c]⟩
def Ou {ρ:Af}{H:Hp}(z:Str):Walk K mg (vI z) ρ H (.im (signs z)):=by
 have hl:(signs z).length=z.cps.size:=by simp [signs]
 refine ⟨λi ak H' e hi=>by rw [hl] at hi;exact hi,λi ak H' e hi=>by rw [hl] at hi;exact hi,λi ak H' st v H2 e s hi y=>?_⟩
 obtain ⟨e1,c,hc,e2⟩:=y
 subst e1 e2
 refine ⟨.str ⟨#[c]⟩,?_,Ext.refl,s,rfl⟩
 simp [signs,hc]
def nums (lo:Int) (n:Nat):Aq:=(List.range n).map λi=>.int (lo+(i:Nat))
def Ov {ρ:Af}{H:Hp}(lo:Int) (n:Nat):Walk K mg (rA lo n) ρ H (.im (nums lo n)):=by
 have hl:(nums lo n).length=n:=by simp [nums]
 refine ⟨λi ak H' e hi=>by rw [hl] at hi;exact hi,λi ak H' e hi=>by rw [hl] at hi;exact hi,λi ak H' st v H2 e s hi y=>?_⟩
 obtain ⟨e1,e2⟩:=y
 subst e1 e2
 rw [hl] at hi
 exact ⟨.int (lo+i),by simp [nums,hi],Ext.refl,s,rfl⟩
def iI:PV->Mo Sq
 |.tup xs,st=>.ok (.im xs) st
 |.frl xs,st=>.ok (.im xs) st
 |.str z,st=>.ok (.im (signs z)) st
 |.ref n,st=>yq st n λ_=>.ok (.rf n) st
 |_,_=>.stuck
def yt (f:Ak):ze->Mo Sq:=λenv st=>(f env st).bind iI
def yO (h:ME X Er e fa):MI X Er tg e (yt fa):=PI.weak (Oo h) fun σ H Q ⟨env,st,ρ,re,rs,h⟩=>⟨env,st,ρ,re,rs,h.then λah H1 x ae e1 s1 h1 v rv=>by
 cases x with
 |tup xs =>
  obtain ⟨a,vs,rfl,k1,k2⟩:=rv
  exact .inr (.inl ⟨a,rfl,⟨vs,k1⟩,Out.now (x:=Sq.im xs) h1 s1 _ (Oq k1 k2)⟩)
 |frl xs =>
  obtain ⟨a,vs,rfl,k1,k2⟩:=rv
  exact .inl ⟨a,rfl,⟨vs,k1.sq⟩,Out.now (x:=Sq.im xs) h1 s1 _ (Ot k1 k2)⟩
 |str z =>
  cases rv
  exact .inr (.inr ⟨z,rfl,Out.now (x:=Sq.im (signs z)) h1 s1 _ (Ou z)⟩)
 |ref n =>
  obtain ⟨a,rfl,ha⟩:=rv
  obtain ⟨xs,hn,h1⟩:=jE h1
  obtain ⟨vs,k1,k2⟩:=s1.addr hn ha
  exact .inl ⟨a,rfl,⟨vs,ba.of k1⟩,h1.now s1 _ ⟨a,ha,rfl⟩⟩
 |_=>exact h1.elim⟩
abbrev cR (j:Int):Bool:=decide (-(2 ^ 62)<=j)&&decide (j<2 ^ 62)
def lZ:List PV->Mo Sq
 |[.int j],st=>if cR j=true then .ok (.im (nums 0 j.toNat)) st else .stuck
 |_,_=>.stuck
def Ow {ρ:Af}{H:Hp}{xs:Aq}{st:aa}{good:List Addr->Hp->Sq->aa->Prop}(h:Out K mg ρ H (lZ xs st) good Er):∃j,xs=[.int j] /\ -(2 ^ 62)<=j/\j<2 ^ 62/\Out K mg ρ H (.ok (.im (nums 0 j.toNat)) st) good Er:=by
 unfold lZ at h
 split at h
 ·obtain ⟨c,h⟩:=Out.ifp h
  simp [cR] at c
  exact ⟨_,rfl,c.1,c.2,h⟩
 ·exact h.elim
def cf (fs:Aj):ze->Mo Sq:=λenv st=>(fs env st).bind lZ
def Ox {a:Expr} (hm:X.mg "range" = none) (ha:MA X Er [a] fs) (hg:Gl X "range" := by rfl) (hs:starEach [a] X.env=[(false,eval a X.env)]:=by rfl):MI X Er tg (.Call (.Name "range" p) [a] [] pos) (cf fs) :=
 PI.weak (JM hg hm ha hs) fun σ H Q ⟨env,st,ρ,re,rs,h⟩=>⟨env,st,ρ,re,rs,h.then λah H1 xs ae e1 s1 h1 vs rv=>by
  obtain ⟨j,rfl,c1,c2,h1⟩:=Ow h1
  obtain ⟨v,rfl,rfl⟩:=Rs.one rv
  exact ⟨j,rfl,c1,c2,h1.now s1 _ (Ov 0 j.toNat)⟩⟩
def l8 (xs ys:Aq):Aq:=(xs.zip ys).map λq=>.tup [q.1,q.2]
def pX:List PV->Mo Sq
 |[.tup xs,.tup ys],st=>.ok (.im (l8 xs ys)) st
 |_,_=>.stuck
def Oy {ρ:Af}{H:Hp}{xs:Aq}{st:aa}{good:List Addr->Hp->Sq->aa->Prop}(h:Out K mg ρ H (pX xs st) good Er):∃ys zs,xs=[.tup ys,.tup zs]/\Out K mg ρ H (.ok (.im (l8 ys zs)) st) good Er:=by
 unfold pX at h
 split at h
 ·exact ⟨_,_,rfl,h⟩
 ·exact h.elim
def Oz {ρ:Af}{H:Hp}{a b:Addr}{xs ys:Aq}{vs ws:List V}(h:bt K H a vs) (r:Rs K mg ρ H xs vs) (h':bt K H b ws) (r':Rs K mg ρ H ys ws):Walk K mg (vU K a b) ρ H (.im (l8 xs ys)):=by
 have hl:(l8 xs ys).length=min xs.length ys.length:=by simp [l8]
 have l1:=r.len
 have l2:=r'.len
 refine ⟨λi ak H' e hi=>?_,λi ak H' e hi=>⟨vs,ws,e.sqT h,e.sqT h',by rw [hl] at hi;omega⟩,λi ak H' st v H2 e s hi y=>?_⟩
 ·rw [hl] at hi
  obtain ⟨v,hv,_⟩:=r.get (yi (show i<xs.length by omega))
  obtain ⟨w,hw,_⟩:=r'.get (yi (show i<ys.length by omega))
  exact ⟨vs,ws,v,w,e.sqT h,e.sqT h',hv,hw⟩
 ·rw [hl] at hi
  obtain ⟨T,v',w',hT,rfl,rfl,y1,y2⟩:=y
  have k1:i<xs.length:=by omega
  have k2:i<ys.length:=by omega
  obtain ⟨v,hv,rv⟩:=r.get (yi k1)
  obtain ⟨w,hw,rw'⟩:=r'.get (yi k2)
  have q1:=y1 vs (e.sqT h)
  have q2:=y2 ws (e.sqT h')
  rw [hv] at q1
  rw [hw] at q2
  cases q1;cases q2
  refine ⟨.tup [xs[i],ys[i]],?_,Ext.new hT,s.new hT,R.tup_of ⟨_,[_],rfl,R.ext e _ rv,_,[],rfl,R.ext e _ rw',rfl⟩ hT⟩
  rw [l8,jd,yi (by simp;omega)]
  simp
def xg (fs:Aj):ze->Mo Sq:=λenv st=>(fs env st).bind pX
def OA {elts:List Expr} {kt:Nat} {tp:Pos} {x y:Expr} (hm:X.mg "zip" = none) (ha:MA X Er [x,y] fs) (hg:Gl X "zip" := by rfl) (hs:starEach [x,y] X.env=[(false,eval x X.env),(false,eval y X.env)]:=by rfl) (dY:starEach [y] X.env=[(false,eval y X.env)]:=by rfl) :
  MI X Er (.Tuple elts kt tp) (.Call (.Name "zip" p) [x,y] [] pos) (xg fs) :=
 PI.weak (M8 hg hm ha hs dY) fun σ H Q ⟨env,st,ρ,re,rs,h⟩=>⟨env,st,ρ,re,rs,h.then λah H1 xs ae e1 s1 h1 vs rv=>by
  obtain ⟨ys,zs,rfl,h1⟩:=Oy h1
  obtain ⟨v,w,rfl,⟨a,us,rfl,k1,k2⟩,⟨b,ws,rfl,k3,k4⟩⟩:=Rs.two rv
  exact ⟨a,b,rfl,⟨us,k1⟩,⟨ws,k3⟩,h1.now s1 _ (Oz k1 k2 k3 k4)⟩⟩
def bK (t:Am) (b:Al):Nat->Al
 |0,_,_=>.stuck
 | n+1,env,st=>(t env st).bind λc ae=>if c=true then (b env ae).bind λfl aG=>match fl with
   |.nx e=>bK t b n e aG
   |.ct e=>bK t b n e aG
   |.bk e=>.ok (.nx e) aG
   |.rt v=>.ok (.rt v) aG
  else .ok (.nx env) ae
def kJ (t:Am) (b:Al):Al:=bK t b lim
def OB (hp:PassesOwn (model X.prog X.w) X.A X.env X.xe) (hc:MT X Er c ga) (hb:dB X Er cO gb):MS X Er (.While c cO [] pos) (kJ ga gb) :=
 PS.weak (JH hp hc hb) λD σ H ⟨env,st,ρ,re,rs,h⟩=>by
  refine ⟨λm σ H=>∃env st ρ,bg X.K X.mg ρ H env σ/\a4 X.K X.mg ρ H st/\Out X.K X.mg ρ H (bK ga gb m env st) (gS X.K X.mg D) Er,⟨lim,env,st,ρ,re,rs,h⟩,?_⟩
  rintro m σ H ⟨env,st,ρ,re,rs,h⟩
  cases m with
  |zero=>exact h.elim
  |succ m =>
   refine ⟨env,st,ρ,re,rs,Out.then h λah H1 k ae e1 s1 h1=>?_⟩
   cases k with
   |true =>
    change (if true=true then _ else D.nx σ H1)
    rw [zC rfl]
    refine ⟨_,λaj H' p'=>⟨m,wt m,p'⟩,env,ae,ah,re.ext e1,s1,Out.then h1 λao H3 fl a8 e3 s3 h3=>?_⟩
    cases fl with
    |nx e=>exact λaA r4=>⟨e,a8,ao,r4,s3,h3⟩
    |ct e=>exact λaA r4=>⟨e,a8,ao,r4,s3,h3⟩
    |bk e=>exact Out.fl (D:=D) (fl:=.nx e) (E:=Er) h3 s3
    |rt v=>exact Out.fl (D:=D) (fl:=.rt v) (E:=Er) h3 s3
   |false =>
    have z:D.nx σ H1:=Out.fl (D:=D) (fl:=.nx env) (E:=Er) h1 s1 σ (re.ext e1)
    exact z
def bC {α:Type}:Res α->Res α
 |.err _ _ _ _=>.stuck
 |r=>r
def wQ {α β:Type}{ρ:Af}{H:Hp}{r:Res β}{f:β->Mo α}{good:List Addr->Hp->α->aa->Prop}{dQ:List Addr->Hp->β->aa->Prop}{E E':XK}(h:Out K mg ρ H ((bC r).bind f) good E) (g:∀ak H' x st,Ext ρ H ak H'->a4 K mg ak H' st->Out K mg ak H' (f x st) good E->dQ ak H' x st):Out K mg ρ H r dQ E':=by
 cases r with
 |ok x st=>exact λak H' e s=>g ak H' x st e s (Out.ext h e)
 |err=>exact h.elim
 |stuck=>exact h.elim
def OC (K:Frag) (mg:Ab) (f:Ak):TX:=fun σ H Q E=>∃env st ρ,bg K mg ρ H env σ/\a4 K mg ρ H st/\Out K mg ρ H (f env st) (gV K mg Q) E
def MX (X:Cx) (e:Expr) (f:Ak):Prop:=PX X e (OC X.K X.mg f)
def PX.weak {t t':TX}(h:PX X e t) (w:∀σ H Q E,t' σ H Q E->t σ H Q E):PX X e t':=λpins s σ H Q E I q=>h pins s σ H Q E I (w σ H Q E q)
def OD (X:Cx) (name:Str) (k:Nat) (ta:TE) (t:TA):TX:=fun σ H Q E=>ta σ H λx H1=>∃a C dx fs f fd ps sp,x=.ref a/\H1 a=some (.ins C dx fs)/\fs.lookup name=none/\eh X.K C/\Meth X.K C name f/\Binds X.K fd ps []/\bz X.prog X.w X.K X.mg X.base (cv X.prog X.w) k f fd ps sp /\
 t σ H1 λvs H2=>sp (x::vs) H2 Q E
def OE {pl:Sem Bool}{name:Str}{ta:TE}{t:TA}(he:PE X.nox o ta) (hr:bb k X.A) (ha:PA X.nox (e::es) t)
  (bx:starEach (e::es) X.env=(false,eval e X.env)::starEach es X.env:=by rfl) (bT:(backTo pos (starEach es X.env)).any (·.1)=false:=by rfl)
  (ht:eval (.Call (.Attribute o name apos) (e::es) [] pos) X.env=(do
   let ov <-eval o X.env
   standAt apos.atName
   let (f,first) <-holding [ov] (getMethod ov name pl)
   callWith pos f first (backTo pos (starEach (e::es) X.env)) (backToKw pos (keywordEach [] X.env))):=by rfl) :
  PX X (.Call (.Attribute o name apos) (e::es) [] pos) (OD X name k ta t):=by
 intro pins s σ H Q E I h
 refine PySem.W.methodCall_KW (pl:=pl) (jn (he pins s σ H _ (I.wish _) h) (λu s1 gg=>?_) λ_ _ z=>z.elim) ht
 obtain ⟨x,H1,I1,rx,a,C,dx,fs,f,fd,ps,sp,ex,ea,l,c,hm,hb,F,q⟩:=gg
 subst ex
 obtain rfl:u=Value.ref a:=rx
 refine ve I1.unwish ea c hm l ?_
 refine PySem.W.callWith_K (first:=[.ref a]) (h₀:=X.base) I.ok.mod.kin hm.kp (jn (ha pos pins s1 σ H1 _ I1 q) (λus s2 ⟨vs,H2,I2,r,q2⟩=>⟨I2.unwish.kIn,?_⟩) λ_ _ z=>z.elim) bx bT
 exact MC (us:=.ref a::us) (vs:=.ref a::vs) F hr hb .nil I2.unwish (.cons rfl r) (by rw [List.append_nil];exact q2)
def fC (name:Str) (tab:Str->Option (An)) (fo:Ak) (fs:Aj):Ak:=λenv st=>(bC (fo env st)).bind λo ae=>fP name tab o ae λn m=>(bC (fs env ae)).bind λys aG=>m (.ref n::ys) aG
def OG {pl:Sem Bool}{name:Str}{tab:Str->Option (An)}(hT:∀c m,tab c=some m->cY X.prog X.w X.K X.mg X.base c name k m) (ho:ME X.nox E0 o fo) (hr:bb k X.A) (ha:MA X.nox E0 (e::es) fs)
  (bx:starEach (e::es) X.env=(false,eval e X.env)::starEach es X.env:=by rfl) (bT:(backTo pos (starEach es X.env)).any (·.1)=false:=by rfl)
  (pU:eval (.Call (.Attribute o name apos) (e::es) [] pos) X.env=(do
   let ov <-eval o X.env
   standAt apos.atName
   let (f,first) <-holding [ov] (getMethod ov name pl)
   callWith pos f first (backTo pos (starEach (e::es) X.env)) (backToKw pos (keywordEach [] X.env))):=by rfl) :
  MX X (.Call (.Attribute o name apos) (e::es) [] pos) (fC name tab fo fs) :=
 PX.weak (OE (pl:=pl) ho hr ha bx bT pU) fun σ H Q E ⟨env,st,ρ,re,rs,h⟩=>⟨env,st,ρ,re,rs,wQ h λah H1 x ae e1 s1 h1 v rv=>by
  obtain ⟨n,c,ks,xs,m,rfl,hn,hk,hc,h1⟩:=xb h1
  obtain ⟨C,f,fd,ps,hC,cl,hm,hb,F⟩:=hT c m hc
  obtain ⟨p,rfl,hp⟩:=rv
  obtain ⟨C',dx,vs,hC',hH,hR,hl⟩:=s1.addr hn hp
  rw [hC] at hC'
  cases hC'
  exact ⟨p,C,dx,_,f,fd,ps,_,rfl,hH,nR hk,cl,hm,hb,F,env,ae,ah,re.ext e1,s1,wQ h1 λax H2 ys aG e2 s2 h2 ws rws=>⟨.ref n::ys,aG,ax,⟨_,_,rfl,⟨p,rfl,e2.get hp⟩,rws⟩,s2,h2⟩⟩⟩
def pY (ks:Ae) (ps:Aq):PV->Mo PV
 |.str z,st=>b_ ((ks.zip ps).lookup z) st
 |_,_=>.stuck
def KdF (X:Cx) (name:Str) (ks:Ae) (ps:Aq) (full:Bool):Prop:=∃O,X.mg name=some (.ref O)/\KD X O/\(∀z q,(ks.zip ps).lookup z=some q->∃u v,nsIn X.K O z=some (some u)/\RelV v u/\∀ρ H,R X.K X.mg ρ H q v)/\(full=true->∀z,(ks.zip ps).lookup z=none->nsIn X.K O z=some none)
def OH {name:Str} {ks:Ae} {ps:Aq} {full:Bool} (F:KdF X name ks ps full) (hb:ME X Er b fb) (hs:eU b:=by exact λ_ _=>rfl) (hg:Gl X name:=by rfl) (hd:(name==("__debug__" : Str))=false:=by decide):ME X Er (.Subscript (.Name name p) b pos) (yQ (pY ks ps) fb):=by
 obtain ⟨O,hm,kd,hl,_⟩:=F
 refine PE.weak (Cs M9 (uZ (v:=.ref O) hg hm rfl hd) hb hs) fun σ H Q ⟨env,st,ρ,re,rs,h⟩=>⟨env,st,ρ,re,rs,h.then λah H1 x ae e1 s1 h1 v rv=>?_⟩
 cases x with
 |str z =>
  cases rv
  obtain ⟨q,hq,h1⟩:=iG h1
  obtain ⟨u,v,h2,h3,h4⟩:=hl z q hq
  exact ⟨O,z,u,v,rfl,rfl,kd,h2,h3,h1.now s1 _ (h4 _ _)⟩
 |_=>exact h1.elim
def pZ (neg:Bool) (ks:Ae) (ps:Aq) (full:Bool):PV->Mo PV
 |.str z,st=>if ((ks.zip ps).lookup z).isSome=true\/full=true then .ok (.bl (neg.xor ((ks.zip ps).lookup z).isSome)) st else .stuck
 |_,_=>.stuck
def OI {name:Str}{ks:Ae}{ps:Aq}{full:Bool}{O:Addr}(hl:∀z q,(ks.zip ps).lookup z=some q->∃u v,nsIn X.K O z=some (some u)/\RelV v u/\∀ρ H,R X.K X.mg ρ H q v) (hf:full=true->∀z,(ks.zip ps).lookup z=none->nsIn X.K O z=some none) {z:Str}(h:((ks.zip ps).lookup z).isSome=true\/full=true):∃r,nsIn X.K O z=some r/\r.isSome=((ks.zip ps).lookup z).isSome:=by
 cases hq:(ks.zip ps).lookup z with
 |some q=>obtain ⟨u,v,h2,_⟩:=hl z q hq;exact ⟨_,h2,rfl⟩
 |none =>
  rw [hq] at h
  rcases h with h|h
  ·cases h
  ·exact ⟨none,hf h z hq,rfl⟩
def OJ {name:Str} {ks:Ae} {ps:Aq} {full:Bool} (F:KdF X name ks ps full) (ha:ME X Er a fa) (hg:Gl X name:=by rfl) (hd:(name==("__debug__" : Str))=false:=by decide) (hk:behindInMarks .NotIn (.Name name p)=false:=by with_unfolding_all rfl):MT X Er (.Compare a [.NotIn] [.Name name p] pos) (mB (yQ (pZ true ks ps full) fa)):=by
 obtain ⟨O,hm,kd,hl,hf⟩:=F
 refine PT.weak (BZ M_ ha (uZ (v:=.ref O) hg hm rfl hd) hk) fun σ H Q h=>?_
 obtain ⟨env,st,ρ,re,rs,h⟩:=vX h
 refine ⟨env,st,ρ,re,rs,h.then λah H1 x ae e1 s1 h1 v rv=>?_⟩
 cases x with
 |str z =>
  cases rv
  obtain ⟨q,h1⟩:=Out.ifp h1
  obtain ⟨r,h2,h3⟩:=OI (name:=name) hl hf q
  have:=Out.now h1 s1 _ rfl
  exact ⟨O,z,r,rfl,rfl,kd,h2,by rw [h3];simpa using this⟩
 |_=>exact h1.elim
def yY:Ao
 |.ref n,y,st=>yq st n λxs=>if xs.length<lim then .ok .non (st.set n (.lst (xs++[y]))) else .stuck
 |_,_,_=>.stuck
def R.refL {ρ:Af}{H:Hp}{st:aa}{n:Nat}{xs:Aq}{v:V}(s:a4 K mg ρ H st) (r:R K mg ρ H (.ref n) v) (h:st[n]?=some (.lst xs)):∃a vs,v=.ref a/\ρ[n]?=some a/\H a=some (.lst vs)/\Rs K mg ρ H xs vs:=by
 obtain ⟨a,rfl,ha⟩:=r
 obtain ⟨vs,h1,h2⟩:=s.addr h ha
 exact ⟨a,vs,rfl,ha,h1,h2⟩
def kK:PV->Mo PV
 |.ref n,st=>yq st n λ_=>.ok (.ref n) st
 |_,_=>.stuck
def yS (op:Ao) (fo fv:Ak):Ak:=λenv st=>(fo env st).bind λo ae=>(kK o ae).bind λo ae=>(fv env ae).bind λy aG=>op o y aG
def DS {α:Type}{ρ:Af}{H:Hp}{x:PV}{st:aa}{f:PV->Mo α}{good:List Addr->Hp->α->aa->Prop}(h:Out K mg ρ H ((kK x st).bind f) good Er):∃n xs,x=.ref n/\st[n]?=some (.lst xs)/\Out K mg ρ H (f (.ref n) st) good Er:=by
 cases x with
 |ref n =>
  unfold kK yq at h
  cases hn:st[n]? with
  |none=>simp only [hn] at h;exact h.elim
  |some so =>
   cases so with
   |lst xs=>simp only [hn] at h;exact ⟨n,xs,rfl,hn,h⟩
   |_=>simp only [hn] at h;exact h.elim
 |_=>exact h.elim
def wG {a6:Pos} (ho:ME X Er o fo) (he:ME X Er e fa) (cg:attributeBase o "append" X.env (eval o X.env)=eval o X.env:=by rfl)
  (eV:((backTo a6 (starEach [e] X.env)).all (λx=>!x.1)&&(backToKw a6 (keywordEach [] X.env)).all (λx=>x.1.isSome)&&decide ([e].length+([]:List Keyword).length+(if ([]:List Keyword).isEmpty then 0 else 1)<30))=true:=by rfl)
  (cw:(apos.endLine==a6.line)=true:=by rfl) (hs:starEach [e] X.env=(false,eval e X.env)::starEach [] X.env:=by rfl) (bT:(backTo a6 (starEach [] X.env)).any (·.1)=false:=by rfl):ME X Er (.Call (.Attribute o "append" apos) [e] [] a6) (yS yY fo fa) :=
 PE.weak (vn PySem.F.plainAttrs_list PySem.F.slot_list_append PySem.F.type_list_append zov ho (rE he rD hs) cg eV cw hs bT) fun σ H Q ⟨env,st,ρ,re,rs,h⟩=>⟨env,st,ρ,re,rs,h.then λah H1 x ae e1 s1 h1 v rv=>by
  obtain ⟨n,xs,rfl,hn,h1⟩:=DS h1
  obtain ⟨p,vs,rfl,hp,k1,k2⟩:=R.refL s1 rv hn
  refine ⟨.inl ⟨rfl,vs,ba.of k1⟩,env,ae,ah,re.ext e1,s1,h1.then λax H2 y aG e2 s2 h2 w rw=>?_⟩
  obtain ⟨xs2,fK,h2⟩:=jE h2
  obtain ⟨c,h2⟩:=Out.ifp h2
  obtain ⟨p',nJ,e3,pE,k3,k4⟩:=R.refL s2 (R.ext e2 _ rv) fK
  cases e3
  have ew:Ext ax H2 ax (upd H2 p (.lst (nJ++[w]))):=Ext.write k3 rfl
  refine ⟨p,nJ,w,rfl,rfl,k3,?_,h2 ax _ ew (s2.write pE ew ⟨nJ++[w],yU,Rs.ext ew _ (k4.append ⟨w,[],rfl,rw,rfl⟩)⟩) _ rfl⟩
  rw [<-k4.len,sizeLine_eq];have:xs2.length<1000000:=c;omega⟩
end
def endOf:Fl->Mo PV
 |.rt v,st=>.ok v st
 |.nx _,st=>.ok .non st
 |_,_=>.stuck
def yb (np nN:Nat) (g:Al):An:=λxs st=>if xs.length=np then (g (xs.map some++List.replicate (nN-np) none) st).bind endOf else .stuck
section
variable {P:Program} {w:World} {K:Frag} {mg:Ab} {base:Heap}
abbrev sk (P:Program) (w:World) (K:Frag) (mg:Ab) (base:Heap) (N:Ae) (qual:Str) (scope:Scope) (f:Addr) (cd:Value) (A:Around) (outer:List Env) (s:Shared) (H:Hp) (E:XK):Cx :=
 (dn (cv P w) P w K mg base N qual scope f cd A outer s H E).wish (XA (dn (cv P w) P w K mg base N qual scope f cd A outer s H E) E)
def OK {N:Ae}{np:Nat}{ρ:Af}{H:Hp}{xs:Aq}{vs:List V}(r:Rs K mg ρ H xs vs) (h:xs.length=np):bg K mg ρ H (xs.map some++List.replicate (N.length-np) none) (L2.start N vs):=by
 have hl:=r.len
 refine ⟨by simp [L2.start,<-hl,h],λi x hx=>?_⟩
 by_cases hi:i<xs.length
 ·rw [wD (by simpa using hi)] at hx
  simp only [jd] at hx
  cases hq:xs[i]? with
  |none=>rw [hq] at hx;cases hx
  |some y =>
   rw [hq] at hx
   cases hx
   obtain ⟨v,hv,rv⟩:=r.get hq
   refine ⟨v,?_,rv⟩
   unfold L2.start
   rw [wD (by simp;omega)]
   simp [hv]
 ·rw [wX (by simpa using hi)] at hx
  rw [List.getElem?_replicate] at hx
  split at hx<;>cases hx
def sr {x qual:Str}{sm:Stmt}{f:Addr}{fd:FuncData}{N ps:Ae}{k:Nat}{g:Al}(F:dJ K x qual sm f fd) (S:aE N ps (zG sm))
  (hb:∀(aY:Value) (A:Around) (outer:List Env) (s:Shared) (H:Hp) (E:XK),bb k (A.deeper (PyProof.Rows.envOfC qual (zG sm) s.heap.objs.size f aY))->dB (sk P w K mg base N qual (zG sm) f aY A outer s H E) E (jz sm) g) :
  bz P w K mg base (cv P w) (k+1) f fd ps (gL K mg (yb ps.length N.length g)):=by
 refine F.okT S (λvs H Q E h=>?_) λaY A outer s H vs Q E hr h=>⟨_,hb aY A outer s H E hr,?_⟩
 ·obtain ⟨xs,st,ρ,r,_,h⟩:=h
  obtain ⟨hl,_⟩:=Out.ifp h
  rw [<-r.len];exact hl
 ·obtain ⟨xs,st,ρ,r,rs,h⟩:=h
  obtain ⟨hl,h⟩:=Out.ifp h
  refine ⟨_,st,ρ,OK r hl,rs,h.then λah H1 fl ae e1 s1 h1=>?_⟩
  cases fl with
  |rt v=>exact λu ru=>Out.now (x:=v) h1 s1 u ru
  |nx e=>exact λaj _=>Out.now (x:=PV.non) h1 s1 _ rfl
  |_=>exact h1.elim
def OL {x:Str}{f:Addr}{fd:FuncData}{ps:Ae}{k:Nat}{m:An}{sm:Stmt}{qual nm:Str}(hm:mg x=some (.ref f)) (F:dJ K nm qual sm f fd) (hb:Binds K fd ps []) (h:bz P w K mg base (cv P w) k f fd ps (gL K mg m)):a7 P w K mg base x k m:=⟨f,fd,ps,hm,F.kp,hb,h⟩
end
section
variable {X:Cx} {Er:XK} {P:Program} {w:World} {K:Frag} {mg:Ab} {base:Heap} {x:Str} {st:Stmt}
def zm {k:Nat}{A:Around}(hr:bb k A):A.units+200<cLine:=by have:=hr.un;omega
def yu:Al:=λ_ _=>.stuck
def yW:MS X Er st yu:=PS.weak Jw λD σ H ⟨env,st,ρ,re,rs,h⟩=>h
def FnF (K:Frag) (mg:Ab) (x:Str) (sm:Stmt) (ps:Ae):Prop:=∃f fd,mg x=some (.ref f)/\dJ K x x sm f fd/\Binds K fd ps []
def MtF (K:Frag) (mg:Ab) (c name qual:Str) (sm:Stmt) (ps:Ae):Prop:=∃C f fd,mg c=some (.ref C)/\eh K C/\Meth K C name f/\dJ K name qual sm f fd/\Binds K fd ps []
def NwF (K:Frag) (mg:Ab) (c qual:Str) (sm:Stmt) (ps:Ae):Prop:=∃C f fd,mg c=some (.ref C)/\Mk K C f/\dJ K "__init__" qual sm f fd/\Binds K fd ps []
def XnF (K:Frag) (mg:Ab) (c fld qual:Str) (sm:Stmt):Prop:=∃C f fd,mg c=some (.ref C)/\f7 K C f/\lS K C fld/\dJ K "__init__" qual sm f fd/\Binds K fd ["self", fld] []
def FnF.ok {sm:Stmt}{N ps:Ae}{k:Nat}{g:Al}(h:FnF K mg x sm ps) (S:aE N ps (zG sm))
  (hb:∀(f:Addr) (aY:Value) (A:Around) (outer:List Env) (s:Shared) (H:Hp) (E:XK),bb k (A.deeper (PyProof.Rows.envOfC x (zG sm) s.heap.objs.size f aY))->dB (sk P w K mg base N x (zG sm) f aY A outer s H E) E (jz sm) g) :
  a7 P w K mg base x (k+1) (yb ps.length N.length g):=by
 obtain ⟨f,fd,hm,F,b⟩:=h
 exact OL hm F b (sr F S (hb f))
def MtF.ok {c name qual:Str}{sm:Stmt}{N ps:Ae}{k:Nat}{g:Al}(h:MtF K mg c name qual sm ps) (S:aE N ps (zG sm))
  (hb:∀(f:Addr) (aY:Value) (A:Around) (outer:List Env) (s:Shared) (H:Hp) (E:XK),bb k (A.deeper (PyProof.Rows.envOfC qual (zG sm) s.heap.objs.size f aY))->dB (sk P w K mg base N qual (zG sm) f aY A outer s H E) E (jz sm) g) :
  cY P w K mg base c name (k+1) (yb ps.length N.length g):=by
 obtain ⟨C,f,fd,hm,cl,mt,F,b⟩:=h
 exact ⟨C,f,fd,ps,hm,cl,mt,b,sr F S (hb f)⟩
def NwF.ok {c qual:Str}{sm:Stmt}{N ps:Ae}{k:Nat}{g:Al}(h:NwF K mg c qual sm ps) (S:aE N ps (zG sm))
  (hb:∀(f:Addr) (aY:Value) (A:Around) (outer:List Env) (s:Shared) (H:Hp) (E:XK),bb k (A.deeper (PyProof.Rows.envOfC qual (zG sm) s.heap.objs.size f aY))->dB (sk P w K mg base N qual (zG sm) f aY A outer s H E) E (jz sm) g) :
  pS P w K mg base c (k+1) (yb ps.length N.length g):=by
 obtain ⟨C,f,fd,hm,mk,F,b⟩:=h
 exact ⟨C,f,fd,ps,hm,mk,b,sr F S (hb f)⟩
def XnF.ok {c fld qual:Str} {sm:Stmt} (h:XnF K mg c fld qual sm) (S:aE ["self", fld] ["self", fld] (zG sm))
  (hb:∀(C f:Addr) (aY:Value) (A:Around) (outer:List Env) (s:Shared) (H:Hp) (E:XK),lS K C fld->cq (dn (cv P w) P w K mg base ["self", fld] qual (zG sm) f aY A outer s H E) (jz sm) (Mz K (uY 0) (uY 1) fld)) :
  NU P w K mg base c fld:=by
 obtain ⟨C,f,fd,hm,M,xc,F,b⟩:=h
 refine ⟨C,f,fd,hm,M,F.okX S (λvs H Q E h=>?_) (λaY A outer s H vs Q E hr h=>⟨_,hb C f aY A outer s H E xc,?_⟩),b⟩
 ·obtain ⟨a,t,y,rfl,_⟩:=h;rfl
 ·obtain ⟨a,t,y,rfl,ha,q⟩:=h
  exact ⟨y,rfl,.ref a,rfl,a,C,t,rfl,ha,xc,λd hd=>q d hd⟩
def XnF.tr {c fld qual:Str}{sm:Stmt}(h:XnF K mg c fld qual sm):∃C,mg c=some (.ref C)/\g0 K C:=by
 obtain ⟨C,f,fd,hm,M,_⟩:=h
 exact ⟨C,hm,M.of⟩
def nV {p:Addr} {oc:Value} {od:Option Addr} {its:Array Value} {n:Nat} {sl:Array (Option Value)} {xs:Aq} {vs:List V} (hl:K.lookup p=some ⟨oc,od,.seq its n,sl⟩) (hc:oc=.type "tuple") (hz:its.size<=1000) (hv:Vals vs its.toList) (hr:∀ρ H,Rs K mg ρ H xs vs):∀ρ H,R K mg ρ H (.tup xs) (.ref p) :=
 fun ρ H=>⟨p,vs,rfl,.inr ⟨_,its,n,hl,hc,rfl,by rw [sizeLine_eq];omega,hv⟩,hr ρ H⟩
def jq:bootBuiltins "len" = some (.builtin "len"):=by decide +kernel
def OM:bootBuiltins "isinstance" = some (.builtin "isinstance"):=by decide +kernel
def xh:bootBuiltins "int" = some (.type "int"):=by decide +kernel
def OO:bootBuiltins "bool" = some (.type "bool"):=by decide +kernel
def xi:bootBuiltins "str" = some (.type "str"):=by decide +kernel
def jM:bootBuiltins "tuple" = some (.type "tuple"):=by decide +kernel
def OQ:bootBuiltins "dict" = some (.type "dict"):=by decide +kernel
def OR:bootBuiltins "list" = some (.type "list"):=by decide +kernel
end
theorem a7.mono {P:Program}{w:World}{K:Frag}{mg:Ab}{base:Heap}{x:Str}{j k:Nat}{m:An}(h:a7 P w K mg base x j m) (xj:j<=k):a7 P w K mg base x k m:=by
 obtain ⟨f,fd,ps,h1,h2,h3,h4⟩:=h
 exact ⟨f,fd,ps,h1,h2,h3,h4.mono xj⟩
theorem cY.mono {P:Program}{w:World}{K:Frag}{mg:Ab}{base:Heap}{c x:Str}{j k:Nat}{m:An}(h:cY P w K mg base c x j m) (xj:j<=k):cY P w K mg base c x k m:=by
 obtain ⟨C,f,fd,ps,h1,h2,h3,h4,h5⟩:=h
 exact ⟨C,f,fd,ps,h1,h2,h3,h4,h5.mono xj⟩
def iJ (K:Frag):Sp:=λvs H Q _=>∃(a:Addr) (ns:List Int),vs=[.ref a]/\ba K H a (ns.map V.int)/\Only H/\ns.length<=63/\∀H',Q (.bl true) H'
theorem DT {K:Frag}{mg:Ab}{ρ:Af}{H:Hp}:∀ns:List Int,Rs K mg ρ H (ns.map PV.int) (ns.map V.int)
 |[]=>rfl
 |n::ns=>⟨_,_,rfl,rfl,DT ns⟩
def OS {K:Frag}{H:Hp}{a:Addr}{vs:List V}(h:ba K H a vs) (o:Only H):iD K H a vs:=by
 rcases h with (h|⟨ob,h⟩)|h
 ·rcases o a with z|⟨ob,xs,z⟩
  ·rw [h] at z;cases z
  ·rw [h] at z;cases z
 ·exact .inl ⟨ob,h⟩
 ·exact .inr h
def OT {P:Program}{w:World}{K:Frag}{mg:Ab}{base:Heap}{k:Nat}{f:Addr}{fd:FuncData}{ps:Ae}{m:An}(F:bz P w K mg base (cv P w) k f fd ps (gL K mg m)) (h:∀ns:List Int,ns.length<=63->∃st,m [.frl (ns.map PV.int)] []=.ok (.bl true) st):bz P w K mg base (cv P w) k f fd ps (iJ K) :=
 F.imp λvs H Q E ⟨a,ns,e,hs,ho,hl,q⟩=>by
  subst e
  obtain ⟨st,hm⟩:=h ns hl
  refine ⟨[.frl (ns.map PV.int)],[],[],⟨_,[],rfl,⟨a,_,rfl,OS hs ho,DT ns⟩,rfl⟩,⟨rfl,List.nodup_nil,λn so e=>by simp at e⟩,?_⟩
  rw [hm]
  intro ak H' _ _ v rv
  cases rv
  exact q H'
def walkM {l:PySem.W.OpenLaw}{k:Nat}{x:Str}{q:Program}{loose:Ae}{XP:(Ab)->Heap->Prop}{YP:World->Heap->Prop}{d:DefRec}{K:Params->PySem.W.Frag}(hn:l.most=some 63) (pd:d.params.defaults=[]) (hr:bb k callerA)
  (hY:∀(w:World) (h:Heap),YP w h->(K w.params).In h)
  (F:∀(w:World) (mg:Ab) (fa:Addr) (h:Heap),(K w.params).In h->h.Ns mainGlobals mg->mg d.name=some (.ref fa) ->
   ∃fd:FuncData,(∀(s:Shared) (u:Value),BindsTo s fd ⟨[u],[]⟩ [(x,u)])/\∀base:Heap,(K w.params).In base->base.Ns mainGlobals mg->bz l.prog w (K w.params) mg base (cv l.prog w) k fa fd [x] (iJ (K w.params))) :
  PySem.W.WalkO q loose XP YP l.row.toRowW d [] (λf vs=>PySem.call f vs) :=
 L2.zoG (n:=63) (k:=k) (x:=x) (CX:=λw=>cv l.prog w) (sp:=λw=>iJ (K w.params)) hn (by decide) pd hr hY F (λ_ _ a ns hl ho hS=>⟨a,ns,rfl,hS,ho,hl,λ_=>rfl⟩) λw H s e s' g=>by obtain ⟨_,_,_,_,_,_,_,_,_,_,_,_,_,_,_,z⟩:=g;exact z
section
variable {α β:Type} {env:ze} {st ae:aa} {fa fb fo fv:Ak} {fs:Aj} {ga gb:Am} {g g':Al} {op:Ao} {o1:PV->Mo PV} {m:An}
@[simp] def zL (a:α) (f:α->Mo β):(Res.ok a st).bind f=f a st:=(rfl)
@[simp] def OU (i:Nat):za i env st=(match env[i]? with|some (some x)=>.ok x st|_=>.stuck):=(rfl)
@[simp] def Wa (x:PV):mC x env st=.ok x st:=(rfl)
@[simp] def OV:zc op fa fb env st=(fa env st).bind λx ae=>(fb env ae).bind λy aG=>op x y aG:=(rfl)
@[simp] def OW:yQ o1 fa env st=(fa env st).bind o1:=(rfl)
@[simp] def OX:mB fa env st=(fa env st).bind gJ:=(rfl)
@[simp] def xk (b:Bool):gJ (.bl b) st=.ok b st:=(rfl)
@[simp] def DU:ju ga gb env st=(ga env st).bind λc ae=>if c=true then gb env ae else .ok false ae:=(rfl)
@[simp] def DV:jL ga gb env st=(ga env st).bind λc ae=>if c=true then .ok true ae else gb env ae:=(rfl)
@[simp] def OY:iF ga env st=(ga env st).bind λc ae=>.ok (!c) ae:=(rfl)
@[simp] def DW:gK fa fb env st=(fa env st).bind λx ae=>(gJ x ae).bind λc aG=>if c=true then fb env aG else .ok (.bl false) aG:=(rfl)
@[simp] def OZ:r6 fa env st=(fa env st).bind λx ae=>(gJ x ae).bind λc aG=>.ok (.bl (!c)) aG:=(rfl)
@[simp] def O0:se ga fa fb env st=(ga env st).bind λc ae=>if c=true then fa env ae else fb env ae:=(rfl)
@[simp] def Wb:zj env st=.ok [] st:=(rfl)
@[simp] def O1:zf fa fs env st=(fa env st).bind λx ae=>(fs env ae).bind λxs aG=>.ok (x::xs) aG:=(rfl)
@[simp] def O2:yg fs env st=(fs env st).bind λxs ae=>if xs.length<=lim then .ok (.tup xs) ae else .stuck:=(rfl)
@[simp] def O3:jb fs env st=(fs env st).bind λxs ae=>if xs.length<=lim then .ok (.ref ae.length) (ae++[.lst xs]) else .stuck:=(rfl)
@[simp] def O4 (fl fu:ze->Mo (Option Int)):lV fa fl fu env st=(fa env st).bind λx ae=>(fl env ae).bind λl aG=>(fu env aG).bind λu a8=>pO x l u a8:=(rfl)
@[simp] def O5:dC fa env st=(fa env st).bind v_:=(rfl)
@[simp] def O6 (i:Int):v_ (.int i) st=.ok (some i) st:=(rfl)
@[simp] def O7:zq m fs env st=(fs env st).bind m:=(rfl)
@[simp] def O8 (x y:Str):yd (.str x) (.str y) st=if x.length+y.length<=lim then .ok (.str (x++y)) st else .stuck:=(rfl)
@[simp] def Wc (x:PV):b_ (some x) st=.ok x st:=(rfl)
@[simp] def DX (xs:Aq) (l u:Option Int):pO (.frl xs) l u st=.ok (.ref st.length) (st++[.lst (cX xs l u)]):=(rfl)
@[simp] def O9 (n:Nat):pP [.ref n] st=yq st n λxs=>.ok (.int xs.length) st:=(rfl)
@[simp] def Wd (x y:PV):zU x y st=if plain x=true/\plain y=true/\dep x<=150 then .ok (.bl (bN x y)) st else .stuck:=(rfl)
@[simp] def We (x y:PV):jV x y st=if plain x=true/\plain y=true/\dep x<=150 then .ok (.bl (!bN x y)) st else .stuck:=(rfl)
@[simp] def O_:zW env st=.ok (.nx env) st:=(rfl)
@[simp] def DY:zp g g' env st=(g env st).bind (fQ g'):=(rfl)
@[simp] def Pa:fQ g (.nx env) st=g env st:=(rfl)
@[simp] def Pb (x:PV):fQ g (.rt x) st=.ok (.rt x) st:=(rfl)
@[simp] def Pc (i:Nat):zB i fa env st=(fa env st).bind λx ae=>.ok (.nx (env.set i (some x))) ae:=(rfl)
@[simp] def Pd:yK fa env st=(fa env st).bind λ_ ae=>.ok (.nx env) ae:=(rfl)
@[simp] def Pe:zY fa env st=(fa env st).bind λx ae=>.ok (.rt x) ae:=(rfl)
@[simp] def DZ:zT ga g g' env st=(ga env st).bind λc ae=>if c=true then g env ae else g' env ae:=(rfl)
@[simp] def Pf (x:PV):endOf (.rt x) st=.ok x st:=(rfl)
@[simp] def Wf (e:ze):endOf (.nx e) st=.ok .non st:=(rfl)
@[simp] def iK:yt fa env st=(fa env st).bind iI:=(rfl)
@[simp] def xl (n:Nat):iI (.ref n) st=yq st n λ_=>.ok (.rf n) st:=(rfl)
@[simp] def Pg:xg fs env st=(fs env st).bind pX:=(rfl)
@[simp] def xm (src:ze->Mo Sq) (gt:PV->ze->Option ze):yF src gt g env st=(src env st).bind λq ae=>pW gt g q env ae:=(rfl)
@[simp] def Ph (gt:PV->ze->Option ze) (xs:Aq):pW gt g (.im xs) env st=forL gt g xs env st:=(rfl)
@[simp] def Wg (gt:PV->ze->Option ze):forL gt g [] env st=.ok (.nx env) st:=(rfl)
@[simp] def Wh (x:PV) (xs:Aq):bU (x::xs)=(Mi.plain x&&bU xs):=(rfl)
@[simp] def Wi (x:PV) (xs:Aq):dI (x::xs)=max (dep x) (dI xs):=(rfl)
@[simp] def we (a:α):bC (Res.ok a st)=.ok a st:=(rfl)
@[simp] def Wj:cW .non=true:=(rfl)
@[simp] def Wk (name:Str) (tab:Str->Option (An)):jG name tab fo fs env st=(fo env st).bind λo ae=>fP name tab o ae λn m=>(fs env ae).bind λys aG=>m (.ref n::ys) aG:=(rfl)
def yv {n:Nat}{xs:Aq}(h:st[n]?=some (.lst xs)) (k:List PV->Res α):yq st n k=k xs:=by unfold yq;rw [h]
def xo {n:Nat}{c:Str}{ks:Ae}{xs:Aq}(h:st[n]?=some (.ins c ks xs)) (k:Str->List Str->List PV->Res α):jA st n k=k c ks xs:=by unfold jA;rw [h]
@[simp] def D0 (f:Str) (i x:Str->Bool) (n:Nat):bX f i x (.ref n) st=jA st n λc ks xs=>if i c=true then b_ ((ks.zip xs).lookup f) st else .stuck:=(rfl)
@[simp] def Wl (ks:Ae) (ps:Aq) (z:Str):pY ks ps (.str z) st=b_ ((ks.zip ps).lookup z) st:=(rfl)
@[simp] def Pj (f:Str) (i:Str->Bool):Mi.sFld f i fo fv env st=(fv env st).bind λx ae=>(fo env ae).bind λo aG=>(putAt f i x o aG).bind λ_ a8=>.ok (.nx env) a8:=(rfl)
@[simp] def Pk:yS op fo fv env st=(fo env st).bind λo ae=>(kK o ae).bind λo ae=>(fv env ae).bind λy aG=>op o y aG:=(rfl)
@[simp] def Pl (n:Nat):kK (.ref n) st=yq st n λ_=>.ok (.ref n) st:=(rfl)
@[simp] def Wm (a b:String):(Str.ofString a=Str.ofString b)↔a=b:=by
 constructor
 ·intro h
  rw [Str.ofString_eq_byList] at h
  have h1:(a.toList.map Char.toNat)=(b.toList.map Char.toNat):=by
   have:=congrArg (λz=>z.cps.toList) h
   simpa [Str.ofStringByList] using this
  apply String.ext_iff.mpr
  exact (List.map_inj_right (λc d e=>Char.toNat_inj.mp e)).mp h1
 ·intro h;rw [h]
def D1 (n:Nat):bK ga g (n+1) env st=(ga env st).bind λc ae=>if c=true then (g env ae).bind λfl aG=>match fl with
   |.nx e=>bK ga g n e aG
   |.ct e=>bK ga g n e aG
   |.bk e=>.ok (.nx e) aG
   |.rt v=>.ok (.rt v) aG
  else .ok (.nx env) ae:=rfl
@[simp] def Pm:lim=1000000:=(rfl)
@[simp] def Wn (f:Str) (i:Str->Bool) (x:PV) (n:Nat):Mi.putAt f i x (.ref n) st=jA st n λc ks xs=>if i c=true/\ks.length<1000 then .ok () (st.set n (.ins c (putK f x ks xs).1 (putK f x ks xs).2)) else .stuck:=(rfl)
end
section
variable {K:Frag} {mg:Ab} {h:Heap} {x:Str} {f C:Addr} {oc:Value} {od an:Option Addr} {eA:Array (Option Value)} {kV doc pm aY ct:Value} {sm:Stmt} {ps:Ae}
def zfG (X:K.In h) (G:h.Ns mainGlobals mg) (a:nsIn K mainGlobals x=some (some (.ref f))) (l:K.lookup f=some ⟨oc,od,.func (fnOf x x (wE sm) (jz sm) (zG sm) .none kV doc pm an aY ct),eA⟩) (c:codeIn K aY x=true) (k:keepIn K (.ref f)=true)
  (b:∀(kV doc pm:Value) (an:Option Addr) (aY ct:Value) (us:Ah),us.length=ps.length->bindArgs (fnOf x x (wE sm) (jz sm) (zG sm) .none kV doc pm an aY ct) ⟨us,[]⟩=pure (ps.zip us)):FnF K mg x sm ps :=
 ⟨f,_,mg_of X G a,ku l c k,(ku l c k).binds b⟩
def zfH {c name qual:Str} (X:K.In h) (G:h.Ns mainGlobals mg) (aC:nsIn K mainGlobals c=some (some (.ref C))) (pg:plainGet K C Str.empty=true) (hd:hasDictIn K C=true) (po:plainOver K C=true) (sa:findIn K (.ref C) "__setattr__" = some (some (.builtin "object.__setattr__")))
  (a:findIn K (.ref C) name=some (some (.ref f))) (i:isFn K (.ref f)=true) (l:K.lookup f=some ⟨oc,od,.func (fnOf name qual (wE sm) (jz sm) (zG sm) .none kV doc pm an aY ct),eA⟩) (cd:codeIn K aY qual=true) (k:keepIn K (.ref f)=true)
  (b:∀(kV doc pm:Value) (an:Option Addr) (aY ct:Value) (us:Ah),us.length=ps.length->bindArgs (fnOf name qual (wE sm) (jz sm) (zG sm) .none kV doc pm an aY ct) ⟨us,[]⟩=pure (ps.zip us)):MtF K mg c name qual sm ps :=
 ⟨C,f,_,mg_of X G aC,⟨pg,hd,po,sa⟩,⟨a,i,k⟩,ku l cd k,(ku l cd k).binds b⟩
def ziU {c qual:Str}(X:K.In h) (G:h.Ns mainGlobals mg) (aC:nsIn K mainGlobals c=some (some (.ref C))) (mk:makesIn K C=true) (kc:keepIn K (.ref C)=true)
  (a:findIn K (.ref C) "__init__" = some (some (.ref f))) (i:isFn K (.ref f)=true) (l:K.lookup f=some ⟨oc,od,.func (fnOf "__init__" qual (wE sm) (jz sm) (zG sm) .none kV doc pm an aY ct),eA⟩) (cd:codeIn K aY qual=true) (k:keepIn K (.ref f)=true)
  (b:∀(kV doc pm:Value) (an:Option Addr) (aY ct:Value) (us:Ah),us.length=ps.length->bindArgs (fnOf "__init__" qual (wE sm) (jz sm) (zG sm) .none kV doc pm an aY ct) ⟨us,[]⟩=pure (ps.zip us)):NwF K mg c qual sm ps :=
 ⟨C,f,_,mg_of X G aC,⟨mk,a,i,kc⟩,ku l cd k,(ku l cd k).binds b⟩
def Pn {cd:ClassData}(h:clsIn K C=some cd) (v:eZ cd.mro=true):iA K C=true:=by unfold iA;rw [h];exact v
def zq2 {c fld qual:Str}{B N:Addr}{nm q:Str}{bs:Ah}{c_:Bool}{sn:Ae}{sub:Ah}{ab:Bool}{col:Option Bool}{dd:Option Addr}{k0 k1 k2 k3 k5:Option Value}{cc:Value}{d:Option Addr}{es:Array DictEntry}{n:Nat}{sl:Array (Option Value)}{D2:ClassData}
  (X:K.In h) (G:h.Ns mainGlobals mg) (aC:nsIn K mainGlobals c=some (some (.ref C)))
  (hC:K.lookup C=some (excClassObj nm q C N bs (.ref B::da) c_ sn sub ab col dd k0 k1 k2 k3 k5 "ValueError.__new__")) (hB:excIn K B da "ValueError.__new__" = true)
  (hN:K.lookup N=some ⟨cc,d,.dict es n,sl⟩) (he:(es.all λe=>match e.key with | .str _ _=>true|_=>false)=true) (hi:nsIn K N "__init__" = some (some (.ref f))) (fn:isFn K (.ref f)=true) (kp:keepIn K (.ref C)=true)
  (sa:findIn K (.ref C) "__setattr__" = some (some (.builtin "object.__setattr__"))) (hcl:clsIn K C=some D2) (hl:eZ D2.mro=true) (no:takerIn K C fld=some none) (Po:hasDictIn K C=true)
  (l:K.lookup f=some ⟨oc,od,.func (fnOf "__init__" qual (wE sm) (jz sm) (zG sm) .none kV doc pm an aY ct),eA⟩) (D3:codeIn K aY qual=true) (k:keepIn K (.ref f)=true)
  (b:∀(kV doc pm:Value) (an:Option Addr) (aY ct:Value) (us:Ah),us.length=[("self" : Str),fld].length->bindArgs (fnOf "__init__" qual (wE sm) (jz sm) (zG sm) .none kV doc pm an aY ct) ⟨us,[]⟩=pure ([("self" : Str),fld].zip us)):XnF K mg c fld qual sm :=
 ⟨C,f,_,mg_of X G aC,f7.mk' hC hB hN he hi fn kp,⟨sa,Pn hcl hl,no,Po⟩,ku l D3 k,(ku l D3 k).binds b⟩
def zq3 {c fld:Str} (X:K.In h) (G:h.Ns mainGlobals mg) (aC:nsIn K mainGlobals c=some (some (.ref C))) (pg:plainGet K C Str.empty=true) (hd:hasDictIn K C=true) (po:plainOver K C=true) (sa:findIn K (.ref C) "__setattr__" = some (some (.builtin "object.__setattr__"))) (na:findIn K (.ref C) fld=some none) :
  ∃C,mg c=some (.ref C)/\eh K C/\c5 K C fld:=⟨C,mg_of X G aC,⟨pg,hd,po,sa⟩,na⟩
def zq4 {c fld:Str} (X:K.In h) (G:h.Ns mainGlobals mg) (aC:nsIn K mainGlobals c=some (some (.ref C))) (ga:findIn K (.ref C) "__getattribute__" = some (some (.builtin "BaseException.__getattribute__"))) (hk:findIn K (.ref C) "__getattr__" = some none) (hB:mroIn K C (.type "BaseException")=some true)
  (hd:hasDictIn K C=true) (no:findIn K (.ref C) fld=some none):∃C,mg c=some (.ref C)/\f_ K C/\hasDictIn K C=true/\findIn K (.ref C) fld=some none:=⟨C,mg_of X G aC,⟨ga,hk,hB⟩,hd,no⟩
def zq5 {α:Type}{P:α->Prop}:∀p∈([]:List α),P p:=λ_ h=>nomatch h
def all_cons {α:Type}{P:α->Prop}{a:α}{l:List α}(h:P a) (t:∀p∈l,P p):∀p∈a::l,P p:=λp hp=>by
 rcases yE.mp hp with rfl|hp
 ·exact h
 ·exact t p hp
theorem D5 {α β:Type} [BEq α] [LawfulBEq α] {a:α}{b:β}:∀{l:List (α×β)},l.lookup a=some b->(a,b)∈l
 |[],h=>by simp at h
 | (c,d)::l,h=>by
  rw [wL] at h
  split at h
  ·rename_i e;cases h;rw [eq_of_beq e];simp
  ·exact jZ _ (D5 h)
def zam {O t t2:Addr} {wd k1 k2 y:Str} {u1 u2:Tok} {n n2:Nat} {p5:Option Addr} {sl gH:Array (Option Value)} (X:K.In h) (G:h.Ns mainGlobals mg) (e:nsIn K O wd=some (some (.ref t))) (l1:K.lookup t=some ⟨.type "tuple", od,.seq #[.ref t2,.ref f] n,sl⟩)
  (l2:K.lookup t2=some ⟨.type "tuple", p5,.seq #[.str k1 u1,.str k2 u2] n2,gH⟩) (a:nsIn K mainGlobals y=some (some (.ref f))):∃u v,nsIn K O wd=some (some u)/\RelV v u/\∀ρ H,R K mg ρ H (.tup [.tup [.str k1,.str k2],.fn y]) v:=by
 refine ⟨_,.ref t,e,rfl,nV (xs:=[.tup [.str k1,.str k2],.fn y]) (vs:=[.ref t2,.ref f]) l1 rfl (by simp) (.cons rfl (.cons rfl .nil)) fun ρ H=>?_⟩
 exact ⟨_,_,rfl,nV (xs:=[.str k1,.str k2]) (vs:=[.str k1,.str k2]) l2 rfl (by simp) (.cons ⟨_,rfl⟩ (.cons ⟨_,rfl⟩ .nil)) (fun ρ H=>⟨_,_,rfl,rfl,_,_,rfl,rfl,rfl⟩) ρ H,_,_,rfl,⟨f,rfl,mg_of X G a⟩,rfl⟩
def zcR {O t t2:Addr} {wd k1 y:Str} {u1:Tok} {n n2:Nat} {p5:Option Addr} {sl gH:Array (Option Value)} (X:K.In h) (G:h.Ns mainGlobals mg) (e:nsIn K O wd=some (some (.ref t))) (l1:K.lookup t=some ⟨.type "tuple", od,.seq #[.ref t2,.ref f] n,sl⟩)
  (l2:K.lookup t2=some ⟨.type "tuple", p5,.seq #[.str k1 u1] n2,gH⟩) (a:nsIn K mainGlobals y=some (some (.ref f))):∃u v,nsIn K O wd=some (some u)/\RelV v u/\∀ρ H,R K mg ρ H (.tup [.tup [.str k1],.fn y]) v:=by
 refine ⟨_,.ref t,e,rfl,nV (xs:=[.tup [.str k1],.fn y]) (vs:=[.ref t2,.ref f]) l1 rfl (by simp) (.cons rfl (.cons rfl .nil)) fun ρ H=>?_⟩
 exact ⟨_,_,rfl,nV (xs:=[.str k1]) (vs:=[.str k1]) l2 rfl (by simp) (.cons ⟨_,rfl⟩ .nil) (fun ρ H=>⟨_,_,rfl,rfl,rfl⟩) ρ H,_,_,rfl,⟨f,rfl,mg_of X G a⟩,rfl⟩
end
def zq6 {P:Program}{w:World}{K:Frag}{mg:Ab}{x y:Str}{sm:Stmt}{fa:Addr}{k:Nat}{m:An}(h:FnF K mg x sm [y]) (hmg:mg x=some (.ref fa))
  (hb:∀(kV doc pm:Value) (an:Option Addr) (aY ct:Value) (u:Value),bindArgs (fnOf x x (wE sm) (jz sm) (zG sm) .none kV doc pm an aY ct) ⟨[u],[]⟩=pure [(y,u)])
  (hok:∀(f:Addr) (fd:FuncData),dJ K x x sm f fd->∀base:Heap,bz P w K mg base (cv P w) k f fd [y] (gL K mg m)) (hp:∀ns:List Int,ns.length<=63->∃st,m [.frl (ns.map PV.int)] []=.ok (.bl true) st) :
  ∃fd:FuncData,(∀(s:Shared) (u:Value),BindsTo s fd ⟨[u],[]⟩ [(y,u)])/\∀base:Heap,K.In base->base.Ns mainGlobals mg->bz P w K mg base (cv P w) k fa fd [y] (iJ K):=by
 obtain ⟨f,fd,hm,F,_⟩:=h
 rw [hmg] at hm
 cases hm
 refine ⟨fd,λs u=>?_,λbase _ _=>OT (hok fa fd F base) hp⟩
 obtain ⟨oc,od,kV,doc,pm,an,aY,ct,eA,rfl,_⟩:=F.ex
 exact .of_eq (hb kV doc pm an aY ct u)
def zq7 {K:Frag}{mg:Ab}{h:Heap}{x:Str}(X:K.In h) (G:h.Ns mainGlobals mg) (a:nsIn K mainGlobals x=some none):mg x=none:=mg_none_of X G a
section
variable {X:Cx} {Er:XK} {K:Frag} {mg:Ab} {a e o:Expr} {pos pos':Pos} {fo:Ak}
abbrev kz (ks:Ae) (vs:List V):List (Key×V):=(ks.map Sum.inr).zip vs
theorem xq {z:Str}:∀{ks:Ae}{vs:List V},cU (kz ks vs) (Sum.inr z)=(ks.zip vs).lookup z
 |[],_=>by simp [kz,cU]
 |k::ks,[]=>by simp [kz,cU]
 |k::ks,v::vs=>by
  have ih:=xq (z:=z) (ks:=ks) (vs:=vs)
  by_cases h:k=z
  ·subst h
   rw [show kz (k::ks) (v::vs)=(Sum.inr k,v)::kz ks vs from rfl,rK rfl]
   simp [wL]
  ·rw [show kz (k::ks) (v::vs)=(Sum.inr k,v)::kz ks vs from rfl,rL (by simpa using h),ih]
   have:(z==k)=false:=by simpa using λq=>h q.symm
   simp [wL,this]
theorem D6 {z:Str}:∀{ks:Ae}{vs:List V},ks.length=vs.length->((kz ks vs).any λkv=>decide (kv.1=Sum.inr z))=ks.contains z
 |[],_,_=>by simp [kz]
 |k::ks,[],h=>by simp at h
 |k::ks,v::vs,h=>by
  have ih:=D6 (z:=z) (ks:=ks) (vs:=vs) (by simpa using h)
  rw [show kz (k::ks) (v::vs)=(Sum.inr k,v)::kz ks vs from rfl,List.any_cons,ih,List.contains_cons]
  congr 1
  by_cases hz:k=z
  ·subst hz;simp
  ·have:(z==k)=false:=by simpa using λq=>hz q.symm
   simp [hz,this]
def repl {α:Type}(z:Str) (x:α):List Str->List α->List α
 |k::ks,y::ys=>(if k=z then x else y)::repl z x ks ys
 |_,ys=>ys
def jk (z:Str) (x:PV) (ks:Ae) (xs:Aq):List Str×List PV:=if ks.contains z=true then (ks,repl z x ks xs) else (ks++[z],xs++[x])
theorem D7 {z:Str}{v:V}:∀{ks:Ae}{vs:List V},(kz ks vs).map (λkv=>if kv.1=Sum.inr z then (kv.1,v) else kv)=kz ks (repl z v ks vs)
 |[],_=>by simp [kz]
 |k::ks,[]=>by simp [kz,repl]
 |k::ks,w::vs=>by
  rw [show kz (k::ks) (w::vs)=(Sum.inr k,w)::kz ks vs from rfl,jg,D7,show repl z v (k::ks) (w::vs)=(if k=z then v else w)::repl z v ks vs from rfl,show ∀u us,kz (k::ks) (u::us)=(Sum.inr k,u)::kz ks us from λ_ _=>rfl]
  by_cases h:k=z
  ·subst h;simp
  ·rw [zQ (by simpa using h),zQ h]
theorem D8 {ρ:Af}{H:Hp}{z:Str}{x:PV}{v:V}(r:R K mg ρ H x v):∀{ks:Ae}{xs:Aq}{vs:List V},Rs K mg ρ H xs vs->Rs K mg ρ H (repl z x ks xs) (repl z v ks vs)
 |[],xs,vs,h=>by cases xs<;>cases vs<;>exact h
 |k::ks,[],vs,h=>by cases h;exact rfl
 |k::ks,y::ys,vs,h=>by
  obtain ⟨w,ws,rfl,h1,h2⟩:=h
  refine ⟨_,_,rfl,?_,D8 r h2⟩
  split
  ·exact r
  ·exact h1
theorem cM {α:Type}{z:Str}{x:α}:∀{ks:Ae}{xs:List α},(repl z x ks xs).length=xs.length
 |[],xs=>by cases xs<;>rfl
 |k::ks,[]=>rfl
 |k::ks,y::ys=>by simp [repl,cM (ks:=ks)]
def D9 {ρ:Af}{H:Hp}{z:Str}{x:PV}{v:V}(r:R K mg ρ H x v) {ks:Ae}{xs:Aq}{vs:List V}(hl:ks.length=vs.length) (h:Rs K mg ρ H xs vs):∃ws,L2.putK (kz ks vs) (Sum.inr z) v=kz (jk z x ks xs).1 ws/\Rs K mg ρ H (jk z x ks xs).2 ws/\(jk z x ks xs).1.length=ws.length:=by
 unfold L2.putK jk
 rw [D6 hl]
 by_cases hc:ks.contains z=true
 ·rw [zC hc,zC hc]
  exact ⟨repl z v ks vs,D7,D8 r h,by rw [cM];exact hl⟩
 ·rw [zQ hc,zQ hc]
  refine ⟨vs++[v],?_,h.append ⟨v,[],rfl,r,rfl⟩,by simp [hl]⟩
  show _=(List.map Sum.inr (ks++[z])).zip (vs++[v])
  rw [ja,List.zip_append (by simpa using hl)]
  rfl
def jB:Ak:=λ_ st=>.ok (.ref st.length) (st++[.dic [] []])
def jN:ME X Er (.Dict [] [] pos) jB:=PE.weak Mn fun σ H Q ⟨env,st,ρ,re,rs,h⟩=>λq hq =>
 h (ρ++[q]) _ (Ext.push hq) (rs.push hq ⟨[],yU,rfl,rfl⟩) _ ⟨q,rfl,by rw [<-rs.len];simp⟩
def Pp:Ao
 |.ref n,.str z,st=>jv st n λks xs=>b_ ((ks.zip xs).lookup z) st
 |_,_,_=>.stuck
def zk:Ao
 |.ref n,.str z,st=>Pp (.ref n) (.str z) st
 |x,y,st=>v7 x y st
def Pq:R2:=λx y H Q=>∃a v,x=.ref a/\c9 H a y (some v)/\Q v H
def D_ (hu:X.A.units+1<cLine):fz X Pq:=by
 intro value slice pins s σ H x y v u Q I rx ry h hs
 obtain ⟨a,w,rfl,g,q⟩:=h
 obtain rfl:v=Value.ref a:=rx
 exact PyProof.Rows.tail_any (Mh I g) PySem.F.slot_dict_getitem.lookup (Mc hu I g ry λw' s' I' rw'=>⟨w,H,I',rw',q⟩) hs
def R.refD {ρ:Af}{H:Hp}{st:aa}{n:Nat}{ks:Ae}{xs:Aq}{v:V}(s:a4 K mg ρ H st) (r:R K mg ρ H (.ref n) v) (h:st[n]?=some (.dic ks xs)):∃a vs,v=.ref a/\ρ[n]?=some a/\H a=some (.dK (kz ks vs))/\Rs K mg ρ H xs vs/\ks.length=vs.length:=by
 obtain ⟨a,rfl,ha⟩:=r
 obtain ⟨vs,h1,h2,h3⟩:=s.addr h ha
 exact ⟨a,vs,rfl,ha,h1,h2,h3⟩
def xt {H:Hp}{a:Addr}{ks:Ae}{vs:List V}{z:Str}(h:H a=some (.dK (kz ks vs))):c9 H a (.str z) ((ks.zip vs).lookup z):=by
 have g:=c9.k (k:=Sum.inr z) h
 rw [xq] at g
 exact g
def zx (hu:X.A.units+200<cLine):mY X zk:=by
 obtain ⟨r,h1,h2⟩:=NF (X:=X)
 refine ⟨_,h1.or (D_ (by omega)),fun ρ H st x y v w Q E s rx ry h=>?_⟩
 by_cases hx:∃n z,x=.ref n/\y=.str z
 ·obtain ⟨n,z,rfl,rfl⟩:=hx
  obtain ⟨ks,xs,e,h⟩:=vY (show Out X.K X.mg ρ H (jv st n λks xs=>b_ ((ks.zip xs).lookup z) st) (gV X.K X.mg Q) E from h)
  obtain ⟨q,hq,h⟩:=iG h
  obtain ⟨a,vs,rfl,_,k1,k2,_⟩:=R.refD s rx e
  cases ry
  obtain ⟨v,hv,rv⟩:=lW k2 hq
  refine .inr ⟨a,v,rfl,?_,h.now s _ rv⟩
  have g:=xt (z:=z) k1
  rw [hv] at g
  exact g
 ·refine .inl (h2 ρ H st x y v w Q E s rx ry ?_)
  have:zk x y st=v7 x y st:=by
   unfold zk
   split
   ·rename_i n z;exact absurd ⟨n,z,rfl,rfl⟩ hx
   ·rfl
  rw [this] at h
  exact h
def l9 (z x:PV):PV->Mo Unit
 | .ref n,st=>match z with
  |.str z=>jv st n λks xs=>if ks.length<lim then .ok () (st.set n (.dic (jk z x ks xs).1 (jk z x ks xs).2)) else .stuck
  |_=>.stuck
 |_,_=>.stuck
def yL (fo fi fv:Ak):Al:=λenv st=>(fv env st).bind λx ae=>(fo env ae).bind λo aG=>(fi env aG).bind λz a8=>(l9 z x o a8).bind λ_ iL=>.ok (.nx env) iL
def jW {i value:Expr}{fi fv:Ak}(hu:X.A.units+200<cLine) (ho:ME X Er o fo) (hi:ME X Er i fi) (hv:ME X Er value fv) (hs:swapsWith value (some (.Subscript o i pos')) pos.line X.env=pure false:=by rfl):MS X Er (.Assign [.Subscript o i pos'] value pos) (yL fo fi fv) :=
 PS.weak (Ml (by omega) ho hi hv hs) λD σ H ⟨env,st,ρ,re,rs,h⟩=>⟨env,st,ρ,re,rs,h.then λah H1 x ae e1 s1 h1 v rv=>⟨env,ae,ah,re.ext e1,s1,h1.then λax H2 y aG e2 s2 h2 w rw=>⟨env,aG,ax,(re.ext e1).ext e2,s2,h2.then λao H3 zz a8 e3 s3 h3 u ru=>by
  cases y with
  |ref n =>
   cases zz with
   |str z =>
    cases hn:a8[n]? with
    |none=>simp only [l9,jv,hn] at h3;exact h3.elim
    |some so =>
     cases so with
     |lst _=>simp only [l9,jv,hn] at h3;exact h3.elim
     |ins _ _ _=>simp only [l9,jv,hn] at h3;exact h3.elim
     |fdi _ _=>simp only [l9,jv,hn] at h3;exact h3.elim
     |dit _ _=>simp only [l9,jv,hn] at h3;exact h3.elim
     |dic ks xs =>
      simp only [l9,jv,hn] at h3
      by_cases hc:ks.length<lim
      ·rw [zC hc] at h3
       obtain ⟨a,vs,e4,ha,k1,k2,k3⟩:=R.refD s3 (R.ext e3 _ rw) hn
       subst e4
       cases ru
       obtain ⟨ws,q1,q2,q3⟩:=D9 (z:=z) (R.ext e3 x (R.ext e2 x rv)) k3 k2
       have hlen:(kz ks vs).length<sizeLine:=by
        have:(kz ks vs).length=ks.length:=by simp [kz,k3]
        rw [this,sizeLine_eq]
        have:ks.length<1000000:=hc
        omega
       have g:=fZ.k (k:=Sum.inr z) (v:=v) k1 hlen
       have ew:Ext ao H3 ao (upd H3 a (.dK (L2.putK (kz ks vs) (Sum.inr z) v))):=Ext.write k1 rfl
       refine ⟨a,_,rfl,g,h3 ao _ ew (s3.write ha ew ⟨ws,by rw [yU,q1],Rs.ext ew _ q2,q3⟩) σ ((((re.ext e1).ext e2).ext e3).ext ew)⟩
      ·rw [zQ hc] at h3;exact h3.elim
   |_=>exact h3.elim
  |_=>exact h3.elim⟩⟩⟩
end
open Classical in
def dr (K:Frag) (mg:Ab) (ρ:Af) (H:Hp) (ys:Aq) (x:PV) (u:Value):Bool:=decide (∃y v,y∈ys/\R K mg ρ H y v/\RelV v u/\bN y x=true)
section
variable {X:Cx} {K:Frag} {mg:Ab} {ρ:Af} {pins:Ac} {σ:L2.St} {H:Hp} {s:Shared}
def okIn (x:PV) (ys:Aq):Prop:=Mi.plain x=true/\bU ys=true/\dI ys<=150
instance (x:PV) (ys:Aq):Decidable (okIn x ys):=by unfold okIn;infer_instance
theorem Rs.mem:∀{xs:Aq}{vs:List V}{us:Ah}{u:Value},Rs K mg ρ H xs vs->Vals vs us->u∈us->∃y v,y∈xs/\R K mg ρ H y v/\RelV v u
 |[],_,_,_,h,hv,hu=>by cases h;cases hv;cases hu
 |x::xs,_,_,u,h,hv,hu=>by
  obtain ⟨v,r,rfl,h1,h2⟩:=h
  cases hv with
  |cons r1 r2 =>
   rcases yE.mp hu with rfl|hu
   ·exact ⟨x,v,by simp,h1,r1⟩
   ·obtain ⟨y,w,q1,q2,q3⟩:=Rs.mem h2 r2 hu
    exact ⟨y,w,by simp [q1],q2,q3⟩
theorem Rs.mem':∀{xs:Aq}{vs:List V}{us:Ah}{y:PV},Rs K mg ρ H xs vs->Vals vs us->y∈xs->∃u v,u∈us/\R K mg ρ H y v/\RelV v u
 |[],_,_,_,_,_,hy=>by cases hy
 |x::xs,_,_,y,h,hv,hy=>by
  obtain ⟨v,r,rfl,h1,h2⟩:=h
  cases hv with
  |cons r1 r2 =>
   rcases yE.mp hy with rfl|hy
   ·exact ⟨_,v,by simp,h1,r1⟩
   ·obtain ⟨u,w,q1,q2,q3⟩:=Rs.mem' h2 r2 hy
    exact ⟨u,w,by simp [q1],q2,q3⟩
def Pr {ys:Aq}{y:PV}(h:bU ys=true) (hy:y∈ys):Mi.plain y=true:=by
 obtain ⟨i,hi⟩:=List.getElem?_of_mem hy
 exact sf h hi
def Pt {ys:Aq}{y:PV}(hy:y∈ys):dep y<=dI ys:=by
 obtain ⟨i,hi⟩:=List.getElem?_of_mem hy
 exact v8 hi
open Classical in
def su (I:Inv X pins σ H s) {A:Around}(hu:A.units+200<cLine) {ys:Aq}{vs:List V}{us:Ah}{x:PV}{w:V}{v:Value}(ok:okIn x ys) (ry:Rs X.K mg ρ H ys vs) (rv:Vals vs us) (rx:R X.K mg ρ H x w) (rw:RelV w v) :
  (∀u∈us,SeqAt.EqAt A.in1 s u v (dr X.K mg ρ H ys x u))/\us.any (dr X.K mg ρ H ys x)=ys.any λy=>bN y x:=by
 obtain ⟨px,py,hd⟩:=ok
 have one:∀y v' u,y∈ys->R X.K mg ρ H y v'->RelV v' u->SeqAt.EqAt A.in1 s u v (bN y x):=λy v' u hy r1 r2 =>
  (v9 I 150 y x A.in1 (jw (Pt hy) hd) (Pr py hy) px r1 rx r2 rw (by rw [DL];omega)).1
 refine ⟨λu Ea=>?_,?_⟩
 ·obtain ⟨y,v',q1,q2,q3⟩:=Rs.mem ry rv Ea
  by_cases h:∃y v,y∈ys/\R X.K mg ρ H y v/\RelV v u/\bN y x=true
  ·have e:dr X.K mg ρ H ys x u=true:=by simpa [dr] using h
   obtain ⟨y2,v2,z1,z2,z3,z4⟩:=h
   rw [e,<-z4]
   exact one y2 v2 u z1 z2 z3
  ·have e:dr X.K mg ρ H ys x u=false:=by unfold dr;exact jo h
   rw [e]
   have:bN y x=false:=by
    cases hq:bN y x with
    |false=>rfl
    |true=>exact absurd ⟨y,v',q1,q2,q3,hq⟩ h
   rw [<-this]
   exact one y v' u q1 q2 q3
 ·rw [Bool.eq_iff_iff]
  simp only [List.any_eq_true]
  constructor
  ·rintro ⟨u,Ea,he⟩
   have h:∃y v,y∈ys/\R X.K mg ρ H y v/\RelV v u/\bN y x=true:=by unfold dr at he;exact of_decide_eq_true he
   obtain ⟨y,v',z1,_,_,z4⟩:=h
   exact ⟨y,z1,z4⟩
  ·rintro ⟨y,hy,he⟩
   obtain ⟨u,v',q1,q2,q3⟩:=Rs.mem' ry rv hy
   exact ⟨u,q1,by unfold dr;exact wq ⟨y,v',hy,q2,q3,he⟩⟩
def yA (neg:Bool):Ao
 |x,.tup ys,st=>if okIn x ys then .ok (.bl (neg.xor (ys.any λy=>bN y x))) st else .stuck
 |x,.frl ys,st=>if okIn x ys then .ok (.bl (neg.xor (ys.any λy=>bN y x))) st else .stuck
 | x,.ref n,st=>match st[n]?,x with
  |some (.lst ys),x=>if okIn x ys then .ok (.bl (neg.xor (ys.any λy=>bN y x))) st else .stuck
  |some (.dic ks xs),.str z=>.ok (.bl (neg.xor ((ks.zip xs).lookup z).isSome)) st
  |_,_=>.stuck
 |.str ⟨⟨[c]⟩⟩,.str z,st=>.ok (.bl (neg.xor (decide (c∈z.cps.toList)))) st
 |_,_,_=>.stuck
def xv (K:Frag) (mg:Ab) (neg:Bool):R2:=λv w H Q =>
 (∃ρ x ys vs p,okIn x ys/\w=.ref p/\(ba K H p vs\/bt K H p vs)/\Rs K mg ρ H ys vs/\R K mg ρ H x v/\Q (.bl (neg.xor (ys.any λy=>bN y x))) H) \/
 (∃p o,w=.ref p/\c9 H p v o/\Q (.bl (neg.xor o.isSome)) H)\/∃(c:Nat) (z:Str),v=.str ⟨#[c]⟩/\w=.str z/\Q (.bl (neg.xor (decide (c∈z.cps.toList)))) H
def Pu (hu:X.A.units+200<cLine):bI X (compareOp .In) (xv X.K X.mg false):=by
 intro pins s σ H x y v u Q I rx ry h
 rcases h with ⟨ρ,a,ys,vs,p,ok,rfl,hq,p6,ra,q⟩|⟨p,o,rfl,g,q⟩|⟨c,z,rfl,rfl,q⟩
 ·obtain rfl:u=Value.ref p:=ry
  rcases hq with hq|hq
  ·obtain ⟨its,r,pl,_⟩:=I.list hq
   obtain ⟨f1,f2⟩:=su I hu ok p6 r ra rx
   refine SeqAt.in_listAt (dr X.K X.mg ρ H ys a) pl.isList (λw hw=>f1 w (by simpa using hw)) ⟨.bl _,H,I,rfl,?_⟩
   rw [show its.toArray.any (dr X.K X.mg ρ H ys a)=its.any (dr X.K X.mg ρ H ys a) by simp,f2]
   simpa using q
  ·obtain ⟨its,r,pl,_⟩:=I.tuple hq
   obtain ⟨f1,f2⟩:=su I hu ok p6 r ra rx
   refine SeqAt.in_tupleAt (dr X.K X.mg ρ H ys a) pl (λw hw=>f1 w (by simpa using hw)) ⟨.bl _,H,I,rfl,?_⟩
   rw [show its.toArray.any (dr X.K X.mg ρ H ys a)=its.any (dr X.K X.mg ρ H ys a) by simp,f2]
   simpa using q
 ·obtain rfl:u=Value.ref p:=ry
  exact Md (by omega) I g rx λs' I'=>⟨.bl o.isSome,H,I',rfl,by simpa using q⟩
 ·exact Ma pins s σ H _ _ v u Q I rx ry ⟨c,z,rfl,rfl,by simpa using q⟩
def Pw (hu:X.A.units+200<cLine):bI X (compareOp .NotIn) (xv X.K X.mg true):=by
 intro pins s σ H x y v u Q I rx ry h
 rcases h with ⟨ρ,a,ys,vs,p,ok,rfl,hq,p6,ra,q⟩|⟨p,o,rfl,g,q⟩|⟨c,z,rfl,rfl,q⟩
 ·obtain rfl:u=Value.ref p:=ry
  rcases hq with hq|hq
  ·obtain ⟨its,r,pl,_⟩:=I.list hq
   obtain ⟨f1,f2⟩:=su I hu ok p6 r ra rx
   refine SeqAt.notIn_listAt (dr X.K X.mg ρ H ys a) pl.isList (λw hw=>f1 w (by simpa using hw)) ⟨.bl _,H,I,rfl,?_⟩
   rw [show its.toArray.any (dr X.K X.mg ρ H ys a)=its.any (dr X.K X.mg ρ H ys a) by simp,f2]
   simpa using q
  ·obtain ⟨its,r,pl,_⟩:=I.tuple hq
   obtain ⟨f1,f2⟩:=su I hu ok p6 r ra rx
   refine SeqAt.notIn_tupleAt (dr X.K X.mg ρ H ys a) pl (λw hw=>f1 w (by simpa using hw)) ⟨.bl _,H,I,rfl,?_⟩
   rw [show its.toArray.any (dr X.K X.mg ρ H ys a)=its.any (dr X.K X.mg ρ H ys a) by simp,f2]
   simpa using q
 ·obtain rfl:u=Value.ref p:=ry
  exact Me (by omega) I g rx λs' I'=>⟨.bl (!o.isSome),H,I',rfl,by simpa using q⟩
 ·refine L2.zon pins s σ H _ _ v u Q I rx ry ⟨_,_,rfl,rfl,?_⟩
  rw [StrLaws.found_one]
  simpa using q
def Eb {neg:Bool}:fM K mg (xv K mg neg) (yA neg):=by
 intro ρ H st x y v w Q E s rx ry h
 cases y with
 |tup ys =>
  obtain ⟨p,vs,rfl,k1,k2⟩:=ry
  obtain ⟨ok,h⟩:=Out.ifp (show Out K mg ρ H (if okIn x ys then .ok (.bl (neg.xor (ys.any λy=>bN y x))) st else .stuck) (gV K mg Q) E from by cases x<;>exact h)
  exact .inl ⟨ρ,x,ys,vs,p,ok,rfl,.inr k1,k2,rx,h.now s _ rfl⟩
 |frl ys =>
  obtain ⟨p,vs,rfl,k1,k2⟩:=ry
  obtain ⟨ok,h⟩:=Out.ifp (show Out K mg ρ H (if okIn x ys then .ok (.bl (neg.xor (ys.any λy=>bN y x))) st else .stuck) (gV K mg Q) E from by cases x<;>exact h)
  exact .inl ⟨ρ,x,ys,vs,p,ok,rfl,.inl k1.sq,k2,rx,h.now s _ rfl⟩
 |ref n =>
  cases hn:st[n]? with
  |none=>exfalso;cases x<;>(simp only [yA,hn] at h;exact h)
  |some so =>
   cases so with
   |lst ys =>
    obtain ⟨p,vs,rfl,_,k1,k2⟩:=R.refL s ry hn
    obtain ⟨ok,h⟩:=Out.ifp (show Out K mg ρ H (if okIn x ys then .ok (.bl (neg.xor (ys.any λy=>bN y x))) st else .stuck) (gV K mg Q) E from by cases x<;>(simp only [yA,hn] at h;exact h))
    exact .inl ⟨ρ,x,ys,vs,p,ok,rfl,.inl (ba.of k1),k2,rx,h.now s _ rfl⟩
   |dic ks xs =>
    obtain ⟨p,vs,rfl,_,k1,k2,k3⟩:=R.refD s ry hn
    cases x with
    |str z =>
     simp only [yA,hn] at h
     cases rx
     refine .inr (.inl ⟨p,_,rfl,xt k1,?_⟩)
     have e:((ks.zip vs).lookup z).isSome=((ks.zip xs).lookup z).isSome:=by
      cases hq:(ks.zip xs).lookup z with
      |some q=>obtain ⟨v,hv,_⟩:=lW k2 hq;rw [hv];rfl
      |none =>
       have:z∉ks:=by
        intro hz
        obtain ⟨i,hi⟩:=List.getElem?_of_mem hz
        have hl:i<xs.length:=by rw [k2.len,<-k3];exact (yD.mp hi).1
        have:=List.lookup_eq_none_iff.mp hq (z,xs[i]) (List.mem_iff_getElem?.mpr ⟨i,by simp [List.getElem?_zip_eq_some,hi,hl]⟩)
        simp at this
       rw [nR this];rfl
     rw [e]
     exact h.now s _ rfl
    |_=>simp only [yA,hn] at h;exact h.elim
   |ins c ks xs=>exfalso;cases x<;>(simp only [yA,hn] at h;exact h)
   |fdi ks xs=>exfalso;cases x<;>(simp only [yA,hn] at h;exact h)
   |dit ks xs=>exfalso;cases x<;>(simp only [yA,hn] at h;exact h)
 |str z =>
  cases x with
  |str q =>
   obtain ⟨⟨l⟩⟩:=q
   match l,rx,h with
   |[c],rx,h=>cases rx;cases ry;exact .inr (.inr ⟨c,z,rfl,rfl,Out.now (x:=PV.bl _) h s _ rfl⟩)
   |[],rx,h=>exact h.elim
   |_::_::_,rx,h=>exact h.elim
  |_=>exact h.elim
 |non=>exfalso;cases x<;>exact h
 |bl _=>exfalso;cases x<;>exact h
 |int _=>exfalso;cases x<;>exact h
 |ty _=>exfalso;cases x<;>exact h
 |fn _=>exfalso;cases x<;>exact h
 |kd _ _=>exfalso;cases x<;>exact h
 |exo _ _ _=>exfalso;cases x<;>exact h
def zbA (hu:X.A.units+200<cLine):cz X .In (yA false):=⟨_,Pu hu,Eb⟩
def zcS (hu:X.A.units+200<cLine):cz X .NotIn (yA true):=⟨_,Pw hu,Eb⟩
end
section
variable {X:Cx} {Er:XK} {pos:Pos}
abbrev XN:XK:=λ_ _ _=>False
def zan:w9 X XN:=λ_ _ _ _ _ _ _ _ _ q=>q.elim
def cB (fe:Ak) (env:ze):List PV->An
 |[],ys,st=>.ok (.ref st.length) (st++[.lst ys])
 |x::xs,ys,st=>(bC (fe (some x::env) st)).bind λy ae=>cB fe env xs (ys++[y]) ae
def dh (fe:Ak) (env:ze) (n:Nat):Nat->Nat->An
 |0,_,_,_=>.stuck
 | m+1,i,ys,st=>yq st n λxs=>match xs[i]? with
  |none=>.ok (.ref st.length) (st++[.lst ys])
  |some x=>(bC (fe (some x::env) st)).bind λy ae=>dh fe env n m (i+1) (ys++[y]) ae
def fD (fe:Ak) (env:ze):Sq->Mo PV
 |.im xs,st=>if xs.length<=lim then cB fe env xs [] st else .stuck
 |.rf n,st=>dh fe env n (lim+1) 0 [] st
def y9 (src:ze->Mo Sq) (fe:Ak):Ak:=λenv st=>(src env st).bind λq ae=>fD fe env q ae
theorem Rs.snoc {K:Frag}{mg:Ab}{ρ:Af}{H:Hp}{x:PV}{v:V}(r:R K mg ρ H x v):∀{xs:Aq}{vs:List V},Rs K mg ρ H xs vs->Rs K mg ρ H (xs++[x]) (vs++[v])
 |[],_,h=>by cases h;exact ⟨v,[],rfl,r,rfl⟩
 |y::xs,_,h=>by
  obtain ⟨w,q,rfl,h1,h2⟩:=h
  exact ⟨w,q++[v],rfl,h1,Rs.snoc r h2⟩
def p7 {elt iter:Expr} {x:Str} {px:Pos} {scope:Scope} {src:ze->Mo Sq} {fe:Ak} {M:Ae} (hc:X.calm=true) (S:cy X.env.scope scope x) (eN:Hid scope M X.N) (cj:((".0" : Str)::x::M).Nodup)
  (hi:MI X Er (.Name x px) iter src) (he:∀cl C af ai fp,ME (kA X M scope cl x C af ai fp (λ_ _=>False)) XN elt fe)
  (hs:∀v,foldedSetIterable iter X.env v=pure v:=by intro _;rfl):ME X Er (.ListComp elt [⟨.Name x px,iter,[],0⟩] scope pos) (y9 src fe) :=
 PE.weak (CU (te:=tM X.K X.mg XN fe) hc S eN cj hi (λcl C af ai fp=>he cl C af ai fp) hs) fun σ H Q ⟨env,st,ρ,re,rs,h⟩=>⟨env,st,ρ,re,rs,h.then λau H0 q cI e0 s0 h0 J wk=>by
  cases q with
  |im xs =>
   obtain ⟨hl,h0⟩:=Out.ifp h0
   obtain ⟨w1,w2,w3⟩:=wk
   refine ⟨λi m ys H=>m=xs.length-i/\i<=xs.length/\ys.length=i/\∃ps st ρ,Rs X.K X.mg ρ H ps ys/\a4 X.K X.mg ρ H st/\Ext au H0 ρ H/\Out X.K X.mg ρ H (cB fe env (xs.drop i) ps st) (gV X.K X.mg Q) Er,⟨xs.length,by simp,jK _,rfl,[],cI,au,rfl,s0,Ext.refl,h0⟩,?_⟩
   rintro i m ys H ⟨rfl,hi,hy,ps,st,ρ,cC,rs,ex,h⟩
   by_cases bf:i<xs.length
   ·refine .inr ⟨w1 i ρ H ex bf,jt (by omega),λv H' y=>?_⟩
    obtain ⟨x,hx,cb,s2,rx⟩:=w3 i ρ H st v H' ex rs bf y
    have hd:xs.drop i=x::xs.drop (i+1):=by
     rw [wo bf]
     have:=(yD.mp hx).2
     rw [this]
    rw [hd] at h
    simp only [cB] at h
    refine ⟨some x::env,st,ρ,(re.ext (e0.trans (ex.trans cb))).cons rx,s2,wQ (Out.ext h cb) λao H3 y a8 e3 s3 h3 v ry=>⟨xs.length-(i+1),by omega,rfl,bf,by simp [hy],ps++[y],a8,ao,Rs.snoc ry (Rs.ext (cb.trans e3) ps cC),s3,(ex.trans cb).trans e3,h3⟩⟩
   ·have e:i=xs.length:=by omega
    subst e
    rw [List.drop_length] at h
    exact .inl ⟨w2 _ ρ H ex (zM _),jt (by omega),λl hl=>Out.newList h rs cC hl⟩
  |rf n =>
   obtain ⟨a,ha,rfl⟩:=wk
   refine ⟨λi m ys H=>m+i=lim+1/\ys.length=i/\∃ps st ρ,Rs X.K X.mg ρ H ps ys/\a4 X.K X.mg ρ H st/\Ext au H0 ρ H/\ρ[n]?=some a/\Out X.K X.mg ρ H (dh fe env n m i ps st) (gV X.K X.mg Q) Er,⟨lim+1,rfl,rfl,[],cI,au,rfl,s0,Ext.refl,ha,h0⟩,?_⟩
   rintro i m ys H ⟨hm,hy,ps,st,ρ,cC,rs,ex,ha,h⟩
   cases m with
   |zero=>exact h.elim
   |succ m =>
    obtain ⟨xs,hn,h⟩:=jE h
    obtain ⟨vs,hH,hR⟩:=rs.addr hn ha
    cases hx:xs[i]? with
    |none =>
     simp only [hx] at h
     have:vs.length<=i:=by rw [<-hR.len];exact kY.mp hx
     exact .inl ⟨⟨vs,ba.of hH,this⟩,jt (by omega),λl hl=>Out.newList h rs cC hl⟩
    |some x =>
     simp only [hx] at h
     obtain ⟨v,hv,rv⟩:=hR.get hx
     refine .inr ⟨⟨vs,v,ba.of hH,hv⟩,jt (by omega),λv' H' y=>?_⟩
     obtain ⟨e1,y⟩:=y
     subst e1
     have e2:=y vs (ba.of hH)
     rw [hv] at e2
     cases e2
     exact ⟨some x::env,st,ρ,(re.ext (e0.trans ex)).cons rv,rs,wQ h λao H3 y a8 e3 s3 h3 v ry=>⟨m,wt m,by omega,by simp [hy],ps++[y],a8,ao,Rs.snoc ry (Rs.ext e3 ps cC),s3,ex.trans e3,e3.get ha,h3⟩⟩⟩
def nW {elt iter:Expr} {x:Str} {px:Pos} {scope:Scope} {src:ze->Mo Sq} {fe:Ak} {N:Ae} (hc:X.calm=true) (S:cy X.env.scope scope x) (eN:X.N=N) (cj:((".0" : Str)::x::N).Nodup)
  (hi:MI X Er (.Name x px) iter src) (he:∀cl C af ai fp,ME (rJ X scope cl x C af ai fp (λ_ _=>False)) XN elt fe)
  (hs:∀v,foldedSetIterable iter X.env v=pure v:=by intro _;rfl):ME X Er (.ListComp elt [⟨.Name x px,iter,[],0⟩] scope pos) (y9 src fe) :=
 p7 hc S Hid.refl (eN▸cj) hi he hs
end
section
variable {env:Env} {es:List Expr} {pos:Pos}
abbrev Ec (e:Expr) (es:List Expr) (env:Env):Prop:=starEach (e::es) env=(false,eval e env)::starEach es env
def Px {c j}:Ec (.Constant c j pos) es env:=(rfl)
end
end Mi
namespace L2
open PySem PySem.Spec PyProof.Rows PySem.W
abbrev ZB (h:Heap) (z TI TO T:Addr) (f:Bool):Prop:=h.get? z=some { cls:=.type "zip", dict:=none,data:=.fields #[rawInt T,.bool f,.bool false,.ref TI,.ref TO],slots:=#[] }
structure ZS (z TI TO i1 i2 a b:Addr) (xs ys:Array Value) (k:Nat) (h:Heap):Prop where
 zi:(IsZip h z TI TO .none/\∃u v,IsPair h TO u v)\/∃T f o,ZB h z TI TO T f/\h.get? T=some o
 ti:IsPair h TI (.ref i1) (.ref i2)
 s1:pI i1 a xs k h
 s2:pI i2 b ys k h
section
variable {s:Shared} {z TI TO i1 i2 a b:Addr} {k:Nat} {xs ys:Array Value}
def ZS.type (st:ZS z TI TO i1 i2 a b xs ys k s.heap):s.TypeIs (.ref z) "zip" := by
 rcases st.zi with ⟨hz,_⟩|⟨T,f,o,hz,_⟩<;>exact ⟨_,hz,rfl⟩
end
def putAll (ps:List (Key×V)) (kvs:List (Key×V)):List (Key×V):=ps.foldl (λm p=>putK m p.1 p.2) kvs
structure Ap (d z TI TO i1 i2 a b:Addr):Prop where
 z:d≠z
 TI:d≠TI
 TO:d≠TO
 i1:d≠i1
 i2:d≠i2
 a:d≠a
 b:d≠b
section
variable {z TI TO i1 i2 a b d:Addr} {xs ys:Array Value}
def ZS.keep {k:Nat}{h h':Heap}(st:ZS z TI TO i1 i2 a b xs ys k h) (P:Ap d z TI TO i1 i2 a b) (hs:Heap.SameBut d h h') (hd:∃o,h'.get? d=some o):ZS z TI TO i1 i2 a b xs ys k h':=by
 have up:∀c o,c≠d->h.get? c=some o->h'.get? c=some o:=λc o n e=>hs.extBut _ _ n e
 obtain ⟨⟨⟨o1,g1,r1⟩,⟨p1,e1,t1⟩⟩,⟨⟨o2,g2,r2⟩,⟨p2,e2,t2⟩⟩⟩:=And.intro st.s1 st.s2
 refine ⟨?_,up _ _ P.TI.symm st.ti,⟨⟨o1,up _ _ P.i1.symm g1,r1⟩,⟨p1,up _ _ P.a.symm e1,t1⟩⟩,⟨⟨o2,up _ _ P.i2.symm g2,r2⟩,⟨p2,up _ _ P.b.symm e2,t2⟩⟩⟩
 rcases st.zi with ⟨hz,u,v,d5⟩|⟨T,f,o,hz,hT⟩
 ·exact .inl ⟨up _ _ P.z.symm hz,u,v,up _ _ P.TO.symm d5⟩
 ·by_cases e:T=d
  ·obtain ⟨o',ho'⟩:=hd
   exact .inr ⟨T,f,o',up _ _ P.z.symm hz,by rw [e];exact ho'⟩
  ·exact .inr ⟨T,f,o,up _ _ P.z.symm hz,up _ _ e hT⟩
end
section
variable {z TI TO i1 i2 a b:Addr} {xs ys:Array Value}
def ZS.push {k:Nat}{h h':Heap}(st:ZS z TI TO i1 i2 a b xs ys k h) (up:∀c o,h.get? c=some o->h'.get? c=some o):ZS z TI TO i1 i2 a b xs ys k h':=by
 obtain ⟨⟨⟨o1,g1,r1⟩,⟨p1,e1,t1⟩⟩,⟨⟨o2,g2,r2⟩,⟨p2,e2,t2⟩⟩⟩:=And.intro st.s1 st.s2
 refine ⟨?_,up _ _ st.ti,⟨⟨o1,up _ _ g1,r1⟩,⟨p1,up _ _ e1,t1⟩⟩,⟨⟨o2,up _ _ g2,r2⟩,⟨p2,up _ _ e2,t2⟩⟩⟩
 rcases st.zi with ⟨hz,u,v,d5⟩|⟨T,f,o,hz,hT⟩
 ·exact .inl ⟨up _ _ hz,u,v,up _ _ d5⟩
 ·exact .inr ⟨T,f,o,up _ _ hz,up _ _ hT⟩
end
end L2
namespace Mi
open PySem L2 PySem.W PySem.Spec
section
variable {e:Expr} {x:Str}
def xw (j:Nat):Fl->Mo Fl
 |.nx e,st=>.ok (.nx (e.set j none)) st
 |.rt x,st=>.ok (.rt x) st
 |_,_=>.stuck
end
section
variable {X:Cx} {K:Frag} {mg:Ab} {Er:XK} {e o:Expr} {apos:Pos} {fo:Ak}
def sv:PV->Mo PV
 | .ref n,st=>yq st n λxs=>match xs[xs.length-1]? with
  |some y=>.ok y (st.set n (.lst xs.dropLast))
  |none=>.stuck
 |_,_=>.stuck
theorem Rs.dropLast:∀{ρ:Af}{H:Hp}{xs:Aq}{vs:List V},Rs K mg ρ H xs vs->Rs K mg ρ H xs.dropLast vs.dropLast:=by
 intro ρ H xs vs h
 rw [List.dropLast_eq_take,List.dropLast_eq_take,h.len]
 exact h.take _
def zrf {a6:Pos} (ho:ME X Er o fo) (cg:attributeBase o "pop" X.env (eval o X.env)=eval o X.env:=by rfl) (cw:(apos.endLine==a6.line)=true:=by rfl):ME X Er (.Call (.Attribute o "pop" apos) [] [] a6) (yQ sv fo) :=
 PE.weak (Lu PySem.F.plainAttrs_list PySem.F.slot_list_pop PySem.F.type_list_pop Ly ho cg cw) fun σ H Q ⟨env,st,ρ,re,rs,h⟩=>⟨env,st,ρ,re,rs,h.then λah H1 x ae e1 s1 h1 v rv=>by
  cases x with
  |ref n =>
   obtain ⟨xs,hn,h1⟩:=jE h1
   obtain ⟨a,vs,rfl,ha,k1,k2⟩:=R.refL s1 rv hn
   cases hy:xs[xs.length-1]? with
   |none=>simp only [hy] at h1;exact h1.elim
   |some y =>
    simp only [hy] at h1
    obtain ⟨w,hw,rw'⟩:=k2.get hy
    have ew:Ext ah H1 ah (upd H1 a (.lst vs.dropLast)):=Ext.write k1 rfl
    refine ⟨.inl ⟨rfl,vs,ba.of k1⟩,a,vs,w,rfl,rfl,k1,by rw [<-k2.len];exact hw,h1 ah _ ew (s1.write ha ew ⟨_,yU,Rs.ext ew _ k2.dropLast⟩) _ (R.ext ew y rw')⟩
  |_=>exact h1.elim⟩
def strsOf:List PV->Option (Ae)
 |[]=>some []
 |.str z::r=>(strsOf r).map (z::·)
 |_::_=>none
def kL:List (Str×PV)->List Str->List PV->List Str×List PV
 |[],ks,xs=>(ks,xs)
 |q::r,ks,xs=>kL r (jk q.1 q.2 ks xs).1 (jk q.1 q.2 ks xs).2
theorem Ee {ρ:Af}{H:Hp}:∀{xs:Aq}{zs:Ae}{vs:List V},strsOf xs=some zs->Rs K mg ρ H xs vs->vs=(zs.map Sum.inr:List Key).map kV
 |[],zs,vs,e,h=>by cases e;cases h;rfl
 |.str z::r,zs,vs,e,h=>by
  simp only [strsOf,Option.map_eq_some_iff] at e
  obtain ⟨zr,e1,rfl⟩:=e
  obtain ⟨v,r',rfl,h1,h2⟩:=h
  cases h1
  rw [Ee e1 h2]
  rfl
 |.non::_,_,_,e,_=>by cases e
 |.bl _::_,_,_,e,_=>by cases e
 |.int _::_,_,_,e,_=>by cases e
 |.ty _::_,_,_,e,_=>by cases e
 |.tup _::_,_,_,e,_=>by cases e
 |.frl _::_,_,_,e,_=>by cases e
 |.ref _::_,_,_,e,_=>by cases e
 |.fn _::_,_,_,e,_=>by cases e
 |.kd _ _::_,_,_,e,_=>by cases e
 |.exo _ _ _::_,_,_,e,_=>by cases e
theorem xx {ρ:Af}{H:Hp}:∀{zs:Ae}{ys:Aq}{us:List V}{ks:Ae}{xs:Aq}{vs:List V},Rs K mg ρ H ys us->Rs K mg ρ H xs vs->ks.length=vs.length ->
  ∃ws,putAll ((zs.map Sum.inr:List Key).zip us) (kz ks vs)=kz (kL (zs.zip ys) ks xs).1 ws/\Rs K mg ρ H (kL (zs.zip ys) ks xs).2 ws/\(kL (zs.zip ys) ks xs).1.length=ws.length
 |[],ys,us,ks,xs,vs,_,h,hl=>⟨vs,rfl,h,hl⟩
 |z::zs,[],us,ks,xs,vs,hy,h,hl=>by
  cases hy
  exact ⟨vs,rfl,h,hl⟩
 |z::zs,y::ys,us,ks,xs,vs,hy,h,hl=>by
  obtain ⟨u,r,rfl,h1,h2⟩:=hy
  obtain ⟨ws,q1,q2,q3⟩:=D9 (z:=z) h1 hl h
  obtain ⟨Py,p1,p2,p3⟩:=xx (zs:=zs) h2 q2 q3
  refine ⟨Py,?_,p2,p3⟩
  show putAll _ (L2.putK (kz ks vs) (Sum.inr z) u)=_
  rw [q1]
  exact p1
end
end Mi
namespace L2
open PySem PySem.Spec PyProof.Rows PySem.W
def Ef (K:Frag) (a:Addr):It :=
 ⟨λi H=>∃xs x,ba K H a xs/\xs[i]?=some x,
  λi H v H'=>∃T x,H T=none/\v=.ref T/\H'=upd H T (.tup [.int i,x])/\∀xs,ba K H a xs->xs[i]?=some x,
  λi H=>∃xs,ba K H a xs/\xs.length<=i⟩
def Pz (e it a:Addr) (k:Nat) (h:Heap):Prop:=(∃old,IsEnum h e it k old)/\h.IsListIter it a k
def PB {X:Cx}{pins:Ac}{σ:St}{H:Hp}{s:Shared}{a c:Addr}{xs:List V}(I:Inv X pins σ H s) (hf:cP X pins H c) (hq:ba X.K H a xs):a≠c:=by
 rintro rfl
 rcases hq with q|⟨o,its,n,hl,_⟩
 ·rcases q with q|⟨ob,q⟩<;>(rw [hf.1] at q;cases q)
 ·have e:=I.ok.mod.kin _ _ hl
  rcases hf.2.2.2.1 with z|z
  ·exact I.ok.noex _ _ e z
  ·exact absurd (jx (yw (I.ok.bs _ _ e).1) z) (Nat.lt_irrefl _)
def PC {P:Program}{w:World}{K:Frag}{elts:List Expr}{kt:Nat}{pos:Pos}{e it a:Addr}(ne:e≠it):Turn P w K (.Tuple elts kt pos) (Ef K a) [e,it] e (Pz e it a) where
 mem:=by simp
 obj:=λi h st c hc=>by
  obtain ⟨⟨old,he⟩,⟨o1,e1,_,d1⟩⟩:=st
  simp only [yE,List.not_mem_nil,j5] at hc
  rcases hc with q|q<;>rw [q]
  ·exact ⟨_,he,λv z=>by cases z⟩
  ·exact ⟨_,e1,λv z=>by rw [d1] at z;cases z⟩
 keep:=λi h h' st k=>by
  obtain ⟨⟨old,he⟩,⟨o1,e1,r1⟩⟩:=st
  exact ⟨⟨old,k e (by simp) _ he⟩,⟨o1,k it (by simp) _ e1,r1⟩⟩
 item:=by
  intro X hP hw hK hc i pins s σ H E I hf st hg
  subst hP hw hK
  obtain ⟨xs,x,hq,hx⟩:=hg
  obtain ⟨⟨old,he⟩,hit⟩:=st
  obtain ⟨its,rv,p,hz⟩:=I.list hq
  obtain ⟨u,hu,ru⟩:=rv.get hx
  have n1:∀c∈[e,it],a≠c:=λc h=>PB I (hf c h) hq
  refine wpAny_pyNext_enum_item he hit p.isList (x:=u) (by simpa using hu) ne λh1 eo p8 pT hsz kk=>⟨_,rfl,?_⟩
  refine wpAny_letOwnedTupleGo_enum (s:={ s with heap:=h1,toks:=s.toks+1 }) eo λh2 e2 sb=>?_
  have fr:H s.heap.objs.size=none:=I.hok.fresh (zM _)
  have up:∀c o,c≠e->h1.get? c=some o->h2.get? c=some o:=λc o n q=>sb.extBut _ _ n q
  have nz:s.heap.objs.size≠e:=Nat.ne_of_gt (yw he)
  have k2:∀c o,c∉[e,it]->s.heap.get? c=some o->h2.get? c=some o:=λc o nc q=>up c o (λz=>nc (by simp [z])) (kk c o (λz=>nc (by simp [z])) (λz=>nc (by simp [z])) q)
  refine ⟨.ref s.heap.objs.size,upd H s.heap.objs.size (.tup [.int i,x]),?_,rfl,⟨s.heap.objs.size,x,fr,rfl,rfl,λys hy=>by rw [I.list_inj hy hq];exact hx⟩,?_,λc cG=>?_⟩
  ·exact Inv.turnN (s:=s) (h':=h2) (t':=s.toks+1) I hf k2 (zM _) ⟨show 2<=sizeLine by decide,[.int i s.toks,u],.cons ⟨_,rfl⟩ (.cons ru .nil),_,up _ _ nz pT,rfl,_,rfl⟩
  ·refine ⟨⟨u,by rw [show ((i+1:Nat):Int)=(i:Int)+1 from rfl];exact e2⟩,let ⟨o,q,r⟩:=p8;⟨o,up _ _ ne.symm q,r⟩⟩
  ·have lt:∃o,s.heap.get? c=some o:=by
    simp only [yE,List.not_mem_nil,j5] at cG
    rcases cG with q|q<;>rw [q]
    ·exact ⟨_,he⟩
    ·exact let ⟨o,q,_⟩:=hit;⟨o,q⟩
   obtain ⟨o,q⟩:=lt
   have z:c≠s.heap.objs.size:=yX (yw q)
   rw [yf z]
   exact (hf c cG).1
 done:=by
  intro X hP hw hK hc i pins s σ H E I hf st hg
  subst hP hw hK
  obtain ⟨xs,hq,hx⟩:=hg
  obtain ⟨⟨old,he⟩,hit⟩:=st
  obtain ⟨its,rv,p,hz⟩:=I.list hq
  have hl:=rv.length
  refine wpAny_pyNext_enum_end (I.ok.hd hc) he hit p.isList (by simp;omega) λh' eb=>⟨rfl,?_⟩
  exact Inv.turnL (ch:=[e,it]) (t':=s.toks) I hf λc o nc q=>eb c o (λz=>nc (by simp [z])) q
 self:=λ_ _ _ _ _ st h=>by
  obtain ⟨⟨old,he⟩,_⟩:=st
  exact wpAny_pyIter_enum he h
def Eg:bootBuiltins "enumerate" = some (.type "enumerate"):=by decide +kernel
def PD (K:Frag) (ta:TA):TI:=fun σ H R=>ta σ H λvs H1=>∃a,vs=[.ref a]/\(∃xs,ba K H1 a xs)/\R (Ef K a) H1
def PF {X:Cx} {elts:List Expr} {kt:Nat} {tp:Pos} {x:Expr} {ta:TA} {p pos:Pos} (hg:Gl X "enumerate") (hm:X.mg "enumerate" = none) (ha:PA X [x] ta) (hs:starEach [x] X.env=[(false,eval x X.env)]:=by rfl) :
  PI X (.Tuple elts kt tp) (.Call (.Name "enumerate" p) [x] [] pos) (PD X.K ta):=by
 intro pins s σ H R I h
 refine Call_ (gF I hg hm Eg (PyProof.Rows.callWith_type1 (aX (ha pos pins s σ H _ I h) λus s1 ⟨vs,H1,I1,r1,q1⟩=>?_) hs rfl))
 obtain ⟨a,e,⟨xs,hq⟩,q⟩:=q1
 subst e
 obtain ⟨u,rfl,ru⟩:=r1.one
 obtain rfl:u=Value.ref a:=ru
 obtain ⟨its,_,p1,_⟩:=I1.list hq
 refine call_enumerate_list p1.isList λh' he hit hsz kk=>wpAny_pyIter_enum he ?_
 have ne:∀(n:Nat),n+1≠n:=λn z=>by omega
 refine ⟨_,[s1.heap.objs.size+1,s1.heap.objs.size],_,_,H1,rfl,I1.kept (t':=s1.toks) kk,PC (ne _),⟨⟨_,he⟩,hit⟩,λc hc=>?_,q⟩
 have le:s1.heap.objs.size<=c:=by
  simp only [yE,List.not_mem_nil,j5] at hc
  rcases hc with q|q<;>rw [q]<;>first|exact zM _|exact Nat.le_add_right _ _
 exact I1.fpOk le (I1.hok.fresh le)
end L2
namespace Mi
open PySem L2 PySem.W PySem.Spec
section
variable {X:Cx} {Er:XK} {pos:Pos} {cO:List Stmt} {gb:Al} {fs:Aj}
def ff (g:PV->ze->Option ze) (body:Al) (n:Nat):Nat->Nat->Al
 |0,_,_,_=>.stuck
 | m+1,i,env,st=>yq st n λxs=>match xs[i]? with
  |none=>.ok (.nx env) st
  | some x=>match g (.tup [.int i,x]) env with
   |none=>.stuck
   | some bw=>(body bw st).bind λfl aG=>match fl with
    |.nx e=>ff g body n m (i+1) e aG
    |.ct e=>ff g body n m (i+1) e aG
    |.bk e=>.ok (.nx e) aG
    |.rt v=>.ok (.rt v) aG
def kM:List PV->Mo Nat
 |[.ref n],st=>yq st n λ_=>.ok n st
 |_,_=>.stuck
def xy {α:Type}{K:Frag}{mg:Ab}{ρ:Af}{H:Hp}{vs:Aq}{st:aa}{f:Nat->Mo α}{good:List Addr->Hp->α->aa->Prop}(h:Out K mg ρ H ((kM vs st).bind f) good Er):∃n xs,vs=[.ref n]/\st[n]?=some (.lst xs)/\Out K mg ρ H (f n st) good Er:=by
 unfold kM at h
 split at h
 ·rename_i n
  unfold yq at h
  cases hn:st[n]? with
  |none=>simp only [hn] at h;exact h.elim
  |some so =>
   cases so with
   |lst xs=>simp only [hn] at h;exact ⟨n,xs,rfl,hn,h⟩
   |_=>simp only [hn] at h;exact h.elim
 ·exact h.elim
def sx (fs:Aj) (g:PV->ze->Option ze) (body:Al):Al:=λenv st=>(fs env st).bind λvs ae=>(kM vs ae).bind λn ae=>ff g body n (lim+1) 0 env ae
def zrk {elts:List Expr} {kt:Nat} {tp p ip:Pos} {x:Expr} {gt:PV->ze->Option ze} (hp:PassesOwn (model X.prog X.w) X.A X.env X.xe) (hc:X.calm=true) (hm:X.mg "enumerate" = none) (ha:MA X Er [x] fs) (hg:MG X Er (.Tuple elts kt tp) gt) (hb:dB X Er cO gb)
  (iM:Gl X "enumerate" := by rfl) (bx:starEach [x] X.env=[(false,eval x X.env)]:=by rfl) (hs:∀v,foldedSetIterable (.Call (.Name "enumerate" p) [x] [] ip) X.env v=pure v:=by intro _;rfl) :
  MS X Er (.For (.Tuple elts kt tp) (.Call (.Name "enumerate" p) [x] [] ip) cO [] pos) (sx fs gt gb) :=
 PS.weak (oP hp hc (PF iM hm ha bx) hg hb hs) λD σ H ⟨env,st,ρ,re,rs,h⟩=>⟨env,st,ρ,re,rs,h.then λau H0 vs cI e0 s0 h0 us ru=>by
  obtain ⟨n,NB,rfl,PH,h0⟩:=xy h0
  obtain ⟨v,rfl,rv⟩:=ru.one
  obtain ⟨a,rfl,ha⟩:=rv
  obtain ⟨lP,PJ,p9⟩:=s0.addr PH ha
  refine ⟨a,rfl,⟨_,ba.of PJ⟩,?_⟩
  refine ⟨λi m σ H=>∃env st ρ,bg X.K X.mg ρ H env σ/\a4 X.K X.mg ρ H st/\ρ[n]?=some a/\Out X.K X.mg ρ H (ff gt gb n m i env st) (gS X.K X.mg D) Er,⟨lim+1,env,cI,au,re.ext e0,s0,ha,h0⟩,?_⟩
  rintro i m σ H ⟨env,st,ρ,re,rs,ha,h⟩
  cases m with
  |zero=>exact h.elim
  |succ m =>
   obtain ⟨xs,hn,h⟩:=jE h
   obtain ⟨vs,hH,hR⟩:=rs.addr hn ha
   cases hx:xs[i]? with
   |none =>
    simp only [hx] at h
    have:vs.length<=i:=by rw [<-hR.len];exact kY.mp hx
    exact .inl ⟨⟨vs,ba.of hH,this⟩,Out.now (x:=Fl.nx env) h rs σ re⟩
   |some x =>
    simp only [hx] at h
    obtain ⟨v,hv,rv⟩:=hR.get hx
    refine .inr ⟨⟨vs,v,ba.of hH,hv⟩,_,λaj H' p'=>⟨m,wt m,p'⟩,λv' H' y=>?_⟩
    obtain ⟨T,x',hT,rfl,rfl,y⟩:=y
    have e2:=y vs (ba.of hH)
    rw [hv] at e2
    cases e2
    have ex:Ext ρ H ρ (upd H T (.tup [.int i,v])):=Ext.new hT
    cases hgx:gt (.tup [.int i,x]) env with
    |none=>simp only [hgx] at h;exact h.elim
    |some bw =>
     simp only [hgx] at h
     refine ⟨.tup [.int i,x],env,bw,ρ,⟨T,[.int i,v],rfl,.inl (.inl yU),_,_,rfl,rfl,_,_,rfl,R.ext ex x rv,rfl⟩,re.ext ex,hgx,λaz r1=>⟨bw,st,ρ,r1,rs.new hT,Out.then (Out.ext h ex) λao H3 fl a8 e3 s3 h3=>?_⟩⟩
     cases fl with
     |nx e=>exact λaA r4=>⟨e,a8,ao,r4,s3,e3.get ha,h3⟩
     |ct e=>exact λaA r4=>⟨e,a8,ao,r4,s3,e3.get ha,h3⟩
     |bk e=>exact Out.fl (D:=D) (fl:=.nx e) (E:=Er) h3 s3
     |rt v=>exact Out.fl (D:=D) (fl:=.rt v) (E:=Er) h3 s3⟩
end
end Mi
namespace L2
open PySem PySem.Spec PyProof.Rows PySem.W
def PK (K:Frag) (te:TE) (tk:TO):TE:=fun σ H Q=>te σ H λx H1=>tk σ H1 λk H2=>k=some (-1)/\∃a xs,x=.ref a/\ba K H2 a xs/\∀p,H2 p=none->Q (.ref p) (upd H2 p (.lst xs.reverse))
def PL {X:Cx}{e k:Expr}{te:TE}{tk:TO}{p2 pos:Pos}(he:PE X e te) (hk:PO X (some k) tk):PE X (.Subscript e (.Slice none none (some k) p2) pos) (PK X.K te tk):=by
 intro pins s σ H Q I h
 refine Subscript_ (aX (he pins s σ H _ I h) λv s1 ⟨x,H1,I1,r1,q1⟩=>?_)
 refine wpAny_Slice ?_
 rw [evalPart_none]
 refine ya ?_
 refine ya ?_
 refine aX (hk pins s1 σ H1 _ I1 q1) λvk s3 ⟨k',H3,I3,pk,xA,a,xs,ex,hq,q3⟩=>?_
 subst ex xA
 obtain rfl:v=Value.ref a:=r1
 have I4:Inv X pins σ H3 { s3 with heap:=s3.heap.push { cls:=.type "slice", data:=.fields #[.none,.none,vk] } }:=I3.kept (t':=s3.toks) λb ob q=>yl _ q
 obtain ⟨its,rv,p,hz⟩:=I4.list hq
 show wpAny (model X.prog X.w) X.A (subscriptTail e (.Slice none none (some k) p2) (.ref a) (.ref s3.heap.objs.size)) (EP X pins σ Q) X.xe { s3 with heap:=s3.heap.push { cls:=.type "slice", data:=.fields #[.none,.none,vk] } }
 refine tail_any (ops:=[.ref a,.ref s3.heap.objs.size]) p.isList.typeIs list_getitem_lookup ?_ rfl
 have hlen:=rv.length
 refine wpAny_getItem_list_slice p.isList (Heap.IsSliceOf.new ..) .none .none pk (by decide) ?_ (by rw [yT];omega)
 rw [krv_pick]
 have rr:Vals xs.reverse its.reverse:=rv.reverse
 refine ⟨.ref (s3.heap.push { cls:=.type "slice", data:=.fields #[.none,.none,vk] }).objs.size,upd H3 _ (.lst xs.reverse),I4.laid (t':=s3.toks) (λb u e=>yl _ e) (zM _) (o:=.lst xs.reverse) ?_,rfl,q3 _ (I4.hok.fresh (zM _))⟩
 exact ⟨by simpa using hz,its.reverse,0,rr,yP _ rfl⟩
def dS (z:Str) (n:Int):Str:=if n<1 then Str.empty else if (n==1||z.length==0)=true then z else ⟨(List.replicate n.toNat z.cps).foldl (·++·) #[]⟩
theorem Eh (c:Array Nat):∀(k:Nat) (a:Array Nat),((List.replicate k c).foldl (·++·) a).size=a.size+k*c.size
 |0,a=>by simp
 |k+1,a=>by
  rw [List.replicate_succ,List.foldl_cons,Eh c k,Array.size_append,Nat.succ_mul]
  omega
def PN (z:Str) (n:Int):(dS z n).length=n.toNat*z.length:=by
 unfold dS
 split
 ·rename_i h
  have:n.toNat=0:=by omega
  rw [this,Nat.zero_mul];rfl
 ·rename_i h
  split
  ·rename_i h2
   simp only [Bool.or_eq_true,beq_iff_eq] at h2
   rcases h2 with h2|h2
   ·subst h2;simp
   ·rw [h2];simp
  ·show ((List.replicate n.toNat z.cps).foldl (·++·) #[]).size=_
   rw [Eh]
   show 0+n.toNat*z.cps.size=_
   rw [Nat.zero_add];rfl
def Ei:R2:=λx y H Q=>∃z n,x=.str z/\y=.int n/\(0<=n/\n<=1000/\z.length<=1000)/\Q (.str (dS z n)) H
def PQ {X:Cx}:bI X (binaryOp .Mult) Ei:=by
 intro pins s σ H x y v u Q I rx ry h
 obtain ⟨z,n,rfl,rfl,⟨h0,h1,h2⟩,q⟩:=h
 obtain ⟨t,rfl⟩:=rx
 obtain ⟨t',rfl⟩:=ry
 have hb:n.toNat*z.length<=1000000:=by
  have:n.toNat<=1000:=by omega
  calc n.toNat*z.length<=1000*1000:=Nat.mul_le_mul this h2
   _=1000000:=rfl
 have hsz:=sizeLine_eq
 refine PySem.P.mul_str (by rw [jo (by omega),jo (by omega)];rfl) (λha _=>?_) (λ_ _=>?_) ?_
 ·have:(2 ^ 63-1:Int)/n>=1000:=by
   rw [ge_iff_le,Int.le_ediv_iff_mul_le (by omega)]
   omega
  omega
 ·show decide _=false
  rw [decide_eq_false_iff_not]
  have:z.length*n.toNat<=1000000:=by rw [Nat.mul_comm];exact hb
  rw [sizeLine_eq];omega
 ·by_cases c1:n<1
  ·rw [zC c1]
   have e:dS z n=Str.empty:=by unfold dS;rw [zC c1]
   rw [e] at q
   exact ⟨by decide,.str Str.empty,H,I.tok _,⟨_,rfl⟩,q⟩
  ·rw [zQ c1]
   by_cases c2:(n==1||z.length==0)=true
   ·rw [zC c2]
    have e:dS z n=z:=by unfold dS;rw [zQ c1,zC c2]
    rw [e] at q
    exact ⟨.str z,H,I,⟨_,rfl⟩,q⟩
   ·rw [zQ c2]
    have e:dS z n=⟨(List.replicate n.toNat z.cps).foldl (·++·) #[]⟩:=by unfold dS;rw [zQ c1,zQ c2]
    have hl:=PN z n
    rw [e] at q hl
    exact ⟨by rw [hl,sizeLine_eq];omega,.str _,H,I.tok _,⟨_,rfl⟩,q⟩
end L2
namespace Mi
open PySem L2 PySem.W PySem.Spec
section
variable {X:Cx} {K:Frag} {mg:Ab} {Er:XK} {e o:Expr} {es:List Expr} {pos:Pos} {fa:Ak}
def yI:Ao
 |.int i,.int j,st=>DD (.int i) (.int j) st
 |.str z,.int n,st=>if 0<=n/\n<=1000/\z.length<=1000 then .ok (.str (dS z n)) st else .stuck
 |_,_,_=>.stuck
def wf:dR X .Mult yI:=by
 obtain ⟨r,h1,h2⟩:=Nu (X:=X)
 refine ⟨λx y H Q=>r x y H Q\/Ei x y H Q,h1.or PQ,fun ρ H st x y v w Q E s rx ry h=>?_⟩
 cases x with
 |int i =>
  cases y with
  |int j=>exact .inl (h2 ρ H st (.int i) (.int j) v w Q E s rx ry h)
  |_=>exact h.elim
 |str z =>
  cases y with
  |int n =>
   obtain ⟨c,h⟩:=Out.ifp h
   cases rx;cases ry
   exact .inr ⟨z,n,rfl,rfl,c,Out.now (x:=PV.str (dS z n)) h s _ rfl⟩
  |_=>exact h.elim
 |_=>exact h.elim
def wR:An
 |[.int i],st=>if i.natAbs.log2<1920 then .ok (.str (toString i)) st else .stuck
 |_,_=>.stuck
def PR:cA X (.type "str") wR:=⟨_,Kb,fun ρ H st xs vs Q E s r h=>by
 unfold wR at h
 split at h
 ·rename_i i
  obtain ⟨c,h⟩:=Out.ifp h
  obtain ⟨v,rfl,rfl⟩:=r.one
  exact ⟨i,rfl,c,Out.now (x:=PV.str (toString i)) h s _ rfl⟩
 ·exact h.elim⟩
def sy (o:PV) (k:Option Int):Mo PV:=λst=>match o,k with
 |.ref n,some (-1)=>yq st n λxs=>.ok (.ref st.length) (st++[.lst xs.reverse])
 |_,_=>.stuck
def sC (fa:Ak) (fk:ze->Mo (Option Int)):Ak:=λenv st=>(fa env st).bind λx ae=>(fk env ae).bind λk aG=>sy x k aG
theorem Rs.reverse {ρ:Af}{H:Hp}:∀{xs:Aq}{vs:List V},Rs K mg ρ H xs vs->Rs K mg ρ H xs.reverse vs.reverse
 |[],_,h=>by cases h;rfl
 |x::xs,_,h=>by
  obtain ⟨v,r,rfl,h1,h2⟩:=h
  rw [List.reverse_cons,List.reverse_cons]
  exact (Rs.reverse h2).append ⟨v,[],rfl,h1,rfl⟩
def zrp {k:Expr}{fk:ze->Mo (Option Int)}{p2:Pos}(ha:ME X Er e fa) (hk:MO X Er (some k) fk):ME X Er (.Subscript e (.Slice none none (some k) p2) pos) (sC fa fk) :=
 PE.weak (PL ha hk) fun σ H Q ⟨env,st,ρ,re,rs,h⟩=>⟨env,st,ρ,re,rs,h.then λah H1 x ae e1 s1 h1 v rv=>⟨env,ae,ah,re.ext e1,s1,h1.then λax H2 l aG e2 s2 h2=>by
  unfold sy at h2
  split at h2
  ·rename_i n
   obtain ⟨xs,hn,h2⟩:=jE h2
   obtain ⟨a,vs,rfl,ha,k1,k2⟩:=R.refL s2 (R.ext e2 _ rv) hn
   exact ⟨rfl,a,vs,rfl,ba.of k1,λp hp=>Out.newList h2 s2 k2.reverse hp⟩
  ·exact h2.elim⟩⟩
def p_:List Expr->Option (Ae)
 |[]=>some []
 |.Constant (.str z) _ _::r=>(p_ r).map (z::·)
 |_::_=>none
def xB (zs:Ae):Aj:=λ_ st=>.ok (zs.map PV.str) st
def zi7:∀{es:List Expr}{zs:Ae},p_ es=some zs->MA X Er es (xB zs):=by
 intro es
 induction es with
 |nil=>intro zs h;cases h;exact zn
 |cons e r ih =>
  intro zs h
  cases e with
  |Constant c j p =>
   cases c with
   |str z =>
    simp only [p_,Option.map_eq_some_iff] at h
    obtain ⟨zr,h1,rfl⟩:=h
    exact DA ye (ih h1) Px
   |_=>cases h
  |_=>cases h
end
section
variable {env:ze} {st:aa} {fa fe:Ak} {fs:Aj} {g:Al} {src:ze->Mo Sq}
@[simp] def Wo (xs:Aq) (i:Int):zk (.tup xs) (.int i) st=b_ (cQ xs i) st:=(rfl)
@[simp] def nX (n:Nat) (i:Int):zk (.ref n) (.int i) st=yq st n λxs=>b_ (cQ xs i) st:=(rfl)
@[simp] def xC (z:Str) (i:Int):zk (.str z) (.int i) st=if z.length<=lim then b_ ((cQ z.cps.toList i).map λc=>.str ⟨#[c]⟩) st else .stuck:=(rfl)
@[simp] def nY:y9 src fe env st=(src env st).bind λq ae=>fD fe env q ae:=(rfl)
@[simp] def sD (xs:Aq):fD fe env (.im xs) st=if xs.length<=lim then cB fe env xs [] st else .stuck:=(rfl)
@[simp] def Ej:cf fs env st=(fs env st).bind lZ:=(rfl)
@[simp] def PU (j:Int):lZ [.int j] st=if cR j=true then .ok (.im (nums 0 j.toNat)) st else .stuck:=(rfl)
@[simp] def PY (gt:PV->ze->Option ze):sx fs gt g env st=(fs env st).bind λvs ae=>(kM vs ae).bind λn ae=>ff gt g n (lim+1) 0 env ae:=(rfl)
@[simp] def Wq (n:Nat):kM [.ref n] st=yq st n λ_=>.ok n st:=(rfl)
@[simp] def PZ (i:Int):wR [.int i] st=if i.natAbs.log2<1920 then .ok (.str (toString i)) st else .stuck:=(rfl)
@[simp] def P0 (i j:Int):yI (.int i) (.int j) st=if cV i j=true then .ok (.int (i*j)) st else .stuck:=(rfl)
@[simp] def P4 (fk:ze->Mo (Option Int)):sC fa fk env st=(fa env st).bind λx ae=>(fk env ae).bind λk aG=>sy x k aG:=(rfl)
@[simp] def P5 (n:Nat):sy (.ref n) (some (-1)) st=yq st n λxs=>.ok (.ref st.length) (st++[.lst xs.reverse]):=(rfl)
@[simp] def Ek (neg:Bool) (x:PV) (ys:Aq):yA neg x (.tup ys) st=if okIn x ys then .ok (.bl (neg.xor (ys.any λy=>bN y x))) st else .stuck:=by unfold yA;cases x<;>rfl
@[simp] def iN (n:Nat):jF [.ref n] st=yq st n λxs=>.ok (.tup xs) st:=(rfl)
@[simp] def El (n:Nat) (y:PV):yY (.ref n) y st=yq st n λxs=>if xs.length<lim then .ok .non (st.set n (.lst (xs++[y]))) else .stuck:=(rfl)
end
def Pre (a b:aa):Prop:=∃d,b=a++d
def Pre.refl (st:aa):Pre st st:=⟨[],by simp⟩
def Pre.trans {a b c:aa}(h:Pre a b) (h':Pre b c):Pre a c:=by obtain ⟨d,rfl⟩:=h;obtain ⟨d',rfl⟩:=h';exact ⟨d++d',by simp⟩
def Pre.of (st d:aa):Pre st (st++d):=⟨d,rfl⟩
def Pre.get {a b:aa}(h:Pre a b) {n:Nat}{so:SO}(e:a[n]?=some so):b[n]?=some so:=by
 obtain ⟨d,rfl⟩:=h
 rw [wD (yD.mp e).1]
 exact e
def zV (st:aa) (so:SO):(st++[so])[st.length]?=some so:=by simp
theorem Em {fe:Ak}{env:ze}{f:PV->PV}{st:aa}:∀(xs:Aq),(∀x∈xs,fe (some x::env) st=.ok (f x) st)->∀(ys:Aq),cB fe env xs ys st=.ok (.ref st.length) (st++[.lst (ys++xs.map f)])
 |[],_,ys=>by simp [cB]
 |x::xs,h,ys=>by
  simp only [cB,h x (jC ..),we,zL]
  rw [Em xs (λx' nS=>h x' (jZ _ nS))]
  simp
def zrw {K:Frag}{mg:Ab}{t:IsT}(hs:t.sub=λ_ _=>none) (hT:t.subT=λ_ _=>none) (hC:t.tyC=λ_ _=>none):IsF K mg t where
 s c B b h:=by rw [hs] at h;cases h
 tt c n b h:=by rw [hT] at h;cases h
 u T B b h:=by rw [hC] at h;cases h
 x c C h hm z:=by
  rcases z with ⟨B,b,z⟩|⟨n,b,z⟩
  ·rw [hs] at z;cases z
  ·rw [hT] at z;cases z
 i c C h hm z:=by
  rcases z with ⟨B,b,z⟩|⟨n,b,z⟩
  ·rw [hs] at z;cases z
  ·rw [hT] at z;cases z
section
variable {X:Cx} {Er:XK} {pos:Pos}
def sE:List (Ak)->Aj
 |[],_,st=>.ok [] st
 |f::r,env,st=>(f env st).bind λx ae=>(sE r env ae).bind λxs aG=>.ok (x::xs) aG
inductive gi (X:Cx) (Er:XK):List (Option Expr)->List Expr->List Str->List (Ak)->Prop
 |nil:gi X Er [] [] [] []
 |cons {z:Str} {j} {p:Pos} {v:Expr} {f:Ak} {ks:List (Option Expr)} {vs:List Expr} {zs:Ae} {fs:List (Ak)} (hv:ME X Er v f) (hr:gi X Er ks vs zs fs):gi X Er (some (.Constant (.str z) j p)::ks) (v::vs) (z::zs) (f::fs)
theorem gi.pps:∀{ks:List (Option Expr)}{vs:List Expr}{zs:Ae}{fs:List (Ak)},gi X Er ks vs zs fs->nH X pos ks vs ((zs.zip fs).map λq=>(tC (.str q.1),tM X.K X.mg Er q.2))
 |_,_,_,_,.nil=>C9
 |_,_,_,_,.cons hv hr=>C_ BL hv hr.pps
def gi.len {ks:List (Option Expr)}{vs:List Expr}{zs:Ae}{fs:List (Ak)}(h:gi X Er ks vs zs fs):ks.length=vs.length/\zs.length=fs.length/\ks.length=zs.length/\ks.all (·.isSome)=true:=by
 induction h with
 |nil=>exact ⟨rfl,rfl,rfl,rfl⟩
 |cons hv hr ih=>exact ⟨by simp [ih.1],by simp [ih.2.1],by simp [ih.2.2.1],by simpa using ih.2.2.2⟩
theorem Eo {K:Frag}{mg:Ab}:∀{zs:Ae}{fs:List (Ak)}{env:ze}{st:aa}{ρ:Af}{H:Hp}{σ:L2.St}{Q:List (V×V)->Hp->Prop},zs.length=fs.length->bg K mg ρ H env σ->a4 K mg ρ H st ->
  Out K mg ρ H (sE fs env st) (λak H' xs a5=>∀vs,Rs K mg ak H' xs vs->Q ((zs.map V.str).zip vs) H') Er->pF ((zs.zip fs).map λq=>(tC (.str q.1),tM K mg Er q.2)) σ H Q
 |[],[],env,st,ρ,H,σ,Q,_,re,rs,h=>h.now rs [] rfl
 |z::zs,f::fs,env,st,ρ,H,σ,Q,hl,re,rs,h=>by
  refine ⟨env,st,ρ,re,rs,Out.then h λah H1 x ae e1 s1 h1 v rv=>?_⟩
  refine Eo (env:=env) (st:=ae) (ρ:=ah) (by simpa using hl) (re.ext e1) s1 (Out.then h1 λax H2 xs aG e2 s2 h2 vs pM=>?_)
  exact h2.now s2 (v::vs) ⟨v,vs,rfl,R.ext e2 x rv,pM⟩
 |[],_::_,_,_,_,_,_,_,hl,_,_,_=>by simp at hl
 |_::_,[],_,_,_,_,_,_,hl,_,_,_=>by simp at hl
def eI:Option SO->Bool
 |some (.dic [] [])=>true
 |_=>false
def sF (zs:Ae) (fs:List (Ak)):Ak:=λenv st=>(sE fs env (st++[.dic [] []])).bind λxs ae =>
 if eI ae[st.length]?=true then .ok (.ref st.length) (ae.set st.length (.dic (kL (zs.zip xs) [] []).1 (kL (zs.zip xs) [] []).2)) else .stuck
def Ep {o:Option SO}(h:eI o=true):o=some (.dic [] []):=by
 unfold eI at h
 split at h
 ·rfl
 ·cases h
theorem xD:∀{zs:Ae}{vs:List V},(zs.map V.str).zip vs=((zs.map Sum.inr:List Key).zip vs).map λkv=>(kV kv.1,kv.2)
 |[],_=>rfl
 |_::_,[]=>rfl
 |z::zs,v::vs=>by simp only [jg,List.zip_cons_cons,xD (zs:=zs) (vs:=vs)];rfl
def P6 {keys:List (Option Expr)}{values:List Expr}{zs:Ae}{fs:List (Ak)}(h:gi X Er keys values zs fs) (h0:keys≠[]) (pG:keys.length<=15):ME X Er (.Dict keys values pos) (sF zs fs):=by
 obtain ⟨l1,l2,l3,l4⟩:=h.len
 exact PE.weak (Df h.pps l4 l1 h0 pG) fun σ H Q ⟨env,st,ρ,re,rs,ho⟩=>λp hp=>by
  have e0:Ext ρ H (ρ++[p]) (upd H p (.dK [])):=Ext.push hp
  have s0:a4 X.K X.mg (ρ++[p]) (upd H p (.dK [])) (st++[.dic [] []]):=rs.push hp ⟨[],yU,rfl,rfl⟩
  have xE:(ρ++[p])[st.length]?=some p:=by rw [<-rs.len];simp
  refine Eo l2 (re.ext e0) s0 (Out.then (Out.ext ho e0) λah H1 xs ae e1 s1 h1 vs rv=>?_)
  obtain ⟨c,h1⟩:=Out.ifp h1
  have hd:=Ep c
  have l_:=e1.get xE
  obtain ⟨ws,k1,k2,k3⟩:=s1.addr hd l_
  have ew:ws=[]:=by cases ws with|nil=>rfl|cons=>simp at k3
  subst ew
  refine ⟨k1,(zs.map Sum.inr:List Key).zip vs,xD,by rw [List.length_zip,jD];omega,?_⟩
  have eq:Ext ah H1 ah (upd H1 p (.dK (dA [] ((zs.map Sum.inr:List Key).zip vs)))):=Ext.write k1 rfl
  obtain ⟨us,q1,q2,q3⟩:=xx (K:=X.K) (mg:=X.mg) (zs:=zs) (ks:=[]) (xs:=[]) (vs:=[]) rv rfl rfl
  exact h1 ah _ eq (s1.write l_ eq ⟨us,by rw [yU];exact congrArg (λt=>some (HO.dK t)) q1,Rs.ext eq _ q2,q3⟩) _ ⟨p,rfl,l_⟩
def zry:gi X Er [] [] [] []:=.nil
def zrz {z:Str}{j}{p:Pos}{v:Expr}{f:Ak}{ks:List (Option Expr)}{vs:List Expr}{zs:Ae}{fs:List (Ak)}(hv:ME X Er v f) (hr:gi X Er ks vs zs fs):gi X Er (some (.Constant (.str z) j p)::ks) (v::vs) (z::zs) (f::fs):=.cons hv hr
end
section
variable {X:Cx}
def ma:An
 |[.int i,.int j],st=>.ok (.int (if j>i then j else i)) st
 |_,_=>.stuck
def P7 (hc:X.calm=true):cA X (.builtin "max") ma:=⟨_,Ka hc,fun ρ H st xs vs Q E s r h=>by
 unfold ma at h
 split at h
 ·rename_i a5 i j
  obtain ⟨v,w,rfl,r1,r2⟩:=r.two
  cases r1;cases r2
  exact ⟨i,j,rfl,Out.now (x:=PV.int (if j>i then j else i)) h s _ rfl⟩
 ·exact h.elim⟩
def P8:bootBuiltins "max" = some (.builtin "max"):=by decide +kernel
end
section
variable {X:Cx}
def P9:bI X (compareOp .Is) (λx y H Q=>∃a b,x=.bl a/\y=.bl b/\Q (.bl (a==b)) H):=by
 intro pins s σ H x y v u Q I rx ry h
 obtain ⟨a,b,rfl,rfl,q⟩:=h
 cases rx;cases ry
 exact PyProof.Rows.is_bool ⟨.bl (a==b),H,I,rfl,q⟩
def P_:bI X (compareOp .IsNot) (λx y H Q=>∃a b,x=.bl a/\y=.bl b/\Q (.bl (!(a==b))) H):=by
 intro pins s σ H x y v u Q I rx ry h
 obtain ⟨a,b,rfl,rfl,q⟩:=h
 cases rx;cases ry
 exact PyProof.Rows.isnot_bool ⟨.bl (!(a==b)),H,I,rfl,q⟩
def sG:Ao
 |.bl a,.bl b,st=>.ok (.bl (a==b)) st
 |x,y,st=>DG x y st
def wS:Ao
 |.bl a,.bl b,st=>.ok (.bl (!(a==b))) st
 |x,y,st=>DH x y st
def zrC:cz X .Is sG:=by
 obtain ⟨r,h1,h2⟩:=NC (X:=X)
 refine ⟨λx y H Q=>r x y H Q\/_,h1.or P9,fun ρ H st x y v w Q E s rx ry h=>?_⟩
 unfold sG at h
 split at h
 ·rename_i a b
  cases rx;cases ry
  exact .inr ⟨_,_,rfl,rfl,Out.now (x:=PV.bl (a==b)) h s _ rfl⟩
 ·exact .inl (h2 ρ H st _ _ v w Q E s rx ry h)
def zdY:cz X .IsNot wS:=by
 obtain ⟨r,h1,h2⟩:=ND (X:=X)
 refine ⟨λx y H Q=>r x y H Q\/_,h1.or P_,fun ρ H st x y v w Q E s rx ry h=>?_⟩
 unfold wS at h
 split at h
 ·rename_i a b
  cases rx;cases ry
  exact .inr ⟨_,_,rfl,rfl,Out.now (x:=PV.bl (!(a==b))) h s _ rfl⟩
 ·exact .inl (h2 ρ H st _ _ v w Q E s rx ry h)
end
def uN (f:PV->PV->Option Bool):List PV->List PV->Option Bool
 |[],[]=>some true
 | x::xs,y::ys=>match f x y,uN f xs ys with
  |some a,some b=>some (a&&b)
  |_,_=>none
 |_,_=>some false
def qa (f:PV->PV->Option Bool) (eJ:Ae) (e6:Aq):List Str->List PV->Option Bool
 | k::ks,x::xs=>match (eJ.zip e6).lookup k with
  |none=>some false
  | some y=>match f x y,qa f eJ e6 ks xs with
   |some a,some b=>some (a&&b)
   |_,_=>none
 |_,_=>some true
def Qa (P:Program) (W:World) (A:Around) (s:Shared) (u u':Value) (b:Bool):Prop:=∀(E:Aa) (Q:Bool->Shared->Prop),Q b s->wpAny (model P W) A (eqBool u u') Q E s
section
variable {X:Cx} {Er:XK} {K:Frag} {mg:Ab}
theorem cT:∀{ks:Ae}{us:Ah},us.length=ks.length->(∀(j:Nat) v,us[j]?=some v->∃k,ks[j]?=some k/\∃t,v=Value.str k t)->Vals (ks.map V.str) us
 |[],[],_,_=>.nil
 |[],_::_,h,_=>by simp at h
 |_::_,[],h,_=>by simp at h
 |k::ks,u::us,h,hv=>by
  obtain ⟨k',e,t,ev⟩:=hv 0 u rfl
  simp at e
  subst e
  exact .cons ⟨t,ev⟩ (cT (by simpa using h) λj v e=>by simpa using hv (j+1) v (by simpa using e))
def Qb (hc:X.calm=true):bV X (.type "list") (λxs H Q=>∃p ks vs,xs=[.ref p]/\H p=some (.dK (kz ks vs))/\ks.length=vs.length/\∀l,H l=none->Q (.ref l) (upd H l (.lst (ks.map V.str)))):=by
 intro pins s σ H xs us Q I r h
 obtain ⟨p,ks,vs,rfl,hp,hl,q⟩:=h
 obtain ⟨u,rfl,rx⟩:=ic r
 cases rx
 obtain ⟨hz,lo,kv,sH,hd⟩:=iw I.hok (.inl hp)
 obtain ⟨ep,qb⟩:=hd.dictAt
 have lk:kv.length=ks.length:=by rw [<-sH.length];simp [kz,hl]
 have keys:kv.map (·.1)=ks.map Sum.inr:=by
  rw [<-sH.keys]
  simp [kz,hl,List.map_fst_zip]
 refine kdl_call (kdl_dict (knd:=a_ X.prog X.w) (kvs:=kv) (ep:=ep) lo) (I.ok.hd hc) qb (by rw [<-sH.length];exact hz) λh' tk bS c' hk hS mZ=>?_
 have hv:Vals (ks.map V.str) bS.toList:=cT (by rw [Array.length_toList,mZ.1,lk]) λj v e=>by
  obtain ⟨k,x,e1,e2⟩:=mZ.2 j v (by rw [<-Array.getElem?_toList];exact e)
  have e3:(kv.map (·.1))[j]?=some k:=by rw [jd,e1];rfl
  rw [keys,jd] at e3
  cases e4:ks[j]? with
  |none=>rw [e4] at e3;cases e3
  |some k' =>
   rw [e4] at e3
   cases e3
   rcases wY (show dN (Sum.inr k') v=true from e2) with ⟨i,t,z,_⟩|⟨y,t,z,z'⟩
   ·cases z
   ·cases z;exact ⟨k',rfl,t,z'⟩
 exact ⟨.ref s.heap.objs.size,_,I.laid (t':=tk) hk (zM _) (show a9 X.prog X.w _ h' _ (.lst (ks.map V.str)) from ⟨by rw [jD,<-lk,<-sH.length];exact hz,bS.toList,c',hv,by simpa using hS⟩),rfl,q _ I.fresh⟩
def jO:An:=λxs st=>match xs with
 | [.ref n]=>match st[n]? with
  |some (.dic ks _)=>.ok (.ref st.length) (st++[.lst (ks.map PV.str)])
  |_=>pQ xs st
 |_=>pQ xs st
theorem xF {ρ:Af}{H:Hp}:∀{ks:Ae},Rs K mg ρ H (ks.map PV.str) (ks.map V.str)
 |[]=>rfl
 |k::ks=>⟨_,_,rfl,rfl,xF⟩
def Qc (hc:X.calm=true):cA X (.type "list") jO:=by
 obtain ⟨r,h1,h2⟩:=NS (X:=X)
 refine ⟨_,h1.or (Qb hc),fun ρ H st xs vs Q E s rx h=>?_⟩
 by_cases hx:∃n ks ys,xs=[.ref n]/\st[n]?=some (.dic ks ys)
 ·obtain ⟨n,ks,ys,rfl,e⟩:=hx
  have h:Out X.K X.mg ρ H (.ok (.ref st.length) (st++[.lst (ks.map PV.str)])) (gV X.K X.mg Q) E:=by
   simpa only [jO,e] using h
  obtain ⟨v,rfl,rv⟩:=Rs.one rx
  obtain ⟨a,vs,rfl,_,k1,_,k3⟩:=R.refD s rv e
  exact .inr ⟨a,ks,vs,rfl,k1,k3,λl hl=>Out.newList (xs:=ks.map PV.str) h s xF hl⟩
 ·refine .inl (h2 ρ H st xs vs Q E s rx ?_)
  have:jO xs st=pQ xs st:=by
   unfold jO
   split
   ·rename_i n
    split
    ·rename_i ks ys e;exact absurd ⟨n,ks,ys,rfl,e⟩ hx
    ·rfl
   ·rfl
  rw [this] at h
  exact h
def iO {ss:List Stmt}:dB X Er ss yu:=cq.weak Jx λD σ H ⟨env,st,ρ,re,rs,h⟩=>h
end
section
variable {P:Program} {W:World} {A:Around} {s:Shared} {K:Type} [DecidableEq K]
inductive iP (P:Program) (W:World) (A:Around) (s:Shared) (kb:List (K×Value)):List (K×Value)->Bool->Prop
 |nil:iP P W A s kb [] true
 |miss {k:K} {v:Value} {r:List (K×Value)} (h:valueAt kb k=none):iP P W A s kb ((k,v)::r) false
 |hit {k:K} {v y:Value} {r:List (K×Value)} {e b:Bool} (h:valueAt kb k=some y) (he:Qa P W A s v y e) (hr:iP P W A s kb r b):iP P W A s kb ((k,v)::r) (e&&b)
end
def xG:Option SO->Bool
 |some (.dic _ _)=>true
 |_=>false
def qc (st:aa):PV->Option Nat
 |.int _=>some 0
 |.str _=>some 1
 |.tup _=>some 2
 |.ref a=>if xG st[a]?=true then some 3 else none
 |_=>none
def Es (f:PV->PV->Option Bool):Option SO->Option SO->Option Bool
 |some (.dic ks xs),some (.dic eJ e6)=>if ks.Nodup/\ks.length=xs.length then if ks.length=eJ.length then qa f eJ e6 ks xs else some false else none
 |_,_=>none
section
variable {K:Frag} {mg:Ab} {ρ:Af} {H:Hp} {st:aa}
inductive Kn (K:Frag) (mg:Ab) (ρ:Af) (H:Hp) (st:aa):PV->V->Nat->Prop
 |num (i:Int):Kn K mg ρ H st (.int i) (.int i) 0
 |txt (z:Str):Kn K mg ρ H st (.str z) (.str z) 1
 |row {xs:Aq} {a:Addr} {vs:List V} (h:bt K H a vs) (r:Rs K mg ρ H xs vs):Kn K mg ρ H st (.tup xs) (.ref a) 2
 |rec_ {n:Nat} {a:Addr} {ks:Ae} {xs:Aq} {vs:List V} (e:st[n]?=some (.dic ks xs)) (ha:ρ[n]?=some a) (h:H a=some (.dK (kz ks vs))) (r:Rs K mg ρ H xs vs) (l:ks.length=vs.length):Kn K mg ρ H st (.ref n) (.ref a) 3
inductive qd (st:aa) (f:PV->PV->Option Bool):PV->PV->Bool->Prop
 |num (a b:Int):qd st f (.int a) (.int b) (a==b)
 |txt (a b:Str):qd st f (.str a) (.str b) (a==b)
 |row {xs ys:Aq} {k:Bool} (h:uN f xs ys=some k):qd st f (.tup xs) (.tup ys) k
 |rec_ {a b:Nat} {k:Bool} (h:Es f st[a]? st[b]?=some k):qd st f (.ref a) (.ref b) k
 |apart {x y:PV} {i j:Nat} (hx:qc st x=some i) (hy:qc st y=some j) (h:i≠j):qd st f x y false
end
section
open Classical in
open Classical in
end
end Mi
namespace L2
open PySem PySem.Spec PyProof.Rows
def Qd (iy:Nat) (wi:TI) (te:TE):TS:=λD σ H=>wi σ H λJ H1=>lq J te σ (λv H2=>D.nx (σ.set iy (some v)) H2) H1
def Qe {X:Cx} {elt iter:Expr} {x y:Str} {px pos pos' fI:Pos} {scope:Scope} {wi:TI} {te:TE} {M:Ae} {iy:Nat} (hc:X.calm=true) (S:cy X.env.scope scope x) (eN:Hid scope M X.N) (cj:((".0" : Str)::x::M).Nodup)
  (hi:PI X (.Name x px) iter wi) (he:∀cl C af ai fp,PE (kA X M scope cl x C af ai fp (λ_ _=>False)) elt te) (qe:X.N.Nodup) (qf:X.N[iy]?=some y) (hy:Loc X.env.scope y) (qg:X.fn y=true\/X.env.scope.names.lookup y=some .local)
  (gj:swapsWith (.ListComp elt [⟨.Name x px,iter,[],0⟩] scope pos) (some (.Name y pos')) fI.line X.env=pure true) (hs:∀v,foldedSetIterable iter X.env v=pure v:=by intro _;rfl):PS X (.Assign [.Name y pos'] (.ListComp elt [⟨.Name x px,iter,[],0⟩] scope pos) fI) (Qd iy wi te):=by
 intro pins s σ H Dn I h
 have hN:(x::M).Nodup:=(j6.mp cj).2
 have vB:(".0" : Str)∉M:=λz=>(j6.mp cj).1 (jZ _ z)
 obtain ⟨cl,lx,cS,kC⟩:=CM X.env scope λp hp hf=>I.ok.has p.1 (.inl (S.free p hp hf))
 have ly:X.env.scope.kind=.function:=I.ok.kind
 rw [exec_Assign_Name_used _ _ _ _ gj]
 refine zu (wpAny_standAt ?_)
 rw [arm_evalThenUse_ListComp]
 refine zu (zu (wpAny_comprehension_free (Q:=λ_ s'=>wpAny (model X.prog X.w) X.A (pure ():Sem Unit) (λ_ s'=>wpAny (model X.prog X.w) X.A (pure .next:Sem Flow) (SP X pins Dn) X.xe s') X.xe s') (use:=some (assign (.Name y pos') X.env)) rfl hs lx S.kind (λy hy hl=>(S.names y hy hl).1) ?_))
 refine aX (hi pins s σ H _ I h) λv s1 h1=>aX h1 λrp af h2=>?_
 obtain ⟨it,fp,tn,J,H2,e,I2,T,aG,f2,W,⟨m0,w0⟩,turn⟩:=h2
 subst e
 refine wn (wpAny_newFunctionEnv S.ncell (by intro y hy;simp at hy) (λay aH aF=>?_) S.kind)
 dsimp only at aH aF ⊢
 generalize hH2:af.heap.push { cls:=.type "list", dict:=none,data:=.seq ([]:Ah).toArray }=G2 at aH aF ⊢
 have hC:G2.objs.size=af.heap.objs.size+1:=by rw [<-hH2,Heap.size_push]
 have gI:af.heap.objs.size≠G2.objs.size:=by rw [hC];exact yX (wt _)
 have CS:af.heap.objs.size<=G2.objs.size:=by rw [hC];exact Nat.le_succ _
 have old:∀b o,af.heap.get? b=some o->ay.get? b=some o:=λb o e=>by
  have hb:b≠G2.objs.size:=by rw [hC];exact yX (Nat.lt_succ_of_lt (yw e))
  exact aF.extBut b o hb (yl _ (hH2▸yl _ e))
 have cF:ay.get? af.heap.objs.size=some { cls:=.type "list", data:=.seq (#[]:Array Value) 0 }:=aF.extBut _ _ gI (yl _ (hH2▸yP _ rfl))
 generalize hD:af.heap.objs.size=D at *
 generalize hCC:G2.objs.size=C at *
 have dZ:∀{b:Nat} {o:Obj},af.heap.get? b=some o->b<D:=λe=>by rw [<-hD];exact yw e
 have nofr:∀b,D<=b->b∉cN X.stack:=λb hb z=>by
  rcases yE.mp (I2.stkSub b z) with q|q
  ·exact CH I2.lt hD hb q
  ·exact I2.nofs (by rw [hD];exact hb) q
 let E':Aa:=notedBy (model X.prog X.w) X.A (compEnvC scope cl C X.env) λe s'=>compPost (model X.prog X.w) X.A X.xe (some (assign (.Name y pos') X.env)) (λ_ s'=>wpAny (model X.prog X.w) X.A (pure ():Sem Unit) (λ_ s'=>wpAny (model X.prog X.w) X.A (pure .next:Sem Flow) (SP X pins Dn) X.xe s') X.xe s') (.ref D) C (.error e) s'
 let Y:Cx:=kA X M scope cl x C af H2 fp E'
 have dy:∀b∈fp,cP X pins H2 b:=f2
 have lC:Y.Ok:=by
  refine ⟨I2.ok.mod,S.kind,I2.ok.glob,I2.ok.blt,(by show af.heap.objs.size<=C;omega),λy z c h1 h2=>?_,λy hy=>?_,λy c hf=>?_,I2.ok.hd,I2.ok.frames,.inl rfl,λb hb=>?_,I2.bs,jw I2.ok.bsz I2.sz,λb o hb hx=>?_,λb hb hx=>?_,I2.stack,I2.stkFree⟩
  ·exact I2.ok.inj y z c (cS y c h1) (cS z c h2)
  ·exact kC y (vv S ly hy)
  ·cases hf
  ·refine ⟨λz=>?_,λy c hy=>(dy b hb).2.2.2.2.1 y c (cS y c hy)⟩
   obtain ⟨o,ho,_⟩:=T.obj 0 _ aG b hb
   exact lj (dZ ho) hC z
  ·rcases (dy b hx).2.2.2.1 with z|z
   ·exact I2.ok.noex b o hb z
   ·exact CJ (yw hb) I2.ok.bsz z
  ·rcases yE.mp (I2.stkSub b hx) with q|q
   ·exact (dy b hb).2.1 q
   ·exact (dy b hb).2.2.1 q
 have fA:∀{s':Shared} {H':Hp} {o:Obj},s'.heap.get? D=some o->H' D=none->(∀v,o.data ≠ .cell v)->∀p∈[(D,o)],s'.heap.get? p.1=some p.2/\H' p.1=none/\p.1≠Y.env.locals/\p.1∉Y.fs/\∀v,p.2.data ≠ .cell v:=λ{s' H' o} e1 e2 e3 p hp=>by
  have ep:p=(D,o):=by simpa using hp
  subst ep
  exact ⟨e1,e2,gI,nofr D (zM _),e3⟩
 have I0:Inv Y [(D,{ cls:=.type "list", data:=.seq (#[]:Array Value) 0 })] (none::σ) H2 { af with heap:=ay,toks:=af.toks+([]:List (Str×Value)).length }:=by
  have fresh:∀b,D<=b->H2 b=none:=λb hb=>I2.hok.fresh (by rw [hD];exact hb)
  refine ⟨lC,rfl,I2.bare,Un.kept old,⟨_,aH,λi y v e1 e2 e3=>?_⟩,λy c hy=>?_,fresh C (by omega),λy c hy=>I2.freeC y c (cS y c hy),λp hp=>fA cF (fresh D (zM _)) (λv z=>by cases z) p hp,I2.hok.kept old,?_⟩
  ·cases i with
   |zero=>simp at e2
   |succ i =>
    have ph:M[i]?=some y:=by simpa [Y,kA] using e1
    have pj:X.N[i]?=some y:=by
     rcases eN.get ph with q|q
     ·exact q
     ·refine absurd ?_ q
      rcases e3 with e3|e3|e3<;>(obtain ⟨k0,hm,_⟩:=kB e3;exact wC.mpr ⟨_,hm,rfl⟩)
    have vC:σ[i]?=some (some v):=by simpa using e2
    have pv:¬(y=x\/y = ".0"):=λz=>by
     have hm:=jR ph
     rcases z with z|z
     ·rw [z] at hm
      exact (j6.mp hN).1 hm
     ·rw [z] at hm
      exact vB hm
    have dq:(y,NameKind.free)∈scope.names:=by
     rcases e3 with e3|e3|e3
     ·exact absurd (CN S e3) pv
     ·exact vv S ly (.inl e3)
     ·exact vv S ly (.inr e3)
    have pA:X.env.scope.names.lookup y=some .cell:=S.free _ dq rfl
    obtain ⟨m,hn,hl⟩:=I2.loc
    obtain ⟨u,r,l⟩:=hl i y v pj vC (.inr (.inl pA))
    refine ⟨u,r,?_⟩
    rcases l with ⟨hk,_⟩|⟨_,c,ni,dO⟩
    ·have:X.env.kindOf y=some .cell:=pA
     rw [this] at hk;cases hk
    ·obtain ⟨c',cG⟩:=kC y dq
     have:=cS y c' cG
     rw [ni] at this
     cases this
     refine .inr ⟨?_,c,cG,?_⟩
     ·rcases e3 with e3|e3|e3
      ·exact absurd (CN S e3) pv
      ·exact .inl e3
      ·exact .inr e3
     ·obtain ⟨o,ho,hd⟩:=dO
      exact ⟨o,old c o ho,hd⟩
  ·obtain ⟨v,o,ho,hd⟩:=I2.cell y c (cS y c hy)
   exact ⟨v,o,old c o ho,hd⟩
  ·show (none::σ).length=(x::M).length
   simp [I2.len,eN.1]
 have lE:∀{pl:Ac} {H':Hp},(∀p∈pl,p.1=D)->(∀b∈fp,H' b=none)->∀b∈fp,cP Y pl H' b:=λ{pl H'} bT hn b hb=>by
  obtain ⟨o,ho,_⟩:=T.obj 0 _ aG b hb
  refine ⟨hn b hb,λz=>?_,?_,.inl hb,(lC.exf b hb).2,λp hp z=>?_⟩
  ·exact lj (dZ ho) hC z
  ·exact lC.exfs b hb
  ·have hp':p∈pl:=by simpa [Y,kA] using hp
   exact CK (dZ ho) (bT p hp') z
 have loop:codeAny (model X.prog X.w) X.A (.compLoop (.ListComp elt [⟨.Name x px,iter,[],0⟩] scope pos) 0 (.ref it) (.ref D) (compEnvC scope cl C X.env))
   (compPost (model X.prog X.w) X.A X.xe (some (assign (.Name y pos') X.env)) (λ_ s'=>wpAny (model X.prog X.w) X.A (pure ():Sem Unit) (λ_ s'=>wpAny (model X.prog X.w) X.A (pure .next:Sem Flow) (SP X pins Dn) X.xe s') X.xe s') (.ref D) C) { af with heap:=ay,toks:=af.toks+([]:List (Str×Value)).length }:=by
  refine LS (λn s'=>∃i ys H' its k,Inv Y [(D,{ cls:=.type "list", data:=.seq (its:Ah).toArray k })] (none::σ) H' s'/\Vals ys its/\tn i s'.heap/\(∀b∈fp,H' b=none)/\W i n ys H') ?_ m0
   ⟨0,[],H2,[],0,I0,.nil,T.keep 0 _ _ aG (λb hb o e=>old b o e),λb hb=>(dy b hb).1,w0⟩
  rintro n s3 ⟨i,ys,H3,its,k,I3,rv,a8,kj,w3⟩
  have fX:∀{o:Obj},∀p∈[(D,o)],p.1=D:=λ{o} p hp=>by
   have ep:p=(D,o):=by simpa using hp
   rw [ep]
  obtain ⟨gD,nD,_,_,_⟩:=I3.pin (D,_) (y0 _ jC)
  rcases turn i n ys H3 w3 with ⟨stop,hz,q⟩|⟨go,hz,step⟩
  ·refine aX (T.done Y rfl rfl rfl hc i _ s3 _ H3 E' I3 (lE fX kj) a8 stop) λr s4 ⟨hr,I4⟩=>?_
   subst hr
   obtain ⟨vD,lG,_,_,_⟩:=I4.pin (D,_) (y0 _ jC)
   obtain ⟨m4,vE,_⟩:=id I4.loc
   have fin:∀h',Heap.SameBut C s4.heap h'->Inv X pins σ (upd H3 D (.lst ys)) { s4 with heap:=h' }:=λh' dz=>by
    have gE:∀{b:Addr} {u:HO},H3 b=some u->b≠C:=λe z=>by
     have:H3 C=none:=I4.free
     rw [z,this] at e;cases e
    refine I2.call' (s':={ s4 with heap:=h' }) (ch:=fp) (H':=upd H3 D (.lst ys)) I4.os ?_ ?_ I4.bare λb hb=>⟨(dy b hb).2.2.2.1,(dy b hb).2.1,(dy b hb).2.2.2.2.1,(dy b hb).2.2.2.2.2⟩
    ·have B:=I4.base
     have lH:∀{b:Nat} {o:Obj},af.heap.get? b=some o->b≠C:=λe z=>lj (dZ e) hC z
     have lI:∀{b:Addr} {u:HO},H3 b=some u->b≠D:=λe z=>by rw [z,lG] at e;cases e
     refine ⟨λb o e nn hb hx=>(dz.2 b (lH e)).trans (B.keep b o e nn hb hx),λb o e nn hb hx=>?_,λb o e nn hx=>?_,λb o e hx=>?_,λb xs e=>?_,λb o u e=>?_,λb ps e=>?_⟩
     ·obtain ⟨sl,z⟩:=B.slot b o e nn hb hx
      exact ⟨sl,(dz.2 b (lH e)).trans z⟩
     ·have vF:b≠D:=yX (dZ e)
      rw [yf vF]
      exact B.free b o e nn hx
     ·obtain ⟨o',z⟩:=B.there b o e hx
      exact ⟨o',(dz.2 b (lH e)).trans z⟩
     ·have z:=B.tups b xs e
      rw [yf (lI z)];exact z
     ·have z:=B.frzs b o u e
      rw [yf (lI z)];exact z
     ·obtain ⟨more,z⟩:=B.tbls b ps e
      exact ⟨more,by rw [yf (lI z)];exact z⟩
    ·intro a o e
     by_cases ha:a=D
     ·subst ha
      rw [yU] at e
      cases e
      exact ⟨hz,its,k,rv,(dz.2 _ gI).trans vD⟩
     ·rw [yf ha] at e
      have eY:∀b u,H3 b=some u->(upd H3 D (.lst ys)) b=some u:=λb u z=>by
       have hb:b≠D:=λw=>by rw [w,lG] at z;cases z
       rw [yf hb];exact z
      refine (I4.hok a o e).stay (λb u hb z=>(dz.2 b ?_).trans z) (λb z=>eY b _ z) λb xs z=>eY b _ z
      rcases hb with hb|hb
      ·rw [hb];exact gE e
      ·exact gE hb
   have Qf:C≠D:=λz=>gI z.symm
   have IX:=fin s4.heap ⟨rfl,λ_ _=>rfl⟩
   obtain ⟨oC,eC,pC,gC,rC⟩:=id vE
   have Et:upd H3 D (.lst ys) C=none:=by rw [yf Qf];exact I4.free
   have xH:∀b o,af.heap.get? b=some o->b≠C:=λb o e z=>lj (dZ e) hC z
   have sJ:C≠X.env.locals:=λz=>by
    obtain ⟨m2,fK,_⟩:=id I2.loc
    obtain ⟨o2,_,_,g2,_⟩:=fK
    exact xH _ _ g2 z.symm
   have Qg:C∉X.fs:=I2.nofs (by rw [hD];omega)
   have IP:Inv X (pins++[(C,oC)]) σ (upd H3 D (.lst ys)) s4:=IX.pins_of λp hp=>by
    rcases jy.mp hp with hp|hp
    ·exact IX.pin p (y0 _ hp)
    ·have ep:p=(C,oC):=by simpa using hp
     subst ep
     exact ⟨gC,Et,sJ,Qg,λv z=>by rw [rC.1] at z;cases z⟩
   show wpAny _ _ (assign (.Name y pos') X.env (.ref D)) _ _ s4
   have bx:wpAny (model X.prog X.w) X.A (assign (.Name y pos') X.env (.ref D)) (λ_ s5=>Inv X (pins++[(C,oC)]) (σ.set iy (some (.ref D))) (upd H3 D (.lst ys)) s5) X.xe s4:=wpAny_assign_Name (nj IP qe qf hy (v:=.ref D) rfl (λs5 I5=>I5) qg)
   refine aX bx λ_ s5 I5=>?_
   have g5:=(I5.pin (C,oC) (y0 _ (y0 _ jC))).1
   refine ⟨m4,⟨oC,eC,pC,g5,rC⟩,λWr dz=>ya (ya ⟨_,_,?_,q D lG⟩)⟩
   exact (I5.pins_of (pins':=pins) λp hp=>I5.pin p (y0 _ (hV _ hp))).turned (it:=C) (t':=s5.toks) (λb o hb e=>(dz.2 b hb).trans e) Et sJ
    (.inr (by have:=I2.sz;rw [hD] at this;omega)) (λa c ha z=>by
     obtain ⟨v',o',ho',_⟩:=I2.cell a c ha
     exact xH _ _ ho' z) (λp hp=>xH _ _ (I2.pin p hp).1)
  ·refine aX (T.item Y rfl rfl rfl hc i _ s3 _ H3 E' I3 (lE fX kj) a8 go) λr s4 ⟨u,hr,h4⟩=>?_
   subst hr
   refine aX h4 λ_ s5 ⟨z,H5,I5,r5,y5,fy,oQ⟩=>?_
   have oR:=I5.pinned (lE fX oQ) (T.obj _ _ fy)
   have fY:PG Y (.Name x px) (w8 0):=wM (X:=Y) hN rfl (.inl (wK S.hx)) (.inr (wK S.hx))
   have vG:PE Y elt te:=PE.nox (X:=Y) (he cl C af H2 fp)
   refine aX (fY _ s5 (none::σ) H5 z u (λaj H'=>aj=some z::σ/\H'=H5) oR r5 ⟨rfl,rfl⟩) λ_ s6 ⟨aM,H6,I6,e1,e2⟩=>?_
   subst e1 e2
   refine aX (vG _ s6 _ _ _ I6 (step z _ y5)) λuy s7 ⟨y,H7,I7,ry,m',hm,w7⟩=>?_
   obtain ⟨pB,lJ,_,_,_⟩:=I7.pin (D,_) (y0 _ (hV _ jC))
   refine wpAny_list_append_plain ⟨k,pB⟩ (λh' bT dz=>?_) (by rw [yT,<-rv.length];exact hz)
   obtain ⟨k',pD⟩:=bT
   have I8:Inv Y [] (some z::σ) H7 { s7 with heap:=h' }:=(I7.pins_of (pins':=[]) (λp hp=>nomatch hp)).turned (it:=D) (t':=s7.toks) (λb o hb e=>(dz.2 b hb).trans e) lJ gI
    (.inr (by show af.heap.objs.size<=D;omega)) (λa c hy lK=>by
     obtain ⟨v',o',ho',_⟩:=I2.cell a c (cS a c hy)
     exact yX (dZ ho') lK) (λp hp=>by simp [Y,kA] at hp)
   have I9:Inv Y [] (none::σ) H7 { s7 with heap:=h' }:=I8.weak (by simp) λj v e=>by
    cases j with
    |zero=>simp at e
    |succ j=>simpa using e
   have dP:∀b∈fp,∃o,s5.heap.get? b=some o/\s7.heap.get? b=some o/\H7 b=none:=λb hb=>by
    obtain ⟨o,e,_⟩:=T.obj _ _ fy b hb
    have q:=I7.pin (b,o) (y0 _ (y0 _ (oO hb e)))
    exact ⟨o,e,q.1,q.2.1⟩
   have vH:∀b∈fp,b≠D:=λb hb=>by
    obtain ⟨o,ho,_⟩:=T.obj 0 _ aG b hb
    exact yX (dZ ho)
   have eT:its.toArray.push uy=(its++[uy]).toArray:=by simp
   rw [eT] at pD
   refine ⟨m',hm,i+1,ys++[y],H7,its++[uy],k',I9.pins_of (fA pD lJ λv e=>by cases e),rv.append (.cons ry .nil),T.keep (i+1) _ _ fy λb hb o e=>?_,λb hb=>?_,w7⟩
   ·obtain ⟨o',e1,e2,_⟩:=dP b hb
    rw [e] at e1
    cases e1
    exact (dz.2 b (vH b hb)).trans e2
   ·obtain ⟨_,_,_,q⟩:=dP b hb
    exact q
 exact codeAny_compStart_list loop (T.self X.A 0 _ _ _ (T.keep 0 _ _ aG (λb hb o e=>old b o e)) loop)
end L2
namespace Mi
open PySem L2 PySem.W PySem.Spec
section
variable {X:Cx} {Er:XK} {pos:Pos}
def Eu (X:Cx) (Er:XK) (src:ze->Mo Sq):TI:=fun σ H R=>∃env st ρ,bg X.K X.mg ρ H env σ/\a4 X.K X.mg ρ H st/\Out X.K X.mg ρ H (src env st) (λak H' q a5=>∀J,Walk X.K X.mg J ak H' q->R J H') Er
def Qh {src:ze->Mo Sq}{fe:Ak}(σ:L2.St) (H:Hp) (Q:VK) (hh:tM X.K X.mg Er (y9 src fe) σ H Q):vw (Eu X Er src) (tM X.K X.mg XN fe) σ H Q:=by
 obtain ⟨env,st,ρ,re,rs,h⟩:=hh
 refine ⟨env,st,ρ,re,rs,h.then λau H0 q cI e0 s0 h0 J wk=>?_⟩
 cases q with
 |im xs =>
  obtain ⟨hl,h0⟩:=Out.ifp h0
  obtain ⟨w1,w2,w3⟩:=wk
  refine ⟨λi m ys H=>m=xs.length-i/\i<=xs.length/\ys.length=i/\∃ps st ρ,Rs X.K X.mg ρ H ps ys/\a4 X.K X.mg ρ H st/\Ext au H0 ρ H/\Out X.K X.mg ρ H (cB fe env (xs.drop i) ps st) (gV X.K X.mg Q) Er,⟨xs.length,by simp,jK _,rfl,[],cI,au,rfl,s0,Ext.refl,h0⟩,?_⟩
  rintro i m ys H ⟨rfl,hi,hy,ps,st,ρ,cC,rs,ex,h⟩
  by_cases bf:i<xs.length
  ·refine .inr ⟨w1 i ρ H ex bf,jt (by omega),λv H' y=>?_⟩
   obtain ⟨x,hx,cb,s2,rx⟩:=w3 i ρ H st v H' ex rs bf y
   have hd:xs.drop i=x::xs.drop (i+1):=by
    rw [wo bf]
    have:=(yD.mp hx).2
    rw [this]
   rw [hd] at h
   simp only [cB] at h
   refine ⟨some x::env,st,ρ,(re.ext (e0.trans (ex.trans cb))).cons rx,s2,wQ (Out.ext h cb) λao H3 y a8 e3 s3 h3 v ry=>⟨xs.length-(i+1),by omega,rfl,bf,by simp [hy],ps++[y],a8,ao,Rs.snoc ry (Rs.ext (cb.trans e3) ps cC),s3,(ex.trans cb).trans e3,h3⟩⟩
  ·have e:i=xs.length:=by omega
   subst e
   rw [List.drop_length] at h
   exact .inl ⟨w2 _ ρ H ex (zM _),jt (by omega),λl hl=>Out.newList h rs cC hl⟩
 |rf n =>
  obtain ⟨a,ha,rfl⟩:=wk
  refine ⟨λi m ys H=>m+i=lim+1/\ys.length=i/\∃ps st ρ,Rs X.K X.mg ρ H ps ys/\a4 X.K X.mg ρ H st/\Ext au H0 ρ H/\ρ[n]?=some a/\Out X.K X.mg ρ H (dh fe env n m i ps st) (gV X.K X.mg Q) Er,⟨lim+1,rfl,rfl,[],cI,au,rfl,s0,Ext.refl,ha,h0⟩,?_⟩
  rintro i m ys H ⟨hm,hy,ps,st,ρ,cC,rs,ex,ha,h⟩
  cases m with
  |zero=>exact h.elim
  |succ m =>
   obtain ⟨xs,hn,h⟩:=jE h
   obtain ⟨vs,hH,hR⟩:=rs.addr hn ha
   cases hx:xs[i]? with
   |none =>
    simp only [hx] at h
    have:vs.length<=i:=by rw [<-hR.len];exact kY.mp hx
    exact .inl ⟨⟨vs,ba.of hH,this⟩,jt (by omega),λl hl=>Out.newList h rs cC hl⟩
   |some x =>
    simp only [hx] at h
    obtain ⟨v,hv,rv⟩:=hR.get hx
    refine .inr ⟨⟨vs,v,ba.of hH,hv⟩,jt (by omega),λv' H' y=>?_⟩
    obtain ⟨e1,y⟩:=y
    subst e1
    have e2:=y vs (ba.of hH)
    rw [hv] at e2
    cases e2
    exact ⟨some x::env,st,ρ,(re.ext (e0.trans ex)).cons rv,rs,wQ h λao H3 y a8 e3 s3 h3 v ry=>⟨m,wt m,by omega,by simp [hy],ps++[y],a8,ao,Rs.snoc ry (Rs.ext e3 ps cC),s3,ex.trans e3,e3.get ha,h3⟩⟩
def Ew (i:Nat) {elt iter:Expr} {x y:Str} {px pos' fI:Pos} {scope:Scope} {src:ze->Mo Sq} {fe:Ak} {M:Ae} (hc:X.calm=true) (S:cy X.env.scope scope x) (eN:Hid scope M X.N) (cj:((".0" : Str)::x::M).Nodup)
  (hi:MI X Er (.Name x px) iter src) (he:∀cl C af ai fp,ME (kA X M scope cl x C af ai fp (λ_ _=>False)) XN elt fe) (qe:X.N.Nodup) (qf:X.N[i]?=some y) (hy:Loc X.env.scope y) (qg:X.fn y=true\/X.env.scope.names.lookup y=some .local)
  (gj:swapsWith (.ListComp elt [⟨.Name x px,iter,[],0⟩] scope pos) (some (.Name y pos')) fI.line X.env=pure true) (hs:∀v,foldedSetIterable iter X.env v=pure v:=by intro _;rfl) :
  MS X Er (.Assign [.Name y pos'] (.ListComp elt [⟨.Name x px,iter,[],0⟩] scope pos) fI) (zB i (y9 src fe)) :=
 PS.weak (Qe (te:=tM X.K X.mg XN fe) hc S eN cj hi (λcl C af ai fp=>he cl C af ai fp) qe qf hy qg gj hs) λD σ H ⟨env,st,ρ,re,rs,h⟩=>by
  refine Qh (X:=X) (Er:=Er) (src:=src) (fe:=fe) σ H (λv H2=>D.nx (σ.set i (some v)) H2) ⟨env,st,ρ,re,rs,h.then λah H1 x ae e1 s1 h1 v rv=>?_⟩
  exact h1.now s1 (σ.set i (some v)) ((re.ext e1).set i rv)
def xI (i:Nat) {elt iter:Expr} {x y:Str} {px pos' fI:Pos} {scope:Scope} {src:ze->Mo Sq} {fe:Ak} {N:Ae} (hc:X.calm=true) (S:cy X.env.scope scope x) (eN:X.N=N) (cj:((".0" : Str)::x::N).Nodup)
  (hi:MI X Er (.Name x px) iter src) (he:∀cl C af ai fp,ME (rJ X scope cl x C af ai fp (λ_ _=>False)) XN elt fe) (qe:X.N.Nodup) (qf:X.N[i]?=some y) (hy:Loc X.env.scope y) (qg:X.fn y=true\/X.env.scope.names.lookup y=some .local)
  (gj:swapsWith (.ListComp elt [⟨.Name x px,iter,[],0⟩] scope pos) (some (.Name y pos')) fI.line X.env=pure true) (hs:∀v,foldedSetIterable iter X.env v=pure v:=by intro _;rfl) :
  MS X Er (.Assign [.Name y pos'] (.ListComp elt [⟨.Name x px,iter,[],0⟩] scope pos) fI) (zB i (y9 src fe)) :=
 Ew i hc S Hid.refl (eN▸cj) hi he qe qf hy qg gj hs
end
end Mi
namespace L2
open PySem PySem.Spec PyProof.Rows PySem.W
section
variable {X:Cx} {pins:Ac} {σ:St} {H:Hp} {s:Shared} {a:Addr} {kvs:List (Key×V)} {o:Obj}
def Inv.freeze (I:Inv X pins σ H s) (ha:H a=some (.dK kvs)) (ho:s.heap.get? a=some o):Inv X pins σ (upd H a (.frz o (.dK kvs))) s:=by
 have mu:m9 (H a):=by rw [ha];trivial
 have d:=I.hok a _ ha
 exact I.un (h':=s.heap) (t':=s.toks) (Un.write (e:=a) mu (.inl rfl) (λb u _ q=>q) ⟨o,ho⟩) (bZ.write (e:=a) I.hok mu (.inl rfl) (λb u _ q=>q) ⟨o,ho⟩ ⟨ho,d⟩)
def Inv.young (I:Inv X pins σ H s) (ha:H a=some (.dK kvs)):∀o u,X.H₀ a≠some (.frz o u):=λo u e=>by
 have:=I.base.frzs a o u e
 rw [ha] at this
 cases this
def Inv.thaw (I:Inv X pins σ H s) (ha:H a=some (.frz o (.dK kvs))) (hy:∀o u,X.H₀ a≠some (.frz o u)):Inv X pins σ (upd H a (.dK kvs)) s:=by
 have ne:∀b,H b=none->b≠a:=λb n z=>by rw [z,ha] at n;cases n
 have no:∀b u,H b=some u->(∀o k,u ≠ .frz o k)->b≠a:=λb u e n z=>by rw [z,ha] at e;cases e;exact n _ _ rfl
 refine ⟨I.ok,I.os,I.bare,⟨I.base.keep,I.base.slot,λb o e n hx=>?_,I.base.there,λb xs e=>?_,λb o u e=>?_,λb ps e=>?_⟩,I.loc,I.cell,?_,λx c e=>?_,λp hp=>?_,λb u e=>?_,I.len⟩
 ·have:=I.base.free b o e n hx
  rw [yf (ne b this)];exact this
 ·have:=I.base.tups b xs e
  rw [yf (no b _ this λ_ _=>nofun)];exact this
 ·have:=I.base.frzs b o u e
  rw [yf (λz=>hy o u (by rw [<-z];exact e))];exact this
 ·obtain ⟨m,this⟩:=I.base.tbls b ps e
  exact ⟨m,by rw [yf (no b _ this λ_ _=>nofun)];exact this⟩
 ·rw [yf (ne _ I.free)];exact I.free
 ·rw [yf (ne _ (I.freeC x c e))];exact I.freeC x c e
 ·obtain ⟨h1,h2,h3⟩:=I.pin p hp
  exact ⟨h1,by rw [yf (ne _ h2)];exact h2,h3⟩
 ·by_cases hb:b=a
  ·subst hb
   rw [yU] at e
   cases e
   exact (I.hok b _ ha).2
  ·rw [yf hb] at e
   exact (I.hok b u e).stay (λc v _ q=>q) (λc q=>by rw [yf (no c _ q λ_ _=>nofun)];exact q) λc xs q=>by rw [yf (no c _ q λ_ _=>nofun)];exact q
end
def Ex (a:Addr) (o:Obj) (kvs:List (Key×V)):It :=
 ⟨λi H=>H a=some (.frz o (.dK kvs))/\i<kvs.length,λi H x H'=>H'=H/\∃kv,kvs[i]?=some kv/\x=kV kv.1,λi H=>H a=some (.frz o (.dK kvs))/\kvs.length<=i⟩
def Qi {k:Key}{u:Value}(h:dN k u=true):RelV (kV k) u:=by
 rcases wY h with ⟨i,t,rfl,rfl⟩|⟨y,t,rfl,rfl⟩
 ·exact ⟨t,rfl⟩
 ·exact ⟨t,rfl⟩
def Ey {X:Cx}{pins:Ac}{σ:St}{H:Hp}{s:Shared}{a:Addr}{o:Obj}{kvs:List (Key×V)}{es:Array DictEntry}{ep:Nat}(I:Inv X pins σ H s) (ha:H a=some (.frz o (.dK kvs))) (hd:o.data=.dict es ep) :
  ∃vs,KV kvs vs/\s.heap.DictAt (a_ X.prog X.w) a vs ep:=by
 obtain ⟨ho,_,_,vs,r,o',q_,rg,e1,e2,e3,e4⟩:=I.hok a _ ha
 rw [ho] at e1
 cases e1
 rw [hd] at e3
 cases e3
 exact ⟨vs,r,o,es,ho,e2,hd,e4⟩
def Qj {P:Program}{w:World}{K:PySem.W.Frag}{tg:Expr}{a it:Addr}{o:Obj}{kvs:List (Key×V)}{es:Array DictEntry}{ep:Nat}(hd:o.data=.dict es ep):Turn P w K tg (Ex a o kvs) [it] it (λi h=>h.IsKeyIter it a i kvs.length ep) where
 mem:=by simp
 obj:=λi h st b hb=>by
  have e:b=it:=by simpa using hb
  subst e
  obtain ⟨o,e,c,d⟩:=st
  exact ⟨o,e,λv z=>by rw [d] at z;cases z⟩
 keep:=λi h h' st k=>st.at λo e=>k it (by simp) o e
 item:=by
  intro X hP hw hK hc i pins s σ H E I hf st hg
  subst hP hw hK
  obtain ⟨ha,hi⟩:=hg
  obtain ⟨vs,r,qb⟩:=Ey I ha hd
  have hl:=r.length
  have hv:vs[i]?=some (vs[i]'(by omega)):=yi (by omega)
  have nZ:kvs[i]?=some kvs[i]:=yi hi
  have hk:kvs[i].1=(vs[i]'(by omega)).1:=by
   have:=congrArg (λl:List Key=>l[i]?) r.keys
   simp only [jd,hv,nZ,Option.map_some] at this
   exact Option.some.inj this
  obtain ⟨f0,f1,f2,f3,f4,f5⟩:=hf it (by simp)
  rw [hl] at st
  refine wpAny_pyNext_dict_item st qb (k:=(vs[i]'(by omega)).1) (v:=(vs[i]'(by omega)).2) hv λkey h' oY a5 sb=>?_
  have I1:Inv X pins σ H { s with heap:=h' }:=I.turned (t':=s.toks) (λb o hb e=>(sb.2 b hb).trans e) f0 f1 f3 f4 f5
  obtain ⟨o',e,c,d⟩:=id a5
  refine ⟨key,rfl,nk (s:={ s with heap:=h' }) e c d (by decide) ⟨kV kvs[i].1,H,I1,?_,⟨rfl,_,nZ,rfl⟩,by rw [<-hl] at a5;exact a5,λb hb=>(hf b hb).1⟩⟩
  rw [hk]
  exact Qi oY
 done:=by
  intro X hP hw hK hc i pins s σ H E I hf st hg
  subst hP hw hK
  obtain ⟨ha,hi⟩:=hg
  obtain ⟨vs,r,qb⟩:=Ey I ha hd
  have hl:=r.length
  obtain ⟨f0,f1,f2,f3,f4,f5⟩:=hf it (by simp)
  rw [hl] at st
  exact wpAny_pyNext_dict_end (I.ok.hd hc) st qb (kY.mpr (by omega)) λh' eb=>⟨rfl,I.turned (t':=s.toks) (λb o hb e=>eb b o hb e) f0 f1 f3 f4 f5⟩
 self:=λ_ _ _ _ _ st h=>wpAny_pyIter_keyiter st h
def Qk (X:Cx) (tl:TE):TI:=fun σ H R=>tl σ H λx H1=>∃a kvs,x=.ref a/\H1 a=some (.dK kvs)/\∀o,kvs.length<=sizeLine->(∀o u,X.H₀ a≠some (.frz o u))->R (Ex a o kvs) (upd H1 a (.frz o (.dK kvs)))
def Ez {X:Cx}{l tg:Expr}{tl:TE}(hl:PE X l tl):PI X tg l (Qk X tl):=by
 intro pins s σ H R I h
 refine aX (hl pins s σ H _ I h) λv s1 ⟨x,H1,I1,r1,a,kvs,e,ha,q⟩=>?_
 subst e
 cases r1
 obtain ⟨hz,lo,vs,r,o,es,ep,ho,hx,hd,hr⟩:=I1.hok a _ ha
 have I2:=I1.freeze ha ho
 have fr:∀b,s1.heap.objs.size<=b->(upd H1 a (.frz o (.dK kvs))) b=none:=λb hb=>I2.hok.fresh hb
 refine wpAny_pyIter_dict lo (show s1.heap.DictAt (a_ X.prog X.w) a vs ep from ⟨o,es,ho,hx,hd,hr⟩) ?_
 refine ⟨s1.heap.objs.size,[s1.heap.objs.size],_,_,_,rfl,I2.kept (t':=s1.toks) (λb o e=>yl _ e),Qj hd,?_,λb hb=>?_,q o hz (I1.young ha)⟩
 ·rw [r.length]
  exact ⟨_,yP _ rfl,rfl,rfl⟩
 ·have e:b=s1.heap.objs.size:=by simpa using hb
  subst e
  exact I2.fpOk (zM _) (fr _ (zM _))
def uO (X:Cx) (H:Hp) (G:Hp->Prop):Prop:=∃a o kvs,H a=some (.frz o (.dK kvs))/\(∀o u,X.H₀ a≠some (.frz o u))/\G (upd H a (.dK kvs))
def Ql {X:Cx}{st:Stmt}{t:TS}(h:PS X st t):PS X st (λD σ H=>t ⟨λaj H'=>uO X H' (D.nx aj),λ_ _=>False,λ_ _=>False,λ_ _=>False⟩ σ H):=by
 intro pins s σ H D I q
 refine aX (h pins s σ H _ I q) λf s1 q1=>?_
 cases f with
 |next =>
  obtain ⟨aj,H',I',a,o,kvs,ha,hy,q'⟩:=q1
  exact ⟨aj,_,I'.thaw ha hy,q'⟩
 |brk=>obtain ⟨_,_,_,q'⟩:=q1;exact q'.elim
 |cont=>obtain ⟨_,_,_,q'⟩:=q1;exact q'.elim
 |ret u=>obtain ⟨_,_,_,_,_,q'⟩:=q1;exact q'.elim
def Qm {X:Cx}{e:Expr}{t:TE}(h:PE X e t):PE X e (fun σ H Q=>t σ H λv H'=>uO X H' (Q v)):=by
 intro pins s σ H Q I q
 refine aX (h pins s σ H _ I q) λu s1 ⟨v,H',I',r,a,o,kvs,ha,hy,q'⟩=>?_
 exact ⟨v,_,I'.thaw ha hy,r,q'⟩
def EA:bootBuiltins "reversed" = some (.type "reversed"):=by decide +kernel
end L2
namespace Mi
open PySem L2 PySem.W PySem.Spec
section
variable {K:Frag} {mg:Ab} {ρ:Af} {H:Hp} {a:Addr} {o:Obj} {kvs:List (Key×V)} {u:HO}
def qh (ha:H a=some (.frz o (.dK kvs))) {b:Addr}{w:HO}(h:H b=some w) (n:∀o k,w ≠ .frz o (.dK k)):upd H a u b=some w:=by
 rw [yf]
 ·exact h
 ·intro z;subst z;rw [ha] at h;cases h;exact n _ _ rfl
def EB (ha:H a=some (.frz o (.dK kvs))) {p:Addr}{xs:List V}(h:bt K H p xs):bt K (upd H a u) p xs:=by
 rcases h with (h|⟨o,h⟩)|h
 ·exact .inl (.inl (qh ha h (λ_ _=>nofun)))
 ·exact .inl (.inr ⟨o,qh ha h (λ_ _=>nofun)⟩)
 ·exact .inr h
def Qn (ha:H a=some (.frz o (.dK kvs))) {p:Addr}{xs:List V}(h:iD K H p xs):iD K (upd H a u) p xs:=by
 rcases h with ⟨o,h⟩|h
 ·exact .inl ⟨o,qh ha h (λ_ _=>nofun)⟩
 ·exact .inr h
mutual
theorem R.th (ha:H a=some (.frz o (.dK kvs))):∀(x:PV) {v:V},R K mg ρ H x v->R K mg ρ (upd H a u) x v
 |.non,_,h=>h
 |.bl _,_,h=>h
 |.int _,_,h=>h
 |.str _,_,h=>h
 |.ty _,_,h=>h
 |.tup xs,_,h=>by
  obtain ⟨a,vs,h1,h2,h3⟩:=h
  exact ⟨a,vs,h1,EB ha h2,Rs.th ha xs h3⟩
 |.frl xs,_,h=>by
  obtain ⟨a,vs,h1,h2,h3⟩:=h
  exact ⟨a,vs,h1,Qn ha h2,Rs.th ha xs h3⟩
 |.ref n,_,h=>h
 |.fn _,_,h=>h
 |.kd ks xs,_,h=>by
  obtain ⟨a,us,vs,h1,h2,h4,h3⟩:=h
  exact ⟨a,us,vs,h1,h2,h4,Rs.th ha xs h3⟩
 |.exo c ks xs,_,h=>by
  obtain ⟨a,C,d,vs,h1,h2,h3,h4,h5,h6⟩:=h
  exact ⟨a,C,d,vs,h1,h2,qh ha h3 (λ_ _=>nofun),qh ha h4 (λ_ _=>nofun),Rs.th ha xs h5,h6⟩
theorem Rs.th (ha:H a=some (.frz o (.dK kvs))):∀(xs:Aq) {vs:List V},Rs K mg ρ H xs vs->Rs K mg ρ (upd H a u) xs vs
 |[],_,h=>h
 |x::xs,_,h=>by
  obtain ⟨v,r,h1,h2,h3⟩:=h
  exact ⟨v,r,h1,R.th ha x h2,Rs.th ha xs h3⟩
end
theorem bg.th (ha:H a=some (.frz o (.dK kvs))) {env:ze}{σ:L2.St}(h:bg K mg ρ H env σ):bg K mg ρ (upd H a u) env σ :=
 ⟨h.len,λi x hx=>let ⟨v,p,q⟩:=h.at_ i x hx;⟨v,p,R.th ha x q⟩⟩
def Qo (ha:H a=some (.frz o (.dK kvs))) {so:SO}{b:Addr}(ne:b≠a) (h:fL K mg ρ H so b):fL K mg ρ (upd H a u) so b:=by
 cases so with
 |lst xs=>obtain ⟨vs,h1,h2⟩:=h;exact ⟨vs,by rw [yf ne];exact h1,Rs.th ha xs h2⟩
 |dic ks xs=>obtain ⟨vs,h1,h2,h3⟩:=h;exact ⟨vs,by rw [yf ne];exact h1,Rs.th ha xs h2,h3⟩
 |ins c ks xs=>obtain ⟨C,dx,vs,h0,h1,h2,h3⟩:=h;exact ⟨C,dx,vs,h0,by rw [yf ne];exact h1,Rs.th ha xs h2,h3⟩
 |fdi ks xs=>obtain ⟨o,vs,h1,h2,h3⟩:=h;exact ⟨o,vs,by rw [yf ne];exact h1,Rs.th ha xs h2,h3⟩
 |dit ks xs=>obtain ⟨its,vs,h1,h2,h3,h4,h5⟩:=h;exact ⟨its,vs,by rw [yf ne];exact h1,h2,λx hx=>EB ha (h3 x hx),h4,Rs.th ha xs h5⟩
def a4.thaw {st:aa}{n:Nat}{ks:Ae}{xs:Aq}(s:a4 K mg ρ H st) (hn:ρ[n]?=some a) (ha:H a=some (.frz o (.dK kvs))) (hs:st[n]?=some (.fdi ks xs)):a4 K mg ρ (upd H a (.dK kvs)) (st.set n (.dic ks xs)):=by
 refine ⟨by simp [s.len],s.nd,λi iE e=>?_⟩
 rw [List.getElem?_set] at e
 by_cases hij:n=i
 ·subst hij
  rw [zC rfl] at e
  split at e
  ·cases e
   obtain ⟨o',vs,h1,h2,h3⟩:=s.addr hs hn
   rw [ha] at h1
   cases h1
   exact ⟨a,hn,vs,yU,Rs.th ha xs h2,h3⟩
  ·cases e
 ·rw [zQ hij] at e
  obtain ⟨b,hb,q⟩:=s.at_ i iE e
  have ne:b≠a:=by
   intro z
   subst z
   obtain ⟨h1,h2⟩:=yD.mp hn
   obtain ⟨h3,h4⟩:=yD.mp hb
   have pw:=List.pairwise_iff_getElem.mp s.nd
   rcases Nat.lt_trichotomy n i with c|c|c
   ·exact pw n i h1 h3 c (h2.trans h4.symm)
   ·exact hij c
   ·exact pw i n h3 h1 c (h4.trans h2.symm)
  exact ⟨b,hb,Qo ha ne q⟩
def Ext.thawed {ak:Af}{H':Hp}{w:HO}(ha:H a=some (.dK kvs)) (e:Ext ρ (upd H a (.frz o (.dK kvs))) ak H'):Ext ρ H ak (upd H' a w) :=
 ⟨e.pre,λb x h m=>by
  have ne:b≠a:=by intro z;subst z;rw [ha] at h;cases h;cases m
  rw [yf ne]
  exact e.imm b x (by rw [yf ne];exact h) m⟩
end
section
variable {X:Cx} {Er:XK} {pos:Pos} {o:Expr} {cO:List Stmt} {gb:Al} {fo:Ak}
def md {α:Type}(v:PV) (st:aa) (f:Nat->List Str->List PV->Res α):Res α:=match v with
 |.ref n=>jv st n λks xs=>f n ks xs
 |_=>.stuck
def eK {α:Type}(n:Nat) (st:aa) (f:aa->Res α):Res α:=match st[n]? with
 |some (.fdi ks xs)=>f (st.set n (.dic ks xs))
 |_=>.stuck
def xJ {α:Type}{K:Frag}{mg:Ab}{ρ:Af}{H:Hp}{st:aa}{v:PV}{k:Nat->List Str->List PV->Res α}{good:List Addr->Hp->α->aa->Prop}(h:Out K mg ρ H (md v st k) good Er):∃n ks xs,v=.ref n/\st[n]?=some (.dic ks xs)/\Out K mg ρ H (k n ks xs) good Er:=by
 unfold md at h
 split at h
 ·rename_i n
  obtain ⟨ks,xs,e,h⟩:=vY h
  exact ⟨n,ks,xs,rfl,e,h⟩
 ·exact h.elim
def EC {α:Type}{K:Frag}{mg:Ab}{ρ:Af}{H:Hp}{st:aa}{n:Nat}{k:aa->Res α}{good:List Addr->Hp->α->aa->Prop}(h:Out K mg ρ H (eK n st k) good Er):∃ks xs,st[n]?=some (.fdi ks xs)/\Out K mg ρ H (k (st.set n (.dic ks xs))) good Er:=by
 unfold eK at h
 split at h
 ·rename_i ks xs e;exact ⟨ks,xs,e,h⟩
 ·exact h.elim
def ED {α β:Type}{K:Frag}{mg:Ab}{ρ:Af}{H:Hp}{r:Res β}{f:β->Mo α}{good:List Addr->Hp->α->aa->Prop}(h:Out K mg ρ H ((bC r).bind f) good Er):∃x st,r=.ok x st/\Out K mg ρ H (f x st) good Er:=by
 cases r with
 |ok x st=>exact ⟨x,st,rfl,h⟩
 |err=>exact h.elim
 |stuck=>exact h.elim
def EE {α β:Type}{r:Res β}{f:β->Mo α}{x:α}{st:aa}(h:(bC r).bind f=.ok x st):∃y ae,r=.ok y ae/\f y ae=.ok x st:=by
 cases r with
 |ok y ae=>exact ⟨y,ae,rfl,h⟩
 |err=>cases h
 |stuck=>cases h
def fJ (g:PV->ze->Option ze) (body:Al):List PV->ze->Mo ze
 |[],env,st=>.ok env st
 | x::xs,env,st=>match g x env with
  |none=>.stuck
  | some bw=>(bC (body bw st)).bind λfl aG=>match fl with
   |.nx e=>fJ g body xs e aG
   |.ct e=>fJ g body xs e aG
   |_=>.stuck
def iQ (fo:Ak) (g:PV->ze->Option ze) (body:Al):Al:=λenv st=>(fo env st).bind λv ae=>md v ae λn ks xs =>
 (bC (fJ g body (ks.map PV.str) env (ae.set n (.fdi ks xs)))).bind λe aG=>eK n aG λa8=>.ok (.nx e) a8
def EF {ks:Ae}{vs:List V}{i:Nat}{kv:Key×V}(h:(kz ks vs)[i]?=some kv):∃k,ks[i]?=some k/\kV kv.1=.str k:=by
 unfold kz at h
 rw [List.getElem?_zip_eq_some] at h
 obtain ⟨h1,_⟩:=h
 rw [jd] at h1
 cases hk:ks[i]? with
 |none=>rw [hk] at h1;cases h1
 |some k =>
  rw [hk] at h1
  have:kv.1=Sum.inr k:=(Option.some.inj h1).symm
  exact ⟨k,rfl,by rw [this];rfl⟩
def zch {tg:Expr}{gt:PV->ze->Option ze}(hp:PassesOwn (model X.prog X.w) X.A X.env X.xe) (hc:X.calm=true) (ho:ME X Er o fo) (hg:MG X Er tg gt) (hb:dB X Er cO gb)
  (hs:∀v,foldedSetIterable o X.env v=pure v:=by intro _;rfl):MS X Er (.For tg o cO [] pos) (iQ fo gt gb) :=
 PS.weak (Ql (oP hp hc (Ez ho) hg hb hs)) λD σ H ⟨env,st,ρ,re,rs,h⟩=>⟨env,st,ρ,re,rs,h.then λau H0 x cI e0 s0 h0 v rv=>by
  obtain ⟨n,ks,xs,rfl,hn,h0⟩:=xJ h0
  obtain ⟨a,vs,rfl,ha,k1,k2,k3⟩:=R.refD s0 rv hn
  refine ⟨a,kz ks vs,rfl,k1,λob hz hy=>?_⟩
  obtain ⟨e',a5,hr,h0⟩:=ED h0
  obtain ⟨eJ,e6,ht,h0⟩:=EC h0
  have ew:Ext au H0 au (upd H0 a (.frz ob (.dK (kz ks vs)))):=Ext.write k1 rfl
  have hl:(kz ks vs).length=ks.length:=by simp [kz,k3]
  refine ⟨λi m σ H=>m=ks.length-i/\i<=ks.length/\∃env st ρ,bg X.K X.mg ρ H env σ/\a4 X.K X.mg ρ H st/\Ext au (upd H0 a (.frz ob (.dK (kz ks vs)))) ρ H/\fJ gt gb ((ks.map PV.str).drop i) env st=.ok e' a5,
   ⟨ks.length,by simp,jK _,env,_,au,(re.ext e0).ext ew,s0.write (so:=.fdi ks xs) ha ew ⟨ob,vs,yU,Rs.ext ew _ k2,k3⟩,Ext.refl,hr⟩,?_⟩
  rintro i m σ H ⟨rfl,hi,env,st,ρ,re,rs,ex,h⟩
  have hf:H a=some (.frz ob (.dK (kz ks vs))):=ex.imm a _ yU rfl
  have ha':=ex.get ha
  by_cases bf:i<ks.length
  ·refine .inr ⟨⟨hf,by rw [hl];exact bf⟩,_,λaj H' p'=>⟨ks.length-(i+1),by omega,rfl,bf,p'⟩,λv H' y=>?_⟩
   obtain ⟨rfl,kv,nZ,rfl⟩:=y
   obtain ⟨k,hk,ev⟩:=EF nZ
   have hd:(ks.map PV.str).drop i=.str k::(ks.map PV.str).drop (i+1):=by
    rw [wo (by simpa using bf)]
    have:=(yD.mp hk).2
    simp [this]
   rw [hd] at h
   simp only [fJ] at h
   cases hgx:gt (.str k) env with
   |none=>simp only [hgx] at h;cases h
   |some bw =>
    simp only [hgx] at h
    obtain ⟨fl,aG,xK,h⟩:=EE h
    refine ⟨.str k,env,bw,ρ,ev,re,hgx,λaz r1=>⟨bw,st,ρ,r1,rs,?_⟩⟩
    rw [xK]
    intro ao H3 e3 s3
    cases fl with
    |nx e=>exact λaA r4=>⟨e,aG,ao,r4,s3,ex.trans e3,h⟩
    |ct e=>exact λaA r4=>⟨e,aG,ao,r4,s3,ex.trans e3,h⟩
    |bk e=>cases h
    |rt v=>cases h
  ·have e:i=ks.length:=by omega
   subst e
   rw [hZ (by simp)] at h
   cases h
   exact .inl ⟨⟨hf,by rw [hl];exact zM _⟩,a,ob,_,hf,hy,h0 ρ _ (Ext.thawed k1 ex) (a4.thaw rs ha' hf ht) σ (re.th hf)⟩⟩
def eM (fe:Ak) (env:ze):List PV->List PV->Mo (Aq)
 |[],ys,st=>.ok ys st
 |x::xs,ys,st=>(bC (fe (some x::env) st)).bind λy ae=>eM fe env xs (ys++[y]) ae
def xM (fo:Ak) (fe:Ak):Ak:=λenv st=>(fo env st).bind λv ae=>md v ae λn ks xs =>
 (bC (eM fe env (ks.map PV.str) [] (ae.set n (.fdi ks xs)))).bind λys aG=>eK n (aG++[.lst ys]) λa8=>.ok (.ref aG.length) a8
def Qp {elt:Expr} {x:Str} {px:Pos} {scope:Scope} {fe:Ak} {N:Ae} (hc:X.calm=true) (S:cy X.env.scope scope x) (eN:X.N=N) (cj:((".0" : Str)::x::N).Nodup)
  (ho:ME X Er o fo) (he:∀cl C af ai fp,ME (rJ X scope cl x C af ai fp (λ_ _=>False)) XN elt fe)
  (hs:∀v,foldedSetIterable o X.env v=pure v:=by intro _;rfl):ME X Er (.ListComp elt [⟨.Name x px,o,[],0⟩] scope pos) (xM fo fe) :=
 PE.weak (Qm (LW (te:=tM X.K X.mg XN fe) hc S eN cj (Ez ho) (λcl C af ai fp=>he cl C af ai fp) hs)) fun σ H Q ⟨env,st,ρ,re,rs,h⟩=>⟨env,st,ρ,re,rs,h.then λau H0 x cI e0 s0 h0 v rv=>by
  obtain ⟨n,ks,xs,rfl,hn,h0⟩:=xJ h0
  obtain ⟨a,vs,rfl,ha,k1,k2,k3⟩:=R.refD s0 rv hn
  refine ⟨a,kz ks vs,rfl,k1,λob hz hy=>?_⟩
  obtain ⟨cH,a5,hr,h0⟩:=ED h0
  obtain ⟨eJ,e6,ht,h0⟩:=EC h0
  have ew:Ext au H0 au (upd H0 a (.frz ob (.dK (kz ks vs)))):=Ext.write k1 rfl
  have hl:(kz ks vs).length=ks.length:=by simp [kz,k3]
  rw [hl] at hz
  refine ⟨λi m ys H=>m=ks.length-i/\i<=ks.length/\ys.length=i/\∃ps st ρ,Rs X.K X.mg ρ H ps ys/\a4 X.K X.mg ρ H st/\Ext au (upd H0 a (.frz ob (.dK (kz ks vs)))) ρ H/\eM fe env ((ks.map PV.str).drop i) ps st=.ok cH a5,
   ⟨ks.length,by simp,jK _,rfl,[],_,au,rfl,s0.write (so:=.fdi ks xs) ha ew ⟨ob,vs,yU,Rs.ext ew _ k2,k3⟩,Ext.refl,hr⟩,?_⟩
  rintro i m ys H ⟨rfl,hi,Qq,ps,st,ρ,cC,rs,ex,h⟩
  have hf:H a=some (.frz ob (.dK (kz ks vs))):=ex.imm a _ yU rfl
  have ha':=ex.get ha
  by_cases bf:i<ks.length
  ·refine .inr ⟨⟨hf,by rw [hl];exact bf⟩,by omega,λv H' y=>?_⟩
   obtain ⟨rfl,kv,nZ,rfl⟩:=y
   obtain ⟨k,hk,ev⟩:=EF nZ
   have hd:(ks.map PV.str).drop i=.str k::(ks.map PV.str).drop (i+1):=by
    rw [wo (by simpa using bf)]
    have:=(yD.mp hk).2
    simp [this]
   rw [hd] at h
   simp only [eM] at h
   obtain ⟨y,aG,xK,h⟩:=EE h
   refine ⟨some (.str k)::env,st,ρ,(re.ext (e0.trans (ew.trans ex))).cons ev,rs,?_⟩
   rw [xK]
   exact λao H3 e3 s3 w rw'=>⟨ks.length-(i+1),by omega,rfl,bf,by simp [Qq],ps++[y],aG,ao,Rs.snoc rw' (Rs.ext e3 ps cC),s3,ex.trans e3,h⟩
  ·have e:i=ks.length:=by omega
   subst e
   rw [hZ (by simp)] at h
   cases h
   refine .inl ⟨⟨hf,by rw [hl];exact zM _⟩,by omega,λl ia=>?_⟩
   have ne:a≠l:=wZ hf ia
   have nU:upd H l (.lst ys) a=some (.frz ob (.dK (kz ks vs))):=by rw [yf ne];exact hf
   have ep:Ext ρ H (ρ++[l]) (upd H l (.lst ys)):=Ext.push ia
   have s1:a4 X.K X.mg (ρ++[l]) (upd H l (.lst ys)) (a5++[.lst cH]):=rs.push ia ⟨ys,yU,Rs.ext ep _ cC⟩
   exact ⟨a,ob,_,nU,hy,h0 (ρ++[l]) _ (Ext.thawed k1 (ex.trans ep)) (a4.thaw s1 (ep.get ha') nU ht) _ ⟨l,rfl,by rw [<-rs.len];simp⟩⟩⟩
def jP:Ao:=λx y st=>match x with
 | .ref n=>match st[n]? with
  | some (.fdi ks xs)=>match y with
   |.str z=>b_ ((ks.zip xs).lookup z) st
   |_=>.stuck
  |_=>zk x y st
 |_=>zk x y st
def Qr (hu:X.A.units+200<cLine):mY X jP:=by
 obtain ⟨r,h1,h2⟩:=zx (X:=X) hu
 refine ⟨_,h1.or (D_ (by omega)),fun ρ H st x y v w Q E s rx ry h=>?_⟩
 by_cases hx:∃n ks xs,x=.ref n/\st[n]?=some (.fdi ks xs)
 ·obtain ⟨n,ks,xs,rfl,e⟩:=hx
  simp only [jP,e] at h
  cases y with
  |str z =>
   obtain ⟨q,hq,h⟩:=iG h
   obtain ⟨a,rfl,ha⟩:=rx
   obtain ⟨ob,vs,k1,k2,_⟩:=s.addr e ha
   cases ry
   obtain ⟨v,hv,rv⟩:=lW k2 hq
   refine .inr ⟨a,v,rfl,.inl ⟨_,Sum.inr z,.inr ⟨ob,k1⟩,rfl,?_⟩,h.now s _ rv⟩
   rw [<-hv]
   exact xq.symm
  |_=>exact h.elim
 ·refine .inl (h2 ρ H st x y v w Q E s rx ry ?_)
  have:jP x y st=zk x y st:=by
   unfold jP
   split
   ·rename_i n
    split
    ·rename_i ks xs e;exact absurd ⟨n,ks,xs,rfl,e⟩ hx
    ·rfl
   ·rfl
  rw [this] at h
  exact h
end
section
variable {X:Cx} {Er:XK} {K:Frag} {mg:Ab} {pos p:Pos} {e f:Expr} {fk:Ak}
def cJ:List PV->Option (List Bool)
 |[]=>some []
 |.bl b::r=>(cJ r).map (b::·)
 |_::_=>none
theorem EG {ρ:Af}{H:Hp}:∀{xs:Aq}{bs:List Bool}{vs:List V},cJ xs=some bs->Rs K mg ρ H xs vs->vs=bs.map V.bl
 |[],bs,vs,e,h=>by cases e;cases h;rfl
 |.bl i::r,bs,vs,e,h=>by
  simp only [cJ,Option.map_eq_some_iff] at e
  obtain ⟨ir,e1,rfl⟩:=e
  obtain ⟨v,r',rfl,h1,h2⟩:=h
  cases h1
  rw [EG e1 h2]
  rfl
 |.non::_,_,_,e,_=>by cases e
 |.int _::_,_,_,e,_=>by cases e
 |.str _::_,_,_,e,_=>by cases e
 |.ty _::_,_,_,e,_=>by cases e
 |.tup _::_,_,_,e,_=>by cases e
 |.frl _::_,_,_,e,_=>by cases e
 |.ref _::_,_,_,e,_=>by cases e
 |.fn _::_,_,_,e,_=>by cases e
 |.kd _ _::_,_,_,e,_=>by cases e
 |.exo _ _ _::_,_,_,e,_=>by cases e
theorem EH:∀bs:List Bool,cJ (bs.map PV.bl)=some bs
 |[]=>rfl
 |b::bs=>by simp [cJ,EH bs]
def mf:An:=λvs st=>(kM vs st).bind λn st=>yq st n λxs=>match cJ xs with
 |some bs=>.ok (.bl (bs.all id)) st
 |none=>.stuck
def Qs (hc:X.calm=true):cA X (.builtin "all") mf:=⟨_,L5 hc,fun ρ H st xs vs Q E s r h=>by
 obtain ⟨n,ys,rfl,hn,h⟩:=xy h
 obtain ⟨e6,kZ,h⟩:=jE h
 obtain ⟨v,rfl,rv⟩:=r.one
 obtain ⟨a,rfl,ha⟩:=rv
 obtain ⟨ws,hH,hR⟩:=s.addr kZ ha
 cases hi:cJ e6 with
 |none=>simp only [hi] at h;exact h.elim
 |some bs =>
  simp only [hi] at h
  have e:=EG hi hR
  subst e
  exact ⟨a,bs,rfl,ba.of hH,Out.now (x:=PV.bl (bs.all id)) h s _ rfl⟩⟩
def Qt:bootBuiltins "all" = some (.builtin "all"):=by decide +kernel
def pairOf:PV->Option (PV×PV)
 |.tup [x,y]=>some (x,y)
 |_=>none
def Qu {q:PV}{r:PV×PV}(h:pairOf q=some r):q=.tup [r.1,r.2]:=by
 unfold pairOf at h
 split at h
 ·cases h;rfl
 ·cases h
def gM (fe:Ak) (env:ze):List PV->An
 |[],ys,st=>.ok (.ref st.length) (st++[.lst ys])
 | q::xs,ys,st=>match pairOf q with
  |some r=>(bC (fe (some r.1::some r.2::env) st)).bind λz ae=>gM fe env xs (ys++[z]) ae
  |none=>.stuck
def Qv {fe:Ak}{env:ze}{q:PV}{xs ys:Aq}{st:aa}{ρ:Af}{H:Hp}{good:List Addr->Hp->PV->aa->Prop}(h:Out K mg ρ H (gM fe env (q::xs) ys st) good Er):∃x y,q=.tup [x,y]/\Out K mg ρ H ((bC (fe (some x::some y::env) st)).bind λz ae=>gM fe env xs (ys++[z]) ae) good Er:=by
 simp only [gM] at h
 cases hq:pairOf q with
 |none=>simp only [hq] at h;exact h.elim
 |some r =>
  simp only [hq] at h
  exact ⟨r.1,r.2,Qu hq,h⟩
def qi:Sq->Option (Aq)
 |.im xs=>some xs
 |.rf _=>none
def xN (src:ze->Mo Sq) (fe:Ak):Ak:=λenv st=>(src env st).bind λq ae=>match qi q with
 |some xs=>if xs.length<=lim then gM fe env xs [] ae else .stuck
 |none=>.stuck
def Qw {elt iter:Expr} {x y:Str} {kt:Nat} {px py tp:Pos} {scope:Scope} {src:ze->Mo Sq} {fe:Ak} {N:Ae} (hc:X.calm=true) (S:c7 X.env.scope scope [x,y]) (eN:X.N=N) (cj:((".0" : Str)::([x,y]++N)).Nodup)
  (hi:MI X Er (.Tuple [.Name x px,.Name y py] kt tp) iter src) (he:∀cl C af ai fp,ME (fW X scope cl [x,y] C af ai fp (λ_ _=>False)) XN elt fe)
  (hx:scope.names.lookup x=some .local:=by rfl) (hy:scope.names.lookup y=some .local:=by rfl) (hs:∀v,foldedSetIterable iter X.env v=pure v:=by intro _;rfl) :
  ME X Er (.ListComp elt [⟨.Tuple [.Name x px,.Name y py] kt tp,iter,[],0⟩] scope pos) (xN src fe):=by
 have hN:([x,y]++X.N).Nodup:=by rw [eN];exact (j6.mp cj).2
 have fY:∀cl C af ai fp E,PG (fW X scope cl [x,y] C af ai fp E) (.Tuple [.Name x px,.Name y py] kt tp) (BP X.K 2 (u9 (w8 0) (u9 (w8 1) BO))):=λcl C af ai fp E=>va (n:=2) hc
  (lg (wM (X:=fW X scope cl [x,y] C af ai fp E) (i:=0) hN rfl (.inl (wK hx)) (.inr (wK hx)))
  (lg (wM (X:=fW X scope cl [x,y] C af ai fp E) (i:=1) hN rfl (.inl (wK hy)) (.inr (wK hy))) u_))
 exact PE.weak (CT (te:=tM X.K X.mg XN fe) (tt:=nE) hc S eN cj hi fY (λcl C af ai fp=>CP) (λcl C af ai fp=>he cl C af ai fp) hs) fun σ H Q ⟨env,st,ρ,re,rs,h⟩=>⟨env,st,ρ,re,rs,h.then λau H0 q cI e0 s0 h0 J wk=>by
  cases q with
  |rf n=>exact h0.elim
  |im xs =>
   obtain ⟨hl,h0⟩:=Out.ifp (show Out X.K X.mg au H0 (if xs.length<=lim then gM fe env xs [] cI else .stuck) (gV X.K X.mg Q) Er from h0)
   obtain ⟨w1,w2,w3⟩:=wk
   refine ⟨λi m ys H=>m=xs.length-i/\i<=xs.length/\ys.length=i/\∃ps st ρ,Rs X.K X.mg ρ H ps ys/\a4 X.K X.mg ρ H st/\Ext au H0 ρ H/\Out X.K X.mg ρ H (gM fe env (xs.drop i) ps st) (gV X.K X.mg Q) Er,⟨xs.length,by simp,jK _,rfl,[],cI,au,rfl,s0,Ext.refl,h0⟩,?_⟩
   rintro i m ys H ⟨rfl,hi,hy,ps,st,ρ,cC,rs,ex,h⟩
   by_cases bf:i<xs.length
   ·refine .inr ⟨w1 i ρ H ex bf,jt (by omega),λv H' yy=>?_⟩
    obtain ⟨x,hx,cb,s2,rx⟩:=w3 i ρ H st v H' ex rs bf yy
    have hd:xs.drop i=x::xs.drop (i+1):=by
     rw [wo bf]
     have:=(yD.mp hx).2
     rw [this]
    rw [hd] at h
    obtain ⟨p,q,rfl,h⟩:=Qv h
    obtain ⟨a,vs,rfl,h1,h2⟩:=rx
    obtain ⟨u,w,rfl,r1,r2⟩:=Rs.two h2
    refine ⟨a,[u,w],rfl,h1,rfl,u,[w],rfl,w,[],rfl,rfl,[some u,some w],rfl,rfl,?_⟩
    have mh:bg X.K X.mg ρ H' (some p::some q::env) (some u::some w::σ):=((re.ext (e0.trans (ex.trans cb))).cons r2).cons r1
    simp only [nE,↓reduceIte]
    exact ⟨_,st,ρ,mh,s2,wQ (Out.ext h cb) λaJ H4 y iL e4 s4 h4 v4 r4=>⟨xs.length-(i+1),by omega,rfl,bf,by simp [hy],ps++[y],iL,aJ,Rs.snoc r4 (Rs.ext (cb.trans e4) ps cC),s4,(ex.trans cb).trans e4,h4⟩⟩
   ·have e:i=xs.length:=by omega
    subst e
    rw [List.drop_length] at h
    exact .inl ⟨w2 _ ρ H ex (zM _),jt (by omega),λl hl=>Out.newList h rs cC hl⟩⟩
def xO:List ((Ak)×(Ak))->ze->Mo (List PV×List PV)
 |[],_,st=>.ok ([],[]) st
 |q::r,env,st=>(q.1 env st).bind λk ae=>(q.2 env ae).bind λx aG=>(xO r env aG).bind λz a8=>.ok (k::z.1,x::z.2) a8
inductive gk (X:Cx) (Er:XK):List (Option Expr)->List Expr->List ((Ak)×(Ak))->Prop
 |nil:gk X Er [] [] []
 |cons {k v:Expr} {fk fv:Ak} {ks:List (Option Expr)} {vs:List Expr} {fs:List ((Ak)×(Ak))} (hk:ME X Er k fk) (hv:ME X Er v fv) (hr:gk X Er ks vs fs):gk X Er (some k::ks) (v::vs) ((fk,fv)::fs)
def zrS:gk X Er [] [] []:=.nil
def zrT {k v:Expr}{fk fv:Ak}{ks:List (Option Expr)}{vs:List Expr}{fs:List ((Ak)×(Ak))}(hk:ME X Er k fk) (hv:ME X Er v fv) (hr:gk X Er ks vs fs):gk X Er (some k::ks) (v::vs) ((fk,fv)::fs):=.cons hk hv hr
theorem gk.pps:∀{ks:List (Option Expr)}{vs:List Expr}{fs:List ((Ak)×(Ak))},gk X Er ks vs fs->nH X pos ks vs (fs.map λq=>(tM X.K X.mg Er q.1,tM X.K X.mg Er q.2))
 |_,_,_,.nil=>C9
 |_,_,_,.cons hk hv hr=>C_ hk hv hr.pps
def gk.len {ks:List (Option Expr)}{vs:List Expr}{fs:List ((Ak)×(Ak))}(h:gk X Er ks vs fs):ks.length=vs.length/\ks.length=fs.length/\ks.all (·.isSome)=true:=by
 induction h with
 |nil=>exact ⟨rfl,rfl,rfl⟩
 |cons hk hv hr ih=>exact ⟨by simp [ih.1],by simp [ih.2.1],by simpa using ih.2.2⟩
theorem EI:∀{fs:List ((Ak)×(Ak))}{env:ze}{st:aa}{ρ:Af}{H:Hp}{σ:L2.St}{Q:List (V×V)->Hp->Prop},bg K mg ρ H env σ->a4 K mg ρ H st ->
  Out K mg ρ H (xO fs env st) (λak H' q a5=>q.1.length=fs.length->q.2.length=fs.length->∀ks vs,Rs K mg ak H' q.1 ks->Rs K mg ak H' q.2 vs->Q (ks.zip vs) H') Er->pF (fs.map λq=>(tM K mg Er q.1,tM K mg Er q.2)) σ H Q
 |[],env,st,ρ,H,σ,Q,re,rs,h=>h.now rs rfl rfl [] [] rfl rfl
 |f::fs,env,st,ρ,H,σ,Q,re,rs,h=>by
  refine ⟨env,st,ρ,re,rs,Out.then h λah H1 k ae e1 s1 h1 v rv=>?_⟩
  refine ⟨env,ae,ah,re.ext e1,s1,Out.then h1 λax H2 x aG e2 s2 h2 u ru=>?_⟩
  refine EI (env:=env) (st:=aG) (ρ:=ax) ((re.ext e1).ext e2) s2 (Out.then h2 λao H3 z a8 e3 s3 h3 l1 l2 ks vs rk pM=>?_)
  exact h3.now s3 (by simp [l1]) (by simp [l2]) (v::ks) (u::vs) ⟨v,ks,rfl,R.ext e3 k (R.ext e2 k rv),rk⟩ ⟨u,vs,rfl,R.ext e3 x ru,pM⟩
def gm:List PV->Option (Ae)
 |[]=>some []
 |.str z::r=>(gm r).map (z::·)
 |_::_=>none
theorem EJ {ρ:Af}{H:Hp}:∀{xs:Aq}{zs:Ae}{vs:List V},gm xs=some zs->Rs K mg ρ H xs vs->vs=zs.map V.str
 |[],bs,vs,e,h=>by cases e;cases h;rfl
 |.str i::r,bs,vs,e,h=>by
  simp only [gm,Option.map_eq_some_iff] at e
  obtain ⟨ir,e1,rfl⟩:=e
  obtain ⟨v,r',rfl,h1,h2⟩:=h
  cases h1
  rw [EJ e1 h2]
  rfl
 |.non::_,_,_,e,_=>by cases e
 |.int _::_,_,_,e,_=>by cases e
 |.bl _::_,_,_,e,_=>by cases e
 |.ty _::_,_,_,e,_=>by cases e
 |.tup _::_,_,_,e,_=>by cases e
 |.frl _::_,_,_,e,_=>by cases e
 |.ref _::_,_,_,e,_=>by cases e
 |.fn _::_,_,_,e,_=>by cases e
 |.kd _ _::_,_,_,e,_=>by cases e
 |.exo _ _ _::_,_,_,e,_=>by cases e
def xP (fs:List ((Ak)×(Ak))):Ak:=λenv st=>(xO fs env (st++[.dic [] []])).bind λq ae=>match gm q.1 with
 |some zs=>if eI ae[st.length]?=true then .ok (.ref st.length) (ae.set st.length (.dic (kL (zs.zip q.2) [] []).1 (kL (zs.zip q.2) [] []).2)) else .stuck
 |none=>.stuck
def Qx {keys:List (Option Expr)}{values:List Expr}{fs:List ((Ak)×(Ak))}(h:gk X Er keys values fs) (h0:keys≠[]) (pG:keys.length<=15):ME X Er (.Dict keys values pos) (xP fs):=by
 obtain ⟨l1,l2,l4⟩:=h.len
 exact PE.weak (Df h.pps l4 l1 h0 pG) fun σ H Q ⟨env,st,ρ,re,rs,ho⟩=>λp hp=>by
  have e0:Ext ρ H (ρ++[p]) (upd H p (.dK [])):=Ext.push hp
  have s0:a4 X.K X.mg (ρ++[p]) (upd H p (.dK [])) (st++[.dic [] []]):=rs.push hp ⟨[],yU,rfl,rfl⟩
  have xE:(ρ++[p])[st.length]?=some p:=by rw [<-rs.len];simp
  refine EI (re.ext e0) s0 (Out.then (Out.ext ho e0) λah H1 q ae e1 s1 h1 lk lv us vs ru rv=>?_)
  cases hk:gm q.1 with
  |none=>simp only [hk] at h1;exact h1.elim
  |some zs =>
   simp only [hk] at h1
   have eu:=EJ hk ru
   subst eu
   obtain ⟨c,h1⟩:=Out.ifp h1
   have hd:=Ep c
   have l_:=e1.get xE
   obtain ⟨ws,k1,k2,k3⟩:=s1.addr hd l_
   have ew:ws=[]:=by cases ws with|nil=>rfl|cons=>simp at k3
   subst ew
   have lz:zs.length=fs.length:=by have:=ru.len;simpa [lk] using this.symm
   refine ⟨k1,(zs.map Sum.inr:List Key).zip vs,xD,by rw [List.length_zip,jD];omega,?_⟩
   have eq:Ext ah H1 ah (upd H1 p (.dK (dA [] ((zs.map Sum.inr:List Key).zip vs)))):=Ext.write k1 rfl
   obtain ⟨us,q1,q2,q3⟩:=xx (K:=X.K) (mg:=X.mg) (zs:=zs) (ks:=[]) (xs:=[]) (vs:=[]) rv rfl rfl
   exact h1 ah _ eq (s1.write l_ eq ⟨us,by rw [yU];exact congrArg (λt=>some (HO.dK t)) q1,Rs.ext eq _ q2,q3⟩) _ ⟨p,rfl,l_⟩
def Qy {z:Str}{ks:Ae}{xs:Aq}{vs:List V}(hl:xs.length=vs.length) (hk:ks.length=vs.length) (h:(ks.zip xs).lookup z=none):(ks.zip vs).lookup z=none:=by
 refine nR λhz=>?_
 obtain ⟨i,hi⟩:=List.getElem?_of_mem hz
 have ia:i<xs.length:=by rw [hl,<-hk];exact (yD.mp hi).1
 have:=List.lookup_eq_none_iff.mp h (z,xs[i]) (List.mem_iff_getElem?.mpr ⟨i,by simp [List.getElem?_zip_eq_some,hi,ia]⟩)
 simp at this
end
section
variable {K:Frag} {mg:Ab} {h:Heap}
def mi (ks:Ae) (e:DictEntry):Bool:=match e.key with
 |.str x _=>ks.contains x
 |_=>false
def Qz {ks:Ae}{e:DictEntry}(h:mi ks e=true):∃x∈ks,∃t,e.key=.str x t:=by
 unfold mi at h
 split at h
 ·rename_i x t ek;exact ⟨x,by simpa using h,t,ek⟩
 ·cases h
def zrX {w:World} {name:Str} {O:Addr} {es:Array DictEntry} {n:Nat} {ks:Ae} {qs:Aq} (X:K.In h) (G:h.Ns mainGlobals mg) (aO:nsIn K mainGlobals name=some (some (.ref O))) (lO:K.lookup O=some ⟨.type "dict", none,.dict es n,#[]⟩) (hk:KeysLit w.params es.toList) (no:(O==sysModules)=false)
  (hl:ks.length=qs.length) (sL:es.toList.all (mi ks)=true)
  (hi:∀p∈ks.zip qs,∃u v,nsIn K O p.1=some (some u)/\RelV v u/\∀ρ H,R K mg ρ H p.2 v):∀Y:Cx,Y.K=K->Y.mg=mg->Y.w=w->KdF Y name ks qs true:=λY e1 e2 e3=>by
 have sL:∀e∈es.toList,∃x∈ks,∃t,e.key=.str x t:=λe he=>Qz (List.all_eq_true.mp sL e he)
 refine ⟨O,by rw [e2];exact mg_of X G aO,⟨⟨es,n,by rw [e1];exact lO,by rw [e3];exact hk⟩,no⟩,λz q hz=>?_,λ_ z hz=>?_⟩
 ·rw [e1,e2]
  exact hi _ (D5 hz)
 ·have hn:z∉ks:=λlK=>by
   obtain ⟨i,hi⟩:=List.getElem?_of_mem lK
   have ia:i<qs.length:=by rw [<-hl];exact (yD.mp hi).1
   have:=List.lookup_eq_none_iff.mp hz (z,qs[i]) (List.mem_iff_getElem?.mpr ⟨i,by simp [List.getElem?_zip_eq_some,hi,ia]⟩)
   simp at this
  rw [e1]
  unfold nsIn
  rw [lO]
  dsimp only
  have f1:es.toList.find? (·.key.isStr z)=none:=by
   rw [List.find?_eq_none]
   intro e he
   obtain ⟨x,hx,t,ek⟩:=sL e he
   rw [ek]
   intro hc
   have:x=z:=by
    simp [Value.isStr] at hc
    exact hc
   exact hn (this▸hx)
  rw [f1]
  dsimp only
  rw [zQ]
  intro hc
  obtain ⟨e,he,hr⟩:=List.any_eq_true.mp hc
  obtain ⟨x,hx,t,ek⟩:=sL e he
  simp [DictEntry.refKey,ek] at hr
end
section
variable {X:Cx} {K:Frag} {mg:Ab}
def call_len_dict:bV X (.builtin "len") (λxs H Q=>∃p kvs,xs=[.ref p]/\H p=some (.dK kvs)/\Q (.int kvs.length) H):=by
 intro pins s σ H xs us Q I r h
 obtain ⟨p,kvs,rfl,hp,q⟩:=h
 obtain ⟨u,rfl,rx⟩:=ic r
 cases rx
 exact Mg I (.inl hp) λt s' I'=>⟨.int kvs.length,H,I',⟨t,rfl⟩,q⟩
def yo:An:=λxs st=>match xs with
 | [.ref n]=>match st[n]? with
  |some (.dic ks _)=>.ok (.int ks.length) st
  |_=>pP xs st
 |_=>pP xs st
def jr:cA X (.builtin "len") yo:=by
 obtain ⟨r,h1,h2⟩:=NR (X:=X)
 refine ⟨_,h1.or call_len_dict,fun ρ H st xs vs Q E s rx h=>?_⟩
 by_cases hx:∃n ks ys,xs=[.ref n]/\st[n]?=some (.dic ks ys)
 ·obtain ⟨n,ks,ys,rfl,e⟩:=hx
  have h:Out X.K X.mg ρ H (.ok (.int ks.length) st) (gV X.K X.mg Q) E:=by
   simpa only [yo,e] using h
  obtain ⟨v,rfl,rv⟩:=Rs.one rx
  obtain ⟨a,ws,rfl,_,k1,k2,k3⟩:=R.refD s rv e
  refine .inr ⟨a,_,rfl,k1,?_⟩
  have hl:(kz ks ws).length=ks.length:=by simp [kz,k3]
  rw [hl]
  exact Out.now (x:=PV.int ks.length) h s _ rfl
 ·refine .inl (h2 ρ H st xs vs Q E s rx ?_)
  have:yo xs st=pP xs st:=by
   unfold yo
   split
   ·rename_i n
    split
    ·rename_i ks ys e;exact absurd ⟨n,ks,ys,rfl,e⟩ hx
    ·rfl
   ·rfl
  rw [this] at h
  exact h
end
section
variable {α:Type} {env:ze} {st:aa} {fa fo:Ak}
def qj {n:Nat}{ks:Ae}{xs:Aq}(h:st[n]?=some (.dic ks xs)) (k:List Str->List PV->Res α):jv st n k=k ks xs:=by unfold jv;rw [h]
def QB {n:Nat}{xs:Aq}(h:st[n]?=some (.lst xs)):kM [.ref n] st=.ok n st:=by
 show yq st n _=_
 rw [yv h]
def all_at {n:Nat}{bs:List Bool}(h:st[n]?=some (.lst (bs.map PV.bl))):mf [.ref n] st=.ok (.bl (bs.all id)) st:=by
 unfold mf
 rw [QB h]
 simp only [zL]
 rw [yv h,EH]
def EK {n:Nat}{ks:Ae}{xs:Aq}(h:st[n]?=some (.dic ks xs)):yo [.ref n] st=.ok (.int ks.length) st:=by
 simp only [yo,h]
def bp {n:Nat}{xs:Aq}(h:st[n]?=some (.lst xs)):yo [.ref n] st=.ok (.int xs.length) st:=by
 simp only [yo,h]
 show yq st n _=_
 rw [yv h]
@[simp] def sN (xs:Aq):yo [.tup xs] st=.ok (.int xs.length) st:=(rfl)
@[simp] def QC:xM fo fa env st=(fo env st).bind λv ae=>md v ae λn ks xs=>(bC (eM fa env (ks.map PV.str) [] (ae.set n (.fdi ks xs)))).bind λys aG=>eK n (aG++[.lst ys]) λa8=>.ok (.ref aG.length) a8:=(rfl)
@[simp] def QD (src:ze->Mo Sq):xN src fa env st=(src env st).bind λq ae=>match qi q with|some xs=>if xs.length<=lim then gM fa env xs [] ae else .stuck|none=>.stuck:=(rfl)
end
end Mi
namespace L2
open PySem PySem.Spec PyProof.Rows PySem.W
theorem EM:∀{xs:List V}{us:Ah},xs.length=us.length->(∀(i:Nat) x u,xs[i]?=some x->us[i]?=some u->RelV x u)->Vals xs us
 |[],[],_,_=>.nil
 |x::xs,u::us,h,r=>.cons (r 0 x u rfl rfl) (EM (by simpa using h) λi x u h1 h2=>r (i+1) x u (by simpa using h1) (by simpa using h2))
 |[],_::_,h,_=>by cases h
 |_::_,[],h,_=>by cases h
end L2
namespace PySem
open Sem (wp)
def Lr.nolen:typeLookup (.type "list_reverseiterator") "__len__" = pure none:=by rw [typeLookup_type,builtinLookup_eq_fast];kernel_rfl
def Lr.hint:typeLookup (.type "list_reverseiterator") "__length_hint__" = pure (some (.builtin "list_reverseiterator.__length_hint__")):=by rw [typeLookup_type,builtinLookup_eq_fast];kernel_rfl
section
variable {prog:Program} {w:World} {A:Around} {s:Shared} {R:Result->Shared->Prop}
variable {I:Addr} {fp wr:Af} {G:Array GenState->Array GenState->Prop} {n:Nat} {P:Nat->Value->Prop} {St:Nat->Shared->Prop}
def Lr.extend (W:WalksS prog w A.in1 I fp wr G n P St) (hT:∀i s,St i s->s.TypeIs (.ref I) "list_reverseiterator") (S:Addr) (res:Value) (aV:Nat) (bx:St 0 s) (iR:S∉fp) (hI:I∈fp)
  (hS:s.heap.get? S=some { cls:=.type "list", data:=.seq #[] aV })
  (hR:∀s' bS c',Moved (S::wr) G s s'->s'.heap.get? S=some { cls:=.type "list", dict:=none,data:=.seq bS c',slots:=#[] }->ItemsOf P bS n->R (.ok (.ret res)) s') (hn:n<=sizeLine:=by size_fits) :
  wpAny (model prog w) A.in1 (Builtin.List.listExtendWith (.ref S) (.ref I) res)
   (λfin s'=>match fin with | .done f=>R (.ok f) s' | .again c'=>c'.quiet=true/\codeAny (model prog w) A c' R s') (λe s'=>R (.error e) s') s:=by
 have QE:S≠I:=λe=>iR (e▸hI)
 unfold Builtin.List.listExtendWith
 refine zu (wpAny_typeOf (hT 0 _ bx) ?_)
 have h1:Builtin.List.listSameRef (.ref S) (.ref I)=false:=by simp [Builtin.List.listSameRef,QE]
 rw [zQ (by rw [h1];decide)]
 refine zu (W.self 0 _ _ _ bx ?_)
 refine zu (hG ?_)
 unfold Builtin.List.listLengthHint
 refine zu (wpAny_specialOf (hT 0 _ bx) Lr.nolen ?_)
 show wpAny _ A.in1 (specialOf (Value.ref I) (Str.ofString "__length_hint__") >>= _) _ _ _
 refine zu (wpAny_specialOf (hT 0 _ bx) Lr.hint ?_)
 generalize hid:("list_reverseiterator.__length_hint__" : String)=id0
 wp_delta
 rw [show splitId id0=some ("list_reverseiterator", "__length_hint__") from by subst hid;decide +kernel]
 subst hid
 refine zu (wpAny_isInstance (b:=true) (hT 0 _ bx) (by rw [isSubtype_type];kernel_rfl) ?_)
 refine ya ?_
 rw [zQ (by decide)]
 refine ya ⟨plainId_quiet F.plain_extend_loop _,codeAny_extend_loopS W hn _ iR _ n 0 _ _ _ rfl (jK _) bx hS (ItemsOf.nil P) λs' bS c' hm kN cF=>?_⟩
 exact hR s' bS c' hm kN cF
end
section
variable {prog:Program} {w:World} {A:Around} {s:Shared} {R:Result->Shared->Prop}
variable {I:Addr} {fp wr:Af} {G:Array GenState->Array GenState->Prop} {n:Nat} {P:Nat->Value->Prop} {St:Nat->Shared->Prop}
def Lr.init (W:WalksS prog w A.in1 I fp wr G n P St) (hT:∀i s,St i s->s.TypeIs (.ref I) "list_reverseiterator") (S:Addr) (bx:St 0 s) (iR:S∉fp) (hI:I∈fp)
  (hS:s.heap.get? S=some { cls:=.type "list", data:=.seq #[] })
  (hR:∀s' bS c',Moved (S::wr) G s s'->s'.heap.get? S=some { cls:=.type "list", dict:=none,data:=.seq bS c',slots:=#[] }->ItemsOf P bS n->R (.ok (.ret .none)) s') (hn:n<=sizeLine:=by size_fits) :
  wpAny (model prog w) A.in1 (Builtin.«list.__init__» ⟨[.ref S,.ref I],[]⟩)
   (λfin s'=>match fin with | .done f=>R (.ok f) s' | .again c'=>c'.quiet=true/\codeAny (model prog w) A c' R s') (λe s'=>R (.error e) s') s:=by
 show wpAny _ A.in1 (do let old <-Builtin.List.listItems (.ref S);Builtin.List.listUpdate (.ref S) (λ_=>#[]);letGo old.toList.reverse;Builtin.List.listExtendWith (.ref S) (.ref I) .none) _ _ s
 refine zu ?_
 unfold Builtin.List.listItems
 refine zu (wpAny_seqItems hS rfl (ya ?_))
 show wpAny _ A.in1 (updateSeq S (λ_=>#[]) >>= λ_=>letGo (#[]:Array Value).toList.reverse >>= λ_=>Builtin.List.listExtendWith (.ref S) (.ref I) .none) _ _ s
 refine zu (wpAny_updateSeq hS rfl ?_)
 have aU:=Heap.get?_update_self (Obj.mapSeq (λ_=>(#[]:Array Value))) hS rfl
 have lQ:∀b o,b≠S->s.heap.get? b=some o->(s.heap.update S (Obj.mapSeq (λ_=>(#[]:Array Value)))).get? b=some o :=
  λb o hb e=>(wz _ _ (yM hb)).trans e
 refine zu (wpAny_letGo ?_)
 refine Lr.extend (hn:=hn) W hT S .none _ (W.frame 0 s _ s.toks bx (zM _) λb hb o e=>lQ b o (λh=>iR (h▸hb)) e) iR hI aU λs' bS c' hm kN cF=>?_
 exact hR s' bS c' (Moved.trans W.gtrans ((Moved.refl W.grefl).then_heap (zM _) λb o hb e=>lQ b o (λh=>hb (h▸jC)) e) hm) kN cF
end
section
variable {prog:Program} {w:World} {A:Around} {E:Aa} {s:Shared}
variable {I:Addr} {fp wr:Af} {G:Array GenState->Array GenState->Prop} {n:Nat} {P:Nat->Value->Prop} {St:Nat->Shared->Prop}
theorem Lr.call {Q:Aa} (W:WalksS prog w A.in1.in1 I fp wr G n P St) (hT:∀i s,St i s->s.TypeIs (.ref I) "list_reverseiterator") (bx:St 0 s) (mj:∀b∈fp,b<s.heap.objs.size) (hI:I∈fp)
  (hQ:∀s' bS c',Moved (s.heap.objs.size::wr) G { s with heap:=s.heap.push { cls:=.type "list", data:=.seq #[] } } s' ->
   s'.heap.get? s.heap.objs.size=some { cls:=.type "list", dict:=none,data:=.seq bS c',slots:=#[] }->ItemsOf P bS n->Q (.ref s.heap.objs.size) s') (hn:n<=sizeLine:=by size_fits) :
  wpAny (model prog w) A (call (.type "list") [.ref I]) Q E s:=by
 have iR:s.heap.objs.size∉fp:=λhm=>Nat.lt_irrefl _ (mj _ hm)
 refine callType_codes (Q₁:=λobj am=>obj=.ref s.heap.objs.size/\am={ s with heap:=s.heap.push { cls:=.type "list", data:=.seq #[] } }) F.called_list (F.typeCall_list_1 _) F.entry_list_init
  (code_list_new _ ⟨rfl,rfl⟩) λobj am ay=>?_
 obtain ⟨rfl,rfl⟩:=ay
 have hS:(s.heap.push { cls:=.type "list", data:=.seq #[] }).get? s.heap.objs.size=some { cls:=.type "list", data:=.seq #[] }:=yP _ rfl
 refine ⟨⟨_,hS,rfl⟩,F.args_list_init_2 _ _,Lr.init (hn:=hn) W hT _ (W.frame 0 s _ s.toks bx (zM _) λb _ o e=>yl _ e) iR hI hS λs' bS c' hm kN cF=>?_⟩
 exact ⟨rfl,hQ s' bS c' hm kN cF⟩
end
end PySem
namespace Mi
open PySem L2 PySem.W PySem.Spec
section
variable {K:Frag} {mg:Ab}
theorem Rs.app:∀{ρ:Af}{H:Hp}{xs ys:Aq}{vs ws:List V},Rs K mg ρ H xs vs->Rs K mg ρ H ys ws->Rs K mg ρ H (xs++ys) (vs++ws)
 |_,_,[],_,_,_,h,h'=>by cases h;exact h'
 |_,_,x::xs,_,_,_,h,h'=>by
  obtain ⟨v,r,rfl,h1,h2⟩:=h
  exact ⟨v,_,rfl,h1,Rs.app h2 h'⟩
theorem Rs.rev:∀{ρ:Af}{H:Hp}{xs:Aq}{vs:List V},Rs K mg ρ H xs vs->Rs K mg ρ H xs.reverse vs.reverse
 |_,_,[],_,h=>by cases h;rfl
 |_,_,x::xs,_,h=>by
  obtain ⟨v,r,rfl,h1,h2⟩:=h
  rw [List.reverse_cons,List.reverse_cons]
  exact Rs.app (Rs.rev h2) ⟨v,[],rfl,h1,rfl⟩
end
section
variable {X:Cx} {Er:XK} {pos pos':Pos} {o i value:Expr} {fo fi fv:Ak}
def de (z x:PV):PV->Mo Unit
 | .ref n,st=>match z with
  |.int (.ofNat k)=>yq st n λxs=>if k<xs.length then .ok () (st.set n (.lst (xs.set k x))) else .stuck
  |_=>.stuck
 |_,_=>.stuck
def qk (fo fi fv:Ak):Al:=λenv st=>(fv env st).bind λx ae=>(fo env ae).bind λo aG=>(fi env aG).bind λz a8=>(de z x o a8).bind λ_ iL=>.ok (.nx env) iL
theorem Rs.put {K:Frag}{mg:Ab}{ρ:Af}{H:Hp}{x:PV}{v:V}(r:R K mg ρ H x v):∀{xs:Aq}{vs:List V}(k:Nat),Rs K mg ρ H xs vs->Rs K mg ρ H (xs.set k x) (vs.set k v)
 |[],_,k,h=>by cases h;cases k<;>rfl
 |y::ys,_,0,h=>by
  obtain ⟨w,q,rfl,h1,h2⟩:=h
  exact ⟨v,q,rfl,r,h2⟩
 |y::ys,_,k+1,h=>by
  obtain ⟨w,q,rfl,h1,h2⟩:=h
  exact ⟨w,_,rfl,h1,Rs.put r k h2⟩
def zju (ho:ME X Er o fo) (hi:ME X Er i fi) (hv:ME X Er value fv)
  (ha:∀v,assign (.Subscript o i pos') X.env v=(do
   let ov <-holding [v] (eval o X.env)
   let iv <-holding [v,ov] (eval i X.env)
   standAt pos'
   holding [v,ov,iv] (setItem ov iv v)
   release [v,ov,iv] []):=by intro _;rfl)
  (hs:swapsWithSole [.Subscript o i pos'] value pos.line X.env=pure false:=by rfl) (hw:swappedStores [.Subscript o i pos'] value X.env=pure none:=by rfl)
  (h1:(assignEach [.Subscript o i pos'] X.env).map (·.2)=[assign (.Subscript o i pos') X.env]:=by rfl):MS X Er (.Assign [.Subscript o i pos'] value pos) (qk fo fi fv) :=
 PS.weak (BS hv (Jz ho hi Lh ha) hs hw h1) λD σ H ⟨env,st,ρ,re,rs,h⟩=>⟨env,st,ρ,re,rs,h.then λah H1 x ae e1 s1 h1 v rv=>⟨env,ae,ah,re.ext e1,s1,h1.then λax H2 y aG e2 s2 h2 w rw=>⟨env,aG,ax,(re.ext e1).ext e2,s2,h2.then λao H3 zz a8 e3 s3 h3 u ru=>by
  cases y with
  |ref n =>
   cases zz with
   |int z =>
    cases z with
    |ofNat k =>
     cases hn:a8[n]? with
     |none=>simp only [de,yq,hn] at h3;exact h3.elim
     |some so =>
      cases so with
      |dic _ _=>simp only [de,yq,hn] at h3;exact h3.elim
      |ins _ _ _=>simp only [de,yq,hn] at h3;exact h3.elim
      |fdi _ _=>simp only [de,yq,hn] at h3;exact h3.elim
      |dit _ _=>simp only [de,yq,hn] at h3;exact h3.elim
      |lst xs =>
       simp only [de,yq,hn] at h3
       by_cases hc:k<xs.length
       ·rw [zC hc] at h3
        obtain ⟨a,vs,e4,ha,k1,k2⟩:=R.refL s3 (R.ext e3 _ rw) hn
        subst e4
        cases ru
        have QF:vs.length=xs.length:=k2.len.symm
        have ew:Ext ao H3 ao (upd H3 a (.lst (vs.set k v))):=Ext.write k1 rfl
        have QG:ik vs.length (Int.ofNat k)=some k:=by
         unfold ik
         rw [zC (by show (0:Int)<=((k:Nat):Int);omega),zC (by rw [QF];show ((k:Nat):Int)<xs.length;omega)]
         rfl
        refine ⟨a,vs,_,k,rfl,rfl,k1,QG,h3 ao _ ew (s3.write ha ew ⟨vs.set k v,yU,Rs.ext ew _ (Rs.put (R.ext e3 x (R.ext e2 x rv)) k k2)⟩) σ ((((re.ext e1).ext e2).ext e3).ext ew)⟩
       ·rw [zQ hc] at h3;exact h3.elim
    |negSucc k=>exact h3.elim
   |_=>exact h3.elim
  |_=>exact h3.elim⟩⟩⟩
def gn {n k:Nat}{st:aa}{xs:Aq}(h:st[n]?=some (.lst xs)) (hk:k<xs.length) (x:PV):de (.int k) x (.ref n) st=.ok () (st.set n (.lst (xs.set k x))):=by
 show yq st n _=_
 rw [yv h,zC hk]
end
def iS (i j:Nat) (env:ze):PV->Mo Fl
 | .ref n,st=>yq st n λxs=>match xs with
  |[x,y]=>.ok (.nx ((env.set i (some x)).set j (some y))) st
  |_=>.stuck
 |_,_=>.stuck
section
variable {X:Cx} {Er:XK} {pos:Pos}
def cK (ft:Am) (fe:Ak) (env:ze):List PV->An
 |[],ys,st=>.ok (.ref st.length) (st++[.lst ys])
 |x::xs,ys,st=>(bC (ft (some x::env) st)).bind λb ae=>if b=true then (bC (fe (some x::env) ae)).bind λy aG=>cK ft fe env xs (ys++[y]) aG else cK ft fe env xs ys ae
def dD (ft:Am) (fe:Ak) (env:ze) (n:Nat):Nat->Nat->An
 |0,_,_,_=>.stuck
 | m+1,i,ys,st=>yq st n λxs=>match xs[i]? with
  |none=>.ok (.ref st.length) (st++[.lst ys])
  |some x=>(bC (ft (some x::env) st)).bind λb ae=>if b=true then (bC (fe (some x::env) ae)).bind λy aG=>dD ft fe env n m (i+1) (ys++[y]) aG else dD ft fe env n m (i+1) ys ae
def m3 (ft:Am) (fe:Ak) (env:ze):Sq->Mo PV
 |.im xs,st=>if xs.length<=lim then cK ft fe env xs [] st else .stuck
 |.rf n,st=>dD ft fe env n (lim+1) 0 [] st
def iT (src:ze->Mo Sq) (ft:Am) (fe:Ak):Ak:=λenv st=>(src env st).bind λq ae=>m3 ft fe env q ae
def EN {src:ze->Mo Sq}{ft:Am}{fe:Ak}(σ:L2.St) (H:Hp) (Q:VK) (hh:tM X.K X.mg Er (iT src ft fe) σ H Q):vy (Eu X Er src) (w8 0) (nO X.K X.mg XN ft) (tM X.K X.mg XN fe) 1 σ H Q:=by
 obtain ⟨env,st,ρ,re,rs,h⟩:=hh
 refine ⟨env,st,ρ,re,rs,h.then λau H0 q cI e0 s0 h0 J wk=>?_⟩
 cases q with
 |im xs =>
  obtain ⟨hl,h0⟩:=Out.ifp h0
  obtain ⟨w1,w2,w3⟩:=wk
  refine ⟨λi m ys H=>m=xs.length-i/\i<=xs.length/\ys.length<=i/\∃ps st ρ,Rs X.K X.mg ρ H ps ys/\a4 X.K X.mg ρ H st/\Ext au H0 ρ H/\Out X.K X.mg ρ H (cK ft fe env (xs.drop i) ps st) (gV X.K X.mg Q) Er,⟨xs.length,by simp,jK _,jK _,[],cI,au,rfl,s0,Ext.refl,h0⟩,?_⟩
  rintro i m ys H ⟨rfl,hi,hy,ps,st,ρ,cC,rs,ex,h⟩
  by_cases bf:i<xs.length
  ·refine .inr ⟨w1 i ρ H ex bf,jt (by omega),λv H' y=>?_⟩
   obtain ⟨x,hx,cb,s2,rx⟩:=w3 i ρ H st v H' ex rs bf y
   have hd:xs.drop i=x::xs.drop (i+1):=by
    rw [wo bf]
    have:=(yD.mp hx).2
    rw [this]
   rw [hd] at h
   simp only [cK] at h
   have mh:bg X.K X.mg ρ H' (some x::env) (some v::σ):=(re.ext (e0.trans (ex.trans cb))).cons rx
   refine ⟨[some v],rfl,rfl,some x::env,st,ρ,mh,s2,wQ (Out.ext h cb) λao H3 b a8 e3 s3 h3=>?_⟩
   cases b with
   |true=>exact ⟨_,a8,ao,mh.ext e3,s3,wQ h3 λaJ H4 y iL e4 s4 h4 v4 r4=>⟨xs.length-(i+1),by omega,rfl,bf,by simp;omega,ps++[y],iL,aJ,Rs.snoc r4 (Rs.ext ((cb.trans e3).trans e4) ps cC),s4,((ex.trans cb).trans e3).trans e4,h4⟩⟩
   |false=>exact ⟨xs.length-(i+1),by omega,rfl,bf,by omega,ps,a8,ao,Rs.ext (cb.trans e3) ps cC,s3,(ex.trans cb).trans e3,h3⟩
  ·have e:i=xs.length:=by omega
   subst e
   rw [List.drop_length] at h
   exact .inl ⟨w2 _ ρ H ex (zM _),jt (by omega),λl hl=>Out.newList h rs cC hl⟩
 |rf n =>
  obtain ⟨a,ha,rfl⟩:=wk
  refine ⟨λi m ys H=>m+i=lim+1/\ys.length<=i/\∃ps st ρ,Rs X.K X.mg ρ H ps ys/\a4 X.K X.mg ρ H st/\Ext au H0 ρ H/\ρ[n]?=some a/\Out X.K X.mg ρ H (dD ft fe env n m i ps st) (gV X.K X.mg Q) Er,⟨lim+1,rfl,jK _,[],cI,au,rfl,s0,Ext.refl,ha,h0⟩,?_⟩
  rintro i m ys H ⟨hm,hy,ps,st,ρ,cC,rs,ex,ha,h⟩
  cases m with
  |zero=>exact h.elim
  |succ m =>
   obtain ⟨xs,hn,h⟩:=jE h
   obtain ⟨vs,hH,hR⟩:=rs.addr hn ha
   cases hx:xs[i]? with
   |none =>
    simp only [hx] at h
    have:vs.length<=i:=by rw [<-hR.len];exact kY.mp hx
    exact .inl ⟨⟨vs,ba.of hH,this⟩,jt (by omega),λl hl=>Out.newList h rs cC hl⟩
   |some x =>
    simp only [hx] at h
    obtain ⟨v,hv,rv⟩:=hR.get hx
    refine .inr ⟨⟨vs,v,ba.of hH,hv⟩,jt (by omega),λv' H' y=>?_⟩
    obtain ⟨e1,y⟩:=y
    subst e1
    have e2:=y vs (ba.of hH)
    rw [hv] at e2
    cases e2
    have mh:bg X.K X.mg ρ H' (some x::env) (some v::σ):=(re.ext (e0.trans ex)).cons rv
    refine ⟨[some v],rfl,rfl,some x::env,st,ρ,mh,rs,wQ h λao H3 b a8 e3 s3 h3=>?_⟩
    cases b with
    |true=>exact ⟨_,a8,ao,mh.ext e3,s3,wQ h3 λaJ H4 y iL e4 s4 h4 v4 r4=>⟨m,wt m,by omega,by simp;omega,ps++[y],iL,aJ,Rs.snoc r4 (Rs.ext (e3.trans e4) ps cC),s4,(ex.trans e3).trans e4,e4.get (e3.get ha),h4⟩⟩
    |false=>exact ⟨m,wt m,by omega,by omega,ps,a8,ao,Rs.ext e3 ps cC,s3,ex.trans e3,e3.get ha,h3⟩
def EO {elt iter c:Expr} {x:Str} {px:Pos} {scope:Scope} {src:ze->Mo Sq} {ft:Am} {fe:Ak} {N:Ae} (hc:X.calm=true) (S:c7 X.env.scope scope [x]) (eN:X.N=N) (cj:((".0" : Str)::([x]++N)).Nodup)
  (hi:MI X Er (.Name x px) iter src) (lu:∀cl C af ai fp,MT (fW X scope cl [x] C af ai fp (λ_ _=>False)) XN c ft) (he:∀cl C af ai fp,ME (fW X scope cl [x] C af ai fp (λ_ _=>False)) XN elt fe)
  (hx:scope.names.lookup x=some .local:=by rfl) (hs:∀v,foldedSetIterable iter X.env v=pure v:=by intro _;rfl):ME X Er (.ListComp elt [⟨.Name x px,iter,[c],0⟩] scope pos) (iT src ft fe):=by
 have hN:([x]++X.N).Nodup:=by rw [eN];exact (j6.mp cj).2
 have fY:∀cl C af ai fp E,PG (fW X scope cl [x] C af ai fp E) (.Name x px) (w8 0):=λcl C af ai fp E=>wM (X:=fW X scope cl [x] C af ai fp E) (i:=0) hN rfl (.inl (wK hx)) (.inr (wK hx))
 exact PE.weak (CT (te:=tM X.K X.mg XN fe) (tt:=nO X.K X.mg XN ft) hc S eN cj hi fY (λcl C af ai fp=>CQ (lu cl C af ai fp)) (λcl C af ai fp=>he cl C af ai fp) hs) fun σ H Q hh=>EN σ H Q hh
@[simp] def ES {src:ze->Mo Sq}{ft:Am}{fe:Ak}(env:ze) (st:aa):iT src ft fe env st=(src env st).bind λq ae=>m3 ft fe env q ae:=(rfl)
end
section
variable {K:Frag} {h:Heap} {mg:Ab} {od:Option Addr} {f:Addr}
def zjy {O t t2:Addr} {wd k1 k2 k3 y:Str} {u1 u2 u3:Tok} {n n2:Nat} {p5:Option Addr} {sl gH:Array (Option Value)} (X:K.In h) (G:h.Ns mainGlobals mg) (e:nsIn K O wd=some (some (.ref t))) (l1:K.lookup t=some ⟨.type "tuple", od,.seq #[.ref t2,.ref f] n,sl⟩)
  (l2:K.lookup t2=some ⟨.type "tuple", p5,.seq #[.str k1 u1,.str k2 u2,.str k3 u3] n2,gH⟩) (a:nsIn K mainGlobals y=some (some (.ref f))):∃u v,nsIn K O wd=some (some u)/\RelV v u/\∀ρ H,R K mg ρ H (.tup [.tup [.str k1,.str k2,.str k3],.fn y]) v:=by
 refine ⟨_,.ref t,e,rfl,nV (xs:=[.tup [.str k1,.str k2,.str k3],.fn y]) (vs:=[.ref t2,.ref f]) l1 rfl (by simp) (.cons rfl (.cons rfl .nil)) fun ρ H=>?_⟩
 exact ⟨_,_,rfl,nV (xs:=[.str k1,.str k2,.str k3]) (vs:=[.str k1,.str k2,.str k3]) l2 rfl (by simp) (.cons ⟨_,rfl⟩ (.cons ⟨_,rfl⟩ (.cons ⟨_,rfl⟩ .nil))) (fun ρ H=>⟨_,_,rfl,rfl,_,_,rfl,rfl,_,_,rfl,rfl,rfl⟩) ρ H,_,_,rfl,⟨f,rfl,mg_of X G a⟩,rfl⟩
end
def QH {K:Frag}{mg:Ab}{ρ:Af}{H:Hp}:∀{xs:Aq}{zs:Ae}{vs:List V},strsOf xs=some zs->Rs K mg ρ H xs vs->vs=zs.map V.str:=λ{xs zs vs} h r=>by
 have:=Ee h r
 rw [this]
 simp [kV,List.map_map,Function.comp_def]
end Mi
namespace Mi
open PySem L2 PySem.W
section
variable {g g':Al} {f fa fb:Ak} {fs:Aj} {t ta tb:Am} {e e1:ze} {st s1 s2 s3:aa} {x y v:PV} {xs:Aq} {b:Bool}
def zo {X:Res Fl}(h:g e st=.ok (.nx e1) s1) (h':g' e1 s1=X):zp g g' e st=X:=by rw [DY,h,zL,Pa,h']
def jH (h:g e st=.ok (.rt v) s1):zp g g' e st=.ok (.rt v) s1:=by rw [DY,h,zL,Pb]
def zD {i:Nat}(h:f e st=.ok v s1):zB i f e st=.ok (.nx (e.set i (some v))) s1:=by rw [Pc,h,zL]
def wg (h:f e st=.ok v s1):yK f e st=.ok (.nx e) s1:=by rw [Pd,h,zL]
def zS (h:f e st=.ok v s1):zY f e st=.ok (.rt v) s1:=by rw [Pe,h,zL]
def yG {X:Res Fl}(h:t e st=.ok true s1) (h':g e s1=X):zT t g g' e st=X:=by rw [DZ,h,zL,zC rfl,h']
def sO {X:Res Fl}(h:t e st=.ok false s1) (h':g' e s1=X):zT t g g' e st=X:=by rw [DZ,h,zL,zQ (by simp),h']
def zZ (h:t e st=.ok false s1):zT t g zW e st=.ok (.nx e) s1:=sO h (O_ ..)
def zb {i:Nat}(h:e[i]?=some (some v)):za i e st=.ok v st:=by rw [OU,h]
def zh {op:Ao}{X:Res PV}(h:fa e st=.ok x s1) (h':fb e s1=.ok y s2) (h2:op x y s2=X):zc op fa fb e st=X:=by rw [OV,h,zL,h',zL,h2]
def wT {op:PV->Mo PV}{X:Res PV}(h:fa e st=.ok x s1) (h2:op x s1=X):yQ op fa e st=X:=by rw [OW,h,zL,h2]
def zy {m:An}{X:Res PV}(h:fs e st=.ok xs s1) (h2:m xs s1=X):zq m fs e st=X:=by rw [O7,h,zL,h2]
def wb (h:f e st=.ok x s1) (h':fs e s1=.ok xs s2):zf f fs e st=.ok (x::xs) s2:=by rw [O1,h,zL,h',zL]
def jQ:zj e st=.ok [] st:=(rfl)
def zE (h:f e st=.ok x s1):zf f zj e st=.ok [x] s1:=wb h jQ
def zF (h:f e st=.ok x s1) (h':fa e s1=.ok y s2):zf f (zf fa zj) e st=.ok [x,y] s2:=wb h (zE h')
def yk (h:fs e st=.ok xs s1) (hl:xs.length<=1000000):yg fs e st=.ok (.tup xs) s1:=by rw [O2,h,zL,zC hl]
def jm (h:fs e st=.ok xs s1) (hl:xs.length<=1000000):jb fs e st=.ok (.ref s1.length) (s1++[.lst xs]):=by rw [O3,h,zL,zC hl]
def zO (h:f e st=.ok (.bl b) s1):mB f e st=.ok b s1:=by rw [OX,h,zL,xk]
def gO (h:ta e st=.ok false s1):ju ta tb e st=.ok false s1:=by rw [DU,h,zL,zQ (by simp)]
def wu (h:ta e st=.ok true s1) (h':tb e s1=.ok b s2):ju ta tb e st=.ok b s2:=by rw [DU,h,zL,zC rfl,h']
def n_ (h:ta e st=.ok true s1):jL ta tb e st=.ok true s1:=by rw [DV,h,zL,zC rfl]
def gr (h:ta e st=.ok false s1) (h':tb e s1=.ok b s2):jL ta tb e st=.ok b s2:=by rw [DV,h,zL,zQ (by simp),h']
def og (h:ta e st=.ok b s1):iF ta e st=.ok (!b) s1:=by rw [OY,h,zL]
def ml {X:Res PV}(h:fa e st=.ok (.bl true) s1) (h':fb e s1=X):gK fa fb e st=X:=by rw [DW,h,zL,xk,zL,zC rfl,h']
def xQ {lo hi:Option Int}{fl fu:ze->Mo (Option Int)}{X:Res PV}(h:fa e st=.ok x s1) (hl:fl e s1=.ok lo s2) (hu:fu e s2=.ok hi s3) (h':pO x lo hi s3=X):lV fa fl fu e st=X:=by rw [O4,h,zL,hl,zL,hu,zL,h']
def xR {i:Int}(h:f e st=.ok (.int i) s1):dC f e st=.ok (some i) s1:=by rw [O5,h,zL,O6]
def xS:fB e st=.ok none st:=(rfl)
def wH {op:Ao}{n:Nat}{ys:Aq}{X:Res PV}(h:fa e st=.ok (.ref n) s1) (hl:s1[n]?=some (.lst ys)) (h':fb e s1=.ok y s2) (h2:op (.ref n) y s2=X):yS op fa fb e st=X:=by
 rw [Pk,h,zL,Pl]
 simp only [yq,hl,zL]
 rw [h',zL,h2]
def wU (i j:Int):yd (.int i) (.int j) st=.ok (.int (i+j)) st:=(rfl)
def wV (i j:Int):jU (.int i) (.int j) st=.ok (.int (i-j)) st:=(rfl)
def iU (i j:Int) (h:j≠0):yx (.int i) (.int j) st=.ok (.int (jj i j)) st:=by show (if _ then _ else _)=_;rw [zC (by simpa using h)]
def xT (i j:Int) (h:j≠0) (h2:j.natAbs<2 ^ 200):yV (.int i) (.int j) st=.ok (.int (wF i j)) st:=by
 show (if _ then _ else _)=_
 rw [zC]
 simp only [vZ,wB,m8]
 exact ⟨h,h2⟩
def QI (i j:Int):oLt (.int i) (.int j) st=.ok (.bl (decide (i<j))) st:=(rfl)
def QJ (i j:Int):j8 (.int i) (.int j) st=.ok (.bl (decide (j<i))) st:=(rfl)
def xU (i j:Int):zU (.int i) (.int j) st=.ok (.bl (decide (i=j))) st:=by simp [Mi.plain,dep,bN];rfl
def ET (i j:Int):jV (.int i) (.int j) st=.ok (.bl (!decide (i=j))) st:=by simp [Mi.plain,dep,bN];rfl
def QK (i j:Str):zU (.str i) (.str j) st=.ok (.bl (decide (i=j))) st:=by simp [Mi.plain,dep,bN];rfl
def xV (i j:Str):jV (.str i) (.str j) st=.ok (.bl (!decide (i=j))) st:=by simp [Mi.plain,dep,bN];rfl
def gu (i j:Int) (h:cV i j=true):yI (.int i) (.int j) st=.ok (.int (i*j)) st:=by rw [P0,zC h]
def zR {m:Nat}{n:Nat}{r:aa}(hl:xs.length=m) (h:g (xs.map some++List.replicate (n-m) none) st=.ok (.rt v) r):yb m n g xs st=.ok v r:=by
 unfold yb
 rw [zC hl,h,zL,Pf]
end
end Mi
namespace Mi
open PySem L2 PySem.W PySem.Spec
def EU:Expr->Bool
 |.Starred _ _=>false
 |_=>true
def QL {e:Expr}{es:List Expr}{env:Env}(h:EU e=true):Ec e es env:=by cases e<;>first|rfl|cases h
def zg {X:Cx}{Er:XK}{e:Expr}{es:List Expr}{fa:Ak}{fs:Aj}(ha:ME X Er e fa) (hr:MA X Er es fs) (hs:EU e=true:=by rfl):MA X Er (e::es) (zf fa fs):=DA ha hr (QL hs)
section
variable {X:Cx} {K:Frag} {mg:Ab} {Er:XK} {e o:Expr} {pos apos a6:Pos} {fo fa:Ak} {x:Str} {h:Heap}
def QM {zs:Ae} (h:∃a,X.mg x=some (.ref a)/\∀ρ H,R X.K X.mg ρ H (.tup (zs.map PV.str)) (.ref a)) (hg:Gl X x:=by rfl) (hd:(x==("__debug__" : Str))=false:=by decide):ME X Er (.Name x pos) (mC (.tup (zs.map PV.str))):=let ⟨a,h,r⟩:=h;Nf (v:=.ref a) h rfl r hg hd
def iV:List Value->Option (Ae)
 |[]=>some []
 |.str z _::r=>(iV r).map (z::·)
 |_::_=>none
theorem EV:∀{us:Ah}{zs:Ae},iV us=some zs->Vals (zs.map V.str) us
 |[],zs,h=>by cases h;exact .nil
 |u::us,zs,h=>by
  cases u with
  |str z t =>
   simp only [iV,Option.map_eq_some_iff] at h
   obtain ⟨r,hr,rfl⟩:=h
   exact .cons ⟨_,rfl⟩ (EV hr)
  |_=>cases h
def zr7 {a:Addr} {its:Array Value} {n:Nat} {od:Option Addr} {sl:Array (Option Value)} {zs:Ae} (X:K.In h) (G:h.Ns mainGlobals mg) (e:nsIn K mainGlobals x=some (some (.ref a))) (l:K.lookup a=some ⟨.type "tuple", od,.seq its n,sl⟩) (hz:iV its.toList=some zs) (hs:its.size<=sizeLine) :
  ∃a,mg x=some (.ref a)/\∀ρ H,R K mg ρ H (.tup (zs.map PV.str)) (.ref a) :=
 ⟨a,mg_of X G e,fun ρ H=>⟨a,zs.map V.str,rfl,.inr ⟨_,its,n,l,rfl,rfl,hs,EV hz⟩,xF⟩⟩
def QN:Ao
 | .str z,.ref n,st=>yq st n λxs=>match strsOf xs with
  |some ys=>if (ys.map (·.length)).sum+ys.length*z.length<=1000000 then .ok (.str (Txt.join z ys)) st else .stuck
  |none=>.stuck
 |_,_,_=>.stuck
def sP (fo fa:Ak):Ak:=λenv st=>(fo env st).bind λo ae=>match o with
 |.str z=>(fa env ae).bind λy aG=>QN (.str z) y aG
 |_=>.stuck
def zjB (ho:ME X Er o fo) (he:ME X Er e fa) (cg:attributeBase o "join" X.env (eval o X.env)=eval o X.env:=by rfl)
  (eV:((backTo a6 (starEach [e] X.env)).all (λx=>!x.1)&&(backToKw a6 (keywordEach [] X.env)).all (λx=>x.1.isSome)&&decide ([e].length+([]:List Keyword).length+(if ([]:List Keyword).isEmpty then 0 else 1)<30))=true:=by rfl)
  (cw:(apos.endLine==a6.line)=true:=by rfl) (hs:starEach [e] X.env=(false,eval e X.env)::starEach [] X.env:=by rfl) (bT:(backTo a6 (starEach [] X.env)).any (·.1)=false:=by rfl):ME X Er (.Call (.Attribute o "join" apos) [e] [] a6) (sP fo fa) :=
 PE.weak (vn PySem.F.plainAttrs_str PySem.F.slot_str_join PySem.F.type_str_join L6 ho (rE he rD hs) cg eV cw hs bT) fun σ H Q ⟨env,st,ρ,re,rs,h⟩=>⟨env,st,ρ,re,rs,h.then λah H1 x ae e1 s1 h1 v rv=>by
  cases x with
  |str z =>
   cases rv
   refine ⟨rfl,env,ae,ah,re.ext e1,s1,h1.then λax H2 y aG e2 s2 h2 w rw'=>?_⟩
   cases y with
   |ref n =>
    obtain ⟨p,rfl,hp⟩:=rw'
    obtain ⟨xs,hn,h3⟩:=jE h2
    cases hq:strsOf xs with
    |none=>simp only [hq] at h3;exact h3.elim
    |some ys =>
     simp only [hq] at h3
     obtain ⟨hl,h4⟩:=Out.ifp h3
     obtain ⟨vs,hH,hR⟩:=s2.addr hn hp
     rw [QH hq hR] at hH
     exact ⟨z,p,ys,rfl,rfl,.inl (.inl hH),by omega,Out.now (x:=PV.str (Txt.join z ys)) h4 s2 _ rfl⟩
   |_=>exact h2.elim
  |_=>exact h1.elim⟩
end
end Mi
namespace L2
open PySem PySem.Spec PyProof.Rows PySem.W
structure QP (K:Frag) (C B:Addr):Prop where
 of:g0 K C
 sub:mroIn K C (.ref B)=some true
end L2
namespace Mi
open PySem L2 PySem.W PySem.Spec
section
variable {X:Cx} {Er:XK} {e o:Expr} {p apos:Pos} {fo fa:Ak}
def EY:Ao
 | .ref n,.int i,st=>if i=0 then yq st n λxs=>match xs with
  |y::r=>.ok y (st.set n (.lst r))
  |[]=>.stuck
  else .stuck
 |_,_,_=>.stuck
def zr9 {a6:Pos} (ho:ME X Er o fo) (he:ME X Er e fa) (cg:attributeBase o "pop" X.env (eval o X.env)=eval o X.env:=by rfl)
  (eV:((backTo a6 (starEach [e] X.env)).all (λx=>!x.1)&&(backToKw a6 (keywordEach [] X.env)).all (λx=>x.1.isSome)&&decide ([e].length+([]:List Keyword).length+(if ([]:List Keyword).isEmpty then 0 else 1)<30))=true:=by rfl)
  (cw:(apos.endLine==a6.line)=true:=by rfl) (hs:starEach [e] X.env=(false,eval e X.env)::starEach [] X.env:=by rfl) (bT:(backTo a6 (starEach [] X.env)).any (·.1)=false:=by rfl):ME X Er (.Call (.Attribute o "pop" apos) [e] [] a6) (yS EY fo fa) :=
 PE.weak (vn PySem.F.plainAttrs_list PySem.F.slot_list_pop PySem.F.type_list_pop LC ho (rE he rD hs) cg eV cw hs bT) fun σ H Q ⟨env,st,ρ,re,rs,h⟩=>⟨env,st,ρ,re,rs,h.then λah H1 x ae e1 s1 h1 v rv=>by
  obtain ⟨n,xs,rfl,hn,h1⟩:=DS h1
  obtain ⟨p,vs,rfl,hp,k1,k2⟩:=R.refL s1 rv hn
  refine ⟨.inl ⟨rfl,vs,ba.of k1⟩,env,ae,ah,re.ext e1,s1,h1.then λax H2 y aG e2 s2 h2 w rw=>?_⟩
  cases y with
  |int i =>
   cases rw
   obtain ⟨hi,h2⟩:=Out.ifp h2
   subst hi
   obtain ⟨xs2,fK,h2⟩:=jE h2
   obtain ⟨p',nJ,e3,pE,k3,k4⟩:=R.refL s2 (R.ext e2 _ rv) fK
   cases e3
   cases xs2 with
   |nil=>exact h2.elim
   |cons y r =>
    obtain ⟨u,us,rfl,ru,QQ⟩:=k4
    have ew:Ext ax H2 ax (upd H2 p (.lst us)):=Ext.write k3 rfl
    exact ⟨p,u::us,0,0,u,rfl,rfl,k3,by decide,by decide,by simp [seqIndex?],rfl,h2 ax _ ew (s2.write pE ew ⟨us,yU,Rs.ext ew _ QQ⟩) _ (R.ext ew y ru)⟩
  |_=>exact h2.elim⟩
def ql:An:=λxs st=>match xs with
 | [.str z]=>match PySem.intText? z with
  |some n=>if z.length<=640 then .ok (.int n) st else .stuck
  |none=>.stuck
 |_=>.stuck
end
end Mi
namespace Mi
open PySem L2 PySem.W PySem.Spec PyProof.Rows
section
variable {X:Cx}
def QR:cA X (.type "int") ql:=⟨_,L_,fun ρ H st xs vs Q E s r h=>by
 unfold ql at h
 match xs,h with
 |[.str z],h =>
  obtain ⟨v,rfl,rv⟩:=r.one
  cases rv
  cases hn:PySem.intText? z with
  |none=>simp only [hn] at h;exact h.elim
  |some n =>
   simp only [hn] at h
   obtain ⟨c,h⟩:=Out.ifp h
   exact ⟨z,n,rfl,hn,c,Out.now (x:=PV.int n) h s _ rfl⟩⟩
end
end Mi
namespace Mi
open PySem L2 PySem.W PySem.Spec
def wv (C:Str) (m:An) (c:Str):Option (An):=if c=C then some m else none
def xW {P:Program}{w:World}{K:Frag}{mg:Ab}{base:Heap}{C n:Str}{k:Nat}{m m':An}{c:Str}(ok:cY P w K mg base C n k m) (h:wv C m c=some m'):cY P w K mg base c n k m':=by
 unfold wv at h
 by_cases e:c=C
 ·rw [zC e] at h;cases h;rw [e];exact ok
 ·rw [zQ e] at h;cases h
section
variable {X:Cx} {Er:XK} {pos:Pos}
def QS {elt iter c:Expr} {x:Str} {px:Pos} {scope:Scope} {src:ze->Mo Sq} {ft:Am} {fe:Ak} {M:Ae} (hc:X.calm=true) (S:c7 X.env.scope scope [x]) (eN:Hid scope M X.N) (cj:((".0" : Str)::([x]++M)).Nodup)
  (hi:MI X Er (.Name x px) iter src) (lu:∀cl C af ai fp,MT (dH X M scope cl [x] C af ai fp (λ_ _=>False)) XN c ft) (he:∀cl C af ai fp,ME (dH X M scope cl [x] C af ai fp (λ_ _=>False)) XN elt fe)
  (hx:scope.names.lookup x=some .local:=by rfl) (hs:∀v,foldedSetIterable iter X.env v=pure v:=by intro _;rfl):ME X Er (.ListComp elt [⟨.Name x px,iter,[c],0⟩] scope pos) (iT src ft fe):=by
 have hN:([x]++M).Nodup:=(j6.mp cj).2
 have fY:∀cl C af ai fp E,PG (dH X M scope cl [x] C af ai fp E) (.Name x px) (w8 0):=λcl C af ai fp E=>wM (X:=dH X M scope cl [x] C af ai fp E) (i:=0) hN rfl (.inl (wK hx)) (.inr (wK hx))
 exact PE.weak (vz (te:=tM X.K X.mg XN fe) (tt:=nO X.K X.mg XN ft) hc S eN cj hi fY (λcl C af ai fp=>CQ (lu cl C af ai fp)) (λcl C af ai fp=>he cl C af ai fp) hs) fun σ H Q hh=>EN σ H Q hh
end
end Mi
namespace L2
open PySem PySem.Spec PyProof.Rows PySem.W
def uP (K:Frag) (a:Addr):It :=
 ⟨λi H=>∃xs x,bt K H a xs/\xs[i]?=some x,
  λi H v H'=>∃T x,H T=none/\v=.ref T/\H'=upd H T (.tup [.int i,x])/\∀xs,bt K H a xs->xs[i]?=some x,
  λi H=>∃xs,bt K H a xs/\xs.length<=i⟩
def uQ (e it a:Addr) (k:Nat) (h:Heap):Prop:=(∃old,IsEnum h e it k old)/\IsTupIter h it a k
def QT {prog:Program}{w:World}{A:Around}{it t:Addr}{xs:Array Value}(ne:t≠it) (hh:A.handled=none):Draws prog w A it [it,t] xs.size (λi x=>xs[i]?=some x) (pI it t xs) where
 live:=λi h q=>let ⟨⟨o,ho,_⟩,_⟩:=q;⟨o,ho⟩
 frame:=λi h h' q k=>(iB (prog:=prog) (w:=w) ne).at_ q (k it (by simp)) (k t (by simp))
 item:=λi s Q E hi q hQ=>(iB ne).item q (Array.getElem?_eq_getElem hi) λh' q' sb=>hQ _ h' s.toks (Array.getElem?_eq_getElem hi) q' sb
 done:=λs Q E q hE=>(iB ne).stop hh q (Array.getElem?_eq_none (zM _)) hE
def QU {prog:Program}{w:World}{A:Around}{E:Aa}{s:Shared}{e it t:Addr}{i:Nat}{xs:Array Value}{old:Value}{Q:Option Value->Shared->Prop}(ne:t≠it) (hh:A.handled=none)
  (he:IsEnum s.heap e it i old) (hit:IsTupIter s.heap it t i) (p:IsTup s.heap t xs) (hi:xs.size<=i) (hQ:∀h',Heap.ExtBut it s.heap h'->Q none { s with heap:=h' }):wpAny (model prog w) A (pyNext (.ref e)) Q E s:=by
 have D:Draws prog w A.in1 it [it,t] i (λj x=>xs[j]?=some x/\j<i/\False) (λj h=>j=i/\pI it t xs j h):=⟨λj h q=>let ⟨_,⟨o,ho,_⟩,_⟩:=q;⟨o,ho⟩,λj h h' q k=>⟨q.1,(iB (prog:=prog) (w:=w) ne).at_ q.2 (k it (by simp)) (k t (by simp))⟩,
  λj s Q E hj q _=>absurd q.1 (by omega),λs Q E q hE=>(iB ne).stop hh q.2 (Array.getElem?_eq_none hi) hE⟩
 exact wpAny_pyNext_enum_endD D he ⟨rfl,hit,p⟩ hQ
def QV {P:Program}{w:World}{K:Frag}{elts:List Expr}{kt:Nat}{pos:Pos}{e it a:Addr}(ne:e≠it):Turn P w K (.Tuple elts kt pos) (uP K a) [e,it] e (uQ e it a) where
 mem:=by simp
 obj:=λi h st c hc=>by
  obtain ⟨⟨old,he⟩,⟨o1,e1,_,d1⟩⟩:=st
  simp only [yE,List.not_mem_nil,j5] at hc
  rcases hc with q|q<;>rw [q]
  ·exact ⟨_,he,λv z=>by cases z⟩
  ·exact ⟨_,e1,λv z=>by rw [d1] at z;cases z⟩
 keep:=λi h h' st k=>by
  obtain ⟨⟨old,he⟩,⟨o1,e1,r1⟩⟩:=st
  exact ⟨⟨old,k e (by simp) _ he⟩,⟨o1,k it (by simp) _ e1,r1⟩⟩
 item:=by
  intro X hP hw hK hc i pins s σ H E I hf st hg
  subst hP hw hK
  obtain ⟨xs,x,hq,hx⟩:=hg
  obtain ⟨⟨old,he⟩,hit⟩:=st
  obtain ⟨its,rv,p,hz⟩:=I.tuple hq
  obtain ⟨u,hu,ru⟩:=rv.get hx
  have n1:∀c∈[e,it],a≠c:=λc h=>nM I (hf c h) hq
  have na:a≠it:=n1 it (by simp)
  have QW:a≠e:=n1 e (by simp)
  have bf:i<its.toArray.size:=by have:=(yD.mp hu).1;simpa using this
  refine wpAny_pyNext_enum_itemD (D:=QT (A:=X.A.in1) na (I.ok.hd hc)) he ⟨hit,p⟩ bf ne (by simp;exact ⟨ne,λz=>QW z.symm⟩) λx1 h1 tk QX eo p8 pT hsz kk=>⟨_,rfl,?_⟩
  have xu:x1=u:=by
   have h0:its.toArray[i]?=some x1:=QX
   rw [List.getElem?_toArray,hu] at h0
   exact (Option.some.inj h0).symm
  subst xu
  refine wpAny_letOwnedTupleGo_enum (s:={ s with heap:=h1,toks:=tk+1 }) eo λh2 e2 sb=>?_
  have fr:H s.heap.objs.size=none:=I.hok.fresh (zM _)
  have up:∀c o,c≠e->h1.get? c=some o->h2.get? c=some o:=λc o n q=>sb.extBut _ _ n q
  have nz:s.heap.objs.size≠e:=Nat.ne_of_gt (yw he)
  have k2:∀c o,c∉[e,it]->s.heap.get? c=some o->h2.get? c=some o:=λc o nc q=>up c o (λz=>nc (by simp [z])) (kk c o (λz=>nc (by simp [z])) (λz=>nc (by simp [z])) q)
  refine ⟨.ref s.heap.objs.size,upd H s.heap.objs.size (.tup [.int i,x]),?_,rfl,⟨s.heap.objs.size,x,fr,rfl,rfl,λys hy=>by rw [I.tuple_inj hy hq];exact hx⟩,?_,λc cG=>?_⟩
  ·exact Inv.turnN (s:=s) (h':=h2) (t':=tk+1) I hf k2 (zM _) ⟨show 2<=sizeLine by decide,[.int i tk,x1],.cons ⟨_,rfl⟩ (.cons ru .nil),_,up _ _ nz pT,rfl,_,rfl⟩
  ·refine ⟨⟨x1,by rw [show ((i+1:Nat):Int)=(i:Int)+1 from rfl];exact e2⟩,let ⟨⟨o,q,r⟩,_⟩:=p8;⟨o,up _ _ ne.symm q,r⟩⟩
  ·have lt:∃o,s.heap.get? c=some o:=by
    simp only [yE,List.not_mem_nil,j5] at cG
    rcases cG with q|q<;>rw [q]
    ·exact ⟨_,he⟩
    ·exact let ⟨o,q,_⟩:=hit;⟨o,q⟩
   obtain ⟨o,q⟩:=lt
   have z:c≠s.heap.objs.size:=yX (yw q)
   rw [yf z]
   exact (hf c cG).1
 done:=by
  intro X hP hw hK hc i pins s σ H E I hf st hg
  subst hP hw hK
  obtain ⟨xs,hq,hx⟩:=hg
  obtain ⟨⟨old,he⟩,hit⟩:=st
  obtain ⟨its,rv,p,hz⟩:=I.tuple hq
  have hl:=rv.length
  have n1:∀c∈[e,it],a≠c:=λc h=>nM I (hf c h) hq
  refine QU (n1 it (by simp)) (I.ok.hd hc) he hit p (by simp;omega) λh' eb=>⟨rfl,?_⟩
  exact Inv.turnL (ch:=[e,it]) (t':=s.toks) I hf λc o nc q=>eb c o (λz=>nc (by simp [z])) q
 self:=λ_ _ _ _ _ st h=>by
  obtain ⟨⟨old,he⟩,_⟩:=st
  exact wpAny_pyIter_enum he h
def QY (K:Frag) (ta:TA):TI:=fun σ H R=>ta σ H λvs H1=>∃a,vs=[.ref a]/\(∃xs,bt K H1 a xs)/\R (uP K a) H1
abbrev sQ (h:Heap) (a:Addr):Heap:=h.push { cls:=.type "tuple_iterator", data:=.fields #[.ref a,.int 0 0] }
abbrev oh (h:Heap) (a:Addr):Heap:=(sQ h a).push { cls:=.type "enumerate", data:=.fields #[.none,.bool false,.ref h.objs.size,rawInt 0,.none,.none] }
def QZ (a:Addr) (xs:Array Value) :
  Meets (Builtin.«enumerate.__new__» ⟨[.type "enumerate", .ref a],[]⟩) (λ_ R s=>IsTup s.heap a xs/\R (.ok (.ret (.ref (sQ s.heap a).objs.size))) { s with heap:=oh s.heap a }) :=
 .of_wp λprog w A R s h=>by
  obtain ⟨hp,g,d,tk,os⟩:=s
  obtain ⟨h1,h⟩:=h
  have uI:=sub_enumerate
  have H1:IsTup (Shared.heap ⟨hp,g,d,tk,os⟩) a xs:=h1
  obtain ⟨⟨cl,dd,dt,sl⟩,ho,hcl,n,hd⟩:=id H1
  replace hcl:cl=.type "tuple" := hcl
  replace hd:dt=.seq xs n:=hd
  subst hcl hd
  wp_walk using AutoSeq1.wpAny_loadPart' ho
  refine wpAny_stack_any λst=>ya ?_
  split
  ·rename_i c _ _ _ _ _
   cases (c==Value.type "enumerate")
   all_goals (wp_walk using AutoSeq1.wpAny_loadPart' ho,iter_tuple H1;exact ⟨_,rfl,h⟩)
  ·wp_walk using AutoSeq1.wpAny_loadPart' ho,iter_tuple H1
   exact ⟨_,rfl,h⟩
def Q0 {prog:Program}{w:World}{A:Around}{E:Aa}{s:Shared}{a:Addr}{xs:Array Value}{Q:Aa}(h1:IsTup s.heap a xs)
  (h:uQ (s.heap.objs.size+1) s.heap.objs.size a 0 (oh s.heap a)->Q (.ref (s.heap.objs.size+1)) { s with heap:=oh s.heap a }) :
  wpAny (model prog w) A (call (.type "enumerate") [.ref a]) Q E s:=by
 refine callType_new F.called_enumerate (by decide) (F.typeCall_enumerate_1 _) (F.newCall_enumerate_1 _) (λobj=>F.args_object_init_2 obj _) F.entry_enumerate_new (QZ a xs) ⟨h1,?_⟩
 have z1:(sQ s.heap a).objs.size=s.heap.objs.size+1:=Heap.size_push ..
 have g2:(oh s.heap a).get? (sQ s.heap a).objs.size=some _:=yP _ rfl
 have g1:(oh s.heap a).get? s.heap.objs.size=some _:=yl _ (yP _ rfl)
 show _/\_
 rw [z1] at g2
 rw [z1]
 exact ⟨⟨_,g2,rfl⟩,h ⟨⟨_,g2⟩,⟨_,g1,rfl,rfl⟩⟩⟩
def Q1 {X:Cx} {elts:List Expr} {kt:Nat} {tp:Pos} {x:Expr} {ta:TA} {p pos:Pos} (hg:Gl X "enumerate") (hm:X.mg "enumerate" = none) (ha:PA X [x] ta) (hs:starEach [x] X.env=[(false,eval x X.env)]:=by rfl) :
  PI X (.Tuple elts kt tp) (.Call (.Name "enumerate" p) [x] [] pos) (QY X.K ta):=by
 intro pins s σ H R I h
 refine Call_ (gF I hg hm Eg (PyProof.Rows.callWith_type1 (aX (ha pos pins s σ H _ I h) λus s1 ⟨vs,H1,I1,r1,q1⟩=>?_) hs rfl))
 obtain ⟨a,e,⟨xs,hq⟩,q⟩:=q1
 subst e
 obtain ⟨u,rfl,ru⟩:=r1.one
 obtain rfl:u=Value.ref a:=ru
 obtain ⟨its,_,p1,_⟩:=I1.tuple hq
 have kk:∀b o,s1.heap.get? b=some o->(oh s1.heap a).get? b=some o:=λb o q=>yl _ (yl _ q)
 refine Q0 p1 λest=>wpAny_pyIter_enum est.1.choose_spec ?_
 have ne:∀(n:Nat),n+1≠n:=λn z=>by omega
 refine ⟨_,[s1.heap.objs.size+1,s1.heap.objs.size],_,_,H1,rfl,I1.kept (t':=s1.toks) kk,QV (ne _),est,λc hc=>?_,q⟩
 have le:s1.heap.objs.size<=c:=by
  simp only [yE,List.not_mem_nil,j5] at hc
  rcases hc with q|q<;>rw [q]<;>first|exact zM _|exact Nat.le_add_right _ _
 exact I1.fpOk le (I1.hok.fresh le)
end L2
namespace Mi
open PySem L2 PySem.W PySem.Spec
def qm:List PV->Mo (Aq)
 |[.tup xs],st=>if xs.length<=lim then .ok xs st else .stuck
 |_,_=>.stuck
def EZ {α:Type}{K:Frag}{mg:Ab}{ρ:Af}{H:Hp}{st:aa}{vs:Aq}{k:List PV->Mo α}{good:List Addr->Hp->α->aa->Prop}{E:XK}(h:Out K mg ρ H ((qm vs st).bind k) good E):∃xs,vs=[.tup xs]/\xs.length<=lim/\Out K mg ρ H (k xs st) good E:=by
 cases vs with
 |nil=>exact h.elim
 |cons v r =>
  cases r with
  |cons _ _=>cases v<;>exact h.elim
  |nil =>
   cases v with
   |tup xs =>
    by_cases hl:xs.length<=lim
    ·refine ⟨xs,rfl,hl,?_⟩
     have e:qm [.tup xs] st=.ok xs st:=zC hl
     rw [e] at h
     exact h
    ·have e:qm [.tup xs] st=.stuck:=zQ hl
     rw [e] at h
     exact h.elim
   |_=>exact h.elim
section
variable {X:Cx} {Er:XK} {pos:Pos} {cO:List Stmt} {gb:Al} {fs:Aj}
def oi:Nat->List PV->Aq
 |_,[]=>[]
 |i,x::r=>.tup [.int i,x]::oi (i+1) r
def sS (fs:Aj) (g:PV->ze->Option ze) (body:Al):Al:=λenv st=>(fs env st).bind λvs ae=>(qm vs ae).bind λxs ae=>forL g body (oi 0 xs) env ae
def zsj {elts:List Expr} {kt:Nat} {tp p ip:Pos} {x:Expr} {gt:PV->ze->Option ze} (hp:PassesOwn (model X.prog X.w) X.A X.env X.xe) (hc:X.calm=true) (hm:X.mg "enumerate" = none) (ha:MA X Er [x] fs) (hg:MG X Er (.Tuple elts kt tp) gt) (hb:dB X Er cO gb)
  (iM:Gl X "enumerate" := by rfl) (bx:starEach [x] X.env=[(false,eval x X.env)]:=by rfl) (hs:∀v,foldedSetIterable (.Call (.Name "enumerate" p) [x] [] ip) X.env v=pure v:=by intro _;rfl) :
  MS X Er (.For (.Tuple elts kt tp) (.Call (.Name "enumerate" p) [x] [] ip) cO [] pos) (sS fs gt gb) :=
 PS.weak (oP hp hc (Q1 iM hm ha bx) hg hb hs) λD σ H ⟨env,st,ρ,re,rs,h⟩=>⟨env,st,ρ,re,rs,h.then λau H0 vs cI e0 s0 h0 us ru=>by
  obtain ⟨xs,rfl,pf,h0⟩:=EZ h0
  obtain ⟨v,rfl,rv⟩:=ru.one
  obtain ⟨a,lP,rfl,qo,p9⟩:=rv
  refine ⟨a,rfl,⟨_,qo⟩,?_⟩
  refine ⟨λi m σ H=>m+i=lim+1/\i<=xs.length/\∃env st ρ,bg X.K X.mg ρ H env σ/\a4 X.K X.mg ρ H st/\Ext au H0 ρ H/\Out X.K X.mg ρ H (forL gt gb (oi i (xs.drop i)) env st) (gS X.K X.mg D) Er,⟨lim+1,rfl,jK _,env,cI,au,re.ext e0,s0,Ext.refl,h0⟩,?_⟩
  rintro i m σ H ⟨hm,hi,env,st,ρ,re,rs,ex,h⟩
  have hq:=ex.sqT qo
  have hR:=Rs.ext ex _ p9
  cases hx:xs[i]? with
  |none =>
   have hl:xs.length<=i:=kY.mp hx
   rw [hZ hl] at h
   exact .inl ⟨⟨lP,hq,by rw [<-hR.len];exact hl⟩,Out.now (x:=Fl.nx env) h rs σ re⟩
  |some x =>
   have bf:i<xs.length:=(yD.mp hx).1
   have Q2:xs.drop i=x::xs.drop (i+1):=by
    rw [wo bf]
    congr 1
    exact (yD.mp hx).2
   rw [Q2] at h
   obtain ⟨v,hv,rv⟩:=hR.get hx
   have ln:lim=1000000:=rfl
   obtain ⟨m,rfl⟩:∃m',m=m'+1:=⟨m-1,by omega⟩
   refine .inr ⟨⟨lP,v,hq,hv⟩,_,λaj H' p'=>⟨m,wt m,p'⟩,λv' H' y=>?_⟩
   obtain ⟨T,x',hT,rfl,rfl,y⟩:=y
   have e2:=y lP hq
   rw [hv] at e2
   cases e2
   have cb:Ext ρ H ρ (upd H T (.tup [.int i,v])):=Ext.new hT
   replace h:Out X.K X.mg ρ H (match gt (.tup [.int i,x]) env with
    |none=>.stuck
    | some bw=>(gb bw st).bind λfl aG=>match fl with
     |.nx e=>forL gt gb (oi (i+1) (xs.drop (i+1))) e aG
     |.ct e=>forL gt gb (oi (i+1) (xs.drop (i+1))) e aG
     |.bk e=>.ok (.nx e) aG
     |.rt v=>.ok (.rt v) aG) (gS X.K X.mg D) Er:=h
   cases hgx:gt (.tup [.int i,x]) env with
   |none=>simp only [hgx] at h;exact h.elim
   |some bw =>
    simp only [hgx] at h
    refine ⟨.tup [.int i,x],env,bw,ρ,⟨T,[.int i,v],rfl,.inl (.inl yU),_,_,rfl,rfl,_,_,rfl,R.ext cb x rv,rfl⟩,re.ext cb,hgx,λaz r1=>⟨bw,st,ρ,r1,rs.new hT,Out.then (Out.ext h cb) λao H3 fl a8 e3 s3 h3=>?_⟩⟩
    cases fl with
    |nx e=>exact λaA r4=>⟨by omega,by omega,e,a8,ao,r4,s3,(ex.trans cb).trans e3,h3⟩
    |ct e=>exact λaA r4=>⟨by omega,by omega,e,a8,ao,r4,s3,(ex.trans cb).trans e3,h3⟩
    |bk e=>exact Out.fl (D:=D) (fl:=.nx e) (E:=Er) h3 s3
    |rt v=>exact Out.fl (D:=D) (fl:=.rt v) (E:=Er) h3 s3⟩
end
end Mi
namespace L2
open PySem PySem.Spec PyProof.Rows PySem.W
section
variable {X:Cx} {e:Expr} {te:TE}
def Q3 (z:Str) (te:TE):TE:=fun σ H Q=>te σ H λv H1=>∃i:Int,v=.int i/\i.natAbs.log2<1920/\(z++(toString i:Str)).length<=sizeLine/\Q (.str (z++(toString i:Str))) H1
def sT (z:Str):Str.empty++z=z:=by
 show Str.mk (#[]++z.cps)=z
 simp
def Q4 {z:Str}{ck}{cp fp pos:Pos}(he:PE X e te) (hz:z.length<=sizeLine):PE X (.JoinedStr [.Constant (.str z) ck cp,.FormattedValue e (-1) none fp] pos) (Q3 z te):=by
 intro pins s σ H Q I h
 refine wpAny_JoinedStr (Calls.Constant_str ⟨z,_,rfl,?_,?_⟩)
 ·rw [sT];exact hz
 ·refine wpAny_FormattedValue_plain (aX (he pins _ σ H _ (I.tok _) h) λu s1 ⟨v,H1,I1,r1,i,ev,hd,hl,q⟩=>?_)
  subst ev
  obtain ⟨t,rfl⟩:=r1
  refine wpAny_formatField_int hd ⟨_,_,rfl,?_,?_,?_⟩
  ·rw [sT];exact hl
  ·rw [sT];exact hl
  ·rw [sT];exact ⟨.str (z++(toString i:Str)),H1,(I1.tok _).tok _,⟨_,rfl⟩,q⟩
end
end L2
namespace Mi
open PySem L2 PySem.W PySem.Spec
section
variable {X:Cx} {Er:XK} {e i:Expr} {pos:Pos} {f:Ak}
def iW (z:Str):PV->Mo PV
 |.int i,st=>if i.natAbs.log2<1920/\(z++(toString i:Str)).length<=1000 then .ok (.str (z++(toString i:Str))) st else .stuck
 |_,_=>.stuck
def zjE {z:Str}{ck}{cp fp:Pos}(he:ME X Er e f) (hz:z.length<=1000:=by decide):ME X Er (.JoinedStr [.Constant (.str z) ck cp,.FormattedValue e (-1) none fp] pos) (yQ (iW z) f) :=
 PE.weak (Q4 he (jw hz (by decide))) fun σ H Q ⟨env,st,ρ,re,rs,h⟩=>⟨env,st,ρ,re,rs,h.then λah H1 x ae e1 s1 h1 v rv=>by
  cases x with
  |int i =>
   obtain ⟨⟨h2,h3⟩,h1⟩:=Out.ifp h1
   exact ⟨i,rv,h2,jw h3 (by decide),h1.now s1 _ rfl⟩
  |_=>exact h1.elim⟩
end
end Mi
namespace PySem
open Sem (wp)
section
variable {prog:Program} {w:World} {A:Around} {E:Aa} {s:Shared}
variable {I:Addr} {fp wr:Af} {G:Array GenState->Array GenState->Prop} {n:Nat} {P:Nat->Value->Prop} {St:Nat->Shared->Prop}
def Q5 {Q:List Value->Shared->Prop} (W:WalksS prog w A.in1 I fp wr G n P St) (hT:∀i s,St i s->s.TypeIs (.ref I) "list_reverseiterator") (bx:St 0 s) (mj:∀b∈fp,b<s.heap.objs.size) (hI:I∈fp)
  (hQ:∀s' acc,Moved wr G s s'->ItemsOf P acc n->s.heap.objs.size<s'.heap.objs.size->Q acc.toList s') (hn:n<=sizeLine:=by size_fits):wpAny (model prog w) A (collect (.ref I)) Q E s:=by
 have iR:s.heap.objs.size∉fp:=λhm=>Nat.lt_irrefl _ (mj _ hm)
 unfold collect
 refine zu (wpAny_runValue (codeAny_builtin F.entry_proto_collect ?_))
 rw [Around.under_plainId F.plain_proto_collect _]
 show wpAny _ A.in1 (newList [] >>= λl=>again (.builtin "list.__iadd__" ⟨[l,.ref I],[]⟩)) _ _ s
 refine zu (wn ?_)
 refine ya ⟨plainId_quiet F.plain_list_iadd _,codeAny_builtin F.entry_list_iadd ?_⟩
 rw [Around.under_plainId F.plain_list_iadd _]
 have aS:=W.frame 0 s (s.heap.push { cls:=.type "list", data:=.seq ([]:Ah).toArray }) s.toks bx (zM _) λb _ o e=>yl _ e
 show wpAny _ A.in1 (Builtin.List.listExtendWith (.ref s.heap.objs.size) (.ref I) (.ref s.heap.objs.size)) _ _ _
 refine Lr.extend (R:=λr s'=>match r with
  | .ok (.ret v)=>wpAny (model prog w) A (match v with
   | .ref a=>do
    let o <-load a
    match o.data with
    |.seq xs _=>pure xs.toList
    |_=>unsupported "internal:collect"
   |_=>unsupported "internal:collect") Q E s'
  |.ok _=>False
  |.error e=>E e s') (hn:=hn) W hT s.heap.objs.size _ _ aS iR hI (yP _ rfl) λs' bS c' hm kN cF=>?_
 show wpAny _ A (load s.heap.objs.size >>= _) _ _ s'
 refine zu (wpAny_load kN ?_)
 exact ya (hQ s' bS (Moved.drop_new (o:={ cls:=.type "list", data:=.seq ([]:Ah).toArray }) (tk:=s.toks) hm (zM _)) cF (yw kN))
def Q6 {Q₁:Aa} (W:WalksS prog w A.in1.in1 I fp wr G n P St) (hT:∀i s,St i s->s.TypeIs (.ref I) "list_reverseiterator") (bx:St 0 s) (mj:∀b∈fp,b<s.heap.objs.size) (hI:I∈fp)
  (h:∀s' acc,Moved wr G s s'->ItemsOf P acc n->s.heap.objs.size<s'.heap.objs.size->Q₁ (.ref s'.heap.objs.size) { s' with heap:=s'.heap.push { cls:=.type "tuple", data:=.seq acc } }) (hsz:n<=sizeLine:=by size_fits) :
  codeAny (model prog w) A (.call (.builtin "tuple.__new__") ⟨[.type "tuple", .ref I],[]⟩) (wants Q₁ E) s:=by
 refine codeAny_of_tree ?_
 show wpAny _ A.in1 (do checkBuiltinCall "tuple.__new__" ⟨[.type "tuple", .ref I],[]⟩;again (.builtin "tuple.__new__" ⟨[.type "tuple", .ref I],[]⟩)) _ _ s
 refine zu (wpAny_of_eq (F.newCall_tuple_1 _) (ya ⟨plainId_quiet F.plain_tuple_new _,codeAny_builtin F.entry_tuple_new ?_⟩))
 rw [Around.under_plainId F.plain_tuple_new _]
 have uI:=sub_tuple_self
 have Q7:=init_tuple_lookup
 have WA:=madeHere_tuple
 have eF:=hT 0 s bx
 wp_walk using wpAny_typeOf eF,Q5 (hn:=hsz) W hT bx mj hI
 intro s' acc hm cF bf
 show wpAny _ _ (Builtin.Tuple.tupleExact acc.toList.toArray >>= λv=>ret v) _ _ _
 unfold Builtin.Tuple.tupleExact
 refine zu (wn ?_ (by show acc.toList.toArray.size<=sizeLine;simp only [Array.toArray_toList];rw [cF.1];exact hsz))
 refine ya ?_
 have e:acc.toList.toArray=acc:=by simp
 rw [e]
 exact h s' acc hm cF bf
def Q8 {Q:Aa} (W:WalksS prog w A.in1.in1.in1 I fp wr G n P St) (hT:∀i s,St i s->s.TypeIs (.ref I) "list_reverseiterator") (bx:St 0 s) (mj:∀b∈fp,b<s.heap.objs.size) (hI:I∈fp)
  (hQ:∀s' acc,Moved wr G s s'->ItemsOf P acc n->s.heap.objs.size<s'.heap.objs.size->Q (.ref s'.heap.objs.size) { s' with heap:=s'.heap.push { cls:=.type "tuple", data:=.seq acc } }) (hsz:n<=sizeLine:=by size_fits) :
  wpAny (model prog w) A (call (.type "tuple") [.ref I]) Q E s:=by
 refine callType_codes (Q₁:=λobj am=>am.TypeIs obj "tuple" /\ Q obj am) F.called_tuple (F.typeCall_tuple_1 _) F.entry_object_init
  (Q6 (hsz:=hsz) W hT bx mj hI λs' acc hm cF bf=>⟨⟨_,yP _ rfl,rfl⟩,hQ s' acc hm cF bf⟩) λobj am ay=>?_
 exact ⟨ay.1,F.args_object_init_2 obj _,object_init_meets F.called_tuple.init.lookup F.called_tuple.made (by decide) prog w A.in1 _ am ⟨ay.1,rfl,ay.2⟩⟩
end
end PySem
namespace L2
open PySem PySem.Spec PyProof.Rows PySem.W
section
variable {X:Cx}
def Q9 {a:Expr} {ta:TA} {p p2 pos fg:Pos} (hc:X.calm=true) (hg:Gl X "reversed") (hm:X.mg "reversed" = none) (iM:Gl X "tuple") (xX:X.mg "tuple" = none) (xY:bootBuiltins "tuple" = some (.type "tuple")) (ha:PA X [a] ta) (hs:starEach [a] X.env=[(false,eval a X.env)]:=by rfl)
  (dY:starEach [Expr.Call (.Name "reversed" p2) [a] [] fg] X.env=[(false,eval (Expr.Call (.Name "reversed" p2) [a] [] fg) X.env)]:=by rfl) :
  PE X (.Call (.Name "tuple" p) [.Call (.Name "reversed" p2) [a] [] fg] [] pos) (fun σ H Q=>ta σ H λvs H1=>∃a xs,vs=[.ref a]/\ba X.K H1 a xs/\∀l,H1 l=none->Q (.ref l) (upd H1 l (.tup xs.reverse))):=by
 intro pins s σ H Q I h
 refine wpAny_Call_Name_kw (gF I iM xX xY ?_ (by decide) (by decide))
 refine PyProof.Rows.callWith_type1 ?_ dY rfl
 rw [dY]
 show wpAny _ _ (spliced ((false,eval (Expr.Call (.Name "reversed" p2) [a] [] fg) X.env)::[])) _ _ s
 refine Calls.spliced_cons ?_
 refine wpAny_Call_Name_kw (gF I hg hm EA (PyProof.Rows.callWith_type1 (aX (ha fg pins s σ H _ I h) λus s1 ⟨vs,H1,I1,r1,q1⟩=>?_) hs rfl) (by decide) (by decide))
 obtain ⟨a,xs,e,hq,q⟩:=q1
 subst e
 obtain ⟨u,rfl,ru⟩:=r1.one
 obtain rfl:u=Value.ref a:=ru
 obtain ⟨its,rv,p1,hz⟩:=I1.list hq
 have hl:=rv.length
 refine call_reversed_list p1.isList (Calls.spliced_nil ?_)
 have bf:a<s1.heap.objs.size:=by obtain ⟨o,e,_⟩:=p1.isList;exact yw e
 have nF:a≠s1.heap.objs.size:=yX bf
 have W:=(Walks.listRev (prog:=X.prog) (w:=X.w) (A:=X.A.in1.in1.in1) (I1.ok.hd hc) s1.heap.objs.size a nF its.toArray).toS
 have st:(s1.heap.push (revObj a ((its.toArray.size:Int)-1))).IsRevIter s1.heap.objs.size a ((its.toArray.size:Int)-1-((0:Nat):Int)):=⟨_,yP _ rfl,rfl,by simp [revObj]⟩
 have hsz:(s1.heap.push (revObj a ((its.toArray.size:Int)-1))).objs.size=s1.heap.objs.size+1:=by simp [Heap.push]
 refine Q8 W (λi s st=>st.2.1.typeIs) ⟨jK _,st,p1.isList.at λo e=>yl _ e⟩ (λb hb=>?_) (by simp) (λs' bS mv hit Q_=>?_) (by simp;omega)
 ·simp at hb
  show b<(s1.heap.push (revObj a ((its.toArray.size:Int)-1))).objs.size
  rw [hsz]
  rcases hb with hb|hb
  ·rw [hb];exact wt _
  ·rw [hb];exact Nat.lt_succ_of_lt bf
 ·have es:=Moved.eq_with mv
  have kp:∀b u,s1.heap.get? b=some u->s'.heap.get? b=some u:=λb u e=>by
   have lb:=yw e
   refine mv.heap b u (λhm=>?_) (yl _ e)
   have:b=s1.heap.objs.size:=by simpa using hm
   rw [this] at lb
   exact absurd lb (Nat.lt_irrefl _)
  have hle:s1.heap.objs.size<=s'.heap.objs.size:=by
   have:s1.heap.objs.size+1<s'.heap.objs.size:=by rw [<-hsz];exact Q_
   exact Nat.le_of_lt (Nat.lt_of_succ_lt this)
  have Ra:Vals xs.reverse bS.toList:=by
   refine EM (by simp [hit.1,hl]) λi x u h1 h2=>?_
   have h3:bS[i]?=some u:=by simpa using h2
   have h4:=hit.2 i u h3
   have hi:i<its.length:=by
    have:=(Array.getElem?_eq_some_iff.mp h3).1
    rw [hit.1] at this
    simpa using this
   rw [List.getElem?_reverse (by omega)] at h1
   obtain ⟨u',g1,g2⟩:=rv.get h1
   have:its[its.length-1-i]?=some u:=by simpa using h4
   rw [hl,this] at g1
   cases g1
   exact g2
  rw [es]
  refine ⟨.ref _,_,I1.laid (h':=s'.heap.push { cls:=.type "tuple", data:=.seq bS }) (t':=s'.toks) (λb u e=>yl _ (kp b u e)) hle (show a9 X.prog X.w _ _ _ (.tup xs.reverse) from ⟨by simpa using hz,bS.toList,Ra,?_⟩),rfl,q _ (I1.hok.fresh hle)⟩
  have ea:bS.toList.toArray=bS:=by simp
  rw [ea]
  exact ⟨_,yP _ rfl,rfl,_,rfl⟩
end
end L2
namespace Mi
open PySem L2 PySem.W PySem.Spec
section
variable {X:Cx} {Er:XK} {pos a6 apos:Pos} {fs:Aj} {o e f:Expr} {fo fk fx:Ak}
def qp (vs:Aq):Mo PV:=λst=>(kM vs st).bind λn st=>yq st n λxs=>.ok (.tup xs.reverse) st
def sU (fs:Aj):Ak:=λenv st=>(fs env st).bind qp
def Rb {a:Expr} {p p2 fg:Pos} (hc:X.calm=true) (hm:X.mg "reversed" = none) (xX:X.mg "tuple" = none) (xY:bootBuiltins "tuple" = some (.type "tuple")) (ha:MA X Er [a] fs) (hg:Gl X "reversed" := by rfl) (iM:Gl X "tuple" := by rfl) (hs:starEach [a] X.env=[(false,eval a X.env)]:=by rfl)
  (dY:starEach [Expr.Call (.Name "reversed" p2) [a] [] fg] X.env=[(false,eval (Expr.Call (.Name "reversed" p2) [a] [] fg) X.env)]:=by rfl) :
  ME X Er (.Call (.Name "tuple" p) [.Call (.Name "reversed" p2) [a] [] fg] [] pos) (sU fs) :=
 PE.weak (Q9 hc hg hm iM xX xY ha hs dY) fun σ H Q ⟨env,st,ρ,re,rs,h⟩=>⟨env,st,ρ,re,rs,h.then λah H1 xs ae e1 s1 h1 vs rv=>by
  obtain ⟨n,ys,rfl,hn,h1⟩:=xy h1
  obtain ⟨e6,kZ,h1⟩:=jE h1
  obtain ⟨v,rfl,pL⟩:=rv.one
  obtain ⟨a,rfl,Rc⟩:=pL
  obtain ⟨ws,hH,hR⟩:=s1.addr kZ Rc
  exact ⟨a,ws,rfl,ba.of hH,λl hl=>h1 ah _ (Ext.new hl) (s1.new hl) (.ref l) ⟨l,ws.reverse,rfl,.inl (.inl yU),Rs.ext (Ext.new hl) _ (Rs.rev hR)⟩⟩⟩
def Rf {n:Nat}{st:aa}{xs:Aq}(h:st[n]?=some (.lst xs)):qp [.ref n] st=.ok (.tup xs.reverse) st:=by
 simp [qp,yv h]
def Rg (n:Nat) (z d:PV):Mo PV:=λst=>match z with
 |.str z=>jv st n λks xs=>.ok (((ks.zip xs).lookup z).getD d) st
 |_=>.stuck
def kO (fo fk fx:Ak):Ak:=λenv st=>(fo env st).bind λv ae=>md v ae λn _ _=>(fk env ae).bind λz aG=>(fx env aG).bind λd a8=>Rg n z d a8
def Rh (hu:X.A.units+200<cLine) (ho:ME X Er o fo) (he:ME X Er e fk) (hf:ME X Er f fx) (cg:attributeBase o "get" X.env (eval o X.env)=eval o X.env:=by rfl)
  (eV:((backTo a6 (starEach [e,f] X.env)).all (λx=>!x.1)&&(backToKw a6 (keywordEach [] X.env)).all (λx=>x.1.isSome)&&decide (([e,f]:List Expr).length+([]:List Keyword).length+(if ([]:List Keyword).isEmpty then 0 else 1)<30))=true:=by rfl)
  (cw:(apos.endLine==a6.line)=true:=by rfl) (ht:backTo a6 (starEach [e,f] X.env)=[(false,eval e X.env),(false,eval f X.env)]:=by rfl):ME X Er (.Call (.Attribute o "get" apos) [e,f] [] a6) (kO fo fk fx) :=
 PE.weak (Mt (by omega) ho he hf ⟨cg,eV,cw,ht⟩) fun σ H Q ⟨env,st,ρ,re,rs,h⟩=>⟨env,st,ρ,re,rs,h.then λah H1 x ae e1 s1 h1 v rv=>by
  obtain ⟨n,ks,xs,rfl,hn,h1⟩:=xJ h1
  obtain ⟨a,vs,rfl,ha,k1,k2,k3⟩:=R.refD s1 rv hn
  refine ⟨a,rfl,.inl ⟨_,.inl k1⟩,env,ae,ah,re.ext e1,s1,h1.then λax H2 z aG e2 s2 h2 w rw'=>⟨env,aG,ax,(re.ext e1).ext e2,s2,h2.then λao H3 d a8 e3 s3 h3 dv rd=>?_⟩⟩
  cases z with
  |str z =>
   cases rw'
   obtain ⟨Ri,xs2,fK,h3⟩:=vY (show Out X.K X.mg ao H3 (jv a8 n λks xs=>.ok (((ks.zip xs).lookup z).getD d) a8) (gV X.K X.mg Q) Er from h3)
   obtain ⟨nJ,q1,q2,q3⟩:=s3.addr fK (e3.get (e2.get ha))
   refine ⟨_,xt q1,?_⟩
   cases hq:(Ri.zip xs2).lookup z with
   |none =>
    rw [hq] at h3
    rw [Qy q2.len q3 hq]
    exact Out.now (x:=d) h3 s3 _ rd
   |some y =>
    rw [hq] at h3
    obtain ⟨v,hv,rv⟩:=lW q2 hq
    rw [hv]
    exact Out.now (x:=y) h3 s3 _ rv
  |_=>exact h3.elim⟩
end
end Mi
namespace PySem
namespace Rt
def owner:Manifest.owners.lookup (String.ofList ['d','e','s','r','e','v','e','r'].reverse)=some Manifest.sig_reversed:=by kernel_rfl
def s_next:Slot "reversed" "__next__" "reversed.__next__" :=
 .of (owner := "reversed") (n := "__next__") (by rw [typeLookup_type,builtinLookup_eq_fast];kernel_rfl) (by decide +kernel) (by decide +kernel) (by decide +kernel)
  (by first|exact .inl (by decide +kernel)|exact .inr (by decide +kernel)) (by rw [isSubtype_type];kernel_rfl)
def e_next:entryFor table "reversed.__next__" = some Builtin.«reversed.__next__» := entryFor_of_tree (by kernel_rfl)
def a_next (a:Value):argsOk "reversed.__next__" ⟨[a],[]⟩:=by
 unfold argsOk;rw [signature?_of (id := "reversed.__next__") (n:=['_','_','t','x','e','n','_','_']) (o:=['d','e','s','r','e','v','e','r']) (by kernel_rfl) owner];kernel_rfl
def s_iter:Slot "reversed" "__iter__" "reversed.__iter__" :=
 .of (owner := "reversed") (n := "__iter__") (by rw [typeLookup_type,builtinLookup_eq_fast];kernel_rfl) (by decide +kernel) (by decide +kernel) (by decide +kernel)
  (by first|exact .inl (by decide +kernel)|exact .inr (by decide +kernel)) (by rw [isSubtype_type];kernel_rfl)
def a_iter (a:Value):argsOk "reversed.__iter__" ⟨[a],[]⟩:=by
 unfold argsOk;rw [signature?_of (id := "reversed.__iter__") (n:=['_','_','r','e','t','i','_','_']) (o:=['d','e','s','r','e','v','e','r']) (by kernel_rfl) owner];kernel_rfl
def e_iter:entryFor table "reversed.__iter__" = some Builtin.«dict_keyiterator.__iter__» :=
 entryFor_alias (id' := "dict_keyiterator.__iter__") (by kernel_rfl) (by first|rfl|decide +kernel|(unfold String.splitOn;simp +decide [String.splitOnAux])) (by decide +kernel) (by kernel_rfl)
def Rj:Slot "reversed" "__init__" "object.__init__" :=
 .of (owner := "object") (n := "__init__") (by rw [typeLookup_type,builtinLookup_eq_fast];kernel_rfl) (by decide +kernel) (by decide +kernel) (by decide +kernel)
  (by first|exact .inl (by decide +kernel)|exact .inr (by decide +kernel)) (by rw [isSubtype_type];kernel_rfl)
def called:TypeCalled "reversed" "reversed.__new__" "object.__init__" :=
 ⟨by decide +kernel,by decide +kernel,⟨_,_,F.mro_reversed⟩,F.made_reversed,by decide +kernel,by rw [isSubtype_type];kernel_rfl,Rj⟩
def no_rev:typeLookup (.type "tuple") "__reversed__" = pure none:=by rw [typeLookup_type,builtinLookup_eq_fast];kernel_rfl
def no_dict:isSubtype (.type "tuple") (.type "dict")=pure false:=by rw [isSubtype_type];kernel_rfl
end Rt
def kP (l:Addr) (i:Int):Obj:={ cls:=.type "reversed", data:=.fields #[.ref l,rawInt i] }
def Heap.IsRevT (h:Heap) (a l:Addr) (i:Int):Prop:=∃o,h.get? a=some o/\o.cls=.type "reversed" /\ o.data=.fields #[.ref l,rawInt i]
section
open PyProof.Rows
variable {prog:Program} {w:World} {A:Around} {E:Aa} {s:Shared}
def Heap.IsRevT.typeIs {a l:Addr} {i:Int} (x:s.heap.IsRevT a l i):s.TypeIs (.ref a) "reversed" := let ⟨o,ho,hc,_⟩:=x;⟨o,ho,hc⟩
def Heap.IsRevT.at {h h':Heap}{a l:Addr}{i:Int}(x:h.IsRevT a l i) (e:∀o,h.get? a=some o->h'.get? a=some o):h'.IsRevT a l i:=let ⟨o,ho,r⟩:=x;⟨o,e _ ho,r⟩
def Rk {t:Addr}{items:Array Value}{Q₁:Aa}(ht:IsTup s.heap t items) (qr:(items.size:Int)<2 ^ 63)
  (h:Q₁ (.ref s.heap.objs.size) { s with heap:=s.heap.push (kP t ((items.size:Int)-1)),toks:=s.toks+1+1 }) :
  codeAny (model prog w) A (.call (.builtin "reversed.__new__") ⟨[.type "reversed", .ref t],[]⟩) (wants Q₁ E) s:=by
 refine codeAny_of_tree ?_
 show wpAny _ A.in1 (do checkBuiltinCall "reversed.__new__" ⟨[.type "reversed", .ref t],[]⟩;again (.builtin "reversed.__new__" ⟨[.type "reversed", .ref t],[]⟩)) _ _ s
 refine zu (wpAny_of_eq (F.newCall_reversed_1 _) (ya ⟨plainId_quiet F.plain_reversed_new _,codeAny_builtin F.entry_reversed_new ?_⟩))
 rw [Around.under_plainId F.plain_reversed_new _]
 unfold Builtin.«reversed.__new__»
 refine zu (wpAny_of_eq (newClass_reversed _) ?_)
 try dsimp only
 refine zu (wpAny_of_eq (a:=()) (by first|rfl|kernel_rfl) ?_)
 refine zu (wpAny_of_eq (a:=()) (by first|rfl|kernel_rfl) ?_)
 try dsimp only
 refine zu (wpAny_specialOf ht.typeIs Rt.no_rev ?_)
 try dsimp only
 refine zu ?_
 wp_delta
 refine zu (wpAny_isInstance (b:=false) ht.typeIs Rt.no_dict ?_)
 rw [zQ (by decide)]
 refine zu (wpAny_specialOf ht.typeIs PyProof.Rows.slot_tuple_getitem.lookup ?_)
 dsimp only
 rw [zC (by decide)]
 refine ya ?_
 rw [zQ (by decide)]
 refine zu (PyProof.Rows.len_tuple ht qr ?_)
 refine zu (wpAny_of_eq (a:=some (items.size:Int)) (by rfl) ?_)
 dsimp only
 refine zu ?_
 show wpAny _ _ (newObj (.type "reversed") (.fields #[.ref t,rawInt ((items.size:Int)-1)])) _ _ _
 exact wn (ya h)
def Rm {t:Addr}{items:Array Value}{Q:Aa}(ht:IsTup s.heap t items) (qr:(items.size:Int)<2 ^ 63)
  (h:Q (.ref s.heap.objs.size) { s with heap:=s.heap.push (kP t ((items.size:Int)-1)),toks:=s.toks+1+1 }):wpAny (model prog w) A (call (.type "reversed") [.ref t]) Q E s:=by
 refine callType_codes (Q₁:=λobj am=>am.TypeIs obj "reversed" /\ Q obj am) Rt.called (F.typeCall_reversed_1 _) F.entry_object_init (Rk ht qr ⟨⟨_,yP _ rfl,rfl⟩,h⟩) λobj am ay=>?_
 exact ⟨ay.1,F.args_object_init_2 obj _,object_init_meets Rt.called.init.lookup Rt.called.made (by decide) prog w A.in1 _ am ⟨ay.1,rfl,ay.2⟩⟩
def Rn {it t:Addr}{i:Nat}{items:Array Value}{x:Value}{Q:Option Value->Shared->Prop}(hit:s.heap.IsRevT it t (i:Int)) (ht:IsTup s.heap t items) (hx:items[i]?=some x) (hi:(i:Int)<2 ^ 62)
  (hQ:∀h',h'.IsRevT it t ((i:Int)-1)->Heap.SameBut it s.heap h'->∀tk,Q (some x) { s with heap:=h',toks:=tk }):wpAny (model prog w) A (pyNext (.ref it)) Q E s:=by
 obtain ⟨o,ho,hc,hd⟩:=id hit
 unfold pyNext
 refine zu (wpAny_attempt (wpAny_callSpecial?_slot (name:=Str.ofString "__next__") hit.typeIs Rt.s_next (g_ Rt.s_next hit.typeIs Rt.e_next ?_ (Rt.a_next _))))
 unfold Builtin.«reversed.__next__»
 refine zu (wpAny_of_eq (a:=(Value.ref it,[])) rfl ?_)
 try dsimp only
 refine zu (jc ho hd (x:=.ref t) rfl ?_)
 refine zu (jc ho hd (x:=rawInt (i:Int)) rfl ?_)
 show wpAny _ _ (if (i:Int)<0 then _ else _) _ _ s
 rw [zQ (by omega)]
 refine zu (wpAny_specialOf ht.typeIs PyProof.Rows.slot_tuple_getitem.lookup ?_)
 rw [zQ (by decide)]
 refine zu (wpAny_mkInt ?_)
 have bf:i<items.size:=(Array.getElem?_eq_some_iff.mp hx).1
 have hj:seqIndex? (i:Int) items.size=some i:=by
  unfold seqIndex?
  have n0:¬((i:Int)<0):=by omega
  simp only [zQ n0]
  simp
  exact bf
 refine zu (wpAny_attempt (PyProof.Rows.getItem_tuple (s:={ s with toks:=s.toks+1 }) ht (by omega) (by omega) hj hx ?_))
 dsimp only
 refine zu (jc ho hd (x:=rawInt (i:Int)) rfl ?_)
 show wpAny _ _ (setField (.ref it) 1 (rawInt ((i:Int)-1)) >>= _) _ _ _
 refine zu (wpAny_setField ho hd (by simp) ?_)
 refine ya ⟨x,rfl,ya (hQ _ ?_ (Heap.SameBut.update ..) _)⟩
 exact ⟨_,Heap.get?_update_self _ ho (Obj.isFreed_of_fields (Obj.data_mapFields hd _)),(Obj.cls_mapFields ..).trans hc,by
  rw [Obj.data_mapFields hd];simp⟩
def Ro {it t:Addr}{Q:Option Value->Shared->Prop}(hh:A.handled=none) (hit:s.heap.IsRevT it t (-1))
  (hQ:∀h',Heap.ExtBut it s.heap h'->Q none { s with heap:=h' }):wpAny (model prog w) A (pyNext (.ref it)) Q E s:=by
 obtain ⟨o,ho,hc,hd⟩:=id hit
 unfold pyNext
 refine zu (wpAny_attempt (wpAny_callSpecial?_slot (name:=Str.ofString "__next__") hit.typeIs Rt.s_next (g_ Rt.s_next hit.typeIs Rt.e_next ?_ (Rt.a_next _))))
 unfold Builtin.«reversed.__next__»
 refine zu (wpAny_of_eq (a:=(Value.ref it,[])) rfl ?_)
 try dsimp only
 refine zu (jc ho hd (x:=.ref t) rfl ?_)
 refine zu (jc ho hd (x:=rawInt (-1)) rfl ?_)
 show wpAny _ _ (if (-1:Int)<0 then _ else _) _ _ s
 rw [zC (by decide)]
 refine zu (wpAny_rule ?_)
 refine zu ?_
 wp_delta
 refine zu (wpAny_setField ho hd (by simp) ?_)
 have mm:=Heap.get?_update_self (h:=s.heap) (a:=it) (Obj.mapFields λa=>a.set! 1 (rawInt (-1))) ho (Obj.isFreed_of_fields (Obj.data_mapFields hd _))
 refine wpAny_setField mm (Obj.data_mapFields hd _) (by simp) ?_
 refine zu ?_
 show wpAny _ _ (newExc (.type "StopIteration") [] >>= _) _ _ _
 refine zu ?_
 simp only [newExc,newTuple]
 refine zu (wn ?_ (by size_fits))
 refine zu (m:=firstArgMember _ _) (wpAny_of_eq (a:=Value.none) (by first|rfl|(simp only [firstArgMember];rfl)) ?_)
 refine wn ?_ (by size_fits)
 simp only [raiseNew]
 refine zu (wpAny_handled ?_)
 first|rw [show A.in1.handled=none from hh]|rw [hh]
 refine zu (ya (wpAny_throw ?_))
 refine zu (wpAny_isInstance (T := "StopIteration") (b:=true) ⟨_,yP _ rfl,rfl⟩ isSubtype_stop ?_)
 exact ya (hQ _ λb u hb e=>yl _ (yl _ ((wz _ _ (yM hb)).trans ((wz _ _ (yM hb)).trans e))))
def E9 {it t:Addr}{i:Int}{Q:Aa}(hit:s.heap.IsRevT it t i) (h:Q (.ref it) s):wpAny (model prog w) A (pyIter (.ref it)) Q E s:=by
 refine wpAny_pyIter_slot hit.typeIs Rt.s_iter (g_ Rt.s_iter hit.typeIs Rt.e_iter ?_ (Rt.a_iter _))
 show wpAny _ _ (ret (.ref it)) _ _ s
 exact ya ⟨_,rfl,"reversed", _,hit.typeIs,Rt.s_next.lookup,h⟩
end
end PySem
namespace L2
open PySem PySem.Spec PyProof.Rows PySem.W
def uR (K:Frag) (a:Addr) (xs:List V):It :=
 ⟨λi H=>i<xs.length/\bt K H a xs,λi H x H'=>H'=H/\xs[xs.length-1-i]?=some x,λi H=>i=xs.length⟩
def Rp {P:Program}{w:World}{K:Frag}{tg:Expr}(a it:Addr) (xs:List V):Turn P w K tg (uR K a xs) [it] it (λi h=>h.IsRevT it a ((xs.length:Int)-1-(i:Nat))) where
 mem:=by simp
 obj:=λi h st b hb=>by
  have e:b=it:=by simpa using hb
  subst e
  obtain ⟨o,e,c,d⟩:=st
  exact ⟨o,e,λv z=>by rw [d] at z;cases z⟩
 keep:=λi h h' st k=>st.at λo e=>k it (by simp) o e
 item:=by
  intro X hP hw hK hc i pins s σ H E I hf st hg
  subst hP hw hK
  obtain ⟨hi,hq⟩:=hg
  obtain ⟨its,rv,p,hz⟩:=I.tuple hq
  have bf:xs.length-1-i<xs.length:=by omega
  have hx:xs[xs.length-1-i]?=some (xs[xs.length-1-i]'bf):=yi bf
  obtain ⟨u,hu,ru⟩:=rv.get hx
  obtain ⟨f0,f1,f2,f3,f4,f5⟩:=hf it (by simp)
  have e:(xs.length:Int)-1-(i:Nat)=((xs.length-1-i:Nat):Int):=by omega
  rw [e] at st
  have sl:sizeLine<2 ^ 62:=by decide
  refine Rn st p (x:=u) (by simpa using hu) (by omega) λh' a5 sb tk=>?_
  have I1:Inv X pins σ H { s with heap:=h',toks:=tk }:=I.turned (t':=tk) (λb o hb e=>(sb.2 b hb).trans e) f0 f1 f3 f4 f5
  obtain ⟨o,e1,c,d⟩:=id a5
  have e2:((xs.length-1-i:Nat):Int)-1=(xs.length:Int)-1-((i+1:Nat):Int):=by omega
  rw [e2] at a5
  exact ⟨u,rfl,nk (s:={ s with heap:=h',toks:=tk }) e1 c d (by decide) ⟨_,H,I1,ru,⟨rfl,hx⟩,a5,λb hb=>(hf b hb).1⟩⟩
 done:=by
  intro X hP hw hK hc i pins s σ H E I hf st hg
  subst hP hw hK
  have hg:i=xs.length:=hg
  obtain ⟨f0,f1,f2,f3,f4,f5⟩:=hf it (by simp)
  rw [show (xs.length:Int)-1-(i:Nat) = -1 by omega] at st
  exact Ro (I.ok.hd hc) st λh' eb=>⟨rfl,I.turned (t':=s.toks) (λb o hb e=>eb b o hb e) f0 f1 f3 f4 f5⟩
 self:=λ_ _ _ _ _ st h=>E9 st h
def Rq (K:Frag) (ta:TA):TI:=fun σ H R=>ta σ H λvs H1=>∃a xs,vs=[.ref a]/\bt K H1 a xs/\R (uR K a xs) H1
def Rr {X:Cx} {tg x:Expr} {ta:TA} {p pos:Pos} (hg:Gl X "reversed") (hm:X.mg "reversed" = none) (ha:PA X [x] ta) (hs:starEach [x] X.env=[(false,eval x X.env)]:=by rfl) :
  PI X tg (.Call (.Name "reversed" p) [x] [] pos) (Rq X.K ta):=by
 intro pins s σ H R I h
 refine Call_ (gF I hg hm EA (PyProof.Rows.callWith_type1 (aX (ha pos pins s σ H _ I h) λus s1 ⟨vs,H1,I1,r1,q1⟩=>?_) hs rfl))
 obtain ⟨a,xs,e,hq,q⟩:=q1
 subst e
 obtain ⟨u,rfl,ru⟩:=r1.one
 obtain rfl:u=Value.ref a:=ru
 obtain ⟨its,rv,p1,hz⟩:=I1.tuple hq
 have hl:=rv.length
 have sl:sizeLine<2 ^ 62:=by decide
 have st:(s1.heap.push (kP a ((its.toArray.size:Int)-1))).IsRevT s1.heap.objs.size a ((xs.length:Int)-1-((0:Nat):Int)):=⟨_,yP _ rfl,rfl,by simp [kP,hl]⟩
 refine Rm p1 (by simp;omega) (E9 (s:={ s1 with heap:=s1.heap.push (kP a ((its.toArray.size:Int)-1)),toks:=s1.toks+1+1 }) st ?_)
 refine ⟨s1.heap.objs.size,[s1.heap.objs.size],_,_,H1,rfl,I1.kept (t':=s1.toks+1+1) (λb o e=>yl _ e),Rp a _ xs,st,λb hb=>?_,q⟩
 have e:b=s1.heap.objs.size:=by simpa using hb
 subst e
 exact I1.fpOk (zM _) (I1.hok.fresh (zM _))
end L2
namespace Mi
open PySem L2 PySem.W PySem.Spec
section
variable {X:Cx} {Er:XK} {pos:Pos} {fs:Aj} {gb:Al} {cO:List Stmt}
def qt (fs:Aj) (g:PV->ze->Option ze) (body:Al):Al:=λenv st=>(fs env st).bind λvs ae=>(qm vs ae).bind λxs ae=>forL g body xs.reverse env ae
def Ru {tg:Expr} {p ip:Pos} {x:Expr} {gt:PV->ze->Option ze} (hp:PassesOwn (model X.prog X.w) X.A X.env X.xe) (hc:X.calm=true) (hm:X.mg "reversed" = none) (ha:MA X Er [x] fs) (hg:MG X Er tg gt) (hb:dB X Er cO gb)
  (iM:Gl X "reversed" := by rfl) (bx:starEach [x] X.env=[(false,eval x X.env)]:=by rfl) (hs:∀v,foldedSetIterable (.Call (.Name "reversed" p) [x] [] ip) X.env v=pure v:=by intro _;rfl) :
  MS X Er (.For tg (.Call (.Name "reversed" p) [x] [] ip) cO [] pos) (qt fs gt gb) :=
 PS.weak (oP hp hc (Rr iM hm ha bx) hg hb hs) λD σ H ⟨env,st,ρ,re,rs,h⟩=>⟨env,st,ρ,re,rs,h.then λau H0 vs cI e0 s0 h0 us ru=>by
  obtain ⟨xs,rfl,pf,h0⟩:=EZ h0
  obtain ⟨v,rfl,rv⟩:=ru.one
  obtain ⟨a,lP,rfl,qo,p9⟩:=rv
  have hl:=p9.len
  refine ⟨a,lP,rfl,qo,?_⟩
  refine ⟨λi m σ H=>m+i=xs.length/\∃env st ρ,bg X.K X.mg ρ H env σ/\a4 X.K X.mg ρ H st/\Ext au H0 ρ H/\Out X.K X.mg ρ H (forL gt gb (xs.reverse.drop i) env st) (gS X.K X.mg D) Er,⟨xs.length,rfl,env,cI,au,re.ext e0,s0,Ext.refl,h0⟩,?_⟩
  rintro i m σ H ⟨hm,env,st,ρ,re,rs,ex,h⟩
  by_cases hi:i<xs.length
  ·have hr:i<xs.reverse.length:=by simpa using hi
   have hx:xs.reverse[i]?=some (xs.reverse[i]'hr):=yi hr
   rw [wo hr] at h
   generalize xs.reverse[i]'hr=x at h hx
   have nS:xs[xs.length-1-i]?=some x:=by rw [<-List.getElem?_reverse hi];exact hx
   refine .inr ⟨⟨by rw [<-hl];exact hi,ex.sqT qo⟩,_,λaj H' p'=>⟨m-1,by omega,p'⟩,λv' H' y=>?_⟩
   obtain ⟨e1,y⟩:=y
   subst e1
   obtain ⟨v,hv,rv⟩:=(Rs.ext ex _ p9).get nS
   rw [<-hl,hv] at y
   cases y
   unfold forL at h
   cases hgx:gt x env with
   |none=>simp only [hgx] at h;exact h.elim
   |some bw =>
    simp only [hgx] at h
    refine ⟨x,env,bw,ρ,rv,re,hgx,λaz r1=>⟨bw,st,ρ,r1,rs,Out.then h λao H3 fl a8 e3 s3 h3=>?_⟩⟩
    cases fl with
    |nx e=>exact λaA r4=>⟨by omega,e,a8,ao,r4,s3,ex.trans e3,h3⟩
    |ct e=>exact λaA r4=>⟨by omega,e,a8,ao,r4,s3,ex.trans e3,h3⟩
    |bk e=>exact Out.fl (D:=D) (fl:=.nx e) (E:=Er) h3 s3
    |rt v=>exact Out.fl (D:=D) (fl:=.rt v) (E:=Er) h3 s3
  ·have:i=xs.length:=by omega
   subst this
   rw [hZ (by simp)] at h
   exact .inl ⟨hl,Out.now (x:=Fl.nx env) h rs σ re⟩⟩
end
end Mi
namespace L2
open PySem PySem.Spec PyProof.Rows PySem.W
def Rv (C:Addr) (i j:Nat) (tv:TX) (tsu:TS):TS:=λD σ H=>tv σ H (λv H1=>D.nx (σ.set i (some v)) H1)
 (λc d H1=>c=.ref C/\∀a,H1 a=none->tsu { nx:=λaj H'=>D.nx (aj.set j none) H',rt:=D.rt } (σ.set j (some (.ref a))) (upd H1 a (f9 C d a)))
def Rw {X:Cx}{C:Addr}{i j:Nat}{x n cls:Str}{value:Expr}{tv:TX}{tsu:TS}{b0:Stmt}{cD:List Stmt}{xp ap cp hp pos:Pos}(hN:X.N.Nodup) (hi:X.N[i]?=some x) (hx:Loc X.env.scope x) (hj:X.N[j]?=some n) (hn:X.env.scope.names.lookup n=some .local)
  (hv:PX X value tv) (hg:Gl X cls) (hm:X.mg cls=some (.ref C)) (hC:g0 X.K C) (qu:∀a,cq (X.caught a) (b0::cD) tsu) (bx:X.stack=X.env::X.outer) (dq:X.env.frame=some X.env.locals)
  (gj:swapsWith value (some (.Name x xp)) ap.line X.env=pure false:=by rfl) (hf:X.fn x=true\/X.env.scope.names.lookup x=some .local:=by first|exact .inl rfl|exact .inr rfl|assumption) (dg:(cls==("__debug__" : Str))=false:=by decide) :
  PS X (.Try [.Assign [.Name x xp] value ap] [.ExceptHandler (some (.Name cls cp)) (some n) (b0::cD) hp] [] [] pos) (Rv C i j tv tsu):=by
 intro pins s σ H D I h
 rw [arm_exec_Try]
 refine zu (wpAny_standAt (wpAny_tryStmt_except (wpAny_execs_cons (wpAny_Assign_Name (jn (hv pins s σ H _ _ I h) (λv s1 ⟨y,H1,I1,r1,q1⟩=>nj I1 hN hi hx r1 (λs2 I2=>?_) hf) (λu s1 ⟨a,C',d,H1,eu,I1,Rx,ec,q⟩=>?_)) gj))))
 ·exact wpAny_execs_nil (wpAny_execs_nil ⟨_,H1,I2,q1⟩)
 subst eu
 cases ec
 refine Dm I1 I.ok.frames bx dq Rx λs2 T I2 x2 ne vR oa oT=>vM I2 x2 ne vR oa oT λs3 I3 x3 pH=>?_
 refine wpAny_handleBy_cons (codeAny_handlers_test ?_) (by intro q;cases q)
 refine rh (X:=X.caught a) (Inv.caught I3 a) hg hm ?_ dg
 obtain ⟨⟨nm,q',N,bs,bm,c_,sn,sub,ab,col,dd,k0,k1,k2,k3,k5,hl,ht,_⟩,_⟩:=hC
 have sJ:=I3.kIn _ _ hl
 have cg:bm.contains (.type "BaseException")=true:=(tail_of_in I3.kIn ht).hasType (by decide)
 obtain ⟨oe,vs,he,ki,_⟩:=id x3
 refine wpAny_excMatches_sub_self (h:=s3.heap) (g:=s3.gens) (d:=s3.drawn) (t:=s3.toks) (os:=s3.os) sJ he ki cg ?_
 refine codeAny_handlers_suite_as (vM I3 x3 ne pH oa oT λs4 I4 x4 WB=>?_)
 have I5:=Inv.catch I4 oa x4
 refine nj I5 hN hj (.inl hn) (v:=.ref a) rfl (λs5 I6=>?_) (.inr hn)
 refine jn (qu a pins s5 _ _ _ (Inv.caught I6 a) (q a oa.1)) (λf s6 z=>?_) λ_ _ z=>z.elim
 cases f with
 |next =>
  obtain ⟨aj,H',I7,q7⟩:=z
  exact Dr (Inv.uncaught I.ok I7) hN hj hn λs7 I8=>⟨_,H',I8,q7⟩
 |brk=>obtain ⟨_,_,_,z⟩:=z;exact z.elim
 |cont=>obtain ⟨_,_,_,z⟩:=z;exact z.elim
 |ret u =>
  obtain ⟨v,aj,H',I7,r7,q7⟩:=z
  exact Dr (Inv.uncaught I.ok I7) hN hj hn λs7 I8=>⟨v,_,H',I8,r7,q7⟩
end L2
namespace Mi
open PySem L2 PySem.W PySem.Spec
section
variable {X:Cx} {Er:XK} {pos:Pos}
def mq (i j:Nat) (cn:Str) (fv:Ak) (cD:Al):Al:=λenv st=>match fv env st with
 |.ok x ae=>.ok (.nx (env.set i (some x))) ae
 |.err c ks xs ae=>if c=cn/\ks≠[] then (bC (cD (env.set j (some (.exo c ks xs))) ae)).bind (xw j) else .stuck
 |.stuck=>.stuck
def Ry (i j:Nat) {x n cn:Str}{value:Expr}{fv:Ak}{gs:Al}{b0:Stmt}{cD:List Stmt}{xp ap cp hp:Pos}{C:Addr}(hm:X.mg cn=some (.ref C)) (hC:g0 X.K C) (hv:MX X value fv) (qu:∀a,dB (X.caught a) E0 (b0::cD) gs) (hN:X.N.Nodup)
  (bx:X.stack=X.env::X.outer:=by rfl) (dq:X.env.frame=some X.env.locals:=by rfl) (hi:X.N[i]?=some x:=by rfl) (hx:Loc X.env.scope x:=by first|exact Or.inl rfl|exact Or.inr rfl) (hj:X.N[j]?=some n:=by rfl) (hn:X.env.scope.names.lookup n=some .local:=by rfl) (hg:Gl X cn:=by rfl)
  (gj:swapsWith value (some (.Name x xp)) ap.line X.env=pure false:=by rfl) (hf:X.fn x=true\/X.env.scope.names.lookup x=some .local:=by first|exact .inl rfl|exact .inr rfl|assumption) (dg:(cn==("__debug__" : Str))=false:=by decide) :
  MS X Er (.Try [.Assign [.Name x xp] value ap] [.ExceptHandler (some (.Name cn cp)) (some n) (b0::cD) hp] [] [] pos) (mq i j cn fv gs) :=
 PS.weak (Rw (tsu:=sM X.K X.mg E0 gs) hN hi hx hj hn hv hg hm hC qu bx dq gj hf dg) λD σ H ⟨env,st,ρ,re,rs,h⟩=>by
  refine ⟨env,st,ρ,re,rs,?_⟩
  unfold mq at h
  cases hr:fv env st with
  |ok y ae =>
   rw [hr] at h
   exact λah H1 e1 s1 v rv=>h ah H1 e1 s1 _ ((re.ext e1).set i rv)
  |stuck=>rw [hr] at h;exact h.elim
  |err c ks xs ae =>
   simp only [hr] at h
   obtain ⟨⟨Rz,hk⟩,h2⟩:=Out.ifp h
   subst Rz
   intro ah H1 Cv d e1 s1 xr
   obtain ⟨C',rfl,hm',hd⟩:=xr
   rw [hm] at hm'
   cases hm'
   refine ⟨rfl,λq hq=>?_⟩
   rcases hd with ⟨xA,_⟩|⟨dd,vs,rfl,RA,hR,hl⟩
   ·exact absurd xA hk
   ·have eq:Ext ah H1 ah (upd H1 q (f9 C (some dd) q)):=Ext.new hq
    refine ⟨env.set j (some (.exo c ks xs)),ae,ah,((re.ext e1).ext eq).set j ⟨q,C,dd,vs,rfl,hm,yU,eq.imm _ _ RA rfl,Rs.ext eq xs hR,hl⟩,s1.new hq,wQ (Out.ext h2 (e1.trans eq)) λax H2 fl aG e2 s2 h2=>?_⟩
    cases fl with
    |nx e=>exact λaI r2=>Out.fl (D:=D) (fl:=.nx (e.set j none)) (E:=Er) h2 s2 _ (r2.unset j)
    |rt v=>exact Out.fl (D:=D) (fl:=.rt v) (E:=Er) h2 s2
    |_=>exact h2.elim
def RB (i j:Nat) {x n cn:Str}{value:Expr}{fv:Ak}{gs:Al}{b0:Stmt}{cD:List Stmt}{xp ap cp hp:Pos}(hC:∃C,X.mg cn=some (.ref C)/\g0 X.K C) (hv:MX X value fv) (qu:∀a,dB (X.caught a) E0 (b0::cD) gs) (hN:X.N.Nodup)
  (bx:X.stack=X.env::X.outer:=by rfl) (dq:X.env.frame=some X.env.locals:=by rfl) (hi:X.N[i]?=some x:=by rfl) (hx:Loc X.env.scope x:=by first|exact Or.inl rfl|exact Or.inr rfl) (hj:X.N[j]?=some n:=by rfl) (hn:X.env.scope.names.lookup n=some .local:=by rfl) (hg:Gl X cn:=by rfl)
  (gj:swapsWith value (some (.Name x xp)) ap.line X.env=pure false:=by rfl) (hf:X.fn x=true\/X.env.scope.names.lookup x=some .local:=by first|exact .inl rfl|exact .inr rfl|assumption) (dg:(cn==("__debug__" : Str))=false:=by decide) :
  MS X Er (.Try [.Assign [.Name x xp] value ap] [.ExceptHandler (some (.Name cn cp)) (some n) (b0::cD) hp] [] [] pos) (mq i j cn fv gs):=by
 obtain ⟨C,h1,h2⟩:=hC
 exact Ry i j h1 h2 hv qu hN bx dq hi hx hj hn hg gj hf dg
end
end Mi
abbrev Mi.Av (n:Nat):Option Mi.PV:=some (.ref n)
abbrev Mi.Aw (n:Nat):Option Mi.PV:=some (.int n)
abbrev Mi.At (i:Int):=Mi.mC (.int i)
abbrev Mi.Au (z:PySem.Str):=Mi.mC (.str z)
namespace FK72
open PySem L2 PySem.W Mi
def top (i:Nat):Stmt:=PySem.Challenge.pw_foreknown_k72_what_may_fault_stays.main.body.getD i (.Pass ⟨0,0,0,0⟩)
abbrev zf8:Stmt:=top 84
abbrev E_:Stmt:=top 85
abbrev xZ:Stmt:=top 90
abbrev Fb:Stmt:=top 97
abbrev Fc:Stmt:=top 98
abbrev Fd:Stmt:=top 99
abbrev Fe:Stmt:=top 100
abbrev zf9:Stmt:=top 87
abbrev Ff:Stmt:=top 86
abbrev zga:Stmt:=top 88
abbrev zgb:Stmt:=top 101
abbrev Fg:Stmt:=top 102
abbrev Fh:Stmt:=top 91
abbrev Fi:Stmt:=top 92
abbrev Fj:Stmt:=top 93
abbrev Fn:Stmt:=top 94
abbrev zgc:Stmt:=top 95
abbrev zgd:Stmt:=top 96
abbrev Fo:Stmt:=top 103
abbrev zd8:Stmt:=top 89
abbrev Fp:Stmt:=top 54
abbrev Fq:Stmt:=top 6
abbrev Ft:Stmt:=top 56
abbrev Fu:Stmt:=top 48
abbrev Fv:Stmt:=top 50
abbrev zd9:Stmt:=top 52
abbrev zge:Stmt:=top 63
abbrev Fw:Stmt:=top 68
abbrev Fx:Stmt:=top 74
abbrev Fy:Stmt:=inClass (top 69) 0
abbrev Fz:Stmt:=top 58
abbrev zgf:Stmt:=top 59
abbrev zgg:Stmt:=inClass (top 69) 1
abbrev FA:Stmt:=inClass (top 69) 3
abbrev FC:Stmt:=inClass (top 69) 2
abbrev FE:Stmt:=top 70
abbrev FF:Stmt:=top 47
abbrev FG:Stmt:=top 51
abbrev FH:Stmt:=inClass (top 42) 3
abbrev FI:Stmt:=inClass (top 42) 0
abbrev FJ:Stmt:=top 43
abbrev FK:Stmt:=top 71
abbrev FO:Stmt:=top 72
abbrev FP:Stmt:=top 73
abbrev FQ:Stmt:=top 75
abbrev FR:Stmt:=top 7
abbrev FT:Stmt:=top 64
abbrev FU:Stmt:=top 76
abbrev FV:Stmt:=top 78
abbrev zgh:Stmt:=top 53
abbrev FW:Stmt:=top 49
abbrev FX:Stmt:=inClass (top 79) 0
abbrev FY:Stmt:=inClass (top 79) 3
abbrev FZ:Stmt:=inClass (top 79) 6
abbrev zgi:Stmt:=top 80
abbrev F0:Stmt:=top 60
abbrev F8:Stmt:=top 61
abbrev zgj:Stmt:=top 62
abbrev zgk:Stmt:=top 65
abbrev zgl:Stmt:=top 66
abbrev F9:Stmt:=top 82
abbrev x5:Stmt:=top 104
abbrev zkp:Stmt:=inClass (top 3) 0
def insOf (c:Str):Bool:=decide (c = "Folding")||decide (c = "Host")||decide (c = "Op")
def excOf (c:Str):Bool:=decide (c = "Fault")
abbrev ct_FAULTLESS:Ae:=["same", "kind"]
def isT:IsT where
 isx c:=false
 sub c B :=  none
 subT c n :=  none
 tyC _ _:=none
def zbH:Ae:=["add", "sub", "mul", "div", "rem", "less", "same", "down", "kind", "front", "head", "rest", "many", "item", "put", "field", "set"]
def zbI:Aq:=[.tup [.tup [.str "number", .str "number"],.fn "tell_add"],.tup [.tup [.str "number", .str "number"],.fn "tell_sub"],.tup [.tup [.str "number", .str "number"],.fn "tell_mul"],.tup [.tup [.str "number", .str "number"],.fn "tell_div"],.tup [.tup [.str "number", .str "number"],.fn "tell_rem"],.tup [.tup [.str "number", .str "number"],.fn "tell_less"],.tup [.tup [.str "any", .str "any"],.fn "tell_same"],.tup [.tup [.str "number"],.fn "tell_down"],.tup [.tup [.str "any"],.fn "tell_kind"],.tup [.tup [.str "any", .str "row"],.fn "tell_front"],.tup [.tup [.str "row"],.fn "tell_head"],.tup [.tup [.str "row"],.fn "tell_rest"],.tup [.tup [.str "row"],.fn "tell_many"],.tup [.tup [.str "row", .str "number"],.fn "tell_item"],.tup [.tup [.str "row", .str "number", .str "any"],.fn "tell_put"],.tup [.tup [.str "record", .str "word"],.fn "tell_field"],.tup [.tup [.str "record", .str "word", .str "any"],.fn "tell_set"]]
abbrev zgn:Bool:=true
structure Txt (w:World) (K:Frag) (mg:Ab):Prop where
 f__law_deck:FnF K mg "_law_deck" zf8 ["_law_script"]
 f__law_next:FnF K mg "_law_next" E_ ["_law_deck_here", "_law_many"]
 f__law_name:FnF K mg "_law_name" xZ ["_law_cell", "_law_k"]
 f__law_op:FnF K mg "_law_op" Fb ["_law_k"]
 f__law_picked:FnF K mg "_law_picked" Fc ["_law_number_here", "_law_names"]
 f__law_value_by:FnF K mg "_law_value_by" Fd ["_law_number_here"]
 f__law_atoms:FnF K mg "_law_atoms" Fe ["_law_number_here", "_law_names", "_law_many"]
 f__law_word:FnF K mg "_law_word" zf9 ["_law_deck_here"]
 f__law_number:FnF K mg "_law_number" Ff ["_law_deck_here"]
 f__law_value:FnF K mg "_law_value" zga ["_law_deck_here", "_law_deep"]
 f__law_program:FnF K mg "_law_program" zgb ["_law_script"]
 f__law_used:FnF K mg "_law_used" Fg ["_law_block"]
 f__law_lines:FnF K mg "_law_lines" Fh ["_law_block"]
 f__law_aim:FnF K mg "_law_aim" Fi ["_law_line"]
 f__law_atoms_named:FnF K mg "_law_atoms_named" Fj ["_law_atoms_here", "_law_names"]
 f__law_block_named:FnF K mg "_law_block_named" Fn ["_law_block", "_law_names", "_law_heads"]
 f__law_function_named:FnF K mg "_law_function_named" zgc ["_law_function", "_law_heads"]
 f__law_named:FnF K mg "_law_named" zgd ["_law_program_here"]
 f__law_due:FnF K mg "_law_due" Fo ["_law_program_here"]
 f__law_alike:FnF K mg "_law_alike" zd8 ["_law_found", "_law_due_here"]
 f_functions_by_name:FnF K mg "functions_by_name" Fp ["program"]
 f_turned_round:FnF K mg "turned_round" Fq ["called"]
 f_marked:FnF K mg "marked" Ft ["names"]
 f_lines_of:FnF K mg "lines_of" Fu ["block"]
 f_aim_of:FnF K mg "aim_of" Fv ["line"]
 f_aims_of:FnF K mg "aims_of" zd9 ["block"]
 f_aimed_names:FnF K mg "aimed_names" zge ["functions"]
 f_answer_of:FnF K mg "answer_of" Fw ["function"]
 f_answers_beside:FnF K mg "answers_beside" Fx ["functions", "names"]
 n_Folding:NwF K mg "Folding" "Folding.__init__" Fy ["self", "answers"]
 f_stead_of:FnF K mg "stead_of" Fz ["atom", "steads"]
 f_steads_of:FnF K mg "steads_of" zgf ["atoms", "steads"]
 m_Folding_told_by:MtF K mg "Folding" "told_by" "Folding.told_by" zgg ["self", "step", "atoms"]
 m_Folding_folded_end:MtF K mg "Folding" "folded_end" "Folding.folded_end" FA ["self", "end"]
 m_Folding_folded_block:MtF K mg "Folding" "folded_block" "Folding.folded_block" FC ["self", "block"]
 f_mark_names:FnF K mg "mark_names" FE ["atoms", "used"]
 f_is_step:FnF K mg "is_step" FF ["line"]
 f_atoms_of:FnF K mg "atoms_of" FG ["line"]
 m_Op_never_faults:MtF K mg "Op" "never_faults" "Op.never_faults" FH ["self"]
 n_Op:NwF K mg "Op" "Op.__init__" FI ["self", "word"]
 f_op_of:FnF K mg "op_of" FJ ["word"]
 f_is_idle:FnF K mg "is_idle" FK ["step", "used"]
 f_swept_block:FnF K mg "swept_block" FO ["block", "used"]
 f_folded:FnF K mg "folded" FP ["function", "answers"]
 f_fold_all:FnF K mg "fold_all" FQ ["functions", "names"]
 f_found_from:FnF K mg "found_from" FR ["thing", "called", "before"]
 f_met_names:FnF K mg "met_names" FT ["functions", "main"]
 f_kept:FnF K mg "kept" FU ["functions", "main"]
 f_lone_functions:FnF K mg "lone_functions" FV ["functions", "main"]
 f_steps_of:FnF K mg "steps_of" zgh ["block"]
 f_depth_of:FnF K mg "depth_of" FW ["block"]
 n_Host:NwF K mg "Host" "Host.__init__" FX ["self", "function", "lone"]
 m_Host_may_join:MtF K mg "Host" "may_join" "Host.may_join" FY ["self", "end", "outer"]
 m_Host_joined_block:MtF K mg "Host" "joined_block" "Host.joined_block" FZ ["self", "block", "outer"]
 f_join_all:FnF K mg "join_all" zgi ["functions", "main"]
 f_renamed_step:FnF K mg "renamed_step" F0 ["step", "steads", "named"]
 f_renamed_end:FnF K mg "renamed_end" F8 ["end", "steads", "named"]
 f_renamed_block:FnF K mg "renamed_block" zgj ["block", "steads", "named"]
 f_renamed_function:FnF K mg "renamed_function" zgk ["function", "named"]
 f_renamed:FnF K mg "renamed" zgl ["functions", "main"]
 f_tidied:FnF K mg "tidied" F9 ["program"]
 f_law:FnF K mg "law" x5 ["_law_script"]
 x_Fault:XnF K mg "Fault" "word" "Fault.__init__" zkp
 b_all:mg "all" = none
 b_bool:mg "bool" = none
 b_dict:mg "dict" = none
 b_enumerate:mg "enumerate" = none
 b_int:mg "int" = none
 b_isinstance:mg "isinstance" = none
 b_len:mg "len" = none
 b_list:mg "list" = none
 b_max:mg "max" = none
 b_range:mg "range" = none
 b_reversed:mg "reversed" = none
 b_str:mg "str" = none
 b_tuple:mg "tuple" = none
 b_zip:mg "zip" = none
 ct_FAULTLESS:∃a,mg "FAULTLESS" = some (.ref a)/\∀ρ H,R K mg ρ H (.tup (List.map PV.str ct_FAULTLESS)) (.ref a)
 d_answers:FldF K mg "answers" insOf excOf
 d_depth:FldF K mg "depth" insOf excOf
 d_joined_names:FldF K mg "joined_names" insOf excOf
 d_lone:FldF K mg "lone" insOf excOf
 d_many:FldF K mg "many" insOf excOf
 d_name:FldF K mg "name" insOf excOf
 d_size:FldF K mg "size" insOf excOf
 d_steads:FldF K mg "steads" insOf excOf
 d_taken:FldF K mg "taken" insOf excOf
 d_word:FldF K mg "word" insOf excOf
 is:IsF K mg isT
 kd_OPS:∀X:Cx,X.K=K->X.mg=mg->X.w=w->KdF X "OPS" zbH zbI zgn
section
variable {P:Program} {w:World} {K:Frag} {mg:Ab} {base:Heap}
set_option hygiene false in
local macro_rules
|`(tactic|exact $s:str)=>do
 let ts<-(s.getString.splitOn " ").toArray.mapM λ(w:String)=>do
  let p:=(w.drop 1).toString
  let i:Lean.TSyntax `term:=if p.all Char.isDigit then ⟨(Lean.Syntax.mkNumLit p).raw⟩ else ⟨(Lean.mkIdent p.toName).raw⟩
  match w.toList.headD 'a' with
  |'a'=>`(tactic|refine $i ?_ ?_)
  |'b'=>`(tactic|exact (zd $i))
  |'c'=>`(tactic|exact $i)
  |'d'=>`(tactic|refine $i ?_)
  |'e'=>`(tactic|refine zw ?_ ?_ ?_ ?_)
  |'f'=>`(tactic|exact λ_ _=>rfl)
  |'g'=>`(tactic|exact (zx (zm hr)))
  |'h'=>`(tactic|refine zN ($i T) (hr.mono (by decide)) zK ?_)
  |'i'=>`(tactic|refine zH $i ?_ ?_)
  |'j'=>`(tactic|refine zJ $i ?_ ?_)
  |'k'=>`(tactic|refine zX ($i (zm hr)) ?_ ?_)
  |'l'=>`(tactic|refine yj ?_ ?_ ?_)
  |'m'=>`(tactic|refine $i (yC rfl rfl) rfl ?_ ?_ ?_)
  |'n'=>`(tactic|refine zg ?_ ?_)
  |'o'=>`(tactic|refine zN ($i T) (hr.mono (by omega)) zK ?_)
  |'p'=>`(tactic|exact zl)
  |'q'=>`(tactic|refine yH jr T.b_len jq ?_)
  |'r'=>`(tactic|exact zn)
  |'s'=>`(tactic|refine zN fh (hr.mono (by omega)) $i ?_)
  |'t'=>`(tactic|refine jh j9 T.b_tuple jM ?_)
  |'u'=>`(tactic|refine xI 5 (N:=["_law_cell", "_law_k", "_law_letters", "_law_size", "_law_both", "_law_signs"]) rfl (by exact ⟨rfl,by decide +kernel,by decide +kernel,rfl,by show ∀y:Str×NameKind,y∈_->y.2=NameKind.free->List.lookup y.1 (zG xZ).names=some NameKind.cell;decide +kernel⟩) rfl (by decide +kernel) ?_ ?_ zbK.nd rfl (by first|exact Or.inl rfl|exact Or.inr rfl) (by first|exact .inl rfl|exact .inr rfl|assumption) (by rfl))
  |'v'=>`(tactic|refine zt ?_ ?_)
  |'w'=>`(tactic|refine jW ?_ ?_ ?_ ?_ ?_)
  |'x'=>`(tactic|refine zA ?_)
  |'y'=>`(tactic|intro _ _ _ _ _)
  |'z'=>`(tactic|refine yH (Oc T.is) T.b_isinstance OM ?_)
  |'A'=>`(tactic|refine zN ($i T 3) (hr.mono (by decide)) zK ?_)
  |'B'=>`(tactic|refine zX $i ?_ ?_)
  |'C'=>`(tactic|exact (zm hr))
  |'D'=>`(tactic|refine zN ($i T) (hr.mono (by decide)) zan ?_)
  |'E'=>`(tactic|exact (zd 0))
  |'F'=>`(tactic|refine sg (λc m h=>xW fh h) ?_ (hr.mono (by omega)) zK ?_)
  |'G'=>`(tactic|refine Nn ($i (zm hr)) ?_ ?_)
  |'H'=>`(tactic|refine Ox T.b_range ?_)
  |'I'=>`(tactic|refine Og $i ?_ ?_)
  |'J'=>`(tactic|refine yc ?_)
  |'K'=>`(tactic|refine OB (yC rfl rfl) ?_ ?_)
  |'L'=>`(tactic|refine jh (Qc rfl) T.b_list OR ?_)
  |'M'=>`(tactic|exact ye)
  |'N'=>`(tactic|exact (zd 1))
  |'O'=>`(tactic|exact ym)
  |'P'=>`(tactic|refine yp ?_)
  |'Q'=>`(tactic|refine zN (F_ T 12) (hr.mono (by decide)) zK ?_)
  |'R'=>`(tactic|refine $i ?_ ?_ ?_)
  |'S'=>`(tactic|exact (yR 3 $i))
  |'T'=>`(tactic|refine N0 ($i T) (hr.mono (by decide)) zK ?_)
  |'U'=>`(tactic|exact (zd 2))
  |'V'=>`(tactic|refine N_ $i ?_)
  |'W'=>`(tactic|refine zX (yr (zm hr)) ?_ ?_)
  |'X'=>`(tactic|exact (yR 4 $i))
  |'Y'=>`(tactic|exact (yR 2 $i))
  |'Z'=>`(tactic|exact (Qr (zm hr)))
  |'0'=>`(tactic|refine yH (P7 rfl) T.b_max P8 ?_)
  |'1'=>`(tactic|refine yH (Qs rfl) T.b_all Qt ?_)
  |'2'=>`(tactic|refine sg (λc m h=>xW ($i T 3) h) ?_ (hr.mono (by decide)) zK ?_)
  |'3'=>`(tactic|exact (zd 3))
  |'4'=>`(tactic|refine yO ?_)
  |'5'=>`(tactic|exact yW)
  |'6'=>`(tactic|refine jh PR T.b_str xi ?_)
  |'7'=>`(tactic|refine Rh (zm hr) ?_ ?_ ?_)
  |'8'=>`(tactic|refine zJ yN ?_ ?_)
  |'9'=>`(tactic|refine Np Ny ?_)
  |'!'=>`(tactic|rfl)
  |'#'=>`(tactic|refine Ru (yC rfl rfl) rfl T.b_reversed ?_ ?_ ?_)
  |'$'=>`(tactic|refine $i (yC rfl rfl) rfl T.b_enumerate ?_ ?_ ?_)
  |'%'=>`(tactic|exact wj.nd)
  |'&'=>`(tactic|exact (yR 6 $i))
  |'('=>`(tactic|refine zJ je ?_ ?_)
  |')'=>`(tactic|refine jp ?_)
  |'+'=>`(tactic|exact ⟨rfl,by decide +kernel,by decide +kernel,rfl,by show ∀y:Str×NameKind,y∈_->y.2=NameKind.free->List.lookup y.1 (zG $i).names=some NameKind.cell;decide +kernel⟩)
  |','=>`(tactic|exact ⟨rfl,by decide +kernel,by decide +kernel,by show ∀y:Str×NameKind,y∈_->y.2=NameKind.free->List.lookup y.1 (zG $i).names=some NameKind.cell;decide +kernel⟩)
  |'.'=>`(tactic|first|exact Or.inl rfl|exact Or.inr rfl)
  |'/'=>`(tactic|first|exact .inl rfl|exact .inr rfl|assumption)
  |'*'=>`(tactic|exact ⟨rfl,rfl,rfl,by decide +kernel,rfl,by decide +kernel,by decide +kernel⟩)
  |_=>Lean.Macro.throwUnsupported
 `(tactic|($[$ts]*))
def zbJ:aE ["_law_script", "_law_cells", "_law_deck_here", "_law_k", "_law_cell", "_law_first"] ["_law_script"] (zG zf8):=by exact "*"
def RC:Al :=
  zp (zB 1 (y9 (yt (lV (za 0) fB (dC (At 180)))) (zc yx (za 0) (At 2305843009213693951)))) (zp (zB 2 (jb zj)) (zp (yF (cf (zf (At 180) zj)) (gN 3)
  (zp (zB 4 (At 1))
  (zp (zT (mB (zc j8 (zq yo (zf (za 1) zj)) (At 0)))
  (zB 4 (zc zk (za 1) (zc yx (za 3) (zq yo (zf (za 1) zj)))))
  zW)
  (zp (zB 5 (zc yI (zc yx (za 4) (At 2147483629)) (zc yd (zc yI (At 2) (za 3)) (At 1))))
  (yK (yS yY (za 2) (zc yx (zc yd (zc yd (za 5) (zc yV (za 4) (At 65537))) (zc yI (zc yI (At 7919) (za 3)) (za 3))) (At 2147483647)))))))) (zY (za 2))))
def x6:An:=yb 1 6 (RC)
def zsG (T:Txt w K mg):a7 P w K mg base "_law_deck" 1 x6:=T.f__law_deck.ok (k:=0) zbJ λ_ _ _ _ _ _ _ hr=>by
 exact "v"
 refine Ew 1 (M:=["_law_script", "_law_cells", "_law_deck_here", "_law_k", "~_law_cell", "_law_first"]) rfl (by exact "+zf8") (by exact ⟨rfl,by show ∀p∈List.zip (["_law_script", "_law_cells", "_law_deck_here", "_law_k", "~_law_cell", "_law_first"]:Ae) (["_law_script", "_law_cells", "_law_deck_here", "_law_k", "_law_cell", "_law_first"]:Ae),p.1=p.2\/p.1∉(_:Ae);decide +kernel⟩) (by decide +kernel) ?_ ?_ zbJ.nd rfl (by exact ".") (by exact "/") (by rfl)
 exact "4 Rzfw E czfv dzdL p y ( E p v i2 ) r czbJ.nd v mji H n p r SzbJ.nd v i4 p czbJ.nd v l Bzbt q n N r p x i4 e g N ( 3 q n N r f czbJ.nd O v i5 jwf ( b4 p 8 jwf p 3 p czbJ.nd x dwa awG U ( 8 8 b5 jj7 b4 p jwf jwf p 3 3 p x J U"
def RD:aE ["_law_deck_here", "_law_many"] ["_law_deck_here", "_law_many"] (zG E_):=by exact "*"
def RE:Al :=
  zp (zT (mB (zc zU (zq yo (zf (za 0) zj)) (At 0)))
  (zY (At 0))
  zW) (zY (zc yx (yS EY (za 0) (At 0)) (za 1)))
def jf:An:=yb 2 2 (RE)
def j0 (T:Txt w K mg):a7 P w K mg base "_law_next" 1 jf:=T.f__law_next.ok (k:=0) RD λ_ _ _ _ _ _ _ hr=>by
 exact "v l W q n E r p x J p O x J ( azr9 E p N"
def zbK:aE ["_law_cell", "_law_k", "_law_letters", "_law_size", "_law_both", "_law_signs"] ["_law_cell", "_law_k"] (zG xZ):=by exact "*"
def Ga:Al :=
  zp (zB 5 (y9 (cf (zf (za 3) zj)) (zc zk (za 5) (zc yx (zc yd (zc yd (zc yV (za 1) (At 1024)) (zc yI (zc yI (za 2) (za 2)) (za 0))) (zc yI (za 0) (za 0))) (At 36))))) (zp (zT (mB (zc zU (zc yx (zc yV (za 0) (At 8)) (At 2)) (At 0)))
  (zB 5 (y9 (cf (zf (za 3) zj)) (zc zk (za 5) (zc yx (zc yd (zc yV (za 1) (At 1024)) (zc yI (za 0) (za 0))) (At 36)))))
  zW) (zp (qk (za 5) (At 0) (zc zk (za 2) (zc yx (zc yd (zc yV (za 0) (At 64)) (zc yV (za 1) (At 36))) (At 26)))) (zp (qk (za 5) (zc yd (At 1) (zc yx (zc yV (za 0) (At 16)) (zc jU (za 3) (At 1)))) (zc zk (za 4) (zc yx (zc yd (zc yV (za 0) (At 256)) (za 1)) (At 36)))) (zY (sP (Au "") (za 5))))))
def Gb:Al :=
  zp (zT (ju (mB (zc zU (za 3) (At 1))) (mB (zc oLt (za 1) (At 26))))
  (zY (zc zk (za 2) (zc yx (zc yd (zc yV (za 0) (At 8)) (za 1)) (At 26))))
  zW) (zp (zB 3 (zq ma (zf (za 3) (zf (At 2) zj)))) (zp (zB 4 (zc yd (za 2) (Au "0123456789"))) (Ga)))
def x8:Al :=
  zp (zB 2 (Au "abcdefghijklmnopqrstuvwxyz")) (zp (zB 3 (zc yd (At 1) (zc yx (za 0) (At 8)))) (Gb))
def mw:An:=yb 2 6 (x8)
def zgq (T:Txt w K mg):a7 P w K mg base "_law_name" 1 mw:=T.f__law_name.ok (k:=0) zbK λ_ _ _ _ _ _ _ hr=>by
 exact "v i2 M czbK.nd v i3 8 p ( E p czbK.nd v l djT azah W 3 p dzaK BzdJ N p x J e g U ( 8 jj7 E p N p f O v i3 0 n 3 n p r czbK.nd v i4 8 U M czbK.nd v u H n 3 r y e g b5 ( 8 8 jj7 N p jwf jwf U U E jwf E E p f v l W ( jj7 E p p p x u H n 3 r y e g b5 ( 8 jj7 N p jwf E E p f O v Rzju b5 p e g U ( 8 jj7 E p jj7 N p p f v Rzju b5 8 p ( jj7 E p jwP 3 p e g b4 ( 8 jj7 E p N p f x J azjB M b5"
def zgr:aE ["_law_k", "_law_some"] ["_law_k"] (zG Fb):=by exact "*"
def RF:Al :=
  zp (zB 1 (jb (xB ["add2", "sub2", "mul2", "div2", "rem2", "less2", "down1", "front2", "head1", "rest1", "many1"]))) (zp (zB 1 (zc yd (za 1) (jb (xB ["item2", "put3", "field2", "set3", "same2", "kind1", "same2", "kind1", "same2", "kind1", "same2"])))) (zY (yg (zf (lV (zc zk (za 1) (za 0)) fB (dC (yQ nQ (At 1)))) (zf (zq ql (zf (zc zk (zc zk (za 1) (za 0)) (yQ nQ (At 1))) zj)) zj)))))
def sV:An:=yb 1 2 (RF)
def zsK (T:Txt w K mg):a7 P w K mg base "_law_op" 1 sV:=T.f__law_op.ok (k:=0) zgr λ_ _ _ _ _ _ _ hr=>by
 exact "v i1 ) dzi7"
 decide +kernel
 exact "czgr.nd v i1 8 N ) dzi7"
 decide +kernel
 exact "czgr.nd x J P n Rzfw e g N E f czfv dzdL 9 p n"
 refine jh QR T.b_int xh ?_
 exact "n e g e g N E f 9 p f r r"
def RG:aE ["_law_number_here", "_law_names"] ["_law_number_here", "_law_names"] (zG Fc):=by exact "*"
def RH:Al :=
  zp (zT (mB (zc zU (zc yx (za 0) (At 3)) (At 0)))
  (zY (zc zk (za 1) (zc yx (zc yV (za 0) (At 3)) (zq yo (zf (za 1) zj)))))
  zW) (zY (zc zk (za 1) (zq ma (zf (At 0) (zf (zc jU (zc jU (zq yo (zf (za 1) zj)) (At 1)) (zc yx (zc yV (za 0) (At 3)) (At 5))) zj)))))
def my:An:=yb 2 2 (RH)
def zeb (T:Txt w K mg):a7 P w K mg base "_law_picked" 1 my:=T.f__law_picked.ok (k:=0) RG λ_ _ _ _ _ _ _ hr=>by
 exact "v l W ( E p p x J e g N ( jj7 E p q n N r f O x J e g N 0 n p n jwP jwP q n N r p ( jj7 E p p r f"
def zks:aE ["_law_number_here", "_law_some"] ["_law_number_here"] (zG Fd):=by exact "*"
def RI:Al :=
  zp (zB 1 (jb (zf (zc jU (zc yx (za 0) (At 1999)) (At 999)) (zf (Au "word") (zf (yg zj) (zf (yg (zf (zc yx (za 0) (At 7)) (zf (Au "a") zj))) (zf jB (zf (sF ["a"] [(zc yx (za 0) (At 9))]) (zf (zc jU (zc wO (At 10) (At 18)) (At 1)) (zf (At 0) zj)))))))))) (zY (zc zk (za 1) (zc yx (zc yV (za 0) (At 1999)) (At 8))))
def oj:An:=yb 1 2 (RI)
def zsP (T:Txt w K mg):a7 P w K mg base "_law_value_by" 1 oj:=T.f__law_value_by.ok (k:=0) zks λ_ _ _ _ _ _ _ hr=>by
 exact "v i1 ) n jwP ( E p p n M n P r n P n ( E p n M r n cjN n"
 refine P6 ?_ (by simp) (by decide)
 exact "azrz ( E p czry n jwP jza6 p p p n p r czks.nd x J e g N ( jj7 E p p f"
def zc2:aE ["_law_number_here", "_law_names", "_law_many", "_law_atoms_here", "_law_sure", "_law_k"] ["_law_number_here", "_law_names", "_law_many"] (zG Fe):=by exact "*"
def RJ:Al :=
  zp (zB 3 (jb zj)) (zp (zB 4 (zc yx (za 0) (za 2))) (zp (yF (cf (zf (za 2) zj)) (gN 5)
  (zp (zB 0 (zc yx (zc yd (zc yI (za 0) (At 48271)) (At 11)) (At 2147483647)))
  (zT (jL (mB (zc zU (za 5) (za 4))) (mB (zc zU (zc yx (za 0) (At 5)) (At 1))))
  (yK (yS yY (za 3) (yg (zf (Au "of") (zf (zq my (zf (zc yV (za 0) (At 5)) (zf (za 1) zj))) zj)))))
  (yK (yS yY (za 3) (yg (zf (Au "is") (zf (zq oj (zf (zc yV (za 0) (At 5)) zj)) zj)))))))) (zY (zq jF (zf (za 3) zj)))))
def qv:An:=yb 3 6 (RJ)
def zsR (T:Txt w K mg):a7 P w K mg base "_law_atoms" 2 qv:=T.f__law_atoms.ok (k:=1) zc2 λ_ _ _ _ _ _ _ hr=>by
 exact "v i3 ) r czc2.nd v i4 ( E U czc2.nd v mji H n U r"
 exact (yR 5 zc2.nd)
 exact "v i0 ( 8 jwf E p p p czc2.nd x l djT azai W b5 b4 dzaL W ( E p p x dwa awG 3 P n M n hzeb n jj7 E p n N r r x dwa awG 3 P n M n hzsP n jj7 E p r r x J t n 3 r"
def zec:aE ["_law_deck_here", "_law_letters", "_law_size", "_law_cell"] ["_law_deck_here"] (zG zf9):=by exact "*"
def RK:Al :=
  zp (zB 1 (Au "abcdefghijklmnopqrstuvwxyz")) (zp (zB 2 (zc yd (At 1) (zq jf (zf (za 0) (zf (At 8) zj))))) (zp (zB 3 (zq jf (zf (za 0) (zf (At 1000000007) zj)))) (zY (sP (Au "") (y9 (cf (zf (za 2) zj)) (zc zk (za 2) (zc yx (zc yd (zc yV (za 4) (zc yd (At 1) (zc yI (zc yI (za 0) (za 0)) (za 0)))) (zc yI (za 0) (za 3))) (At 26))))))))
def qw:An:=yb 1 4 (RK)
def zkt (T:Txt w K mg):a7 P w K mg base "_law_word" 2 qw:=T.f__law_word.ok (k:=1) zec λ_ _ _ _ _ _ _ hr=>by
 exact "v i1 M czec.nd v i2 8 p hj0 n E n p r czec.nd v i3 hj0 n E n p r czec.nd x J azjB M"
 refine nW (N:=["_law_deck_here", "_law_letters", "_law_size", "_law_cell"]) rfl (by exact "+zf9") rfl (by decide +kernel) ?_ ?_
 exact "H n U r y e g U ( 8 jj7 b4 8 p jwf jwf E E E jwf E 3 p f"
def zed:aE ["_law_deck_here", "_law_way", "_law_some", "_law_number_here"] ["_law_deck_here"] (zG Ff):=by exact "*"
def RL:Al :=
  zp (zB 1 (zq jf (zf (za 0) (zf (At 6) zj)))) (zp (zT (mB (zc oLt (za 1) (At 2)))
  (zY (zq jf (zf (za 0) (zf (At 10) zj))))
  zW) (zp (zT (mB (zc zU (za 1) (At 2)))
  (zY (zc jU (At 0) (zq jf (zf (za 0) (zf (At 1000) zj)))))
  zW) (zp (zT (mB (zc zU (za 1) (At 3)))
  (zp (zB 2 (jb (zf (zc jU (zc wO (At 10) (At 18)) (At 1)) (zf (zc jU (At 1) (zc wO (At 10) (At 18))) (zf (zc wO (At 10) (At 17)) (zf (zc jU (At 1) (zc wO (At 10) (At 17))) (zf (At 99) (zf (yQ nQ (At 10)) zj))))))))
  (zY (zc zk (za 2) (zq jf (zf (za 0) (zf (At 6) zj))))))
  zW) (zp (zB 3 (zc yd (zc yI (zq jf (zf (za 0) (zf (zc wO (At 10) (At 9)) zj))) (zc wO (At 10) (At 9))) (zq jf (zf (za 0) (zf (zc wO (At 10) (At 9)) zj))))) (zY (zc zk (jb (zf (za 3) (zf (zc jU (At 0) (za 3)) zj))) (zc yx (za 1) (At 2))))))))
def x9:An:=yb 1 4 (RL)
def zsU (T:Txt w K mg):a7 P w K mg base "_law_number" 2 x9:=T.f__law_number.ok (k:=1) zed λ_ _ _ _ _ _ _ hr=>by
 exact "v i1 hj0 n E n p r czed.nd v l BzdJ N p x J hj0 n E n p r O v l W N p x J jwP p hj0 n E n p r O v l W N p v i2 ) n jwP jza6 p p p n jwP p jza6 p p n jza6 p p n jwP p jza6 p p n p n 9 p r czed.nd x J e g U hj0 n E n p r f O v i3 8 jwf hj0 n E n jza6 p p r jza6 p p hj0 n E n jza6 p p r czed.nd x J e g ) n 3 n jwP p 3 r ( N p f"
def zcm:aE ["_law_deck_here", "_law_deep", "_law_way", "_law_record", "_law_k", "_law_word_here"] ["_law_deck_here", "_law_deep"] (zG zga):=by exact "*"
def Gd (mr:An):Al :=
  zp (zT (ju (mB (zc j8 (za 1) (At 0))) (mB (zc zU (za 2) (At 7))))
  (zp (zB 3 jB)
  (zp (yF (cf (zf (zq jf (zf (za 0) (zf (At 4) zj))) zj)) (gN 4)
  (zp (zB 5 (zq qw (zf (za 0) zj)))
  (yL (za 3) (za 5) (zq mr (zf (za 0) (zf (zc jU (za 1) (At 1)) zj))))))
  (zY (za 3))))
  zW) (zY (zq x9 (zf (za 0) zj)))
def Ge (mr:An):Al :=
  zp (zT (ju (mB (zc j8 (za 1) (At 0))) (jL (mB (zc zU (za 2) (At 5))) (mB (zc zU (za 2) (At 6)))))
  (zY (zq jF (zf (y9 (cf (zf (zq jf (zf (za 0) (zf (At 4) zj))) zj)) (zq mr (zf (za 1) (zf (zc jU (za 2) (At 1)) zj)))) zj)))
  zW) (Gd mr)
def Gf (mr:An):Al :=
  zp (zT (jL (mB (zc zU (za 2) (At 3))) (mB (zc zU (za 2) (At 4))))
  (zY (zq qw (zf (za 0) zj)))
  zW) (Ge mr)
def sW (mr:An):Al :=
  zp (zB 2 (zq jf (zf (za 0) (zf (At 8) zj)))) (Gf mr)
def y_ (mr:An):An:=yb 2 6 (sW mr)
def RM (T:Txt w K mg) {k:Nat} (hk:2<=k) {mr:An} (fh:a7 P w K mg base "_law_value" k mr):a7 P w K mg base "_law_value" (k+1) (y_ mr):=T.f__law_value.ok (k:=k+0) zcm λ_ _ _ _ _ _ _ hr=>by
 exact "v i2 oj0 n E n p r czcm.nd v l djT azai W U p dzaL W U p x J ozkt n E r O v l djT azah Bzbt N p dzaK djT azai W U p dzaL W U p x J t n"
 refine p7 (M:=["_law_deck_here", "_law_deep", "_law_way", "_law_record", "~_law_k", "_law_word_here"]) rfl (by exact "+zga") (by exact ⟨rfl,by show ∀p∈List.zip (["_law_deck_here", "_law_deep", "_law_way", "_law_record", "~_law_k", "_law_word_here"]:Ae) (["_law_deck_here", "_law_deep", "_law_way", "_law_record", "_law_k", "_law_word_here"]:Ae),p.1=p.2\/p.1∉(_:Ae);decide +kernel⟩) (by decide +kernel) ?_ ?_
 exact "H n oj0 n E n p r r y szan n N n jwP U p r r O v l djT azah Bzbt N p dzaK W U p v i3 cjN czcm.nd v mji H n oj0 n E n p r r Xzcm.nd v i5 ozkt n E r czcm.nd x w C 3 b5 szK n E n jwP N p r ! x J 3 O x J ozsU n E r"
def ww:Nat->An
 |0=>yb 2 6 yu
 |n+1=>y_ (ww n)
theorem Gg (T:Txt w K mg):∀n,a7 P w K mg base "_law_value" (2+1+1*n) (ww n)
 |0=>T.f__law_value.ok (k:=2) zcm λf aY A outer s H E hr=>iO
 |n+1=>(RM T (by omega) (Gg T n)).mono (by omega)
def wj:aE ["_law_script", "_law_deck_here", "_law_cell", "_law_names", "_law_params", "_law_steps", "_law_at", "_law_number_here", "_law_word_here", "_law_many", "_law_name_here", "_law_end", "_law_way", "_law_other"] ["_law_script"] (zG zgb):=by exact "*"
def Gh:Al :=
  (zY (yg (zf (yg (zf (zq mw (zf (za 2) (zf (At 80) zj))) (zf (za 4) (zf (yg (zf (zq jF (zf (za 5) zj)) (zf (za 11) zj))) zj)))) zj)))
def Gi:Al :=
  zp (zT (mB (zc zU (za 12) (At 1)))
  (zB 11 (yg (zf (Au "give") (zf (yg (zf (Au "is") (zf (zq (ww 4) (zf (za 1) (zf (At 2) zj))) zj))) zj))))
  zW) (zp (zT (mB (zc zU (za 12) (At 2)))
  (zp (zB 13 (yg (zf (Au "give") (zf (yg (zf (Au "of") (zf (zq my (zf (zq jf (zf (za 1) (zf (At 1000) zj))) (zf (za 3) zj))) zj))) zj))))
  (zB 11 (yg (zf (Au "if") (zf (yg (zf (Au "of") (zf (zq my (zf (zq jf (zf (za 1) (zf (At 1000) zj))) (zf (za 3) zj))) zj))) (zf (yg (zf (yg zj) (zf (za 11) zj))) (zf (yg (zf (yg zj) (zf (za 13) zj))) zj)))))))
  zW) (Gh))
def z_:Al :=
  zp (zB 11 (yg (zf (Au "give") (zf (yg (zf (Au "of") (zf (zq my (zf (zq jf (zf (za 1) (zf (At 1000) zj))) (zf (za 3) zj))) zj))) zj)))) (zp (zB 12 (zq jf (zf (za 1) (zf (At 4) zj)))) (Gi))
def RN:Al :=
  zp (zB 1 (zq x6 (zf (za 0) zj))) (zp (zB 2 (zq jf (zf (za 1) (zf (At 1000000007) zj)))) (zp (zB 3 (y9 (cf (zf (zc yd (At 1) (zq jf (zf (za 1) (zf (At 4) zj)))) zj)) (zq mw (zf (za 3) (zf (za 0) zj))))) (zp (zB 4 (zq jF (zf (za 3) zj))) (zp (zB 5 (jb zj)) (zp (yF (yt (lV (za 0) fB (dC (At 57)))) (gN 6)
  (zp (zB 7 (zc yx (zc yd (zc yI (za 6) (At 48271)) (zc yI (At 7919) (zq yo (zf (za 3) zj)))) (At 2147483647)))
  (zp (kI (g2 8 9) (zq sV (zf (zc yx (za 7) (At 22)) zj)))
  (zp (zB 10 (zq mw (zf (za 2) (zf (zq yo (zf (za 3) zj)) zj))))
  (zp (yK (yS yY (za 5) (yg (zf (Au "let") (zf (za 10) (zf (za 8) (zf (zq qv (zf (zc yV (za 7) (At 22)) (zf (za 3) (zf (za 9) zj)))) zj)))))))
  (yK (yS yY (za 3) (za 10)))))))) (z_))))))
def sY:An:=yb 1 14 (RN)
def zkA (T:Txt w K mg):a7 P w K mg base "_law_program" 8 sY:=T.f__law_program.ok (k:=7) wj λ_ _ _ _ _ _ _ hr=>by
 exact "v i1 hzsG n E r % v i2 hj0 n N n p r % v"
 refine xI 3 (N:=["_law_script", "_law_deck_here", "_law_cell", "_law_names", "_law_params", "_law_steps", "_law_at", "_law_number_here", "_law_word_here", "_law_many", "_law_name_here", "_law_end", "_law_way", "_law_other"]) rfl (by exact "+zgb") rfl (by decide +kernel) ?_ ?_ wj.nd rfl (by exact ".") (by exact "/") (by rfl)
 exact "H n 8 p hj0 n N n p r r y Dzgq n 3 n E r v i4 t n 3 r % v i5 ) r % v mji 4 Rzfw E czfv dzdL p &wj.nd v i7 ( 8 jwf b6 p jwf p q n 3 r p % v aziJ"
 exact (xf 8 9 rfl wj.nd)
 exact "hzsK n ( b7 p r v i10 hzgq n U n q n 3 r r % v dwa awG b5 P n M n b10 n b8 n hzsR n jj7 b7 p n 3 n b9 r r x dwa awG 3 b10 v i11 P n M n P n M n hzeb n hj0 n N n p r n 3 r r r % v i12 hj0 n N n p r % v l W b12 p x i11 P n M n P n M n"
 refine zN (Gg T 4) (hr.mono (by decide)) zK ?_
 exact "n N n p r r r % O v l W b12 p v i13 P n M n P n M n hzeb n hj0 n N n p r n 3 r r r % x i11 P n M n P n M n hzeb n hj0 n N n p r n 3 r r n P n P r n b11 r n P n P r n b13 r r % O x J P n P n hzgq n U n p r n b4 n P n t n b5 r n b11 r r r"
def zcn:aE ["_law_block", "_law_used_here", "_law_end", "_law_atoms_here", "_law_atom"] ["_law_block"] (zG Fg):=by exact "*"
def Gj:Al :=
  zp (yF (yt (za 3)) (gN 4)
  (zT (mB (zc zU (zc zk (za 4) (At 0)) (Au "of")))
  (yL (za 1) (zc zk (za 4) (At 1)) (mC (.bl true)))
  zW)) (zY (za 1))
def Gk:Al :=
  zp (zB 1 jB) (zp (zB 2 (zc zk (za 0) (At 1))) (zp (zB 3 (jb (zf (zc zk (za 2) (At 1)) zj))) (zp (zT (mB (zc zU (zc zk (za 2) (At 0)) (Au "if")))
  (zB 3 (jb (zf (zc zk (za 2) (At 1)) (zf (zc zk (zc zk (zc zk (za 2) (At 2)) (At 1)) (At 1)) (zf (zc zk (zc zk (zc zk (za 2) (At 3)) (At 1)) (At 1)) zj)))))
  zW) (Gj))))
def Ai:An:=yb 1 5 (Gk)
def zsX (T:Txt w K mg):a7 P w K mg base "_law_used" 1 Ai:=T.f__law_used.ok (k:=0) zcn λ_ _ _ _ _ _ _ hr=>by
 exact "v i1 cjN czcn.nd v i2 e g E p f czcn.nd v i3 ) n e g U p f r czcn.nd v l W e g U p f M x i3 ) n e g U p f n e g e g e g U p f p f p f n e g e g e g U p f p f p f r czcn.nd O v mji 4 3 Xzcn.nd x l W e g b4 p f M x w C N e g b4 p f cza4 ! O x J N"
def zc5:aE ["_law_block", "_law_rows", "_law_waiting"] ["_law_block"] (zG Fh):=by exact "*"
def Gm:Al :=
  (zY (za 1))
def Gn:Al :=
  zp (zB 1 (jb zj)) (zp (zB 2 (jb (zf (za 0) zj))) (zp (kJ (mB (zc j8 (zq yo (zf (za 2) zj)) (At 0)))
  (zp (zB 0 (yQ sv (za 2)))
  (zp (zB 1 (zc yd (zc yd (za 1) (zq jO (zf (zc zk (za 0) (At 0)) zj))) (jb (zf (zc zk (za 0) (At 1)) zj))))
  (zT (mB (zc zU (zc zk (zc zk (za 0) (At 1)) (At 0)) (Au "if")))
  (zp (yK (yS yY (za 2) (zc zk (zc zk (za 0) (At 1)) (At 3))))
  (yK (yS yY (za 2) (zc zk (zc zk (za 0) (At 1)) (At 2)))))
  zW)))) (Gm)))
def qx:An:=yb 1 3 (Gn)
def zkF (T:Txt w K mg):a7 P w K mg base "_law_lines" 1 qx:=T.f__law_lines.ok (k:=0) zc5 λ_ _ _ _ _ _ _ hr=>by
 exact "v i1 ) r czc5.nd v i2 ) n E r czc5.nd v K Bzbt q n U r p v i0 dzrf U czc5.nd v i1 8 8 N L n e g E p f r ) n e g E p f r czc5.nd x l W e g e g E p f p f M v dwa awG U e g e g E p f p f x dwa awG U e g e g E p f p f O x J N"
def RO:aE ["_law_line"] ["_law_line"] (zG Fi):=by exact "*"
def RP:Al :=
  zp (zT (mB (zc zU (zc zk (za 0) (At 0)) (Au "call")))
  yu
  zW) (zp (zT (mB (zc zU (zc zk (za 0) (At 0)) (Au "go")))
  yu
  zW) (zY (mC .non)))
def sZ:An:=yb 1 1 (RP)
def zs0 (T:Txt w K mg):a7 P w K mg base "_law_aim" 1 sZ:=T.f__law_aim.ok (k:=0) RO λ_ _ _ _ _ _ _ hr=>by
 exact "v l W e g E p f M x 5 O v l W e g E p f M x 5 O x J czaI"
def zeh:aE ["_law_atoms_here", "_law_names", "_law_found", "_law_atom"] ["_law_atoms_here", "_law_names"] (zG Fj):=by exact "*"
def RQ:Al :=
  zp (zB 2 (jb zj)) (zp (yF (yt (za 0)) (gN 3)
  (zp (zT (mB (zc zU (zc zk (za 3) (At 0)) (Au "of")))
  (zB 3 (yg (zf (Au "of") (zf (zc zk (za 1) (zc zk (za 3) (At 1))) zj))))
  zW)
  (yK (yS yY (za 2) (za 3))))) (zY (zq jF (zf (za 2) zj))))
def mz:An:=yb 2 4 (RQ)
def zgw (T:Txt w K mg):a7 P w K mg base "_law_atoms_named" 1 mz:=T.f__law_atoms_named.ok (k:=0) zeh λ_ _ _ _ _ _ _ hr=>by
 exact "v i2 ) r czeh.nd v mji 4 E Szeh.nd v l W e g 3 p f M x i3 P n M n e g N e g 3 p f f r czeh.nd O x dwa awG U 3 x J t n U r"
def zaq:aE ["_law_block", "_law_names", "_law_heads", "_law_steps", "_law_step", "_law_word_here", "_law_end", "_law_one", "_law_other"] ["_law_block", "_law_names", "_law_heads"] (zG Fn):=by exact "*"
def Gp (mr:An):Al :=
  zp (zT (mB (zc zU (zc zk (za 6) (At 0)) (Au "give")))
  (zB 6 (yg (zf (Au "give") (zf (zc zk (zq mz (zf (yg (zf (zc zk (za 6) (At 1)) zj)) (zf (za 1) zj))) (At 0)) zj))))
  (zT (mB (zc zU (zc zk (za 6) (At 0)) (Au "go")))
  yu
  (zT (mB (zc zU (zc zk (za 6) (At 0)) (Au "if")))
  (zp (zB 7 (zq mr (zf (zc zk (za 6) (At 2)) (zf (za 1) (zf (za 2) zj)))))
  (zp (zB 8 (zq mr (zf (zc zk (za 6) (At 3)) (zf (za 1) (zf (za 2) zj)))))
  (zB 6 (yg (zf (Au "if") (zf (zc zk (zq mz (zf (yg (zf (zc zk (za 6) (At 1)) zj)) (zf (za 1) zj))) (At 0)) (zf (za 7) (zf (za 8) zj))))))))
  zW))) (zY (yg (zf (zq jF (zf (za 3) zj)) (zf (za 6) zj))))
def Gq (mr:An):Al :=
  zp (zB 3 (jb zj)) (zp (yF (yt (zc zk (za 0) (At 0))) (gN 4)
  (zp (zB 5 (zc zk (za 4) (At 2)))
  (zp (zT (mB (zc zU (zc zk (za 4) (At 0)) (Au "call")))
  yu
  zW)
  (yK (yS yY (za 3) (yg (zf (zc zk (za 4) (At 0)) (zf (zc zk (za 1) (zc zk (za 4) (At 1))) (zf (za 5) (zf (zq mz (zf (zc zk (za 4) (At 3)) (zf (za 1) zj))) zj)))))))))) (zp (zB 6 (zc zk (za 0) (At 1))) (Gp mr)))
def tf (mr:An):An:=yb 3 9 (Gq mr)
def RS (T:Txt w K mg) {k:Nat} (hk:1<=k) {mr:An} (fh:a7 P w K mg base "_law_block_named" k mr):a7 P w K mg base "_law_block_named" (k+1) (tf mr):=T.f__law_block_named.ok (k:=k+0) zaq λ_ _ _ _ _ _ _ hr=>by
 exact "v i3 ) r czaq.nd v mji 4 e g E p f Xzaq.nd v i5 e g b4 p f czaq.nd v l W e g b4 p f M x 5 O x dwa awG 3 P n e g b4 p f n e g N e g b4 p f f n b5 n ozgw n e g b4 p f n N r r v i6 e g E p f czaq.nd v l W e g b6 p f M x i6 P n M n e g ozgw n P n e g b6 p f r n N r p f r czaq.nd x l W e g b6 p f M x 5 x l W e g b6 p f M v i7 szK n e g b6 p f n N n U r czaq.nd v i8 szK n e g b6 p f n N n U r czaq.nd x i6 P n M n e g ozgw n P n e g b6 p f r n N r p f n b7 n b8 r czaq.nd O x J P n t n 3 r n b6 r"
def kQ:Nat->An
 |0=>yb 3 9 yu
 |n+1=>tf (kQ n)
theorem zkI (T:Txt w K mg):∀n,a7 P w K mg base "_law_block_named" (1+1+1*n) (kQ n)
 |0=>T.f__law_block_named.ok (k:=1) zaq λf aY A outer s H E hr=>iO
 |n+1=>(RS T (by omega) (zkI T n)).mono (by omega)
def zc7:aE ["_law_function", "_law_heads", "_law_names", "_law_param", "_law_line", "_law_params"] ["_law_function", "_law_heads"] (zG zgc):=by exact "*"
def RT:Al :=
  zp (zB 2 jB) (zp (yF (yt (zc zk (za 0) (At 1))) (gN 3)
  (yL (za 2) (za 3) (zc yd (Au "v") (zq wR (zf (zq yo (zf (za 2) zj)) zj))))) (zp (yF (yt (zq qx (zf (zc zk (za 0) (At 2)) zj))) (gN 4)
  (zT (jL (mB (zc zU (zc zk (za 4) (At 0)) (Au "let"))) (mB (zc zU (zc zk (za 4) (At 0)) (Au "call"))))
  (yL (za 2) (zc zk (za 4) (At 1)) (zc yd (Au "v") (zq wR (zf (zq yo (zf (za 2) zj)) zj))))
  zW)) (zp (zB 5 (zq jF (zf (y9 (yt (zc zk (za 0) (At 1))) (zc zk (za 3) (za 0))) zj))) (zY (yg (zf (zc zk (za 1) (zc zk (za 0) (At 0))) (zf (za 5) (zf (zq (kQ 3) (zf (zc zk (za 0) (At 2)) (zf (za 2) (zf (za 1) zj)))) zj))))))))
def tj:An:=yb 2 6 (RT)
def zs4 (T:Txt w K mg):a7 P w K mg base "_law_function_named" 6 tj:=T.f__law_function_named.ok (k:=5) zc7 λ_ _ _ _ _ _ _ hr=>by
 exact "v i2 cjN czc7.nd v mji 4 e g E p f Szc7.nd x w C U 3 8 M 6 n q n U r r ! v mji 4 hzkF n e g E p f r Xzc7.nd x l djT azai W e g b4 p f M dzaL W e g b4 p f M x w C U e g b4 p f 8 M 6 n q n U r r ! O v i5 t n"
 refine p7 (M:=["_law_function", "_law_heads", "_law_names", "~_law_param", "_law_line", "_law_params"]) rfl (by exact "+zgc") (by exact ⟨rfl,by show ∀p∈List.zip (["_law_function", "_law_heads", "_law_names", "~_law_param", "_law_line", "_law_params"]:Ae) (["_law_function", "_law_heads", "_law_names", "_law_param", "_law_line", "_law_params"]:Ae),p.1=p.2\/p.1∉(_:Ae);decide +kernel⟩) (by decide +kernel) ?_ ?_
 exact "4 e g E p f y e g 3 E f r czc7.nd x J P n e g N e g E p f f n b5 n AzkI n e g E p f n U n N r r"
def zar:aE ["_law_program_here", "_law_functions", "_law_function", "_law_met", "_law_at", "_law_line", "_law_aim_here", "_law_heads", "_law_name_here"] ["_law_program_here"] (zG zgd):=by exact "*"
def RU:Al :=
  zp (zB 1 jB) (zp (yF (yt (za 0)) (gN 2)
  (yL (za 1) (zc zk (za 2) (At 0)) (za 2))) (zp (zB 3 (jb (zf (zc zk (zc zk (za 0) (At 0)) (At 0)) zj))) (zp (zB 4 (At 0)) (zp (kJ (mB (zc oLt (za 4) (zq yo (zf (za 3) zj))))
  (zp (yF (yt (zq qx (zf (zc zk (zc zk (za 1) (zc zk (za 3) (za 4))) (At 2)) zj))) (gN 5)
  (zp (zB 6 (zq sZ (zf (za 5) zj)))
  (zT (ju (mB (zc wS (za 6) (mC .non))) (mB (zc (yA true) (za 6) (za 3))))
  (yK (yS yY (za 3) (za 6)))
  zW)))
  (zB 4 (zc yd (za 4) (At 1))))) (zp (zB 7 jB) (zp (yF (yt (za 3)) (gN 8)
  (yL (za 7) (za 8) (zc yd (Au "q") (zq wR (zf (zq yo (zf (za 7) zj)) zj))))) (zY (zq jF (zf (y9 (yt (za 3)) (zq tj (zf (zc zk (za 2) (za 0)) (zf (za 8) zj)))) zj)))))))))
def As:An:=yb 1 9 (RU)
def zs6 (T:Txt w K mg):a7 P w K mg base "_law_named" 7 As:=T.f__law_named.ok (k:=6) zar λ_ _ _ _ _ _ _ hr=>by
 exact "v i1 cjN czar.nd v mji 4 E Yzar.nd x w C N e g U p f U ! v i3 ) n e g e g E p f p f r czar.nd v i4 p czar.nd v K BzdJ b4 q n 3 r v mji 4 hzkF n e g e g N e g 3 b4 f f p f r"
 exact (yR 5 zar.nd)
 exact "v i6 hzs0 n b5 r czar.nd x l djT azah BzdY b6 czaI dzaK kzcS b6 3 x dwa awG 3 b6 O x i4 8 b4 p czar.nd v i7 cjN czar.nd v mji 4 3"
 exact (yR 8 zar.nd)
 exact "x w C b7 b8 8 M 6 n q n b7 r r ! x J t n"
 refine p7 (M:=["_law_program_here", "_law_functions", "_law_function", "_law_met", "_law_at", "_law_line", "_law_aim_here", "_law_heads", "~_law_name_here"]) rfl (by exact "+zgd") (by exact ⟨rfl,by show ∀p∈List.zip (["_law_program_here", "_law_functions", "_law_function", "_law_met", "_law_at", "_law_line", "_law_aim_here", "_law_heads", "~_law_name_here"]:Ae) (["_law_program_here", "_law_functions", "_law_function", "_law_met", "_law_at", "_law_line", "_law_aim_here", "_law_heads", "_law_name_here"]:Ae),p.1=p.2\/p.1∉(_:Ae);decide +kernel⟩) (by decide +kernel) ?_ ?_
 exact "4 3 y Dzs4 n e g U E f n b8 r r"
def zco:aE ["_law_program_here", "_law_name_here", "_law_params", "_law_block", "_law_used_here", "_law_steps", "_law_step", "_law_atom"] ["_law_program_here"] (zG Fo):=by exact "*"
def RW:Al :=
  zp (kI (g3 1 2 3) (zc zk (za 0) (At 0))) (zp (zB 4 (zq Ai (zf (za 3) zj))) (zp (zB 5 (jb zj)) (zp (qt (zf (zc zk (za 3) (At 0)) zj) (gN 6)
  (zT (jL (mB (zc (yA false) (zc zk (za 6) (At 1)) (za 4))) (ju (mB (zc jV (zc zk (za 6) (At 2)) (Au "same"))) (mB (zc jV (zc zk (za 6) (At 2)) (Au "kind")))))
  (zp (yK (yS yY (za 5) (za 6)))
  (yF (yt (zc zk (za 6) (At 3))) (gN 7)
  (zT (mB (zc zU (zc zk (za 7) (At 0)) (Au "of")))
  (yL (za 4) (zc zk (za 7) (At 1)) (mC (.bl true)))
  zW)))
  zW)) (zY (zq As (zf (yg (zf (yg (zf (za 1) (zf (za 2) (zf (yg (zf (zq jF (zf (sC (za 5) (dC (yQ nQ (At 1)))) zj)) (zf (zc zk (za 3) (At 1)) zj))) zj)))) zj)) zj))))))
def Ax:An:=yb 1 8 (RW)
def zs8 (T:Txt w K mg):a7 P w K mg base "_law_due" 8 Ax:=T.f__law_due.ok (k:=7) zco λ_ _ _ _ _ _ _ hr=>by
 exact "v aziJ"
 exact (Oj 1 2 3 rfl zco.nd)
 exact "e g E p f v i4 hzsX n 3 r czco.nd v i5 ) r czco.nd v # n e g 3 p f r &zco.nd x l djT azai kzbA e g b6 p f b4 dzaL djT azah kzca e g b6 p f M dzaK kzca e g b6 p f M v dwa awG b5 b6 x mji 4 e g b6 p f"
 exact (yR 7 zco.nd)
 exact "x l W e g b7 p f M x w C b4 e g b7 p f cza4 ! O O x J hzs6 n P n P n N n U n P n t n azrp b5 dzdL 9 p r n e g 3 p f r r r r"
def Gr:aE ["_law_found", "_law_due_here"] ["_law_found", "_law_due_here"] (zG zd8):=by exact "*"
def RX (mr:An):Al :=
  zp (zT (mB (zq (gh isT) (zf (za 1) (zf (mC (.ty "int")) zj))))
  (zY (gK (zq (gh isT) (zf (za 0) (zf (mC (.ty "int")) zj))) (gK (r6 (zq (gh isT) (zf (za 0) (zf (mC (.ty "bool")) zj)))) (zc zU (za 0) (za 1)))))
  zW) (zp (zT (mB (zq (gh isT) (zf (za 1) (zf (mC (.ty "str")) zj))))
  (zY (gK (zq (gh isT) (zf (za 0) (zf (mC (.ty "str")) zj))) (zc zU (za 0) (za 1))))
  zW) (zp (zT (mB (zq (gh isT) (zf (za 1) (zf (mC (.ty "tuple")) zj))))
  (zp (zT (jL (iF (mB (zq (gh isT) (zf (za 0) (zf (mC (.ty "tuple")) zj))))) (mB (zc jV (zq yo (zf (za 0) zj)) (zq yo (zf (za 1) zj)))))
  (zY (mC (.bl false)))
  zW)
  (zY (zq mf (zf (xN (xg (zf (za 0) (zf (za 1) zj))) (zq mr (zf (za 0) (zf (za 1) zj)))) zj))))
  zW) (zp (zT (jL (iF (mB (zq (gh isT) (zf (za 0) (zf (mC (.ty "dict")) zj))))) (mB (zc jV (zq yo (zf (za 0) zj)) (zq yo (zf (za 1) zj)))))
  (zY (mC (.bl false)))
  zW) (zY (zq mf (zf (xM (za 1) (gK (zc (yA false) (za 0) (za 1)) (zq mr (zf (zc zk (za 1) (za 0)) (zf (zc jP (za 2) (za 0)) zj))))) zj))))))
def qy (mr:An):An:=yb 2 2 (RX mr)
def RY (T:Txt w K mg) {k:Nat} (hk:1<=k) {mr:An} (fh:a7 P w K mg base "_law_alike" k mr):a7 P w K mg base "_law_alike" (k+1) (qy mr):=T.f__law_alike.ok (k:=k+0) Gr λ_ _ _ _ _ _ _ hr=>by
 exact "v l dwN z n N n"
 exact (kG T.b_int xh)
 exact "r x J azb8 z n E n"
 exact (kG T.b_int xh)
 exact "r azb8 dzpC z n E n"
 exact (kG T.b_bool OO)
 exact "r dzdF Gyr E N O v l dwN z n N n"
 exact (kG T.b_str xi)
 exact "r x J azb8 z n E n"
 exact (kG T.b_str xi)
 exact "r dzdF Gyr E N O v l dwN z n N n"
 exact (kG T.b_tuple jM)
 exact "r v l djT azai dzcJ dwN z n E n"
 exact (kG T.b_tuple jM)
 exact "r dzaL kzca q n E r q n N r x J cza4 O x J 1 n"
 refine Qw (N:=["_law_found", "_law_due_here"]) rfl (by exact ",zd8") rfl (by decide +kernel) ?_ ?_
 refine OA T.b_zip ?_
 exact "n E n N r y szan n E n N r r O v l djT azai dzcJ dwN z n E n"
 exact (kG T.b_dict OQ)
 exact "r dzaL kzca q n E r q n N r x J cza4 O x J 1 n"
 refine Qp (N:=["_law_found", "_law_due_here"]) rfl (by exact "+zd8") rfl (by decide +kernel) ?_ ?_
 exact "N y azb8 GzbA E N dzdF szan n e g N E f n e Z U E f r r"
def mD:Nat->An
 |0=>yb 2 2 yu
 |n+1=>qy (mD n)
theorem F_ (T:Txt w K mg):∀n,a7 P w K mg base "_law_alike" (1+1+1*n) (mD n)
 |0=>T.f__law_alike.ok (k:=1) Gr λf aY A outer s H E hr=>iO
 |n+1=>(RY T (by omega) (F_ T n)).mono (by omega)
def zgz:aE ["program", "functions", "function"] ["program"] (zG Fp):=by exact "*"
def RZ:Al :=
  zp (zB 1 jB) (zp (yF (yt (za 0)) (gN 2)
  (yL (za 1) (zc zk (za 2) (At 0)) (za 2))) (zY (za 1)))
def tm:An:=yb 1 3 (RZ)
def ztc (T:Txt w K mg):a7 P w K mg base "functions_by_name" 1 tm:=T.f_functions_by_name.ok (k:=0) zgz λ_ _ _ _ _ _ _ hr=>by
 exact "v i1 cjN czgz.nd v mji 4 E Yzgz.nd x w C N e g U p f U ! x J N"
def zc9:aE ["called", "callers", "thing", "there"] ["called"] (zG Fq):=by exact "*"
def R0:Al :=
  zp (zB 1 jB) (zp (iQ (za 0) (gN 2)
  (yL (za 1) (za 2) (jb zj))) (zp (iQ (za 0) (gN 2)
  (yF (yt (zc jP (za 0) (za 2))) (gN 3)
  yu)) (zY (za 1))))
def Ay:An:=yb 1 4 (R0)
def zte (T:Txt w K mg):a7 P w K mg base "turned_round" 1 Ay:=T.f_turned_round.ok (k:=0) zc9 λ_ _ _ _ _ _ _ hr=>by
 exact "v i1 cjN czc9.nd v mzch E Yzc9.nd x w C N U ) r ! v mzch E Yzc9.nd x mji 4 e Z E U f Szc9.nd x 5 x J N"
def zgB:aE ["names", "marks", "name"] ["names"] (zG Ft):=by exact "*"
def R3:Al :=
  zp (zB 1 jB) (zp (yF (yt (za 0)) (gN 2)
  (yL (za 1) (za 2) (mC (.bl true)))) (zY (za 1)))
def iX:An:=yb 1 3 (R3)
def zgC (T:Txt w K mg):a7 P w K mg base "marked" 1 iX:=T.f_marked.ok (k:=0) zgB λ_ _ _ _ _ _ _ hr=>by
 exact "v i1 cjN czgB.nd v mji 4 E YzgB.nd x w C N U cza4 ! x J N"
def zem:aE ["block", "end", "lines"] ["block"] (zG Fu):=by exact "*"
def R6 (mr:An):Al :=
  zp (zB 1 (zc zk (za 0) (At 1))) (zp (zB 2 (zc yd (zc zk (za 0) (At 0)) (yg (zf (za 1) zj)))) (zp (zT (mB (zc zU (zc zk (za 1) (At 0)) (Au "if")))
  (zY (zc yd (zc yd (za 2) (zq mr (zf (zc zk (za 1) (At 2)) zj))) (zq mr (zf (zc zk (za 1) (At 3)) zj))))
  zW) (zY (za 2))))
def tq (mr:An):An:=yb 1 3 (R6 mr)
def R8 (T:Txt w K mg) {k:Nat} (hk:1<=k) {mr:An} (fh:a7 P w K mg base "lines_of" k mr):a7 P w K mg base "lines_of" (k+1) (tq mr):=T.f_lines_of.ok (k:=k+0) zem λ_ _ _ _ _ _ _ hr=>by
 exact "v i1 e g E p f czem.nd v i2 8 e g E p f P n N r czem.nd v l W e g N p f M x J 8 8 U szK n e g N p f r szK n e g N p f r O x J U"
def gP:Nat->An
 |0=>yb 1 3 yu
 |n+1=>tq (gP n)
theorem zeo (T:Txt w K mg):∀n,a7 P w K mg base "lines_of" (1+1+1*n) (gP n)
 |0=>T.f_lines_of.ok (k:=1) zem λf aY A outer s H E hr=>iO
 |n+1=>(R8 T (by omega) (zeo T n)).mono (by omega)
def R9:aE ["line"] ["line"] (zG Fv):=by exact "*"
def R_:Al :=
  zp (zT (mB (zc zU (zc zk (za 0) (At 0)) (Au "call")))
  yu
  zW) (zp (zT (mB (zc zU (zc zk (za 0) (At 0)) (Au "go")))
  yu
  zW) (zY (mC .non)))
def tu:An:=yb 1 1 (R_)
def ztk (T:Txt w K mg):a7 P w K mg base "aim_of" 1 tu:=T.f_aim_of.ok (k:=0) R9 λ_ _ _ _ _ _ _ hr=>by
 exact "v l W e g E p f M x 5 O v l W e g E p f M x 5 O x J czaI"
def Gs:aE ["block", "aims"] ["block"] (zG zd9):=by exact "*"
def Sa:Al :=
  zp (zB 1 (y9 (yt (zq (gP 3) (zf (za 0) zj))) (zq tu (zf (za 0) zj)))) (zY (zq jF (zf (iT (yt (za 1)) (mB (zc wS (za 0) (mC .non))) (za 0)) zj)))
def mE:An:=yb 1 2 (Sa)
def zkL (T:Txt w K mg):a7 P w K mg base "aims_of" 6 mE:=T.f_aims_of.ok (k:=5) Gs λ_ _ _ _ _ _ _ hr=>by
 exact "v"
 refine xI 1 (N:=["block", "aims"]) rfl (by exact "+zd9") rfl (by decide +kernel) ?_ ?_ Gs.nd rfl (by exact ".") (by exact "/") (by rfl)
 exact "4 Azeo n E r y Dztk n E r x J t n"
 refine EO (N:=["block", "aims"]) rfl (by exact ",zd9") rfl (by decide +kernel) ?_ ?_ ?_
 exact "4 N y BzdY E czaI y E r"
def zgD:aE ["functions", "aimed", "name"] ["functions"] (zG zge):=by exact "*"
def Sb:Al :=
  zp (zB 1 jB) (zp (iQ (za 0) (gN 2)
  (yL (za 1) (za 2) (zq jO (zf (zq iX (zf (y9 (yt (zq mE (zf (zc zk (zc jP (za 0) (za 2)) (At 2)) zj))) (zc zk (za 0) (At 0))) zj)) zj)))) (zY (za 1)))
def tD:An:=yb 1 3 (Sb)
def zkM (T:Txt w K mg):a7 P w K mg base "aimed_names" 7 tD:=T.f_aimed_names.ok (k:=6) zgD λ_ _ _ _ _ _ _ hr=>by
 exact "v i1 cjN czgD.nd v mzch E YzgD.nd x w C N U L n hzgC n"
 refine nW (N:=["functions", "aimed", "name"]) rfl (by exact "+zge") rfl (by decide +kernel) ?_ ?_
 exact "4 hzkL n e g e Z E U f p f r y e g E p f r r ! x J N"
def zkN:aE ["function", "block"] ["function"] (zG Fw):=by exact "*"
def Se:Al :=
  zp (zB 1 (zc zk (za 0) (At 2))) (zp (zT (ju (mB (zc zU (zq yo (zf (zc zk (za 1) (At 0)) zj)) (At 0))) (ju (mB (zc zU (zc zk (zc zk (za 1) (At 1)) (At 0)) (Au "give"))) (mB (zc zU (zc zk (zc zk (zc zk (za 1) (At 1)) (At 1)) (At 0)) (Au "is")))))
  (zY (zc zk (zc zk (za 1) (At 1)) (At 1)))
  zW) (zY (mC .non)))
def mF:An:=yb 1 2 (Se)
def zkO (T:Txt w K mg):a7 P w K mg base "answer_of" 1 mF:=T.f_answer_of.ok (k:=0) zkN λ_ _ _ _ _ _ _ hr=>by
 exact "v i1 e g E p f czkN.nd v l djT azah W q n e g N p f r p azah W e g e g N p f p f M dzaK W e g e g e g N p f p f p f M x J e g e g N p f p f O x J czaI"
def zda:aE ["functions", "names", "marks", "answers", "name", "answer"] ["functions", "names"] (zG Fx):=by exact "*"
def Sf:Al :=
  zp (zB 2 (zq iX (zf (za 1) zj))) (zp (zB 3 jB) (zp (iQ (za 0) (gN 4)
  (zp (zB 5 (zq mF (zf (zc jP (za 0) (za 4)) zj)))
  (zT (ju (mB (zc wS (za 5) (mC .non))) (mB (zc (yA true) (za 4) (za 2))))
  yu
  zW))) (zY (za 3))))
def Az:An:=yb 2 6 (Sf)
def ztp (T:Txt w K mg):a7 P w K mg base "answers_beside" 2 Az:=T.f_answers_beside.ok (k:=1) zda λ_ _ _ _ _ _ _ hr=>by
 exact "v i2 hzgC n N r czda.nd v i3 cjN czda.nd v mzch E Xzda.nd v i5 hzkO n e Z E b4 f r czda.nd x l djT azah BzdY b5 czaI dzaK kzcS b4 U x 5 O x J 3"
def Sg:aE ["self", "answers"] ["self", "answers"] (zG Fy):=by exact "*"
def Sh:Al :=
  zp (sFld "answers" insOf (za 0) (za 1)) (sFld "steads" insOf (za 0) jB)
def qz:An:=yb 2 2 (Sh)
def zts (T:Txt w K mg):pS P w K mg base "Folding" 1 qz:=T.n_Folding.ok (k:=0) Sg λ_ _ _ _ _ _ _ hr=>by
 exact "v IT.d_answers E N x IT.d_steads E cjN"
def Si:aE ["atom", "steads"] ["atom", "steads"] (zG Fz):=by exact "*"
def Sj:Al :=
  zp (zT (mB (zc zU (zc zk (za 0) (At 0)) (Au "of")))
  (zY (kO (za 1) (zc zk (za 0) (At 1)) (za 0)))
  zW) (zY (za 0))
def iY:An:=yb 2 2 (Sj)
def zer (T:Txt w K mg):a7 P w K mg base "stead_of" 1 iY:=T.f_stead_of.ok (k:=0) Si λ_ _ _ _ _ _ _ hr=>by
 exact "v l W e g E p f M x J 7 N e g E p f E O x J E"
def Sk:aE ["atoms", "steads"] ["atoms", "steads"] (zG zgf):=by exact "*"
def Sl:Al :=
  (zY (zq jF (zf (y9 (yt (za 0)) (zq iY (zf (za 0) (zf (za 2) zj)))) zj)))
def om:An:=yb 2 2 (Sl)
def zkP (T:Txt w K mg):a7 P w K mg base "steads_of" 2 om:=T.f_steads_of.ok (k:=1) Sk λ_ _ _ _ _ _ _ hr=>by
 exact "x J t n"
 refine nW (N:=["atoms", "steads"]) rfl (by exact "+zgf") rfl (by decide +kernel) ?_ ?_
 exact "4 E y Dzer n E n U r r"
def Sm:aE ["self", "step", "atoms"] ["self", "step", "atoms"] (zG zgg):=by exact "*"
def Sn:Al :=
  zp (zT (mB (zc zU (zc zk (za 1) (At 0)) (Au "call")))
  yu
  zW) (zp (zT (mB (zq mf (zf (y9 (yt (za 2)) (zc zU (zc zk (za 0) (At 0)) (Au "is"))) zj)))
  yu
  zW) (zY (mC .non)))
def m_Folding_told_by:An:=yb 3 3 (Sn)
def So (T:Txt w K mg):cY P w K mg base "Folding" "told_by" 1 m_Folding_told_by:=T.m_Folding_told_by.ok (k:=0) Sm λ_ _ _ _ _ _ _ hr=>by
 exact "v l W e g N p f M x 5 O v l dwN 1 n"
 refine nW (N:=["self", "step", "atoms"]) rfl (by exact "+zgg") rfl (by decide +kernel) ?_ ?_
 exact "4 U y Gyr e g E p f M r x 5 O x J czaI"
def qA (c:Str):Option (An):=if c = "Folding" then some m_Folding_told_by else none
def Sr (T:Txt w K mg) {c:Str} {m:An} (h:qA c=some m):cY P w K mg base c "told_by" 1 m:=by
 unfold qA at h
 by_cases e0:c = "Folding"
 ·rw [zC e0] at h;cases h;rw [e0];exact (So T).mono (by decide)
 rw [zQ e0] at h
 cases h
def zkQ:aE ["self", "end", "atom"] ["self", "end"] (zG FA):=by exact "*"
def Ss (mr:An):Al :=
  zp (zT (mB (zc zU (zc zk (za 1) (At 0)) (Au "fail")))
  yu
  zW) (zp (zT (mB (zc zU (zc zk (za 1) (At 0)) (Au "go")))
  yu
  zW) (zp (zB 2 (zq iY (zf (zc zk (za 1) (At 1)) (zf (yQ (bX "steads" insOf excOf) (za 0)) zj)))) (zp (zT (mB (zc zU (zc zk (za 1) (At 0)) (Au "give")))
  (zY (yg (zf (yg zj) (zf (yg (zf (Au "give") (zf (za 2) zj))) zj))))
  zW) (zp (zT (mB (zc zU (zc zk (za 2) (At 0)) (Au "is")))
  yu
  zW) (zY (yg (zf (yg zj) (zf (yg (zf (Au "if") (zf (za 2) (zf (jG "folded_block" (wv "Folding" mr) (za 0) (zf (zc zk (za 1) (At 2)) zj)) (zf (jG "folded_block" (wv "Folding" mr) (za 0) (zf (zc zk (za 1) (At 3)) zj)) zj))))) zj))))))))
def m_Folding_folded_end (mr:An):An:=yb 2 3 (Ss mr)
def Su (T:Txt w K mg) {k:Nat} (hk:2<=k) {mr:An} (fh:cY P w K mg base "Folding" "folded_block" k mr):cY P w K mg base "Folding" "folded_end" (k+1) (m_Folding_folded_end mr):=T.m_Folding_folded_end.ok (k:=k+0) zkQ λ_ _ _ _ _ _ _ hr=>by
 exact "v l W e g N p f M x 5 O v l W e g N p f M x 5 O v i2 ozer n e g N p f n VT.d_steads E r czkQ.nd v l W e g N p f M x J P n P r n P n M n U r r O v l W e g U p f M x 5 O x J P n P r n P n M n U n F E n e g N p f r n F E n e g N p f r r r"
def zbR:aE ["self", "block", "left", "step", "atoms", "told", "fault", "behind"] ["self", "block"] (zG FC):=by exact "*"
def Sv (mr:An):Al :=
  zp (zB 2 (jb zj)) (zp (yF (yt (zc zk (za 1) (At 0))) (gN 3)
  (zp (zB 4 (zq om (zf (zc zk (za 3) (At 3)) (zf (yQ (bX "steads" insOf excOf) (za 0)) zj))))
  (zp (mq 5 6 "Fault" (fC "told_by" qA (za 0) (zf (za 3) (zf (za 4) zj)))
  yu)
  (zT (mB (zc sG (za 5) (mC .non)))
  (yK (yS yY (za 2) (yg (zf (zc zk (za 3) (At 0)) (zf (zc zk (za 3) (At 1)) (zf (zc zk (za 3) (At 2)) (zf (za 4) zj)))))))
  yu)))) (zp (zB 7 (jG "folded_end" (wv "Folding" (m_Folding_folded_end mr)) (za 0) (zf (zc zk (za 1) (At 1)) zj))) (zY (yg (zf (zc yd (zq jF (zf (za 2) zj)) (zc zk (za 7) (At 0))) (zf (zc zk (za 7) (At 1)) zj))))))
def m_Folding_folded_block (mr:An):An:=yb 2 8 (Sv mr)
def Sw (T:Txt w K mg) {k:Nat} (hk:2<=k) {mr:An} (fh:cY P w K mg base "Folding" "folded_block" k mr):cY P w K mg base "Folding" "folded_block" (k+2) (m_Folding_folded_block mr):=T.m_Folding_folded_block.ok (k:=k+1) zbR λ_ _ _ _ _ _ _ hr=>by
 exact "v i2 ) r czbR.nd v mji 4 e g N p f SzbR.nd v i4 ozkP n e g 3 p f n VT.d_steads E r czbR.nd v"
 refine RB 5 6 T.x_Fault.tr ?_ ?_ zbR.nd
 refine OG (λc m h=>Sr T h) ?_ (hr.mono (by omega)) ?_
 exact "E n 3 n b4 r"
 intro _
 exact "x 5 x l BzrC b5 czaI x dwa awG U P n e g 3 p f n e g 3 p f n e g 3 p f n b4 r x 5 v i7"
 refine sg (λc m h=>xW (Su T hk fh) h) ?_ (hr.mono (by omega)) zK ?_
 exact "E n e g N p f r czbR.nd x J P n 8 t n U r e g b7 p f n e g b7 p f r"
def mG:Nat->An
 |0=>yb 2 8 yu
 |n+1=>m_Folding_folded_block (mG n)
theorem zkR (T:Txt w K mg):∀n,cY P w K mg base "Folding" "folded_block" (2+1+2*n) (mG n)
 |0=>T.m_Folding_folded_block.ok (k:=2) zbR λf aY A outer s H E hr=>iO
 |n+1=>(Sw T (by omega) (zkR T n)).mono (by omega)
def zkS:aE ["atoms", "used", "atom"] ["atoms", "used"] (zG FE):=by exact "*"
def Sx:Al :=
  (yF (yt (za 0)) (gN 2)
  (zT (mB (zc zU (zc zk (za 2) (At 0)) (Au "of")))
  (yL (za 1) (zc zk (za 2) (At 1)) (mC (.bl true)))
  zW))
def qB:An:=yb 2 3 (Sx)
def zkT (T:Txt w K mg):a7 P w K mg base "mark_names" 1 qB:=T.f_mark_names.ok (k:=0) zkS λ_ _ _ _ _ _ _ hr=>by
 exact "x mji 4 E YzkS.nd x l W e g U p f M x w C N e g U p f cza4 ! O"
def Sy:aE ["line"] ["line"] (zG FF):=by exact "*"
def Sz:Al :=
  (zY (zc (yA false) (zc zk (za 0) (At 0)) (yg (zf (Au "let") (zf (Au "call") zj)))))
def mH:An:=yb 1 1 (Sz)
def zkU (T:Txt w K mg):a7 P w K mg base "is_step" 1 mH:=T.f_is_step.ok (k:=0) Sy λ_ _ _ _ _ _ _ hr=>by
 exact "x J GzbA e g E p f P n M n M r"
def SA:aE ["line"] ["line"] (zG FG):=by exact "*"
def SD:Al :=
  zp (zT (mB (zq mH (zf (za 0) zj)))
  yu
  zW) (zp (zT (mB (zc zU (zc zk (za 0) (At 0)) (Au "go")))
  yu
  zW) (zp (zT (mB (zc zU (zc zk (za 0) (At 0)) (Au "fail")))
  (zY (yg zj))
  zW) (zY (yg (zf (zc zk (za 0) (At 1)) zj)))))
def tE:An:=yb 1 1 (SD)
def ztK (T:Txt w K mg):a7 P w K mg base "atoms_of" 2 tE:=T.f_atoms_of.ok (k:=1) SA λ_ _ _ _ _ _ _ hr=>by
 exact "v l dwN hzkU n E r x 5 O v l W e g E p f M x 5 O v l W e g E p f M x J P r O x J P n e g E p f r"
def SE:aE ["self"] ["self"] (zG FH):=by exact "*"
def SF:Al :=
  (zY (zc (yA false) (yQ (bX "word" insOf excOf) (za 0)) (mC (.tup (List.map PV.str ct_FAULTLESS)))))
def m_Op_never_faults:An:=yb 1 1 (SF)
def SG (T:Txt w K mg):cY P w K mg base "Op" "never_faults" 1 m_Op_never_faults:=T.m_Op_never_faults.ok (k:=0) SE λ_ _ _ _ _ _ _ hr=>by
 exact "x J GzbA VT.d_word E"
 exact (QM T.ct_FAULTLESS)
def tG (c:Str):Option (An):=if c = "Op" then some m_Op_never_faults else none
def SH (T:Txt w K mg) {c:Str} {m:An} (h:tG c=some m):cY P w K mg base c "never_faults" 1 m:=by
 unfold tG at h
 by_cases e0:c = "Op"
 ·rw [zC e0] at h;cases h;rw [e0];exact (SG T).mono (by decide)
 rw [zQ e0] at h
 cases h
def SI:aE ["self", "word"] ["self", "word"] (zG FI):=by exact "*"
def Gu:Al :=
  (sFld "many" insOf (za 0) (zq yo (zf (zc zk (yQ (pY zbH zbI) (za 1)) (At 0)) zj)))
def Gv:Al :=
  zp (sFld "word" insOf (za 0) (za 1)) (Gu)
def AA:An:=yb 2 2 (Gv)
def ztQ (T:Txt w K mg):pS P w K mg base "Op" 1 AA:=T.n_Op.ok (k:=0) SI λ_ _ _ _ _ _ _ hr=>by
 exact "v IT.d_word E N x IT.d_many E q n e g"
 refine OH (T.kd_OPS _ rfl rfl rfl) ?_
 exact "N p f r"
def SJ:aE ["word"] ["word"] (zG FJ):=by exact "*"
def Gw:Al :=
  (zY (zq (e_ "Op" AA) (zf (za 0) zj)))
def Gx:Al :=
  zp (zT (mB (yQ (pZ true zbH zbI zgn) (za 0)))
  yu
  zW) (Gw)
def qC:An:=yb 1 1 (Gx)
def ztS (T:Txt w K mg):a7 P w K mg base "op_of" 3 qC:=T.f_op_of.ok (k:=2) SJ λ_ _ _ _ _ _ _ hr=>by
 exact "v l"
 refine OJ (T.kd_OPS _ rfl rfl rfl) ?_
 exact "E x 5 O x J TztQ n E r"
def SK:aE ["step", "used"] ["step", "used"] (zG FK):=by exact "*"
def SM:Al :=
  (zY (gK (zc zU (zc zk (za 0) (At 0)) (Au "let")) (gK (zc (yA true) (zc zk (za 0) (At 1)) (za 1)) (jG "never_faults" tG (zq qC (zf (zc zk (za 0) (At 2)) zj)) zj))))
def tH:An:=yb 2 2 (SM)
def ztV (T:Txt w K mg):a7 P w K mg base "is_idle" 4 tH:=T.f_is_idle.ok (k:=3) SK λ_ _ _ _ _ _ _ hr=>by
 exact "x J azb8 Gyr e g E p f M azb8 GzcS e g E p f N dzdF"
 refine NX (λc m h=>SH T h) ?_ (hr.mono (by decide)) zK
 exact "hztS n e g E p f r"
def zbi:aE ["block", "used", "end", "second", "first", "left", "step"] ["block", "used"] (zG FO):=by exact "*"
def Gy (mr:An):Al :=
  zp (yK (zq qB (zf (zq tE (zf (za 2) zj)) (zf (za 1) zj)))) (zp (zB 5 (jb zj)) (zp (qt (zf (zc zk (za 0) (At 0)) zj) (gN 6)
  (zT (iF (mB (zq tH (zf (za 6) (zf (za 1) zj)))))
  (zp (yK (zq qB (zf (zc zk (za 6) (At 3)) (zf (za 1) zj))))
  (yK (yS yY (za 5) (za 6))))
  zW)) (zY (yg (zf (sU (zf (za 5) zj)) (zf (za 2) zj))))))
def SN (mr:An):Al :=
  zp (zB 2 (zc zk (za 0) (At 1))) (zp (zT (mB (zc zU (zc zk (za 2) (At 0)) (Au "if")))
  (zp (zB 3 (zq mr (zf (zc zk (za 2) (At 3)) (zf (za 1) zj))))
  (zp (zB 4 (zq mr (zf (zc zk (za 2) (At 2)) (zf (za 1) zj))))
  (zB 2 (yg (zf (Au "if") (zf (zc zk (za 2) (At 1)) (zf (za 4) (zf (za 3) zj))))))))
  zW) (Gy mr))
def zev (mr:An):An:=yb 2 7 (SN mr)
def SQ (T:Txt w K mg) {k:Nat} (hk:4<=k) {mr:An} (fh:a7 P w K mg base "swept_block" k mr):a7 P w K mg base "swept_block" (k+1) (zev mr):=T.f_swept_block.ok (k:=k+0) zbi λ_ _ _ _ _ _ _ hr=>by
 exact "v i2 e g E p f czbi.nd v l W e g U p f M v i3 szK n e g U p f n N r czbi.nd v i4 szK n e g U p f n N r czbi.nd x i2 P n M n e g U p f n b4 n 3 r czbi.nd O v dwa ozkT n oztK n U r n N r v i5 ) r czbi.nd v # n e g E p f r &zbi.nd x l dzcJ dwN oztV n b6 n N r v dwa ozkT n e g b6 p f n N r x dwa awG b5 b6 O x J P n"
 refine Rb rfl T.b_reversed T.b_tuple jM ?_
 exact "n b5 r n U r"
def iZ:Nat->An
 |0=>yb 2 7 yu
 |n+1=>zev (iZ n)
theorem zk0 (T:Txt w K mg):∀n,a7 P w K mg base "swept_block" (4+1+1*n) (iZ n)
 |0=>T.f_swept_block.ok (k:=4) zbi λf aY A outer s H E hr=>iO
 |n+1=>(SQ T (by omega) (zk0 T n)).mono (by omega)
def zk1:aE ["function", "answers", "block"] ["function", "answers"] (zG FP):=by exact "*"
def SR:Al :=
  zp (zB 2 (jG "folded_block" (wv "Folding" (mG 3)) (zq (e_ "Folding" qz) (zf (za 1) zj)) (zf (zc zk (za 0) (At 2)) zj))) (zY (yg (zf (zc zk (za 0) (At 0)) (zf (zc zk (za 0) (At 1)) (zf (zq (iZ 3) (zf (za 2) (zf jB zj))) zj)))))
def qD:An:=yb 2 3 (SR)
def ztZ (T:Txt w K mg):a7 P w K mg base "folded" 10 qD:=T.f_folded.ok (k:=9) zk1 λ_ _ _ _ _ _ _ hr=>by
 exact "v i2 2zkR Tzts n N r n e g E p f r czk1.nd x J P n e g E p f n e g E p f n Azk0 n U n cjN r r"
def zbj:aE ["functions", "names", "callers", "answers", "again", "name", "answer", "caller"] ["functions", "names"] (zG FQ):=by exact "*"
def SS:Al :=
  zp (zB 2 (zq Ay (zf (zq tD (zf (za 0) zj)) zj))) (zp (zB 3 (zq Az (zf (za 0) (zf (za 1) zj)))) (kJ (mB (zc j8 (zq yo (zf (za 1) zj)) (At 0)))
  (zp (zB 4 jB)
  (zp (yF (yt (za 1)) (gN 5)
  (zp (yL (za 0) (za 5) (zq qD (zf (zc zk (za 0) (za 5)) (zf (za 3) zj))))
  (zp (zB 6 (zq mF (zf (zc zk (za 0) (za 5)) zj)))
  (zT (ju (mB (zc wS (za 6) (mC .non))) (mB (zc (yA true) (za 5) (za 3))))
  (zp (yL (za 3) (za 5) (za 6))
  (yF (yt (zc zk (za 2) (za 5))) (gN 7)
  yu))
  zW))))
  (zB 1 (zq jO (zf (za 4) zj)))))))
def tI:An:=yb 2 8 (SS)
def zt6 (T:Txt w K mg):a7 P w K mg base "fold_all" 11 tI:=T.f_fold_all.ok (k:=10) zbj λ_ _ _ _ _ _ _ hr=>by
 exact "v i2 hzte n hzkM n E r r czbj.nd v i3 hztp n E n N r czbj.nd x K Bzbt q n N r p v i4 cjN czbj.nd v mji 4 N"
 exact (yR 5 zbj.nd)
 exact "v w C E b5 hztZ n e g E b5 f n 3 r ! v i6 hzkO n e g E b5 f r czbj.nd x l djT azah BzdY b6 czaI dzaK kzcS b5 3 v w C 3 b5 b6 ! x mji 4 e g U b5 f"
 exact (yR 7 zbj.nd)
 exact "x 5 O x i1 L n b4 r czbj.nd"
def zcq:aE ["thing", "called", "before", "found", "place", "here", "there"] ["thing", "called", "before"] (zG FR):=by exact "*"
def SU:Al :=
  zp (zB 3 (jb (zf (za 0) zj))) (zp (zB 4 (At 0)) (zp (kJ (mB (zc oLt (za 4) (zq yo (zf (za 3) zj))))
  (zp (zB 5 (zc zk (za 3) (za 4)))
  (zp (yF (yt (zc zk (za 1) (za 5))) (gN 6)
  yu)
  (sj 4 lY (At 1))))) (zY (za 3))))
def AB:An:=yb 3 7 (SU)
def zt8 (T:Txt w K mg):a7 P w K mg base "found_from" 1 AB:=T.f_found_from.ok (k:=0) zcq λ_ _ _ _ _ _ _ hr=>by
 exact "v i3 ) n E r czcq.nd v i4 p czcq.nd v K BzdJ b4 q n 3 r v i5 e g 3 b4 f czcq.nd v mji 4 e g N b5 f &zcq.nd x 5 x"
 refine Of 4 Oe ?_ zcq.nd
 exact "p x J 3"
def SV:aE ["functions", "main"] ["functions", "main"] (zG FT):=by exact "*"
def SW:Al :=
  (zY (zq AB (zf (za 1) (zf (zq tD (zf (za 0) zj)) (zf (xP [((za 1),(za 1))]) zj)))))
def tJ:An:=yb 2 2 (SW)
def zk2 (T:Txt w K mg):a7 P w K mg base "met_names" 8 tJ:=T.f_met_names.ok (k:=7) SV λ_ _ _ _ _ _ _ hr=>by
 exact "x J hzt8 n N n hzkM n E r n"
 refine Qx ?_ (by simp) (by decide)
 exact "RzrT N N czrS r"
def zgH:aE ["functions", "main", "found", "name"] ["functions", "main"] (zG FU):=by exact "*"
def SX:Al :=
  zp (zB 2 jB) (zp (yF (yt (zq tJ (zf (za 0) (zf (za 1) zj)))) (gN 3)
  (yL (za 2) (za 3) (zc zk (za 0) (za 3)))) (zY (za 2)))
def tK:An:=yb 2 4 (SX)
def zuc (T:Txt w K mg):a7 P w K mg base "kept" 9 tK:=T.f_kept.ok (k:=8) zgH λ_ _ _ _ _ _ _ hr=>by
 exact "v i2 cjN czgH.nd v mji 4 hzk2 n E n N r SzgH.nd x w C U 3 e g E 3 f ! x J U"
def zcr:aE ["functions", "main", "aimed", "name", "aim", "lone"] ["functions", "main"] (zG FV):=by exact "*"
def SY:Al :=
  zp (zB 2 jB) (zp (iQ (za 0) (gN 3)
  (yF (yt (zq mE (zf (zc zk (zc jP (za 0) (za 3)) (At 2)) zj))) (gN 4)
  yu)) (zp (zB 5 jB) (zp (iQ (za 0) (gN 3)
  (zT (ju (mB (zc jV (za 3) (za 1))) (mB (zc zU (kO (za 2) (za 3) (At 0)) (At 1))))
  yu
  zW)) (zY (za 5)))))
def AE:An:=yb 2 6 (SY)
def zue (T:Txt w K mg):a7 P w K mg base "lone_functions" 7 AE:=T.f_lone_functions.ok (k:=6) zcr λ_ _ _ _ _ _ _ hr=>by
 exact "v i2 cjN czcr.nd v mzch E Szcr.nd x mji 4 hzkL n e g e Z E 3 f p f r Xzcr.nd x 5 v i5 cjN czcr.nd v mzch E Szcr.nd x l djT azah kzca 3 N dzaK W 7 U 3 p p x 5 O x J b5"
def S3:aE ["block"] ["block"] (zG zgh):=by exact "*"
def S4:Al :=
  (zY (zq jF (zf (iT (yt (zq (gP 3) (zf (za 0) zj))) (mB (zq mH (zf (za 0) zj))) (zc zk (za 0) (At 1))) zj)))
def qE:An:=yb 1 1 (S4)
def zk3 (T:Txt w K mg):a7 P w K mg base "steps_of" 6 qE:=T.f_steps_of.ok (k:=5) S3 λ_ _ _ _ _ _ _ hr=>by
 exact "x J t n"
 refine EO (N:=["block"]) rfl (by exact ",zgh") rfl (by decide +kernel) ?_ ?_ ?_
 exact "4 Azeo n E r y dwN DzkU n E r y e g E p f r"
def zgJ:aE ["block", "end"] ["block"] (zG FW):=by exact "*"
def S5 (mr:An):Al :=
  zp (zB 1 (zc zk (za 0) (At 1))) (zp (zT (mB (zc zU (zc zk (za 1) (At 0)) (Au "if")))
  (zY (zc yd (At 1) (zq ma (zf (zq mr (zf (zc zk (za 1) (At 2)) zj)) (zf (zq mr (zf (zc zk (za 1) (At 3)) zj)) zj)))))
  zW) (zY (At 0)))
def tN (mr:An):An:=yb 1 2 (S5 mr)
def S6 (T:Txt w K mg) {k:Nat} (hk:1<=k) {mr:An} (fh:a7 P w K mg base "depth_of" k mr):a7 P w K mg base "depth_of" (k+1) (tN mr):=T.f_depth_of.ok (k:=k+0) zgJ λ_ _ _ _ _ _ _ hr=>by
 exact "v i1 e g E p f czgJ.nd v l W e g N p f M x J 8 p 0 n szK n e g N p f r n szK n e g N p f r r O x J p"
def oq:Nat->An
 |0=>yb 1 2 yu
 |n+1=>tN (oq n)
theorem zk4 (T:Txt w K mg):∀n,a7 P w K mg base "depth_of" (1+1+1*n) (oq n)
 |0=>T.f_depth_of.ok (k:=1) zgJ λf aY A outer s H E hr=>iO
 |n+1=>(S6 T (by omega) (zk4 T n)).mono (by omega)
def S7:aE ["self", "function", "lone"] ["self", "function", "lone"] (zG FX):=by exact "*"
def S8:Al :=
  zp (sFld "name" insOf (za 0) (zc zk (za 1) (At 0))) (zp (sFld "lone" insOf (za 0) (za 2)) (zp (sFld "taken" insOf (za 0) (zq iX (zf (zc yd (zc zk (za 1) (At 1)) (zq qE (zf (zc zk (za 1) (At 2)) zj))) zj))) (zp (sFld "size" insOf (za 0) (zq yo (zf (zq (gP 3) (zf (zc zk (za 1) (At 2)) zj)) zj))) (zp (sFld "depth" insOf (za 0) (zq (oq 3) (zf (zc zk (za 1) (At 2)) zj))) (sFld "joined_names" insOf (za 0) (jb zj))))))
def ou:An:=yb 3 3 (S8)
def zul (T:Txt w K mg):pS P w K mg base "Host" 7 ou:=T.n_Host.ok (k:=6) S7 λ_ _ _ _ _ _ _ hr=>by
 exact "v IT.d_name E e g N p f v IT.d_lone E U v IT.d_taken E hzgC n 8 e g N p f hzk3 n e g N p f r r v IT.d_size E q n Azeo n e g N p f r r v IT.d_depth E Azk4 n e g N p f r x IT.d_joined_names E ) r"
def S9:aE ["self", "end", "outer", "target"] ["self", "end", "outer"] (zG FY):=by exact "*"
def S_:Al :=
  zp (zT (jL (mB (zc jV (zc zk (za 1) (At 0)) (Au "go"))) (jL (mB (zc zU (zc zk (za 1) (At 1)) (yQ (bX "name" insOf excOf) (za 0)))) (mB (zc (yA true) (zc zk (za 1) (At 1)) (yQ (bX "lone" insOf excOf) (za 0))))))
  (zY (mC (.bl false)))
  zW) (zp yu (yu))
def m_Host_may_join:An:=yb 3 4 (S_)
def Ta (T:Txt w K mg):cY P w K mg base "Host" "may_join" 1 m_Host_may_join:=T.m_Host_may_join.ok (k:=0) S9 λ_ _ _ _ _ _ _ hr=>by
 exact "v l djT azai kzca e g N p f M azai W e g N p f VT.d_name E dzaL kzcS e g N p f VT.d_lone E x J cza4 O v 5 x 5"
def qF (c:Str):Option (An):=if c = "Host" then some m_Host_may_join else none
def Tb (T:Txt w K mg) {c:Str} {m:An} (h:qF c=some m):cY P w K mg base c "may_join" 1 m:=by
 unfold qF at h
 by_cases e0:c = "Host"
 ·rw [zC e0] at h;cases h;rw [e0];exact (Ta T).mono (by decide)
 rw [zQ e0] at h
 cases h
def zcu:aE ["self", "block", "outer", "steps", "end", "brought", "first"] ["self", "block", "outer"] (zG FZ):=by exact "*"
def Tc (mr:An):Al :=
  zp (zB 3 (zc zk (za 1) (At 0))) (zp (zB 4 (zc zk (za 1) (At 1))) (zp (kJ (mB (jG "may_join" qF (za 0) (zf (za 4) (zf (za 2) zj))))
  (zp yu
  (zp yu
  yu))) (zp (zT (mB (zc zU (zc zk (za 4) (At 0)) (Au "if")))
  (zp (zB 6 (jG "joined_block" (wv "Host" mr) (za 0) (zf (zc zk (za 4) (At 2)) (zf (zc yd (za 2) (At 1)) zj))))
  (zB 4 (yg (zf (Au "if") (zf (zc zk (za 4) (At 1)) (zf (za 6) (zf (jG "joined_block" (wv "Host" mr) (za 0) (zf (zc zk (za 4) (At 3)) (zf (zc yd (za 2) (At 1)) zj))) zj)))))))
  zW) (zY (yg (zf (za 3) (zf (za 4) zj)))))))
def m_Host_joined_block (mr:An):An:=yb 3 7 (Tc mr)
def Td (T:Txt w K mg) {k:Nat} (hk:1<=k) {mr:An} (fh:cY P w K mg base "Host" "joined_block" k mr):cY P w K mg base "Host" "joined_block" (k+1) (m_Host_joined_block mr):=T.m_Host_joined_block.ok (k:=k+0) zcu λ_ _ _ _ _ _ _ hr=>by
 exact "v i3 e g N p f czcu.nd v i4 e g N p f czcu.nd v K dwN"
 refine sg (λc m h=>Tb T h) ?_ (hr.mono (by omega)) zK ?_
 exact "E n b4 n U r v 5 v 5 x 5 v l W e g b4 p f M v i6 F E n e g b4 p f n 8 U p r czcu.nd x i4 P n M n e g b4 p f n b6 n F E n e g b4 p f n 8 U p r r czcu.nd O x J P n 3 n b4 r"
def i9:Nat->An
 |0=>yb 3 7 yu
 |n+1=>m_Host_joined_block (i9 n)
theorem zk5 (T:Txt w K mg):∀n,cY P w K mg base "Host" "joined_block" (1+1+1*n) (i9 n)
 |0=>T.m_Host_joined_block.ok (k:=1) zcu λf aY A outer s H E hr=>iO
 |n+1=>(Td T (by omega) (zk5 T n)).mono (by omega)
def zbU:aE ["functions", "main", "lone", "hosts", "name", "function", "host", "joined"] ["functions", "main"] (zG zgi):=by exact "*"
def Te:Al :=
  zp (zB 2 (zq AE (zf (za 0) (zf (za 1) zj)))) (zp (zB 3 (jb zj)) (zp (yF (yt (zq jO (zf (za 0) zj))) (gN 4)
  (zT (mB (zc (yA false) (za 4) (za 0)))
  (zp (zB 5 (zc zk (za 0) (za 4)))
  (zp (zB 6 (zq (e_ "Host" ou) (zf (za 5) (zf (za 2) zj))))
  (zp (yL (za 0) (za 4) (yg (zf (za 4) (zf (zc zk (za 5) (At 1)) (zf (jG "joined_block" (wv "Host" (i9 3)) (za 6) (zf (zc zk (za 5) (At 2)) (zf (At 0) zj))) zj)))))
  (zp (zT (mB (zc (yA false) (za 4) (za 2)))
  yu
  zW)
  (zp (yF (yt (yQ (bX "joined_names" insOf excOf) (za 6))) (gN 7)
  yu)
  (zT (mB (zc j8 (zq yo (zf (yQ (bX "joined_names" insOf excOf) (za 6)) zj)) (At 0)))
  yu
  zW))))))
  zW)) (zY (iT (yt (za 3)) (mB (zc (yA false) (za 0) (za 1))) (za 0)))))
def tO:An:=yb 2 8 (Te)
def zut (T:Txt w K mg):a7 P w K mg base "join_all" 9 tO:=T.f_join_all.ok (k:=8) zbU λ_ _ _ _ _ _ _ hr=>by
 exact "v i2 hzue n E n N r czbU.nd v i3 ) r czbU.nd v mji 4 L n E r XzbU.nd x l kzbA b4 E v i5 e g E b4 f czbU.nd v i6 Tzul n b5 n U r czbU.nd v w C E b4 P n b4 n e g b5 p f n 2zk5 b6 n e g b5 p f n p r r ! v l kzbA b4 U x 5 O v mji 4 VT.d_joined_names b6"
 exact (yR 7 zbU.nd)
 exact "x 5 x l Bzbt q n VT.d_joined_names b6 r p x 5 O O x J"
 refine QS (M:=["functions", "main", "lone", "hosts", "~name", "function", "host", "joined"]) rfl (by exact ",zgi") (by exact ⟨rfl,by show ∀p∈List.zip (["functions", "main", "lone", "hosts", "~name", "function", "host", "joined"]:Ae) (["functions", "main", "lone", "hosts", "name", "function", "host", "joined"]:Ae),p.1=p.2\/p.1∉(_:Ae);decide +kernel⟩) (by decide +kernel) ?_ ?_ ?_
 exact "4 3 y kzbA E N y E"
def zgK:aE ["step", "steads", "named", "name", "aimed"] ["step", "steads", "named"] (zG F0):=by exact "*"
def Tf:Al :=
  zp (zB 3 (zc zk (zq iY (zf (yg (zf (Au "of") (zf (zc zk (za 0) (At 1)) zj))) (zf (za 1) zj))) (At 1))) (zp (zB 4 (se (mB (zc zU (zc zk (za 0) (At 0)) (Au "call"))) (kO (za 2) (zc zk (za 0) (At 2)) (zc zk (za 0) (At 2))) (zc zk (za 0) (At 2)))) (zY (yg (zf (zc zk (za 0) (At 0)) (zf (za 3) (zf (za 4) (zf (zq om (zf (zc zk (za 0) (At 3)) (zf (za 1) zj))) zj)))))))
def tP:An:=yb 3 5 (Tf)
def Tg (T:Txt w K mg):a7 P w K mg base "renamed_step" 3 tP:=T.f_renamed_step.ok (k:=2) zgK λ_ _ _ _ _ _ _ hr=>by
 exact "v i3 e g hzer n P n M n e g E p f r n N r p f czgK.nd v i4 RzpD W e g E p f M 7 U e g E p f e g E p f e g E p f czgK.nd x J P n e g E p f n 3 n b4 n hzkP n e g E p f n N r r"
def zk6:aE ["end", "steads", "named", "atom"] ["end", "steads", "named"] (zG F8):=by exact "*"
def Th (mr:An):Al :=
  zp (zT (mB (zc zU (zc zk (za 0) (At 0)) (Au "fail")))
  yu
  zW) (zp (zT (mB (zc zU (zc zk (za 0) (At 0)) (Au "go")))
  yu
  zW) (zp (zB 3 (zq iY (zf (zc zk (za 0) (At 1)) (zf (za 1) zj)))) (zp (zT (mB (zc zU (zc zk (za 0) (At 0)) (Au "give")))
  (zY (yg (zf (Au "give") (zf (za 3) zj))))
  zW) (zY (yg (zf (Au "if") (zf (za 3) (zf (zq mr (zf (zc zk (za 0) (At 2)) (zf (za 1) (zf (za 2) zj)))) (zf (zq mr (zf (zc zk (za 0) (At 3)) (zf (za 1) (zf (za 2) zj)))) zj)))))))))
def tQ (mr:An):An:=yb 3 4 (Th mr)
def Ti (T:Txt w K mg) {k:Nat} (hk:3<=k) {mr:An} (fh:a7 P w K mg base "renamed_block" k mr):a7 P w K mg base "renamed_end" (k+1) (tQ mr):=T.f_renamed_end.ok (k:=k+0) zk6 λ_ _ _ _ _ _ _ hr=>by
 exact "v l W e g E p f M x 5 O v l W e g E p f M x 5 O v i3 ozer n e g E p f n N r czk6.nd v l W e g E p f M x J P n M n 3 r O x J P n M n 3 n szK n e g E p f n N n U r n szK n e g E p f n N n U r r"
def zgL:aE ["block", "steads", "named", "steps"] ["block", "steads", "named"] (zG zgj):=by exact "*"
def Tj (mr:An):Al :=
  zp (zB 3 (zq jF (zf (y9 (yt (zc zk (za 0) (At 0))) (zq tP (zf (za 0) (zf (za 2) (zf (za 3) zj))))) zj))) (zY (yg (zf (za 3) (zf (zq (tQ mr) (zf (zc zk (za 0) (At 1)) (zf (za 1) (zf (za 2) zj)))) zj))))
def tR (mr:An):An:=yb 3 4 (Tj mr)
def Tn (T:Txt w K mg) {k:Nat} (hk:3<=k) {mr:An} (fh:a7 P w K mg base "renamed_block" k mr):a7 P w K mg base "renamed_block" (k+2) (tR mr):=T.f_renamed_block.ok (k:=k+1) zgL λ_ _ _ _ _ _ _ hr=>by
 exact "v i3 t n"
 refine nW (N:=["block", "steads", "named", "steps"]) rfl (by exact "+zgj") rfl (by decide +kernel) ?_ ?_
 exact "4 e g E p f y"
 refine zN (Tg T) (hr.mono (by omega)) zan ?_
 exact "n E n U n 3 r r czgL.nd x J P n 3 n"
 refine zN (Ti T hk fh) (hr.mono (by omega)) zK ?_
 exact "n e g E p f n N n U r r"
def mI:Nat->An
 |0=>yb 3 4 yu
 |n+1=>tR (mI n)
theorem zk7 (T:Txt w K mg):∀n,a7 P w K mg base "renamed_block" (3+1+2*n) (mI n)
 |0=>T.f_renamed_block.ok (k:=3) zgL λf aY A outer s H E hr=>iO
 |n+1=>(Tn T (by omega) (zk7 T n)).mono (by omega)
def zeE:aE ["function", "named", "steads", "place", "name", "params"] ["function", "named"] (zG zgk):=by exact "*"
def To:Al :=
  zp (zB 2 jB) (zp (sS (zf (zc yd (zc zk (za 0) (At 1)) (zq qE (zf (zc zk (za 0) (At 2)) zj))) zj) (g2 3 4)
  (yL (za 2) (za 4) (yg (zf (Au "of") (zf (yQ (iW "v") (za 3)) zj))))) (zp (zB 5 (zq jF (zf (y9 (yt (zc zk (za 0) (At 1))) (zc zk (zc zk (za 3) (za 0)) (At 1))) zj))) (zY (yg (zf (zc zk (za 1) (zc zk (za 0) (At 0))) (zf (za 5) (zf (zq (mI 3) (zf (zc zk (za 0) (At 2)) (zf (za 2) (zf (za 1) zj)))) zj)))))))
def tS:An:=yb 2 6 (To)
def zuB (T:Txt w K mg):a7 P w K mg base "renamed_function" 11 tS:=T.f_renamed_function.ok (k:=10) zeE λ_ _ _ _ _ _ _ hr=>by
 exact "v i2 cjN czeE.nd v $zsj n 8 e g E p f hzk3 n e g E p f r r"
 exact (xf 3 4 rfl zeE.nd)
 exact "x w C U b4 P n M n dzjE 3 r ! v i5 t n"
 refine nW (N:=["function", "named", "steads", "place", "name", "params"]) rfl (by exact "+zgk") rfl (by decide +kernel) ?_ ?_
 exact "4 e g E p f y e g e g 3 E f p f r czeE.nd x J P n e g N e g E p f f n b5 n Azk7 n e g E p f n U n N r r"
def zeG:aE ["functions", "main", "met", "named", "place", "name"] ["functions", "main"] (zG zgl):=by exact "*"
def Tp:Al :=
  zp (zB 2 (zq tJ (zf (za 0) (zf (za 1) zj)))) (zp (zB 3 jB) (zp (sx (zf (za 2) zj) (g2 4 5)
  (yL (za 3) (za 5) (yQ (iW "q") (za 4)))) (zY (zq jF (zf (y9 (yt (za 2)) (zq tS (zf (zc zk (za 1) (za 0)) (zf (za 4) zj)))) zj)))))
def AF:An:=yb 2 6 (Tp)
def zuD (T:Txt w K mg):a7 P w K mg base "renamed" 12 AF:=T.f_renamed.ok (k:=11) zeG λ_ _ _ _ _ _ _ hr=>by
 exact "v i2 hzk2 n E n N r czeG.nd v i3 cjN czeG.nd v $zrk n U r"
 exact (xf 4 5 rfl zeG.nd)
 exact "x w C 3 b5 dzjE b4 ! x J t n"
 refine p7 (M:=["functions", "main", "met", "named", "place", "~name"]) rfl (by exact "+zgl") (by exact ⟨rfl,by show ∀p∈List.zip (["functions", "main", "met", "named", "place", "~name"]:Ae) (["functions", "main", "met", "named", "place", "name"]:Ae),p.1=p.2\/p.1∉(_:Ae);decide +kernel⟩) (by decide +kernel) ?_ ?_
 exact "4 U y DzuB n e g N E f n b4 r r"
def zcv:aE ["program", "main", "functions", "changed"] ["program"] (zG F9):=by exact "*"
def Tq:Al :=
  zp (zB 1 (zc zk (zc zk (za 0) (At 0)) (At 0))) (zp (zB 2 (zq tm (zf (za 0) zj))) (zp (zB 3 (zq jO (zf (za 2) zj))) (zp (kJ (mB (zc j8 (zq yo (zf (za 3) zj)) (At 0)))
  (zp (yK (zq tI (zf (za 2) (zf (za 3) zj))))
  (zp (zB 2 (zq tK (zf (za 2) (zf (za 1) zj))))
  (zB 3 (zq tO (zf (za 2) (zf (za 1) zj))))))) (zY (zq AF (zf (za 2) (zf (za 1) zj)))))))
def tT:An:=yb 1 4 (Tq)
def zk8 (T:Txt w K mg):a7 P w K mg base "tidied" 13 tT:=T.f_tidied.ok (k:=12) zcv λ_ _ _ _ _ _ _ hr=>by
 exact "v i1 e g e g E p f p f czcv.nd v i2 hztc n E r czcv.nd v i3 L n U r czcv.nd v K Bzbt q n 3 r p v dwa hzt6 n U n 3 r v i2 hzuc n U n N r czcv.nd x i3 hzut n U n N r czcv.nd x J hzuD n U n N r"
def zeI:aE ["_law_script", "_law_program_here", "_law_kept", "_law_due_here"] ["_law_script"] (zG x5):=by exact "*"
def Ts:Al :=
  zp (zB 1 (zq sY (zf (za 0) zj))) (zp (zB 2 (zq sY (zf (za 0) zj))) (zp (zB 3 (zq Ax (zf (za 2) zj))) (zp (zT (jL (iF (mB (zq (mD 12) (zf (zq tT (zf (za 1) zj)) (zf (za 3) zj))))) (iF (mB (zq (mD 12) (zf (za 1) (zf (za 2) zj))))))
  (zY (mC (.bl false)))
  zW) (zY (zq (mD 12) (zf (zq tT (zf (za 1) zj)) (zf (za 3) zj)))))))
def Gz:An:=yb 1 4 (Ts)
def zuG (T:Txt w K mg) {f:Addr} {fd:FuncData} (F:dJ K "law" "law" x5 f fd):bz P w K mg base (cv P w) 15 f fd ["_law_script"] (gL K mg Gz):=sr (k:=14) F zeI λaY A outer s H E hr =>by
 exact "v i1 hzkA n E r czeI.nd v i2 hzkA n E r czeI.nd v i3 hzs8 n U r czeI.nd v l djT azai dzcJ dwN Q n hzk8 n N r n 3 r dzaL dzcJ dwN Q n N n U r x J cza4 O x J Q n hzk8 n N r n 3 r"
end
def GA (i j:Int) (h:0<j):jj i j=i%j:=by unfold jj;rw [zC h]
def Tt (i j:Int) (h:0<j):wF i j=i/j:=by unfold wF;rw [zC h]
abbrev dF:Str := "abcdefghijklmnopqrstuvwxyz"
def Old (a b:aa):Prop:=∀(n:Nat) so,a[n]?=some so->b[n]?=some so
def Old.refl (a:aa):Old a a:=λ_ _ e=>e
def Old.trans {a b c:aa}(h:Old a b) (h':Old b c):Old a c:=λn so e=>h' n so (h n so e)
def Tu {a b:aa}(h:Pre a b):Old a b:=λn so e=>h.get e
def zI (a d:aa):Old a (a++d):=Tu (Pre.of a d)
theorem GB {g:PV->ze->Option ze}{body:Al}(I:Nat->ze->aa->Prop) (n:Nat) (hb:∀i e st,i<n->I i e st->∃e1 e2 aG,g (.int i) e=some e1/\body e1 st=.ok (.nx e2) aG/\I (i+1) e2 aG) :
  ∀(k i:Nat) (env:ze) (st:aa),i+k=n->I i env st->∃bA a5,forL g body ((List.range' i k).map λi:Nat=>PV.int i) env st=.ok (.nx bA) a5/\I n bA a5
 |0,i,env,st,hk,h=>⟨env,st,by simp,by rw [<-hk];exact h⟩
 |k+1,i,env,st,hk,h=>by
  obtain ⟨e1,e2,aG,q1,q2,q3⟩:=hb i env st (by omega) h
  obtain ⟨bA,a5,r1,r2⟩:=GB I n hb k (i+1) e2 aG (by omega) q3
  refine ⟨bA,a5,?_,r2⟩
  rw [List.range'_succ,jg]
  unfold forL
  rw [q1]
  simp only
  rw [q2]
  simp only [zL]
  exact r1
def Tv (m:Nat) (st:aa) (h:m<=1000):lZ [.int (m:Int)] st=.ok (.im ((List.range' 0 m).map λi:Nat=>PV.int i)) st:=by
 have hr:cR (m:Int)=true:=by simp [cR];omega
 simp [hr,nums,List.range_eq_range']
def dX (i:Int) (j:Nat) (h:0<j):∃b:Nat,b<j/\jj i j=b:=by
 have h1:=Int.emod_nonneg i (show (j:Int)≠0 by omega)
 have h2:=Int.emod_lt_of_pos i (show (0:Int)<j by omega)
 exact ⟨(i%j).toNat,by omega,by rw [GA _ _ (by omega)];omega⟩
def zP {st:aa}{n:Nat}{so:SO}(h:st[n]?=some so):n<st.length:=(yD.mp h).1
theorem tU {fe:Ak}{env:ze}(xs:Aq) (I:Nat->List PV->aa->Prop) (step:∀i x ys st,xs[i]?=some x->I i ys st->∃y ae,fe (some x::env) st=.ok y ae/\I (i+1) (ys++[y]) ae) :
  ∀(k i:Nat) (ys:Aq) (st:aa),i+k=xs.length->I i ys st->∃cH a5,cB fe env (xs.drop i) ys st=.ok (.ref a5.length) (a5++[.lst cH])/\I xs.length cH a5
 |0,i,ys,st,hk,h=>⟨ys,st,by rw [hZ (by omega)];rfl,by rw [<-hk];exact h⟩
 |k+1,i,ys,st,hk,h=>by
  have hx:xs[i]?=some (xs[i]'(by omega)):=yi (by omega)
  obtain ⟨y,ae,e,h1⟩:=step i _ ys st hx h
  obtain ⟨cH,a5,r,h2⟩:=tU xs I step k (i+1) (ys++[y]) ae (by omega) h1
  refine ⟨cH,a5,?_,h2⟩
  rw [wo (by omega)]
  unfold cB
  rw [e]
  simp only [we,zL]
  exact r
theorem GC {fe:Ak}{env:ze}{n:Nat}(xs:Aq) (I:Nat->List PV->aa->Prop) (at_:∀i ys st,I i ys st->st[n]?=some (.lst xs)) (step:∀i x ys st,xs[i]?=some x->I i ys st->∃y ae,fe (some x::env) st=.ok y ae/\I (i+1) (ys++[y]) ae) :
  ∀(k i m:Nat) (ys:Aq) (st:aa),i+k=xs.length->k<m->I i ys st->∃cH a5,dh fe env n m i ys st=.ok (.ref a5.length) (a5++[.lst cH])/\I xs.length cH a5
 |0,i,m,ys,st,hk,hm,h=>by
  obtain ⟨m,rfl⟩:∃j,m=j+1:=⟨m-1,by omega⟩
  refine ⟨ys,st,?_,by rw [<-hk];exact h⟩
  unfold dh
  rw [yv (at_ _ _ _ h),uU (by omega)]
 |k+1,i,m,ys,st,hk,hm,h=>by
  obtain ⟨m,rfl⟩:∃j,m=j+1:=⟨m-1,by omega⟩
  have hx:xs[i]?=some (xs[i]'(by omega)):=yi (by omega)
  obtain ⟨y,ae,e,h1⟩:=step i _ ys st hx h
  obtain ⟨cH,a5,r,h2⟩:=GC xs I at_ step k (i+1) m (ys++[y]) ae (by omega) (by omega) h1
  refine ⟨cH,a5,?_,h2⟩
  unfold dh
  rw [yv (at_ _ _ _ h),hx]
  simp only
  rw [e]
  simp only [we,zL]
  exact r
abbrev S (l:List Nat):Str:=⟨l.toArray⟩
def Tw (z:Str):S z.cps.toList=z:=by cases z;simp [S]
def GD (l:List Nat):(S l).length=l.length:=by show l.toArray.size=_;simp
def GF (a b:List Nat):S a++S b=S (a++b):=by
 rw [<-Tw (S a++S b),PySem.Str.cps_append]
 congr 1
 simp [S]
def ad (x y:Str) (h:x.length+y.length<=1000000) (st:aa):yd (.str x) (.str y) st=.ok (.str (x++y)) st:=by
 rw [O8,zC h]
def gv {α:Type}{l:List α}{i:Nat}{x:α}(h:l[i]?=some x):l.take (i+1)=l.take i++[x]:=by
 obtain ⟨hi,e⟩:=yD.mp h
 rw [<-e,List.take_append_getElem]
theorem qG {g:PV->ze->Option ze}{body:Al}{n:Nat}(xs:Aq) (I:Nat->ze->aa->Prop) (at_:∀i e st,I i e st->st[n]?=some (.lst xs)) (step:∀i x e st,xs[i]?=some x->I i e st->∃e1 e2 aG,g x e=some e1/\body e1 st=.ok (.nx e2) aG/\I (i+1) e2 aG) :
  ∀(k i m:Nat) (env:ze) (st:aa),i+k=xs.length->k<m->I i env st->∃bA a5,forR g body n m i env st=.ok (.nx bA) a5/\I xs.length bA a5
 |0,i,m,env,st,hk,hm,h=>by
  obtain ⟨m,rfl⟩:∃j,m=j+1:=⟨m-1,by omega⟩
  refine ⟨env,st,?_,by rw [<-hk];exact h⟩
  unfold forR
  rw [yv (at_ _ _ _ h),uU (by omega)]
 |k+1,i,m,env,st,hk,hm,h=>by
  obtain ⟨m,rfl⟩:∃j,m=j+1:=⟨m-1,by omega⟩
  have hx:xs[i]?=some (xs[i]'(by omega)):=yi (by omega)
  obtain ⟨e1,e2,aG,q1,q2,q3⟩:=step i _ env st hx h
  obtain ⟨bA,a5,r,h2⟩:=qG xs I at_ step k (i+1) m e2 aG (by omega) (by omega) q3
  refine ⟨bA,a5,?_,h2⟩
  unfold forR
  rw [yv (at_ _ _ _ h),hx]
  simp only
  rw [q1]
  simp only
  rw [q2]
  simp only [zL]
  exact r
def bu {α:Type}{l:List α}{k:Nat}{x:α}(h:l[k]?=some x):cQ l (k:Int)=some x:=by
 have:=(yD.mp h).1
 have e:=(yD.mp h).2
 simp [cQ,ik,this,e]
def AG (st:aa):wO (.int 10) (.int 9) st=.ok (.int 1000000000) st:=by
 have cp:fG 10 9=true:=by decide
 have pw:((10:Int) ^ (9:Int).toNat)=1000000000:=by decide
 show (if fG 10 9=true then Res.ok (PV.int (10 ^ (9:Int).toNat)) st else .stuck)=_
 rw [zC cp,pw]
def gQ {i j:Int}(b:Bool) (h:decide (i<j)=b) (st:aa):oLt (.int i) (.int j) st=.ok (.bl b) st:=by rw [QI,h]
def br {i j:Int}(b:Bool) (h:decide (i=j)=b) (st:aa):zU (.int i) (.int j) st=.ok (.bl b) st:=by rw [xU,h]
def fj {i j:Int}(b:Bool) (h:decide (j<i)=b) (st:aa):j8 (.int i) (.int j) st=.ok (.bl b) st:=by rw [QJ,h]
def jX (j:Nat):Nat:=(dF.cps.toList[j]?).getD 0
def AH (j:Nat) (hj:j<26) (st:aa):zk (.str dF) (.int j) st=.ok (.str ⟨#[jX j]⟩) st/\jX j∈dF.cps.toList:=by
 have hz:dF.cps.toList.length=26:=by decide +kernel
 have lt:j<dF.cps.toList.length:=by omega
 have hl:dF.length<=1000000:=by decide +kernel
 have e:dF.cps.toList[j]?=some (jX j):=by unfold jX;rw [yi lt];rfl
 refine ⟨?_,jR e⟩
 rw [xC,Pm,zC hl,bu e]
 rfl
def Tx {n i:Nat}{x:PV}(h:(nums 0 n)[i]?=some x):i<n/\x=.int (i:Int):=by
 unfold nums at h
 rw [jd] at h
 cases e:(List.range n)[i]? with
 |none=>rw [e] at h;cases h
 |some j =>
  rw [e] at h
  obtain ⟨h1,h2⟩:=yD.mp e
  rw [List.getElem_range] at h2
  rw [List.length_range] at h1
  cases h
  exact ⟨h1,by subst h2;simp⟩
def AI (n:Nat):(nums 0 n).length=n:=by simp [nums]
def Tz (m:Nat) (st:aa) (h:m<=1000):lZ [.int (m:Int)] st=.ok (.im (nums 0 m)) st:=by
 have hr:cR (m:Int)=true:=by simp [cR];omega
 rw [PU,zC hr];simp
def qH {fe:Ak}{fs:Aj}{env:ze}{st s0:aa}(n:Nat) (hn:n<=1000) (hf:fs env st=.ok [.int (n:Int)] s0) (I:Nat->List PV->aa->Prop) (step:∀i ys st,i<n->I i ys st->∃y ae,fe (Aw i::env) st=.ok y ae/\I (i+1) (ys++[y]) ae) (h0:I 0 [] s0) :
  ∃cH a5,(y9 (cf fs) fe) env st=.ok (.ref a5.length) (a5++[.lst cH])/\I n cH a5:=by
 obtain ⟨ys,s1,C,h⟩:=tU (fe:=fe) (env:=env) (nums 0 n) I (λi x ys st hx h=>by
  obtain ⟨hi,rfl⟩:=Tx hx
  exact step i ys st hi h) n 0 [] s0 (by rw [AI];omega) h0
 rw [AI] at h
 refine ⟨ys,s1,?_,h⟩
 rw [nY,Ej,hf,zL,Tz n _ hn,zL,sD,zC (by rw [AI];simp [lim];omega)]
 exact C
theorem AJ:∀cs:List Nat,strsOf (cs.map λc=>PV.str ⟨#[c]⟩)=some (cs.map λc=>(⟨#[c]⟩:Str))
 |[]=>rfl
 |c::cs=>by simp [strsOf,AJ cs]
def GG:("" : Str).length=0:=by decide +kernel
def qI {fo fi fv:Ak}{e:ze}{s s1:aa}{r:Nat}{z:Str}{x:PV}{ks:Ae}{xs:Aq}(hv:fv e s=.ok x s1) (ho:fo e s1=.ok (.ref r) s1) (hi:fi e s1=.ok (.str z) s1) (hr:s1[r]?=some (.dic ks xs)) (hl:ks.length<=1000) :
  yL fo fi fv e s=.ok (.nx e) (s1.set r (.dic (jk z x ks xs).1 (jk z x ks xs).2)):=by
 unfold yL
 rw [hv,zL,ho,zL,hi,zL]
 show (jv s1 r _).bind _=_
 rw [qj hr,zC (by simp [lim];omega),zL]
def AK {fs:Aj}{gt:PV->ze->Option ze}{body:Al}{e:ze}{st s0:aa}(I:Nat->ze->aa->Prop) (n:Nat) (hn:n<=1000) (hf:fs e st=.ok [.int (n:Int)] s0) (step:∀i e st,i<n->I i e st->∃e1 e2 aG,gt (.int (i:Int)) e=some e1/\body e1 st=.ok (.nx e2) aG/\I (i+1) e2 aG) (h0:I 0 e s0) :
  ∃e' s',yF (cf fs) gt body e st=.ok (.nx e') s'/\I n e' s':=by
 obtain ⟨e',s',F,h⟩:=GB (g:=gt) (body:=body) I n step n 0 e s0 (by omega) h0
 refine ⟨e',s',?_,h⟩
 rw [xm,Ej,hf,zL,Tv n _ hn,zL,Ph]
 exact F
def tV {a c:List Nat}(h:S a=S c):a=c:=by have:=congrArg (λz:Str=>z.cps.toList) h;simpa [S] using this
def TC {z:Str}{i c:Nat}(hl:z.length<=1000) (h:z.cps.toList[i]?=some c) (st:aa):zk (.str z) (.int (i:Int)) st=.ok (.str ⟨#[c]⟩) st:=by
 rw [xC,zC (by simp [lim];omega),bu h]
 rfl
def TF (c:Nat) (m:Nat) (hm:0<m):wF (c:Int) (m:Int)=((c/m:Nat):Int):=by rw [Tt _ _ (by omega)];exact (Int.natCast_ediv c m).symm
def TH (c:Nat) (m:Nat) (hm:0<m):jj (c:Int) (m:Int)=((c%m:Nat):Int):=by rw [GA _ _ (by omega)];exact (Int.natCast_emod c m).symm
def wm {st:aa}(c m:Nat) (hm:0<m) (h2:m<2 ^ 60):yV (.int (c:Int)) (.int (m:Int)) st=.ok (.int ((c/m:Nat):Int)) st:=by rw [xT _ _ (by omega) (by omega),TF c m hm]
def jI {st:aa}(c m:Nat) (hm:0<m):yx (.int (c:Int)) (.int (m:Int)) st=.ok (.int ((c%m:Nat):Int)) st:=by rw [iU _ _ (by omega),TH c m hm]
def gR {st:aa}(a b:Nat):yd (.int (a:Int)) (.int (b:Int)) st=.ok (.int ((a+b:Nat):Int)) st:=by rw [wU];congr 2
def qJ {st:aa}(a b:Nat) (h:a<2 ^ 60\/b<2 ^ 60):yI (.int (a:Int)) (.int (b:Int)) st=.ok (.int ((a*b:Nat):Int)) st:=by
 rw [gu _ _ (by simp only [cV,Bool.or_eq_true,wB,m8];exact h.elim (λh=>.inl ⟨by omega,by omega⟩) (λh=>.inr ⟨by omega,by omega⟩))]
 congr 2
def TJ {α:Type}{l:List α}(nd:l.Nodup) {i j:Nat}(hi:i<l.length) (hj:j<l.length) (h:l[i]=l[j]):i=j:=by
 have p:=List.pairwise_iff_getElem.mp nd
 rcases Nat.lt_trichotomy i j with q|q|q
 ·exact absurd h (p i j hi hj q)
 ·exact q
 ·exact absurd h.symm (p j i hj hi q)
def gn {fo fi fv:Ak}{e:ze}{s:aa}{n i:Nat}{x:PV}{xs:Aq}(hv:fv e s=.ok x s) (ho:fo e s=.ok (.ref n) s) (hi:fi e s=.ok (.int (i:Int)) s) (h:s[n]?=some (.lst xs)) (hl:i<xs.length):qk fo fi fv e s=.ok (.nx e) (s.set n (.lst (xs.set i x))):=by
 unfold qk
 rw [hv,zL,ho,zL,hi,zL]
 show (yq s n _).bind _=_
 rw [yv h,zC hl,zL]
def TK {i j:Nat}{f:Ak}{e:ze}{st s1:aa}{x y:PV}(h:f e st=.ok (.tup [x,y]) s1):kI (g2 i j) f e st=.ok (.nx ((e.set i (some x)).set j (some y))) s1:=by
 unfold kI
 rw [h,zL]
 rfl
def jY {f fa fb:Ak}{e:ze}{st s1 s2 s3:aa}{x y z:PV}(h:f e st=.ok x s1) (h':fa e s1=.ok y s2) (h2:fb e s2=.ok z s3):zf f (zf fa (zf fb zj)) e st=.ok [x,y,z] s3:=wb h (zF h' h2)
def gT {f fa fb fc:Ak}{e:ze}{st s1 s2 s3 s4:aa}{x y z w:PV}(h:f e st=.ok x s1) (h':fa e s1=.ok y s2) (h2:fb e s2=.ok z s3) (h3:fc e s3=.ok w s4):zf f (zf fa (zf fb (zf fc zj))) e st=.ok [x,y,z,w] s4:=wb h (jY h' h2 h3)
def gw {s:aa}{n:Nat}{xs:Aq}{y:PV}(h:s[n]?=some (.lst xs)) (hl:xs.length<=100000):yY (.ref n) y s=.ok .non (s.set n (.lst (xs++[y]))):=by rw [El,yv h,zC (by simp [lim];omega)]
def TL {s:aa}{xs:Aq}:jO [.tup xs] s=.ok (.ref s.length) (s++[.lst xs]):=by
 show pQ [.tup xs] s=_
 rfl
def yB {x:PV}{r:Aq}{st:aa}:zk (.tup (x::r)) (.int 0) st=.ok x st:=by
 have e:=bu (l:=x::r) (k:=0) (x:=x) rfl
 exact (congrArg (λz=>b_ z st) e).trans rfl
def yh {x y:PV}{r:Aq}{st:aa}:zk (.tup (x::y::r)) (.int 1) st=.ok y st:=by
 have e:=bu (l:=x::y::r) (k:=1) (x:=y) rfl
 exact (congrArg (λz=>b_ z st) e).trans rfl
def y8 {x y z:PV}{r:Aq}{st:aa}:zk (.tup (x::y::z::r)) (.int 2) st=.ok z st:=by
 have e:=bu (l:=x::y::z::r) (k:=2) (x:=z) rfl
 exact (congrArg (λz=>b_ z st) e).trans rfl
def wx {x y z w:PV}{r:Aq}{st:aa}:zk (.tup (x::y::z::w::r)) (.int 3) st=.ok w st:=by
 have e:=bu (l:=x::y::z::w::r) (k:=3) (x:=w) rfl
 exact (congrArg (λz=>b_ z st) e).trans rfl
def mJ {xs ys:Aq}{st:aa}(h:xs.length+ys.length<=1000000):yd (.tup xs) (.tup ys) st=.ok (.tup (xs++ys)) st:=by
 show (if xs.length+ys.length<=lim then _ else _)=_
 rw [zC (by simpa [lim] using h)]
def eqs (a b:Str) (c:Bool) (h:decide (a=b)=c) (st:aa):zU (.str a) (.str b) st=.ok (.bl c) st:=by rw [QK,h]
def TM {s:aa}{w:Nat}{W:Aq}{x:PV}(h:s[w]?=some (.lst (W++[x]))):sv (.ref w) s=.ok x (s.set w (.lst W)):=by
 show yq s w _=_
 rw [yv h]
 have e:(W++[x])[(W++[x]).length-1]?=some x:=by simp
 simp only [e,List.dropLast_concat]
def GH {s:aa}{m n:Nat}{xs ys:Aq}(h:s[m]?=some (.lst xs)) (h':s[n]?=some (.lst ys)) (hl:xs.length+ys.length<=1000000):yd (.ref m) (.ref n) s=.ok (.ref s.length) (s++[.lst (xs++ys)]):=by
 show yq s m _=_
 rw [yv h,yv h']
 exact zC (by simpa [lim] using hl)
def n1:("let" : Str) ≠ "call" := by decide +kernel
def n2:("let" : Str) ≠ "go" := by decide +kernel
def n3:("give" : Str) ≠ "call" := by decide +kernel
def n4:("give" : Str) ≠ "go" := by decide +kernel
def n5:("fail" : Str) ≠ "call" := by decide +kernel
def n6:("fail" : Str) ≠ "go" := by decide +kernel
def n7:("go" : Str) ≠ "call" := by decide +kernel
def n8:("if" : Str) ≠ "call" := by decide +kernel
def n9:("if" : Str) ≠ "go" := by decide +kernel
def AL:("go" : Str) ≠ "let" := by decide +kernel
def TQ:("if" : Str) ≠ "let" := by decide +kernel
def bF {a b:Str}(h:a≠b) (st:aa):zU (.str a) (.str b) st=.ok (.bl false) st:=eqs a b false (by simpa using h) st
def du {a:Str}(st:aa):zU (.str a) (.str a) st=.ok (.bl true) st:=eqs a a true (by simp) st
def q0 {z y:Str}{c:Bool}{e:ze}{r:Aq}{s:aa}{i:Nat}(hi:e[i]?=some (some (.tup (.str z::r)))) (h:zU (.str z) (.str y) s=.ok (.bl c) s):(mB (zc zU (zc zk (za i) (At 0)) (Au y))) e s=.ok c s:=zO (zh (zh (zb hi) rfl yB) rfl h)
def qK (z:Str) (c:Bool) (h:((("let" : Str)==z)||(("call" : Str)==z))=c) (st:aa):yA false (.str z) (.tup [.str "let", .str "call"]) st=.ok (.bl c) st:=by
 rw [Ek,zC ⟨rfl,rfl,by simp [dI,dep]⟩]
 simp [bN,h]
theorem GI {ft:Am}{fe:Ak}{env:ze}{st:aa}{p:PV->Bool}{f:PV->PV}:∀(xs:Aq),(∀x∈xs,ft (some x::env) st=.ok (p x) st)->(∀x∈xs,p x=true->fe (some x::env) st=.ok (f x) st)->∀ys,cK ft fe env xs ys st=.ok (.ref st.length) (st++[.lst (ys++xs.flatMap λx=>if p x=true then [f x] else [])])
 |[],_,_,ys=>by simp [cK]
 |x::xs,h,h',ys=>by
  have ih:=GI xs (λy hy=>h y (jZ _ hy)) (λy hy=>h' y (jZ _ hy))
  unfold cK
  rw [h x (jC ..)]
  simp only [we,zL]
  cases hp:p x with
  |true =>
   simp only [if_true]
   rw [h' x (jC ..) hp]
   simp only [we,zL]
   rw [ih]
   simp [hp]
  |false =>
   rw [zQ (by simp),ih]
   simp [hp]
theorem GJ {ft:Am}{fe:Ak}{env:ze}{st:aa}{n:Nat}{p:PV->Bool}{f:PV->PV}(xs:Aq) (hn:st[n]?=some (.lst xs)) (h:∀x∈xs,ft (some x::env) st=.ok (p x) st) (h':∀x∈xs,p x=true->fe (some x::env) st=.ok (f x) st):∀(k i m:Nat) (ys:Aq),i+k=xs.length->k<m->dD ft fe env n m i ys st=.ok (.ref st.length) (st++[.lst (ys++(xs.drop i).flatMap λx=>if p x=true then [f x] else [])])
 |0,i,m,ys,hk,hm=>by
  obtain ⟨m,rfl⟩:∃j,m=j+1:=⟨m-1,by omega⟩
  unfold dD
  rw [yv hn,uU (by omega),hZ (by omega)]
  simp
 |k+1,i,m,ys,hk,hm=>by
  obtain ⟨m,rfl⟩:∃j,m=j+1:=⟨m-1,by omega⟩
  have hi:i<xs.length:=by omega
  have hx:xs[i]?=some (xs[i]'hi):=yi hi
  have mem:=List.getElem_mem hi
  have ih:=GJ (ft:=ft) (fe:=fe) (env:=env) xs hn h h' k (i+1) m
  unfold dD
  rw [yv hn,hx]
  simp only
  rw [h _ mem]
  simp only [we,zL]
  rw [wo hi,h_]
  cases hp:p (xs[i]'hi) with
  |true =>
   simp only [if_true]
   rw [h' _ mem hp]
   simp only [we,zL]
   rw [ih _ (by omega) (by omega)]
   simp
  |false =>
   rw [zQ (by simp),ih _ (by omega) (by omega)]
   simp
theorem di {g:PV->ze->Option ze}{body:Al}(xs:Aq) (I:Nat->ze->aa->Prop) (step:∀i x e st,xs[i]?=some x->I i e st->∃e1 e2 aG,g x e=some e1/\body e1 st=.ok (.nx e2) aG/\I (i+1) e2 aG) :
  ∀(k i:Nat) (env:ze) (st:aa),i+k=xs.length->I i env st->∃bA a5,forL g body (xs.drop i) env st=.ok (.nx bA) a5/\I xs.length bA a5
 |0,i,env,st,hk,h=>⟨env,st,by rw [hZ (by omega)];rfl,by rw [<-hk];exact h⟩
 |k+1,i,env,st,hk,h=>by
  have hx:xs[i]?=some (xs[i]'(by omega)):=yi (by omega)
  obtain ⟨e1,e2,aG,q1,q2,q3⟩:=step i _ env st hx h
  obtain ⟨bA,a5,r,h2⟩:=di xs I step k (i+1) e2 aG (by omega) q3
  refine ⟨bA,a5,?_,h2⟩
  rw [wo (by omega)]
  unfold forL
  rw [q1]
  simp only
  rw [q2]
  simp only [zL]
  exact r
section
variable {e:ze} {st s s1 s2:aa} {fo fv:Ak} {fs:Aj} {g:Al} {x:PV} {xs ys:Aq} {c:Str} {ks:Ae} {o n:Nat}
def m5 {m n:Nat}(hl:xs.length=m) (h:g (xs.map some++List.replicate (n-m) none) st=.ok (.nx e) s1):yb m n g xs st=.ok .non s1:=by
 unfold yb
 rw [zC hl,h]
 rfl
def tW {fn:Str}(h:s[o]?=some (.ins c ks xs)) (hi:insOf c=true) (hl:(ks.zip xs).lookup fn=some x):bX fn insOf excOf (.ref o) s=.ok x s:=by
 rw [D0,xo h,zC hi,hl]
 rfl
def kR {fn:Str}(hv:fv e s=.ok x s1) (ho:fo e s1=.ok (.ref o) s1) (h:s1[o]?=some (.ins c ks xs)) (hi:insOf c=true) (hl:ks.length<1000):sFld fn insOf fo fv e s=.ok (.nx e) (s1.set o (.ins c (Mi.putK fn x ks xs).1 (Mi.putK fn x ks xs).2)):=by
 rw [Pj,hv,zL,ho,zL]
 show (jA s1 o _).bind _=_
 rw [xo h,zC ⟨hi,hl⟩,zL]
def gU {name:Str}{tab:Str->Option (An)}{m:An}{X:Res PV}(ho:fo e s=.ok (.ref o) s1) (h:s1[o]?=some (.ins c ks xs)) (hn:name∉ks) (ht:tab c=some m) (hf:fs e s1=.ok ys s2) (hm:m (.ref o::ys) s2=X):jG name tab fo fs e s=X:=by
 unfold jG
 rw [ho,zL]
 show jA s1 o _=_
 unfold jA
 rw [h]
 simp only
 rw [zQ hn,ht]
 simp only
 rw [hf,zL,hm]
def bp (h:s[n]?=some (.lst xs)):yo [.ref n] s=.ok (.int xs.length) s:=by
 unfold yo
 simp only [h]
 rw [O9,yv h]
def TU {so:SO}(h:s[n]?=some so):s.set n so=s:=by
 obtain ⟨hn,rfl⟩:=yD.mp h
 exact List.set_getElem_self hn
end
def AO {s:aa}{d:Nat}{ks:Ae}{xs:Aq}{z:Str}{b:Bool}(h:s[d]?=some (.dic ks xs)) (hb:((ks.zip xs).lookup z).isSome=b):yA false (.str z) (.ref d) s=.ok (.bl b) s:=by
 simp [yA,h,hb]
section
variable {s:aa}
def mK (st:aa) (a b:SO):(st++[a]).set st.length b=st++[b]:=by simp
def wW {fo fi fv:Ak}{e:ze}{s s1:aa}{r:Nat}{z:Str}{x:PV}{ks eJ:Ae}{xs e6:Aq}(hd:jk z x ks xs=(eJ,e6)) (hv:fv e s=.ok x s1) (ho:fo e s1=.ok (.ref r) s1) (hi:fi e s1=.ok (.str z) s1) (hr:s1[r]?=some (.dic ks xs)) (hl:ks.length<=1000) :
  yL fo fi fv e s=.ok (.nx e) (s1.set r (.dic eJ e6)):=by
 have h:=qI hv ho hi hr hl
 rw [hd] at h
 exact h
end
def AQ {l:Ae}(nd:l.Nodup) {i:Nat}{z:Str}(hz:l[i]?=some z):z∉l.take i:=λhm=>by
 obtain ⟨j,hj⟩:=List.getElem?_of_mem hm
 have jl:j<i:=by have:=(yD.mp hj).1;simp at this;omega
 rw [List.getElem?_take_of_lt jl] at hj
 obtain ⟨h1,h2⟩:=yD.mp hj
 obtain ⟨h3,h4⟩:=yD.mp hz
 have:=TJ nd h1 h3 (h2.trans h4.symm)
 omega
def wI {z:Str}{x:PV}{ks:Ae}{xs:Aq}(h:z∉ks):jk z x ks xs=(ks++[z],xs++[x]):=by
 unfold jk
 rw [zQ (by simpa using h)]
def i_ {g:PV->ze->Option ze}{body:Al}{x:PV}{r:Aq}{e e1 e2:ze}{s s1:aa}{X:Res Fl}(h:g x e=some e1) (hb:body e1 s=.ok (.nx e2) s1) (hr:forL g body r e2 s1=X):forL g body (x::r) e s=X:=by
 unfold forL
 rw [h]
 simp only
 rw [hb,zL]
 exact hr
section
variable {f:Ak} {e:ze} {s:aa} {xs:Aq}
variable {s:aa}
variable {body:Al} {r:Nat} {xs:Aq} {e:ze} {s s1:aa} {X:Res Fl}
variable {s:aa}
def gW {f:Ak}{gt:PV->ze->Option ze}{body:Al}{e:ze}{s s1:aa}{xs:Aq}{X:Res Fl}(h:f e s=.ok (.tup xs) s1) (hX:forL gt body xs e s1=X):yF (yt f) gt body e s=X:=by
 rw [xm,iK,h,zL]
 show (Res.ok (Sq.im xs) s1).bind _=_
 rw [zL]
 exact hX
def wy {f:Ak}{gt:PV->ze->Option ze}{body:Al}{e:ze}{s s1:aa}{r:Nat}{xs:Aq}{X:Res Fl}(h:f e s=.ok (.ref r) s1) (hr:s1[r]?=some (.lst xs)) (hX:forR gt body r (lim+1) 0 e s1=X):yF (yt f) gt body e s=X:=by
 rw [xm,iK,h,zL,xl,yv hr,zL]
 exact hX
end
def j1 {s:aa}{n:Nat}{ks:Ae}{xs:Aq}{z:Str}{x:PV}(h:s[n]?=some (.dic ks xs)) (hl:(ks.zip xs).lookup z=some x):zk (.ref n) (.str z) s=.ok x s:=by
 show jv s n _=_
 unfold jv
 rw [h]
 simp only
 rw [hl]
 rfl
section
variable {e:ze} {s s1 s2:aa} {fo:Ak} {fs:Aj} {xs ys:Aq} {ks:Ae} {c:Str} {o:Nat}
variable {o:Nat} {s:aa}
def TV {name:Str}{tab:Str->Option (An)}{m:An}{X:Res PV}(ho:fo e s=.ok (.ref o) s1) (h:s1[o]?=some (.ins c ks xs)) (hn:name∉ks) (ht:tab c=some m) (hf:fs e s1=.ok ys s2) (hm:m (.ref o::ys) s2=X):fC name tab fo fs e s=X:=by
 unfold fC
 rw [ho,we,zL]
 show jA s1 o _=_
 unfold jA
 rw [h]
 simp only
 rw [zQ hn,ht]
 simp only
 rw [hf,we,zL,hm]
end
section
variable {st:aa} {b:Nat}
variable {s1:aa} {n:Nat} {e:ze}
def kS {t:Am}{b:Al}{e:ze}{st s1:aa}(n:Nat) (h:t e st=.ok false s1):bK t b (n+1) e st=.ok (.nx e) s1:=by rw [D1,h,zL,zQ (by simp)]
def kT {t:Am}{b:Al}{e e2:ze}{st s1 s2:aa}{n:Nat}{X:Res Fl}(h:t e st=.ok true s1) (hb:b e s1=.ok (.nx e2) s2) (hX:bK t b n e2 s2=X):bK t b (n+1) e st=X:=by
 rw [D1,h,zL,zC rfl,hb,zL];exact hX
end
def gy {α:Type}{l:List α}{n:Nat}{x:α}(h:l[n]?=some x):n<l.length:=(yD.mp h).1
section
variable {s s1:aa} {n:Nat} {e:ze}
def qL {fe src:Ak}{xs:Aq}{f:PV->PV}(hs:src e s=.ok (.tup xs) s1) (hl:xs.length<=1000) (h:∀x∈xs,fe (some x::e) s1=.ok (f x) s1):y9 (yt src) fe e s=.ok (.ref s1.length) (s1++[.lst (xs.map f)]):=by
 rw [nY,iK,hs,zL]
 show fD _ _ (.im xs) s1=_
 rw [sD,zC (by simp [lim];omega)]
 have:=Em (f:=f) xs h []
 rw [List.nil_append] at this
 exact this
def GK {fe src:Ak}{xs Y:Aq}(hs:src e s=.ok (.tup xs) s1) (hl:xs.length<=1000) (hy:xs.length=Y.length) (h:∀(i:Nat) x y,xs[i]?=some x->Y[i]?=some y->fe (some x::e) s1=.ok y s1):y9 (yt src) fe e s=.ok (.ref s1.length) (s1++[.lst Y]):=by
 rw [nY,iK,hs,zL]
 show fD _ _ (.im xs) s1=_
 rw [sD,zC (by simp [lim];omega)]
 obtain ⟨ys,s2,C,h1,h2⟩:=tU (fe:=fe) (env:=e) xs (λi ys st=>ys=Y.take i/\st=s1) (λi x ys st hx ⟨h1,h2⟩=>by
  have hi:=gy hx
  have hq:Y[i]?=some (Y[i]'(by omega)):=yi _
  subst h2
  exact ⟨_,_,h i x _ hx hq,by rw [h1,gv hq],rfl⟩) xs.length 0 [] s1 (by omega) ⟨rfl,rfl⟩
 subst h2
 rw [hy,List.take_length] at h1
 subst h1
 exact C
def GL {fe src:Ak}{ft:Am}{xs:Aq}{p:PV->Bool}{f:PV->PV}(hs:src e s=.ok (.ref n) s1) (hn:s1[n]?=some (.lst xs)) (hl:xs.length<=1000) (h:∀x∈xs,ft (some x::e) s1=.ok (p x) s1) (h':∀x∈xs,p x=true->fe (some x::e) s1=.ok (f x) s1):iT (yt src) ft fe e s=.ok (.ref s1.length) (s1++[.lst (xs.flatMap λx=>if p x=true then [f x] else [])]):=by
 rw [ES,iK,hs,zL,xl,yv hn,zL]
 have:=GJ (f:=f) (env:=e) xs hn h h' xs.length 0 (lim+1) [] (by omega) (by simp [lim];omega)
 rw [List.nil_append,List.drop_zero] at this
 exact this
end
section
variable {d:Nat} {s:aa}
variable {b:Int}
variable {b:Nat} {ks:Ae} {xs:Aq}
variable {s:aa} {ks:Ae}
def GN {s:aa}{d:Nat}{ks:Ae}{xs:Aq}{z:Str}{b:Bool}(h:s[d]?=some (.dic ks xs)) (hb:((ks.zip xs).lookup z).isSome=b):yA true (.str z) (.ref d) s=.ok (.bl (!b)) s:=by
 simp [yA,h,hb]
end
def gX {s:aa}{xs:Aq}:jF [.ref s.length] (s++[.lst xs])=.ok (.tup xs) (s++[.lst xs]):=by rw [iN,yv (zV _ _)]
def TY {fv:Ak}{e:ze}{s s1:aa}{i j:Nat}{cn:Str}{x:PV}{cD:Al}(hv:fv e s=.ok x s1):mq i j cn fv cD e s=.ok (.nx (e.set i (some x))) s1:=by
 unfold mq
 rw [hv]
def Kx (ms:List Nat) (s s':aa):Prop:=∀(m:Nat) so,m∉ms->s[m]?=some so->s'[m]?=some so
def Kx.refl (ms:List Nat) (s:aa):Kx ms s s:=λ_ _ _ e=>e
def Kx.trans {ms:List Nat}{a b c:aa}(h:Kx ms a b) (h':Kx ms b c):Kx ms a c:=λm so q e=>h' m so q (h m so q e)
def Old.kx {ms:List Nat}{s s':aa}(h:Old s s'):Kx ms s s':=λm so _ e=>h m so e
def yZ {ms:List Nat}{s:aa}{n:Nat}{so:SO}(h:n∈ms):Kx ms s (s.set n so):=λm x q e=>by
 have ne:n≠m:=λz=>q (z▸h)
 rw [yJ ne];exact e
def oy {fo:Ak}{g:PV->ze->Option ze}{body:Al}{e e1 e2:ze}{s s2:aa}{n:Nat}{k:Str}{x:PV}{ms:List Nat}(ho:fo e s=.ok (.ref n) s) (hn:s[n]?=some (.dic [k] [x])) (hg:g (.str k) e=some e1) (hb:body e1 (s.set n (.fdi [k] [x]))=.ok (.nx e2) s2) (o:Kx ms (s.set n (.fdi [k] [x])) s2) (hm:n∉ms) :
  ∃s3,iQ fo g body e s=.ok (.nx e2) s3/\Kx ms s s3/\∀(m:Nat) so,m≠n->s2[m]?=some so->s3[m]?=some so:=by
 have h2:s2[n]?=some (.fdi [k] [x]):=o _ _ hm (yz (zP hn))
 refine ⟨s2.set n (.dic [k] [x]),?_,λm so q e=>?_,λm so q e=>by rw [yJ (yM q)];exact e⟩
 ·unfold iQ
  rw [ho,zL]
  show jv s n _=_
  rw [qj hn]
  have F:fJ g body [PV.str k] e (s.set n (.fdi [k] [x]))=.ok e2 s2:=by
   unfold fJ
   rw [hg]
   simp only
   rw [hb,we,zL]
   rfl
  show (bC (fJ g body [PV.str k] e (s.set n (.fdi [k] [x])))).bind _=_
  rw [F,we,zL]
  unfold eK
  rw [h2]
 ·by_cases h:m=n
  ·subst h
   rw [yz (zP h2),<-hn];exact e
  ·rw [yJ (yM h)]
   exact o _ _ q (by rw [yJ (yM h)];exact e)
def tX {s:aa}{n:Nat}{k:Str}{x:PV}(h:s[n]?=some (.fdi [k] [x])):jP (.ref n) (.str k) s=.ok x s:=by
 unfold jP
 simp only [h]
 simp
def tY {s:aa}{n:Nat}{so iE:SO}(h:s[n]?=some so):(s.set n iE)[n]?=some iE:=yz (zP h)
abbrev bE (z:Str):PV:=.tup [.str "of", .str z]
abbrev gY (v:PV):PV:=.tup [.str "is", v]
abbrev GO (z w:Str) (as:Aq):PV:=.tup [.str "let", .str z,.str w,.tup as]
abbrev aL (a:PV):PV:=.tup [.str "give", a]
abbrev aW (ss:Aq) (e:PV):PV:=.tup [.tup ss,e]
abbrev TZ (z:Str) (ps:Ae) (ss:Aq) (e:PV):PV:=.tup [.str z,.tup (ps.map PV.str),aW ss e]
def qM {g:PV->ze->Option ze}{body:Al}{r n:Nat}{e:ze}{s:aa}(h:s[r]?=some (.lst [])):forR g body r (n+1) 0 e s=.ok (.nx e) s:=by
 unfold forR
 rw [yv h]
 rfl
def qN {g:PV->ze->Option ze}{body:Al}{r:Nat}{x:PV}{e e1 e2:ze}{s s1:aa}(h:s[r]?=some (.lst [x])) (hg:g x e=some e1) (hb:body e1 s=.ok (.nx e2) s1) (h1:s1[r]?=some (.lst [x])):forR g body r (lim+1) 0 e s=.ok (.nx e2) s1:=by
 show forR g body r (999999+2) 0 e s=_
 unfold forR
 rw [yv h]
 simp only [List.getElem?_cons_zero]
 rw [hg]
 simp only
 rw [hb,zL]
 show forR g body r (999999+1) 1 e2 s1=_
 unfold forR
 rw [yv h1]
 rfl
def tZ {s:aa}{n:Nat}{ks:Ae}{xs:Aq}(h:s[n]?=some (.dic ks xs)):jO [.ref n] s=.ok (.ref s.length) (s++[.lst (ks.map PV.str)]):=by
 unfold jO
 simp only [h]
section
variable {s:aa} {r A L C:Nat} {z:Str}
def T6 (h:s[r]?=some (.lst [])):iX [.ref r] s=.ok (.ref s.length) (s++[.dic [] []]):=by
 have h':(s++[SO.dic [] []])[r]?=some (.lst []):=zI _ _ _ _ h
 exact zR rfl (zo (zD rfl) (zo (wy (zb rfl) h' (qM h')) (zS (zb rfl))))
def T7 (h:s[r]?=some (.lst [.str z])):iX [.ref r] s=.ok (.ref s.length) (s++[.dic [z] [.bl true]]):=by
 have h':(s++[SO.dic [] []])[r]?=some (.lst [.str z]):=zI _ _ _ _ h
 have lr:=zP h
 have D:=wW (wI (z:=z) (x:=.bl true) (ks:=[]) (xs:=[]) (by simp)) (fo:=za 1) (fi:=za 2) (fv:=mC (.bl true)) (e:=[Av r,Av s.length,some (.str z)]) (s:=s++[.dic [] []]) rfl (zb rfl) (zb rfl) (zV _ _) (by simp)
 rw [mK] at D
 exact zR rfl (zo (zD rfl) (zo (wy (zb rfl) h' (qN h' rfl D (zI _ _ _ _ h))) (zS (zb rfl))))
def T8 (hA:s[A]?=some (.dic [z] [.ref L])) (hL:s[L]?=some (.lst [])):∃C K s1,Ay [.ref A] s=.ok (.ref C) s1/\s1[C]?=some (.dic [z] [.ref K])/\s1[K]?=some (.lst [])/\Old s s1:=by
 let C:=s.length
 let t:=s++[SO.dic [] []]
 have lA:=zP hA
 have lL:=zP hL
 have tA:t[A]?=some (.dic [z] [.ref L]):=zI _ _ _ _ hA
 have ne:A≠L:=λq=>by subst q;rw [hA] at hL;cases hL
 let t1:=t.set A (.fdi [z] [.ref L])
 have c1:t1[C]?=some (.dic [] []):=by show (t.set A _)[s.length]?=_;rw [yJ (by omega)];exact zV _ _
 let t2:=t1++[SO.lst []]
 have o2:Old t1 t2:=zI _ _
 have D:=wW (wI (z:=z) (by simp)) (fo:=za 1) (fi:=za 2) (fv:=jb zj) (e:=[Av A,Av C,some (.str z),none]) (s:=t1) (s1:=t2) (x:=.ref t1.length) (jm jQ (by simp)) (zb rfl) (zb rfl) (o2 _ _ c1) (by simp)
 have nC:A∉[C]:=by simp;show A≠s.length;omega
 obtain ⟨t3,E3,k3,h3⟩:=oy (fo:=za 0) (g:=gN 2) (e:=[Av A,Av C,none,none]) (zb rfl) tA rfl D (ms:=[C]) (o2.kx.trans (yZ (by simp))) nC
 have WC:A<t1.length:=by simp [t1,t];omega
 have WD:C<t1.length:=zP c1
 have c3:t3[C]?=some (.dic [z] [.ref t1.length]):=h3 _ _ (by show s.length≠A;omega) (yz (zP (o2 _ _ c1)))
 have EX:t3[t1.length]?=some (.lst []):=h3 _ _ (by omega) (by rw [yJ (by omega)];exact zV _ _)
 have A3:t3[A]?=some (.dic [z] [.ref L]):=k3 _ _ nC tA
 have L3:t3[L]?=some (.lst []):=k3 _ _ (by simp;show L≠s.length;omega) (zI _ _ _ _ hL)
 have f4:(t3.set A (.fdi [z] [.ref L]))[A]?=some (.fdi [z] [.ref L]):=tY A3
 have L4:(t3.set A (.fdi [z] [.ref L]))[L]?=some (.lst []):=by rw [yJ ne];exact L3
 have B4:(yF (yt (zc jP (za 0) (za 2))) (gN 3) yu) [Av A,Av C,some (.str z),none] (t3.set A (.fdi [z] [.ref L]))=.ok (.nx [Av A,Av C,some (.str z),none]) (t3.set A (.fdi [z] [.ref L])):=wy (zh (zb rfl) (zb rfl) (tX f4)) L4 (qM L4)
 obtain ⟨t5,E5,k5,h5⟩:=oy (fo:=za 0) (g:=gN 2) (e:=[Av A,Av C,some (.str z),none]) (zb rfl) A3 rfl B4 (ms:=[]) (Kx.refl _ _) (by simp)
 have o5:Old t3 t5:=λm so q=>k5 _ _ (by simp) q
 exact ⟨C,t1.length,t5,zR rfl (zo (zD rfl) (zo E3 (zo E5 (zS (zb rfl))))),o5 _ _ c3,o5 _ _ EX,λm so q=>o5 _ _ (k3 _ _ (by simp;show m≠s.length;have:=zP q;omega) (zI _ _ _ _ q))⟩
def qO (v:PV) (s:aa):wS v .non s=.ok (.bl (!cW v)) s:=by cases v<;>rfl
def T9 {d:Nat}(h:s[d]?=some (.dic [z] [.bl true])):yA true (.str z) (.ref d) s=.ok (.bl false) s:=GN (b:=true) h (by simp)
end
def oz:("is" : Str) ≠ "of" := by decide +kernel
def GP {fo fk fx:Ak}{e:ze}{s:aa}{n:Nat}{ks:Ae}{xs:Aq}{z:Str}{d:PV}(ho:fo e s=.ok (.ref n) s) (hn:s[n]?=some (.dic ks xs)) (hk:fk e s=.ok (.str z) s) (hx:fx e s=.ok d s):kO fo fk fx e s=.ok (((ks.zip xs).lookup z).getD d) s:=by
 unfold kO
 rw [ho,zL]
 show jv s n _=_
 rw [qj hn]
 simp only
 rw [hk,zL,hx,zL]
 show jv s n _=_
 rw [qj hn]
def AU {n:Nat}(h:n<10 ^ 18):(n:Int).natAbs.log2<60:=by
 have h1:n<2 ^ 60:=Nat.lt_trans h (by decide)
 rw [Int.natAbs_natCast]
 by_cases hz:n=0
 ·rw [hz];decide
 ·exact (Nat.log2_lt hz).mpr h1
def gz (n:Nat):Str:=Str.ofString (toString (n:Int))
def GQ {n:Nat}(h:n<10 ^ 18):(gz n).length<=61:=by
 have e:=int_text_length_le (a:=(n:Int)) (k:=60) (by decide) (AU h)
 unfold gz
 rw [ofString_length]
 omega
def GR {n:Nat}(h:n<10 ^ 18) (st:aa):wR [.int (n:Int)] st=.ok (.str (gz n)) st:=by
 rw [PZ,zC (Nat.lt_trans (AU h) (by decide))];rfl
def GS {z:Str}(hz:z.length<=9) {c:Nat}(h:c<10 ^ 18) (st:aa):iW z (.int (c:Int)) st=.ok (.str (z++gz c)) st:=by
 have l2:=GQ h
 have l3:(z++gz c:Str).length=z.length+(gz c).length:=strLen_append _ _
 have l4:(z++gz c:Str).length<=1000:=by omega
 show (if _ then _ else _)=_
 rw [zC ⟨Nat.lt_trans (AU h) (by decide),l4⟩]
 rfl
def vN (i:Nat):Str := "v" ++ gz i
theorem v0:vN 0 = "v0" := by decide +kernel
theorem v1:vN 1 = "v1" := by decide +kernel
def GU:("q" ++ gz 0:Str) = "q0" := by decide +kernel
def vs (n:Nat):Ae:=(List.range n).map vN
section
variable {s:aa} {N:Nat} {z:Str} {ps:Ae} {e:PV}
def GV {fe src:Ak}{en:ze}{n:Nat}{x y:PV}{s1 s2:aa}(hs:src en s=.ok (.ref n) s1) (hn:s1[n]?=some (.lst [x])) (h:fe (some x::en) s1=.ok y s2) (h2:s2[n]?=some (.lst [x])):y9 (yt src) fe en s=.ok (.ref s2.length) (s2++[.lst [y]]):=by
 rw [nY,iK,hs,zL,xl,yv hn,zL]
 show dh fe en n (999999+1+1) 0 [] s1=_
 unfold dh
 rw [yv hn]
 show (bC (fe (some x::en) s1)).bind _=_
 rw [h,we,zL]
 unfold dh
 rw [yv h2]
 rfl
def ofs (k:Nat):List Str->Aq
 |[]=>[]
 |_::r=>bE (vN k)::ofs (k+1) r
theorem GW:∀(ps:Ae) (k:Nat) (z:Str),ofs k (ps++[z])=ofs k ps++[bE (vN (k+ps.length))]
 |[],k,z=>rfl
 |y::r,k,z=>by
  show bE (vN k)::ofs (k+1) (r++[z])=_
  rw [GW r (k+1) z,show k+1+r.length=k+(y::r).length by simp;omega]
  rfl
theorem AV:∀{ps:Ae}{k i:Nat}{z:Str},ps.Nodup->ps[i]?=some z->(ps.zip (ofs k ps)).lookup z=some (bE (vN (k+i)))
 |y::r,k,0,z,nd,h=>by
  cases h
  show ((y,bE (vN k))::_).lookup y=_
  simp [wL]
 |y::r,k,i+1,z,nd,h=>by
  have h':r[i]?=some z:=h
  have ne:(z==y)=false:=by
   rw [beq_eq_false_iff_ne]
   intro q
   exact (j6.mp nd).1 (q▸jR h')
  have:=AV (ps:=r) (k:=k+1) (j6.mp nd).2 h'
  rw [show k+1+i=k+(i+1) by omega] at this
  show ((y,bE (vN k))::_).lookup z=_
  rw [wL,ne]
  exact this
abbrev bR:Al:=(yL (za 2) (za 4) (yg (zf (Au "of") (zf (yQ (iW "v") (za 3)) zj))))
abbrev eR (f:PV) (N S:Nat) (z3 z4 z5:Ar):ze:=[some f,Av N,Av S,z3,z4,z5]
theorem GX {f:PV}{N S:Nat}:∀(l pre:Ae) {s:aa}{z3 z4:Ar},(pre++l).Nodup->(pre++l).length<=900->s[S]?=some (.dic pre (ofs 0 pre))->∃mL j_ s1,forL (g2 3 4) bR (oi pre.length (l.map PV.str)) (eR f N S z3 z4 none) s=.ok (.nx (eR f N S mL j_ none)) s1/\s1[S]?=some (.dic (pre++l) (ofs 0 (pre++l)))/\Kx [S] s s1
 |[],pre,s,z3,z4,nd,hl,hs=>⟨z3,z4,s,rfl,by rw [List.append_nil];exact hs,Kx.refl _ _⟩
 |y::l,pre,s,z3,z4,nd,hl,hs=>by
  have ny:y∉pre:=λq=>by
   have:=(List.nodup_append.mp nd).2.2 y q y (jC ..)
   exact this rfl
  have lp:pre.length<=900:=by simp at hl;omega
  have l1:("v" : Str).length<=9:=by decide +kernel
  have P:=wW (wI (z:=y) (x:=bE (vN pre.length)) (xs:=ofs 0 pre) ny) (fo:=za 2) (fi:=za 4) (fv:=(yg (zf (Au "of") (zf (yQ (iW "v") (za 3)) zj)))) (e:=eR f N S (some (.int (pre.length:Int))) (some (.str y)) none) (s:=s) (yk (zF rfl (wT (zb rfl) (GS l1 (by omega) _))) (by simp)) (zb rfl) (zb rfl) hs (by omega)
  have ap:=GW pre 0 y
  rw [Nat.zero_add] at ap
  rw [<-ap] at P
  have e1:pre++y::l=(pre++[y])++l:=by simp
  obtain ⟨mL,j_,s1,E,h1,k1⟩:=GX (f:=f) (N:=N) (S:=S) l (pre++[y]) (s:=s.set S (.dic (pre++[y]) (ofs 0 (pre++[y])))) (z3:=some (.int (pre.length:Int))) (z4:=some (.str y)) (by rw [<-e1];exact nd) (by rw [<-e1];exact hl) (yz (zP hs))
  rw [e1]
  refine ⟨mL,j_,s1,?_,h1,(yZ (by simp)).trans k1⟩
  rw [wA] at E
  exact i_ rfl P E
end
section
variable {s:aa} {F A L:Nat} {z:Str}
def T_ (hA:s[A]?=some (.dic [z] [.ref L])) (hL:s[L]?=some (.lst [])) (M:Nat):AB [.str z,.ref A,.ref M] s=.ok (.ref s.length) (s++[.lst [.str z]]):=by
 let t:=s++[SO.lst [.str z]]
 have h:t[s.length]?=some (.lst [.str z]):=zV _ _
 have ot:Old s t:=zI _ _
 have tA:=ot _ _ hA
 have tL:=ot _ _ hL
 have I0:zk (.ref s.length) (.int 0) t=.ok (.str z) t:=by
  show yq _ _ _=_
  rw [yv h];rfl
 have W:bK (mB (zc oLt (za 4) (zq yo (zf (za 3) zj)))) (zp (zB 5 (zc zk (za 3) (za 4))) (zp (yF (yt (zc zk (za 1) (za 5))) (gN 6) yu) (sj 4 lY (At 1)))) 1000000 [some (.str z),Av A,Av M,Av s.length,some (.int 0),none,none] t=.ok (.nx [some (.str z),Av A,Av M,Av s.length,some (.int 1),some (.str z),none]) t:=kT (n:=999999) (zO (zh (zb rfl) (zy (zE (zb rfl)) (bp h)) (gQ true (by simp) _))) (zo (zD (zh (zb rfl) (zb rfl) I0)) (zo (wy (zh (zb rfl) (zb rfl) (j1 tA (by simp))) tL (qM tL)) rfl)) (kS 999998 (zO (zh (zb rfl) (zy (zE (zb rfl)) (bp h)) (gQ false (by simp) _))))
 exact zR rfl (zo (zD (jm (zE (zb rfl)) (by simp))) (zo (zD rfl) (zo W (zS (zb rfl)))))
def Ua (ps:Ae) (nd:ps.Nodup) (hl:ps.length<=900) (st:aa):∃d s1,iX [.tup (ps.map PV.str)] st=.ok (.ref d) s1/\Old st s1:=by
 obtain ⟨e',s1,F,⟨z2,he⟩,hd,ob⟩:=di (g:=gN 2) (body:=(yL (za 1) (za 2) (mC (.bl true)))) (ps.map PV.str) (λi e s=>(∃z2,e=[some (.tup (ps.map PV.str)),Av st.length,z2])/\(∃xs,s[st.length]?=some (.dic (ps.take i) xs))/\Kx [st.length] (st++[.dic [] []]) s) (λi x e s hx ⟨⟨z2,he⟩,⟨xs,hd⟩,ob⟩=>by
  subst he
  rw [jd] at hx
  obtain ⟨z,hz,rfl⟩:=Option.map_eq_some_iff.mp hx
  have P:=wW (wI (z:=z) (x:=.bl true) (AQ nd hz)) (fo:=za 1) (fi:=za 2) (fv:=mC (.bl true)) (e:=[some (.tup (ps.map PV.str)),Av st.length,some (.str z)]) (s:=s) rfl (zb rfl) (zb rfl) hd (by simp;omega)
  exact ⟨_,_,_,rfl,P,⟨_,rfl⟩,⟨_,by rw [yz (zP hd),gv hz]⟩,ob.trans (yZ (by simp))⟩) (ps.map PV.str).length 0 [some (.tup (ps.map PV.str)),Av st.length,none] (st++[SO.dic [] []]) (by omega) ⟨⟨none,rfl⟩,⟨[],zV _ _⟩,Kx.refl _ _⟩
 subst he
 rw [List.drop_zero] at F
 exact ⟨_,_,zR rfl (zo (zD rfl) (zo (gW (zb rfl) F) (zS (zb rfl)))),λm so q=>ob _ _ (by simp;have:=zP q;omega) (zI _ _ _ _ q)⟩
end
section
variable {z:Str}
def Ub (f:PV) (hf:∃ps b,f=.tup [.str z,ps,b]) (s:aa):tm [.tup [f]] s=.ok (.ref s.length) (s++[.dic [z] [f]]):=by
 obtain ⟨q,b,rfl⟩:=hf
 have D:=wW (wI (z:=z) (x:=.tup [.str z,q,b]) (ks:=[]) (xs:=[]) (by simp)) (fo:=za 1) (fi:=zc zk (za 2) (At 0)) (fv:=za 2) (e:=[some (.tup [.tup [.str z,q,b]]),Av s.length,some (.tup [.str z,q,b])]) (s:=s++[SO.dic [] []]) (zb rfl) (zb rfl) (zh (zb rfl) rfl yB) (zV _ _) (by simp)
 rw [mK] at D
 exact zR rfl (zo (zD rfl) (zo (gW (zb rfl) (i_ rfl D rfl)) (zS (zb rfl))))
end
abbrev d6 (a b c:PV):PV:=.tup [.str "if", a,aW [] (aL b),aW [] (aL c)]
def cZ (a:PV):Prop:=(∃z,a=bE z)\/∃v,a=gY v
structure St where
 z:Str
 o:Str
 as:Aq
abbrev St.v (t:St):PV:=GO t.z t.o t.as
inductive En where
 |give (a:PV)
 |ite (x:Str) (b c:PV)
def En.v:En->PV
 |.give a=>aL a
 |.ite x b c=>d6 (bE x) b c
def En.ls:En->Aq
 |.give a=>[aL a]
 |.ite x b c=>[d6 (bE x) b c,aL b,aL c]
def En.ok:En->Prop
 |.give a=>cZ a
 |.ite _ b c=>cZ b/\cZ c
abbrev bh (z:Str) (ps:Ae) (ss:List St) (E:En):PV:=TZ z ps (ss.map St.v) E.v
def mM:("give" : Str) ≠ "if" := by decide +kernel
def gf:("give" : Str) ≠ "fail" := by decide +kernel
def AW:("if" : Str) ≠ "fail" := by decide +kernel
def t_:("if" : Str) ≠ "give" := by decide +kernel
def AX:("of" : Str) ≠ "is" := by decide +kernel
section
variable {ss:List St} {E:En} {s:aa} {z:Str} {ps:Ae}
def AY (n:Nat) (ss:Aq) (hl:ss.length<=1000) (a:PV) (s:aa):gP (n+1) [aW ss (aL a)] s=.ok (.tup (ss++[aL a])) s:=by
 show tq _ [aW ss (aL a)] s=_
 exact zR rfl (zo (zD (zh (zb rfl) rfl yh)) (zo (zD (zh (zh (zb rfl) rfl yB) (yk (zE (zb rfl)) (by simp)) (mJ (xs:=ss) (ys:=[aL a]) (by simp;omega)))) (zo (zZ (q0 rfl (bF mM _))) (zS (zb rfl)))))
def AZ (hl:ss.length<=900) (E:En) (s:aa):gP 3 [aW (ss.map St.v) E.v] s=.ok (.tup (ss.map St.v++E.ls)) s:=by
 cases E with
 |give a=>exact AY 2 _ (by simp;omega) a s
 |ite x b c =>
  show tq (gP 2) [aW (ss.map St.v) (d6 (bE x) b c)] s=_
  have L1:=AY 1 [] (by simp) b s
  have L2:=AY 1 [] (by simp) c s
  have e:ss.map St.v++En.ls (.ite x b c)=ss.map St.v++[d6 (bE x) b c]++([]++[aL b])++([]++[aL c]):=by simp [En.ls]
  rw [e]
  exact zR rfl (zo (zD (zh (zb rfl) rfl yh)) (zo (zD (zh (zh (zb rfl) rfl yB) (yk (zE (zb rfl)) (by simp)) (mJ (xs:=ss.map St.v) (ys:=[d6 (bE x) b c]) (by simp;omega)))) (jH (yG (q0 rfl (du _)) (zS (zh (zh (zb rfl) (zy (zE (zh (zb rfl) rfl y8)) L1) (mJ (by simp;omega))) (zy (zE (zh (zb rfl) rfl wx)) L2) (mJ (by simp;omega))))))))
def ua (E:En):E.ls.length<=3:=by cases E<;>simp [En.ls]
def uc {x:PV} (h:x∈E.ls):∃w r,x=.tup (.str w::r)/\(w = "give" \/ w = "if"):=by
 cases E with
 |give a=>rw [jJ.mp h];exact ⟨_,_,rfl,.inl rfl⟩
 |ite y b c =>
  simp only [En.ls,yE,List.not_mem_nil,j5] at h
  rcases h with rfl|rfl|rfl
  ·exact ⟨_,_,rfl,.inr rfl⟩
  ·exact ⟨_,_,rfl,.inl rfl⟩
  ·exact ⟨_,_,rfl,.inl rfl⟩
def Uc {x:PV}(h:x∈ss.map St.v++E.ls) (s:aa):tu [x] s=.ok .non s:=by
 rcases jy.mp h with h|h
 ·obtain ⟨t,_,rfl⟩:=wC.mp h
  exact zR rfl (zo (zZ (q0 rfl (bF n1 _))) (zo (zZ (q0 rfl (bF n2 _))) (zS rfl)))
 ·obtain ⟨w,r,rfl,rfl|rfl⟩:=uc h
  ·exact zR rfl (zo (zZ (q0 rfl (bF n3 _))) (zo (zZ (q0 rfl (bF n4 _))) (zS rfl)))
  ·exact zR rfl (zo (zZ (q0 rfl (bF n8 _))) (zo (zZ (q0 rfl (bF n9 _))) (zS rfl)))
def Ud {x:PV}(h:x∈E.ls) (s:aa):mH [x] s=.ok (.bl false) s:=by
 obtain ⟨w,r,rfl,rfl|rfl⟩:=uc h
 ·exact zR rfl (zS (zh (zh (zb rfl) rfl yB) (yk (zF rfl rfl) (by simp)) (qK "give" false (by decide +kernel) _)))
 ·exact zR rfl (zS (zh (zh (zb rfl) rfl yB) (yk (zF rfl rfl) (by simp)) (qK "if" false (by decide +kernel) _)))
def Ue (t:St) (s:aa):mH [t.v] s=.ok (.bl true) s:=zR rfl (zS (zh (zh (zb rfl) rfl yB) (yk (zF rfl rfl) (by simp)) (qK "let" true (by decide +kernel) _)))
def GY (hl:ss.length<=900) (E:En) (s:aa):∃s1,mE [aW (ss.map St.v) E.v] s=.ok (.tup []) s1/\Old s s1:=by
 have l3:=ua E
 have C:=qL (e:=[some (aW (ss.map St.v) E.v),none]) (fe:=zq tu (zf (za 0) zj)) (f:=λ_=>.non) (s:=s) (s1:=s) (src:=zq (gP 3) (zf (za 0) zj)) (zy (zE (zb rfl)) (AZ hl E s)) (by simp;omega) (λx hx=>zy (zE (zb rfl)) (Uc hx s))
 have D:=GL (e:=[some (aW (ss.map St.v) E.v),Av s.length]) (src:=za 1) (ft:=mB (zc wS (za 0) (mC .non))) (fe:=za 0) (p:=λ_=>false) (f:=id) (n:=s.length) (zb rfl) (zV s (.lst ((ss.map St.v++E.ls).map λ_=>PV.non))) (by simp;omega) (λx hx=>by
  obtain ⟨_,_,rfl⟩:=wC.mp hx
  exact zO (zh (zb rfl) rfl rfl)) (λx hx q=>by cases q)
 have e0:(((ss.map St.v++E.ls).map λ_=>PV.non).flatMap λx=>if false=true then [id x] else [])=([]:Aq):=by simp
 rw [e0] at D
 exact ⟨_,zR rfl (zo (zD C) (zS (zy (zE D) gX))),(zI _ _).trans (zI _ _)⟩
def mN:PV->Bool
 |.tup [.str w,_,_,_]=>decide (w = "let")
 |_=>false
def GZ:PV->PV
 |.tup [_,z,_,_]=>z
 |_=>.non
def A0 (E:En):∀x∈E.ls,mN x=false:=by
 cases E with
 |give a=>intro x h;rw [jJ.mp h];rfl
 |ite y b c =>
  intro x h
  simp only [En.ls,yE,List.not_mem_nil,j5] at h
  rcases h with rfl|rfl|rfl
  ·exact jo (yM TQ)
  ·rfl
  ·rfl
theorem G0 (E:En):∀ss:List St,((ss.map St.v++E.ls).flatMap λx=>if mN x=true then [GZ x] else [])=(ss.map St.z).map PV.str
 |[]=>by
  rw [List.map_nil,List.nil_append,List.map_nil,List.map_nil]
  exact List.flatMap_eq_nil_iff.mpr λx hx=>by rw [zQ (by rw [A0 E x hx];simp)]
 |t::ss=>by
  rw [jg,List.cons_append,h_,G0 E ss,zC (show mN t.v=true by simp [mN])]
  rfl
def G1 (hl:ss.length<=900) (E:En) (s:aa):qE [aW (ss.map St.v) E.v] s=.ok (.tup ((ss.map St.z).map PV.str)) (s++[.lst ((ss.map St.z).map PV.str)]):=by
 have l3:=ua E
 have C:(iT (yt (zq (gP 3) (zf (za 0) zj))) (mB (zq mH (zf (za 0) zj))) (zc zk (za 0) (At 1))) [some (aW (ss.map St.v) E.v)] s=.ok (.ref s.length) (s++[.lst ((ss.map St.z).map PV.str)]):=by
  rw [ES,iK,zy (zE (zb rfl)) (AZ hl E s),zL]
  have:=GI (ft:=(mB (zq mH (zf (za 0) zj)))) (fe:=(zc zk (za 0) (At 1))) (env:=[some (aW (ss.map St.v) E.v)]) (st:=s) (p:=mN) (f:=GZ) (ss.map St.v++E.ls) (λx hx=>by
   rcases jy.mp hx with h|h
   ·obtain ⟨t,_,rfl⟩:=wC.mp h
    rw [show mN t.v=true by simp [mN]]
    exact zO (zy (zE (zb rfl)) (Ue t s))
   ·rw [A0 E x h]
    exact zO (zy (zE (zb rfl)) (Ud h s))) (λx hx q=>by
   rcases jy.mp hx with h|h
   ·obtain ⟨t,_,rfl⟩:=wC.mp h
    exact zh (zb rfl) rfl yh
   ·rw [A0 E x h] at q;cases q) []
  rw [List.nil_append,G0] at this
  show (if (ss.map St.v++E.ls).length<=lim then cK _ _ _ _ _ _ else .stuck)=_
  rw [zC (by simp [lim];omega)]
  exact this
 exact zR rfl (zS (zy (zE C) gX))
def G3 (hl:ss.length<=900) (he:E.ok):∃v,∀s,mF [bh z ps ss E] s=.ok v s:=by
 have LN:∀s,yo [.tup (ss.map St.v)] s=.ok (.int ((ss.map St.v).length:Int)) s:=λs=>sN _
 have T0:∀{b:Bool},decide (((ss.map St.v).length:Int)=0)=b->∀s,(mB (zc zU (zq yo (zf (zc zk (za 1) (At 0)) zj)) (At 0))) [some (bh z ps ss E),some (aW (ss.map St.v) E.v)] s=.ok b s:=λhb s=>zO (zh (zy (zE (zh (zb rfl) rfl yB)) (LN s)) rfl (br _ hb _))
 by_cases h0:(ss.map St.v).length=0
 ·cases E with
  |give a =>
   rcases he with ⟨w,rfl⟩|⟨v,rfl⟩
   ·exact ⟨.non,λs=>zR rfl (zo (zD (zh (zb rfl) rfl y8)) (zo (zZ (wu (T0 (wq (by omega)) s) (wu (zO (zh (zh (zh (zb rfl) rfl yh) rfl yB) rfl (du _))) (zO (zh (zh (zh (zh (zb rfl) rfl yh) rfl yh) rfl yB) rfl (bF AX _)))))) (zS rfl)))⟩
   ·exact ⟨_,λs=>zR rfl (zo (zD (zh (zb rfl) rfl y8)) (jH (yG (wu (T0 (wq (by omega)) s) (wu (zO (zh (zh (zh (zb rfl) rfl yh) rfl yB) rfl (du _))) (zO (zh (zh (zh (zh (zb rfl) rfl yh) rfl yh) rfl yB) rfl (du _))))) (zS (zh (zh (zb rfl) rfl yh) rfl yh)))))⟩
  |ite x b c=>exact ⟨.non,λs=>zR rfl (zo (zD (zh (zb rfl) rfl y8)) (zo (zZ (wu (T0 (wq (by omega)) s) (gO (zO (zh (zh (zh (zb rfl) rfl yh) rfl yB) rfl (bF t_ _)))))) (zS rfl)))⟩
 ·exact ⟨.non,λs=>zR rfl (zo (zD (zh (zb rfl) rfl y8)) (zo (zZ (gO (T0 (jo (by omega)) s))) (zS rfl)))⟩
end
section
variable {s:aa} {r F A L C:Nat} {z:Str} {ps:Ae} {ss:List St} {E:En}
def G5 (hl:ss.length<=900) (hF:s[F]?=some (.dic [z] [bh z ps ss E])):∃A L s1,tD [.ref F] s=.ok (.ref A) s1/\s1[A]?=some (.dic [z] [.ref L])/\s1[L]?=some (.lst [])/\Old s s1:=by
 let A:=s.length
 let t:=s++[SO.dic [] []]
 have lF:=zP hF
 have tF:t[F]?=some (.dic [z] [bh z ps ss E]):=zI _ _ _ _ hF
 let t1:=t.set F (.fdi [z] [bh z ps ss E])
 have f1:t1[F]?=some (.fdi [z] [bh z ps ss E]):=tY tF
 have a1:t1[A]?=some (.dic [] []):=by show (t.set F _)[s.length]?=_;rw [yJ (by omega)];exact zV _ _
 obtain ⟨t2,E2,o2⟩:=GY hl E t1
 have C:=qL (e:=[Av F,Av A,some (.str z)]) (fe:=zc zk (za 0) (At 0)) (src:=zq mE (zf (zc zk (zc jP (za 0) (za 2)) (At 2)) zj)) (f:=id) (s:=t1) (xs:=[]) (zy (zE (zh (zh (zb rfl) (zb rfl) (tX f1)) rfl y8)) E2) (by simp) (λx hx=>nomatch hx)
 let t3:=t2++[SO.lst []]
 let t4:=t3++[SO.dic [] []]
 let t5:=t4++[SO.lst []]
 have o5:Old t1 t5:=o2.trans ((zI _ _).trans ((zI _ _).trans (zI _ _)))
 have MK:iX [.ref t2.length] t3=.ok (.ref t3.length) t4:=T6 (zV _ _)
 have LD:jO [.ref t3.length] t4=.ok (.ref t4.length) t5:=tZ (zV _ _)
 have D:=wW (wI (z:=z) (by simp)) (fo:=za 1) (fi:=za 2) (fv:=zq jO (zf (zq iX (zf (y9 (yt (zq mE (zf (zc zk (zc jP (za 0) (za 2)) (At 2)) zj))) (zc zk (za 0) (At 0))) zj)) zj)) (e:=[Av F,Av A,some (.str z)]) (s:=t1) (s1:=t5) (x:=.ref t4.length) (zy (zE (zy (zE C) MK)) LD) (zb rfl) (zb rfl) (o5 _ _ a1) (by simp)
 have nA:F∉[A]:=by simp;show F≠s.length;omega
 have la:A<t4.length:=zP (zI t3 _ _ _ (zI t2 _ _ _ (o2 _ _ a1)))
 obtain ⟨t6,E6,k6,h6⟩:=oy (fo:=za 0) (g:=gN 2) (e:=[Av F,Av A,none]) (zb rfl) tF rfl D (ms:=[A]) (o5.kx.trans (yZ (by simp))) nA
 refine ⟨A,t4.length,t6,zR rfl (zo (zD rfl) (zo E6 (zS (zb rfl)))),h6 _ _ (by show s.length≠F;omega) (yz (zP (o5 _ _ a1))),h6 _ _ (by show t4.length≠F;have:=zP (o5 _ _ f1);have:F<s.length:=lF;omega) ?_,λm so q=>k6 _ _ (by simp;show m≠s.length;have:=zP q;omega) (zI _ _ _ _ q)⟩
 rw [yJ (by omega)]
 exact zV _ _
def Ug {oB:PV}(hF:s[F]?=some (.dic [z] [bh z ps ss E])) (hn:s[r]?=some (.lst [.str z])) (ha:∀s,mF [bh z ps ss E] s=.ok oB s):∃A s1,Az [.ref F,.ref r] s=.ok (.ref A) s1/\s1[A]?=some (.dic [] [])/\Old s s1/\s.length<=A:=by
 let t:=s++[SO.dic [z] [.bl true]]
 let t1:=t++[SO.dic [] []]
 have o1:Old s t1:=(zI _ _).trans (zI _ _)
 have lF:=zP hF
 have tF:=o1 _ _ hF
 let t2:=t1.set F (.fdi [z] [bh z ps ss E])
 have f2:t2[F]?=some (.fdi [z] [bh z ps ss E]):=tY tF
 have m2:t2[s.length]?=some (.dic [z] [.bl true]):=by show (t1.set F _)[s.length]?=_;rw [yJ (by omega)];exact zI _ _ _ _ (zV _ _)
 have TT:(ju (mB (zc wS (za 5) (mC .non))) (mB (zc (yA true) (za 4) (za 2)))) [Av F,Av r,Av s.length,Av t.length,some (.str z),some oB] t2=.ok false t2:=by
  have I:=qO oB t2
  cases hq:cW oB with
  |true=>rw [hq] at I;exact gO (zO (zh (zb rfl) rfl I))
  |false=>rw [hq] at I;exact wu (zO (zh (zb rfl) rfl I)) (zO (zh (zb rfl) (zb rfl) (T9 m2)))
 have B:(zp (zB 5 (zq mF (zf (zc jP (za 0) (za 4)) zj))) (zT (ju (mB (zc wS (za 5) (mC .non))) (mB (zc (yA true) (za 4) (za 2)))) yu zW)) [Av F,Av r,Av s.length,Av t.length,some (.str z),none] t2=.ok (.nx [Av F,Av r,Av s.length,Av t.length,some (.str z),some oB]) t2:=zo (zD (zy (zE (zh (zb rfl) (zb rfl) (tX f2))) (ha t2))) (zZ TT)
 obtain ⟨t3,E3,k3,h3⟩:=oy (fo:=za 0) (g:=gN 4) (e:=[Av F,Av r,Av s.length,Av t.length,none,none]) (zb rfl) tF rfl B (ms:=[]) (Kx.refl _ _) (by simp)
 have o3:Old t1 t3:=λm so q=>k3 _ _ (by simp) q
 exact ⟨t.length,t3,zR rfl (zo (zD (zy (zE (zb rfl)) (T7 hn))) (zo (zD rfl) (zo E3 (zS (zb rfl))))),o3 _ _ (zV _ _),o1.trans o3,by simp [t]⟩
abbrev mO (an sd:Nat):SO:=.ins "Folding" ["answers", "steads"] [.ref an,.ref sd]
def A4 {sd:Nat}{a:PV}(h:s[sd]?=some (.dic [] [])) (ha:cZ a):iY [a,.ref sd] s=.ok a s:=by
 rcases ha with ⟨w,rfl⟩|⟨v,rfl⟩
 ·have G:=GP (fo:=za 1) (fk:=zc zk (za 0) (At 1)) (fx:=za 0) (e:=[some (bE w),Av sd]) (zb rfl) h (zh (zb rfl) rfl yh) (zb rfl)
  exact zR rfl (jH (yG (q0 rfl (du _)) (zS G)))
 ·exact zR rfl (zo (zZ (q0 rfl (bF oz _))) (zS (zb rfl)))
def Uh {sd:Nat}{as:Aq}(h:s[sd]?=some (.dic [] [])) (ha:∀a∈as,cZ a) (hl:as.length<=900):om [.tup as,.ref sd] s=.ok (.tup as) (s++[.lst as]):=by
 have C:=qL (e:=[some (.tup as),Av sd]) (src:=za 0) (fe:=zq iY (zf (za 0) (zf (za 2) zj))) (f:=id) (s:=s) (s1:=s) (xs:=as) (zb rfl) (by omega) (λa h'=>zy (zF (zb rfl) (zb rfl)) (A4 h (ha a h')))
 rw [List.map_id] at C
 exact zR rfl (zS (zy (zE C) gX))
def nL (a:PV):Bool:=match a with
 |.tup (.str w::_)=>decide (w = "is")
 |_=>false
theorem G8:∀bs:List Bool,cJ (bs.map PV.bl)=some bs
 |[]=>rfl
 |b::bs=>by rw [jg,cJ,G8 bs];rfl
def all_at {bs:List Bool}{r:Nat}(h:s[r]?=some (.lst (bs.map PV.bl))):mf [.ref r] s=.ok (.bl (bs.all id)) s:=by
 show (yq s r λ_=>Res.ok r s).bind _=_
 rw [yv h,zL,yv h,G8]
structure cE (t:St):Prop where
 at_:∀a∈t.as,cZ a
 few:t.as.length<=3
 of_:∃x,bE x∈t.as
def Ui {o:Nat}{t:St}(h:cE t) (s:aa):∃s1,m_Folding_told_by [.ref o,t.v,.tup t.as] s=.ok .non s1/\Old s s1:=by
 have few:=h.few
 have C:=qL (e:=[Av o,some t.v,some (.tup t.as)]) (src:=za 2) (fe:=zc zU (zc zk (za 0) (At 0)) (Au "is")) (f:=λa=>.bl (nL a)) (s:=s) (s1:=s) (zb rfl) (by omega) (λp hp=>by
  rcases h.at_ p hp with ⟨w,rfl⟩|⟨v,rfl⟩
  ·exact zh (zh (zb rfl) rfl yB) rfl (eqs _ _ _ rfl _)
  ·exact zh (zh (zb rfl) rfl yB) rfl (eqs _ _ _ rfl _))
 have e:t.as.map (λa=>PV.bl (nL a))=(t.as.map nL).map PV.bl:=by rw [List.map_map];rfl
 rw [e] at C
 have nb:(t.as.map nL).all id=false:=by
  obtain ⟨x,hx⟩:=h.of_
  rw [Bool.eq_false_iff]
  intro q
  have:=List.all_eq_true.mp q false (wC.mpr ⟨_,hx,jo AX⟩)
  cases this
 exact ⟨_,zR rfl (zo (zZ (q0 rfl (bF n1 _))) (zo (zZ (zO (zy (zE C) ((all_at (zV _ _)).trans (by rw [nb]))))) (zS rfl))),zI _ _⟩
abbrev bG:Al:=(zp (zB 4 (zq om (zf (zc zk (za 3) (At 3)) (zf (yQ (bX "steads" insOf excOf) (za 0)) zj))))
  (zp (mq 5 6 "Fault" (fC "told_by" qA (za 0) (zf (za 3) (zf (za 4) zj)))
  yu)
  (zT (mB (zc sG (za 5) (mC .non)))
  (yK (yS yY (za 2) (yg (zf (zc zk (za 3) (At 0)) (zf (zc zk (za 3) (At 1)) (zf (zc zk (za 3) (At 2)) (zf (za 4) zj)))))))
  yu)))
abbrev eG (o:Nat) (bv:PV) (lf:Nat) (z3 z4 z5 z6 z7:Ar):ze:=[Av o,some bv,Av lf,z3,z4,z5,z6,z7]
def Uj {o an sd lf:Nat}{t:St}{bv:PV}{K:Aq}{z3 z4 z5 z6:Ar}(h:cE t) (ho:s[o]?=some (mO an sd)) (hs:s[sd]?=some (.dic [] [])) (hf:s[lf]?=some (.lst K)) (hK:K.length<=900):∃j_ mP s1,bG (eG o bv lf (some t.v) z4 z5 z6 none) s=.ok (.nx (eG o bv lf (some t.v) j_ mP z6 none)) s1/\s1[lf]?=some (.lst (K++[t.v]))/\Kx [lf] s s1:=by
 have few:=h.few
 have FL:bX "steads" insOf excOf (.ref o) s=.ok (.ref sd) s:=tW ho (by decide +kernel) (by kernel_rfl)
 have S:=Uh hs h.at_ (by omega)
 let s1:=s++[SO.lst t.as]
 have o1:Old s s1:=zI _ _
 obtain ⟨s2,T,o2⟩:=Ui (o:=o) h s1
 have A5:=o2 _ _ (o1 _ _ hf)
 have M:(fC "told_by" qA (za 0) (zf (za 3) (zf (za 4) zj))) (eG o bv lf (some t.v) (some (.tup t.as)) z5 z6 none) s1=.ok .non s2:=TV (zb rfl) (o1 _ _ ho) (by decide +kernel) (zC rfl) (zF (zb rfl) (zb rfl)) T
 have AP:=gw (y:=t.v) A5 (by omega)
 exact ⟨_,_,_,zo (zD (zy (zF (zh (zb rfl) rfl wx) (wT (zb rfl) FL)) S)) (zo (TY M) (yG (zO (zh (zb rfl) rfl rfl)) (wg (wH (zb rfl) A5 (yk (gT (zh (zb rfl) rfl yB) (zh (zb rfl) rfl yh) (zh (zb rfl) rfl y8) (zb rfl)) (by simp)) AP)))),yz (zP A5),(o1.trans o2).kx.trans (yZ (by simp))⟩
theorem G9 {o an sd lf:Nat}{bv:PV}:∀(ss:List St) {s:aa}{K:Aq}{z3 z4 z5 z6:Ar},(∀t∈ss,cE t)->s[o]?=some (mO an sd)->s[sd]?=some (.dic [] [])->s[lf]?=some (.lst K)->o≠lf->sd≠lf->K.length+ss.length<=900->∃mL j_ mP s1,forL (gN 3) bG (ss.map St.v) (eG o bv lf z3 z4 z5 z6 none) s=.ok (.nx (eG o bv lf mL j_ mP z6 none)) s1/\s1[lf]?=some (.lst (K++ss.map St.v))/\Kx [lf] s s1
 |[],s,K,z3,z4,z5,z6,_,_,_,hf,_,_,_=>⟨z3,z4,z5,s,rfl,by simpa using hf,Kx.refl _ _⟩
 |t::ss,s,K,z3,z4,z5,z6,h,ho,hs,hf,n1,n2,hl=>by
  simp only [wc] at hl
  obtain ⟨y4,y5,s1,E1,f1,k1⟩:=Uj (z3:=z3) (z4:=z4) (z5:=z5) (z6:=z6) (bv:=bv) (h t (by simp)) ho hs hf (by omega)
  obtain ⟨mL,j_,mP,s2,E2,f2,k2⟩:=G9 ss (z3:=some t.v) (z4:=y4) (z5:=y5) (z6:=z6) (λx hx=>h x (by simp [hx])) (k1 _ _ (by simpa using n1) ho) (k1 _ _ (by simpa using n2) hs) f1 n1 n2 (by simp;omega)
  exact ⟨mL,j_,mP,s2,i_ rfl E1 E2,by rw [f2];simp,k1.trans k2⟩
def ud {m:An}:wv "Folding" m "Folding" = some m:=zC rfl
def A6 {mr:An}{o an sd:Nat}{a:PV}(ha:cZ a) (ho:s[o]?=some (mO an sd)) (hs:s[sd]?=some (.dic [] [])):m_Folding_folded_end mr [.ref o,aL a] s=.ok (aW [] (aL a)) s:=by
 have FL:bX "steads" insOf excOf (.ref o) s=.ok (.ref sd) s:=tW ho (by decide +kernel) (by kernel_rfl)
 exact zR rfl (zo (zZ (q0 rfl (bF gf _))) (zo (zZ (q0 rfl (bF n4 _))) (zo (zD (zy (zF (zh (zb rfl) rfl yh) (wT (zb rfl) FL)) (A4 hs ha))) (jH (yG (q0 rfl (du _)) (zS (yk (zF (yk jQ (by simp)) (yk (zF rfl (zb rfl)) (by simp))) (by simp))))))))
def m6 {mr:An}{o an sd:Nat}{ss:List St}{e:PV}(h:∀t∈ss,cE t) (hl:ss.length<=800) (ho:s[o]?=some (mO an sd)) (hs:s[sd]?=some (.dic [] [])) (hE:∀s1,Old s s1->∃s2,m_Folding_folded_end mr [.ref o,e] s1=.ok (aW [] e) s2/\Old s1 s2):∃s1,m_Folding_folded_block mr [.ref o,aW (ss.map St.v) e] s=.ok (aW (ss.map St.v) e) s1/\Old s s1:=by
 let t:=s++[SO.lst []]
 have ot:Old s t:=zI _ _
 have lo:=zP ho
 have ls:=zP hs
 obtain ⟨z3,z4,z5,t1,E1,f1,k1⟩:=G9 (o:=o) (an:=an) (sd:=sd) (lf:=s.length) (bv:=aW (ss.map St.v) e) ss (s:=t) (K:=[]) (z3:=none) (z4:=none) (z5:=none) (z6:=none) h (ot _ _ ho) (ot _ _ hs) (zV _ _) (by omega) (by omega) (by simp;omega)
 rw [List.nil_append] at f1
 have o1:Old s t1:=λm so q=>k1 _ _ (by simp;have:=zP q;omega) (ot _ _ q)
 obtain ⟨t2,E2,o2⟩:=hE t1 o1
 have M:(jG "folded_end" (wv "Folding" (m_Folding_folded_end mr)) (za 0) (zf (zc zk (za 1) (At 1)) zj)) (eG o (aW (ss.map St.v) e) s.length z3 z4 z5 none none) t1=.ok (aW [] e) t2:=gU (zb rfl) (o1 _ _ ho) (by decide +kernel) ud (zE (zh (zb rfl) rfl yh)) E2
 have AD:yd (.tup (ss.map St.v)) (.tup []) t2=.ok (.tup (ss.map St.v)) t2:=(mJ (by simp;omega)).trans (by rw [List.append_nil])
 exact ⟨t2,zR rfl (zo (zD (jm jQ (by simp))) (zo (gW (zh (zb rfl) rfl yB) E1) (zo (zD M) (zS (yk (zF (zh (zy (zE (zb rfl)) (by rw [iN,yv (o2 _ _ f1)])) (zh (zb rfl) rfl yB) AD) (zh (zb rfl) rfl yh)) (by simp)))))),o1.trans o2⟩
def Uk {o an sd:Nat}(h:∀t∈ss,cE t) (hl:ss.length<=800) (he:E.ok) (ho:s[o]?=some (mO an sd)) (hs:s[sd]?=some (.dic [] [])):∃s1,mG 3 [.ref o,aW (ss.map St.v) E.v] s=.ok (aW (ss.map St.v) E.v) s1/\Old s s1:=by
 show ∃s1,m_Folding_folded_block (mG 2) [.ref o,aW (ss.map St.v) E.v] s=_/\_
 cases E with
 |give a=>exact m6 h hl ho hs λs1 o1=>⟨s1,A6 he (o1 _ _ ho) (o1 _ _ hs),Old.refl _⟩
 |ite x b c =>
  refine m6 h hl ho hs λs1 o1=>?_
  have mm:=o1 _ _ ho
  have ue:=o1 _ _ hs
  have FL:bX "steads" insOf excOf (.ref o) s1=.ok (.ref sd) s1:=tW mm (by decide +kernel) (by kernel_rfl)
  obtain ⟨s2,E2,o2⟩:=m6 (s:=s1) (mr:=mG 1) (ss:=[]) (e:=aL b) (λ_ h=>nomatch h) (by simp) mm ue λs' o'=>⟨s',A6 he.1 (o' _ _ mm) (o' _ _ ue),Old.refl _⟩
  have fV:=o2 _ _ mm
  have dY:=o2 _ _ ue
  obtain ⟨s3,E3,o3⟩:=m6 (s:=s2) (mr:=mG 1) (ss:=[]) (e:=aL c) (λ_ h=>nomatch h) (by simp) fV dY λs' o'=>⟨s',A6 he.2 (o' _ _ fV) (o' _ _ dY),Old.refl _⟩
  exact ⟨s3,zR rfl (zo (zZ (q0 rfl (bF AW _))) (zo (zZ (q0 rfl (bF n9 _))) (zo (zD (zy (zF (zh (zb rfl) rfl yh) (wT (zb rfl) FL)) (A4 ue (.inl ⟨x,rfl⟩)))) (zo (zZ (q0 rfl (bF t_ _))) (zo (zZ (q0 rfl (bF AX _))) (zS (yk (zF (yk jQ (by simp)) (yk (gT rfl (zb rfl) (gU (zb rfl) mm (by decide +kernel) ud (zE (zh (zb rfl) rfl y8)) E2) (gU (zb rfl) fV (by decide +kernel) ud (zE (zh (zb rfl) rfl wx)) E3)) (by simp))) (by simp)))))))),o2.trans o3⟩
def Ul (an:Nat) (s:aa):∃sd s1,e_ "Folding" qz [.ref an] s=.ok (.ref s.length) s1/\s1[s.length]?=some (mO an sd)/\s1[sd]?=some (.dic [] [])/\Old s s1:=by
 let t0:=s++[SO.ins "Folding" [] []]
 have h0:t0[s.length]?=some (.ins "Folding" [] []):=zV _ _
 let t1:=t0.set s.length (.ins "Folding" ["answers"] [.ref an])
 have h1:t1[s.length]?=some (.ins "Folding" ["answers"] [.ref an]):=yz (zP h0)
 let t2:=t1++[SO.dic [] []]
 have h2:=zI t1 [SO.dic [] []] _ _ h1
 have l1:=zP h1
 let t3:=t2.set s.length (mO an t1.length)
 have Q:qz [.ref s.length,.ref an] t0=.ok .non t3:=m5 rfl (zo (kR (zb rfl) (zb rfl) h0 (by decide +kernel) (by decide)) (kR (x:=.ref t1.length) (s1:=t2) rfl (zb rfl) h2 (by decide +kernel) (by decide)))
 refine ⟨t1.length,t3,?_,yz (zP h2),?_,λm so q=>?_⟩
 ·show (qz [.ref s.length,.ref an] t0).bind _=_
  rw [Q,zL]
  rfl
 ·rw [yJ (by omega)];exact zV _ _
 ·have:=zP q
  rw [yJ (by omega)]
  refine zI _ _ _ _ ?_
  show (t0.set s.length _)[m]?=_
  rw [yJ (by omega)]
  exact zI _ _ _ _ q
end
def bY:PV->Ae
 |.tup [.str w,.str z]=>if w = "of" then [z] else []
 |_=>[]
abbrev aZ (as:Aq):Ae:=as.flatMap bY
def j2 (z:Str):bY (bE z)=[z]:=by simp [bY]
def ka (v:PV):bY (gY v)=[]:=by
 cases v with
 |str z=>show (if ("is" : Str) = "of" then [z] else [])=[];exact zQ oz
 |_=>rfl
abbrev ke (ks:Ae):Aq:=ks.map λ_=>PV.bl true
def Us (U:Nat) (S:Ae) (s:aa):Prop:=∃ks,s[U]?=some (.dic ks (ke ks))/\ks.length<=S.length/\∀z,z∈ks↔z∈S
def Us.kx {U:Nat}{S:Ae}{s s':aa}{ms:List Nat}(h:Us U S s) (k:Kx ms s s') (hU:U∉ms):Us U S s':=let ⟨ks,a,b⟩:=h;⟨ks,k _ _ hU a,b⟩
theorem G_ (z:Str):∀ks:Ae,repl z (.bl true) ks (ke ks)=ke ks
 |[]=>rfl
 |k::ks=>by
  show (if k=z then PV.bl true else PV.bl true)::repl z (.bl true) ks (ke ks)=_
  rw [G_ z ks,ite_self]
  rfl
theorem Ha (z:Str):∀ks:Ae,((ks.zip (ke ks)).lookup z).isSome=decide (z∈ks)
 |[]=>by simp
 |k::ks=>by
  show (((k,PV.bl true)::ks.zip (ke ks)).lookup z).isSome=_
  rw [wL]
  cases h:z==k with
  |true =>
   have:z=k:=by simpa using h
   simp [this]
  |false =>
   have ne:z≠k:=by simpa using h
   rw [show decide (z∈k::ks)=decide (z∈ks) by simp [ne]]
   exact Ha z ks
section
variable {s:aa} {U:Nat} {S:Ae} {t:St} {ss:List St} {E:En}
def Hb (h:Us U S s) (n:Bool) (z:Str):yA n (.str z) (.ref U) s=.ok (.bl (n.xor (decide (z∈S)))) s:=by
 obtain ⟨ks,e,_,hk⟩:=h
 simp only [yA,e]
 rw [Ha,decide_eq_decide.mpr (hk z)]
def Um {fo fi:Ak}{e:ze}{z:Str}(h:Us U S s) (hl:S.length<=1000) (ho:fo e s=.ok (.ref U) s) (hi:fi e s=.ok (.str z) s):∃s1,yL fo fi (mC (.bl true)) e s=.ok (.nx e) s1/\Us U (S++[z]) s1/\Kx [U] s s1:=by
 obtain ⟨ks,e',l,hk⟩:=h
 have P:=qI (fv:=mC (.bl true)) (x:=.bl true) (s1:=s) rfl ho hi e' (by omega)
 refine ⟨_,P,?_,yZ (by simp)⟩
 by_cases hz:z∈ks
 ·have d:jk z (.bl true) ks (ke ks)=(ks,ke ks):=by unfold jk;rw [zC (by simpa using hz),G_]
  rw [d]
  exact ⟨ks,yz (zP e'),by simp;omega,λy=>by
   rw [jy,jJ,<-hk y]
   exact ⟨.inl,λh=>h.elim id λq=>q▸hz⟩⟩
 ·rw [wI hz]
  refine ⟨ks++[z],?_,by simp;omega,λy=>by rw [jy,jy,hk y]⟩
  rw [yz (zP e')]
  simp [ke]
abbrev bM (i u:Nat):Al:=(zT (mB (zc zU (zc zk (za i) (At 0)) (Au "of")))
  (yL (za u) (zc zk (za i) (At 1)) (mC (.bl true)))
  zW)
def Hc {e:ze}{i u:Nat}{a:PV}(h:Us U S s) (hl:S.length<=1000) (ha:cZ a) (hi:e[i]?=some (some a)) (hu:e[u]?=some (Av U)):∃s1,bM i u e s=.ok (.nx e) s1/\Us U (S++bY a) s1/\Kx [U] s s1:=by
 rcases ha with ⟨z,rfl⟩|⟨v,rfl⟩
 ·obtain ⟨s1,P,h1,k1⟩:=Um (fo:=za u) (fi:=zc zk (za i) (At 1)) (e:=e) (z:=z) h hl (zb hu) (zh (zb hi) rfl yh)
  exact ⟨s1,yG (q0 hi (du _)) P,by rw [j2];exact h1,k1⟩
 ·exact ⟨s,zZ (q0 hi (bF oz _)),by rw [ka,List.append_nil];exact h,Kx.refl _ _⟩
theorem A7 {e:ze}{i u:Nat}(nF:i≠u) (He:i<e.length):∀(as:Aq) {s:aa}{S:Ae}{z:Ar},(∀a∈as,cZ a)->Us U S s->S.length+as.length<=1000->e[u]?=some (Av U)->∃z' s1,forL (gN i) (bM i u) as (e.set i z) s=.ok (.nx (e.set i z')) s1/\Us U (S++aZ as) s1/\Kx [U] s s1
 |[],s,S,z,_,h,_,_=>⟨z,s,rfl,by simpa using h,Kx.refl _ _⟩
 |a::as,s,S,z,ha,h,hl,hu=>by
  simp only [wc] at hl
  obtain ⟨s1,E1,h1,k1⟩:=Hc (e:=e.set i (some a)) (i:=i) (u:=u) h (by omega) (ha a (by simp)) (yz He) (by rw [yJ nF];exact hu)
  have l1:(bY a).length<=1:=by
   rcases ha a (by simp) with ⟨z,rfl⟩|⟨v,rfl⟩
   ·rw [j2];simp
   ·rw [ka];simp
  obtain ⟨z',s2,E2,h2,k2⟩:=A7 nF He as (z:=some a) (λx hx=>ha x (by simp [hx])) h1 (by simp;omega) hu
  refine ⟨z',s2,i_ (e1:=e.set i (some a)) ?_ E1 E2,by rw [oK] at h2;simpa using h2,k1.trans k2⟩
  show some ((e.set i z).set i (some a))=_
  rw [List.set_set]
def Hf {as:Aq}(ha:∀a∈as,cZ a) (h:Us U S s) (hl:S.length+as.length<=1000):∃s1,qB [.tup as,.ref U] s=.ok .non s1/\Us U (S++aZ as) s1/\Kx [U] s s1:=by
 obtain ⟨z',s1,E1,h1,k1⟩:=A7 (U:=U) (e:=[some (.tup as),Av U,none]) (i:=2) (u:=1) (by decide) (by simp) as (z:=none) ha h hl rfl
 exact ⟨s1,m5 rfl (gW (zb rfl) E1),h1,k1⟩
def j3:Ae:=["add", "sub", "mul", "div", "rem", "less", "same", "down", "kind", "front", "head", "rest", "many", "item", "put", "field", "set"]
abbrev qP (w:Str) (k:Int):SO:=.ins "Op" ["word", "many"] [.str w,.int k]
def Uo {α:Type}(x:α) (r:List α):cQ (x::r) 0=some x:=bu (k:=0) rfl
def Up {op f:Str}{ks:Ae}(h:(zbH.zip zbI).lookup op=some (.tup [.tup (ks.map PV.str),.fn f])) (st:aa):qC [.str op] st=.ok (.ref st.length) (st++[qP op ks.length]):=by
 simp [qC,yb,Gx,Gw,pZ,h,e_,AA,Gv,Gu,jA,insOf,Mi.putK,Uo]
def Uq {o:Str}(h:o∈j3):∃(ks:Ae) (f:Str),(zbH.zip zbI).lookup o=some (.tup [.tup (ks.map PV.str),.fn f]):=by
 simp only [j3,yE,List.not_mem_nil,j5] at h
 rcases h with h|h|h|h|h|h|h|h|h|h|h|h|h|h|h|h|h<;>(rw [h];first|exact ⟨["number"],_,rfl⟩|exact ⟨["number", "number"],_,rfl⟩|exact ⟨["any"],_,rfl⟩|exact ⟨["any", "any"],_,rfl⟩|exact ⟨["row"],_,rfl⟩|exact ⟨["any", "row"],_,rfl⟩|exact ⟨["row", "number"],_,rfl⟩|exact ⟨["row", "number", "any"],_,rfl⟩|exact ⟨["record", "word"],_,rfl⟩|exact ⟨["record", "word", "any"],_,rfl⟩)
theorem Hg:∀zs:Ae,bU (zs.map PV.str)=true
 |[]=>rfl
 |z::zs=>by simp [bU,Mi.plain,Hg zs]
theorem Hh:∀zs:Ae,dI (zs.map PV.str)=0
 |[]=>rfl
 |z::zs=>by simp [dI,dep,Hh zs]
def Ur (z:Str) (zs:Ae):(zs.map PV.str).any (λy=>bN y (.str z))=decide (z∈zs):=by
 simp only [List.any_map,Function.comp_def,bN]
 rw [Bool.eq_iff_iff,List.any_eq_true,m8]
 constructor
 ·rintro ⟨x,hx,e⟩
  rw [beq_iff_eq] at e
  exact e▸hx
 ·intro h
  exact ⟨z,h,by simp⟩
def Ut (n:Bool) (z:Str) (zs:Ae) (st:aa):yA n (.str z) (.tup (zs.map PV.str)) st=.ok (.bl (n.xor (decide (z∈zs)))) st:=by
 rw [Ek,zC ⟨rfl,Hg zs,by rw [Hh];omega⟩,Ur]
def Uu {st:aa}{o:Nat}{w:Str}{k:Int}(ho:st[o]?=some (qP w k)):m_Op_never_faults [.ref o] st=.ok (.bl (decide (w∈ct_FAULTLESS))) st:=by
 refine zR rfl (zS (zh (wT (zb rfl) (X:=.ok (.str w) st) ?_) rfl ((Ut false _ _ _).trans (by simp))))
 rw [D0,xo ho,zC (show insOf "Op" = true by decide +kernel)]
 simp [wL]
def idle (S:Ae) (t:St):Bool:=decide (t.z∉S)&&decide (t.o∈ct_FAULTLESS)
def Uv (h:Us U S s) (ho:t.o∈j3):∃s1,tH [t.v,.ref U] s=.ok (.bl (idle S t)) s1/\Old s s1:=by
 have I:=Hb h true t.z
 by_cases hz:t.z∈S
 ·refine ⟨s,zR rfl (zS (ml (zh (zh (zb rfl) rfl yB) rfl (du _)) ?_)),Old.refl _⟩
  rw [DW,zh (zh (zb rfl) rfl yh) (zb rfl) I,zL,xk]
  simp [hz,idle]
 ·rw [jo hz] at I
  obtain ⟨eJ,f,hk⟩:=Uq ho
  have N:=Up hk s
  have hO:(s++[qP t.o eJ.length])[s.length]?=some (qP t.o eJ.length):=zV _ _
  have M:(jG "never_faults" tG (zq qC (zf (zc zk (za 0) (At 2)) zj)) zj) [some t.v,Av U] s=.ok (.bl (decide (t.o∈ct_FAULTLESS))) (s++[qP t.o eJ.length]):=gU (zy (zE (zh (zb rfl) rfl y8)) N) hO (by decide +kernel) (zC rfl) jQ (Uu hO)
  have ei:idle S t=decide (t.o∈ct_FAULTLESS):=by simp [idle,hz]
  rw [ei]
  exact ⟨_,zR rfl (zS (ml (zh (zh (zb rfl) rfl yB) rfl (du _)) (ml (zh (zh (zb rfl) rfl yh) (zb rfl) I) M))),zI _ _⟩
def kp:List St->List Str->List St
 |[],_=>[]
 |t::r,S=>if idle S t=true then kp r S else kp r (S++aZ t.as)++[t]
abbrev bW:Al:=(zT (iF (mB (zq tH (zf (za 6) (zf (za 1) zj)))))
  (zp (yK (zq qB (zf (zc zk (za 6) (At 3)) (zf (za 1) zj))))
  (yK (yS yY (za 5) (za 6))))
  zW)
abbrev eW (b:PV) (U:Nat) (e2:PV) (z3 z4:Ar) (lf:Nat) (z6:Ar):ze:=[some b,Av U,some e2,z3,z4,Av lf,z6]
theorem A8 {b e2:PV}{z3 z4:Ar}{lf:Nat}:∀(r:List St) {s:aa}{S:Ae}{K:Aq}{z6:Ar},(∀t∈r,cE t/\t.o∈j3)->Us U S s->s[lf]?=some (.lst K)->U≠lf->S.length+3*r.length<=900->K.length+r.length<=900->∃fq s1,forL (gN 6) bW (r.map St.v) (eW b U e2 z3 z4 lf z6) s=.ok (.nx (eW b U e2 z3 z4 lf fq)) s1/\s1[lf]?=some (.lst (K++((kp r S).map St.v).reverse))/\Kx [U,lf] s s1
 |[],s,S,K,z6,_,_,hf,_,_,_=>⟨z6,s,rfl,by simpa [kp] using hf,Kx.refl _ _⟩
 |t::r,s,S,K,z6,h,hU,hf,ne,hl,hK=>by
  simp only [wc] at hl hK
  obtain ⟨ht,Uw⟩:=h t (by simp)
  have few:=ht.few
  obtain ⟨s1,I1,o1⟩:=Uv (t:=t) hU Uw
  have kf:=hU.kx (ms:=[]) o1.kx (by simp)
  have f1:=o1 _ _ hf
  cases hi:idle S t with
  |true =>
   rw [hi] at I1
   obtain ⟨fq,s2,E2,f2,k2⟩:=A8 r (z6:=some t.v) (λx hx=>h x (by simp [hx])) kf f1 ne (by omega) (by omega)
   exact ⟨fq,s2,i_ rfl (zZ (og (b:=true) (zO (zy (zF (zb rfl) (zb rfl)) I1)))) E2,by rw [f2,kp,zC hi],o1.kx.trans k2⟩
  |false =>
   rw [hi] at I1
   have ol:(aZ t.as).length<=t.as.length:=by
    have:=ht.at_
    clear I1 few ht
    generalize t.as=as at *
    induction as with
    |nil=>simp
    |cons a as ih =>
     have:=ih (λx hx=>this x (by simp [hx]))
     have l1:(bY a).length<=1:=by
      rcases ‹∀a_1∈a::as,cZ a_1› a (by simp) with ⟨z,rfl⟩|⟨v,rfl⟩
      ·rw [j2];simp
      ·rw [ka];simp
     simp only [aZ,h_,wA,wc] at *
     omega
   obtain ⟨s2,M2,A9,k2⟩:=Hf ht.at_ kf (by omega)
   have f2:=k2 _ _ (by simpa using yM ne) f1
   have AP:=gw (y:=t.v) f2 (by omega)
   let s3:=s2.set lf (SO.lst (K++[t.v]))
   have f3:s3[lf]?=some (.lst (K++[t.v])):=yz (zP f2)
   have Ux:Us U (S++aZ t.as) s3:=A9.kx (ms:=[lf]) (yZ (by simp)) (by simpa using ne)
   obtain ⟨fq,s4,E4,f4,k4⟩:=A8 r (z6:=some t.v) (λx hx=>h x (by simp [hx])) Ux f3 ne (by rw [wA];omega) (by simp;omega)
   have kw:∀{a b:aa},Kx [U] a b->Kx [U,lf] a b:=λk m so q e=>k m so (by simp at q ⊢;exact q.1) e
   refine ⟨fq,s4,i_ rfl (yG (og (b:=false) (zO (zy (zF (zb rfl) (zb rfl)) I1))) (zo (wg (zy (zF (zh (zb rfl) rfl wx) (zb rfl)) M2)) (wg (wH (zb rfl) f2 (zb rfl) AP)))) E4,?_,o1.kx.trans ((kw k2).trans ((yZ (by simp)).trans k4))⟩
   rw [f4,kp,zQ (by rw [hi];simp)]
   simp
def qQ {fs:Aj}{g:PV->ze->Option ze}{body:Al}{e:ze}{s s1:aa}{xs:Aq}{X:Res Fl}(h:fs e s=.ok [.tup xs] s1) (hl:xs.length<=1000) (hX:forL g body xs.reverse e s1=X):qt fs g body e s=X:=by
 unfold qt
 rw [h,zL]
 show (if xs.length<=lim then Res.ok xs s1 else .stuck).bind _=_
 rw [zC (by simp [lim];omega),zL]
 exact hX
def Uy {fs:Aj}{e:ze}{r:Nat}{xs:Aq}(h:fs e s=.ok [.ref r] s) (hr:s[r]?=some (.lst xs)):sU fs e s=.ok (.tup xs.reverse) s:=by
 unfold sU
 rw [h,zL,Rf hr]
def Hi {mr:An}{e2 e3 a:PV}{z3 z4:Ar}(h:∀t∈ss,cE t/\t.o∈j3) (hl:ss.length<=200) (hU:Us U S s) (hS:S.length<=100) (ha:cZ a) (hA:∀s,tE [e2] s=.ok (.tup [a]) s):∃s1,Gy mr [some (aW (ss.map St.v) e3),Av U,some e2,z3,z4,none,none] s=.ok (.rt (aW ((kp ss.reverse (S++bY a)).map St.v) e2)) s1/\Kx [U] s s1/\(ss=[]->Us U (S++bY a) s1):=by
 obtain ⟨s1,M1,kf,k1⟩:=Hf (as:=[a]) (λx hx=>by rw [jJ.mp hx];exact ha) hU (by simp;omega)
 have ea:aZ [a]=bY a:=by simp [aZ]
 rw [ea] at kf
 have la:(bY a).length<=1:=by
  rcases ha with ⟨z,rfl⟩|⟨v,rfl⟩
  ·rw [j2];simp
  ·rw [ka];simp
 let s2:=s1++[SO.lst []]
 have o2:Old s1 s2:=zI _ _
 have lU:U<s1.length:=by obtain ⟨ks,e,_⟩:=kf;exact zP e
 obtain ⟨z6,s3,E3,f3,k3⟩:=A8 (U:=U) (b:=aW (ss.map St.v) e3) (e2:=e2) (z3:=z3) (z4:=z4) (lf:=s1.length) ss.reverse (s:=s2) (S:=S++bY a) (K:=[]) (z6:=none) (λt ht=>h t (List.mem_reverse.mp ht)) (kf.kx (ms:=[]) o2.kx (by simp)) (zV _ _) (by omega) (by simp;omega) (by simp;omega)
 rw [List.map_reverse] at E3
 rw [List.nil_append] at f3
 have TR:=Uy (fs:=zf (za 5) zj) (e:=eW (aW (ss.map St.v) e3) U e2 z3 z4 s1.length z6) (zE (zb rfl)) f3
 rw [List.reverse_reverse] at TR
 exact ⟨s3,zo (wg (zy (zF (zy (zE (zb rfl)) (hA s)) (zb rfl)) M1)) (zo (zD (jm jQ (by simp))) (zo (qQ (zE (zh (zb rfl) rfl yB)) (by simp;omega) E3) (zS (yk (zF TR (zb rfl)) (by simp))))),λm so q e=>k3 _ _ (by simp at q ⊢;have:=zP (k1 _ _ (by simpa using q) e);omega) (o2 _ _ (k1 _ _ q e)),λh0=>by
  subst h0
  cases E3
  exact kf.kx (ms:=[]) o2.kx (by simp)⟩
def En.us:En->Ae
 |.give a=>bY a
 |.ite x b c=>bY c++bY b++[x]
def Hj {e:PV} {w:Str} {a:PV} {r:Aq} (he:e=.tup (.str w::a::r)) (hw:w = "give" \/ w = "if") (s:aa):tE [e] s=.ok (.tup [a]) s:=by
 subst he
 rcases hw with rfl|rfl
 ·exact zR rfl (zo (zZ (zO (zy (zE (zb rfl)) (zR rfl (zS (zh (zh (zb rfl) rfl yB) (yk (zF rfl rfl) (by simp)) (qK "give" false (by decide +kernel) _))))))) (zo (zZ (q0 rfl (bF n4 _))) (zo (zZ (q0 rfl (bF gf _))) (zS (yk (zE (zh (zb rfl) rfl yh)) (by simp))))))
 ·exact zR rfl (zo (zZ (zO (zy (zE (zb rfl)) (zR rfl (zS (zh (zh (zb rfl) rfl yB) (yk (zF rfl rfl) (by simp)) (qK "if" false (by decide +kernel) _))))))) (zo (zZ (q0 rfl (bF n9 _))) (zo (zZ (q0 rfl (bF AW _))) (zS (yk (zE (zh (zb rfl) rfl yh)) (by simp))))))
def A_ {mr:An}{a:PV}(h:∀t∈ss,cE t/\t.o∈j3) (hl:ss.length<=200) (hU:Us U S s) (hS:S.length<=100) (ha:cZ a):∃s1,zev mr [aW (ss.map St.v) (aL a),.ref U] s=.ok (aW ((kp ss.reverse (S++bY a)).map St.v) (aL a)) s1/\Kx [U] s s1/\(ss=[]->Us U (S++bY a) s1):=by
 obtain ⟨s1,E1,k1,h1⟩:=Hi (mr:=mr) (e2:=aL a) (e3:=aL a) (z3:=none) (z4:=none) h hl hU hS ha (Hj rfl (.inl rfl))
 exact ⟨s1,zR rfl (zo (zD (zh (zb rfl) rfl yh)) (zo (zZ (q0 rfl (bF mM _))) E1)),k1,h1⟩
def Uz (h:∀t∈ss,cE t/\t.o∈j3) (hl:ss.length<=200) (he:E.ok) (hU:Us U [] s):∃s1,iZ 3 [aW (ss.map St.v) E.v,.ref U] s=.ok (aW ((kp ss.reverse E.us).map St.v) E.v) s1/\Kx [U] s s1:=by
 show ∃s1,zev (iZ 2) [aW (ss.map St.v) E.v,.ref U] s=_/\_
 cases E with
 |give a =>
  obtain ⟨s1,E1,k1,_⟩:=A_ (mr:=iZ 2) h hl hU (by simp) he
  exact ⟨s1,E1,k1⟩
 |ite x b c =>
  have l1:∀{a:PV},cZ a->(bY a).length<=1:=λha=>by
   rcases ha with ⟨z,rfl⟩|⟨v,rfl⟩
   ·rw [j2];simp
   ·rw [ka];simp
  have lc:=l1 he.2
  have lb:=l1 he.1
  obtain ⟨s1,E1,k1,h1⟩:=A_ (mr:=iZ 1) (ss:=[]) (λ_ h=>nomatch h) (by simp) hU (by simp) he.2
  obtain ⟨s2,E2,k2,h2⟩:=A_ (mr:=iZ 1) (ss:=[]) (λ_ h=>nomatch h) (by simp) (h1 rfl) (by simp;omega) he.1
  obtain ⟨s3,E3,k3,_⟩:=Hi (mr:=iZ 2) (e2:=d6 (bE x) b c) (e3:=d6 (bE x) b c) (z3:=some (aW [] (aL c))) (z4:=some (aW [] (aL b))) h hl (h2 rfl) (by simp;omega) (.inl ⟨x,rfl⟩) (Hj rfl (.inr rfl))
  rw [j2] at E3
  exact ⟨s3,zR rfl (zo (zD (zh (zb rfl) rfl yh)) (zo (yG (q0 rfl (du _)) (zo (zD (zy (zF (zh (zb rfl) rfl wx) (zb rfl)) E1)) (zo (zD (zy (zF (zh (zb rfl) rfl y8) (zb rfl)) E2)) (zD (yk (gT rfl (zh (zb rfl) rfl yh) (zb rfl) (zb rfl)) (by simp)))))) E3)),k1.trans (k2.trans k3)⟩
end
section
variable {s:aa} {F A L D N:Nat} {z:Str} {ps:Ae} {ss:List St} {E:En}
def UA (h:∀t∈ss,cE t/\t.o∈j3) (hl:ss.length<=200) (he:E.ok) (an:Nat) (s:aa):∃s1,qD [bh z ps ss E,.ref an] s=.ok (bh z ps (kp ss.reverse E.us) E) s1/\Old s s1:=by
 obtain ⟨sd,t1,E1,h1,h2,o1⟩:=Ul an s
 obtain ⟨t2,E2,o2⟩:=Uk (λt ht=>(h t ht).1) (by omega) he h1 h2
 let t3:=t2++[SO.dic [] []]
 have o3:Old t2 t3:=zI _ _
 obtain ⟨t4,E4,k4⟩:=Uz (s:=t3) (U:=t2.length) h hl he ⟨[],zV _ _,by simp,λz=>Iff.rfl⟩
 have o4:Old t2 t4:=λm so q=>k4 _ _ (by simp;have:=zP q;omega) (o3 _ _ q)
 exact ⟨t4,zR rfl (zo (zD (gU (zy (zE (zb rfl)) E1) h1 (by decide +kernel) ud (zE (zh (zb rfl) rfl y8)) E2)) (zS (yk (jY (zh (zb rfl) rfl yB) (zh (zb rfl) rfl yh) (zy (zF (y:=.ref t2.length) (s2:=t3) (zb rfl) rfl) E4)) (by simp)))),o1.trans (o2.trans o4)⟩
theorem Ba:∀(r:List St) (S:Ae),(kp r S).length<=r.length
 |[],_=>zM _
 |t::r,S=>by
  unfold kp
  split
  ·exact Nat.le_succ_of_le (Ba r S)
  ·have:=Ba r (S++aZ t.as)
   simp
   omega
abbrev bO:Al:=(zp (yL (za 0) (za 5) (zq qD (zf (zc zk (za 0) (za 5)) (zf (za 3) zj))))
  (zp (zB 6 (zq mF (zf (zc zk (za 0) (za 5)) zj)))
  (zT (ju (mB (zc wS (za 6) (mC .non))) (mB (zc (yA true) (za 5) (za 3))))
  (zp (yL (za 3) (za 5) (za 6))
  (yF (yt (zc zk (za 2) (za 5))) (gN 7)
  yu))
  zW)))
abbrev bQ:Al:=(zp (zB 4 jB)
  (zp (yF (yt (za 1)) (gN 5)
  bO)
  (zB 1 (zq jO (zf (za 4) zj)))))
def UB (h:∀t∈ss,cE t/\t.o∈j3) (hl:ss.length<=200) (he:E.ok) (hF:s[F]?=some (.dic [z] [bh z ps ss E])) (hN:s[N]?=some (.lst [.str z])):∃s1,tI [.ref F,.ref N] s=.ok .non s1/\s1[F]?=some (.dic [z] [bh z ps (kp ss.reverse E.us) E])/\Kx [F] s s1:=by
 have kl:=Ba ss.reverse E.us
 rw [List.length_reverse] at kl
 generalize hk:kp ss.reverse E.us=ks at *
 obtain ⟨A,L,t1,E1,a1,b1,o1⟩:=G5 (by omega) hF
 obtain ⟨C,K,t2,E2,c2,d2,o2⟩:=T8 a1 b1
 have mQ:=o1.trans o2
 obtain ⟨oB,HA⟩:=G3 (z:=z) (ps:=ps) (ss:=ss) (by omega) he
 obtain ⟨B,t3,E3,b3,o3,lB⟩:=Ug (mQ _ _ hF) (mQ _ _ hN) HA
 have qR:=mQ.trans o3
 let t4:=t3++[SO.dic [] []]
 have o4:Old t3 t4:=zI _ _
 have F4:=o4 _ _ (qR _ _ hF)
 have N4:=o4 _ _ (qR _ _ hN)
 have C4:=o4 _ _ (o3 _ _ c2)
 have K4:=o4 _ _ (o3 _ _ d2)
 have B4:=o4 _ _ b3
 obtain ⟨t5,E5,o5⟩:=UA (z:=z) (ps:=ps) h hl he B t4
 rw [hk] at E5
 have F5:=o5 _ _ F4
 have P:=qI (fo:=za 0) (fi:=za 5) (fv:=zq qD (zf (zc zk (za 0) (za 5)) (zf (za 3) zj))) (e:=[Av F,Av N,Av C,Av B,Av t3.length,some (.str z),none,none]) (s:=t4) (zy (zF (zh (zb rfl) (zb rfl) (j1 F4 (by simp))) (zb rfl)) E5) (zb rfl) (zb rfl) F5 (by simp)
 have dp:jk z (bh z ps ks E) [z] [bh z ps ss E]=([z],[bh z ps ks E]):=by unfold jk;rw [zC (by simp)];unfold repl;rw [zC rfl];rfl
 rw [dp] at P
 have nN:F≠N:=λq=>by subst q;rw [hF] at hN;cases hN
 have nK:F≠K:=λq=>by subst q;rw [F4] at K4;cases K4
 have nC:F≠C:=λq=>by
  subst q
  rw [F4] at C4
  simp at C4
 have nB:F≠B:=λq=>by subst q;rw [F4] at B4;cases B4
 let t6:=t5.set F (.dic [z] [bh z ps ks E])
 have F6:t6[F]?=some (.dic [z] [bh z ps ks E]):=yz (zP F5)
 have k6:Kx [F] t5 t6:=yZ (by simp)
 obtain ⟨av,AN⟩:=G3 (z:=z) (ps:=ps) (ss:=ks) (by omega) he
 have AN:=AN t6
 have B6:=k6 _ _ (by simpa using yM nB) (o5 _ _ B4)
 have C6:=k6 _ _ (by simpa using yM nC) (o5 _ _ C4)
 have K6:=k6 _ _ (by simpa using yM nK) (o5 _ _ K4)
 have N6:=k6 _ _ (by simpa using yM nN) (o5 _ _ N4)
 have G4:t4[t3.length]?=some (.dic [] []):=zV _ _
 have lF:=zP (qR _ _ hF)
 have WE:=zP b3
 have G6:=k6 _ _ (by simp;omega) (o5 _ _ G4)
 have NI:yA true (.str z) (.ref B) t6=.ok (.bl true) t6:=GN (b:=false) B6 rfl
 have Hk:∃mP t7,bO [Av F,Av N,Av C,Av B,Av t3.length,some (.str z),none,none] t4=.ok (.nx [Av F,Av N,Av C,Av B,Av t3.length,some (.str z),some mP,none]) t7/\t7[F]?=some (.dic [z] [bh z ps ks E])/\t7[N]?=some (.lst [.str z])/\t7[t3.length]?=some (.dic [] [])/\Kx [B] t6 t7:=by
  have I:=qO av t6
  cases hq:cW av with
  |true =>
   rw [hq] at I
   exact ⟨_,t6,zo P (zo (zD (zy (zE (zh (zb rfl) (zb rfl) (j1 F6 (by simp)))) AN)) (zZ (gO (zO (zh (zb rfl) rfl I))))),F6,N6,G6,Kx.refl _ _⟩
  |false =>
   rw [hq] at I
   have P2:=wW (wI (z:=z) (x:=av) (ks:=[]) (xs:=[]) (by simp)) (fo:=za 3) (fi:=za 5) (fv:=za 6) (e:=[Av F,Av N,Av C,Av B,Av t3.length,some (.str z),some av,none]) (s:=t6) (zb rfl) (zb rfl) (zb rfl) B6 (by simp)
   have k7:Kx [B] t6 (t6.set B (.dic ([]++[z]) ([]++[av]))):=yZ (by simp)
   have UC:C≠B:=λq=>by subst q;rw [B6] at C6;cases C6
   have UD:K≠B:=λq=>by subst q;rw [B6] at K6;cases K6
   have UE:N≠B:=λq=>by subst q;rw [B6] at N6;cases N6
   have C7:=k7 _ _ (by simpa using UC) C6
   have K7:=k7 _ _ (by simpa using UD) K6
   exact ⟨_,_,zo P (zo (zD (zy (zE (zh (zb rfl) (zb rfl) (j1 F6 (by simp)))) AN)) (yG (wu (zO (zh (zb rfl) rfl I)) (zO (zh (zb rfl) (zb rfl) NI))) (zo P2 (wy (zh (zb rfl) (zb rfl) (j1 C7 (by simp))) K7 (qM K7))))),k7 _ _ (by simpa using nB) F6,k7 _ _ (by simpa using UE) N6,k7 _ _ (by simp;omega) G6,k7⟩
 obtain ⟨v6,t7,EL,F7,N7,G7,k7⟩:=Hk
 let t8:=t7++[SO.lst []]
 have LD:jO [.ref t3.length] t7=.ok (.ref t7.length) t8:=tZ G7
 have BQ:bQ [Av F,Av N,Av C,Av B,none,none,none,none] t3=.ok (.nx [Av F,Av t7.length,Av C,Av B,Av t3.length,some (.str z),some v6,none]) t8:=zo (zD (v:=.ref t3.length) (s1:=t4) rfl) (zo (wy (zb rfl) N4 (qN N4 rfl EL N7)) (zD (zy (zE (zb rfl)) LD)))
 have N3:=qR _ _ hN
 have W:bK (mB (zc j8 (zq yo (zf (za 1) zj)) (At 0))) bQ 1000000 [Av F,Av N,Av C,Av B,none,none,none,none] t3=.ok (.nx _) t8:=kT (n:=999999) (zO (zh (zy (zE (zb rfl)) (bp N3)) rfl (fj true (by simp) _))) BQ (kS 999998 (zO (zh (zy (zE (zb rfl)) (bp (xs:=[]) (zV _ _))) rfl (fj false (by simp) _))))
 refine ⟨t8,m5 rfl (zo (zD (zy (zE (zy (zE (zb rfl)) E1)) E2)) (zo (zD (zy (zF (zb rfl) (zb rfl)) E3)) W)),zI _ _ _ _ F7,λm so q e=>zI _ _ _ _ (k7 _ _ ?_ (k6 _ _ q (o5 _ _ (o4 _ _ (qR _ _ e)))))⟩
 have e2:=zP (mQ _ _ e)
 simp
 omega
def Hl (hl:ss.length<=900) (hF:s[F]?=some (.dic [z] [bh z ps ss E])):∃R s1,tJ [.ref F,.str z] s=.ok (.ref R) s1/\s1[R]?=some (.lst [.str z])/\Old s s1:=by
 obtain ⟨A,L,t1,E1,a1,l1,o1⟩:=G5 hl hF
 let t2:=t1++[SO.dic [z] [.str z]]
 have K:(xP [((za 1),(za 1))]) [Av F,some (.str z)] t1=.ok (.ref t1.length) t2:=by
  show (if eI (t1++[SO.dic [] []])[t1.length]?=true then Res.ok _ _ else .stuck)=_
  rw [zV,zC (show eI (some (SO.dic [] []))=true from rfl),mK]
  rfl
 have o2:Old t1 t2:=zI _ _
 exact ⟨_,_,zR rfl (zS (zy (jY (zb rfl) (zy (zE (zb rfl)) E1) K) (T_ (o2 _ _ a1) (o2 _ _ l1) _))),zV _ _,o1.trans (o2.trans (zI _ _))⟩
def UG (hl:ss.length<=900) (hF:s[F]?=some (.dic [z] [bh z ps ss E])):∃K s1,tK [.ref F,.str z] s=.ok (.ref K) s1/\s1[K]?=some (.dic [z] [bh z ps ss E])/\Old s s1:=by
 let t:=s++[SO.dic [] []]
 have ot:Old s t:=zI _ _
 obtain ⟨R,t1,E1,r1,o1⟩:=Hl hl (ot _ _ hF)
 have k1:=o1 _ _ (zV s (SO.dic [] []))
 have F1:=o1 _ _ (ot _ _ hF)
 have lR:=zP r1
 have P:=wW (wI (z:=z) (x:=bh z ps ss E) (ks:=[]) (xs:=[]) (by simp)) (fo:=za 2) (fi:=za 3) (fv:=zc zk (za 0) (za 3)) (e:=[Av F,some (.str z),Av s.length,some (.str z)]) (s:=t1) (s1:=t1) (zh (zb rfl) (zb rfl) (j1 F1 (by simp))) (zb rfl) (zb rfl) k1 (by simp)
 have ne:s.length≠R:=λq=>by subst q;rw [k1] at r1;cases r1
 have k2:Kx [s.length] t1 (t1.set s.length (.dic ([]++[z]) ([]++[bh z ps ss E]))):=yZ (by simp)
 exact ⟨s.length,_,zR rfl (zo (zD rfl) (zo (wy (zy (zF (zb rfl) (zb rfl)) E1) r1 (qN r1 rfl P (k2 _ _ (by simpa using yM ne) r1))) (zS (zb rfl)))),yz (zP k1),λm so q=>k2 _ _ (by simp;have:=zP q;omega) (o1 _ _ (ot _ _ q))⟩
def UH (hl:ss.length<=900) (hF:s[F]?=some (.dic [z] [bh z ps ss E])):∃D s1,AE [.ref F,.str z] s=.ok (.ref D) s1/\s1[D]?=some (.dic [] [])/\Old s s1:=by
 let t:=s++[SO.dic [] []]
 have ot:Old s t:=zI _ _
 have tF:=ot _ _ hF
 let t1:=t.set F (.fdi [z] [bh z ps ss E])
 have f1:t1[F]?=some (.fdi [z] [bh z ps ss E]):=tY tF
 obtain ⟨t2,E2,o2⟩:=GY hl E t1
 have B:(yF (yt (zq mE (zf (zc zk (zc jP (za 0) (za 3)) (At 2)) zj))) (gN 4) yu) [Av F,some (.str z),Av s.length,some (.str z),none,none] t1=.ok (.nx [Av F,some (.str z),Av s.length,some (.str z),none,none]) t2:=gW (zy (zE (zh (zh (zb rfl) (zb rfl) (tX f1)) rfl y8)) E2) rfl
 obtain ⟨t3,E3,k3,h3⟩:=oy (fo:=za 0) (g:=gN 3) (e:=[Av F,some (.str z),Av s.length,none,none,none]) (zb rfl) tF rfl B (ms:=[]) o2.kx (by simp)
 have o3:Old t t3:=λm so q=>k3 _ _ (by simp) q
 let t4:=t3++[SO.dic [] []]
 have o4:Old t3 t4:=zI _ _
 have F4:=o4 _ _ (o3 _ _ tF)
 have NE:∀s,jV (.str z) (.str z) s=.ok (.bl false) s:=λs=>(xV z z).trans (by simp)
 have B4:(zT (ju (mB (zc jV (za 3) (za 1))) (mB (zc zU (kO (za 2) (za 3) (At 0)) (At 1)))) yu zW) [Av F,some (.str z),Av s.length,some (.str z),none,Av t3.length] (t4.set F (.fdi [z] [bh z ps ss E]))=.ok (.nx [Av F,some (.str z),Av s.length,some (.str z),none,Av t3.length]) (t4.set F (.fdi [z] [bh z ps ss E])):=zZ (gO (zO (zh (zb rfl) (zb rfl) (NE _))))
 obtain ⟨t5,E5,k5,h5⟩:=oy (fo:=za 0) (g:=gN 3) (e:=[Av F,some (.str z),Av s.length,some (.str z),none,Av t3.length]) (zb rfl) F4 rfl B4 (ms:=[]) (Kx.refl _ _) (by simp)
 have o5:Old t4 t5:=λm so q=>k5 _ _ (by simp) q
 exact ⟨t3.length,t5,zR rfl (zo (zD rfl) (zo E3 (zo (zD rfl) (zo E5 (zS (zb rfl)))))),o5 _ _ (zV _ _),ot.trans (o3.trans (o4.trans o5))⟩
def Hm (n:Nat) (a:PV) (s:aa):oq (n+1) [aW [] (aL a)] s=.ok (.int 0) s:=by
 show tN _ [aW [] (aL a)] s=_
 exact zR rfl (zo (zD (zh (zb rfl) rfl yh)) (zo (zZ (q0 rfl (bF mM _))) (zS rfl)))
def UI (xs:Aq) (E:En) (s:aa):∃d:Int,oq 3 [aW xs E.v] s=.ok (.int d) s:=by
 show ∃d:Int,tN (oq 2) [aW xs E.v] s=_
 cases E with
 |give a=>exact ⟨0,zR rfl (zo (zD (zh (zb rfl) rfl yh)) (zo (zZ (q0 rfl (bF mM _))) (zS rfl)))⟩
 |ite x b c=>exact ⟨1,zR rfl (zo (zD (zh (zb rfl) rfl yh)) (jH (yG (q0 rfl (du _)) (zS (zh rfl (zy (zF (zy (zE (zh (zb rfl) rfl y8)) (Hm 1 b s)) (zy (zE (zh (zb rfl) rfl wx)) (Hm 1 c s))) rfl) rfl)))))⟩
abbrev uf (z:Str) (D T:Nat) (n d:Int) (J:Nat):SO:=.ins "Host" ["name", "lone", "taken", "size", "depth", "joined_names"] [.str z,.ref D,.ref T,.int n,.int d,.ref J]
def UJ (hl:ss.length<=800) (nd:(ps++ss.map St.z).Nodup) (hp:ps.length<=90) (D:Nat) (s:aa):∃T n d J s1,e_ "Host" ou [bh z ps ss E,.ref D] s=.ok (.ref s.length) s1/\s1[s.length]?=some (uf z D T n d J)/\s1[J]?=some (.lst [])/\Old s s1:=by
 let o:=s.length
 let t0:=s++[SO.ins "Host" [] []]
 have h0:t0[o]?=some (.ins "Host" [] []):=zV _ _
 let t1:=t0.set o (.ins "Host" ["name"] [.str z])
 have h1:t1[o]?=some (.ins "Host" ["name"] [.str z]):=yz (zP h0)
 let t2:=t1.set o (.ins "Host" ["name", "lone"] [.str z,.ref D])
 have h2:t2[o]?=some (.ins "Host" ["name", "lone"] [.str z,.ref D]):=yz (zP h1)
 let t3:=t2++[SO.lst ((ss.map St.z).map PV.str)]
 obtain ⟨T,t4,E4,o4⟩:=Ua (ps++ss.map St.z) nd (by simp;omega) t3
 have h4:=o4 _ _ (zI t2 [SO.lst ((ss.map St.z).map PV.str)] _ _ h2)
 let t5:=t4.set o (.ins "Host" ["name", "lone", "taken"] [.str z,.ref D,.ref T])
 have h5:t5[o]?=some (.ins "Host" ["name", "lone", "taken"] [.str z,.ref D,.ref T]):=yz (zP h4)
 have LN:=AZ (ss:=ss) (by omega) E t5
 obtain ⟨n,hn⟩:∃n:Int,n=((ss.map St.v++E.ls).length:Int):=⟨_,rfl⟩
 let t6:=t5.set o (.ins "Host" ["name", "lone", "taken", "size"] [.str z,.ref D,.ref T,.int n])
 have h6:t6[o]?=some (.ins "Host" ["name", "lone", "taken", "size"] [.str z,.ref D,.ref T,.int n]):=yz (zP h5)
 obtain ⟨d,DP⟩:=UI (ss.map St.v) E t6
 let t7:=t6.set o (.ins "Host" ["name", "lone", "taken", "size", "depth"] [.str z,.ref D,.ref T,.int n,.int d])
 have h7:t7[o]?=some (.ins "Host" ["name", "lone", "taken", "size", "depth"] [.str z,.ref D,.ref T,.int n,.int d]):=yz (zP h6)
 let t8:=t7++[SO.lst []]
 have h8:=zI t7 [SO.lst []] _ _ h7
 have l7:=zP h7
 let t9:=t8.set o (uf z D T n d t7.length)
 have ST:=G1 (ss:=ss) (by omega) E t2
 have AD:yd (.tup (ps.map PV.str)) (.tup ((ss.map St.z).map PV.str)) t3=.ok (.tup ((ps++ss.map St.z).map PV.str)) t3:=(mJ (by simp;omega)).trans (by rw [<-ja])
 have Q:ou [.ref o,bh z ps ss E,.ref D] t0=.ok .non t9:=m5 rfl (zo (kR (zh (zb rfl) rfl yB) (zb rfl) h0 (by decide +kernel) (by decide)) (zo (kR (zb rfl) (zb rfl) h1 (by decide +kernel) (by decide)) (zo (kR (zy (zE (zh (zh (zb rfl) rfl yh) (zy (zE (zh (zb rfl) rfl y8)) ST) AD)) E4) (zb rfl) h4 (by decide +kernel) (by decide)) (zo (kR (x:=.int n) (zy (zE (zy (zE (zh (zb rfl) rfl y8)) LN)) ((sN _).trans (by rw [hn]))) (zb rfl) h5 (by decide +kernel) (by decide)) (zo (kR (zy (zE (zh (zb rfl) rfl y8)) DP) (zb rfl) h6 (by decide +kernel) (by decide)) (kR (x:=.ref t7.length) (s1:=t8) (jm jQ (by simp)) (zb rfl) h8 (by decide +kernel) (by decide)))))))
 have ks:Kx [o] t0 t9:=(yZ (by simp)).trans ((yZ (by simp)).trans ((zI _ _).kx.trans (o4.kx.trans ((yZ (by simp)).trans ((yZ (by simp)).trans ((yZ (by simp)).trans ((zI _ _).kx.trans (yZ (by simp)))))))))
 refine ⟨T,n,d,t7.length,t9,?_,yz (zP h8),?_,λm so q=>ks _ _ (by simp;have:=zP q;omega) (zI _ _ _ _ q)⟩
 ·show (ou [.ref o,bh z ps ss E,.ref D] t0).bind _=_
  rw [Q,zL]
  rfl
 ·rw [yJ (by omega)];exact zV _ _
def Hn {o:Nat} {w:Str} {r:Aq} (hw:w ≠ "go") (i:Int):m_Host_may_join [.ref o,.tup (.str w::r),.int i] s=.ok (.bl false) s:=by
 have NE:jV (.str w) (.str "go") s=.ok (.bl true) s:=(xV _ _).trans (by simp [hw])
 exact zR rfl (jH (yG (n_ (zO (zh (zh (zb rfl) rfl yB) rfl NE))) (zS rfl)))
def Bb {m:An}:wv "Host" m "Host" = some m:=zC rfl
def Bc {mr:An}{T J o:Nat}{n d i:Int}{xs:Aq}{a:PV}(ho:s[o]?=some (uf z D T n d J)):m_Host_joined_block mr [.ref o,aW xs (aL a),.int i] s=.ok (aW xs (aL a)) s:=by
 have M:(mB (jG "may_join" qF (za 0) (zf (za 4) (zf (za 2) zj)))) [Av o,some (aW xs (aL a)),some (.int i),some (.tup xs),some (aL a),none,none] s=.ok false s:=zO (gU (zb rfl) ho (by decide +kernel) (zC rfl) (zF (zb rfl) (zb rfl)) (Hn n4 i))
 exact zR rfl (zo (zD (zh (zb rfl) rfl yB)) (zo (zD (zh (zb rfl) rfl yh)) (zo (kS 999999 M) (zo (zZ (q0 rfl (bF mM _))) (zS (yk (zF (zb rfl) (zb rfl)) (by simp)))))))
def UK {T J o:Nat}{n d:Int}{xs:Aq}(E:En) (ho:s[o]?=some (uf z D T n d J)):i9 3 [.ref o,aW xs E.v,.int 0] s=.ok (aW xs E.v) s:=by
 show m_Host_joined_block (i9 2) [.ref o,aW xs E.v,.int 0] s=_
 cases E with
 |give a=>exact Bc ho
 |ite x b c =>
  have M:(mB (jG "may_join" qF (za 0) (zf (za 4) (zf (za 2) zj)))) [Av o,some (aW xs (d6 (bE x) b c)),some (.int 0),some (.tup xs),some (d6 (bE x) b c),none,none] s=.ok false s:=zO (gU (zb rfl) ho (by decide +kernel) (zC rfl) (zF (zb rfl) (zb rfl)) (Hn n9 0))
  have J1:i9 2 [.ref o,aW [] (aL b),.int (0+1)] s=.ok (aW [] (aL b)) s:=Bc ho
  have J2:i9 2 [.ref o,aW [] (aL c),.int (0+1)] s=.ok (aW [] (aL c)) s:=Bc ho
  exact zR rfl (zo (zD (zh (zb rfl) rfl yB)) (zo (zD (zh (zb rfl) rfl yh)) (zo (kS 999999 M) (zo (yG (q0 rfl (du _)) (zo (zD (gU (zb rfl) ho (by decide +kernel) Bb (zF (zh (zb rfl) rfl y8) (zh (zb rfl) rfl (wU _ _))) J1)) (zD (yk (gT rfl (zh (zb rfl) rfl yh) (zb rfl) (gU (zb rfl) ho (by decide +kernel) Bb (zF (zh (zb rfl) rfl wx) (zh (zb rfl) rfl (wU _ _))) J2)) (by simp))))) (zS (yk (zF (zb rfl) (zb rfl)) (by simp)))))))
abbrev bJ:Al:=(zT (mB (zc (yA false) (za 4) (za 0)))
  (zp (zB 5 (zc zk (za 0) (za 4)))
  (zp (zB 6 (zq (e_ "Host" ou) (zf (za 5) (zf (za 2) zj))))
  (zp (yL (za 0) (za 4) (yg (zf (za 4) (zf (zc zk (za 5) (At 1)) (zf (jG "joined_block" (wv "Host" (i9 3)) (za 6) (zf (zc zk (za 5) (At 2)) (zf (At 0) zj))) zj)))))
  (zp (zT (mB (zc (yA false) (za 4) (za 2)))
  yu
  zW)
  (zp (yF (yt (yQ (bX "joined_names" insOf excOf) (za 6))) (gN 7)
  yu)
  (zT (mB (zc j8 (zq yo (zf (yQ (bX "joined_names" insOf excOf) (za 6)) zj)) (At 0)))
  yu
  zW))))))
  zW)
def UL (hl:ss.length<=800) (nd:(ps++ss.map St.z).Nodup) (hp:ps.length<=90) (hF:s[F]?=some (.dic [z] [bh z ps ss E])):∃R s1,tO [.ref F,.str z] s=.ok (.ref R) s1/\s1[R]?=some (.lst [])/\Old s s1:=by
 obtain ⟨D,t1,E1,d1,o1⟩:=UH (by omega) hF
 let t2:=t1++[SO.lst []]
 have o2:Old t1 t2:=zI _ _
 have F2:=o2 _ _ (o1 _ _ hF)
 let t3:=t2++[SO.lst [.str z]]
 have o3:Old t2 t3:=zI _ _
 have LD:jO [.ref F] t2=.ok (.ref t2.length) t3:=tZ F2
 have F3:=o3 _ _ F2
 obtain ⟨T,n,d,J,t4,E4,h4,j4,o4⟩:=UJ (z:=z) (E:=E) hl nd hp D t3
 have F4:=o4 _ _ F3
 have D4:=o4 _ _ (o3 _ _ (o2 _ _ d1))
 have L4:=o4 _ _ (zV t2 (SO.lst [.str z]))
 have R4:=o4 _ _ (o3 _ _ (zV t1 (SO.lst [])))
 have IN:yA false (.str z) (.ref F) t3=.ok (.bl true) t3:=AO F3 (by simp)
 have P:=qI (fo:=za 0) (fi:=za 4) (fv:=(yg (zf (za 4) (zf (zc zk (za 5) (At 1)) (zf (jG "joined_block" (wv "Host" (i9 3)) (za 6) (zf (zc zk (za 5) (At 2)) (zf (At 0) zj))) zj))))) (e:=[Av F,some (.str z),Av D,Av t1.length,some (.str z),some (bh z ps ss E),Av t3.length,none]) (s:=t4) (s1:=t4) (x:=bh z ps ss E) (yk (jY (zb rfl) (zh (zb rfl) rfl yh) (gU (zb rfl) h4 (by decide +kernel) Bb (zF (zh (zb rfl) rfl y8) rfl) (UK E h4))) (by simp)) (zb rfl) (zb rfl) F4 (by simp)
 have dp:jk z (bh z ps ss E) [z] [bh z ps ss E]=([z],[bh z ps ss E]):=by unfold jk;rw [zC (by simp)];unfold repl;rw [zC rfl];rfl
 rw [dp,TU F4] at P
 have IX:zk (.ref F) (.str z) t3=.ok (bh z ps ss E) t3:=j1 F3 (by simp)
 have JN:bX "joined_names" insOf excOf (.ref t3.length) t4=.ok (.ref J) t4:=tW h4 (by decide +kernel) (by kernel_rfl)
 have LO:=qN (g:=gN 4) (body:=bJ) (e:=[Av F,some (.str z),Av D,Av t1.length,none,none,none,none]) (zV t2 (SO.lst [.str z])) rfl (yG (zO (zh (zb rfl) (zb rfl) IN)) (zo (zD (zh (zb rfl) (zb rfl) IX)) (zo (zD (zy (zF (zb rfl) (zb rfl)) E4)) (zo P (zo (zZ (zO (zh (zb rfl) (zb rfl) (AO D4 rfl)))) (zo (wy (wT (zb rfl) JN) j4 (qM j4)) (zZ (zO (zh (zy (zE (wT (zb rfl) JN)) (bp j4)) rfl (fj false (by simp) _)))))))))) L4
 have CI:=GL (e:=[Av F,some (.str z),Av D,Av t1.length,some (.str z),some (bh z ps ss E),Av t3.length,none]) (src:=za 3) (ft:=(mB (zc (yA false) (za 0) (za 1)))) (fe:=za 0) (p:=λ_=>false) (f:=id) (s:=t4) (s1:=t4) (n:=t1.length) (xs:=[]) (zb rfl) R4 (by simp) (λ_ h=>nomatch h) (λ_ h=>nomatch h)
 exact ⟨t4.length,_,zR rfl (zo (zD (zy (zF (zb rfl) (zb rfl)) E1)) (zo (zD (jm jQ (by simp))) (zo (wy (zy (zE (zb rfl)) LD) (zV _ _) LO) (zS CI)))),zV _ _,o1.trans (o2.trans (o3.trans (o4.trans (zI _ _))))⟩
end
def ren (N:Ae):PV->PV
 |.tup [.str w,.str z]=>if w = "of" then bE (vN (N.idxOf z)) else .tup [.str w,.str z]
 |a=>a
def oE (N:Ae) (z:Str):ren N (bE z)=bE (vN (N.idxOf z)):=by simp [ren]
def ug (N:Ae) (v:PV):ren N (gY v)=gY v:=by
 cases v with
 |str z=>show (if ("is" : Str) = "of" then bE (vN (N.idxOf z)) else gY (.str z))=_;exact zQ oz
 |_=>rfl
def df (N:Ae) (t:St):St:=⟨vN (N.idxOf t.z),t.o,t.as.map (ren N)⟩
def En.ren (N:Ae):En->En
 |.give a=>.give (FK72.ren N a)
 |.ite x b c=>.ite (vN (N.idxOf x)) (FK72.ren N b) (FK72.ren N c)
abbrev d7 (ps:Ae) (ss:List St):Ae:=ps++ss.map St.z
abbrev kU (ps:Ae) (ss:List St) (E:En):PV:=bh "q0" (vs ps.length) (ss.map (df (d7 ps ss))) (E.ren (d7 ps ss))
def En.at_:En->Aq
 |.give a=>[a]
 |.ite x b c=>[bE x,b,c]
structure mR (ps:Ae) (ss:List St) (E:En):Prop where
 l1:ss.length<=900
 l2:ss.length<=800
 lp:ps.length<=90
 nd:(d7 ps ss).Nodup
 ok:∀t∈ss,cE t
 as:∀t∈ss,∀x∈aZ t.as,x∈d7 ps ss
 ek:E.ok
 es:∀x∈aZ E.at_,x∈d7 ps ss
def UM {fe src:Ak}{e:ze}{s s1:aa}{xs:Aq}(hs:src e s=.ok (.tup xs) s1) (hl:xs.length<=1000) (I:Nat->List PV->aa->Prop) (step:∀i x ys st,xs[i]?=some x->I i ys st->∃y ae,fe (some x::e) st=.ok y ae/\I (i+1) (ys++[y]) ae) (h0:I 0 [] s1):∃cH a5,y9 (yt src) fe e s=.ok (.ref a5.length) (a5++[.lst cH])/\I xs.length cH a5:=by
 obtain ⟨ys,s2,C,h⟩:=tU (fe:=fe) (env:=e) xs I step xs.length 0 [] s1 (by omega) h0
 refine ⟨ys,s2,?_,h⟩
 rw [nY,iK,hs,zL]
 show fD _ _ (.im xs) s1=_
 rw [sD,zC (by simp [lim];omega)]
 exact C
section
variable {s:aa} {F Nm S:Nat} {z:Str} {ps:Ae} {ss:List St} {E:En} {N:Ae}
def Ho {z:Str}(h:z∈N):N[N.idxOf z]?=some z:=by
 rw [yi (List.idxOf_lt_length_of_mem h),List.getElem_idxOf]
def uh {a:PV}(h:s[S]?=some (.dic N (ofs 0 N))) (nd:N.Nodup) (ha:cZ a) (hn:∀x∈bY a,x∈N):iY [a,.ref S] s=.ok (ren N a) s:=by
 rcases ha with ⟨w,rfl⟩|⟨v,rfl⟩
 ·have G:=GP (fo:=za 1) (fk:=zc zk (za 0) (At 1)) (fx:=za 0) (e:=[some (bE w),Av S]) (zb rfl) h (zh (zb rfl) rfl yh) (zb rfl)
  have LK:=AV (k:=0) nd (Ho (hn w (by rw [j2];simp)))
  rw [Nat.zero_add] at LK
  rw [LK] at G
  rw [oE]
  exact zR rfl (jH (yG (q0 rfl (du _)) (zS G)))
 ·rw [ug]
  exact zR rfl (zo (zZ (q0 rfl (bF oz _))) (zS (zb rfl)))
def UN {as:Aq}(h:s[S]?=some (.dic N (ofs 0 N))) (nd:N.Nodup) (ha:∀a∈as,cZ a) (hn:∀x∈aZ as,x∈N) (hl:as.length<=900):om [.tup as,.ref S] s=.ok (.tup (as.map (ren N))) (s++[.lst (as.map (ren N))]):=by
 have C:=qL (e:=[some (.tup as),Av S]) (src:=za 0) (fe:=zq iY (zf (za 0) (zf (za 2) zj))) (f:=ren N) (s:=s) (s1:=s) (xs:=as) (zb rfl) (by omega) (λa h'=>zy (zF (zb rfl) (zb rfl)) (uh h nd (ha a h') λx hx=>hn x (List.mem_flatMap.mpr ⟨a,h',hx⟩)))
 exact zR rfl (zS (zy (zE C) gX))
def UO {t:St}(h:s[S]?=some (.dic N (ofs 0 N))) (nd:N.Nodup) (ht:cE t) (hz:t.z∈N) (hn:∀x∈aZ t.as,x∈N):∃s1,tP [t.v,.ref S,.ref Nm] s=.ok (df N t).v s1/\Old s s1:=by
 have few:=ht.few
 have P1:=uh (a:=bE t.z) h nd (.inl ⟨_,rfl⟩) (λx hx=>by rw [j2] at hx;rw [jJ.mp hx];exact hz)
 rw [oE] at P1
 have P2:=UN h nd ht.at_ hn (by omega)
 have IF:(se (mB (zc zU (zc zk (za 0) (At 0)) (Au "call"))) (kO (za 2) (zc zk (za 0) (At 2)) (zc zk (za 0) (At 2))) (zc zk (za 0) (At 2))) [some t.v,Av S,Av Nm,some (.str (vN (N.idxOf t.z))),none] s=.ok (.str t.o) s:=by
  rw [O0,q0 rfl (bF n1 _),zL,zQ (by simp)]
  exact zh (zb rfl) rfl y8
 exact ⟨_,zR rfl (zo (zD (zh (zy (zF (yk (zF rfl (zh (zb rfl) rfl yh)) (by simp)) (zb rfl)) P1) rfl yh)) (zo (zD IF) (zS (yk (gT (zh (zb rfl) rfl yB) (zb rfl) (zb rfl) (zy (zF (zh (zb rfl) rfl wx) (zb rfl)) P2)) (by simp))))),zI _ _⟩
def Bd {mr:An}{a:PV}(h:s[S]?=some (.dic N (ofs 0 N))) (nd:N.Nodup) (ha:cZ a) (hn:∀x∈bY a,x∈N):tQ mr [aL a,.ref S,.ref Nm] s=.ok (aL (ren N a)) s:=zR rfl (zo (zZ (q0 rfl (bF gf _))) (zo (zZ (q0 rfl (bF n4 _))) (zo (zD (zy (zF (zh (zb rfl) rfl yh) (zb rfl)) (uh h nd ha hn))) (jH (yG (q0 rfl (du _)) (zS (yk (zF rfl (zb rfl)) (by simp))))))))
def uk {mr:An}{e e':PV}(h:s[S]?=some (.dic N (ofs 0 N))) (nd:N.Nodup) (hl:ss.length<=900) (hs:∀t∈ss,cE t/\t.z∈N/\∀x∈aZ t.as,x∈N) (hE:∀s1,Old s s1->∃s2,tQ mr [e,.ref S,.ref Nm] s1=.ok e' s2/\Old s1 s2):∃s1,tR mr [aW (ss.map St.v) e,.ref S,.ref Nm] s=.ok (aW ((ss.map (df N)).map St.v) e') s1/\Old s s1:=by
 obtain ⟨ys,s1,C,hy,o1⟩:=UM (e:=[some (aW (ss.map St.v) e),Av S,Av Nm,none]) (fe:=zq tP (zf (za 0) (zf (za 2) (zf (za 3) zj)))) (src:=(zc zk (za 0) (At 0))) (s:=s) (s1:=s) (xs:=ss.map St.v) (zh (zb rfl) rfl yB) (by simp;omega) (λi ys st=>ys=((ss.take i).map (df N)).map St.v/\Old s st) (λi x ys st hx ⟨hy,o⟩=>by
  rw [jd] at hx
  obtain ⟨t,ht,rfl⟩:=Option.map_eq_some_iff.mp hx
  obtain ⟨k1,k2,k3⟩:=hs t (jR ht)
  obtain ⟨s2,E2,o2⟩:=UO (Nm:=Nm) (o _ _ h) nd k1 k2 k3
  refine ⟨_,s2,zy (jY (zb rfl) (zb rfl) (zb rfl)) E2,?_,o.trans o2⟩
  rw [hy,gv ht]
  simp) ⟨by simp,Old.refl _⟩
 rw [jD,List.take_length] at hy
 subst hy
 let s2:=s1++[SO.lst (((ss.map (df N)).map St.v))]
 have o2:Old s s2:=o1.trans (zI _ _)
 obtain ⟨s3,E3,o3⟩:=hE s2 o2
 exact ⟨s3,zR rfl (zo (zD (zy (zE C) gX)) (zS (yk (zF (zb rfl) (zy (jY (zh (zb rfl) rfl yh) (zb rfl) (zb rfl)) E3)) (by simp)))),o2.trans o3⟩
def UP (h:s[S]?=some (.dic N (ofs 0 N))) (nd:N.Nodup) (hl:ss.length<=900) (hs:∀t∈ss,cE t/\t.z∈N/\∀x∈aZ t.as,x∈N) (he:E.ok) (hn:∀x∈aZ E.at_,x∈N):∃s1,mI 3 [aW (ss.map St.v) E.v,.ref S,.ref Nm] s=.ok (aW ((ss.map (df N)).map St.v) (E.ren N).v) s1/\Old s s1:=by
 show ∃s1,tR (mI 2) [aW (ss.map St.v) E.v,.ref S,.ref Nm] s=_/\_
 cases E with
 |give a=>exact uk h nd hl hs λs1 o1=>⟨s1,Bd (o1 _ _ h) nd he λx hx=>hn x (by simpa [En.at_,aZ] using hx),Old.refl _⟩
 |ite x b c =>
  have nx:x∈N:=hn x (by simp [En.at_,j2])
  have nb:∀y∈bY b,y∈N:=λy hy=>hn y (by simp [En.at_,hy])
  have nc:∀y∈bY c,y∈N:=λy hy=>hn y (by simp [En.at_,hy])
  refine uk h nd hl hs λs1 o1=>?_
  have h1:=o1 _ _ h
  obtain ⟨s2,E2,o2⟩:=uk (s:=s1) (Nm:=Nm) (mr:=mI 1) (ss:=[]) (e:=aL b) (e':=aL (ren N b)) h1 nd (by simp) (λ_ h=>nomatch h) λs' o'=>⟨s',Bd (o' _ _ h1) nd he.1 nb,Old.refl _⟩
  have h2:=o2 _ _ h1
  obtain ⟨s3,E3,o3⟩:=uk (s:=s2) (Nm:=Nm) (mr:=mI 1) (ss:=[]) (e:=aL c) (e':=aL (ren N c)) h2 nd (by simp) (λ_ h=>nomatch h) λs' o'=>⟨s',Bd (o' _ _ h2) nd he.2 nc,Old.refl _⟩
  have P:=uh (a:=bE x) h1 nd (.inl ⟨_,rfl⟩) (λy hy=>by rw [j2] at hy;rw [jJ.mp hy];exact nx)
  rw [oE] at P
  exact ⟨s3,zR rfl (zo (zZ (q0 rfl (bF AW _))) (zo (zZ (q0 rfl (bF n9 _))) (zo (zD (zy (zF (zh (zb rfl) rfl yh) (zb rfl)) P)) (zo (zZ (q0 rfl (bF t_ _))) (zS (yk (gT rfl (zb rfl) (zy (jY (zh (zb rfl) rfl y8) (zb rfl) (zb rfl)) E2) (zy (jY (zh (zb rfl) rfl wx) (zb rfl) (zb rfl)) E3)) (by simp))))))),o2.trans o3⟩
def UQ (R:mR ps ss E) (hN:s[Nm]?=some (.dic [z] [.str "q0"])):∃s1,tS [bh z ps ss E,.ref Nm] s=.ok (kU ps ss E) s1/\Old s s1:=by
 have l2:=R.l2
 have lp:=R.lp
 let t:=s++[SO.dic [] []]
 let t1:=t++[SO.lst ((ss.map St.z).map PV.str)]
 have o1:Old t t1:=zI _ _
 have AD:yd (.tup (ps.map PV.str)) (.tup ((ss.map St.z).map PV.str)) t1=.ok (.tup ((d7 ps ss).map PV.str)) t1:=(mJ (by simp;omega)).trans (by rw [<-ja])
 obtain ⟨z3,z4,t2,E2,d2,k2⟩:=GX (f:=bh z ps ss E) (N:=Nm) (S:=s.length) (d7 ps ss) [] (s:=t1) (z3:=none) (z4:=none) R.nd (by simp;omega) (o1 _ _ (zV _ _))
 rw [List.nil_append] at d2
 have o2:Old s t2:=λm so q=>k2 _ _ (by simp;have:=zP q;omega) (o1 _ _ (zI _ _ _ _ q))
 have LP:(sS (zf (zc yd (zc zk (za 0) (At 1)) (zq qE (zf (zc zk (za 0) (At 2)) zj))) zj) (g2 3 4) bR) (eR (bh z ps ss E) Nm s.length none none none) t=.ok (.nx (eR (bh z ps ss E) Nm s.length z3 z4 none)) t2:=by
  unfold sS
  rw [zE (zh (zh (zb rfl) rfl yh) (zy (zE (zh (zb rfl) rfl y8)) (G1 R.l1 E t)) AD),zL]
  show (if ((d7 ps ss).map PV.str).length<=lim then Res.ok ((d7 ps ss).map PV.str) t1 else .stuck).bind _=_
  rw [zC (by simp [lim];omega),zL]
  exact E2
 have C:=GK (e:=eR (bh z ps ss E) Nm s.length z3 z4 none) (fe:=(zc zk (zc zk (za 3) (za 0)) (At 1))) (src:=(zc zk (za 0) (At 1))) (s:=t2) (s1:=t2) (xs:=ps.map PV.str) (Y:=(vs ps.length).map PV.str) (zh (zb rfl) rfl yh) (by simp;omega) (by simp [vs]) (λi x y hx hy=>by
  rw [jd] at hx
  obtain ⟨w,hw,rfl⟩:=Option.map_eq_some_iff.mp hx
  have hi:=gy hw
  have:y=.str (vN i):=by
   simp only [vs,List.map_map,jd] at hy
   rw [List.getElem?_range hi] at hy
   cases hy;rfl
  subst this
  have LK:=AV (k:=0) R.nd (i:=i) (z:=w) (by rw [wD hi];exact hw)
  rw [Nat.zero_add] at LK
  exact zh (zh (zb rfl) (zb rfl) (j1 d2 LK)) rfl yh)
 let t3:=t2++[SO.lst ((vs ps.length).map PV.str)]
 have o3:Old t2 t3:=zI _ _
 have N3:=o3 _ _ (o2 _ _ hN)
 obtain ⟨t4,E4,o4⟩:=UP (Nm:=Nm) (ss:=ss) (E:=E) (o3 _ _ d2) R.nd R.l1 (λt ht=>⟨R.ok t ht,y0 _ (List.mem_map_of_mem ht),R.as t ht⟩) R.ek R.es
 exact ⟨t4,zR rfl (zo (zD rfl) (zo LP (zo (zD (zy (zE C) gX)) (zS (yk (jY (zh (zb rfl) (zh (zb rfl) rfl yB) (j1 N3 (by simp))) (zb rfl) (zy (jY (zh (zb rfl) rfl y8) (zb rfl) (zb rfl)) E4)) (by simp)))))),o2.trans (o3.trans o4)⟩
def UR (R:mR ps ss E) (hF:s[F]?=some (.dic [z] [bh z ps ss E])):∃s1,AF [.ref F,.str z] s=.ok (.tup [kU ps ss E]) s1/\Old s s1:=by
 obtain ⟨M,t1,E1,r1,o1⟩:=Hl R.l1 hF
 let t2:=t1++[SO.dic [] []]
 have o2:Old t1 t2:=zI _ _
 have r2:=o2 _ _ r1
 have lR:=zP r1
 have l1:("q" : Str).length<=9:=by decide +kernel
 have FM:iW "q" (.int 0) t2=.ok (.str "q0") t2:=(GS l1 (c:=0) (by omega) t2).trans (by rw [GU])
 have P:=wW (wI (z:=z) (x:=.str "q0") (ks:=[]) (xs:=[]) (by simp)) (fo:=za 3) (fi:=za 5) (fv:=yQ (iW "q") (za 4)) (e:=[Av F,some (.str z),Av M,Av t1.length,some (.int 0),some (.str z)]) (s:=t2) (s1:=t2) (wT (zb rfl) FM) (zb rfl) (zb rfl) (zV _ _) (by simp)
 rw [mK,List.nil_append,List.nil_append] at P
 let t3:=t1++[SO.dic [z] [.str "q0"]]
 have o3:Old t1 t3:=zI _ _
 have r3:=o3 _ _ r1
 have LP:(sx (zf (za 2) zj) (g2 4 5) (yL (za 3) (za 5) (yQ (iW "q") (za 4)))) [Av F,some (.str z),Av M,Av t1.length,none,none] t2=.ok (.nx [Av F,some (.str z),Av M,Av t1.length,some (.int 0),some (.str z)]) t3:=by
  rw [PY,zE (zb rfl),zL]
  show (yq t2 M _).bind _=_
  rw [yv r2,zL]
  show ff _ _ M (999999+1+1) 0 _ _=_
  unfold ff
  rw [yv r2]
  show Res.bind (yL _ _ _ [Av F,some (.str z),Av M,Av t1.length,some (.int 0),some (.str z)] t2) _=_
  rw [P,zL]
  show ff _ _ M (999999+1) 1 _ _=_
  unfold ff
  rw [yv r3]
  rfl
 have F3:=o3 _ _ (o1 _ _ hF)
 obtain ⟨t4,E4,o4⟩:=UQ R (zV t1 (SO.dic [z] [.str "q0"]))
 have C:=GV (en:=[Av F,some (.str z),Av M,Av t1.length,some (.int 0),some (.str z)]) (src:=za 2) (fe:=zq tS (zf (zc zk (za 1) (za 0)) (zf (za 4) zj))) (s:=t3) (zb rfl) r3 (zy (zF (zh (zb rfl) (zb rfl) (j1 F3 (by simp))) (zb rfl)) E4) (o4 _ _ r3)
 exact ⟨_,zR rfl (zo (zD (zy (zF (zb rfl) (zb rfl)) E1)) (zo (zD rfl) (zo LP (zS (zy (zE C) gX))))),o1.trans (o3.trans (o4.trans (zI _ _)))⟩
def Hq (h:∀t∈ss,cE t/\t.o∈j3) (hl:ss.length<=200) (he:E.ok) (R:mR ps (kp ss.reverse E.us) E) (s:aa):∃s1,tT [.tup [bh z ps ss E]] s=.ok (.tup [kU ps (kp ss.reverse E.us) E]) s1/\Old s s1:=by
 generalize hk:kp ss.reverse E.us=ks at *
 let f:=bh z ps ss E
 let t1:=s++[SO.dic [z] [f]]
 have F1:t1[s.length]?=some (.dic [z] [f]):=zV _ _
 have B:tm [.tup [f]] s=.ok (.ref s.length) t1:=Ub _ ⟨_,_,rfl⟩ s
 let t2:=t1++[SO.lst [.str z]]
 have LD:jO [.ref s.length] t1=.ok (.ref t1.length) t2:=tZ F1
 have F2:t2[s.length]?=some (.dic [z] [f]):=zI _ _ _ _ F1
 have N2:t2[t1.length]?=some (.lst [.str z]):=zV _ _
 obtain ⟨t3,E3,F3,k3⟩:=UB h hl he F2 N2
 rw [hk] at F3
 have o3:Old s t3:=λm so q=>k3 _ _ (by simp;have:=zP q;omega) (zI _ _ _ _ (zI _ _ _ _ q))
 obtain ⟨K,t4,E4,K4,o4⟩:=UG R.l1 F3
 obtain ⟨M,t5,E5,R5,o5⟩:=UL R.l2 R.nd R.lp K4
 obtain ⟨t6,E6,o6⟩:=UR R (o5 _ _ K4)
 have W:bK (mB (zc j8 (zq yo (zf (za 3) zj)) (At 0))) (zp (yK (zq tI (zf (za 2) (zf (za 3) zj)))) (zp (zB 2 (zq tK (zf (za 2) (zf (za 1) zj)))) (zB 3 (zq tO (zf (za 2) (zf (za 1) zj)))))) 1000000 [some (.tup [f]),some (.str z),Av s.length,Av t1.length] t2=.ok (.nx [some (.tup [f]),some (.str z),Av K,Av M]) t5:=kT (n:=999999) (zO (zh (zy (zE (zb rfl)) (bp N2)) rfl (fj true (by simp) _))) (zo (wg (zy (zF (zb rfl) (zb rfl)) E3)) (zo (zD (zy (zF (zb rfl) (zb rfl)) E4)) (zD (zy (zF (zb rfl) (zb rfl)) E5)))) (kS 999998 (zO (zh (zy (zE (zb rfl)) (bp R5)) rfl (fj false (by simp) _))))
 exact ⟨t6,zR rfl (zo (zD (zh (zh (zb rfl) rfl yB) rfl yB)) (zo (zD (zy (zE (zb rfl)) B)) (zo (zD (zy (zE (zb rfl)) LD)) (zo W (zS (zy (zF (zb rfl) (zb rfl)) E6)))))),o3.trans (o4.trans (o5.trans o6))⟩
end
theorem Be:∀(r:List St) {S S':Ae},(∀z,z∈S↔z∈S')->kp r S=kp r S'
 |[],_,_,_=>rfl
 |t::r,S,S',h=>by
  have hi:idle S t=idle S' t:=by
   unfold idle
   rw [decide_eq_decide.mpr (not_congr (h t.z))]
  unfold kp
  rw [hi,Be r h,Be r (S:=S++aZ t.as) (S':=S'++aZ t.as) λz=>by rw [jy,jy,h z]]
def Hr (E:En):∀z,z∈aZ E.at_↔z∈E.us:=by
 intro z
 cases E with
 |give a=>simp [En.at_,En.us,aZ]
 |ite x b c =>
  simp only [En.at_,En.us,aZ,h_,List.flatMap_nil,j2,jy,jJ,List.not_mem_nil,j5]
  constructor
  ·rintro (h|h|h)
   ·exact .inr h
   ·exact .inl (.inr h)
   ·exact .inl (.inl h)
  ·rintro ((h|h)|h)
   ·exact .inr (.inr h)
   ·exact .inr (.inl h)
   ·exact .inl h
def US (r:List St) (E:En):kp r (aZ E.at_)=kp r E.us:=Be r (Hr E)
def Bf {E:En}(h:E.ok):∀a∈E.at_,cZ a:=by
 cases E with
 |give a=>intro x hx;rw [jJ.mp hx];exact h
 |ite x b c =>
  intro y hy
  simp only [En.at_,yE,List.not_mem_nil,j5] at hy
  rcases hy with rfl|rfl|rfl
  ·exact .inl ⟨_,rfl⟩
  ·exact h.1
  ·exact h.2
section
variable {s:aa} {U:Nat} {S:Ae} {t:St} {E:En} {xs:Aq}
def UT {as:Aq}{i:Nat}{a:PV}(h:as[i]?=some a):aZ (as.take (i+1))=aZ (as.take i)++bY a:=by
 rw [gv h,aZ,List.flatMap_append]
 simp
theorem um:∀{as:Aq},(∀a∈as,cZ a)->(aZ as).length<=as.length
 |[],_=>by simp
 |a::as,h=>by
  have:=um (as:=as) λx hx=>h x (by simp [hx])
  have l1:(bY a).length<=1:=by
   rcases h a (by simp) with ⟨z,rfl⟩|⟨v,rfl⟩
   ·rw [j2];simp
   ·rw [ka];simp
  simp only [aZ,h_,wA,wc] at *
  omega
def UU (he:E.ok) (s:aa):∃s1,Ai [aW xs E.v] s=.ok (.ref s.length) s1/\Us s.length (aZ E.at_) s1/\Old s s1:=by
 let t:=s++[SO.dic [] []]
 have ot:Old s t:=zI _ _
 obtain ⟨q,r,t1,hq,hr,uo⟩:∃(q:Nat) (r:Nat) (t1:aa),(∀{X:Res Fl},Gj [some (aW xs E.v),Av s.length,some E.v,Av r,none] t1=X->Gk [some (aW xs E.v),none,none,none,none] s=X)/\t1[r]?=some (.lst E.at_)/\Old t t1:=by
  cases E with
  |give a =>
   exact ⟨0,t.length,t++[SO.lst [a]],λh=>zo (zD rfl) (zo (zD (zh (zb rfl) rfl yh)) (zo (zD (jm (zE (zh (zb rfl) rfl yh)) (by simp))) (zo (zZ (q0 rfl (bF mM _))) h))),zV _ _,zI _ _⟩
  |ite x b c =>
   let t1:=t++[SO.lst [bE x]]
   exact ⟨0,t1.length,t1++[SO.lst [bE x,b,c]],λh=>zo (zD rfl) (zo (zD (zh (zb rfl) rfl yh)) (zo (zD (jm (zE (zh (zb rfl) rfl yh)) (by simp))) (zo (yG (q0 rfl (du _)) (zD (jm (jY (zh (zb rfl) rfl yh) (zh (zh (zh (zb rfl) rfl y8) rfl yh) rfl yh) (zh (zh (zh (zb rfl) rfl wx) rfl yh) rfl yh)) (by simp)))) h))),zV _ _,(zI _ _).trans (zI _ _)⟩
 have lr:=zP (uo _ _ (zV s (SO.dic [] [])))
 have nr:r≠s.length:=λh=>by
  have:=uo _ _ (zV s (SO.dic [] []))
  rw [<-h,hr] at this
  cases this
 have al:E.at_.length<=3:=by cases E<;>simp [En.at_]
 obtain ⟨e',s2,F,⟨z4,rfl⟩,hU,k⟩:=qG (g:=gN 4) (body:=bM 4 1) (n:=r) E.at_ (λi e st=>(∃z4,e=[some (aW xs E.v),Av s.length,some E.v,Av r,z4])/\Us s.length (aZ (E.at_.take i)) st/\Kx [s.length] t1 st) (λi e st h=>h.2.2 _ _ (by simpa using nr) hr) (λi a e st ha ⟨⟨z4,UW⟩,hU,k⟩=>by
  subst UW
  have hm:=Bf he a (jR ha)
  have ol:=um (as:=E.at_.take i) λx hx=>Bf he x (List.mem_of_mem_take hx)
  have tl:(E.at_.take i).length<=3:=by simp;omega
  obtain ⟨s1,E1,h1,k1⟩:=Hc (e:=[some (aW xs E.v),Av s.length,some E.v,Av r,some a]) (i:=4) (u:=1) hU (by omega) hm rfl rfl
  exact ⟨_,_,s1,rfl,E1,⟨_,rfl⟩,by rw [UT ha];exact h1,k.trans k1⟩) E.at_.length 0 (lim+1) [some (aW xs E.v),Av s.length,some E.v,Av r,none] t1 (by omega) (by simp [lim];omega) ⟨⟨none,rfl⟩,⟨[],uo _ _ (zV _ _),by simp,λz=>Iff.rfl⟩,Kx.refl _ _⟩
 rw [List.take_length] at hU
 exact ⟨s2,zR rfl (hq (zo (wy (zb rfl) hr F) (zS (zb rfl)))),hU,λm so e=>k _ _ (by simp;have:=zP e;omega) (uo _ _ (ot _ _ e))⟩
abbrev bD:Al:=(zT (jL (mB (zc (yA false) (zc zk (za 6) (At 1)) (za 4))) (ju (mB (zc jV (zc zk (za 6) (At 2)) (Au "same"))) (mB (zc jV (zc zk (za 6) (At 2)) (Au "kind")))))
  (zp (yK (yS yY (za 5) (za 6)))
  (yF (yt (zc zk (za 6) (At 3))) (gN 7)
  (bM 7 4)))
  zW)
abbrev eD (p z1 z2 z3:Ar) (U lf:Nat) (z6 z7:Ar):ze:=[p,z1,z2,z3,Av U,Av lf,z6,z7]
def UX {p z1 z2 z3 z7:Ar} {lf:Nat} (h:Us U S s):(jL (mB (zc (yA false) (zc zk (za 6) (At 1)) (za 4))) (ju (mB (zc jV (zc zk (za 6) (At 2)) (Au "same"))) (mB (zc jV (zc zk (za 6) (At 2)) (Au "kind"))))) (eD p z1 z2 z3 U lf (some t.v) z7) s=.ok (!idle S t) s:=by
 have I:=Hb h false t.z
 have T1:(mB (zc (yA false) (zc zk (za 6) (At 1)) (za 4))) (eD p z1 z2 z3 U lf (some t.v) z7) s=.ok (decide (t.z∈S)) s:=zO (zh (zh (zb rfl) rfl yh) (zb rfl) (I.trans (by simp)))
 have T2:∀(w:Str),(mB (zc jV (zc zk (za 6) (At 2)) (Au w))) (eD p z1 z2 z3 U lf (some t.v) z7) s=.ok (!decide (t.o=w)) s:=λw=>zO (zh (zh (zb rfl) rfl y8) rfl (xV _ _))
 by_cases hz:t.z∈S
 ·rw [wq hz] at T1
  rw [show (!idle S t)=true by simp [idle,hz]]
  exact n_ T1
 ·rw [jo hz] at T1
  have ei:(!idle S t)=(!decide (t.o = "same")&&!decide (t.o = "kind")):=by simp [idle,hz,ct_FAULTLESS]
  rw [ei]
  refine gr T1 ?_
  have A1:=T2 "same"
  by_cases h1:t.o = "same"
  ·rw [wq h1] at A1 ⊢
   exact gO A1
  ·rw [jo h1] at A1 ⊢
   exact wu A1 (T2 "kind")
theorem Bg {p z1 z2 z3:Ar}{lf:Nat}:∀(r:List St) {s:aa}{S:Ae}{K:Aq}{z6 z7:Ar},(∀t∈r,cE t)->Us U S s->s[lf]?=some (.lst K)->U≠lf->S.length+3*r.length<=900->K.length+r.length<=900->∃fq kW s1,forL (gN 6) bD (r.map St.v) (eD p z1 z2 z3 U lf z6 z7) s=.ok (.nx (eD p z1 z2 z3 U lf fq kW)) s1/\s1[lf]?=some (.lst (K++((kp r S).map St.v).reverse))/\Kx [U,lf] s s1
 |[],s,S,K,z6,z7,_,_,hf,_,_,_=>⟨z6,z7,s,rfl,by simpa [kp] using hf,Kx.refl _ _⟩
 |t::r,s,S,K,z6,z7,h,hU,hf,ne,hl,hK=>by
  simp only [wc] at hl hK
  have ht:=h t (by simp)
  have few:=ht.few
  have I1:=UX (t:=t) (p:=p) (z1:=z1) (z2:=z2) (z3:=z3) (z7:=z7) (lf:=lf) hU
  cases hi:idle S t with
  |true =>
   rw [hi] at I1
   obtain ⟨fq,kW,s2,E2,f2,k2⟩:=Bg r (z6:=some t.v) (z7:=z7) (λx hx=>h x (by simp [hx])) hU hf ne (by omega) (by omega)
   exact ⟨fq,kW,s2,i_ rfl (zZ I1) E2,by rw [f2,kp,zC hi],k2⟩
  |false =>
   rw [hi] at I1
   have ol:=um ht.at_
   have AP:=gw (y:=t.v) hf (by omega)
   let s1:=s.set lf (SO.lst (K++[t.v]))
   have f1:s1[lf]?=some (.lst (K++[t.v])):=yz (zP hf)
   have kf:Us U S s1:=hU.kx (ms:=[lf]) (yZ (by simp)) (by simpa using ne)
   obtain ⟨y7,s2,M2,A9,k2⟩:=A7 (U:=U) (e:=eD p z1 z2 z3 U lf (some t.v) z7) (i:=7) (u:=4) (by decide) (by simp) t.as (z:=z7) ht.at_ kf (by omega) rfl
   have f2:=k2 _ _ (by simpa using yM ne) f1
   obtain ⟨fq,kW,s4,E4,f4,k4⟩:=Bg r (z6:=some t.v) (z7:=y7) (λx hx=>h x (by simp [hx])) A9 f2 ne (by rw [wA];omega) (by simp;omega)
   have kw:∀{a b:aa},Kx [U] a b->Kx [U,lf] a b:=λk m so q e=>k m so (by simp at q ⊢;exact q.1) e
   refine ⟨fq,kW,s4,i_ rfl (yG I1 (zo (wg (wH (zb rfl) hf (zb rfl) AP)) (gW (zh (zb rfl) rfl wx) M2))) E4,?_,(yZ (by simp)).trans ((kw k2).trans k4)⟩
   rw [f4,kp,zQ (by rw [hi];simp)]
   simp
theorem qS {α:Type}:∀{ks:Ae}{xs:List α}{j:Nat}{z:Str}{x:α},ks.Nodup->ks[j]?=some z->xs[j]?=some x->(ks.zip xs).lookup z=some x
 |[],_,_,_,_,_,h,_=>by simp at h
 |_::_,[],_,_,_,_,_,h=>by simp at h
 |k::ks,y::xs,0,z,x,_,h,h'=>by
  simp at h h'
  subst h h'
  simp [wL]
 |k::ks,y::xs,j+1,z,x,nd,h,h'=>by
  rw [j6] at nd
  simp at h h'
  have ne:(z==k)=false:=by
   rw [beq_eq_false_iff_ne]
   intro e
   exact nd.1 (e▸jR h)
  rw [List.zip_cons_cons,wL,ne]
  exact qS nd.2 h h'
abbrev dU (n:Nat):Aq:=(vs n).map PV.str
def Bh {n i:Nat}(h:i<n):(dU n)[i]?=some (.str (vN i)):=by
 simp only [dU,vs,List.map_map,jd]
 rw [List.getElem?_range h]
 rfl
def UY (n:Nat):dU (n+1)=dU n++[.str (vN n)]:=by
 simp [dU,vs,hW]
def Hs {N:Ae}{z:Str}(nd:N.Nodup) (h:z∈N):(N.zip (dU N.length)).lookup z=some (.str (vN (N.idxOf z))):=qS nd (Ho h) (Bh (List.idxOf_lt_length_of_mem h))
def UZ {n:Nat} (h:n<=1000) (st:aa):yd (.str "v") (.str (gz n)) st=.ok (.str (vN n)) st:=ad _ _ (by
 have l1:("v" : Str).length=1:=by decide +kernel
 have:=GQ (n:=n) (by omega)
 omega) st
def Ht {fo fi:Ak} {e:ze} {D d:Nat} {N:Ae} {z:Str} (h:s[D]?=some (.dic N (dU N.length))) (hz:z∉N) (hl:N.length<=900) (ho:fo e s=.ok (.ref D) s) (hi:fi e s=.ok (.str z) s) (hd:e[d]?=some (Av D)):yL fo fi (zc yd (Au "v") (zq wR (zf (zq yo (zf (za d) zj)) zj))) e s=.ok (.nx e) (s.set D (.dic (N++[z]) (dU (N++[z]).length))):=by
 have LD:yo [.ref D] s=.ok (.int (N.length:Int)) s:=by unfold yo;simp only [h]
 have P:=wW (wI (z:=z) (x:=.str (vN N.length)) (xs:=dU N.length) hz) (fv:=(zc yd (Au "v") (zq wR (zf (zq yo (zf (za d) zj)) zj)))) (s1:=s) (zh rfl (zy (zE (zy (zE (zb hd)) LD)) (GR (by omega) s)) (UZ (by omega) s)) ho hi h (by omega)
 rw [<-UY] at P
 rw [wA]
 exact P
end
section
variable {s:aa} {D Hd:Nat} {t:St} {ss:List St} {E:En} {N:Ae} {z:Str}
abbrev tL:Am:=(mB (zc j8 (zq yo (zf (za 2) zj)) (At 0)))
abbrev bL:Al:=(zp (zB 0 (yQ sv (za 2)))
  (zp (zB 1 (zc yd (zc yd (za 1) (zq jO (zf (zc zk (za 0) (At 0)) zj))) (jb (zf (zc zk (za 0) (At 1)) zj))))
  (zT (mB (zc zU (zc zk (zc zk (za 0) (At 1)) (At 0)) (Au "if")))
  (zp (yK (yS yY (za 2) (zc zk (zc zk (za 0) (At 1)) (At 3))))
  (yK (yS yY (za 2) (zc zk (zc zk (za 0) (At 1)) (At 2)))))
  zW)))
def Hu {q w:Nat} {W K xs:Aq} {wd:Str} {er:Aq} {z0:Ar} (hq:s[q]?=some (.lst K)) (hw:s[w]?=some (.lst (W++[aW xs (.tup (.str wd::er))]))) (ne:q≠w) (hl:K.length+xs.length<=1000):∃q1 s1,(∀{X:Res Fl},(zT (mB (zc zU (zc zk (zc zk (za 0) (At 1)) (At 0)) (Au "if")))
  (zp (yK (yS yY (za 2) (zc zk (zc zk (za 0) (At 1)) (At 3))))
  (yK (yS yY (za 2) (zc zk (zc zk (za 0) (At 1)) (At 2)))))
  zW) [some (aW xs (.tup (.str wd::er))),Av q1,Av w] s1=X->bL [z0,Av q,Av w] s=X)/\s1[q1]?=some (.lst (K++xs++[.tup (.str wd::er)]))/\s1[w]?=some (.lst W)/\q1≠w/\Kx [w] s s1:=by
 let s1:=s.set w (SO.lst W)
 have q1:s1[q]?=some (.lst K):=by rw [yJ (yM ne)];exact hq
 have w1:s1[w]?=some (.lst W):=yz (zP hw)
 let s2:=s1++[SO.lst xs]
 have o2:Old s1 s2:=zI _ _
 let s3:=s2++[SO.lst (K++xs)]
 have o3:Old s2 s3:=zI _ _
 let s4:=s3++[SO.lst [.tup (.str wd::er)]]
 have o4:Old s3 s4:=zI _ _
 let s5:=s4++[SO.lst (K++xs++[.tup (.str wd::er)])]
 have o5:Old s4 s5:=zI _ _
 have A1:yd (.ref q) (.ref s1.length) s2=.ok (.ref s2.length) s3:=GH (o2 _ _ q1) (zV _ _) (by omega)
 have A2:yd (.ref s2.length) (.ref s3.length) s4=.ok (.ref s4.length) s5:=GH (o4 _ _ (zV _ _)) (zV _ _) (by simp;omega)
 have lw:=zP w1
 exact ⟨s4.length,s5,λh=>zo (zD (wT (zb rfl) (TM hw))) (zo (zD (zh (zh (zb rfl) (zy (zE (zh (zb rfl) rfl yB)) TL) A1) (jm (zE (zh (zb rfl) rfl yh)) (by simp)) A2)) h),zV _ _,o5 _ _ (o4 _ _ (o3 _ _ (o2 _ _ w1))),by simp [s4,s3,s2];omega,(yZ (by simp)).trans ((o2.trans (o3.trans (o4.trans o5))).kx)⟩
def oF {b:Bool}{q w:Nat}{W:Aq}{z0:Ar}(hw:s[w]?=some (.lst W)) (hb:decide (0<W.length)=b):tL [z0,Av q,Av w] s=.ok b s:=zO (zh (zy (zE (zb rfl)) (bp hw)) rfl (fj b (by rw [<-hb];simp) _))
def Bi {q w:Nat}{W K xs:Aq}{a:PV}{z0:Ar}(hq:s[q]?=some (.lst K)) (hw:s[w]?=some (.lst (W++[aW xs (aL a)]))) (ne:q≠w) (hl:K.length+xs.length<=1000):∃q1 s1,bL [z0,Av q,Av w] s=.ok (.nx [some (aW xs (aL a)),Av q1,Av w]) s1/\s1[q1]?=some (.lst (K++xs++[aL a]))/\s1[w]?=some (.lst W)/\q1≠w/\Kx [w] s s1:=by
 obtain ⟨q1,s1,P,h1,h2,h3,k⟩:=Hu (z0:=z0) hq hw ne hl
 exact ⟨q1,s1,P (zZ (zO (zh (zh (zh (zb rfl) rfl yh) rfl yB) rfl (bF mM _)))),h1,h2,h3,k⟩
def Hv (hl:ss.length<=800) (E:En) (s:aa):∃q s1,qx [aW (ss.map St.v) E.v] s=.ok (.ref q) s1/\s1[q]?=some (.lst (ss.map St.v++E.ls))/\Old s s1:=by
 let t0:=s++[SO.lst []]
 let t1:=t0++[SO.lst [aW (ss.map St.v) E.v]]
 have l0:t0.length=s.length+1:=by simp [t0]
 have w1:t1[t0.length]?=some (.lst ([]++[aW (ss.map St.v) E.v])):=zV _ _
 have q1:t1[s.length]?=some (.lst []):=zI _ _ _ _ (zV _ _)
 have PRE:∀{X:Res Fl},zp (kJ tL bL) Gm [some (aW (ss.map St.v) E.v),Av s.length,Av t0.length] t1=X->Gn [some (aW (ss.map St.v) E.v),none,none] s=X:=λh=>zo (zD (jm jQ (by simp))) (zo (zD (jm (zE (zb rfl)) (by simp))) h)
 have oo:∀{t2:aa},Kx [t0.length] t1 t2->Old s t2:=λk m so e=>k _ _ (by simp;have:=zP e;omega) (zI _ _ _ _ (zI _ _ _ _ e))
 cases E with
 |give a =>
  obtain ⟨q2,t2,B2,h2,w2,n2,k2⟩:=Bi (z0:=some (aW (ss.map St.v) (aL a))) q1 w1 (by omega) (by simp;omega)
  have W:bK tL bL 1000000 [some (aW (ss.map St.v) (aL a)),Av s.length,Av t0.length] t1=.ok (.nx _) t2:=kT (n:=999999) (oF w1 (by simp)) B2 (kS 999998 (oF w2 (by simp)))
  exact ⟨q2,t2,zR rfl (PRE (zo W (zS (zb rfl)))),by rw [h2];simp [En.ls],oo k2⟩
 |ite x b c =>
  obtain ⟨q2,t2,P2,h2,w2,n2,k2⟩:=Hu (z0:=some (aW (ss.map St.v) (d6 (bE x) b c))) q1 w1 (by omega) (by simp;omega)
  let t3:=t2.set t0.length (SO.lst ([]++[aW [] (aL c)]))
  have w3:t3[t0.length]?=some (.lst ([]++[aW [] (aL c)])):=yz (zP w2)
  let t4:=t3.set t0.length (SO.lst ([]++[aW [] (aL c)]++[aW [] (aL b)]))
  have w4:t4[t0.length]?=some (.lst ([aW [] (aL c)]++[aW [] (aL b)])):=yz (zP w3)
  have h4:t4[q2]?=some (.lst ([]++ss.map St.v++[d6 (bE x) b c])):=by
   show ((t2.set t0.length _).set t0.length _)[q2]?=_
   rw [yJ (yM n2),yJ (yM n2)]
   exact h2
  have B2:bL [some (aW (ss.map St.v) (d6 (bE x) b c)),Av s.length,Av t0.length] t1=.ok (.nx [some (aW (ss.map St.v) (d6 (bE x) b c)),Av q2,Av t0.length]) t4:=P2 (yG (zO (zh (zh (zh (zb rfl) rfl yh) rfl yB) rfl (du _))) (zo (wg (wH (zb rfl) w2 (zh (zh (zb rfl) rfl yh) rfl wx) (gw w2 (by simp)))) (wg (wH (zb rfl) w3 (zh (zh (zb rfl) rfl yh) rfl y8) (gw w3 (by simp))))))
  obtain ⟨q5,t5,B5,h5,w5,n5,k5⟩:=Bi (z0:=some (aW (ss.map St.v) (d6 (bE x) b c))) h4 w4 n2 (by simp;omega)
  obtain ⟨q6,t6,B6,h6,w6,n6,k6⟩:=Bi (z0:=some (aW [] (aL b))) (W:=[]) h5 w5 n5 (by simp;omega)
  have W:bK tL bL 1000000 [some (aW (ss.map St.v) (d6 (bE x) b c)),Av s.length,Av t0.length] t1=.ok (.nx _) t6:=kT (n:=999999) (oF w1 (by simp)) B2 (kT (n:=999998) (oF w4 (by simp)) B5 (kT (n:=999997) (oF w5 (by simp)) B6 (kS 999996 (oF w6 (by simp)))))
  exact ⟨q6,t6,zR rfl (PRE (zo W (zS (zb rfl)))),by rw [h6];simp [En.ls],oo (k2.trans ((yZ (by simp)).trans ((yZ (by simp)).trans (k5.trans k6))))⟩
def Hw {as:Aq}(h:s[D]?=some (.dic N (dU N.length))) (nd:N.Nodup) (ha:∀a∈as,cZ a) (hn:∀x∈aZ as,x∈N) (hl:as.length<=900):∃s1,mz [.tup as,.ref D] s=.ok (.tup (as.map (ren N))) s1/\Old s s1:=by
 let t:=s++[SO.lst []]
 have lD:=zP h
 obtain ⟨e',s1,F,⟨z3,rfl⟩,hq,k⟩:=di (g:=gN 3) (body:=(zp (zT (mB (zc zU (zc zk (za 3) (At 0)) (Au "of")))
  (zB 3 (yg (zf (Au "of") (zf (zc zk (za 1) (zc zk (za 3) (At 1))) zj))))
  zW)
  (yK (yS yY (za 2) (za 3))))) as (λi e st=>(∃z3,e=[some (.tup as),Av D,Av s.length,z3])/\st[s.length]?=some (.lst ((as.take i).map (ren N)))/\Kx [s.length] t st) (λi a e st hx ⟨⟨z3,he⟩,hq,k⟩=>by
  subst he
  have hm:=jR hx
  have hD:=k _ _ (by simp;omega) (zI s [SO.lst []] _ _ h)
  have S1:(zT (mB (zc zU (zc zk (za 3) (At 0)) (Au "of")))
  (zB 3 (yg (zf (Au "of") (zf (zc zk (za 1) (zc zk (za 3) (At 1))) zj))))
  zW) [some (.tup as),Av D,Av s.length,some a] st=.ok (.nx [some (.tup as),Av D,Av s.length,some (ren N a)]) st:=by
   rcases ha a hm with ⟨w,rfl⟩|⟨v,rfl⟩
   ·have LK:=Hs nd (hn w (List.mem_flatMap.mpr ⟨_,hm,by rw [j2];simp⟩))
    rw [oE]
    exact yG (q0 rfl (du _)) (zD (yk (zF rfl (zh (zb rfl) (zh (zb rfl) rfl yh) (j1 hD LK))) (by simp)))
   ·rw [ug]
    exact zZ (q0 rfl (bF oz _))
  have AP:=gw (y:=ren N a) hq (by simp;omega)
  refine ⟨_,_,_,rfl,zo S1 (wg (wH (zb rfl) hq (zb rfl) AP)),⟨_,rfl⟩,?_,k.trans (yZ (by simp))⟩
  rw [yz (zP hq),gv hx,ja]
  rfl) as.length 0 [some (.tup as),Av D,Av s.length,none] t (by omega) ⟨⟨none,rfl⟩,zV _ _,Kx.refl _ _⟩
 rw [List.drop_zero] at F
 rw [List.take_length] at hq
 exact ⟨s1,zR rfl (zo (zD (jm jQ (by simp))) (zo (gW (zb rfl) F) (zS (zy (zE (zb rfl)) (by rw [iN,yv hq]))))),λm so e=>k _ _ (by simp;have:=zP e;omega) (zI _ _ _ _ e)⟩
def Hx {a:PV}(h:s[D]?=some (.dic N (dU N.length))) (nd:N.Nodup) (ha:cZ a) (hn:∀x∈bY a,x∈N):∃s1,mz [.tup [a],.ref D] s=.ok (.tup [ren N a]) s1/\Old s s1:=Hw (as:=[a]) h nd (λx hx=>by rw [jJ.mp hx];exact ha) (λx hx=>hn x (by simpa [aZ] using hx)) (by simp)
abbrev bB:Al:=(zp (zB 5 (zc zk (za 4) (At 2)))
  (zp (zT (mB (zc zU (zc zk (za 4) (At 0)) (Au "call")))
  yu
  zW)
  (yK (yS yY (za 3) (yg (zf (zc zk (za 4) (At 0)) (zf (zc zk (za 1) (zc zk (za 4) (At 1))) (zf (za 5) (zf (zq mz (zf (zc zk (za 4) (At 3)) (zf (za 1) zj))) zj)))))))))
abbrev eB (b:PV) (D Hd L:Nat) (z4 z5 z6 z7 z8:Ar):ze:=[some b,Av D,Av Hd,Av L,z4,z5,z6,z7,z8]
def Hy {mr:An}{e:PV}(h:s[D]?=some (.dic N (dU N.length))) (nd:N.Nodup) (hl:ss.length<=900) (hs:∀t∈ss,cE t/\t.z∈N/\∀x∈aZ t.as,x∈N):∃L z4 z5 s1,(∀{X:Res Fl},Gp mr (eB (aW (ss.map St.v) e) D Hd L z4 z5 (some e) none none) s1=X->Gq mr [some (aW (ss.map St.v) e),Av D,Av Hd,none,none,none,none,none,none] s=X)/\s1[L]?=some (.lst ((ss.map (df N)).map St.v))/\Old s s1:=by
 let t:=s++[SO.lst []]
 have lD:=zP h
 obtain ⟨e',s1,F,⟨z4,z5,rfl⟩,hq,k⟩:=di (g:=gN 4) (body:=bB) (ss.map St.v) (λi e' st=>(∃z4 z5,e'=eB (aW (ss.map St.v) e) D Hd s.length z4 z5 none none none)/\st[s.length]?=some (.lst (((ss.take i).map (df N)).map St.v))/\Kx [s.length] t st) (λi x e' st hx ⟨⟨z4,z5,he⟩,hq,k⟩=>by
  subst he
  rw [jd] at hx
  obtain ⟨u,hu,rfl⟩:=Option.map_eq_some_iff.mp hx
  obtain ⟨k1,k2,k3⟩:=hs u (jR hu)
  have few:=k1.few
  have hD:=k _ _ (by simp;omega) (zI s [SO.lst []] _ _ h)
  obtain ⟨s2,E2,o2⟩:=Hw hD nd k1.at_ k3 (by omega)
  have gd:=o2 _ _ hq
  have AP:=gw (y:=(df N u).v) gd (by simp;omega)
  refine ⟨_,_,_,rfl,zo (zD (zh (zb rfl) rfl y8)) (zo (zZ (q0 rfl (bF n1 _))) (wg (wH (zb rfl) hq (yk (gT (zh (zb rfl) rfl yB) (zh (zb rfl) (zh (zb rfl) rfl yh) (j1 hD (Hs nd k2))) (zb rfl) (zy (zF (zh (zb rfl) rfl wx) (zb rfl)) E2)) (by simp)) AP))),⟨_,_,rfl⟩,?_,k.trans (o2.kx.trans (yZ (by simp)))⟩
  rw [yz (zP gd),gv hu,ja,ja]
  rfl) (ss.map St.v).length 0 (eB (aW (ss.map St.v) e) D Hd s.length none none none none none) t (by omega) ⟨⟨none,none,rfl⟩,zV _ _,Kx.refl _ _⟩
 rw [List.drop_zero] at F
 rw [jD,List.take_length] at hq
 exact ⟨s.length,z4,z5,s1,λhX=>zo (zD (jm jQ (by simp))) (zo (gW (zh (zb rfl) rfl yB) F) (zo (zD (zh (zb rfl) rfl yh)) hX)),hq,λm so e=>k _ _ (by simp;have:=zP e;omega) (zI _ _ _ _ e)⟩
def Bj {mr:An}{a:PV}(h:s[D]?=some (.dic N (dU N.length))) (nd:N.Nodup) (hl:ss.length<=900) (hs:∀t∈ss,cE t/\t.z∈N/\∀x∈aZ t.as,x∈N) (ha:cZ a) (hn:∀x∈bY a,x∈N):∃s1,tf mr [aW (ss.map St.v) (aL a),.ref D,.ref Hd] s=.ok (aW ((ss.map (df N)).map St.v) (aL (ren N a))) s1/\Old s s1:=by
 obtain ⟨L,z4,z5,s1,P,hL,o1⟩:=Hy (Hd:=Hd) (mr:=mr) (e:=aL a) h nd hl hs
 obtain ⟨s2,E2,o2⟩:=Hx (o1 _ _ h) nd ha hn
 exact ⟨s2,zR rfl (P (zo (yG (q0 rfl (du _)) (zD (yk (zF rfl (zh (zy (zF (yk (zE (zh (zb rfl) rfl yh)) (by simp)) (zb rfl)) E2) rfl yB)) (by simp)))) (zS (yk (zF (zy (zE (zb rfl)) (by rw [iN,yv (o2 _ _ hL)])) (zb rfl)) (by simp))))),o1.trans o2⟩
def U0 (h:s[D]?=some (.dic N (dU N.length))) (nd:N.Nodup) (hl:ss.length<=900) (hs:∀t∈ss,cE t/\t.z∈N/\∀x∈aZ t.as,x∈N) (he:E.ok) (hn:∀x∈aZ E.at_,x∈N):∃s1,kQ 3 [aW (ss.map St.v) E.v,.ref D,.ref Hd] s=.ok (aW ((ss.map (df N)).map St.v) (E.ren N).v) s1/\Old s s1:=by
 show ∃s1,tf (kQ 2) [aW (ss.map St.v) E.v,.ref D,.ref Hd] s=_/\_
 cases E with
 |give a=>exact Bj h nd hl hs he λx hx=>hn x (by simpa [En.at_,aZ] using hx)
 |ite x b c =>
  have nx:x∈N:=hn x (by simp [En.at_,j2])
  have nb:∀y∈bY b,y∈N:=λy hy=>hn y (by simp [En.at_,hy])
  have nc:∀y∈bY c,y∈N:=λy hy=>hn y (by simp [En.at_,hy])
  obtain ⟨L,z4,z5,s1,P,hL,o1⟩:=Hy (Hd:=Hd) (mr:=kQ 2) (e:=d6 (bE x) b c) h nd hl hs
  obtain ⟨s2,E2,o2⟩:=Bj (s:=s1) (Hd:=Hd) (mr:=kQ 1) (ss:=[]) (o1 _ _ h) nd (by simp) (λ_ h=>nomatch h) he.1 nb
  have h2:=o2 _ _ (o1 _ _ h)
  obtain ⟨s3,E3,o3⟩:=Bj (s:=s2) (Hd:=Hd) (mr:=kQ 1) (ss:=[]) h2 nd (by simp) (λ_ h=>nomatch h) he.2 nc
  obtain ⟨s4,E4,o4⟩:=Hx (a:=bE x) (o3 _ _ h2) nd (.inl ⟨_,rfl⟩) (λy hy=>by rw [j2] at hy;rw [jJ.mp hy];exact nx)
  rw [oE] at E4
  have L4:=o4 _ _ (o3 _ _ (o2 _ _ hL))
  exact ⟨s4,zR rfl (P (zo (sO (q0 rfl (bF t_ _)) (sO (q0 rfl (bF n9 _)) (yG (q0 rfl (du _)) (zo (zD (zy (jY (zh (zb rfl) rfl y8) (zb rfl) (zb rfl)) E2)) (zo (zD (zy (jY (zh (zb rfl) rfl wx) (zb rfl) (zb rfl)) E3)) (zD (yk (gT rfl (zh (zy (zF (yk (zE (zh (zb rfl) rfl yh)) (by simp)) (zb rfl)) E4) rfl yB) (zb rfl) (zb rfl)) (by simp)))))))) (zS (yk (zF (zy (zE (zb rfl)) (by rw [iN,yv L4])) (zb rfl)) (by simp))))),o1.trans (o2.trans (o3.trans o4))⟩
end
section
variable {s:aa} {U D S Hd F:Nat} {t:St} {ss:List St} {E:En} {ps:Ae} {z:Str}
def Hz {e:ze} {i:Nat} {w:Str} {r:Aq} {b:Bool} (hi:e[i]?=some (some (.tup (.str w::r)))) (hb:(decide (w = "let")||decide (w = "call"))=b) (s:aa):(jL (mB (zc zU (zc zk (za i) (At 0)) (Au "let"))) (mB (zc zU (zc zk (za i) (At 0)) (Au "call")))) e s=.ok b s:=by
 by_cases h:w = "let"
 ·rw [wq h] at hb
  rw [<-hb]
  exact n_ (q0 hi (eqs _ _ _ (wq h) _))
 ·rw [jo h,Bool.false_or] at hb
  exact gr (q0 hi (eqs _ _ _ (jo h) _)) (q0 hi (eqs _ _ _ hb _))
def U3 (R:mR ps ss E) (hH:s[Hd]?=some (.dic [z] [.str "q0"])):∃s1,tj [bh z ps ss E,.ref Hd] s=.ok (kU ps ss E) s1/\Old s s1:=by
 have l2:=R.l2
 have lp:=R.lp
 let f:=bh z ps ss E
 let t:=s++[SO.dic [] []]
 have ot:Old s t:=zI _ _
 have U4:ps.Nodup:=(List.nodup_append.mp R.nd).1
 obtain ⟨e1,t1,F1,⟨y3,rfl⟩,d1,k1⟩:=di (g:=gN 3) (body:=(yL (za 2) (za 3) (zc yd (Au "v") (zq wR (zf (zq yo (zf (za 2) zj)) zj))))) (ps.map PV.str) (λi e st=>(∃y3,e=[some f,Av Hd,Av s.length,y3,none,none])/\st[s.length]?=some (.dic (ps.take i) (dU (ps.take i).length))/\Kx [s.length] t st) (λi x e st hx ⟨⟨y3,he⟩,hd,k⟩=>by
  subst he
  rw [jd] at hx
  obtain ⟨w,hw,rfl⟩:=Option.map_eq_some_iff.mp hx
  have P:=Ht (fo:=za 2) (fi:=za 3) (e:=[some f,Av Hd,Av s.length,some (.str w),none,none]) (d:=2) hd (AQ U4 hw) (by simp;omega) (zb rfl) (zb rfl) rfl
  exact ⟨_,_,_,rfl,P,⟨_,rfl⟩,by rw [yz (zP hd),gv hw],k.trans (yZ (by simp))⟩) (ps.map PV.str).length 0 [some f,Av Hd,Av s.length,none,none,none] t (by omega) ⟨⟨none,rfl⟩,zV _ _,Kx.refl _ _⟩
 rw [List.drop_zero] at F1
 rw [jD,List.take_length] at d1
 obtain ⟨q,t2,E2,h2,o2⟩:=Hv (by omega) E t1
 have d2:=o2 _ _ d1
 have nq:q≠s.length:=λh=>by rw [h,d2] at h2;cases h2
 have l3:=ua E
 obtain ⟨e3,t3,F3,⟨y4,rfl⟩,d3,k3⟩:=qG (g:=gN 4) (body:=(zT (jL (mB (zc zU (zc zk (za 4) (At 0)) (Au "let"))) (mB (zc zU (zc zk (za 4) (At 0)) (Au "call"))))
  (yL (za 2) (zc zk (za 4) (At 1)) (zc yd (Au "v") (zq wR (zf (zq yo (zf (za 2) zj)) zj))))
  zW)) (n:=q) (ss.map St.v++E.ls) (λi e st=>(∃y4,e=[some f,Av Hd,Av s.length,y3,y4,none])/\st[s.length]?=some (.dic (ps++(ss.map St.z).take i) (dU (ps++(ss.map St.z).take i).length))/\Kx [s.length] t2 st) (λi e st h=>h.2.2 _ _ (by simpa using nq) h2) (λi x e st hx ⟨⟨y4,he⟩,hd,k⟩=>by
  subst he
  by_cases hi:i<ss.length
  ·rw [wD (by simpa using hi),jd,yi hi] at hx
   cases hx
   have hz:(ss.map St.z)[i]?=some (ss[i]'hi).z:=by rw [jd,yi hi];rfl
   have nz:(ss[i]'hi).z∉ps++(ss.map St.z).take i:=by
    have:=AQ (l:=d7 ps ss) R.nd (i:=ps.length+i) (z:=(ss[i]'hi).z) (by rw [wX (by omega)];rw [Nat.add_sub_cancel_left];exact hz)
    rw [List.take_append,List.take_of_length_le (by omega),Nat.add_sub_cancel_left] at this
    exact this
   have P:=Ht (fo:=za 2) (fi:=zc zk (za 4) (At 1)) (e:=[some f,Av Hd,Av s.length,y3,some (ss[i]'hi).v,none]) (d:=2) hd nz (by simp;omega) (zb rfl) (zh (zb rfl) rfl yh) rfl
   refine ⟨_,_,_,rfl,yG (Hz rfl (by simp) _) P,⟨_,rfl⟩,?_,k.trans (yZ (by simp))⟩
   rw [yz (zP hd),gv hz,oK]
  ·rw [wX (by simpa using hi)] at hx
   obtain ⟨w,r,rfl,hw⟩:=uc (jR hx)
   refine ⟨_,_,_,rfl,zZ (Hz (b:=false) rfl ?_ _),⟨_,rfl⟩,?_,k⟩
   ·rcases hw with rfl|rfl<;>decide +kernel
   ·rw [List.take_of_length_le (by simp;omega)] at hd ⊢
    exact hd) (ss.map St.v++E.ls).length 0 (lim+1) [some f,Av Hd,Av s.length,y3,none,none] t2 (by omega) (by simp [lim];omega) ⟨⟨none,rfl⟩,by rw [List.take_zero,List.append_nil];exact d2,Kx.refl _ _⟩
 have d3:t3[s.length]?=some (.dic (d7 ps ss) (dU (d7 ps ss).length)):=by
  rw [d3,List.take_of_length_le (by simp)]
 have C:=GK (e:=[some f,Av Hd,Av s.length,y3,y4,none]) (fe:=zc zk (za 3) (za 0)) (src:=(zc zk (za 0) (At 1))) (s:=t3) (s1:=t3) (xs:=ps.map PV.str) (Y:=(vs ps.length).map PV.str) (zh (zb rfl) rfl yh) (by simp;omega) (by simp [vs]) (λi x y hx hy=>by
  rw [jd] at hx
  obtain ⟨w,hw,rfl⟩:=Option.map_eq_some_iff.mp hx
  have hi:=gy hw
  rw [Bh hi] at hy
  cases hy
  exact zh (zb rfl) (zb rfl) (j1 d3 (qS R.nd (by rw [wD hi];exact hw) (Bh (by simp;omega)))))
 let t4:=t3++[SO.lst ((vs ps.length).map PV.str)]
 have o4:Old t3 t4:=zI _ _
 have os:Old s t3:=λm so e=>k3 _ _ (by simp;have:=zP e;omega) (o2 _ _ (k1 _ _ (by simp;have:=zP e;omega) (ot _ _ e)))
 obtain ⟨t5,E5,o5⟩:=U0 (Hd:=Hd) (ss:=ss) (E:=E) (o4 _ _ d3) R.nd R.l1 (λt ht=>⟨R.ok t ht,y0 _ (List.mem_map_of_mem ht),R.as t ht⟩) R.ek R.es
 exact ⟨t5,zR rfl (zo (zD rfl) (zo (gW (zh (zb rfl) rfl yh) F1) (zo (wy (zy (zE (zh (zb rfl) rfl y8)) E2) h2 F3) (zo (zD (zy (zE C) gX)) (zS (yk (jY (zh (zb rfl) (zh (zb rfl) rfl yB) (j1 (o4 _ _ (os _ _ hH)) (by simp))) (zb rfl) (zy (jY (zh (zb rfl) rfl y8) (zb rfl) (zb rfl)) E5)) (by simp))))))),os.trans (o4.trans o5)⟩
def HB {x:PV}(h:x∈ss.map St.v++E.ls) (s:aa):sZ [x] s=.ok .non s:=by
 rcases jy.mp h with h|h
 ·obtain ⟨t,_,rfl⟩:=wC.mp h
  exact zR rfl (zo (zZ (q0 rfl (bF n1 _))) (zo (zZ (q0 rfl (bF n2 _))) (zS rfl)))
 ·obtain ⟨w,r,rfl,rfl|rfl⟩:=uc h
  ·exact zR rfl (zo (zZ (q0 rfl (bF n3 _))) (zo (zZ (q0 rfl (bF n4 _))) (zS rfl)))
  ·exact zR rfl (zo (zZ (q0 rfl (bF n8 _))) (zo (zZ (q0 rfl (bF n9 _))) (zS rfl)))
abbrev bH:Al:=(zp (zB 6 (zq sZ (zf (za 5) zj)))
  (zT (ju (mB (zc wS (za 6) (mC .non))) (mB (zc (yA true) (za 6) (za 3))))
  (yK (yS yY (za 3) (za 6)))
  zW))
abbrev eH (p:PV) (F M:Nat) (z2 z4 z5 z6 z7 z8:Ar):ze:=[some p,Av F,z2,Av M,z4,z5,z6,z7,z8]
def U5 (R:mR ps ss E) (s:aa):∃s1,As [.tup [bh z ps ss E]] s=.ok (.tup [kU ps ss E]) s1/\Old s s1:=by
 have l2:=R.l2
 have l3:=ua E
 let f:=bh z ps ss E
 let P:PV:=.tup [f]
 let t1:=s++[SO.dic [z] [f]]
 have FN:(yF (yt (za 0)) (gN 2) (yL (za 1) (zc zk (za 2) (At 0)) (za 2))) [some P,Av s.length,none,none,none,none,none,none,none] (s++[.dic [] []])=.ok (.nx [some P,Av s.length,some f,none,none,none,none,none,none]) t1:=by
  have D:=wW (wI (z:=z) (x:=f) (ks:=[]) (xs:=[]) (by simp)) (fo:=za 1) (fi:=zc zk (za 2) (At 0)) (fv:=za 2) (e:=[some P,Av s.length,some f,none,none,none,none,none,none]) (s:=s++[SO.dic [] []]) (zb rfl) (zb rfl) (zh (zb rfl) rfl yB) (zV _ _) (by simp)
  rw [mK] at D
  exact gW (zb rfl) (i_ rfl D rfl)
 let t2:=t1++[SO.lst [.str z]]
 have mQ:Old t1 t2:=zI _ _
 have M2:t2[t1.length]?=some (.lst [.str z]):=zV _ _
 have F2:t2[s.length]?=some (.dic [z] [f]):=mQ _ _ (zV _ _)
 obtain ⟨q,t3,E3,h3,o3⟩:=Hv (ss:=ss) (by omega) E t2
 have M3:=o3 _ _ M2
 have F3:=o3 _ _ F2
 obtain ⟨e4,t4,W4,⟨⟨y5,y6,rfl⟩,rfl⟩⟩:=qG (g:=gN 5) (body:=bH) (n:=q) (ss.map St.v++E.ls) (λi e st=>(∃y5 y6,e=eH P s.length t1.length (some f) (some (.int 0)) y5 y6 none none)/\st=t3) (λi e st h=>by rw [h.2];exact h3) (λi x e st hx ⟨⟨y5,y6,he⟩,hs⟩=>by
  subst he hs
  exact ⟨_,_,_,rfl,zo (zD (zy (zE (zb rfl)) (HB (jR hx) _))) (zZ (gO (zO (zh (zb rfl) rfl rfl)))),⟨_,_,rfl⟩,rfl⟩) (ss.map St.v++E.ls).length 0 (lim+1) (eH P s.length t1.length (some f) (some (.int 0)) none none none none) t3 (by omega) (by simp [lim];omega) ⟨⟨none,none,rfl⟩,rfl⟩
 have I0:zk (.ref t1.length) (.int 0) t2=.ok (.str z) t2:=by
  show yq _ _ _=_
  rw [yv M2];rfl
 have IX:zk (.ref s.length) (.str z) t2=.ok (bh z ps ss E) t2:=j1 F2 (by simp [f])
 have W:bK (mB (zc oLt (za 4) (zq yo (zf (za 3) zj)))) (zp (yF (yt (zq qx (zf (zc zk (zc zk (za 1) (zc zk (za 3) (za 4))) (At 2)) zj))) (gN 5) bH) (zB 4 (zc yd (za 4) (At 1)))) 1000000 (eH P s.length t1.length (some f) (some (.int 0)) none none none none) t2=.ok (.nx (eH P s.length t1.length (some f) (some (.int 1)) y5 y6 none none)) t4:=kT (n:=999999) (zO (zh (zb rfl) (zy (zE (zb rfl)) (bp M2)) (gQ true (by simp) _))) (zo (wy (zy (zE (zh (zh (zb rfl) (zh (zb rfl) (zb rfl) I0) IX) rfl y8)) E3) h3 W4) (zD (zh (zb rfl) rfl (wU 0 1)))) (kS 999998 (zO (zh (zb rfl) (zy (zE (zb rfl)) (bp M3)) (gQ false (by simp) _))))
 let t5:=t4++[SO.dic [] []]
 have M5:t5[t1.length]?=some (.lst [.str z]):=zI _ _ _ _ M3
 have U6:yo [.ref t4.length] t5=.ok (.int ((0:Nat):Int)) t5:=by
  have g:t5[t4.length]?=some (.dic [] []):=zV _ _
  unfold yo
  simp only [g]
  rfl
 have QA:yd (.str "q") (.str (gz 0)) t5=.ok (.str "q0") t5:=(ad _ _ (by decide +kernel) t5).trans (by rw [GU])
 let t6:=t4++[SO.dic [z] [.str "q0"]]
 have HP:=wW (wI (z:=z) (x:=.str "q0") (ks:=[]) (xs:=[]) (by simp)) (fo:=za 7) (fi:=za 8) (fv:=(zc yd (Au "q") (zq wR (zf (zq yo (zf (za 7) zj)) zj)))) (e:=eH P s.length t1.length (some f) (some (.int 1)) y5 y6 (Av t4.length) (some (.str z))) (s:=t5) (s1:=t5) (zh rfl (zy (zE (zy (zE (zb rfl)) U6)) (GR (by decide) t5)) QA) (zb rfl) (zb rfl) (zV _ _) (by simp)
 rw [mK,List.nil_append,List.nil_append] at HP
 have M6:t6[t1.length]?=some (.lst [.str z]):=zI _ _ _ _ M3
 have F6:t6[s.length]?=some (.dic [z] [f]):=zI _ _ _ _ F3
 obtain ⟨t7,E7,o7⟩:=U3 R (zV t4 (SO.dic [z] [.str "q0"]))
 have U7:zk (.ref s.length) (.str z) t6=.ok (bh z ps ss E) t6:=j1 F6 (by simp [f])
 have C:=GV (en:=eH P s.length t1.length (some f) (some (.int 1)) y5 y6 (Av t4.length) (some (.str z))) (src:=za 3) (fe:=zq tj (zf (zc zk (za 2) (za 0)) (zf (za 8) zj))) (s:=t6) (zb rfl) M6 (zy (zF (zh (zb rfl) (zb rfl) U7) (zb rfl)) E7) (o7 _ _ M6)
 exact ⟨_,zR rfl (zo (zD rfl) (zo FN (zo (zD (jm (zE (zh (zh (zb rfl) rfl yB) rfl yB)) (by simp))) (zo (zD rfl) (zo W (zo (zD rfl) (zo (wy (zb rfl) M5 (qN M5 rfl HP M6)) (zS (zy (zE C) gX))))))))),(zI _ _).trans (mQ.trans (o3.trans ((zI _ _).trans (o7.trans (zI _ _)))))⟩
def U8 {i j k:Nat}{f:Ak}{e:ze}{st s1:aa}{x y z:PV}(h:f e st=.ok (.tup [x,y,z]) s1):kI (g3 i j k) f e st=.ok (.nx (((e.set i (some x)).set j (some y)).set k (some z))) s1:=by
 unfold kI
 rw [h,zL]
 rfl
def U9 (h:∀t∈ss,cE t) (hl:ss.length<=200) (he:E.ok) (R:mR ps (kp ss.reverse E.us) E) (s:aa):∃s1,Ax [.tup [bh z ps ss E]] s=.ok (.tup [kU ps (kp ss.reverse E.us) E]) s1/\Old s s1:=by
 let P:PV:=.tup [bh z ps ss E]
 let b:=aW (ss.map St.v) E.v
 obtain ⟨t1,E1,hU,o1⟩:=UU (xs:=ss.map St.v) he s
 let t2:=t1++[SO.lst []]
 have o2:Old t1 t2:=zI _ _
 have ol:=um (Bf he)
 have al:E.at_.length<=3:=by cases E<;>simp [En.at_]
 have lU:s.length<t1.length:=by obtain ⟨ks,e,_⟩:=hU;exact zP e
 obtain ⟨z6,z7,t3,E3,f3,k3⟩:=Bg (U:=s.length) (p:=some P) (z1:=some (.str z)) (z2:=some (.tup (ps.map PV.str))) (z3:=some b) (lf:=t1.length) ss.reverse (s:=t2) (S:=aZ E.at_) (K:=[]) (z6:=none) (z7:=none) (λt ht=>h t (List.mem_reverse.mp ht)) (hU.kx (ms:=[]) o2.kx (by simp)) (zV _ _) (by omega) (by rw [List.length_reverse];omega) (by simp;omega)
 rw [List.map_reverse] at E3
 rw [List.nil_append,US] at f3
 let t4:=t3++[SO.lst ((kp ss.reverse E.us).map St.v)]
 have RV:(sC (za 5) (dC (yQ nQ (At 1)))) (eD (some P) (some (.str z)) (some (.tup (ps.map PV.str))) (some b) s.length t1.length z6 z7) t3=.ok (.ref t3.length) t4:=by
  rw [P4,zb (v:=.ref t1.length) rfl,zL]
  show (Res.ok (some (-1)) t3).bind _=_
  rw [zL,P5,yv f3,List.reverse_reverse]
 obtain ⟨t5,E5,o5⟩:=U5 (z:=z) R t4
 have o3:Old s t3:=λm so e=>k3 _ _ (by simp;have:=zP e;have:=zP (o1 _ _ e);omega) (o2 _ _ (o1 _ _ e))
 exact ⟨t5,zR rfl (zo (U8 (zh (zb rfl) rfl yB)) (zo (zD (zy (zE (zb rfl)) E1)) (zo (zD (jm jQ (by simp))) (zo (qQ (zE (zh (zb rfl) rfl yB)) (by simp;omega) E3) (zS (zy (zE (yk (zE (yk (jY (zb rfl) (zb rfl) (yk (zF (zy (zE RV) gX) (zh (zb rfl) rfl yh)) (by simp))) (by simp))) (by simp))) E5)))))),o3.trans ((zI _ _).trans o5)⟩
end
inductive Tr where
 |num (i:Int)
 |word (z:Str)
 |row (ts:List Tr)
 |rec_ (ks:Ae) (ts:List Tr)
def TR (s:aa) (hi:Nat):Nat->Nat->Tr->PV->Prop
 |0,_,_,_=>False
 | n+1,lo,t,v=>match t with
  |.num i=>v=.int i
  |.word z=>v=.str z
  |.row ts=>∃xs,v=.tup xs/\xs.length=ts.length/\ts.length<=100/\∀(i:Nat) t x,ts[i]?=some t->xs[i]?=some x->TR s hi n lo t x
  |.rec_ ks ts=>∃r xs,v=.ref r/\lo<=r/\r<hi/\s[r]?=some (.dic ks xs)/\ks.Nodup/\ks.length=ts.length/\xs.length=ts.length/\ts.length<=100/\∀(i:Nat) t x,ts[i]?=some t->xs[i]?=some x->TR s hi n (r+1) t x
def Ag (lo:Nat) (s s':aa):Prop:=∀(m:Nat) ks xs,lo<=m->s[m]?=some (.dic ks xs)->s'[m]?=some (.dic ks xs)
def Ag.refl (lo:Nat) (s:aa):Ag lo s s:=λ_ _ _ _ e=>e
def Ag.trans {lo:Nat}{a b c:aa}(h:Ag lo a b) (h':Ag lo b c):Ag lo a c:=λm ks xs l e=>h' m ks xs l (h m ks xs l e)
def Old.ag {lo:Nat}{a b:aa}(h:Old a b):Ag lo a b:=λm _ _ _ e=>h m _ e
def U_ {lo n:Nat}{s s':aa}{xs:Aq}(k:Kx [n] s s') (h:s[n]?=some (.lst xs)):Ag lo s s':=λm ks ys _ e=>k m _ (by
 intro hm
 rw [jJ.mp hm,h] at e
 cases e) e
def TR.mono {s s':aa}{hi hi':Nat}(hh:hi<=hi'):∀{n n' lo fE:Nat}{t:Tr}{v:PV},TR s hi n lo t v->n<=n'->fE<=lo->Ag lo s s'->TR s' hi' n' fE t v:=by
 intro n
 induction n with
 |zero=>intro n' lo fE t v h;exact h.elim
 |succ n ih =>
  intro n' lo fE t v h hn hl ag
  obtain ⟨m,rfl⟩:∃m,n'=m+1:=⟨n'-1,by omega⟩
  cases t with
  |num i=>exact h
  |word z=>exact h
  |row ts =>
   obtain ⟨xs,h1,h2,h3,h4⟩:=h
   exact ⟨xs,h1,h2,h3,λi t x a b=>ih (h4 i t x a b) (by omega) hl ag⟩
  |rec_ ks ts =>
   obtain ⟨r,xs,h1,h2,h3,h4,h5,h6,h7,h8,h9⟩:=h
   exact ⟨r,xs,h1,by omega,by omega,ag _ _ _ h2 h4,h5,h6,h7,h8,λi t x a b=>ih (h9 i t x a b) (by omega) (zM _) λm ks xs l e=>ag m ks xs (by omega) e⟩
def Lk (s:aa) (B:Nat):Nat->Nat->PV->PV->Prop
 |0,_,_,_=>False
 | n+1,lo,x,y=>match x with
  |.int i=>y=.int i
  |.str z=>y=.str z
  |.tup xs=>∃ys,y=.tup ys/\xs.length=ys.length/\ys.length<=900/\∀(i:Nat) a b,xs[i]?=some a->ys[i]?=some b->Lk s B n lo a b
  |.ref r=>∃q ks xs ys,y=.ref q/\r<B/\lo<=q/\s[r]?=some (.dic ks xs)/\s[q]?=some (.dic ks ys)/\ks.Nodup/\ks.length=xs.length/\ks.length=ys.length/\ks.length<=100/\∀(i:Nat) a b,xs[i]?=some a->ys[i]?=some b->Lk s B n (q+1) a b
  |_=>False
def Va {s:aa}{B Bk hi:Nat}:∀{n lo:Nat}{t:Tr}{x y:PV},TR s B n lo t x->TR s hi n Bk t y->Lk s B n Bk x y:=by
 intro n
 induction n generalizing Bk with
 |zero=>intro lo t x y h;exact h.elim
 |succ n ih =>
  intro lo t x y h h'
  cases t with
  |num i=>cases h;cases h';rfl
  |word z=>cases h;cases h';rfl
  |row ts =>
   obtain ⟨xs,rfl,h2,h3,h4⟩:=h
   obtain ⟨ys,rfl,g2,g3,g4⟩:=h'
   exact ⟨ys,rfl,by omega,by omega,λi a b ha hb=>by
    have hi:i<ts.length:=by have:=gy ha;omega
    exact ih (h4 i _ a (yi hi) ha) (g4 i _ b (yi hi) hb)⟩
  |rec_ ks ts =>
   obtain ⟨r,xs,rfl,h2,h3,h4,h5,h6,h7,h8,h9⟩:=h
   obtain ⟨q,ys,rfl,g2,g3,g4,g5,g6,g7,g8,g9⟩:=h'
   exact ⟨q,ks,xs,ys,rfl,h3,g2,h4,g4,h5,by omega,by omega,by omega,λi a b ha hb=>by
    have hi:i<ts.length:=by have:=gy ha;omega
    exact ih (h9 i _ a (yi hi) ha) (g9 i _ b (yi hi) hb)⟩
def Lk.mono {s s':aa}{B:Nat}:∀{n n' lo:Nat}{x y:PV},Lk s B n lo x y->n<=n'->(∀(m:Nat) ks xs,m<B->s[m]?=some (.dic ks xs)->s'[m]?=some (.dic ks xs))->Ag lo s s'->Lk s' B n' lo x y:=by
 intro n
 induction n with
 |zero=>intro n' lo x y h;exact h.elim
 |succ n ih =>
  intro n' lo x y h hn ab ag
  obtain ⟨m,rfl⟩:∃m,n'=m+1:=⟨n'-1,by omega⟩
  cases x with
  |int i=>exact h
  |str z=>exact h
  |tup xs =>
   obtain ⟨ys,h1,h2,h3,h4⟩:=h
   exact ⟨ys,h1,h2,h3,λi a b ha hb=>ih (h4 i a b ha hb) (by omega) ab ag⟩
  |ref r =>
   obtain ⟨q,ks,xs,ys,h1,h2,h3,h4,h5,h6,h7,h8,h9,Bl⟩:=h
   exact ⟨q,ks,xs,ys,h1,h2,h3,ab _ _ _ h2 h4,ag _ _ _ h3 h5,h6,h7,h8,h9,λi a b ha hb=>ih (Bl i a b ha hb) (by omega) ab λm ks xs l e=>ag m ks xs (by omega) e⟩
  |_=>exact h.elim
section
variable {s:aa}
def HC {r:Nat} {ks:Ae} {xs:Aq} (h:s[r]?=some (.dic ks xs)) (t:String):gh isT [.ref r,.ty t] s=gg (pR "dict" t) s:=by
 show pV isT s _ (iH s[r]?) s=_
 rw [h]
 rfl
end
theorem HD {fe:Ak}{env:ze}(xs ys:Aq) (hl:xs.length=ys.length) (I:Nat->List PV->aa->Prop) (step:∀i x y zs st,xs[i]?=some x->ys[i]?=some y->I i zs st->∃z ae,fe (some x::some y::env) st=.ok z ae/\I (i+1) (zs++[z]) ae) :
  ∀(k i:Nat) (zs:Aq) (st:aa),i+k=ys.length->I i zs st->∃mS a5,gM fe env (((xs.zip ys).map λp=>PV.tup [p.1,p.2]).drop i) zs st=.ok (.ref a5.length) (a5++[.lst mS])/\I ys.length mS a5
 |0,i,zs,st,hk,h=>⟨zs,st,by rw [hZ (by simp;omega)];rfl,by rw [<-hk];exact h⟩
 |k+1,i,zs,st,hk,h=>by
  have hx:xs[i]?=some (xs[i]'(by omega)):=yi (by omega)
  have hy:ys[i]?=some (ys[i]'(by omega)):=yi (by omega)
  obtain ⟨z,ae,e,h1⟩:=step i _ _ zs st hx hy h
  obtain ⟨mS,a5,r,h2⟩:=HD xs ys hl I step k (i+1) (zs++[z]) ae (by omega) h1
  refine ⟨mS,a5,?_,h2⟩
  rw [wo (by simp;omega)]
  unfold gM
  simp only [List.getElem_map,List.getElem_zip,pairOf]
  rw [e]
  simp only [we,zL]
  exact r
theorem HE {fe:Ak}{env:ze}(ks:Ae) (I:Nat->List PV->aa->Prop) (step:∀i k ys st,ks[i]?=some k->I i ys st->∃y ae,fe (some (.str k)::env) st=.ok y ae/\I (i+1) (ys++[y]) ae) :
  ∀(k i:Nat) (ys:Aq) (st:aa),i+k=ks.length->I i ys st->∃cH a5,eM fe env ((ks.drop i).map PV.str) ys st=.ok cH a5/\I ks.length cH a5
 |0,i,ys,st,hk,h=>⟨ys,st,by rw [hZ (by omega)];rfl,by rw [<-hk];exact h⟩
 |k+1,i,ys,st,hk,h=>by
  have hx:ks[i]?=some (ks[i]'(by omega)):=yi (by omega)
  obtain ⟨y,ae,e,h1⟩:=step i _ ys st hx h
  obtain ⟨cH,a5,r,h2⟩:=HE ks I step k (i+1) (ys++[y]) ae (by omega) h1
  refine ⟨cH,a5,?_,h2⟩
  rw [wo (by omega),jg]
  unfold eM
  rw [e]
  simp only [we,zL]
  exact r
def uS (n:Nat):(List.replicate n true).all id=true:=by induction n with|zero=>rfl|succ n ih=>simp
def Vb {st:aa}{mr:An}{xs ys:Aq}(len:xs.length=ys.length) (hl:ys.length<=900000) (hm:∀(i:Nat) x y s,Old st s->xs[i]?=some x->ys[i]?=some y->∃s1,mr [x,y] s=.ok (.bl true) s1/\Old s s1):∃s1,qy mr [.tup xs,.tup ys] st=.ok (.bl true) s1/\Old st s1:=by
 have ex:∀(zs:Aq) t,gh isT [.tup zs,.ty t] st=gg (pR "tuple" t) st:=λ_ _=>rfl
 obtain ⟨mS,a5,R,hz,ho⟩:=HD (fe:=(zq mr (zf (za 0) (zf (za 1) zj)))) (env:=[some (.tup xs),some (.tup ys)]) xs ys len (λi zs s=>zs=(List.replicate i true).map PV.bl/\Old st s) (λi x y zs s hx hy ⟨h1,h2⟩=>by
  obtain ⟨s1,e,o⟩:=hm i x y s h2 hx hy
  refine ⟨.bl true,s1,zy (zF (zb rfl) (zb rfl)) e,?_,h2.trans o⟩
  rw [h1,List.replicate_succ',ja];rfl) ys.length 0 [] st (by omega) ⟨rfl,Old.refl _⟩
 refine ⟨a5++[.lst mS],?_,ho.trans (zI _ _)⟩
 have A:=FK72.all_at (s:=a5++[.lst mS]) (r:=a5.length) (bs:=List.replicate ys.length true) (by rw [<-hz];exact zV _ _)
 rw [uS] at A
 have qT:((xs.length:Int)=(ys.length:Int)):=by omega
 refine zR rfl ?_
 refine zo (zZ (zO (zy (zF (zb rfl) rfl) (by rw [ex];rfl)))) ?_
 refine zo (zZ (zO (zy (zF (zb rfl) rfl) (by rw [ex];rfl)))) ?_
 refine jH (yG (zO (zy (zF (zb rfl) rfl) (by rw [ex];rfl))) (zo (zZ (gr (og (b:=true) (zO (zy (zF (zb rfl) rfl) (by rw [ex];rfl)))) (zO (zh (zy (zE (zb rfl)) (sN ..)) (zy (zE (zb rfl)) (sN ..)) (by rw [ET,wq qT];rfl))))) (zS (zy (zE ?_) A))))
 rw [QD,Pg,zF (zb rfl) (zb rfl)]
 simp only [zL,pX,qi]
 exact (zC (by simp [l8,lim];omega)).trans R
def Vc {st:aa}{mr:An}{ks:Ae}{xs ys:Aq}{p q:Nat}(gp:st[p]?=some (.dic ks xs)) (gq:st[q]?=some (.dic ks ys)) (pq:q≠p) (nd:ks.Nodup) (l1:ks.length=xs.length) (l2:ks.length=ys.length)
  (hm:∀(i:Nat) x y s,xs[i]?=some x->ys[i]?=some y->Old (st.set q (.fdi ks ys)) s->∃s1,mr [x,y] s=.ok (.bl true) s1/\Old s s1):∃s1,qy mr [.ref p,.ref q] st=.ok (.bl true) s1/\Old st s1:=by
 have bf:=zP gq
 have Bm:(st.set q (.fdi ks ys))[q]?=some (.fdi ks ys):=by rw [yz bf]
 have Vd:(st.set q (.fdi ks ys))[p]?=some (.dic ks xs):=by rw [yJ pq];exact gp
 have Bn:=HC gq
 have Ve:=HC gp
 have Vf:=EK gp
 have Vg:=EK gq
 obtain ⟨zs,s',R,hz,ho⟩:=HE (fe:=(gK (zc (yA false) (za 0) (za 1)) (zq mr (zf (zc zk (za 1) (za 0)) (zf (zc jP (za 2) (za 0)) zj))))) (env:=[Av p,Av q]) ks (λi zs s=>zs=(List.replicate i true).map PV.bl/\Old (st.set q (.fdi ks ys)) s) (λi k zs s hk ⟨h1,h2⟩=>by
  have hi:=gy hk
  have hx:=yi (l:=xs) (i:=i) (by omega)
  have hy:=yi (l:=ys) (i:=i) (by omega)
  obtain ⟨s1,e,o⟩:=hm i _ _ s hx hy h2
  have Vh:=h2 _ _ Bm
  have HF:=h2 _ _ Vd
  have kx:=qS nd hk hx
  have ky:=qS nd hk hy
  have i3:jP (.ref q) (.str k) s=.ok (ys[i]'(by omega)) s:=by
   simp [jP,Vh,ky]
  refine ⟨.bl true,s1,ml (zh (zb rfl) (zb rfl) (AO (b:=true) HF (by rw [kx];rfl))) (zy (zF (zh (zb rfl) (zb rfl) (j1 HF kx)) (zh (zb rfl) (zb rfl) i3)) e),?_,h2.trans o⟩
  rw [h1,List.replicate_succ',ja];rfl) ks.length 0 [] (st.set q (.fdi ks ys)) (by omega) ⟨rfl,Old.refl _⟩
 have g3:(s'++[SO.lst zs])[q]?=some (.fdi ks ys):=zI _ _ _ _ (ho _ _ Bm)
 have WG:q<s'.length:=zP (ho _ _ Bm)
 refine ⟨(s'++[SO.lst zs]).set q (.dic ks ys),?_,λm so e=>?_⟩
 ·have A:=FK72.all_at (s:=(s'++[SO.lst zs]).set q (.dic ks ys)) (r:=s'.length) (bs:=List.replicate ks.length true) (by rw [<-hz,yJ (by omega)];exact zV _ _)
  rw [uS] at A
  have qT:((ks.length:Int)=(ks.length:Int)):=rfl
  refine zR rfl ?_
  refine zo (zZ (zO (zy (zF (zb rfl) rfl) (by rw [Bn];rfl)))) ?_
  refine zo (zZ (zO (zy (zF (zb rfl) rfl) (by rw [Bn];rfl)))) ?_
  refine zo (zZ (zO (zy (zF (zb rfl) rfl) (by rw [Bn];rfl)))) ?_
  refine zo (zZ (gr (og (b:=true) (zO (zy (zF (zb rfl) rfl) (by rw [Ve];rfl)))) (zO (zh (zy (zE (zb rfl)) Vf) (zy (zE (zb rfl)) Vg) (by rw [ET,wq qT];rfl))))) (zS (zy (zE ?_) A))
  rw [QC,zb rfl]
  simp only [zL,md,qj gq]
  rw [List.drop_zero] at R
  refine (congrArg (λr=>(bC r).bind _) R).trans ?_
  simp only [we,zL,eK,g3]
 ·by_cases hm:q=m
  ·subst hm
   rw [gq] at e
   cases e
   rw [yz (by simp;omega)]
  ·rw [yJ hm]
   exact zI _ _ _ _ (ho m so (by rw [yJ hm];exact e))
def Bo {B:Nat}:∀{n lo:Nat}{x y:PV}{st:aa},Lk st B n lo x y->B<=lo->∃s1,mD n [x,y] st=.ok (.bl true) s1/\Old st s1:=by
 intro n
 induction n with
 |zero=>intro lo x y st h;exact h.elim
 |succ n ih =>
  intro lo x y st h hb
  show ∃s1,qy (mD n) [x,y] st=_/\_
  cases x with
  |int i =>
   cases h
   refine ⟨st,zR rfl (jH (yG (zO (zy (zF (zb rfl) rfl) rfl)) (zS (ml (zy (zF (zb rfl) rfl) rfl) (ml (show r6 _ _ _=.ok (.bl true) _ by rw [OZ,zy (zF (zb rfl) rfl) (show _=Res.ok (PV.bl false) _ from rfl)];rfl) (zh (zb rfl) (zb rfl) (br true (by simp) _))))))),Old.refl _⟩
  |str z =>
   cases h
   refine ⟨st,zR rfl (zo (zZ (zO (zy (zF (zb rfl) rfl) rfl))) (jH (yG (zO (zy (zF (zb rfl) rfl) rfl)) (zS (ml (zy (zF (zb rfl) rfl) rfl) (zh (zb rfl) (zb rfl) (du _))))))),Old.refl _⟩
  |tup xs =>
   obtain ⟨ys,rfl,h2,h3,h4⟩:=h
   exact Vb h2 (by omega) λi a b s o ha Bp=>ih ((h4 i a b ha Bp).mono (zM _) (λm ks xs _ e=>o m _ e) λm ks xs _ e=>o m _ e) hb
  |ref r =>
   obtain ⟨q,ks,xs,ys,rfl,h2,h3,h4,h5,h6,h7,h8,h9,Bl⟩:=h
   refine Vc h4 h5 (by omega) h6 h7 h8 λi a b s ha Bp o=>ih ((Bl i a b ha Bp).mono (zM _) (λm ks xs hm e=>o m _ ?_) λm ks xs hm e=>o m _ ?_) (by omega)
   ·rw [yJ (by omega)];exact e
   ·rw [yJ (by omega)];exact e
  |_=>exact h.elim
abbrev sR (n:Nat):Ar:=some (.ref n)
abbrev sI (n:Nat):Ar:=Aw n
def Dc (d:Nat) (l:List Int) (s:aa):Prop:=s[d]?=some (.lst (l.map PV.int))
structure Nx (d:Nat) (l:List Int) (a b:aa):Prop where
 ob:Kx [d] a b
 dc:Dc d l b
theorem Nx.trans {d:Nat}{l l':List Int}{a b c:aa}(h:Nx d l a b) (h':Nx d l' b c):Nx d l' a c:=⟨h.ob.trans h'.ob,h'.dc⟩
def Nx.refl {d:Nat}{l:List Int}{a:aa}(h:Dc d l a):Nx d l a a:=⟨λ_ _ _ e=>e,h⟩
def Nx.of {d:Nat}{l:List Int}{a b:aa}(h:Dc d l a) (o:Old a b):Nx d l a b:=⟨o.kx,o _ _ h⟩
def Nx.lt {d:Nat}{l:List Int}{a b:aa}(h:Nx d l a b) {n:Nat}(hn:n<a.length):n<b.length:=by
 by_cases e:n=d
 ·rw [e];exact zP h.dc
 ·exact zP (h.ob n _ (by simpa using e) (yi hn))
def Nx.le {d:Nat}{l:List Int}{a b:aa}(h:Nx d l a b):a.length<=b.length:=by
 rcases Nat.lt_or_ge b.length a.length with q|q
 ·have:=h.lt q;omega
 ·exact q
def Nx.at_ {d n:Nat}{l:List Int}{a b:aa}{so:SO}(h:Nx d l a b) (hn:n≠d) (e:a[n]?=some so):b[n]?=some so:=h.ob n so (by simpa using hn) e
def Nx.ag {d lo:Nat}{l l0:List Int}{a b:aa}(h:Nx d l a b) (hd:Dc d l0 a):Ag lo a b:=λm ks xs _ e=>h.at_ (λq=>by rw [q,show a[d]?=_ from hd] at e;cases e) e
def rn (l:List Int) (m:Nat):Nat:=match l with
 |[]=>0
 |i::_=>(jj i m).toNat
def wJ {m:Nat}(hm:0<m) (l:List Int):rn l m<m:=by
 cases l with
 |nil=>exact hm
 |cons i l=>obtain ⟨b,hb,e⟩:=dX i m hm;show (jj i m).toNat<m;rw [e];simpa using hb
def js {d:Nat}{l:List Int}{st:aa}(hd:Dc d l st) (m:Nat) (hm:0<m):∃(s1:aa),jf [.ref d,.int (m:Int)] st=.ok (.int (rn l m:Int)) s1/\Nx d l.tail st s1:=by
 have e:st[d]?=some (.lst (l.map PV.int)):=hd
 cases l with
 |nil =>
  exact ⟨st,zR rfl (jH (yG (zO (zh (zy (zE (zb rfl)) (bp e)) rfl (xU _ _))) (zS rfl))),Nx.refl hd⟩
 |cons i l =>
  obtain ⟨b,hb,eb⟩:=dX i m hm
  have er:rn (i::l) m=b:=by show (jj i m).toNat=b;rw [eb];simp
  have e1:(st.set d (.lst (l.map PV.int)))[d]?=some (.lst (l.map PV.int)):=yz (zP e)
  refine ⟨st.set d (.lst (l.map PV.int)),zR rfl (zo (zZ (zO (zh (zy (zE (zb rfl)) (bp e)) rfl ((xU _ _).trans (by rw [jo (by simp;omega)]))))) (zS (zh (wH (zb rfl) e rfl (by
   show yq st d _=_
   rw [yv e]
   rfl)) (zb rfl) ((iU _ _ (by omega)).trans (by rw [eb,er]))))),⟨yZ (by simp),e1⟩⟩
def HG (st:aa):wO (.int 10) (.int 17) st=.ok (.int 100000000000000000) st:=by
 have cp:fG 10 17=true:=by decide
 have pw:((10:Int) ^ (17:Int).toNat)=100000000000000000:=by decide
 show (if fG 10 17=true then Res.ok (PV.int (10 ^ (17:Int).toNat)) st else .stuck)=_
 rw [zC cp,pw]
def Bq (st:aa):wO (.int 10) (.int 18) st=.ok (.int 1000000000000000000) st:=by
 have cp:fG 10 18=true:=by decide
 have pw:((10:Int) ^ (18:Int).toNat)=1000000000000000000:=by decide
 show (if fG 10 18=true then Res.ok (PV.int (10 ^ (18:Int).toNat)) st else .stuck)=_
 rw [zC cp,pw]
def HH (cs:List Nat):PySem.Txt.join ("" : Str) (cs.map λc=>(⟨#[c]⟩:Str))=S cs:=by
 show PySem.Builtin.Str.glued ("" : Str) (cs.map λc=>(⟨#[c]⟩:Str))=_
 rw [PySem.StrLaws.glued_eq_join]
 have e0:("" : Str)=S []:=by decide +kernel
 rw [e0]
 induction cs with
 |nil=>rfl
 |cons c r ih =>
  cases r with
  |nil=>rfl
  |cons d r' =>
   show S [c]++S []++Str.join (S []) ((d::r').map λc=>(⟨#[c]⟩:Str))=_
   rw [ih,GF,GF]
   simp
theorem Br:∀cs:List Nat,((cs.map λc=>(⟨#[c]⟩:Str)).map (·.length)).sum=cs.length
 |[]=>rfl
 |c::cs=>by have:=Br cs;simp only [jg,List.sum_cons,wc,this];show 1+_=_;omega
def HI {z:Str}{fa:Ak}{e:ze}{st s1:aa}{r:Nat}{xs:Aq}{zs:Ae}(h:fa e st=.ok (.ref r) s1) (hr:s1[r]?=some (.lst xs)) (hz:strsOf xs=some zs) (hl:(zs.map (·.length)).sum+zs.length*z.length<=1000000):sP (Au z) fa e st=.ok (.str (PySem.Txt.join z zs)) s1:=by
 show (fa e st).bind _=_
 rw [h,zL]
 show yq s1 r _=_
 rw [yv hr,hz]
 exact zC hl
def uq (m:An) (l l':List Int) (i:Int):Prop:=∀d st,Dc d l st->∃s1,m [.ref d] st=.ok (.int i) s1/\Nx d l' st s1
def Vi (l:List Int):∃i l',uq x9 l l' i:=by
 have hw:=wJ (m:=6) (by decide) l
 by_cases c1:rn l 6<2
 ·have hr:=wJ (m:=10) (by decide) l.tail
  refine ⟨rn l.tail 10,l.tail.tail,λd st hd=>?_⟩
  obtain ⟨s1,e1,n1⟩:=js hd 6 (by decide)
  obtain ⟨s2,e2,n2⟩:=js n1.dc 10 (by decide)
  exact ⟨s2,zR rfl (zo (zD (zy (zF (zb rfl) rfl) e1)) (jH (yG (zO (zh (zb rfl) rfl (gQ true (by simp;omega) _))) (zS (zy (zF (zb rfl) rfl) e2))))),n1.trans n2⟩
 by_cases c2:rn l 6=2
 ·have hr:=wJ (m:=1000) (by decide) l.tail
  refine ⟨0-(rn l.tail 1000:Int),l.tail.tail,λd st hd=>?_⟩
  obtain ⟨s1,e1,n1⟩:=js hd 6 (by decide)
  obtain ⟨s2,e2,n2⟩:=js n1.dc 1000 (by decide)
  exact ⟨s2,zR rfl (zo (zD (zy (zF (zb rfl) rfl) e1)) (zo (zZ (zO (zh (zb rfl) rfl (gQ false (by simp;omega) _)))) (jH (yG (zO (zh (zb rfl) rfl (br true (by simp;omega) _))) (zS (zh rfl (zy (zF (zb rfl) rfl) e2) (wV _ _))))))),n1.trans n2⟩
 by_cases c3:rn l 6=3
 ·let L:List Int:=[1000000000000000000-1,1-1000000000000000000,100000000000000000,1-100000000000000000,99,-10]
  have hr:rn l.tail 6<L.length:=wJ (m:=6) (by decide) l.tail
  have hx:L[rn l.tail 6]?=some (L[rn l.tail 6]'hr):=yi hr
  refine ⟨L[rn l.tail 6]'hr,l.tail.tail,λd st hd=>?_⟩
  obtain ⟨s1,e1,n1⟩:=js hd 6 (by decide)
  have nd:Nx d l.tail s1 (s1++[.lst (L.map PV.int)]):=Nx.of n1.dc (zI _ _)
  obtain ⟨s2,e2,n2⟩:=js nd.dc 6 (by decide)
  have hL:s2[s1.length]?=some (.lst (L.map PV.int)):=by
   refine n2.at_ ?_ (zV _ _)
   have:=zP n1.dc
   omega
  exact ⟨s2,zR rfl (zo (zD (zy (zF (zb rfl) rfl) e1)) (zo (zZ (zO (zh (zb rfl) rfl (gQ false (by simp;omega) _)))) (zo (zZ (zO (zh (zb rfl) rfl (br false (by simp;omega) _)))) (jH (yG (zO (zh (zb rfl) rfl (br true (by simp;omega) _))) (zo (zD (jm (xs:=L.map PV.int) (wb (zh (zh rfl rfl (Bq _)) rfl (wV _ _)) (wb (zh rfl (zh rfl rfl (Bq _)) (wV _ _)) (wb (zh rfl rfl (HG _)) (wb (zh rfl (zh rfl rfl (HG _)) (wV _ _)) (wb rfl (zE (wT rfl rfl)))))))
   (by simp [L]))) (zS (zh (zb rfl) (zy (zF (zb rfl) rfl) e2) (by
    rw [nX,yv hL,bu (x:=PV.int (L[rn l.tail 6]'hr)) (by rw [jd,hx];rfl)]
    rfl))))))))),n1.trans (nd.trans n2)⟩
 have ha:=wJ (m:=1000000000) (by decide) l.tail
 have hb:=wJ (m:=1000000000) (by decide) l.tail.tail
 have hm:∀n:Nat,n<2->∀(x y:PV),cQ [x,y] (n:Int)=some (if n=0 then x else y):=λn hn x y=>by
  match n,hn with
  |0,_=>rfl
  |1,_=>rfl
 obtain ⟨k,hk,ek⟩:=dX (rn l 6:Int) 2 (by decide)
 have ek:jj (rn l 6:Int) 2=(k:Int):=ek
 refine ⟨if k=0 then (rn l.tail 1000000000:Int)*1000000000+rn l.tail.tail 1000000000 else 0-((rn l.tail 1000000000:Int)*1000000000+rn l.tail.tail 1000000000),l.tail.tail.tail,λd st hd=>?_⟩
 obtain ⟨s1,e1,n1⟩:=js hd 6 (by decide)
 obtain ⟨s2,e2,n2⟩:=js n1.dc 1000000000 (by decide)
 obtain ⟨s3,e3,n3⟩:=js n2.dc 1000000000 (by decide)
 have n4:Nx d l.tail.tail.tail s3 (s3++[.lst [.int ((rn l.tail 1000000000:Int)*1000000000+rn l.tail.tail 1000000000),.int (0-((rn l.tail 1000000000:Int)*1000000000+rn l.tail.tail 1000000000))]]):=Nx.of n3.dc (zI _ _)
 refine ⟨_,zR rfl (zo (zD (zy (zF (zb rfl) rfl) e1)) (zo (zZ (zO (zh (zb rfl) rfl (gQ false (by simp;omega) _)))) (zo (zZ (zO (zh (zb rfl) rfl (br false (by simp;omega) _)))) (zo (zZ (zO (zh (zb rfl) rfl (br false (by simp;omega) _)))) (zo (zD (zh (zh (zy (zF (zb rfl) (zh rfl rfl (AG _))) e2) (zh rfl rfl (AG _)) (gu _ _ (by simp [cV]))) (zy (zF (zb rfl) (zh rfl rfl (AG _))) e3) (wU _ _)))
  (zS (zh (jm (zF (zb rfl) (zh rfl (zb rfl) (wV _ _))) (by simp)) (zh (zb rfl) rfl ((iU _ _ (by decide)).trans (by rw [ek]))) (by
   rw [nX,yv (zV _ _),hm k hk _ _]
   split<;>rfl)))))))),n1.trans (n2.trans (n3.trans n4))⟩
def ur (m:An) (l l':List Int) (z:Str):Prop:=∀d st,Dc d l st->∃s1,m [.ref d] st=.ok (.str z) s1/\Nx d l' st s1
def wk (c w i:Nat):Nat:=(jj (wF (c:Int) (1+(i:Int)*i*i)+(i:Int)*(1+(w:Int))) 26).toNat
def Vj (c w i:Nat):wk c w i<26/\jj (wF (c:Int) (1+(i:Int)*i*i)+(i:Int)*(1+(w:Int))) 26=(wk c w i:Int):=by
 obtain ⟨k,hk,ek⟩:=dX (wF (c:Int) (1+(i:Int)*i*i)+(i:Int)*(1+(w:Int))) 26 (by decide)
 have ek:jj (wF (c:Int) (1+(i:Int)*i*i)+(i:Int)*(1+(w:Int))) 26=(k:Int):=ek
 unfold wk
 rw [ek]
 exact ⟨by simpa using hk,by simp⟩
def HJ (l:List Int):∃z l',ur qw l l' z:=by
 have hw:=wJ (m:=8) (by decide) l
 have hc:=wJ (m:=1000000007) (by decide) l.tail
 generalize ew:rn l 8=w at hw
 generalize ec:rn l.tail 1000000007=c at hc
 refine ⟨S ((List.range (1+w)).map λj=>jX (wk c w j)),l.tail.tail,λd st hd=>?_⟩
 obtain ⟨s1,e1,n1⟩:=js hd 8 (by decide)
 obtain ⟨s2,e2,n2⟩:=js n1.dc 1000000007 (by decide)
 rw [ew] at e1
 rw [ec] at e2
 have Vk:(1:Int)+(w:Int)=((1+w:Nat):Int):=by omega
 obtain ⟨ys,s3,C,hy,hs⟩:=qH (fe:=(zc zk (za 2) (zc yx (zc yd (zc yV (za 4) (zc yd (At 1) (zc yI (zc yI (za 0) (za 0)) (za 0)))) (zc yI (za 0) (za 3))) (At 26)))) (fs:=(zf (za 2) zj)) (env:=[sR d,some (.str dF),some (.int (1+(w:Int))),some (.int c)]) (st:=s2) (1+w) (by omega) (zE (by rw [<-Vk];exact zb rfl))
  (λi ys s=>ys=((List.range i).map λj=>jX (wk c w j)).map (λc=>PV.str ⟨#[c]⟩)/\s=s2) (λi ys s hi ⟨h1,h4⟩=>by
   subst h4
   obtain ⟨hk,ek⟩:=Vj c w i
   have Bs:(i:Int)<=8:=by omega
   have p1:(i:Int)*i<=8*8:=Int.mul_le_mul Bs Bs (by omega) (by omega)
   have p0:0<=(i:Int)*i:=Int.mul_nonneg (by omega) (by omega)
   have p2:(i:Int)*i*i<=8*8*8:=Int.mul_le_mul p1 Bs (by omega) (by omega)
   have p3:0<=(i:Int)*i*i:=Int.mul_nonneg p0 (by omega)
   have L:=AH (wk c w i) hk s
   exact ⟨.str ⟨#[jX (wk c w i)]⟩,s,zh (zb rfl) (zh (zh (zh (zb rfl) (zh rfl (zh (zh (zb rfl) (zb rfl) (gu _ _ (by simp [cV];omega))) (zb rfl) (gu _ _ (by simp [cV];omega))) (wU _ _)) (xT _ _ (by omega) (by omega))) (zh (zb rfl) (zb rfl) (gu _ _ (by simp [cV];omega))) (wU _ _)) rfl ((iU _ _ (by decide)).trans (by rw [ek]))) L.1,by rw [h1,hW,ja,ja];rfl,rfl⟩) ⟨rfl,rfl⟩
 subst hs
 exact ⟨s3++[.lst ys],zR rfl (zo (zD rfl) (zo (zD (zh rfl (zy (zF (zb rfl) rfl) e1) (wU _ _))) (zo (zD (zy (zF (zb rfl) rfl) e2)) (zS ((HI C (zV _ _) (by rw [hy];exact AJ _) (by rw [Br,GG];simp;omega)).trans (by rw [HH])))))),(n1.trans n2).trans (Nx.of n2.dc (zI _ _))⟩
def Rl {α β:Type}(P:α->β->Prop) (ts:List α) (xs:List β):Prop:=xs.length=ts.length/\∀(i:Nat) t x,ts[i]?=some t->xs[i]?=some x->P t x
section
variable {α β:Type} {P Q:α->β->Prop} {ts:List α} {xs:List β} {t:α} {x:β}
def Rl.nil:Rl P [] []:=⟨rfl,λi t x h=>by simp at h⟩
def Rl.imp (h:Rl P ts xs) (f:∀t x,P t x->Q t x):Rl Q ts xs:=⟨h.1,λi t x a b=>f _ _ (h.2 i t x a b)⟩
def Rl.snoc (h:Rl P ts xs) (p:P t x):Rl P (ts++[t]) (xs++[x]):=⟨by simp [h.1],λi a b ha hb=>by
 have h1:=h.1
 rcases Nat.lt_or_ge i ts.length with q|q
 ·rw [wD q] at ha
  rw [wD (by omega)] at hb
  exact h.2 i a b ha hb
 ·have:=gy ha
  simp only [wA,uV] at this
  have e:i=ts.length:=by omega
  rw [e,wX (by omega),Nat.sub_self] at ha
  rw [e,<-h1,wX (by omega),Nat.sub_self] at hb
  cases ha;cases hb
  exact p⟩
def Rl.cons:Rl P (t::ts) (x::xs)↔P t x/\Rl P ts xs:=⟨λh=>⟨h.2 0 t x rfl rfl,by simpa using h.1,λi a b ha hb=>h.2 (i+1) a b ha hb⟩,λ⟨p,h⟩=>⟨by simp [h.1],λi a b ha hb=>by
 cases i with
 |zero=>cases ha;cases hb;exact p
 |succ i=>exact h.2 i a b ha hb⟩⟩
end
theorem HK {P:Tr->PV->Prop}{z:Str}{x:PV}{t:Tr}(tt:P t x):∀{ks:Ae}{ts:List Tr}{xs:Aq},Rl P ts xs->Rl P (repl z t ks ts) (repl z x ks xs)
 |[],ts,xs,h=>by unfold repl;exact h
 |k::ks,[],[],h=>by unfold repl;exact h
 |k::ks,[],x::xs,h=>by cases h.1
 |k::ks,t::ts,[],h=>by cases h.1
 |k::ks,t0::ts,y::r,h=>by
  obtain ⟨h1,h2⟩:=Rl.cons.mp h
  have g:=HK (z:=z) tt (ks:=ks) h2
  unfold repl
  by_cases e:k=z
  ·rw [zC e,zC e];exact Rl.cons.mpr ⟨tt,g⟩
  ·rw [zQ e,zQ e];exact Rl.cons.mpr ⟨h1,g⟩
def eO {α:Type}(N:α->α):Nat->α->α
 |0,l=>l
 |i+1,l=>N (eO N i l)
def kX (z:Str) (t:Tr) (ks:Ae) (ts:List Tr):List Str×List Tr:=if ks.contains z=true then (ks,repl z t ks ts) else (ks++[z],ts++[t])
def Vl {P:Tr->PV->Prop}{z:Str}{x:PV}{t:Tr}{ks:Ae}{ts:List Tr}{xs:Aq}(tr:Rl P ts xs) (tt:P t x):(kX z t ks ts).1=(jk z x ks xs).1/\Rl P (kX z t ks ts).2 (jk z x ks xs).2:=by
 unfold kX jk
 by_cases h:ks.contains z=true
 ·rw [zC h,zC h];exact ⟨rfl,HK tt tr⟩
 ·rw [zQ h,zQ h];exact ⟨rfl,tr.snoc tt⟩
theorem cM {α:Type}{z:Str}{x:α}:∀(ks:Ae) (ts:List α),(repl z x ks ts).length=ts.length
 |[],ts=>by unfold repl;rfl
 |k::ks,[]=>by unfold repl;rfl
 |k::ks,t::ts=>by unfold repl;simp [cM ks ts]
structure uu (i:Nat) (ks:Ae) (ts:List Tr):Prop where
 nd:ks.Nodup
 len:ks.length=ts.length
 le:ts.length<=i
def uu.put {i:Nat}{ks:Ae}{ts:List Tr}(h:uu i ks ts) {z:Str}{t:Tr}:uu (i+1) (kX z t ks ts).1 (kX z t ks ts).2:=by
 unfold kX
 by_cases hc:ks.contains z=true
 ·rw [zC hc]
  exact ⟨h.nd,by simp only [cM];exact h.len,by simp only [cM];have:=h.le;omega⟩
 ·rw [zQ hc]
  have lK:z∉ks:=by simpa using hc
  refine ⟨?_,by simp [h.len],by simp only [wA,uV];have:=h.le;omega⟩
  simp only
  rw [List.nodup_append]
  exact ⟨h.nd,by simp,λa ha b hb=>by rw [jJ.mp hb];exact λe=>lK (e▸ha)⟩
def iS {α β γ:Type}{P:α->β->γ->Prop}(h:∀a,∃b c,P a b c):∃(f:α->β) (g:α->γ),∀a,P a (f a) (g a):=⟨λa=>(h a).choose,λa=>(h a).choose_spec.choose,λa=>(h a).choose_spec.choose_spec⟩
def fN (Z:List Int->Str) (M:List Int->List Int) (T:List Int->Tr) (N:List Int->List Int):List Int×List Str×List Tr->List Int×List Str×List Tr:=λq=>(N (M q.1),kX (Z q.1) (T (M q.1)) q.2.1 q.2.2)
theorem HL {Z:List Int->Str}{M:List Int->List Int}{T:List Int->Tr}{N:List Int->List Int}(l:List Int):∀i,uu i (eO (fN Z M T N) i (l,[],[])).2.1 (eO (fN Z M T N) i (l,[],[])).2.2
 |0=>⟨.nil,rfl,zM _⟩
 |i+1=>(HL l i).put
def Draws (m:An) (b:Nat) (l l':List Int) (t:Tr):Prop:=∀d st,Dc d l st->∃v s1,m [.ref d,.int (b:Int)] st=.ok v s1/\TR s1 s1.length (b+1) st.length t v/\Nx d l' st s1
def Vm:∀(n b:Nat) (l:List Int),b<n->∃t l',Draws (ww n) b l l' t:=by
 intro n
 induction n with
 |zero=>intro b l h;omega
 |succ n ih =>
  intro b l hb
  have hw:=wJ (m:=8) (by decide) l
  generalize ew:rn l 8=w at hw
  show ∃t l',Draws (y_ (ww n)) _ _ _ _
  have A:∀{d:Nat} {st s1:aa} {X:Res Fl},jf [.ref d,.int ((8:Nat):Int)] st=.ok (.int (rn l 8:Int)) s1->Gf (ww n) [sR d,sI b,sI w,none,none,none] s1=X->sW (ww n) [sR d,sI b,none,none,none,none] st=X:=λe1 h=>zo (zD (zy (zF (zb rfl) rfl) (by rw [ew] at e1;exact e1))) h
  by_cases c1:w=3\/w=4
  ·obtain ⟨z,l2,D⟩:=HJ l.tail
   refine ⟨.word z,l2,λd st hd=>?_⟩
   obtain ⟨s1,e1,n1⟩:=js hd 8 (by decide)
   obtain ⟨s2,e2,n2⟩:=D d s1 n1.dc
   refine ⟨.str z,s2,zR rfl (A e1 (jH (yG ?_ (zS (zy (zE (zb rfl)) e2))))),rfl,n1.trans n2⟩
   rcases c1 with c|c
   ·exact n_ (zO (zh (zb rfl) rfl (br true (by simp;omega) _)))
   ·exact gr (zO (zh (zb rfl) rfl (br false (by simp;omega) _))) (zO (zh (zb rfl) rfl (br true (by simp;omega) _)))
  have B:∀{d:Nat} {st s1:aa} {X:Res Fl},jf [.ref d,.int ((8:Nat):Int)] st=.ok (.int (rn l 8:Int)) s1->Ge (ww n) [sR d,sI b,sI w,none,none,none] s1=X->sW (ww n) [sR d,sI b,none,none,none,none] st=X:=λe1 h=>A e1 (zo (zZ (gr (zO (zh (zb rfl) rfl (br false (by simp;omega) _))) (zO (zh (zb rfl) rfl (br false (by simp;omega) _))))) h)
  by_cases c2:0<b/\(w=5\/w=6)
  ·have hm:=wJ (m:=4) (by decide) l.tail
   obtain ⟨b',rfl⟩:∃b',b=b'+1:=⟨b-1,by omega⟩
   have ee:((b'+1:Nat):Int)-1=(b':Int):=by omega
   have H:=λl=>ih b' l (by omega)
   obtain ⟨T,N,hD⟩:=iS H
   generalize em:rn l.tail 4=m at hm
   let us:Nat->List Tr:=λi=>(List.range i).map λj=>T (eO N j l.tail.tail)
   have Vn:∀i,(us i).length=i:=λi=>by simp [us]
   refine ⟨.row (us m),eO N m l.tail.tail,λd st hd=>?_⟩
   obtain ⟨s1,e1,n1⟩:=js hd 8 (by decide)
   obtain ⟨s2,e2,n2⟩:=js n1.dc 4 (by decide)
   rw [em] at e2
   have AL:=n1.trans n2
   obtain ⟨ys,s3,C,q1,q4⟩:=qH (fe:=(zq (ww n) (zf (za 1) (zf (zc jU (za 2) (At 1)) zj)))) (fs:=(zf (zq jf (zf (za 0) (zf (At 4) zj))) zj)) (env:=[sR d,some (.int ((b'+1:Nat):Int)),sI w,none,none,none]) (st:=s1) m (by omega) (zE (zy (zF (zb rfl) rfl) e2))
    (λi ys s=>Rl (TR s s.length (b'+1) st.length) (us i) ys/\Nx d (eO N i l.tail.tail) s2 s) (λi ys s hi ⟨h1,h4⟩=>by
     obtain ⟨v,s4,e4,k1,k5⟩:=hD _ d s h4.dc
     refine ⟨v,s4,zy (zF (zb rfl) (zh (zb rfl) rfl ((wV _ _).trans (by rw [ee])))) e4,?_,h4.trans k5⟩
     show Rl _ ((List.range (i+1)).map _) _
     rw [hW,ja]
     exact (h1.imp λt x h=>h.mono k5.le (zM _) (zM _) (k5.ag h4.dc)).snoc (k1.mono (zM _) (zM _) (AL.trans h4).le (Ag.refl _ _))) ⟨Rl.nil,Nx.refl n2.dc⟩
   have o4:=zI s3 [SO.lst ys]
   have Vo:=q1.imp λt x h=>h.mono (hi':=(s3++[SO.lst ys]).length) (by simp) (zM _) (zM _) (Old.ag o4)
   refine ⟨.tup ys,s3++[.lst ys],zR rfl (B e1 (jH (yG (wu (zO (zh (zb rfl) rfl (fj true (by simp<;>omega) _))) ?_) (zS (zy (zE C) (by rw [iN,yv (zV _ _)])))))),⟨ys,rfl,q1.1,by rw [Vn];omega,Vo.2⟩,AL.trans (q4.trans (Nx.of q4.dc o4))⟩
   rcases c2.2 with c|c
   ·exact n_ (zO (zh (zb rfl) rfl (br true (by simp;omega) _)))
   ·exact gr (zO (zh (zb rfl) rfl (br false (by simp;omega) _))) (zO (zh (zb rfl) rfl (br true (by simp;omega) _)))
  have C:∀{d:Nat} {st s1:aa} {X:Res Fl},jf [.ref d,.int ((8:Nat):Int)] st=.ok (.int (rn l 8:Int)) s1->Gd (ww n) [sR d,sI b,sI w,none,none,none] s1=X->sW (ww n) [sR d,sI b,none,none,none,none] st=X:=λe1 h=>B e1 (zo (zZ (by
   by_cases hb0:0<b
   ·exact wu (zO (zh (zb rfl) rfl (fj true (by simp;omega) _))) (gr (zO (zh (zb rfl) rfl (br false (by simp;omega) _))) (zO (zh (zb rfl) rfl (br false (by simp;omega) _))))
   ·exact gO (zO (zh (zb rfl) rfl (fj false (by simp;omega) _))))) h)
  by_cases c3:0<b/\w=7
  ·have hm:=wJ (m:=4) (by decide) l.tail
   obtain ⟨b',rfl⟩:∃b',b=b'+1:=⟨b-1,by omega⟩
   have ee:((b'+1:Nat):Int)-1=(b':Int):=by omega
   have H:=λl=>ih b' l (by omega)
   obtain ⟨T,N,hD⟩:=iS H
   obtain ⟨Z,M,hM⟩:=iS HJ
   generalize em:rn l.tail 4=m at hm
   have FL:=HL (Z:=Z) (M:=M) (T:=T) (N:=N) l.tail.tail
   refine ⟨.rec_ (eO (fN Z M T N) m (l.tail.tail,[],[])).2.1 (eO (fN Z M T N) m (l.tail.tail,[],[])).2.2,(eO (fN Z M T N) m (l.tail.tail,[],[])).1,λd st hd=>?_⟩
   obtain ⟨s1,e1,n1⟩:=js hd 8 (by decide)
   have nA:Nx d l.tail s1 (s1++[.dic [] []]):=Nx.of n1.dc (zI _ _)
   obtain ⟨s2,e2,n2⟩:=js nA.dc 4 (by decide)
   rw [em] at e2
   have nv:d<s1.length:=zP n1.dc
   have Bt:s2[s1.length]?=some (.dic [] []):=n2.at_ (by omega) (zV _ _)
   obtain ⟨e',s3,F,⟨z4,z5,he⟩,nx,ys,hq,tr⟩:=AK (gt:=gN 4) (body:=(zp (zB 5 (zq qw (zf (za 0) zj))) (yL (za 3) (za 5) (zq (ww n) (zf (za 0) (zf (zc jU (za 1) (At 1)) zj)))))) (fs:=(zf (zq jf (zf (za 0) (zf (At 4) zj))) zj)) (e:=[sR d,some (.int ((b'+1:Nat):Int)),sI w,sR s1.length,none,none]) (st:=s1++[.dic [] []])
    (λi e s=>(∃z4 z5,e=[sR d,some (.int ((b'+1:Nat):Int)),sI w,sR s1.length,z4,z5])/\Nx d (eO (fN Z M T N) i (l.tail.tail,[],[])).1 s1 s/\∃ys,s[s1.length]?=some (.dic (eO (fN Z M T N) i (l.tail.tail,[],[])).2.1 ys)/\Rl (TR s s.length (b'+1) (s1.length+1)) (eO (fN Z M T N) i (l.tail.tail,[],[])).2.2 ys) m (by omega) (zE (zy (zF (zb rfl) rfl) e2)) (λi e s hi ⟨⟨z4,z5,he⟩,nx,ys,hq,tr⟩=>by
     subst he
     generalize eq:eO (fN Z M T N) i (l.tail.tail,[],[])=qq at nx hq tr
     have pj:eO (fN Z M T N) (i+1) (l.tail.tail,[],[])=fN Z M T N qq:=by show fN Z M T N (eO _ i _)=_;rw [eq]
     rw [pj]
     have fl:=FL i
     rw [eq] at fl
     obtain ⟨s4,e4,n4⟩:=hM qq.1 d s nx.dc
     have WH:=zP hq
     obtain ⟨v,s5,e5,k1,k5⟩:=hD (M qq.1) d s4 n4.dc
     have uv:=n4.trans k5
     have HM:=uv.at_ (by omega) hq
     generalize hS:s5.set s1.length (.dic (jk (Z qq.1) v qq.2.1 ys).1 (jk (Z qq.1) v qq.2.1 ys).2)=s6
     have l6:s6.length=s5.length:=by rw [<-hS];simp
     have HN:Ag (s1.length+1) s5 s6:=λm ks xs hm e=>by rw [<-hS,yJ (by omega)];exact e
     have Vp:Rl (TR s6 s6.length (b'+1) (s1.length+1)) qq.2.2 ys:=tr.imp λt x h=>(h.mono uv.le (zM _) (zM _) (uv.ag nx.dc)).mono (by omega) (zM _) (zM _) HN
     have EW:TR s6 s6.length (b'+1) (s1.length+1) (T (M qq.1)) v:=(k1.mono (zM _) (zM _) (by have:=n4.le;omega) (Ag.refl _ _)).mono (by omega) (zM _) (zM _) HN
     obtain ⟨g1,g2⟩:=Vl (z:=Z qq.1) (ks:=qq.2.1) Vp EW
     have P:=qI (fo:=za 3) (fi:=za 5) (fv:=(zq (ww n) (zf (za 0) (zf (zc jU (za 1) (At 1)) zj)))) (e:=[sR d,some (.int ((b'+1:Nat):Int)),sI w,sR s1.length,sI i,some (.str (Z qq.1))]) (s:=s4) (zy (zF (zb rfl) (zh (zb rfl) rfl ((wV _ _).trans (by rw [ee])))) e5) (zb rfl) (zb rfl) HM (by have:=fl.le;have:=fl.len;omega)
     rw [hS] at P
     refine ⟨_,_,_,rfl,zo (zD (zy (zE (zb rfl)) e4)) P,⟨_,_,rfl⟩,⟨λn so hn hs=>?_,?_⟩,_,?_,g2⟩
     ·have:=zP hs
      rw [<-hS,yJ (by omega)]
      exact (nx.trans uv).ob n so hn hs
     ·show s6[d]?=_
      rw [<-hS,yJ (by omega)]
      exact k5.dc
     ·rw [<-hS,yz (zP HM)]
      show _=some (SO.dic (kX _ _ _ _).1 _)
      rw [g1]) ⟨⟨none,none,rfl⟩,nA.trans n2,[],Bt,Rl.nil⟩
   subst he
   exact ⟨.ref s1.length,s3,zR rfl (C e1 (jH (yG (wu (zO (zh (zb rfl) rfl (fj true (by simp<;>omega) _))) (zO (zh (zb rfl) rfl (br true (by simp;omega) _)))) (zo (zD rfl) (zo F (zS (zb rfl))))))),⟨s1.length,ys,rfl,n1.le,zP hq,hq,(FL m).nd,(FL m).len,tr.1,by have:=(FL m).le;omega,tr.2⟩,n1.trans nx⟩
  obtain ⟨i,l2,D⟩:=Vi l.tail
  refine ⟨.num i,l2,λd st hd=>?_⟩
  obtain ⟨s1,e1,n1⟩:=js hd 8 (by decide)
  obtain ⟨s2,e2,n2⟩:=D d s1 n1.dc
  refine ⟨.int i,s2,zR rfl (C e1 (zo (zZ (by
   by_cases hb0:0<b
   ·exact wu (zO (zh (zb rfl) rfl (fj true (by simp;omega) _))) (zO (zh (zb rfl) rfl (br false (by simp;omega) _)))
   ·exact gO (zO (zh (zb rfl) rfl (fj false (by simp;omega) _))))) (zS (zy (zE (zb rfl)) e2)))),rfl,n1.trans n2⟩
abbrev both:Str := "abcdefghijklmnopqrstuvwxyz" ++ "0123456789"
def Vq:both.cps.toList.length=36:=by decide +kernel
def dW (j:Nat):Nat:=(both.cps.toList[j]?).getD 0
def Vr {j:Nat}(h:j<36):both.cps.toList[j]?=some (dW j):=by
 unfold dW;rw [yi (by rw [Vq];exact h)];rfl
def Bu (j:Nat) (h:j<36) (st:aa):zk (.str both) (.int (j:Int)) st=.ok (.str ⟨#[dW j]⟩) st:=TC (by decide +kernel) (Vr h) st
def Vs:∀i,i<36->∀j,j<36->dW i=dW j->i=j:=by decide +kernel
def HQ:∀i,i<26->∀j,j<26->jX i=jX j->i=j:=by decide +kernel
structure Nm (c:Nat) (nm:Nat->Str):Prop where
 one:∀i j:Nat,i<900->j<900->nm i=nm j->i=j
 len:∀i:Nat,i<900->(nm i).length<=1000
 at_:∀k:Nat,k<900->∀st,∃s1,mw [.int (c:Int),.int (k:Int)] st=.ok (.str (nm k)) s1/\Old st s1
def Vt (c:Nat):∃nm,Nm c nm:=by
 generalize es:1+c%8=dG
 have WI:dG<=8/\1<=dG:=by omega
 generalize e2:max dG 2=s2
 have dY:s2<=8/\2<=s2/\(dG≠1->s2=dG)/\(dG=1->s2=2):=by omega
 generalize eq:(c/16)%(s2-1)=q
 have hq:q<s2-1:=by rw [<-eq];exact jS _ (by omega)
 let G:Nat->Nat->Nat:=λk j=>if c/8%2=0 then dW ((c/1024+j*j)%36) else dW ((c/1024+k*k*j+j*j)%36)
 let L:Nat->List Nat:=λk=>(((List.range s2).map (G k)).set 0 (jX ((c/64+k/36)%26))).set (1+q) (dW ((c/256+k)%36))
 have lL:∀k,(L k).length=s2:=λk=>by simp [L]
 have L0:∀k,(L k)[0]?=some (jX ((c/64+k/36)%26)):=λk=>by
  show (List.set _ (1+q) _)[0]?=_
  rw [yJ (by omega),yz (by simp;omega)]
 have Lq:∀k,(L k)[1+q]?=some (dW ((c/256+k)%36)):=λk=>by
  show (List.set _ (1+q) _)[1+q]?=_
  rw [yz (by simp;omega)]
 refine ⟨λk=>if dG=1/\k<26 then S [jX ((c/8+k)%26)] else S (L k),λi j hi hj h=>?_,λi hi=>?_,λk hk st=>?_⟩
 ·have hh:(if dG=1/\i<26 then S [jX ((c/8+i)%26)] else S (L i))=if dG=1/\j<26 then S [jX ((c/8+j)%26)] else S (L j):=h
  by_cases h1:dG=1/\i<26
  ·by_cases h2:dG=1/\j<26
   ·rw [zC h1,zC h2] at hh
    have:=tV hh
    injection this with this
    have:=HQ _ (jS _ (by decide)) _ (jS _ (by decide)) this
    omega
   ·rw [zC h1,zQ h2] at hh
    have:=congrArg List.length (tV hh)
    rw [lL] at this
    simp at this;omega
  ·by_cases h2:dG=1/\j<26
   ·rw [zQ h1,zC h2] at hh
    have:=congrArg List.length (tV hh)
    rw [lL] at this
    simp at this;omega
   ·rw [zQ h1,zQ h2] at hh
    have e:=tV hh
    have a0:=L0 i
    rw [e,L0 j] at a0
    have aq:=Lq i
    rw [e,Lq j] at aq
    injection a0 with a0
    injection aq with aq
    have b0:=HQ _ (jS _ (by decide)) _ (jS _ (by decide)) a0
    have bq:=Vs _ (jS _ (by decide)) _ (jS _ (by decide)) aq
    omega
 ·show (if _ then _ else _:Str).length<=1000
  split
  ·rw [GD];simp
  ·rw [GD,lL];omega
 ·have A:∀{X:Res Fl},Gb [sI c,sI k,some (.str dF),sI dG,none,none] st=X->x8 [sI c,sI k,none,none,none,none] st=X:=λh=>zo (zD rfl) (zo (zD (zh rfl (zh (zb rfl) rfl (jI c 8 (by decide))) ((gR 1 _).trans (by rw [es])))) h)
  by_cases h1:dG=1/\k<26
  ·refine ⟨st,zR rfl (A (jH (yG (wu (zO (zh (zb rfl) rfl (br true (by simp;omega) _))) (zO (zh (zb rfl) rfl (gQ true (by simp;omega) _)))) (zS ?_)))),Old.refl _⟩
   rw [zC h1]
   exact zh (zb rfl) (zh (zh (zh (zb rfl) rfl (wm c 8 (by decide) (by decide))) (zb rfl) (gR _ _)) rfl (jI _ 26 (by decide))) (AH _ (jS _ (by decide)) st).1
  ·have T3:(ju (mB (zc zU (za 3) (At 1))) (mB (zc oLt (za 1) (At 26)))) [sI c,sI k,some (.str dF),sI dG,none,none] st=.ok false st:=by
    by_cases h2:dG=1
    ·exact wu (zO (zh (zb rfl) rfl (br true (by simp;omega) _))) (zO (zh (zb rfl) rfl (gQ false (by simp;omega) _)))
    ·exact gO (zO (zh (zb rfl) rfl (br false (by simp;omega) _)))
   have mx:ma [.int (dG:Int),.int 2] st=.ok (.int (s2:Int)) st:=by
    show Res.ok (PV.int (if (2:Int)>(dG:Int) then 2 else (dG:Int))) st=_
    split
    ·congr 2;omega
    ·congr 2;omega
   have bo:yd (.str dF) (.str "0123456789") st=.ok (.str both) st:=ad _ _ (by decide +kernel) st
   have B:∀{X:Res Fl},Ga [sI c,sI k,some (.str dF),sI s2,some (.str both),none] st=X->x8 [sI c,sI k,none,none,none,none] st=X:=λh=>A (zo (zZ T3) (zo (zD (zy (zF (zb rfl) rfl) mx)) (zo (zD (zh (zb rfl) rfl bo)) h)))
   obtain ⟨ys,s1,C1,hy,hs⟩:=qH (fe:=(zc zk (za 5) (zc yx (zc yd (zc yd (zc yV (za 1) (At 1024)) (zc yI (zc yI (za 2) (za 2)) (za 0))) (zc yI (za 0) (za 0))) (At 36)))) (fs:=(zf (za 3) zj)) (env:=[sI c,sI k,some (.str dF),sI s2,some (.str both),none]) (st:=st) s2 (by omega) (zE (zb rfl)) (λi ys s=>ys=((List.range i).map λj=>dW ((c/1024+k*k*j+j*j)%36)).map (λc=>PV.str ⟨#[c]⟩)/\s=st) (λi ys s hi ⟨g1,g2⟩=>⟨.str ⟨#[dW ((c/1024+k*k*i+i*i)%36)]⟩,s,zh (zb rfl) (zh (zh (zh (zh (zb rfl) rfl (wm c 1024 (by decide) (by decide))) (zh (zh (zb rfl) (zb rfl) (qJ k k (.inl (by omega)))) (zb rfl) (qJ _ i (.inr (by omega)))) (gR _ _)) (zh (zb rfl) (zb rfl) (qJ i i (.inl (by omega)))) (gR _ _)) rfl (jI _ 36 (by decide))) (Bu _ (jS _ (by decide)) s),by rw [g1,hW,ja,ja];rfl,g2⟩) ⟨rfl,rfl⟩
   subst hs
   have key:∃sA r,(zT (mB (zc zU (zc yx (zc yV (za 0) (At 8)) (At 2)) (At 0))) (zB 5 (y9 (cf (zf (za 3) zj)) (zc zk (za 5) (zc yx (zc yd (zc yV (za 1) (At 1024)) (zc yI (za 0) (za 0))) (At 36))))) zW) [sI c,sI k,some (.str dF),sI s2,some (.str both),sR s1.length] (s1++[.lst ys])=.ok (.nx [sI c,sI k,some (.str dF),sI s2,some (.str both),sR r]) sA/\sA[r]?=some (.lst (((List.range s2).map (G k)).map λc=>PV.str ⟨#[c]⟩))/\Old s1 sA/\s1.length<=r:=by
    by_cases h0:c/8%2=0
    ·obtain ⟨zs,s3,C2,hz,hs⟩:=qH (fe:=(zc zk (za 5) (zc yx (zc yd (zc yV (za 1) (At 1024)) (zc yI (za 0) (za 0))) (At 36)))) (fs:=(zf (za 3) zj)) (env:=[sI c,sI k,some (.str dF),sI s2,some (.str both),sR s1.length]) (st:=s1++[.lst ys]) s2 (by omega) (zE (zb rfl)) (λi zs s=>zs=((List.range i).map λj=>dW ((c/1024+j*j)%36)).map (λc=>PV.str ⟨#[c]⟩)/\s=s1++[.lst ys]) (λi zs s hi ⟨g1,g2⟩=>⟨.str ⟨#[dW ((c/1024+i*i)%36)]⟩,s,zh (zb rfl) (zh (zh (zh (zb rfl) rfl (wm c 1024 (by decide) (by decide))) (zh (zb rfl) (zb rfl) (qJ i i (.inl (by omega)))) (gR _ _)) rfl (jI _ 36 (by decide))) (Bu _ (jS _ (by decide)) s),by rw [g1,hW,ja,ja];rfl,g2⟩) ⟨rfl,rfl⟩
     refine ⟨s3++[.lst zs],s3.length,yG (zO (zh (zh (zh (zb rfl) rfl (wm c 8 (by decide) (by decide))) rfl (jI _ 2 (by decide))) rfl (br true (by rw [h0];decide) _))) (zD C2),?_,?_,?_⟩
     ·rw [zV,hz]
      have:G k=λj=>dW ((c/1024+j*j)%36):=funext λj=>zC h0
      rw [this]
     ·rw [hs];exact (zI _ _).trans (zI _ _)
     ·rw [hs];simp
    ·refine ⟨s1++[.lst ys],s1.length,zZ (zO (zh (zh (zh (zb rfl) rfl (wm c 8 (by decide) (by decide))) rfl (jI _ 2 (by decide))) rfl (br false (by simp;omega) _))),?_,zI _ _,zM _⟩
     rw [zV,hy]
     have:G k=λj=>dW ((c/1024+k*k*j+j*j)%36):=funext λj=>zQ h0
     rw [this]
   obtain ⟨sA,r,K1,hr,oA,WJ⟩:=key
   have oS:∀{sX:aa} (so:SO),Old s1 sX->Old s1 (sX.set r so):=λso o n x e=>by rw [yJ (by have:=zP e;omega)];exact o n x e
   have P1:=gn (fo:=za 5) (fi:=(At 0)) (fv:=(zc zk (za 2) (zc yx (zc yd (zc yV (za 0) (At 64)) (zc yV (za 1) (At 36))) (At 26)))) (e:=[sI c,sI k,some (.str dF),sI s2,some (.str both),sR r]) (i:=0) (zh (zb rfl) (zh (zh (zh (zb rfl) rfl (wm c 64 (by decide) (by decide))) (zh (zb rfl) rfl (wm k 36 (by decide) (by decide))) (gR _ _)) rfl (jI _ 26 (by decide))) (AH _ (jS _ (by decide)) sA).1) (zb rfl) rfl hr (by simp;omega)
   have Bt:=yz (l:=sA) (i:=r) (a:=SO.lst ((((List.range s2).map (G k)).map λc=>PV.str ⟨#[c]⟩).set 0 (.str ⟨#[jX ((c/64+k/36)%26)]⟩))) (zP hr)
   have sm:(s2:Int)-1=((s2-1:Nat):Int):=by omega
   have P2:=gn (fo:=za 5) (fi:=(zc yd (At 1) (zc yx (zc yV (za 0) (At 16)) (zc jU (za 3) (At 1))))) (fv:=(zc zk (za 4) (zc yx (zc yd (zc yV (za 0) (At 256)) (za 1)) (At 36)))) (e:=[sI c,sI k,some (.str dF),sI s2,some (.str both),sR r]) (i:=1+q) (zh (zb rfl) (zh (zh (zh (zb rfl) rfl (wm c 256 (by decide) (by decide))) (zb rfl) (gR _ _)) rfl (jI _ 36 (by decide))) (Bu _ (jS _ (by decide)) _)) (zb rfl) (zh rfl (zh (zh (zb rfl) rfl (wm c 16 (by decide) (by decide))) (zh (zb rfl) rfl ((wV _ _).trans (by rw [sm]))) ((jI _ (s2-1) (by omega)).trans (by rw [eq]))) (gR 1 _)) Bt (by simp;omega)
   have HR:=yz (l:=sA.set r (SO.lst ((((List.range s2).map (G k)).map λc=>PV.str ⟨#[c]⟩).set 0 (.str ⟨#[jX ((c/64+k/36)%26)]⟩)))) (i:=r) (a:=SO.lst (((((List.range s2).map (G k)).map λc=>PV.str ⟨#[c]⟩).set 0 (.str ⟨#[jX ((c/64+k/36)%26)]⟩)).set (1+q) (.str ⟨#[dW ((c/256+k)%36)]⟩))) (by rw [List.length_set];exact zP hr)
   have eL:((((List.range s2).map (G k)).map λc=>PV.str ⟨#[c]⟩).set 0 (.str ⟨#[jX ((c/64+k/36)%26)]⟩)).set (1+q) (.str ⟨#[dW ((c/256+k)%36)]⟩)=(L k).map λc=>PV.str ⟨#[c]⟩:=by
    show _=(List.set (List.set _ _ _) _ _).map _
    rw [List.map_set,List.map_set]
   rw [eL] at HR P2
   have J:=HI (z := "") (fa:=za 5) (e:=[sI c,sI k,some (.str dF),sI s2,some (.str both),sR r]) (zb rfl) HR (AJ (L k)) (by rw [Br,GG,lL];omega)
   rw [HH] at J
   have Z:=zR (m:=2) (n:=6) (xs:=[.int (c:Int),.int (k:Int)]) rfl (B (zo (zD C1) (zo K1 (zo P1 (zo P2 (zS J))))))
   rw [zQ h1]
   exact ⟨_,Z,oS _ (oS _ oA)⟩
def cl (c:Int):Int:=jj c 2305843009213693951
def cell (cs:List Int) (i:Nat):Int:=if 0<cs.length then (cs[(jj (i:Int) cs.length).toNat]?).getD 0 else 1
def HS (cs:List Int) (i:Nat):Int:=jj (jj (cell cs i) 2147483629*(2*(i:Int)+1)+wF (cell cs i) 65537+7919*(i:Int)*(i:Int)) 2147483647
def dk (ns:List Int):List Int:=(List.range 180).map (HS ((ns.take 180).map cl))
def Vu (ns:List Int) (st:aa):∃d s1,x6 [.frl (ns.map PV.int)] st=.ok (.ref d) s1/\Dc d (dk ns) s1/\Old st s1/\st.length<=d:=by
 have qU:cX (ns.map PV.int) none (some 180)=(ns.take 180).map PV.int:=by
  unfold cX
  simp [HT.sIx]
 let a:=st++[SO.lst ((ns.take 180).map PV.int)]
 obtain ⟨ys,s1,C,hy,hs⟩:=GC (fe:=(zc yx (za 0) (At 2305843009213693951))) (env:=[some (.frl (ns.map PV.int)),none,none,none,none,none]) (n:=st.length) ((ns.take 180).map PV.int) (λi ys s=>ys=(((ns.take 180).take i).map cl).map PV.int/\s=a) (λi ys s h=>by rw [h.2];exact zV _ _) (λi x ys s hx ⟨h1,h3⟩=>by
  rw [jd] at hx
  cases e:(ns.take 180)[i]? with
  |none=>rw [e] at hx;cases hx
  |some c =>
   rw [e] at hx
   cases hx
   exact ⟨.int (jj c 2305843009213693951),s,zh (zb rfl) rfl (iU _ _ (by decide)),by rw [h1,gv e,ja,ja];rfl,h3⟩) ((ns.take 180).map PV.int).length 0 (lim+1) [] a (by omega) (by simp [lim];omega) ⟨rfl,rfl⟩
 subst hs
 rw [jD,List.take_length] at hy
 obtain ⟨cs,ko⟩:∃cs,cs=(ns.take 180).map cl:=⟨_,rfl⟩
 rw [<-ko] at hy
 have C2:(y9 (yt (lV (za 0) fB (dC (At 180)))) (zc yx (za 0) (At 2305843009213693951))) [some (.frl (ns.map PV.int)),none,none,none,none,none] st=.ok (.ref a.length) (a++[.lst ys]):=by
  rw [nY,iK,xQ (zb rfl) xS (xR rfl) (DX ..),qU]
  simp only [zL,iI]
  rw [yv (zV _ _)]
  exact C
 have hl:cs.length<=180:=by rw [ko];simp;omega
 let b:=a++[SO.lst ys]
 have hb:(b++[SO.lst []])[a.length]?=some (.lst (cs.map PV.int)):=by rw [<-hy];exact zI _ _ _ _ (zV _ _)
 obtain ⟨e',s',F,⟨z3,z4,z5,he⟩,h1,h2,h3⟩:=AK (gt:=gN 3) (body:=(zp (zB 4 (At 1))
  (zp (zT (mB (zc j8 (zq yo (zf (za 1) zj)) (At 0)))
  (zB 4 (zc zk (za 1) (zc yx (za 3) (zq yo (zf (za 1) zj)))))
  zW)
  (zp (zB 5 (zc yI (zc yx (za 4) (At 2147483629)) (zc yd (zc yI (At 2) (za 3)) (At 1))))
  (yK (yS yY (za 2) (zc yx (zc yd (zc yd (za 5) (zc yV (za 4) (At 65537))) (zc yI (zc yI (At 7919) (za 3)) (za 3))) (At 2147483647)))))))) (fs:=(zf (At 180) zj)) (e:=[some (.frl (ns.map PV.int)),sR a.length,sR b.length,none,none,none]) (st:=b++[.lst []])
  (λi e s=>(∃z3 z4 z5,e=[some (.frl (ns.map PV.int)),sR a.length,sR b.length,z3,z4,z5])/\s[a.length]?=some (.lst (cs.map PV.int))/\s[b.length]?=some (.lst (((List.range i).map (HS cs)).map PV.int))/\Kx [b.length] (b++[.lst []]) s) 180 (by decide) rfl (λi e s hi ⟨⟨z3,z4,z5,he⟩,h1,h2,h3⟩=>by
   subst he
   obtain ⟨c,hc⟩:∃c,c=cell cs i:=⟨_,rfl⟩
   have K:(zT (mB (zc j8 (zq yo (zf (za 1) zj)) (At 0))) (zB 4 (zc zk (za 1) (zc yx (za 3) (zq yo (zf (za 1) zj))))) zW) [some (.frl (ns.map PV.int)),sR a.length,sR b.length,sI i,some (.int 1),z5] s=.ok (.nx [some (.frl (ns.map PV.int)),sR a.length,sR b.length,sI i,some (.int c),z5]) s:=by
    have L:=bp h1
    rw [jD] at L
    by_cases h0:0<cs.length
    ·obtain ⟨k,hk,ek⟩:=dX (i:Int) cs.length h0
     have g:cQ (cs.map PV.int) (k:Int)=some (.int (cs[k]'hk)):=bu (by rw [jd,yi hk];rfl)
     have ck:c=cs[k]'hk:=by
      rw [hc];unfold cell;rw [zC h0,ek];show (cs[k]?).getD 0=_;rw [yi hk];rfl
     rw [ck]
     exact yG (zO (zh (zy (zE (zb rfl)) L) rfl (fj true (by simp;omega) _))) (zD (zh (zb rfl) (zh (zb rfl) (zy (zE (zb rfl)) L) ((iU _ _ (by omega)).trans (by rw [ek]))) (by rw [nX,yv h1,g];rfl)))
    ·have ck:c=1:=by rw [hc];unfold cell;rw [zQ h0]
     rw [ck]
     exact zZ (zO (zh (zy (zE (zb rfl)) L) rfl (fj false (by rw [decide_eq_false_iff_not];omega) _)))
   refine ⟨[some (.frl (ns.map PV.int)),sR a.length,sR b.length,sI i,z4,z5],_,_,rfl,zo (zD rfl) (zo K (zo (zD (zh (zh (zb rfl) rfl (iU _ _ (by decide))) (zh (zh rfl (zb rfl) (gu _ _ (by simp [cV]))) rfl (wU _ _)) (gu _ _ (by simp only [cV,Bool.or_eq_true,wB,m8];exact .inr ⟨by omega,by omega⟩)))) (wg (wH (zb rfl) h2 (zh (zh (zh (zb rfl) (zh (zb rfl) rfl (xT _ _ (by decide) (by decide))) (wU _ _)) (zh (zh rfl (zb rfl) (gu _ _ (by simp [cV]))) (zb rfl) (gu _ _ (by simp only [cV,Bool.or_eq_true,wB,m8];exact .inr ⟨by omega,by omega⟩))) (wU _ _)) rfl (iU _ _ (by decide))) (by rw [El,yv h2,zC (by simp [lim];omega)]))))),⟨_,_,_,rfl⟩,?_,?_,h3.trans (yZ (by simp))⟩
   ·rw [yJ (by simp [b])]
    exact h1
   ·rw [yz (zP h2),hW,ja,ja,hc]
    rfl) ⟨⟨none,none,none,rfl⟩,hb,zV _ _,Kx.refl _ _⟩
 subst he
 rw [ko] at h2
 exact ⟨b.length,s',zR rfl (zo (zD C2) (zo (zD (jm jQ (by simp))) (zo F (zS (zb rfl))))),h2,λm so e=>h3 m so (by have:=zP e;simp [b,a];omega) (zI _ _ _ _ (zI _ _ _ _ (zI _ _ _ _ e))),by simp [b,a]⟩
def mT:Ae:=["add2", "sub2", "mul2", "div2", "rem2", "less2", "down1", "front2", "head1", "rest1", "many1", "item2", "put3", "field2", "set3", "same2", "kind1", "same2", "kind1", "same2", "kind1", "same2"]
def opt (k:Nat):Str:=(mT[k]?).getD ""
def qV (k:Nat):Nat:=((opt k).cps.toList.getLast?).getD 0
def kg (k:Nat):Nat:=qV k-48
def oG (k:Nat):Str:=Txt.slice (opt k) none (some (-1))
def HU:∀k,k<22->mT[k]?=some (opt k)/\(opt k).length<=10/\cQ (opt k).cps.toList (-1)=some (qV k)/\PySem.intText? ⟨#[qV k]⟩=some ((kg k:Nat):Int)/\(1<=kg k/\kg k<=3/\oG k∈j3):=by decide +kernel
def Vv (k:Nat) (hk:k<22) (st:aa):∃s1,sV [.int (k:Int)] st=.ok (.tup [.str (oG k),.int (kg k:Int)]) s1/\Old st s1:=by
 obtain ⟨f1,f2,f3,f4,f5⟩:=HU k hk
 let a:Ae:=["add2", "sub2", "mul2", "div2", "rem2", "less2", "down1", "front2", "head1", "rest1", "many1"]
 let b:Ae:=["item2", "put3", "field2", "set3", "same2", "kind1", "same2", "kind1", "same2", "kind1", "same2"]
 let s1:=st++[SO.lst (a.map PV.str)]
 let s2:=s1++[SO.lst (b.map PV.str)]
 have Vw:yd (.ref st.length) (.ref s1.length) s2=.ok (.ref s2.length) (s2++[.lst (mT.map PV.str)]):=by
  have h1:s2[st.length]?=some (.lst (a.map PV.str)):=zI _ _ _ _ (zV _ _)
  have h2:s2[s1.length]?=some (.lst (b.map PV.str)):=zV _ _
  show yq s2 st.length _=_
  rw [yv h1,yv h2]
  exact zC (by simp [a,b,lim])
 have top:=zV s2 (SO.lst (mT.map PV.str))
 have ix:zk (.ref s2.length) (.int (k:Int)) (s2++[.lst (mT.map PV.str)])=.ok (.str (opt k)) (s2++[.lst (mT.map PV.str)]):=by
  rw [nX,yv top,bu (x:=PV.str (opt k)) (by rw [jd,f1];rfl)]
  rfl
 have E:∀s:aa,pO (.str (opt k)) none (some (-1)) s=.ok (.str (oG k)) s:=λs=>by
  show (if (opt k).length<=lim then _ else _)=_
  rw [zC (by simp [lim];omega)]
  rfl
 have F:∀s:aa,zk (.str (opt k)) (.int (-1)) s=.ok (.str ⟨#[qV k]⟩) s:=λs=>by
  rw [xC,zC (by simp [lim];omega),f3]
  rfl
 have I:∀s:aa,ql [.str ⟨#[qV k]⟩] s=.ok (.int (kg k:Int)) s:=λs=>by
  unfold ql
  simp only [f4]
  rw [zC (by show 1<=640;decide)]
 exact ⟨s2++[.lst (mT.map PV.str)],zR rfl (zo (zD (jm (xs:=a.map PV.str) rfl (by decide))) (zo (zD (zh (zb rfl) (jm (xs:=b.map PV.str) rfl (by decide)) Vw)) (zS (yk (zF (xQ (zh (zb rfl) (zb rfl) ix) xS (xR (wT rfl rfl)) (E _)) (zy (zE (zh (zh (zb rfl) (zb rfl) ix) (wT rfl rfl) (F _))) (I _))) (by simp))))),((zI _ _).trans (zI _ _)).trans (zI _ _)⟩
def pk (k n:Nat):Nat:=if k%3=0 then k/3%n else n-1-k/3%5
def dw (k:Nat) (zs:Ae):Str:=(zs[pk k zs.length]?).getD ""
def HV {zs:Ae}(h:0<zs.length) (k:Nat):zs[pk k zs.length]?=some (dw k zs):=by
 have:pk k zs.length<zs.length:=by
  unfold pk
  split
  ·exact jS _ h
  ·omega
 unfold dw
 rw [yi this]
 rfl
def Bv {zs:Ae}(h:0<zs.length) (k:Nat):dw k zs∈zs:=jR (HV h k)
def uw {zs:Ae}(h:0<zs.length) (k:Nat) {n:Nat}{s:aa}(hn:s[n]?=some (.lst (zs.map PV.str))):my [.int (k:Int),.ref n] s=.ok (.str (dw k zs)) s:=by
 have L:=bp hn
 rw [jD] at L
 have g:cQ (zs.map PV.str) ((pk k zs.length:Nat):Int)=some (.str (dw k zs)):=bu (by rw [jd,HV h];rfl)
 have ix:zk (.ref n) (.int ((pk k zs.length:Nat):Int)) s=.ok (.str (dw k zs)) s:=by rw [nX,yv hn,g];rfl
 have M:(zc yx (za 0) (At 3)) [sI k,sR n] s=.ok (.int ((k%3:Nat):Int)) s:=zh (zb rfl) rfl (jI k 3 (by decide))
 by_cases c:k%3=0
 ·have e:pk k zs.length=k/3%zs.length:=zC c
  rw [e] at ix
  exact zR rfl (jH (yG (zO (zh M rfl (br true (by rw [c];decide) _))) (zS (zh (zb rfl) (zh (zh (zb rfl) rfl (wm k 3 (by decide) (by decide))) (zy (zE (zb rfl)) L) (jI _ _ h)) ix))))
 ·have e:pk k zs.length=zs.length-1-k/3%5:=zQ c
  rw [e] at ix
  have mx:∀st:aa,ma [.int 0,.int ((zs.length:Int)-1-((k/3%5:Nat):Int))] st=.ok (.int ((zs.length-1-k/3%5:Nat):Int)) st:=λst=>by
   show Res.ok (PV.int (if (zs.length:Int)-1-((k/3%5:Nat):Int)>(0:Int) then (zs.length:Int)-1-((k/3%5:Nat):Int) else 0)) st=_
   split
   ·congr 2;omega
   ·congr 2;omega
  exact zR rfl (zo (zZ (zO (zh M rfl (br false (by simp;omega) _)))) (zS (zh (zb rfl) (zy (zF rfl (zh (zh (zy (zE (zb rfl)) L) rfl (wV _ _)) (zh (zh (zb rfl) rfl (wm k 3 (by decide) (by decide))) rfl (jI _ 5 (by decide))) (wV _ _))) (mx _)) ix)))
def Vx {f:Ak}{e:ze}{x:PV}{z:Str}{s:aa}(h:∀s,f e s=.ok x s):sF [z] [f] e s=.ok (.ref s.length) (s++[.dic [z] [x]]):=by
 unfold sF
 simp only [sE]
 rw [h,zL,zL,zL,zV,zC (show eI (some (SO.dic [] []))=true from rfl)]
 show Res.ok _ ((s++[SO.dic [] []]).set s.length (.dic [z] [x]))=_
 rw [mK]
def HW (k:Nat):∃t,∀st,∃v s1,oj [.int (k:Int)] st=.ok v s1/\Old st s1/\TR s1 s1.length 2 st.length t v:=by
 let V:aa->Aq:=λst=>[.int (((k%1999:Nat):Int)-999),.str "word", .tup [],.tup [.int ((k%7:Nat):Int),.str "a"],.ref st.length,.ref (st++[SO.dic [] []]).length,.int (1000000000000000000-1),.int 0]
 let s2:aa->aa:=λst=>(st++[SO.dic [] []])++[SO.dic ["a"] [.int ((k%9:Nat):Int)]]
 let s3:aa->aa:=λst=>s2 st++[.lst (V st)]
 have T:∀st,∃v,oj [.int (k:Int)] st=.ok v (s3 st)/\(V st)[k/1999%8]?=some v:=λst=>by
  have hk:k/1999%8<(V st).length:=jS _ (by decide)
  have hv:=yi hk
  refine ⟨_,zR rfl (zo (zD (jm (xs:=V st) (wb (zh (zh (zb rfl) rfl (jI k 1999 (by decide))) rfl (wV _ _)) (wb rfl (wb (yk jQ (by simp)) (wb (yk (zF (zh (zb rfl) rfl (jI k 7 (by decide))) rfl) (by simp)) (wb rfl (wb (Vx λs=>zh (zb rfl) rfl (jI k 9 (by decide))) (wb (zh (zh rfl rfl (Bq _)) rfl (wV _ _)) (zE rfl)))))))) (by simp [V]))) (zS (zh (zb rfl) (zh (zh (zb rfl) rfl (wm k 1999 (by decide) (by decide))) rfl (jI _ 8 (by decide))) (by rw [nX,yv (zV _ _),bu hv];rfl)))),hv⟩
 have o:∀st,Old st (s3 st):=λst=>((zI _ _).trans (zI _ _)).trans (zI _ _)
 have d0:∀st,(s3 st)[st.length]?=some (.dic [] []):=λst=>zI _ _ _ _ (zI _ _ _ _ (zV _ _))
 have d1:∀st,(s3 st)[(st++[SO.dic [] []]).length]?=some (.dic ["a"] [.int ((k%9:Nat):Int)]):=λst=>zI _ _ _ _ (zV _ _)
 have hk:k/1999%8<8:=jS _ (by decide)
 generalize hj:k/1999%8=j at *
 match j,hk with
 |0,_=>exact ⟨.num _,λst=>by obtain ⟨v,E,hv⟩:=T st;cases hv;exact ⟨_,_,E,o st,rfl⟩⟩
 |1,_=>exact ⟨.word _,λst=>by obtain ⟨v,E,hv⟩:=T st;cases hv;exact ⟨_,_,E,o st,rfl⟩⟩
 |2,_=>exact ⟨.row [],λst=>by obtain ⟨v,E,hv⟩:=T st;cases hv;exact ⟨_,_,E,o st,[],rfl,rfl,by simp,λi t x h=>by simp at h⟩⟩
 |3,_=>exact ⟨.row [.num ((k%7:Nat):Int),.word "a"],λst=>by
   obtain ⟨v,E,hv⟩:=T st
   cases hv
   exact ⟨_,_,E,o st,_,rfl,rfl,by simp,(Rl.cons.mpr ⟨rfl,Rl.cons.mpr ⟨rfl,Rl.nil⟩⟩:Rl (TR (s3 st) (s3 st).length 1 st.length) [.num ((k%7:Nat):Int),.word "a"] [.int ((k%7:Nat):Int),.str "a"]).2⟩⟩
 |4,_=>exact ⟨.rec_ [] [],λst=>by
   obtain ⟨v,E,hv⟩:=T st
   cases hv
   exact ⟨_,_,E,o st,_,_,rfl,zM _,zP (d0 st),d0 st,by simp,rfl,rfl,by simp,λi t x h=>by simp at h⟩⟩
 |5,_=>exact ⟨.rec_ ["a"] [.num ((k%9:Nat):Int)],λst=>by
   obtain ⟨v,E,hv⟩:=T st
   cases hv
   exact ⟨_,_,E,o st,_,_,rfl,by simp,zP (d1 st),d1 st,by simp,rfl,rfl,by simp,(Rl.cons.mpr ⟨rfl,Rl.nil⟩:Rl (TR (s3 st) (s3 st).length 1 ((st++[SO.dic [] []]).length+1)) [.num ((k%9:Nat):Int)] [.int ((k%9:Nat):Int)]).2⟩⟩
 |6,_=>exact ⟨.num _,λst=>by obtain ⟨v,E,hv⟩:=T st;cases hv;exact ⟨_,_,E,o st,rfl⟩⟩
 |7,_=>exact ⟨.num _,λst=>by obtain ⟨v,E,hv⟩:=T st;cases hv;exact ⟨_,_,E,o st,rfl⟩⟩
inductive Ad where
 |of (z:Str)
 |is (t:Tr)
def dM (s:aa) (hi lo:Nat):Ad->PV->Prop
 |.of z,v=>v=bE z
 |.is t,v=>∃x,v=gY x/\TR s hi 4 lo t x
theorem dM.mono {s s':aa}{hi hi' lo fE:Nat}{a:Ad}{v:PV}(h:dM s hi lo a v) (hh:hi<=hi') (hl:fE<=lo) (ag:Ag lo s s'):dM s' hi' fE a v:=by
 cases a with
 |of z=>exact h
 |is t=>obtain ⟨x,e,t⟩:=h;exact ⟨x,e,t.mono hh (zM _) hl ag⟩
def nb (a:Nat):Nat->Nat
 |0=>a
 |i+1=>(nb a i*48271+11)%2147483647
def HX (a:Nat) (zs:Ae) (m:Nat) (h0:0<zs.length) (hm:1<=m/\m<=3):∃D:List Ad,(D.length=m/\(∃x,Ad.of x∈D)/\∀x,Ad.of x∈D->x∈zs)/\∀(n:Nat) (st:aa),st[n]?=some (.lst (zs.map PV.str))->∃xs s1,qv [.int (a:Int),.ref n,.int (m:Int)] st=.ok (.tup xs) s1/\Old st s1/\Rl (dM s1 s1.length st.length) D xs:=by
 have Bw:∃T:Nat->Tr,∀k:Nat,∀st,∃v s1,oj [.int (k:Int)] st=.ok v s1/\Old st s1/\TR s1 s1.length 2 st.length (T k) v:=⟨λk=>(HW k).choose,λk=>(HW k).choose_spec⟩
 obtain ⟨T,hT⟩:=Bw
 let f:Nat->Ad:=λi=>if i=a%m\/nb a (i+1)%5=1 then .of (dw (nb a (i+1)/5) zs) else .is (T (nb a (i+1)/5))
 refine ⟨(List.range m).map f,⟨by simp,⟨dw (nb a (a%m+1)/5) zs,wC.mpr ⟨a%m,m7.mpr (jS _ (by omega)),zC (.inl rfl)⟩⟩,λx hx=>?_⟩,λn st hn=>?_⟩
 ·obtain ⟨i,_,e⟩:=wC.mp hx
  have e:(if i=a%m\/nb a (i+1)%5=1 then Ad.of (dw (nb a (i+1)/5) zs) else .is (T (nb a (i+1)/5)))=.of x:=e
  split at e
  ·cases e;exact Bv h0 _
  ·cases e
 have WK:=zP hn
 obtain ⟨e',s',F,⟨z5,he⟩,ys,h1,h2,h3⟩:=AK (gt:=gN 5) (body:=(zp (zB 0 (zc yx (zc yd (zc yI (za 0) (At 48271)) (At 11)) (At 2147483647)))
  (zT (jL (mB (zc zU (za 5) (za 4))) (mB (zc zU (zc yx (za 0) (At 5)) (At 1))))
  (yK (yS yY (za 3) (yg (zf (Au "of") (zf (zq my (zf (zc yV (za 0) (At 5)) (zf (za 1) zj))) zj)))))
  (yK (yS yY (za 3) (yg (zf (Au "is") (zf (zq oj (zf (zc yV (za 0) (At 5)) zj)) zj)))))))) (fs:=(zf (za 2) zj)) (e:=[sI a,sR n,sI m,sR st.length,some (.int ((a%m:Nat):Int)),none]) (st:=st++[.lst []])
  (λi e s=>(∃z5,e=[some (.int (nb a i:Int)),sR n,sI m,sR st.length,some (.int ((a%m:Nat):Int)),z5])/\∃ys,s[st.length]?=some (.lst ys)/\Rl (dM s s.length st.length) ((List.range i).map f) ys/\Old st s/\st.length<s.length) m (by omega) (zE (zb rfl)) (λi e s hi ⟨⟨z5,he⟩,ys,h1,h2,h3,h4⟩=>by
   subst he
   have hy:ys.length=i:=by rw [h2.1];simp
   have S0:∀z5,(zB 0 (zc yx (zc yd (zc yI (za 0) (At 48271)) (At 11)) (At 2147483647))) [some (.int (nb a i:Int)),sR n,sI m,sR st.length,some (.int ((a%m:Nat):Int)),z5] s=.ok (.nx [some (.int (nb a (i+1):Int)),sR n,sI m,sR st.length,some (.int ((a%m:Nat):Int)),z5]) s:=λz5=>zD (zh (zh (zh (zb rfl) rfl (qJ _ 48271 (.inr (by decide)))) rfl (gR _ 11)) rfl (jI _ 2147483647 (by decide)))
   have T5:∀b:Bool,decide (nb a (i+1)%5=1)=b->(mB (zc zU (zc yx (za 0) (At 5)) (At 1))) [some (.int (nb a (i+1):Int)),sR n,sI m,sR st.length,some (.int ((a%m:Nat):Int)),sI i] s=.ok b s:=λb h=>zO (zh (zh (zb rfl) rfl (jI _ 5 (by decide))) rfl (br b (by rw [<-h];exact decide_eq_decide.mpr (by omega)) _))
   have T4:∀b:Bool,decide (i=a%m)=b->(mB (zc zU (za 5) (za 4))) [some (.int (nb a (i+1):Int)),sR n,sI m,sR st.length,some (.int ((a%m:Nat):Int)),sI i] s=.ok b s:=λb h=>zO (zh (zb rfl) (zb rfl) (br b (by rw [<-h];exact decide_eq_decide.mpr (by omega)) _))
   have fin:∀{s':aa} {x:Ad} {v:PV},Old s s'->dM s' s'.length st.length x v->s'[st.length]?=some (.lst ys)/\Rl (dM (s'.set st.length (.lst (ys++[v]))) (s'.set st.length (.lst (ys++[v]))).length st.length) ((List.range i).map f++[x]) (ys++[v])/\Old st (s'.set st.length (.lst (ys++[v]))):=λ{s' x v} o hx=>by
    have g:=o _ _ h1
    have ag:∀lo,Ag lo s' (s'.set st.length (.lst (ys++[v]))):=λlo=>U_ (yZ (by simp)) g
    have ll:s.length<=s'.length:=by
     rcases Nat.lt_or_ge s'.length s.length with q|q
     ·have:=zP (o s'.length _ (yi q));omega
     ·exact q
    refine ⟨g,(h2.imp λt x h=>(h.mono ll (zM _) (Old.ag o)).mono (by simp) (zM _) (ag _)).snoc (hx.mono (by simp) (zM _) (ag _)),λq so e=>?_⟩
    have:=zP e
    rw [yJ (by omega)]
    exact o _ _ (h3 _ _ e)
   have er:(List.range (i+1)).map f=(List.range i).map f++[f i]:=by rw [hW,ja];rfl
   rw [er]
   by_cases c:i=a%m\/nb a (i+1)%5=1
   ·have ef:f i=.of (dw (nb a (i+1)/5) zs):=zC c
    rw [ef]
    have pp:=uw h0 (nb a (i+1)/5) (h3 _ _ hn)
    obtain ⟨g,r,o⟩:=fin (x:=.of (dw (nb a (i+1)/5) zs)) (Old.refl _) rfl
    refine ⟨_,_,_,rfl,zo (S0 _) (yG ?_ (wg (wH (zb rfl) h1 (yk (zF rfl (zy (zF (zh (zb rfl) rfl (wm _ 5 (by decide) (by decide))) (zb rfl)) pp)) (by simp)) (gw g (by omega))))),⟨_,rfl⟩,_,yz (zP g),r,o,by simp;exact h4⟩
    by_cases c1:i=a%m
    ·exact n_ (T4 true (wq c1))
    ·exact gr (T4 false (jo c1)) (T5 true (wq (c.resolve_left c1)))
   ·have ef:f i=.is (T (nb a (i+1)/5)):=zQ c
    rw [ef]
    obtain ⟨v,s2,E2,o2,t2⟩:=hT (nb a (i+1)/5) s
    obtain ⟨g,r,o⟩:=fin (x:=.is (T (nb a (i+1)/5))) (v:=gY v) o2 ⟨v,rfl,t2.mono (zM _) (by decide) (by omega) (Ag.refl _ _)⟩
    exact ⟨_,_,_,rfl,zo (S0 _) (sO (gr (T4 false (jo λh=>c (.inl h))) (T5 false (jo λh=>c (.inr h)))) (wg (wH (zb rfl) h1 (yk (zF rfl (zy (zE (zh (zb rfl) rfl (wm _ 5 (by decide) (by decide)))) E2)) (by simp)) (gw g (by omega))))),⟨_,rfl⟩,_,yz (zP g),r,o,by simp;exact zP g⟩) ⟨⟨none,rfl⟩,[],zV _ _,Rl.nil,zI _ _,by simp⟩
 subst he
 exact ⟨ys,s',zR rfl (zo (zD (jm jQ (by simp))) (zo (zD (zh (zb rfl) (zb rfl) (jI a m (by omega)))) (zo F (zS (zy (zE (zb rfl)) (by rw [iN,yv h1])))))),h3.1,h2⟩
structure Sd where
 z:Str
 o:Str
 as:List Ad
structure a4 (s:aa) (hi lo:Nat) (d:Sd) (t:St):Prop where
 z:t.z=d.z
 o:t.o=d.o
 as:Rl (dM s hi lo) d.as t.as
theorem a4.mono {s s':aa}{hi hi' lo fE:Nat}{d:Sd}{t:St}(h:a4 s hi lo d t) (hh:hi<=hi') (hl:fE<=lo) (ag:Ag lo s s'):a4 s' hi' fE d t:=⟨h.z,h.o,h.as.imp λ_ _ h=>h.mono hh hl ag⟩
structure qW (zs:Ae) (d:Sd):Prop where
 o:d.o∈j3
 few:d.as.length<=3
 of_:∃x,Ad.of x∈d.as
 kn:∀x,Ad.of x∈d.as->x∈zs
def oH {a b:aa}(o:Old a b):a.length<=b.length:=by
 rcases Nat.lt_or_ge b.length a.length with q|q
 ·have:=zP (o b.length _ (yi q));omega
 ·exact q
def num (x:Int) (k:Nat):Nat:=(jj (x*48271+7919*(k:Int)) 2147483647).toNat
def Vy (x:Int) (k:Nat):jj (x*48271+7919*(k:Int)) 2147483647=(num x k:Int):=by
 obtain ⟨b,_,e⟩:=dX (x*48271+7919*(k:Int)) 2147483647 (by decide)
 have e:jj (x*48271+7919*(k:Int)) 2147483647=(b:Int):=e
 unfold num
 rw [e]
 simp
abbrev cL (nm:Nat->Str) (k:Nat):Ae:=(List.range k).map nm
def qX (nm:Nat->Str) (k:Nat):(cL nm k).length=k:=by simp
def Bx (nm:Nat->Str) (k:Nat):cL nm (k+1)=cL nm k++[nm k]:=by rw [cL,hW,ja];rfl
abbrev bP:Al:=(zp (zB 7 (zc yx (zc yd (zc yI (za 6) (At 48271)) (zc yI (At 7919) (zq yo (zf (za 3) zj)))) (At 2147483647)))
  (zp (kI (g2 8 9) (zq sV (zf (zc yx (za 7) (At 22)) zj)))
  (zp (zB 10 (zq mw (zf (za 2) (zf (zq yo (zf (za 3) zj)) zj))))
  (zp (yK (yS yY (za 5) (yg (zf (Au "let") (zf (za 10) (zf (za 8) (zf (zq qv (zf (zc yV (za 7) (At 22)) (zf (za 3) (zf (za 9) zj)))) zj)))))))
  (yK (yS yY (za 3) (za 10)))))))
abbrev eP (sc ps:PV) (d c N L:Nat) (z6 z7 z8 z9 cx:Ar):ze:=[some sc,sR d,sI c,sR N,some ps,sR L,z6,z7,z8,z9,cx,none,none,none]
def Vz {c:Nat}{nm:Nat->Str}(H:Nm c nm) (xs:List Int) (hx:xs.length<=57) (p:Nat) (h1:1<=p) (h4:p<=4):∃ds:List Sd,(ds.length=xs.length/\(∀(i:Nat) d,ds[i]?=some d->d.z=nm (p+i)/\qW (cL nm (p+i)) d)) /\
  ∀(sc ps:PV) (l:List Int) (d N L r lo:Nat) (z6 z7 z8 z9 cx:Ar) (s:aa),Dc d l s->s[N]?=some (.lst ((cL nm p).map PV.str))->s[L]?=some (.lst [])->s[r]?=some (.lst (xs.map PV.int))->d≠N->d≠L->N≠L->r≠N->r≠L->lo<=s.length ->
   ∃fq kW HY HZ uT ss s1,forR (gN 6) bP r (lim+1) 0 (eP sc ps d c N L z6 z7 z8 z9 cx) s=.ok (.nx (eP sc ps d c N L fq kW HY HZ uT)) s1/\Dc d l s1/\s1[N]?=some (.lst ((cL nm (p+xs.length)).map PV.str))/\s1[L]?=some (.lst (ss.map St.v))/\Rl (a4 s1 s1.length lo) ds ss/\Kx [N,L] s s1:=by
 have By:∃A:Nat->List Str->Nat->List Ad,∀a zs m,0<zs.length->(1<=m/\m<=3)->((A a zs m).length=m/\(∃x,Ad.of x∈A a zs m)/\∀x,Ad.of x∈A a zs m->x∈zs)/\∀(n:Nat) (st:aa),st[n]?=some (.lst (zs.map PV.str))->∃xs s1,qv [.int (a:Int),.ref n,.int (m:Int)] st=.ok (.tup xs) s1/\Old st s1/\Rl (dM s1 s1.length st.length) (A a zs m) xs:=⟨λa zs m=>if h:0<zs.length/\(1<=m/\m<=3) then (HX a zs m h.1 h.2).choose else [],λa zs m h h'=>by
  simp only [dif_pos (show 0<zs.length/\(1<=m/\m<=3) from ⟨h,h'⟩)]
  exact (HX a zs m h h').choose_spec⟩
 obtain ⟨A,hA⟩:=By
 let x_:Nat->Int:=λj=>(xs[j]?).getD 0
 let k_:Nat->Nat:=λj=>num (x_ j) (p+j)
 let f:Nat->Sd:=λj=>⟨nm (p+j),oG (k_ j%22),A (k_ j/22) (cL nm (p+j)) (kg (k_ j%22))⟩
 have ux:∀j,(1<=kg (k_ j%22)/\kg (k_ j%22)<=3/\oG (k_ j%22)∈j3):=λj=>(HU _ (jS _ (by decide))).2.2.2.2
 have H8:=λj=>hA (k_ j/22) (cL nm (p+j)) (kg (k_ j%22)) (by rw [qX];omega) ⟨(ux j).1,(ux j).2.1⟩
 refine ⟨(List.range xs.length).map f,⟨by simp,λi d hd=>?_⟩,λsc ps l d N L r lo z6 z7 z8 z9 cx s hd hN hL hr n1 n2 n3 n4 n5 rG=>?_⟩
 ·rw [jd] at hd
  cases e:(List.range xs.length)[i]? with
  |none=>rw [e] at hd;cases hd
  |some j =>
   rw [e] at hd
   obtain ⟨q1,q2⟩:=yD.mp e
   rw [List.getElem_range] at q2
   subst q2
   cases hd
   obtain ⟨⟨a1,a2,a3⟩,_⟩:=H8 i
   exact ⟨rfl,(ux i).2.2,by show (A _ _ _).length<=3;rw [a1];exact (ux i).2.1,a2,a3⟩
 obtain ⟨e',s',F,⟨fq,kW,HY,HZ,uT,he⟩,_,g2,g3,ss,g4,g5,g6⟩:=qG (g:=gN 6) (body:=bP) (n:=r) (xs.map PV.int) (λi e s1=>(∃z6 z7 z8 z9 cx,e=eP sc ps d c N L z6 z7 z8 z9 cx)/\s1[r]?=some (.lst (xs.map PV.int))/\Dc d l s1/\s1[N]?=some (.lst ((cL nm (p+i)).map PV.str))/\∃ss:List St,s1[L]?=some (.lst (ss.map St.v))/\Rl (a4 s1 s1.length lo) ((List.range i).map f) ss/\Kx [N,L] s s1) (λi e st h=>h.2.1) (λi x e st hxi ⟨⟨z6,z7,z8,z9,cx,he⟩,g1,g2,g3,ss,g4,g5,g6⟩=>by
  subst he
  have hi:=gy hxi
  rw [jD] at hi
  rw [jd] at hxi
  have ex:∃y,xs[i]?=some y/\x=.int y:=by
   cases e:xs[i]? with
   |none=>rw [e] at hxi;cases hxi
   |some y=>rw [e] at hxi;cases hxi;exact ⟨y,rfl,rfl⟩
  obtain ⟨y,ey,rfl⟩:=ex
  have hy:x_ i=y:=by show (xs[i]?).getD 0=y;rw [ey];rfl
  have VA:ss.length=i:=by rw [g5.1];simp
  have L3:=bp g3
  rw [jD,qX] at L3
  have q7:(zB 7 (zc yx (zc yd (zc yI (za 6) (At 48271)) (zc yI (At 7919) (zq yo (zf (za 3) zj)))) (At 2147483647))) (eP sc ps d c N L (some (.int y)) z7 z8 z9 cx) st=.ok (.nx (eP sc ps d c N L (some (.int y)) (some (.int (k_ i:Int))) z8 z9 cx)) st:=zD (zh (zh (zh (zb rfl) rfl (gu _ _ (by simp [cV]))) (zh rfl (zy (zE (zb rfl)) L3) (gu _ _ (by simp [cV]))) (wU _ _)) rfl ((iU _ _ (by decide)).trans (by rw [Vy];show _=Res.ok (PV.int (num (x_ i) (p+i):Int)) st;rw [hy])))
  obtain ⟨s2,E2,o2⟩:=Vv (k_ i%22) (jS _ (by decide)) st
  obtain ⟨s3,E3,o3⟩:=H.at_ (p+i) (by omega) s2
  have uz:=o2.trans o3
  obtain ⟨as,s4,E4,o4,ra⟩:=(H8 i).2 N s3 (uz _ _ g3)
  have o:=uz.trans o4
  have Bz:=o _ _ g4
  have H9:=o _ _ g3
  let t:St:=⟨nm (p+i),oG (k_ i%22),as⟩
  let s5:=s4.set L (.lst (ss.map St.v++[t.v]))
  have BA:s5[N]?=some (.lst ((cL nm (p+i)).map PV.str)):=by rw [yJ (yM n3)];exact H9
  let s6:=s5.set N (.lst ((cL nm (p+i)).map PV.str++[.str (nm (p+i))]))
  have H_:Kx [N,L] s4 s6:=(yZ (by simp)).trans (yZ (by simp))
  have ag:∀lo,Ag lo s4 s6:=λlo m ks ys _ e=>H_ m _ (by
   intro hm
   rcases yE.mp hm with q|q
   ·rw [q,H9] at e;cases e
   ·rw [jJ.mp q,Bz] at e;cases e) e
  have l6:s6.length=s4.length:=by simp [s6,s5]
  have VB:=oH o
  have VU:=oH o4
  have ol:=oH uz
  have WL:lo<=st.length:=by
   rcases Nat.lt_or_ge st.length s.length with q|q
   ·have e:=yi q
    by_cases w:st.length∈[N,L]
    ·rcases yE.mp w with w|w
     ·have:=zP g3;omega
     ·have:=zP g4;rw [jJ.mp w] at *;omega
    ·have:=zP (g6 _ _ w e);omega
   ·omega
  have kp:∀m so,m∉[N,L]->st[m]?=some so->s6[m]?=some so:=λm so hm e=>H_ m so hm (o m so e)
  refine ⟨_,_,_,rfl,zo q7 (zo (TK (zy (zE (zh (zb rfl) rfl (jI _ 22 (by decide)))) E2)) (zo (zD (zy (zF (zb rfl) (zy (zE (zb rfl)) (by have L:=bp (o2 _ _ g3);rw [jD,qX] at L;exact L))) E3)) (zo (wg (wH (zb rfl) (uz _ _ g4) (yk (gT rfl (zb rfl) (zb rfl) (zy (jY (zh (zb rfl) rfl (wm _ 22 (by decide) (by decide))) (zb rfl) (zb rfl)) E4)) (by simp)) (gw Bz (by simp;omega)))) (wg (wH (zb rfl) BA (zb rfl) (gw BA (by simp;omega))))))),⟨_,_,_,_,_,rfl⟩,kp r _ (by simp [n4,n5]) g1,kp d _ (by simp [n1,n2]) g2,?_,ss++[t],?_,?_,g6.trans λm so hm e=>kp m so hm e⟩
  ·rw [yz (zP BA),<-Nat.add_assoc,Bx,ja]
   rfl
  ·show s6[L]?=_
   rw [yJ n3,yz (zP Bz),ja]
   rfl
  ·rw [hW,ja]
   exact (g5.imp λd t h=>(h.mono VB (zM _) (Old.ag o)).mono (Nat.le_of_eq l6.symm) (zM _) (ag _)).snoc ⟨rfl,rfl,ra.imp λa v h=>(h.mono (zM _) (by omega) (Ag.refl _ _)).mono (Nat.le_of_eq l6.symm) (zM _) (ag _)⟩) (xs.map PV.int).length 0 (lim+1) (eP sc ps d c N L z6 z7 z8 z9 cx) s (by omega) (by simp [lim];omega) ⟨⟨_,_,_,_,_,rfl⟩,hr,hd,hN,[],hL,Rl.nil,Kx.refl _ _⟩
 subst he
 rw [jD] at g3 g5
 exact ⟨_,_,_,_,_,ss,s',F,g2,g3,g4,g5,g6⟩
inductive Ed where
 |give (a:Ad)
 |ite (x:Str) (b c:Ad)
def gZ (s:aa) (hi lo:Nat):Ed->En->Prop
 |.give a,E=>∃v,E=.give v/\dM s hi lo a v
 |.ite x b c,E=>∃v w,E=.ite x v w/\dM s hi lo b v/\dM s hi lo c w
def Ed.ofs:Ed->List Ad
 |.give a=>[a]
 |.ite x b c=>[.of x,b,c]
theorem gZ.mono {s s':aa}{hi hi' lo fE:Nat}{d:Ed}{E:En}(h:gZ s hi lo d E) (hh:hi<=hi') (hl:fE<=lo) (ag:Ag lo s s'):gZ s' hi' fE d E:=by
 cases d with
 |give a=>obtain ⟨v,e,a⟩:=h;exact ⟨v,e,a.mono hh hl ag⟩
 |ite x b c=>obtain ⟨v,w,e,a,b⟩:=h;exact ⟨v,w,e,a.mono hh hl ag,b.mono hh hl ag⟩
abbrev eQ (sc ps:PV) (d c N L:Nat) (z6 z7 z8 z9 cx VC uA uB:Ar):ze:=[some sc,sR d,sI c,sR N,some ps,sR L,z6,z7,z8,z9,cx,VC,uA,uB]
def VD (zs:Ae) (h0:0<zs.length) (l:List Int):∃(D:Ed) (l':List Int),(∀x,Ad.of x∈D.ofs->x∈zs)/\∀(sc ps:PV) (d c N L lo:Nat) (z6 z7 z8 z9 cx:Ar) (s:aa),Dc d l s->s[N]?=some (.lst (zs.map PV.str))->N≠d->lo<=s.length ->
  ∃(E:En) (uA uB:Ar) (s1:aa),(∀{X:Res Fl},Gh (eQ sc ps d c N L z6 z7 z8 z9 cx (some E.v) uA uB) s1=X->z_ (eQ sc ps d c N L z6 z7 z8 z9 cx none none none) s=X)/\Nx d l' s s1/\gZ s1 s1.length lo D E:=by
 have hw:=wJ (m:=4) (by decide) l.tail
 have pre:∀(sc ps:PV) (d c N L:Nat) (z6 z7 z8 z9 cx:Ar) (s:aa),Dc d l s->s[N]?=some (.lst (zs.map PV.str))->N≠d->∃s2,(∀{X:Res Fl},Gi (eQ sc ps d c N L z6 z7 z8 z9 cx (some (aL (bE (dw (rn l 1000) zs)))) (some (.int (rn l.tail 4:Int))) none) s2=X->z_ (eQ sc ps d c N L z6 z7 z8 z9 cx none none none) s=X)/\Nx d l.tail.tail s s2:=λsc ps d c N L z6 z7 z8 z9 cx s hd hN nd=>by
  obtain ⟨s1,E1,n1⟩:=js hd 1000 (by decide)
  obtain ⟨s2,E2,n2⟩:=js n1.dc 4 (by decide)
  exact ⟨s2,λh=>zo (zD (yk (zF rfl (yk (zF rfl (zy (zF (zy (zF (zb rfl) rfl) E1) (zb rfl)) (uw h0 _ (n1.at_ nd hN)))) (by simp))) (by simp))) (zo (zD (zy (zF (zb rfl) rfl) E2)) h),n1.trans n2⟩
 by_cases c1:rn l.tail 4=1
 ·obtain ⟨t,l',hD⟩:=Vm 4 2 l.tail.tail (by decide)
  refine ⟨.give (.is t),l',λx hx=>by simp [Ed.ofs] at hx,λsc ps d c N L lo z6 z7 z8 z9 cx s hd hN nd rG=>?_⟩
  obtain ⟨s2,P,n2⟩:=pre sc ps d c N L z6 z7 z8 z9 cx s hd hN nd
  obtain ⟨v,s3,E3,t3,n3⟩:=hD d s2 n2.dc
  have le:=n2.le
  refine ⟨.give (gY v),_,_,s3,λh=>P (zo (yG (zO (zh (zb rfl) rfl (br true (by simp;omega) _))) (zD (yk (zF rfl (yk (zF rfl (zy (zF (zb rfl) rfl) E3)) (by simp))) (by simp)))) (zo (zZ (zO (zh (zb rfl) rfl (br false (by simp;omega) _)))) h)),n2.trans n3,_,rfl,_,rfl,t3.mono (zM _) (by decide) (by omega) (Ag.refl _ _)⟩
 by_cases c2:rn l.tail 4=2
 ·refine ⟨.ite (dw (rn l.tail.tail.tail 1000) zs) (.of (dw (rn l 1000) zs)) (.of (dw (rn l.tail.tail 1000) zs)),l.tail.tail.tail.tail,λx hx=>?_,λsc ps d c N L lo z6 z7 z8 z9 cx s hd hN nd rG=>?_⟩
  ·simp only [Ed.ofs,yE,List.not_mem_nil,j5,Ad.of.injEq] at hx
   rcases hx with q|q|q<;>(rw [q];exact Bv h0 _)
  obtain ⟨s2,P,n2⟩:=pre sc ps d c N L z6 z7 z8 z9 cx s hd hN nd
  obtain ⟨s3,E3,n3⟩:=js n2.dc 1000 (by decide)
  obtain ⟨s4,E4,n4⟩:=js n3.dc 1000 (by decide)
  have Ia:=n2.trans n3
  have Ib:=Ia.trans n4
  exact ⟨.ite (dw (rn l.tail.tail.tail 1000) zs) (bE (dw (rn l 1000) zs)) (bE (dw (rn l.tail.tail 1000) zs)),_,_,s4,λh=>P (zo (zZ (zO (zh (zb rfl) rfl (br false (by simp;omega) _)))) (zo (yG (zO (zh (zb rfl) rfl (br true (by simp;omega) _))) (zo (zD (yk (zF rfl (yk (zF rfl (zy (zF (zy (zF (zb rfl) rfl) E3) (zb rfl)) (uw h0 _ (Ia.at_ nd hN)))) (by simp))) (by simp))) (zD (yk (gT rfl (yk (zF rfl (zy (zF (zy (zF (zb rfl) rfl) E4) (zb rfl)) (uw h0 _ (Ib.at_ nd hN)))) (by simp)) (yk (zF (yk jQ (by simp)) (zb rfl)) (by simp)) (yk (zF (yk jQ (by simp)) (zb rfl)) (by simp))) (by simp))))) h)),Ib,_,_,rfl,rfl,rfl⟩
 ·refine ⟨.give (.of (dw (rn l 1000) zs)),l.tail.tail,λx hx=>?_,λsc ps d c N L lo z6 z7 z8 z9 cx s hd hN nd rG=>?_⟩
  ·simp only [Ed.ofs,yE,List.not_mem_nil,j5,Ad.of.injEq] at hx
   rw [hx];exact Bv h0 _
  obtain ⟨s2,P,n2⟩:=pre sc ps d c N L z6 z7 z8 z9 cx s hd hN nd
  exact ⟨.give (bE (dw (rn l 1000) zs)),_,_,s2,λh=>P (zo (zZ (zO (zh (zb rfl) rfl (br false (by simp;omega) _)))) (zo (zZ (zO (zh (zb rfl) rfl (br false (by simp;omega) _)))) h)),n2,_,rfl,rfl⟩
structure Good (ps:Ae) (ds:List Sd) (E:Ed):Prop where
 lp:ps.length<=4
 ld:ds.length<=57
 nd:(ps++ds.map Sd.z).Nodup
 ok:∀(i:Nat) d,ds[i]?=some d->qW (ps++(ds.take i).map Sd.z) d
 en:∀x,Ad.of x∈E.ofs->x∈ps++ds.map Sd.z
def VE {nm:Nat->Str}{p:Nat}:∀{ds:List Sd},(∀(i:Nat) d,ds[i]?=some d->d.z=nm (p+i))->∀i,i<=ds.length->cL nm p++(ds.take i).map Sd.z=cL nm (p+i):=by
 intro ds h i
 induction i with
 |zero=>intro _;simp
 |succ i ih =>
  intro hi
  have e:=yi (l:=ds) (i:=i) (by omega)
  rw [gv e,ja,<-oK,ih (by omega),<-Nat.add_assoc,Bx]
  show _++[(ds[i]).z]=_
  rw [h i _ e]
def VF (ns:List Int):∃(z:Str) (ps:Ae) (ds:List Sd) (D:Ed),Good ps ds D/\∀st,∃(ss:List St) (E:En) (s1:aa),sY [.frl (ns.map PV.int)] st=.ok (.tup [bh z ps ss E]) s1/\Old st s1/\Rl (a4 s1 s1.length st.length) ds ss/\gZ s1 s1.length st.length D E:=by
 obtain ⟨l,hl⟩:∃l,l=dk ns:=⟨_,rfl⟩
 obtain ⟨c,hc⟩:∃c,c=rn l 1000000007:=⟨_,rfl⟩
 obtain ⟨nm,H⟩:=Vt c
 have hw:=wJ (m:=4) (by decide) l.tail
 obtain ⟨p,hp⟩:∃p,p=1+rn l.tail 4:=⟨_,rfl⟩
 have hx:(ns.take 57).length<=57:=by simp;omega
 obtain ⟨ds,⟨dl,Ic⟩,hS⟩:=Vz H (ns.take 57) hx p (by omega) (by omega)
 obtain ⟨D,l',hD,hE⟩:=VD (cL nm (p+(ns.take 57).length)) (by rw [qX];omega) l.tail.tail
 have sp:=VE (nm:=nm) (p:=p) λi d h=>(Ic i d h).1
 have Ie:cL nm p++ds.map Sd.z=cL nm (p+(ns.take 57).length):=by
  have:=sp ds.length (zM _)
  rw [List.take_length,dl] at this
  exact this
 refine ⟨nm 80,cL nm p,ds,D,⟨by rw [qX];omega,by omega,?_,λi d h=>?_,λx hx=>?_⟩,λst=>?_⟩
 ·rw [Ie]
  refine List.pairwise_map.mpr (List.Pairwise.imp_of_mem (λ{a b} ha hb hab=>?_) List.nodup_range)
  have ha:=m7.mp ha
  have hb:=m7.mp hb
  exact λe=>hab (H.one a b (by omega) (by omega) e)
 ·rw [sp i (by have:=gy h;omega)]
  exact (Ic i d h).2
 ·rw [Ie];exact hD x hx
 have qU:cX (ns.map PV.int) none (some 57)=(ns.take 57).map PV.int:=by
  unfold cX
  simp [HT.sIx]
 obtain ⟨d,s1,E1,d1,o1,ld⟩:=Vu ns st
 rw [<-hl] at d1
 obtain ⟨s2,E2,n2⟩:=js d1 1000000007 (by decide)
 rw [<-hc] at E2
 obtain ⟨s3,E3,n3⟩:=js n2.dc 4 (by decide)
 have i1:(zc yd (At 1) (zq jf (zf (za 1) (zf (At 4) zj)))) [some (.frl (ns.map PV.int)),sR d,sI c,none,none,none,none,none,none,none,none,none,none,none] s2=.ok (.int (p:Int)) s3:=zh rfl (zy (zF (zb rfl) rfl) E3) ((gR 1 _).trans (by rw [<-hp]))
 obtain ⟨ys,s4,C,hy,o4⟩:=qH (fe:=(zq mw (zf (za 3) (zf (za 0) zj)))) (fs:=(zf (zc yd (At 1) (zq jf (zf (za 1) (zf (At 4) zj)))) zj)) (env:=[some (.frl (ns.map PV.int)),sR d,sI c,none,none,none,none,none,none,none,none,none,none,none]) (st:=s2) p (by omega) (zE i1) (λi ys s=>ys=(cL nm i).map PV.str/\Old s3 s) (λi ys s hi ⟨g1,g2⟩=>by
  obtain ⟨s5,E5,o5⟩:=H.at_ i (by omega) s
  exact ⟨_,s5,zy (zF (zb rfl) (zb rfl)) E5,by rw [g1,Bx,ja];rfl,g2.trans o5⟩) ⟨rfl,Old.refl _⟩
 let s5:=s4++[SO.lst ys]
 let s6:=s5++[SO.lst []]
 let s7:=s6++[SO.lst ((ns.take 57).map PV.int)]
 have d4:Dc d l.tail.tail s4:=o4 _ _ n3.dc
 have WM:=zP d4
 have l5:s5.length=s4.length+1:=by simp [s5]
 have l6:s6.length=s4.length+2:=by simp [s6,s5]
 have l7:s7.length=s4.length+3:=by simp [s7,s6,s5]
 have N5:s5[s4.length]?=some (.lst ((cL nm p).map PV.str)):=by rw [<-hy];exact zV _ _
 have Ig:Old s4 s7:=((zI _ _).trans (zI _ _)).trans (zI _ _)
 have N7:s7[s4.length]?=some (.lst ((cL nm p).map PV.str)):=zI _ _ _ _ (zI _ _ _ _ N5)
 have L7:s7[s5.length]?=some (.lst []):=zI _ _ _ _ (zV _ _)
 have R7:s7[s6.length]?=some (.lst ((ns.take 57).map PV.int)):=zV _ _
 have VW:=(n2.trans n3).le
 have VX:=oH o4
 have WN:=oH o1
 obtain ⟨z6,z7,z8,z9,cx,ss,s8,F,d8,N8,L8,r8,k8⟩:=hS (.frl (ns.map PV.int)) (.tup ((cL nm p).map PV.str)) l.tail.tail d s4.length s5.length s6.length st.length none none none none none s7 (Ig _ _ d4) N7 L7 R7 (by omega) (by omega) (by omega) (by omega) (by omega) (by omega)
 have WO:s7.length<=s8.length:=by
  rcases Nat.lt_or_ge s8.length s7.length with q|q
  ·by_cases w:s8.length∈[s4.length,s5.length]
   ·rcases yE.mp w with w|w
    ·have:=zP N8;omega
    ·have:=zP L8;rw [jJ.mp w] at this;omega
   ·have:=zP (k8 _ _ w (yi q));omega
  ·exact q
 obtain ⟨E,uA,uB,s9,K,n9,r9⟩:=hE (.frl (ns.map PV.int)) (.tup ((cL nm p).map PV.str)) d c s4.length s5.length st.length z6 z7 z8 z9 cx s8 d8 N8 (by omega) (by omega)
 obtain ⟨VG,VH,qY⟩:=H.at_ 80 (by decide) s9
 have L9:=qY _ _ (n9.at_ (by omega) L8)
 have VA:ss.length<=57:=by rw [r8.1];omega
 have hle:=oH qY
 refine ⟨ss,E,VG,zR rfl (zo (zD (zy (zE (zb rfl)) E1)) (zo (zD (zy (zF (zb rfl) rfl) E2)) (zo (zD C) (zo (zD (zy (zE (zb rfl)) (show jF [.ref s4.length] s5=.ok (.tup ((cL nm p).map PV.str)) s5 by rw [iN,yv N5]))) (zo (zD (jm jQ (by simp))) (zo (wy (xQ (zb rfl) xS (xR rfl) (by rw [DX,qU])) (zV _ _) F) (K (zS (yk (zE (yk (jY (zy (zF (zb rfl) rfl) VH) (zb rfl) (yk (zF (zy (zE (zb rfl)) (by rw [iN,yv L9])) (zb rfl)) (by simp))) (by simp))) (by simp)))))))))),λm so e=>?_,r8.imp λd t h=>(h.mono n9.le (zM _) (n9.ag d8)).mono hle (zM _) (Old.ag qY),r9.mono hle (zM _) (Old.ag qY)⟩
 have hm:=zP e
 exact qY _ _ (n9.at_ (by omega) (k8 _ _ (by simp;omega) (Ig _ _ (o4 _ _ ((n2.trans n3).at_ (by omega) (o1 _ _ e))))))
section
variable {α β γ δ:Type} {P:α->β->Prop} {ts:List α} {xs:List β} {t:α} {x:β}
def Rl.left (h:Rl P ts xs) (hx:x∈xs):∃t∈ts,P t x:=by
 obtain ⟨i,hi,e⟩:=oJ hx
 have h1:=h.1
 have g:=yi (l:=ts) (i:=i) (by omega)
 exact ⟨_,jR g,h.2 i _ x g (by rw [yi hi,e])⟩
def Rl.right (h:Rl P ts xs) (ht:t∈ts):∃x∈xs,P t x:=by
 obtain ⟨i,hi,e⟩:=oJ ht
 have h1:=h.1
 have g:=yi (l:=xs) (i:=i) (by omega)
 exact ⟨_,jR g,h.2 i t _ (by rw [yi hi,e]) g⟩
def Rl.join {Q:α->γ->Prop}{ys:List γ}(h:Rl P ts xs) (h':Rl Q ts ys):Rl (λx y=>∃t,P t x/\Q t y) xs ys:=⟨by rw [h.1,h'.1],λi x y hx hy=>by
 have g:=yi (l:=ts) (i:=i) (by have:=gy hx;have:=h.1;omega)
 exact ⟨_,h.2 i _ x g hx,h'.2 i _ y g hy⟩⟩
theorem Rl.ind {M:List α->List β->Prop}(h0:M [] []) (hc:∀t x ts xs,P t x->M ts xs->M (t::ts) (x::xs)):∀{ts:List α}{xs:List β},Rl P ts xs->M ts xs
 |[],[],_=>h0
 |[],_::_,h=>by cases h.1
 |_::_,[],h=>by cases h.1
 |t::ts,x::xs,h=>hc t x ts xs (Rl.cons.mp h).1 (Rl.ind h0 hc (Rl.cons.mp h).2)
def Rl.map_eq {f:α->γ}{g:β->γ}(h:Rl P ts xs) (e:∀t x,P t x->g x=f t):xs.map g=ts.map f:=Rl.ind (M:=λts xs=>xs.map g=ts.map f) rfl (λt x ts xs p ih=>by rw [jg,jg,ih,e _ _ p]) h
theorem Rl.map {Q:γ->δ->Prop}{f:α->γ}{g:β->δ}(h:Rl P ts xs) (e:∀t x,P t x->Q (f t) (g x)):Rl Q (ts.map f) (xs.map g):=Rl.ind (M:=λts xs=>Rl Q (ts.map f) (xs.map g)) Rl.nil (λt x ts xs p ih=>Rl.cons.mpr ⟨e _ _ p,ih⟩) h
def Rl.rev (h:Rl P ts xs):Rl P ts.reverse xs.reverse:=Rl.ind (M:=λts xs=>Rl P ts.reverse xs.reverse) Rl.nil (λt x ts xs p ih=>by rw [List.reverse_cons,List.reverse_cons];exact ih.snoc p) h
def Rl.same {Q:α->α->Prop}(h:∀x∈ts,Q x x):Rl Q ts ts:=⟨rfl,λi a b ha hb=>by rw [ha] at hb;cases hb;exact h _ (jR ha)⟩
end
section
variable {s:aa} {hi lo B:Nat} {a:Ad} {v w:PV} {d:Sd} {t u:St} {zs ps:Ae} {D:Ed} {E F:En} {ds:List Sd} {ss rs:List St} {N:Ae}
def dM.p (h:dM s hi lo a v):cZ v:=by
 cases a with
 |of z=>exact .inl ⟨z,h⟩
 |is t=>obtain ⟨x,e,_⟩:=h;exact .inr ⟨x,e⟩
def dM.n (h:dM s hi lo a v) {x:Str}(hx:x∈bY v):a=.of x:=by
 cases a with
 |of z=>rw [show v=bE z from h,j2,jJ] at hx;rw [hx]
 |is t=>obtain ⟨y,e,_⟩:=h;rw [e,ka] at hx;cases hx
theorem a4.k (h:a4 s hi lo d t) (k:qW zs d):(cE t/\t.o∈j3)/\∀x∈aZ t.as,x∈zs:=by
 refine ⟨⟨⟨λa ha=>?_,by rw [h.as.1];exact k.few,?_⟩,by rw [h.o];exact k.o⟩,λx hx=>?_⟩
 ·obtain ⟨_,_,p⟩:=h.as.left ha;exact p.p
 ·obtain ⟨x,hx⟩:=k.of_
  obtain ⟨v,hv,p⟩:=h.as.right hx
  exact ⟨x,by rw [<-(show v=bE x from p)];exact hv⟩
 ·obtain ⟨v,hv,q⟩:=List.mem_flatMap.mp hx
  obtain ⟨a,ha,p⟩:=h.as.left hv
  exact k.kn x (by rw [<-p.n q];exact ha)
def Cl (ps:Ae):List St->Prop
 |[]=>True
 |t::r=>(∀x∈aZ t.as,x∈ps++r.map St.z)/\Cl ps r
theorem Ih (h:∀(i:Nat) t,ss[i]?=some t->∀x∈aZ t.as,x∈ps++(ss.take i).map St.z):∀i,i<=ss.length->Cl ps (ss.take i).reverse
 |0,_=>by rw [List.take_zero];trivial
 |i+1,hi=>by
  have e:=yi (l:=ss) (i:=i) (by omega)
  rw [gv e,List.reverse_append]
  refine ⟨λx hx=>?_,Ih h i (by omega)⟩
  have:=h i _ e x hx
  rw [jy] at this ⊢
  exact this.imp id λq=>by
   show x∈List.map St.z (List.take i ss).reverse
   rw [List.map_reverse,List.mem_reverse];exact q
theorem uC:∀(r:List St) (S:Ae),(kp r S).Sublist r.reverse
 |[],_=>List.Sublist.refl _
 |t::r,S=>by
  unfold kp
  rw [List.reverse_cons]
  split
  ·exact (uC r S).trans (List.sublist_append_left _ _)
  ·exact (uC r _).append (List.Sublist.refl _)
theorem BB:∀(r:List St) (S:Ae),Cl ps r->(∀x∈S,x∈ps++r.map St.z->x∈ps++(kp r S).map St.z)/\∀t∈kp r S,∀x∈aZ t.as,x∈ps++(kp r S).map St.z
 |[],S,_=>⟨λx _ h=>h,λt h=>by cases h⟩
 |t::r,S,h=>by
  unfold kp
  by_cases c:idle S t=true
  ·rw [zC c]
   obtain ⟨g1,g2⟩:=BB r S h.2
   refine ⟨λx hx hm=>g1 x hx ?_,g2⟩
   rw [jg,jy,yE] at hm
   rw [jy]
   rcases hm with q|q|q
   ·exact .inl q
   ·unfold idle at c
    simp only [wB,m8] at c
    exact absurd (q▸hx) c.1
   ·exact .inr q
  ·rw [zQ c]
   obtain ⟨g1,g2⟩:=BB r (S++aZ t.as) h.2
   have up:∀x,x∈ps++(kp r (S++aZ t.as)).map St.z->x∈ps++(kp r (S++aZ t.as)++[t]).map St.z:=λx hx=>by
    rw [ja,<-oK];exact hV _ hx
   refine ⟨λx hx hm=>?_,λu hu x hx=>?_⟩
   ·rw [jg,jy,yE] at hm
    rcases hm with q|q|q
    ·exact hV _ q
    ·rw [q,ja];exact y0 _ (y0 _ (by simp))
    ·exact up x (g1 x (hV _ hx) (y0 _ q))
   ·rcases jy.mp hu with q|q
    ·exact up x (g2 u q x hx)
    ·rw [jJ.mp q] at hx
     exact up x (g1 x (y0 _ hx) (h.1 x hx))
def gZ.k (h:gZ s hi lo D E):E.ok/\∀x∈aZ E.at_,Ad.of x∈D.ofs:=by
 cases D with
 |give a =>
  obtain ⟨v,rfl,p⟩:=h
  refine ⟨p.p,λx hx=>?_⟩
  simp only [En.at_,aZ,h_,List.flatMap_nil,List.append_nil] at hx
  rw [<-p.n hx]
  exact jJ.mpr rfl
 |ite y b c =>
  obtain ⟨v,w,rfl,p,q⟩:=h
  refine ⟨⟨p.p,q.p⟩,λx hx=>?_⟩
  simp only [En.at_,aZ,h_,List.flatMap_nil,List.append_nil,j2,jy,jJ] at hx
  simp only [Ed.ofs,yE]
  rcases hx with e|e|e
  ·rw [e];exact .inl rfl
  ·exact .inr (.inl (p.n e).symm)
  ·exact .inr (.inr (.inl (q.n e).symm))
def Ii (G:Good ps ds D) (r:Rl (a4 s hi lo) ds ss) (e:gZ s hi lo D E):mR ps (kp ss.reverse E.us) E/\(∀t∈ss,cE t/\t.o∈j3)/\ss.length<=200/\E.ok:=by
 have hl:ss.length=ds.length:=r.1
 have WQ:=G.ld
 have at_:∀(i:Nat) t,ss[i]?=some t->(cE t/\t.o∈j3)/\∀x∈aZ t.as,x∈ps++(ss.take i).map St.z:=λi t h=>by
  have g:=yi (l:=ds) (i:=i) (by have:=gy h;omega)
  obtain ⟨a,b⟩:=(r.2 i _ t g h).k (G.ok i _ g)
  have tk:Rl (a4 s hi lo) (ds.take i) (ss.take i):=⟨by simp [hl],λj d t hd ht=>by
   rw [List.getElem?_take] at hd ht
   split at hd
   ·rename_i q;rw [zC q] at ht;exact r.2 j d t hd ht
   ·cases hd⟩
  rw [tk.map_eq (f:=Sd.z) (g:=St.z) λd t h=>h.z]
  exact ⟨a,b⟩
 have all:∀t∈ss,cE t/\t.o∈j3:=λt ht=>by
  obtain ⟨i,hi,q⟩:=oJ ht
  exact (at_ i t (by rw [yi hi,q])).1
 obtain ⟨ek,en⟩:=e.k
 have cl:Cl ps ss.reverse:=by
  have:=Ih (λi t h=>(at_ i t h).2) ss.length (zM _)
  rwa [List.take_length] at this
 obtain ⟨k1,k2⟩:=BB ss.reverse E.us cl
 have sb:=uC ss.reverse E.us
 rw [List.reverse_reverse] at sb
 have sl:=sb.length_le
 have zz:=r.map_eq (f:=Sd.z) (g:=St.z) λd t h=>h.z
 refine ⟨⟨by omega,by omega,by have:=G.lp;omega,?_,λt ht=>(all t (sb.subset ht)).1,k2,ek,λx hx=>k1 x ((Hr E x).mp hx) ?_⟩,all,by omega,ek⟩
 ·refine List.Nodup.sublist ((List.Sublist.refl ps).append (sb.map St.z)) ?_
  rw [zz];exact G.nd
 ·have:=G.en x (en x hx)
  rw [<-zz,jy] at this
  rw [jy,List.map_reverse,List.mem_reverse]
  exact this
def AR (s:aa) (B:Nat) (a b:PV):Prop:=(∃z,a=bE z/\b=bE z)\/∃x y,a=gY x/\b=gY y/\Lk s B 4 B x y
structure RR (s:aa) (B:Nat) (t u:St):Prop where
 z:u.z=t.z
 o:u.o=t.o
 as:Rl (AR s B) t.as u.as
def ER (s:aa) (B:Nat):En->En->Prop
 |.give a,.give b=>AR s B a b
 |.ite x a b,.ite y c d=>y=x/\AR s B a c/\AR s B b d
 |_,_=>False
def uD (h:dM s B lo a v) (h':dM s hi B a w):AR s B v w:=by
 cases a with
 |of z=>exact .inl ⟨z,h,h'⟩
 |is t =>
  obtain ⟨x,e,p⟩:=h
  obtain ⟨y,e',q⟩:=h'
  exact .inr ⟨x,y,e,e',Va p q⟩
def VI (h:Rl (a4 s B lo) ds ss) (h':Rl (a4 s hi B) ds rs):Rl (RR s B) ss rs:=(h.join h').imp λt u ⟨d,p,q⟩=>⟨q.z.trans p.z.symm,q.o.trans p.o.symm,(p.as.join q.as).imp λv w ⟨a,x,y⟩=>uD x y⟩
def VJ (h:gZ s B lo D E) (h':gZ s hi B D F):ER s B E F:=by
 cases D with
 |give a=>obtain ⟨v,rfl,p⟩:=h;obtain ⟨w,rfl,q⟩:=h';exact uD p q
 |ite x b c=>obtain ⟨v,w,rfl,p,p'⟩:=h;obtain ⟨v',w',rfl,q,q'⟩:=h';exact ⟨rfl,uD p q,uD p' q'⟩
def AR.n (h:AR s B v w):bY w=bY v:=by
 rcases h with ⟨z,rfl,rfl⟩|⟨x,y,rfl,rfl,_⟩
 ·rfl
 ·rw [ka,ka]
theorem AR.ren (h:AR s B v w):AR s B (FK72.ren N v) (FK72.ren N w):=by
 rcases h with ⟨z,rfl,rfl⟩|⟨x,y,rfl,rfl,h⟩
 ·rw [oE];exact .inl ⟨_,rfl,rfl⟩
 ·rw [ug,ug];exact .inr ⟨_,_,rfl,rfl,h⟩
def RR.ofs (h:RR s B t u):aZ u.as=aZ t.as:=Rl.ind (M:=λxs ys=>aZ ys=aZ xs) rfl (λa b xs ys p ih=>by rw [aZ,h_,aZ,h_,p.n,show ys.flatMap bY=_ from ih]) h.as
def VL:∀{r r':List St}(S:Ae),Rl (RR s B) r r'->Rl (RR s B) (kp r S) (kp r' S):=λ{r r'} S h=>(Rl.ind (M:=λr r'=>∀S,Rl (RR s B) (kp r S) (kp r' S)) (λS=>Rl.nil) (λt u r r' p ih S=>by
 have hi:idle S u=idle S t:=by unfold idle;rw [p.z,p.o]
 unfold kp
 rw [hi]
 split
 ·exact ih S
 ·rw [p.ofs];exact (ih _).snoc p) h) S
theorem ER.us (h:ER s B E F):F.us=E.us:=by
 cases E with
 |give a =>
  cases F with
  |give b=>exact AR.n h
  |ite=>exact h.elim
 |ite x a b =>
  cases F with
  |give=>exact h.elim
  |ite y c d=>obtain ⟨rfl,p,q⟩:=h;show bY d++bY c++_=_;rw [q.n,p.n];rfl
theorem ER.ren (h:ER s B E F):ER s B (E.ren N) (F.ren N):=by
 cases E with
 |give a =>
  cases F with
  |give b=>exact AR.ren h
  |ite=>exact h.elim
 |ite x a b =>
  cases F with
  |give=>exact h.elim
  |ite y c d=>obtain ⟨rfl,p,q⟩:=h;exact ⟨rfl,p.ren,q.ren⟩
def Ij {n m:Nat}{x y:PV}(h:Lk s B n B x y) (hn:n<=m):Lk s B m B x y:=h.mono hn (λ_ _ _ _ e=>e) (Ag.refl _ _)
def kh {n:Nat}{xs ys:Aq}(h:Rl (Lk s B n B) xs ys) (hl:ys.length<=900):Lk s B (n+1) B (.tup xs) (.tup ys):=⟨ys,rfl,h.1.symm,hl,h.2⟩
def uE {n:Nat}{z:Str}{x y:PV}(h:Lk s B (n+1) B x y):Lk s B (n+2) B (.tup [.str z,x]) (.tup [.str z,y]):=kh (Rl.cons.mpr ⟨rfl,Rl.cons.mpr ⟨h,Rl.nil⟩⟩) (by simp)
def AR.lk (h:AR s B v w) {n:Nat}(hn:5<=n):Lk s B n B v w:=by
 rcases h with ⟨z,rfl,rfl⟩|⟨x,y,rfl,rfl,h⟩
 ·exact Ij (uE (n:=0) rfl) (by omega)
 ·exact Ij (uE (n:=3) h) hn
def Ik {n:Nat}{xs ys:Aq}{x y:PV}(h:Rl (Lk s B n B) xs ys) (hl:ys.length<=900) (h':Lk s B (n+1) B x y):Lk s B (n+2) B (aW xs x) (aW ys y):=kh (Rl.cons.mpr ⟨kh h hl,Rl.cons.mpr ⟨h',Rl.nil⟩⟩) (by simp)
theorem ER.lk (h:ER s B E F):Lk s B 9 B E.v F.v:=by
 cases E with
 |give a =>
  cases F with
  |give b=>exact uE (AR.lk h (by decide))
  |ite=>exact h.elim
 |ite x a b =>
  cases F with
  |give=>exact h.elim
  |ite y c d =>
   obtain ⟨rfl,p,q⟩:=h
   have g:∀{v w:PV},AR s B v w->Lk s B 8 B (aW [] (aL v)) (aW [] (aL w)):=λh=>Ik Rl.nil (by simp) (uE (h.lk (by decide)))
   exact kh (n:=8) (Rl.cons.mpr ⟨rfl,Rl.cons.mpr ⟨AR.lk (.inl ⟨_,rfl,rfl⟩) (by decide),Rl.cons.mpr ⟨g p,Rl.cons.mpr ⟨g q,Rl.nil⟩⟩⟩⟩) (by simp)
theorem RR.lk (h:RR s B t u) (hl:u.as.length<=900):Lk s B 8 B t.v u.v:=by
 obtain ⟨z,o,as⟩:=t
 obtain ⟨z',o',as'⟩:=u
 obtain ⟨e1,e2,p⟩:=h
 cases e1;cases e2
 exact kh (n:=7) (Rl.cons.mpr ⟨rfl,Rl.cons.mpr ⟨rfl,Rl.cons.mpr ⟨rfl,Rl.cons.mpr ⟨kh (n:=6) (p.imp λ_ _ h=>h.lk (by decide)) hl,Rl.nil⟩⟩⟩⟩) (by simp)
def Il {z:Str}(h:Rl (RR s B) ss rs) (h':ER s B E F) (hp:ps.length<=900) (hl:rs.length<=900) (ha:∀u∈rs,u.as.length<=900):Lk s B 12 B (.tup [bh z ps ss E]) (.tup [bh z ps rs F]):=by
 have st:Rl (Lk s B 8 B) (ss.map St.v) (rs.map St.v):=⟨by simp [h.1],λi a b ha' hb=>by
  rw [jd] at ha' hb
  cases e:ss[i]? with
  |none=>rw [e] at ha';cases ha'
  |some t =>
   cases e':rs[i]? with
   |none=>rw [e'] at hb;cases hb
   |some u =>
    rw [e] at ha';rw [e'] at hb
    cases ha';cases hb
    exact (h.2 i t u e e').lk (ha u (jR e'))⟩
 exact kh (n:=11) (Rl.cons.mpr ⟨kh (n:=10) (Rl.cons.mpr ⟨rfl,Rl.cons.mpr ⟨kh (n:=9) (Rl.same λx hx=>by obtain ⟨z,_,rfl⟩:=wC.mp hx;rfl) (by simpa using hp),Rl.cons.mpr ⟨Ik (n:=8) st (by simpa using hl) h'.lk,Rl.nil⟩⟩⟩) (by simp),Rl.nil⟩) (by simp)
def VM (h:RR s B t u):RR s B (df N t) (df N u):=⟨by show vN _=vN _;rw [h.z],h.o,h.as.map λ_ _ h=>h.ren⟩
def Im (h:Rl (RR s B) ss rs) (h':ER s B E F) (hp:ps.length<=900) (hl:rs.length<=900) (ha:∀u∈rs,u.as.length<=900):Lk s B 12 B (.tup [kU ps (kp ss.reverse E.us) E]) (.tup [kU ps (kp rs.reverse F.us) F]):=by
 rw [h'.us]
 have k:=VL E.us h.rev
 have zz:d7 ps (kp rs.reverse E.us)=d7 ps (kp ss.reverse E.us):=by show ps++_=ps++_;rw [k.map_eq λ_ _ h=>h.z]
 have sb:=uC rs.reverse E.us
 rw [List.reverse_reverse] at sb
 have sl:=sb.length_le
 show Lk s B 12 B _ (.tup [bh "q0" (vs ps.length) ((kp rs.reverse E.us).map (df (d7 ps (kp rs.reverse E.us)))) (F.ren (d7 ps (kp rs.reverse E.us)))])
 rw [zz]
 exact Il (k.map λ_ _ h=>VM h) h'.ren (by simpa [vs] using hp) (by simp;omega) λu hu=>by
  obtain ⟨t,ht,rfl⟩:=wC.mp hu
  show (t.as.map _).length<=900
  rw [jD]
  exact ha t (sb.subset ht)
end
def zv9 (ns:List Int):∃st,Gz [.frl (ns.map PV.int)] []=.ok (.bl true) st:=by
 obtain ⟨z,ps,ds,D,G,hP⟩:=VF ns
 obtain ⟨ss,E,s1,E1,o1,r1,e1⟩:=hP []
 obtain ⟨rs,F,s2,E2,o2,r2,e2⟩:=hP s1
 obtain ⟨R1,k1,l1,Io⟩:=Ii G r1 e1
 obtain ⟨R2,k2,l2,VN⟩:=Ii G r2 e2
 obtain ⟨s3,E3,o3⟩:=U9 (z:=z) (λt ht=>(k2 t ht).1) l2 VN R2 s2
 obtain ⟨s4,E4,o4⟩:=Hq (z:=z) k1 l1 Io R1 s3
 have lp:=G.lp
 have few:∀u∈rs,u.as.length<=900:=λu hu=>by have:=(k2 u hu).1.few;omega
 have A:∀{s:aa},Old s2 s->Rl (RR s s1.length) ss rs/\ER s s1.length E F:=λ{s} o=>⟨VI (r1.imp λd t h=>h.mono (zM _) (zM _) (Old.ag (o2.trans o))) (r2.imp λd t h=>h.mono (zM _) (zM _) (Old.ag o)),VJ (e1.mono (zM _) (zM _) (Old.ag (o2.trans o))) (e2.mono (zM _) (zM _) (Old.ag o))⟩
 have BC:=o3.trans o4
 obtain ⟨s5,E5,o5⟩:=Bo (Im (ps:=ps) (A BC).1 (A BC).2 (by omega) (by omega) few) (zM _)
 have BD:=BC.trans o5
 obtain ⟨s6,E6,o6⟩:=Bo (Il (z:=z) (ps:=ps) (A BD).1 (A BD).2 (by omega) (by omega) few) (zM _)
 have VO:=BD.trans o6
 obtain ⟨s7,E7,o7⟩:=Hq (z:=z) k1 l1 Io R1 s6
 have Ip:=VO.trans o7
 obtain ⟨s8,E8,o8⟩:=Bo (Im (ps:=ps) (A Ip).1 (A Ip).2 (by omega) (by omega) few) (zM _)
 exact ⟨s8,zR rfl (zo (zD (zy (zE (zb rfl)) E1)) (zo (zD (zy (zE (zb rfl)) E2)) (zo (zD (zy (zE (zb rfl)) E3)) (zo (zZ (gr (og (b:=true) (zO (zy (zF (zy (zE (zb rfl)) E4) (zb rfl)) E5))) (og (b:=true) (zO (zy (zF (zb rfl) (zb rfl)) E6))))) (zS (zy (zF (zy (zE (zb rfl)) E7) (zb rfl)) E8))))))⟩
end FK72
open PySem PySem.W PyProof.Rows
set_option maxHeartbeats 0
namespace PySem.W.Fast
def tw8365348601861578879:=()
def tw14477828447994935694:=()
local macro_rules
|`(command|#print $s:str)=>do
 let c<-(s.getString.splitOn " ").toArray.flatMapM λw=>do
  let [p,a,b]:=w.splitOn "_"|Lean.Macro.throwUnsupported
  (Array.range (b.toNat!+1-a.toNat!)).mapM λk=>do
   let n:=Lean.mkIdent (.mkSimple s!"tw{((`hdT).str s!"{p}_{a.toNat!+k}").hash}")
   `(command|theorem $n : True := trivial)
 return Lean.mkNullNode c
#print "o_0_900 sts_0_900 view_0_900 tree_0_900 heap_0_900 env_0_900"
end PySem.W.Fast
open_top hdT for PySem.Challenge.rw_foreknown_k72_what_may_fault_stays
theorem uu1 {us:List PySem.Value}(h:us.length=1):∃a,us=[a]:=match us,h with|[a],_=>⟨a,rfl⟩
theorem uu2 {us:List PySem.Value}(h:us.length=2):∃a b,us=[a,b]:=match us,h with|[a,b],_=>⟨a,b,rfl⟩
theorem uu3 {us:List PySem.Value}(h:us.length=3):∃a b c,us=[a,b,c]:=match us,h with|[a,b,c],_=>⟨a,b,c,rfl⟩
theorem PySem.Challenge.cw_foreknown_k72_what_may_fault_stays_holds : PySem.Challenge.rw_foreknown_k72_what_may_fault_stays.Holds :=
 hdT (by
 k_fill
 refine Mi.walkM (l:=PySem.Challenge.rw_foreknown_k72_what_may_fault_stays) (k:=15) (x := "_law_script") rfl rfl ⟨rfl,by decide,by decide⟩ (λw h Y=>PySem.W.kIn_of Y) ?F
 case F =>
  intro w mg fa h KX G hmg
  have x_Fault:Mi.XnF (L2.KOf KX) mg "Fault" "word" "Fault.__init__" FK72.zkp:=by
   dsimp only [L2.KOf]
   refine' Mi.zq2 KX G ?aC ?hC ?hB ?hN ?he ?hi ?fn ?kp ?sa ?hcl ?hl ?no ?hd ?l ?c ?k ?b
   (case aC|hC=>k_is)
   (case hB=>k_exc)
   (case hN=>k_is)
   (case he=>first|rfl|with_unfolding_all rfl|simp)
   (case hi|fn|kp|sa|hcl=>k_is)
   (case hl=>rfl)
   (case no|hd|l|c|k=>k_is)
   (case b=>exact λ_ _ _ _ _ _ us hl=>by obtain ⟨_,_,rfl⟩:=uu2 hl;rfl)
  have ct_FAULTLESS:∃a,mg "FAULTLESS" = some (.ref a)/\∀ρ H,Mi.R (L2.KOf KX) mg ρ H (.tup (List.map Mi.PV.str FK72.ct_FAULTLESS)) (.ref a):=by
   dsimp only [L2.KOf]
   refine' Mi.zr7 KX G ?a ?l ?z ?s
   (case a|l=>k_is)
   (case z=>rfl)
   (case s=>decide)
  have is:Mi.IsF (L2.KOf KX) mg FK72.isT:=by
   exact Mi.zrw rfl rfl rfl
  have kd_OPS:∀X:L2.Cx,X.K=(L2.KOf KX)->X.mg=mg->X.w=w->Mi.KdF X "OPS" FK72.zbH FK72.zbI FK72.zgn:=by
   dsimp only [L2.KOf]
   refine' Mi.zrX KX G ?aO ?lO ?hk ?no rfl ?ks ?hi
   (case aO|lO=>k_is)
   case hk =>
    repeat (refine ⟨⟨_,_,rfl,rfl⟩,?_⟩)
    exact trivial
   (case no=>first|rfl|decide)
   (case ks=>first|rfl|decide|kernel_rfl)
   case hi =>
    simp only [FK72.zbH,FK72.zbI,List.zip_cons_cons,List.zip_nil_left]
    refine Mi.all_cons ?_ ?_
    ·refine' Mi.zam KX G ?e ?l1 ?l2 ?a
     (case e|l1|l2|a=>k_is)
    refine Mi.all_cons ?_ ?_
    ·refine' Mi.zam KX G ?e ?l1 ?l2 ?a
     (case e|l1|l2|a=>k_is)
    refine Mi.all_cons ?_ ?_
    ·refine' Mi.zam KX G ?e ?l1 ?l2 ?a
     (case e|l1|l2|a=>k_is)
    refine Mi.all_cons ?_ ?_
    ·refine' Mi.zam KX G ?e ?l1 ?l2 ?a
     (case e|l1|l2|a=>k_is)
    refine Mi.all_cons ?_ ?_
    ·refine' Mi.zam KX G ?e ?l1 ?l2 ?a
     (case e|l1|l2|a=>k_is)
    refine Mi.all_cons ?_ ?_
    ·refine' Mi.zam KX G ?e ?l1 ?l2 ?a
     (case e|l1|l2|a=>k_is)
    refine Mi.all_cons ?_ ?_
    ·refine' Mi.zam KX G ?e ?l1 ?l2 ?a
     (case e|l1|l2|a=>k_is)
    refine Mi.all_cons ?_ ?_
    ·refine' Mi.zcR KX G ?e ?l1 ?l2 ?a
     (case e|l1|l2|a=>k_is)
    refine Mi.all_cons ?_ ?_
    ·refine' Mi.zcR KX G ?e ?l1 ?l2 ?a
     (case e|l1|l2|a=>k_is)
    refine Mi.all_cons ?_ ?_
    ·refine' Mi.zam KX G ?e ?l1 ?l2 ?a
     (case e|l1|l2|a=>k_is)
    refine Mi.all_cons ?_ ?_
    ·refine' Mi.zcR KX G ?e ?l1 ?l2 ?a
     (case e|l1|l2|a=>k_is)
    refine Mi.all_cons ?_ ?_
    ·refine' Mi.zcR KX G ?e ?l1 ?l2 ?a
     (case e|l1|l2|a=>k_is)
    refine Mi.all_cons ?_ ?_
    ·refine' Mi.zcR KX G ?e ?l1 ?l2 ?a
     (case e|l1|l2|a=>k_is)
    refine Mi.all_cons ?_ ?_
    ·refine' Mi.zam KX G ?e ?l1 ?l2 ?a
     (case e|l1|l2|a=>k_is)
    refine Mi.all_cons ?_ ?_
    ·refine' Mi.zjy KX G ?e ?l1 ?l2 ?a
     (case e|l1|l2|a=>k_is)
    refine Mi.all_cons ?_ ?_
    ·refine' Mi.zam KX G ?e ?l1 ?l2 ?a
     (case e|l1|l2|a=>k_is)
    refine Mi.all_cons ?_ ?_
    ·refine' Mi.zjy KX G ?e ?l1 ?l2 ?a
     (case e|l1|l2|a=>k_is)
    exact Mi.zq5
  have T:FK72.Txt w (L2.KOf KX) mg:=by
   constructor
   case x_Fault=>exact x_Fault
   case ct_FAULTLESS=>exact ct_FAULTLESS
   case is=>exact is
   case kd_OPS=>exact kd_OPS
   all_goals first
    | (show Mi.MtF _ _ _ _ _ _ [_];dsimp only [L2.KOf];refine' Mi.zfH KX G ?aC ?pg ?hd ?po ?sa ?a ?i ?l ?c ?k ?b;(case aC|pg|hd|po|sa|a|i|l|c|k=>k_is);(case b=>exact λ_ _ _ _ _ _ us hl=>by obtain ⟨_,rfl⟩:=uu1 hl;rfl))
    | (show Mi.MtF _ _ _ _ _ _ [_,_];dsimp only [L2.KOf];refine' Mi.zfH KX G ?aC ?pg ?hd ?po ?sa ?a ?i ?l ?c ?k ?b;(case aC|pg|hd|po|sa|a|i|l|c|k=>k_is);(case b=>exact λ_ _ _ _ _ _ us hl=>by obtain ⟨_,_,rfl⟩:=uu2 hl;rfl))
    | (show Mi.MtF _ _ _ _ _ _ [_,_,_];dsimp only [L2.KOf];refine' Mi.zfH KX G ?aC ?pg ?hd ?po ?sa ?a ?i ?l ?c ?k ?b;(case aC|pg|hd|po|sa|a|i|l|c|k=>k_is);(case b=>exact λ_ _ _ _ _ _ us hl=>by obtain ⟨_,_,_,rfl⟩:=uu3 hl;rfl))
    | (show Mi.NwF _ _ _ _ _ [_,_];dsimp only [L2.KOf];refine' Mi.ziU KX G ?aC ?mk ?kc ?a ?i ?l ?c ?k ?b;(case aC|mk|kc|a|i|l|c|k=>k_is);(case b=>exact λ_ _ _ _ _ _ us hl=>by obtain ⟨_,_,rfl⟩:=uu2 hl;rfl))
    | (show Mi.NwF _ _ _ _ _ [_,_,_];dsimp only [L2.KOf];refine' Mi.ziU KX G ?aC ?mk ?kc ?a ?i ?l ?c ?k ?b;(case aC|mk|kc|a|i|l|c|k=>k_is);(case b=>exact λ_ _ _ _ _ _ us hl=>by obtain ⟨_,_,_,rfl⟩:=uu3 hl;rfl))
    | (show Mi.FldF _ _ _ _ _
       refine ⟨λc hc=>?_,λc hc=>?_⟩
       ·simp [FK72.insOf,or_assoc] at hc
        rcases hc with rfl|rfl|rfl
        all_goals
         dsimp only [L2.KOf]
         refine' Mi.zq3 KX G ?aC ?pg ?hd ?po ?sa ?na
         (case aC|pg|hd|po|sa|na=>k_is)
       ·simp [FK72.excOf,or_assoc] at hc
        rcases hc with rfl
        ·dsimp only [L2.KOf]
         refine' Mi.zq4 KX G ?aC ?ga ?hk ?hB ?hd ?no
         (case aC|ga|hk|hB|hd|no=>k_is))
    | (show Mi.FnF _ _ _ _ [_];dsimp only [L2.KOf];refine' Mi.zfG KX G ?a ?l ?c ?k ?b;(case a|l|c|k=>k_is);(case b=>exact λ_ _ _ _ _ _ us hl=>by obtain ⟨_,rfl⟩:=uu1 hl;rfl))
    | (show Mi.FnF _ _ _ _ [_,_];dsimp only [L2.KOf];refine' Mi.zfG KX G ?a ?l ?c ?k ?b;(case a|l|c|k=>k_is);(case b=>exact λ_ _ _ _ _ _ us hl=>by obtain ⟨_,_,rfl⟩:=uu2 hl;rfl))
    | (show Mi.FnF _ _ _ _ [_,_,_];dsimp only [L2.KOf];refine' Mi.zfG KX G ?a ?l ?c ?k ?b;(case a|l|c|k=>k_is);(case b=>exact λ_ _ _ _ _ _ us hl=>by obtain ⟨_,_,_,rfl⟩:=uu3 hl;rfl))
    | (refine' Mi.zq7 KX G ?a;case a=>k_is)
  exact Mi.zq6 T.f_law hmg (λ_ _ _ _ _ _ _=>rfl) (λf fd F base=>FK72.zuG T F) (λns _=>FK72.zv9 ns))
