import PyProof.Rows.All
import Wide.All
import OpenK.AllK
import Wide.FinOn
import Lean
import PyProof.EqAt
import PyProof.EqKinds
import PyProof.TupleCall
import PySem.Challenge.RW_foreknown_k11_what_is_a_value
set_option Elab.async false
set_option linter.all false
set_option maxRecDepth 100000
noncomputable section
abbrev Aa:=PySem.Value->PySem.Shared->Prop
abbrev Ab:=PySem.Str->Option PySem.Value
abbrev Ac:=List (PySem.Addr×PySem.Obj)
abbrev Ad:=List PySem.Str
abbrev Ae:=List PySem.Addr
abbrev Af:=List PySem.Value
def zf:=@PySem.wpAny_bind
def zU:=@PySem.Heap.get?_push_of_some
def zn:=@PySem.wpAny_pure
def zP:=@PySem.Heap.lt_size
def yw:=@PySem.Heap.get?_push_size
def jz:=@PySem.wpAny_field
def jA:=@PySem.wpAny_call_entry
def jd:=@PySem.wpAny_newObj_type
def jn:=@PySem.wpAny_holding
def yE:=@PySem.wpAny_mono
def jV:=@PySem.Heap.get?_update_other
def jK:=@PySem.wpAny_truthy_bool
def lS:=@PySem.lookup_relabel_local
def we:=@PySem.wpAny_rule
def zR:=@List.getElem?_eq_getElem
def gU:=@List.getElem?_set_ne
def zM:=@List.getElem?_eq_some_iff
def wD:=@List.getElem?_set_self
def zG:=@Nat.le_refl
def yf:=@List.size_toArray
def yr:=@List.mem_cons_self
def yF:=@List.mem_cons_of_mem
def yk:=@List.mem_append_right
def gW:=@List.mem_append_left
def zu:=@if_pos
def zt:=@if_neg
def wf:=@List.getElem?_map
def yt:=@List.mem_cons
def je:=@List.drop_eq_getElem_cons
def yL:=@Nat.le_trans
def gX:=@List.getElem_mem
def jB:=@List.length_append
def yG:=@if_false
def jf:=@if_true
def y1:=@Nat.zero_le
def iQ:=@List.mem_of_getElem?
def jL:=@List.length_map
def yR:=@Nat.lt_of_lt_of_le
def ym:=@List.map_cons
def wg:=@List.getElem?_cons_zero
def og:=@List.getElem?_cons_succ
def yx:=@Nat.ne_of_lt
def yA:=@Bool.and_eq_true
def gY:=@List.mem_map
def iR:=@List.mem_append
def jM:=@List.length_cons
def ju:=@List.nodup_cons
def wj:=@List.getElem?_append_left
def jN:=@List.getElem?_append_right
def yn:=@decide_eq_false
def jg:=@decide_eq_true
def iS:=@List.drop_of_length_le
def wm:=@List.lookup_cons
def gZ:=@List.getElem?_eq_none_iff
def jW:=@List.append_assoc
def g0:=@List.mem_range
def wE:=@decide_eq_true_eq
def yS:=@Ne.symm
def wF:=@Nat.lt_succ_self
namespace L2
open PySem PySem.Spec PyProof.Rows
abbrev Key:=Sum Int Str
def dc:Key->Value->Bool
 |.inl k,v=>Value.isInt k v
 |.inr x,v=>Value.isStrOf x v
def rq (w:World):Key->Int
 |.inl k=>hashInt k
 |.inr x=>hashStr w x
def jO:∀{k:Key}{v:Value},dc k v=true->(∃i t,k=Sum.inl i/\v=Value.int i t)\/(∃x t,k=Sum.inr x/\v=Value.str x t)
 |.inl i,v,h=>by
  obtain ⟨t,e⟩:=Value.isInt_shape (k:=i) (v:=v) h
  exact .inl ⟨i,t,rfl,e⟩
 |.inr x,v,h=>by
  obtain ⟨t,e⟩:=Value.isStrOf_shape (x:=x) (v:=v) h
  exact .inr ⟨x,t,rfl,e⟩
def lT (i:Int) (t:Tok):dc (.inl i) (.int i t)=true:=by simp [dc,Value.isInt]
def iT (x:Str) (t:Tok):dc (.inr x) (.str x t)=true:=by simp [dc,Value.isStrOf]
def AI (a b:Int):decide ((Sum.inl a:Key)=Sum.inl b)=(a==b):=by
 by_cases e:a=b
 ·subst e;simp
 ·have h:¬(Sum.inl a:Key)=Sum.inl b:=λq=>e (Sum.inl.inj q)
  rw [yn h]
  exact (beq_eq_false_iff_ne.mpr e).symm
def AJ (a b:Str):decide ((Sum.inr a:Key)=Sum.inr b)=decide (a=b):=by
 by_cases e:a=b
 ·subst e;simp
 ·have h:¬(Sum.inr a:Key)=Sum.inr b:=λq=>e (Sum.inr.inj q)
  rw [yn h,yn e]
def AK (a:Int) (b:Str):decide ((Sum.inl a:Key)=Sum.inr b)=false:=yn (λq=>nomatch q)
def AL (a:Str) (b:Int):decide ((Sum.inr a:Key)=Sum.inl b)=false:=yn (λq=>nomatch q)
def av (prog:Program) (w:World):PySem.KeyKind prog w Key where
 is:=dc
 hash:=rq w
 inj:=λv a b ha hb=>by
  rcases jO ha with ⟨i,t,rfl,rfl⟩|⟨x,t,rfl,rfl⟩
  ·rcases jO hb with ⟨j,u,rfl,e⟩|⟨y,u,rfl,e⟩
   ·injection e with e1 _;rw [e1]
   ·exact nomatch e
  ·rcases jO hb with ⟨j,u,rfl,e⟩|⟨y,u,rfl,e⟩
   ·exact nomatch e
   ·injection e with e1 _;rw [e1]
 byValue:=λk v h=>by
  rcases jO h with ⟨i,t,rfl,rfl⟩|⟨x,t,rfl,rfl⟩<;>rfl
 pyHash:=λhv h=>by
  rcases jO hv with ⟨i,t,rfl,rfl⟩|⟨x,t,rfl,rfl⟩
  ·exact wpAny_pyHash_int h
  ·exact wpAny_pyHash_str h
 eqBool:=λhu hv h=>by
  rcases jO hu with ⟨i,t,rfl,rfl⟩|⟨x,t,rfl,rfl⟩
  ·rcases jO hv with ⟨j,u,rfl,rfl⟩|⟨y,u,rfl,rfl⟩
   ·rw [AI] at h;exact wpAny_eqBool_int h
   ·rw [AK] at h;exact SeqAt.EqAt.int_str i t y u _ _ _ _ h
  ·rcases jO hv with ⟨j,u,rfl,rfl⟩|⟨y,u,rfl,rfl⟩
   ·rw [AL] at h;exact SeqAt.EqAt.str_int x t j u _ _ _ _ h
   ·rw [AJ] at h;exact wpAny_eqBool_str h
 «strs» := λk x t v h=>by
  rcases jO h with ⟨i,u,rfl,e⟩|⟨y,u,rfl,e⟩
  ·exact nomatch e
  ·injection e with e1 _
   subst e1
   cases v<;>rfl
def AO (prog:Program) (w:World) (i:Int) (t:Tok):(av prog w).is (.inl i) (.int i t)=true:=lT i t
def AQ (prog:Program) (w:World) (x:Str) (t:Tok):(av prog w).is (.inr x) (.str x t)=true:=iT x t
inductive V where
 |non|bl (b:Bool)|int (i:Int)|str (x:Str)|byt (b:Array UInt8)|flt (b:UInt64)|ref (a:Addr)|ty (n:String)
 deriving DecidableEq
def RelV:V->Value->Prop
 |.non,u=>u=Value.none
 |.bl b,u=>u=Value.bool b
 |.int i,u=>∃t,u=Value.int i t
 |.str x,u=>∃t,u=Value.str x t
 |.byt b,u=>∃t,u=Value.bytes b t
 |.flt b,u=>∃t,u=Value.float b t
 |.ref a,u=>u=Value.ref a
 |.ty n,u=>u=Value.type n
abbrev Vals:List V->List Value->Prop:=Paired RelV
theorem Vals.length {xs:List V}{us:Af}(r:Vals xs us):xs.length=us.length:=Paired.length r
theorem Vals.get:∀{xs:List V}{us:Af}{i:Nat}{x:V},Vals xs us->xs[i]?=some x->∃u,us[i]?=some u/\RelV x u
 |_,_,_,_,.nil,e=>by simp at e
 |_,_,0,_,.cons r _,e=>by simp at e;subst e;exact ⟨_,rfl,r⟩
 |_,_,i+1,x,.cons _ t,e=>by
  obtain ⟨u,h1,h2⟩:=Vals.get (i:=i) (x:=x) t (by simpa using e)
  exact ⟨u,by simpa using h1,h2⟩
theorem Vals.set {x:V}{u:Value}(r:RelV x u):∀{xs:List V}{us:Af}(i:Nat),Vals xs us->Vals (xs.set i x) (us.set i u)
 |_,_,_,.nil=>.nil
 |_,_,0,.cons _ t=>.cons r t
 |_,_,i+1,.cons q t=>.cons q (Vals.set r i t)
theorem Vals.append:∀{xs ys:List V}{us ws:Af},Vals xs us->Vals ys ws->Vals (xs++ys) (us++ws)
 |_,_,_,_,.nil,s=>s
 |_,_,_,_,.cons r t,s=>.cons r (Vals.append t s)
theorem Vals.take:∀{xs:List V}{us:Af}(n:Nat),Vals xs us->Vals (xs.take n) (us.take n)
 |_,_,0,_=>.nil
 |_,_,_+1,.nil=>.nil
 |_,_,n+1,.cons r t=>.cons r (Vals.take n t)
theorem Vals.drop:∀{xs:List V}{us:Af}(n:Nat),Vals xs us->Vals (xs.drop n) (us.drop n)
 |_,_,0,r=>r
 |_,_,_+1,.nil=>.nil
 |_,_,n+1,.cons _ t=>Vals.drop n t
def cO:Option V->Option Value->Prop
 |some v,some u=>RelV v u
 |none,none=>True
 |_,_=>False
def KV {κ:Type}:List (κ×V)->List (κ×Value)->Prop:=Paired λ(p:κ×V) (q:κ×Value)=>p.1=q.1/\RelV p.2 q.2
def kV:Key->V
 |.inl i=>.int i
 |.inr x=>.str x
inductive HO where
 |lst (xs:List V)
 |tup (xs:List V)
 |dK (kvs:List (Key×V))|dT (kvs:List (List Key×V))
 |set (S:Int->Bool) (n:Nat)
 |ins (C dx:Addr) (fs:List (Str×V))
 |own (x:Addr)
 |xd (fs:List (Str×V))
 |met (f x:Addr)
 |rng (lo hi:Int)
 |frz (o:Obj) (u:HO)
 |tbl (ps:Array Value)
 |ext (φ:Program->World->Heap->Prop)
abbrev Hp:=Addr->Option HO
def upd (H:Hp) (a:Addr) (o:HO):Hp:=λb=>if b=a then some o else H b
def yg {H:Hp}{a:Addr}{o:HO}:upd H a o a=some o:=by unfold upd;rw [zu rfl]
def zw {H:Hp}{a b:Addr}{o:HO}(h:b≠a):upd H a o b=H b:=by unfold upd;rw [zt h]
def AR {H:Hp}{a b:Addr}{o u:HO}(h:H a=some o) (h':H b=some u) (d:o≠u):a≠b:=by
 intro e;subst e;rw [h] at h';exact d (Option.some.inj h')
def jv {H:Hp}{a b:Addr}{o:HO}(h:H a=some o) (h':H b=none):a≠b:=by
 intro e;subst e;rw [h] at h';cases h'
section
variable (P:Program) (w:World)
def aM (H:Hp) (h:Heap) (a:Addr):HO->Prop
 |.lst xs=>xs.length<=sizeLine/\∃(its:Af) (n:Nat),Vals xs its/\h.get? a=some { cls:=.type "list", data:=.seq its.toArray n }
 |.tup xs=>xs.length<=sizeLine/\∃its:Af,Vals xs its/\IsTup h a its.toArray
 |.dK kvs=>kvs.length<=sizeLine/\(a==sysModules)=false/\∃vs,KV kvs vs/\h.DictOf (av P w) a vs
 | .dT kvs=>kvs.length<=sizeLine/\(a==sysModules)=false/\∃xs:List (List Key×Addr×Value),
   Paired (λ(p:List Key×V) (q:List Key×Addr×Value)=>p.1=q.1/\H q.2.1=some (.tup (p.1.map kV))/\RelV p.2 q.2.2) kvs xs /\
   ∃o es ep,h.get? a=some o/\o.ExactDict/\o.data=.dict es ep/\es.toList=xs.map (entryOfKey (tupleKind (av P w)))/\(xs.map (·.1)).Nodup
 |.set S n=>h.SetOf (intKind P w) a S n
 | .ins C dx fs=>H dx=some (.own a)/\fs.length<=1000/\dx≠a/\h.get? a=some (PySem.W.instObj C dx) /\
   ∃mA,h.Ns1 dx mA/\(∀f,cO (fs.lookup f) (mA f))/\PySem.Within mA (fs.map (·.1))
 |.own _=>∃o,h.get? a=some o
 |.xd fs=>∃mA,h.Ns1 a mA/\∀f,cO (fs.lookup f) (mA f)
 |.rng lo hi=>∃t u v,h.get? a=some { cls:=.type "range", data:=.fields #[.int lo t,.int hi u,.int 1 v] }
 |.frz o u=>h.get? a=some o/\aM H h a u
 |.tbl ps=>h.get? a=some { cls:=.none,data:=.fields ps }
 |.met f x=>h.get? a=some (PySem.W.methodObj (.ref f) (.ref x))
 |.ext φ=>φ P w h/\(∃o,h.get? a=some o)/\∀h1 h2:Heap,φ P w h1->(∀o,h1.get? a=some o->h2.get? a=some o)->φ P w h2
def bq (H:Hp) (h:Heap):Prop:=∀a o,H a=some o->aM P w H h a o
end
section
variable {P:Program} {w:World} {H H':Hp} {h h':Heap} {a:Addr} {o:HO}
theorem aM.lt (x:aM P w H h a o):a<h.objs.size:=by
 cases o with
 |lst xs=>obtain ⟨_,_,_,_,e⟩:=x;exact zP e
 |tup xs=>obtain ⟨_,_,_,p⟩:=x;exact p.lt
 |dK kvs=>obtain ⟨_,_,_,_,o,_,_,e,_⟩:=x;exact zP e
 |dT kvs=>obtain ⟨_,_,_,_,o,_,_,e,_⟩:=x;exact zP e
 |set S n=>obtain ⟨o,_,_,_,e,_⟩:=x;exact zP e
 |ins C dx fs=>obtain ⟨_,_,_,e,_⟩:=x;exact zP e
 |own y=>obtain ⟨_,e⟩:=x;exact zP e
 |xd fs=>obtain ⟨_,⟨_,_,_,e,_⟩,_⟩:=x;exact zP e
 |rng lo hi=>obtain ⟨_,_,_,e⟩:=x;exact zP e
 |frz ob u=>obtain ⟨e,_⟩:=x;exact zP e
 |tbl ps=>exact zP (show h.get? a=some _ from x)
 |met f y=>exact zP (show h.get? a=some _ from x)
 |ext φ=>obtain ⟨_,⟨_,e⟩,_⟩:=x;exact zP e
theorem Paired.mapP {α β:Type}{F G:α->β->Prop}:∀{aB:List α}{aD:List β},Paired F aB aD->(∀a b,F a b->G a b)->Paired G aB aD
 |_,_,.nil,_=>.nil
 |_,_,.cons r t,f=>.cons (f _ _ r) (Paired.mapP t f)
def aM.stay (x:aM P w H h a o) (k:∀b u,(b=a\/H b=some (.own a))->h.get? b=some u->h'.get? b=some u)
  (ho:∀b,H b=some (.own a)->H' b=some (.own a)) (ht:∀b xs,H b=some (.tup xs)->H' b=some (.tup xs)):aM P w H' h' a o:=by
 induction o with
 |lst xs=>obtain ⟨z,its,n,r,e⟩:=x;exact ⟨z,its,n,r,k _ _ (.inl rfl) e⟩
 |tup xs=>obtain ⟨z,its,r,ob,e,c⟩:=x;exact ⟨z,its,r,ob,k _ _ (.inl rfl) e,c⟩
 |dK kvs=>obtain ⟨z,y,vs,r,ob,es,ep,e,c⟩:=x;exact ⟨z,y,vs,r,ob,es,ep,k _ _ (.inl rfl) e,c⟩
 |dT kvs =>
  obtain ⟨z,y,xs,r,ob,es,ep,e,c⟩:=x
  exact ⟨z,y,xs,Paired.mapP r λp q z=>⟨z.1,ht _ _ z.2.1,z.2.2⟩,ob,es,ep,k _ _ (.inl rfl) e,c⟩
 |set S n=>obtain ⟨ob,es,ep,t,e,c⟩:=x;exact ⟨ob,es,ep,t,k _ _ (.inl rfl) e,c⟩
 |ins C dx fs =>
  obtain ⟨d,z,ne,e,mA,⟨od,es,ep,e2,c⟩,r⟩:=x
  exact ⟨ho _ d,z,ne,k _ _ (.inl rfl) e,mA,⟨od,es,ep,k _ _ (.inr d) e2,c⟩,r⟩
 |own y=>obtain ⟨ob,e⟩:=x;exact ⟨ob,k _ _ (.inl rfl) e⟩
 |xd fs=>obtain ⟨mA,⟨od,es,ep,e,c⟩,r⟩:=x;exact ⟨mA,⟨od,es,ep,k _ _ (.inl rfl) e,c⟩,r⟩
 |rng lo hi=>obtain ⟨t,u,v,e⟩:=x;exact ⟨t,u,v,k _ _ (.inl rfl) e⟩
 |frz ob u ih=>obtain ⟨e,q⟩:=x;exact ⟨k _ _ (.inl rfl) e,ih q⟩
 |tbl ps =>
  have e:h.get? a=some { cls:=.none,data:=.fields ps }:=x
  show h'.get? a=some { cls:=.none,data:=.fields ps }
  exact k a _ (.inl rfl) e
 |met f y =>
  have e:h.get? a=some (PySem.W.methodObj (.ref f) (.ref y)):=x
  show h'.get? a=some (PySem.W.methodObj (.ref f) (.ref y))
  exact k a _ (.inl rfl) e
 |ext φ=>obtain ⟨p,⟨o,e⟩,st⟩:=x;exact ⟨st _ _ p λo q=>k _ _ (.inl rfl) q,⟨o,k _ _ (.inl rfl) e⟩,st⟩
theorem bq.lt (x:bq P w H h) (e:H a=some o):a<h.objs.size:=(x a o e).lt
def bq.fresh (x:bq P w H h) (e:h.objs.size<=a):H a=none:=by
 cases q:H a with
 |none=>rfl
 |some u=>exact absurd (yR (x.lt q) e) (Nat.lt_irrefl _)
def bq.kept (x:bq P w H h) (k:∀b u,h.get? b=some u->h'.get? b=some u):bq P w H h':=λa o e =>
 (x a o e).stay (λb u _ q=>k b u q) (λ_ q=>q) λ_ _ q=>q
def bq.laid (x:bq P w H h) (k:∀b u,h.get? b=some u->h'.get? b=some u) (hp:h.objs.size<=a) (new:aM P w (upd H a o) h' a o):bq P w (upd H a o) h':=λb u e=>by
 have hn:=x.fresh hp
 by_cases hb:b=a
 ·subst hb;rw [yg] at e;cases e;exact new
 ·rw [zw hb] at e
  exact (x b u e).stay (λc v _ q=>k c v q) (λc q=>by rw [zw (jv q hn)];exact q) λc xs q=>by rw [zw (jv q hn)];exact q
end
def Rd (H:Hp) (a:Addr) (u:HO):Prop:=H a=some u\/∃o,H a=some (.frz o u)
def Rd.ok {P:Program}{w:World}{H:Hp}{h:Heap}{a:Addr}{u:HO}(r:Rd H a u) (x:bq P w H h):aM P w H h a u:=by
 rcases r with r|⟨o,r⟩
 ·exact x a u r
 ·obtain ⟨_,q⟩:=x a _ r
  exact q
def fX:Option HO->Prop
 |some (.lst _)=>True
 |some (.dK _)=>True
 |some (.dT _)=>True
 |some (.set _ _)=>True
 |some (.ins _ _ _)=>True
 |some (.ext _)=>True
 |_=>False
section
variable {P:Program} {w:World} {H:Hp} {h h':Heap} {x e:Addr} {o':HO}
def bq.write (ok:bq P w H h) (mu:fX (H x)) (he:e=x\/H e=some (.own x)) (k:∀b u,b≠e->h.get? b=some u->h'.get? b=some u) (g6:∃u,h'.get? e=some u)
  (new:aM P w (upd H x o') h' x o'):bq P w (upd H x o') h':=λb u q=>by
 have nU:∀c y,H c=some (.own y)->c≠x:=λc y r z=>by subst z;rw [r] at mu;exact mu
 have rz:∀c xs,H c=some (.tup xs)->c≠x:=λc xs r z=>by subst z;rw [r] at mu;exact mu
 by_cases hb:b=x
 ·subst hb;rw [yg] at q;cases q;exact new
 ·rw [zw hb] at q
  by_cases hbe:b=e
  ·have q':H b=some (.own x):=by
    rcases he with z|z
    ·exact absurd (hbe.trans z) hb
    ·rw [hbe];exact z
   rw [q] at q';cases q'
   obtain ⟨v,hv⟩:=g6
   exact ⟨v,by rw [hbe];exact hv⟩
  ·refine (ok b u q).stay (λc v hc r=>k c v ?_ r) (λc r=>by rw [zw (nU c b r)];exact r) λc xs r=>by rw [zw (rz c xs r)];exact r
   rcases hc with rfl|hc
   ·exact hbe
   ·rintro rfl
    rcases he with z|z
    ·exact nU c b hc z
    ·rw [hc] at z;cases z;exact hb rfl
end
structure Un (fs ex:Ae) (H H':Hp) (h h':Heap):Prop where
 keep:∀b o,h.get? b=some o->H b=none->b∉fs->b∉ex->h'.get? b=some o
 slot:∀b o,h.get? b=some o->H b=none->b∈fs->b∉ex->∃sl,h'.get? b=some { o with slots:=sl }
 free:∀b o,h.get? b=some o->H b=none->b∉ex->H' b=none
 there:∀b o,h.get? b=some o->b∉ex->∃o',h'.get? b=some o'
 tups:∀b xs,H b=some (.tup xs)->H' b=some (.tup xs)
 frzs:∀b o u,H b=some (.frz o u)->H' b=some (.frz o u)
 tbls:∀b ps,H b=some (.tbl ps)->∃more,H' b=some (.tbl (ps++more))
section
variable {fs oh ex rA:Ae} {H H1:Hp} {h h1 h':Heap} {a x e:Addr} {o:HO}
def Un.any (u:Un fs ex H H1 h h1) {b:Addr}{ob:Obj}(q:h.get? b=some ob) (n:H b=none) (hx:b∉ex):∃sl,h1.get? b=some { ob with slots:=sl }:=by
 by_cases hb:b∈fs
 ·exact u.slot b ob q n hb hx
 ·exact ⟨ob.slots,u.keep b ob q n hb hx⟩
def Un.kept (k:∀b u,h.get? b=some u->h'.get? b=some u):Un fs ex H H h h' :=
 ⟨λb ob q _ _ _=>k b ob q,λb ob q _ _ _=>⟨ob.slots,k b ob q⟩,λ_ _ _ n _=>n,λb ob q _=>⟨ob,k b ob q⟩,λ_ _ q=>q,λ_ _ _ q=>q,λ_ ps q=>⟨#[],by rw [q];simp⟩⟩
def Un.refl:Un fs ex H H h h:=Un.kept λ_ _ q=>q
def Un.laid (k:∀b u,h.get? b=some u->h'.get? b=some u) (hp:h.objs.size<=a) (hn:H a=none):Un fs ex H (upd H a o) h h' where
 keep:=λb u q _ _ _=>k b u q
 slot:=λb u q _ _ _=>⟨u.slots,k b u q⟩
 free:=λb u q n _=>by rw [zw (yx (yR (zP q) hp))];exact n
 there:=λb u q _=>⟨u,k b u q⟩
 tups:=λb xs q=>by rw [zw (jv q hn)];exact q
 frzs:=λb u xs q=>by rw [zw (jv q hn)];exact q
 tbls:=λb ps q=>⟨#[],by rw [zw (jv q hn),q];simp⟩
def Un.write (mu:fX (H x)) (he:e=x\/H e=some (.own x)) (k:∀b u,b≠e->h.get? b=some u->h'.get? b=some u) (g6:∃u,h'.get? e=some u):Un fs ex H (upd H x o) h h':=by
 have hx:∀b,H b=none->b≠x:=λb n z=>by subst z;rw [n] at mu;exact mu
 have hb:∀b,H b=none->b≠e:=λb n z=>by
  subst z
  rcases he with r|r
  ·exact hx b n r
  ·rw [n] at r;cases r
 have hm:∀b u,H b=some u->¬fX (some u)->b≠x:=λb u q nm z=>by subst z;rw [q] at mu;exact nm mu
 refine ⟨λb u q n _ _=>k b u (hb b n) q,λb u q n _ _=>⟨u.slots,k b u (hb b n) q⟩,λb u q n _=>by rw [zw (hx b n)];exact n,λb u q _=>?_,
  λb xs q=>by rw [zw (hm b _ q λz=>z)];exact q,λb u xs q=>by rw [zw (hm b _ q λz=>z)];exact q,λb ps q=>⟨#[],by rw [zw (hm b _ q λz=>z),q];simp⟩⟩
 by_cases hbe:b=e
 ·subst hbe;exact g6
 ·exact ⟨u,k b u hbe q⟩
def Un.mono (u:Un fs ex H H1 h h1) (hs:∀b∈fs,b∈oh) (hx:∀b∈ex,b∈rA):Un oh rA H H1 h h1 :=
 ⟨λb ob q n hb he=>u.keep b ob q n (λz=>hb (hs b z)) λz=>he (hx b z),λ_ _ q n _ he=>u.any q n λz=>he (hx _ z),λb ob q n he=>u.free b ob q n λz=>he (hx b z),λb ob q he=>u.there b ob q λz=>he (hx b z),u.tups,u.frzs,u.tbls⟩
end
def lU (h:Heap) (H:Hp):Ae:=(List.range h.objs.size).filter λa=>(H a).isSome
def dg (h:Heap) (H:Hp):Heap:=PySem.W.hideAll h (lU h H)
def AU (h:Heap) (H:Hp):(dg h H).objs.size=h.objs.size:=PySem.W.hideAll_size _ _
def AV {h:Heap}{H:Hp}{b:Addr}{o:Obj}(e:h.get? b=some o) (n:H b=none):(dg h H).get? b=some o :=
 PySem.W.hideAll_get _ e λhm=>by
  have q:(H b).isSome=true:=(List.mem_filter.mp hm).2
  rw [n] at q;simp at q
def AW {h:Heap}{H:Hp}{b:Addr}{o:Obj}(e:(dg h H).get? b=some o):h.get? b=some o/\H b=none:=by
 have e':h.get? b=some o:=PySem.W.of_hideAll (lU h H) e
 refine ⟨e',?_⟩
 cases q:H b with
 |none=>rfl
 |some x =>
  have hm:b∈lU h H:=List.mem_filter.mpr ⟨g0.mpr (zP e'),by simp [q]⟩
  have z:(dg h H).get? b=none:=PySem.W.hideAll_none (lU h H) hm
  rw [z] at e;cases e
def iU (g h:Heap) (L:Addr):Ac:=(List.range h.objs.size).filterMap λa=>if a=L\/(g.get? a).isSome=true then none else (h.get? a).map λo=>(a,o)
def rest (g h:Heap) (L d:Addr):Ac:=(iU g h L).filter λp=>decide (p.1≠d)
structure Mod (K:PySem.W.Frag) (mg:Ab) (base:Heap):Prop where
 kin:K.In base
 glob:base.Ns mainGlobals mg
 blt:∃mb,base.Ns builtinsNs mb/\∀x:Str,x ≠ "__name__" -> mb x=bootBuiltins x
 nolimit:base.NoLimit
structure Cx where
 prog:Program
 w:World
 K:PySem.W.Frag
 mg:Ab
 base:Heap
 A:Around
 N:Ad
 s₀:Shared
 H₀:Hp
 env:Env
 outer:List Env
 stack:List Env
 ex:Ae
 fn:Str->Bool
 calm:Bool
 pn:Ac
 xe:Aa
def bU (l:List Env):Ae:=l.filterMap (·.frame)
abbrev Cx.fs (X:Cx):Ae:=bU X.outer
def lV (sc:Scope) (x:Str):Prop:=sc.names.lookup x=some .local\/sc.names.lookup x=some .cell\/sc.names.lookup x=some .free
def Loc (sc:Scope) (x:Str):Prop:=sc.names.lookup x=some .local\/sc.names.lookup x=some .cell
def Look (env:Env) (h:Heap) (m:Ab) (x:Str) (u:Value):Prop :=
 (env.kindOf x=some .local/\m x=some u)\/((env.kindOf x=some .cell\/env.kindOf x=some .free)/\∃c,env.cells.lookup x=some c/\h.IsCell c (some u))
structure Cx.Ok (X:Cx):Prop where
 mod:Mod X.K X.mg X.base
 kind:X.env.scope.kind=.function
 glob:X.env.globals=mainGlobals
 blt:X.env.builtins=builtinsNs
 above:X.s₀.heap.objs.size<=X.env.locals
 inj:∀x y c,X.env.cells.lookup x=some c->X.env.cells.lookup y=some c->x=y
 has:∀x,(X.env.kindOf x=some .cell\/X.env.kindOf x=some .free)->∃c,X.env.cells.lookup x=some c
 cab:∀x c,X.fn x=true->X.env.cells.lookup x=some c->X.s₀.heap.objs.size<=c
 hd:X.calm=true->X.A.handled=none
 frames:X.A.frames=some X.stack
 stk:X.stack=X.outer\/(X.stack=X.env::X.outer/\X.env.frame=some X.env.locals)
 exf:∀b∈X.ex,b≠X.env.locals/\∀x c,X.env.cells.lookup x=some c->c≠b
 bs:∀b o,X.base.get? b=some o->X.s₀.heap.get? b=some o/\X.H₀ b=none
 bsz:X.base.objs.size<=X.s₀.heap.objs.size
 noex:∀b o,X.base.get? b=some o->b∉X.ex
 exfs:∀b∈X.ex,b∉X.fs
 funs:X.s₀.heap.FunFrames X.base X.outer
 frf:∀b∈X.fs,X.H₀ b=none
structure Inv (X:Cx) (pins:Ac) (U:List (Option V)) (H:Hp) (s:Shared):Prop where
 ok:X.Ok
 os:s.os=X.s₀.os
 bare:AllBare s.gens
 base:Un X.fs X.ex X.H₀ H X.s₀.heap s.heap
 loc:∃m,s.heap.Ns X.env.locals m/\∀(i:Nat) (x:Str) (v:V),X.N[i]?=some x->U[i]?=some (some v)->lV X.env.scope x->∃u,RelV v u/\Look X.env s.heap m x u
 cell:∀x c,X.env.cells.lookup x=some c->∃v,s.heap.IsCell c v
 free:H X.env.locals=none
 freeC:∀x c,X.env.cells.lookup x=some c->H c=none
 pin:∀p∈X.pn++pins,s.heap.get? p.1=some p.2/\H p.1=none/\p.1≠X.env.locals/\p.1∉X.fs/\∀v,p.2.data ≠ .cell v
 hok:bq X.prog X.w H s.heap
 len:U.length=X.N.length
section
variable {X:Cx} {pins:Ac} {U:List (Option V)} {H H':Hp} {s:Shared} {h':Heap}
def Cx.Ok.nofr (ok:X.Ok) {b:Addr}{o:Obj}(e:X.base.get? b=some o):b∉X.fs:=λhb=>by
 have:=(ok.funs.mem hb).1
 rw [e] at this;cases this
theorem Inv.bs (I:Inv X pins U H s):∀b o,X.base.get? b=some o->s.heap.get? b=some o/\H b=none:=λb o e =>
 ⟨I.base.keep b o (I.ok.bs b o e).1 (I.ok.bs b o e).2 (I.ok.nofr e) (I.ok.noex b o e),I.base.free b o (I.ok.bs b o e).1 (I.ok.bs b o e).2 (I.ok.noex b o e)⟩
def Inv.bk (I:Inv X pins U H s):∀b o,X.base.get? b=some o->s.heap.get? b=some o:=λb o e=>(I.bs b o e).1
theorem Inv.mod (I:Inv X pins U H s):Mod X.K X.mg X.base:=I.ok.mod
def Inv.kIn (I:Inv X pins U H s):X.K.In s.heap:=I.ok.mod.kin.keeps I.bk
def Inv.fr (I:Inv X pins U H s):∃m,Fr X.base X.env.locals s.heap m :=
 let ⟨m,hn,_⟩:=I.loc
 ⟨m,hn,I.bk,yL I.ok.bsz I.ok.above⟩
theorem Inv.lt (I:Inv X pins U H s):X.env.locals<s.heap.objs.size:=let ⟨_,hn,_⟩:=I.loc;hn.lt
def Inv.sz (I:Inv X pins U H s):X.s₀.heap.objs.size<=s.heap.objs.size:=yL I.ok.above (Nat.le_of_lt I.lt)
def Inv.nofs (I:Inv X pins U H s) {a:Addr}(h:s.heap.objs.size<=a):a∉X.fs:=λhb=>by
 obtain ⟨_,o,ho,_⟩:=I.ok.funs.mem hb
 exact absurd (yR (zP ho) (yL I.sz h)) (Nat.lt_irrefl _)
def Inv.cne (I:Inv X pins U H s):∀x c,X.env.cells.lookup x=some c->c≠X.env.locals:=λx c e z=>by
 obtain ⟨v,o,ho,hd⟩:=I.cell x c e
 obtain ⟨m,⟨o',es,ep,ho',eX,_⟩,_⟩:=I.loc
 rw [z,ho'] at ho;cases ho;rw [eX] at hd;cases hd
theorem Inv.funs (I:Inv X pins U H s):s.heap.FunFrames X.base X.outer:=by
 have all:∀(l:List Env),(∀b∈bU l,b∈X.fs)->X.s₀.heap.FunFrames X.base l->s.heap.FunFrames X.base l:=by
  intro l
  induction l with
  |nil=>intro _ _;trivial
  |cons env r ih =>
   intro hs hl
   obtain ⟨hk,⟨L,o,hf,hn,ho,hd⟩,hr⟩:=hl
   have hL:L∈X.fs:=hs L (by unfold bU;rw [List.filterMap_cons,hf];exact yr)
   obtain ⟨sl,e⟩:=I.base.slot L o ho (I.ok.frf L hL) hL λz=>I.ok.exfs L z hL
   exact ⟨hk,⟨L,_,hf,hn,e,hd⟩,ih (λb hb=>hs b (by unfold bU;rw [List.filterMap_cons,hf];exact yF _ hb)) hr⟩
 exact all X.outer (λ_ hb=>hb) I.ok.funs
theorem Inv.stack (I:Inv X pins U H s):s.heap.FunFrames X.base X.stack:=by
 rcases I.ok.stk with e|⟨e,hf⟩
 ·rw [e];exact I.funs
 ·rw [e]
  obtain ⟨m,hn,_⟩:=I.loc
  refine .cons (by rw [I.ok.kind];decide) hf hn ?_ I.funs
  exact Heap.get?_none_of_le (yL I.ok.bsz I.ok.above)
def Inv.stkSub (I:Inv X pins U H s):∀b∈bU X.stack,b∈X.env.locals::X.fs:=λb hb=>by
 rcases I.ok.stk with e|⟨e,hf⟩
 ·rw [e] at hb;exact yF _ hb
 ·rw [e] at hb
  unfold bU at hb
  rw [List.filterMap_cons,hf] at hb
  exact hb
def Inv.stkFree (I:Inv X pins U H s):∀b∈bU X.stack,H b=none:=λb hb=>by
 rcases yt.mp (I.stkSub b hb) with e|hb
 ·rw [e];exact I.free
 ·obtain ⟨_,o,ho,_⟩:=I.ok.funs.mem hb
  exact I.base.free b o ho (I.ok.frf b hb) λz=>I.ok.exfs b z hb
def Inv.step {g':Array GenState}{t':Nat}{d':Drawn}{ch:Ae}(I:Inv X pins U H s)
  (eM:∀b∈ch,(b∈X.ex\/X.s₀.heap.objs.size<=b)/\b≠X.env.locals/\(∀x c,X.env.cells.lookup x=some c->c≠b)/\∀p∈X.pn++pins,p.1≠b)
  (keep:∀b o,b≠X.env.locals->b∉X.fs->b∉ch->s.heap.get? b=some o->H b=none->h'.get? b=some o)
  (slot:∀b o,b≠X.env.locals->b∈X.fs->b∉ch->s.heap.get? b=some o->H b=none->∃sl,h'.get? b=some { o with slots:=sl }) (free:∀b o,b∉ch->s.heap.get? b=some o->H b=none->H' b=none)
  (there:∀b o,b∉ch->s.heap.get? b=some o->∃o',h'.get? b=some o')
  (tups:∀b xs,H b=some (.tup xs)->H' b=some (.tup xs)) (frzs:∀b o u,H b=some (.frz o u)->H' b=some (.frz o u)) (tbls:∀b ps,H b=some (.tbl ps)->∃more,H' b=some (.tbl (ps++more)))
  (ns:∀m,s.heap.Ns X.env.locals m->h'.Ns X.env.locals m) (hok:bq X.prog X.w H' h') (hg:AllBare g') :
  Inv X pins U H' { s with heap:=h',gens:=g',drawn:=d',toks:=t' }:=by
 have rB:∀b o,X.s₀.heap.get? b=some o->b≠X.env.locals:=λb o e=>yx (yR (zP e) I.ok.above)
 have eO:∀b o,X.s₀.heap.get? b=some o->b∉X.ex->b∉ch:=λb o e hx hb=>by
  rcases (eM b hb).1 with z|z
  ·exact hx z
  ·exact absurd (yR (zP e) z) (Nat.lt_irrefl _)
 have cellK:∀x c,X.env.cells.lookup x=some c->∀v,s.heap.IsCell c v->h'.IsCell c v:=λx c e v ⟨o,ho,hd⟩=>by
  have iV:c∉ch:=λz=>(eM c z).2.2.1 x c e rfl
  by_cases hc:c∈X.fs
  ·obtain ⟨sl,q⟩:=slot c o (I.cne x c e) hc iV ho (I.freeC x c e)
   exact ⟨_,q,hd⟩
  ·exact ⟨o,keep c o (I.cne x c e) hc iV ho (I.freeC x c e),hd⟩
 refine ⟨I.ok,I.os,hg,⟨λb o e n hb hx=>?_,λb o e n hb hx=>?_,λb o e n hx=>?_,λb o e hx=>?_,λb xs e=>tups b xs (I.base.tups b xs e),λb o xs e=>frzs b o xs (I.base.frzs b o xs e),λb ps e=>?_⟩,?_,λx c e=>?_,?_,λx c e=>?_,λp hp=>?_,hok,I.len⟩
 ·exact keep b o (rB b o e) hb (eO b o e hx) (I.base.keep b o e n hb hx) (I.base.free b o e n hx)
 ·obtain ⟨sl,e1⟩:=I.base.slot b o e n hb hx
  obtain ⟨AX,e2⟩:=slot b _ (rB b o e) hb (eO b o e hx) e1 (I.base.free b o e n hx)
  exact ⟨AX,e2⟩
 ·obtain ⟨o',e1⟩:=I.base.there b o e hx
  exact free b o' (eO b o e hx) e1 (I.base.free b o e n hx)
 ·obtain ⟨o',e1⟩:=I.base.there b o e hx
  exact there b o' (eO b o e hx) e1
 ·obtain ⟨m1,e1⟩:=I.base.tbls b ps e
  obtain ⟨m2,e2⟩:=tbls b _ e1
  exact ⟨m1++m2,by rw [e2,Array.append_assoc]⟩
 ·obtain ⟨m,hn,hl⟩:=I.loc
  refine ⟨m,ns m hn,λi x v e1 e2 e3=>?_⟩
  obtain ⟨u,r,l⟩:=hl i x v e1 e2 e3
  refine ⟨u,r,?_⟩
  rcases l with l|⟨k,c,e,z⟩
  ·exact .inl l
  ·exact .inr ⟨k,c,e,cellK x c e _ z⟩
 ·obtain ⟨v,z⟩:=I.cell x c e
  exact ⟨v,cellK x c e v z⟩
 ·obtain ⟨m,⟨o,_,_,ho,_⟩,_⟩:=I.loc
  exact free _ o (λz=>(eM _ z).2.1 rfl) ho I.free
 ·obtain ⟨v,o,ho,hd⟩:=I.cell x c e
  exact free c o (λz=>(eM c z).2.2.1 x c e rfl) ho (I.freeC x c e)
 ·obtain ⟨e,n,ne,nf,d⟩:=I.pin p hp
  have iV:p.1∉ch:=λz=>(eM p.1 z).2.2.2 p hp rfl
  exact ⟨keep p.1 p.2 ne nf iV e n,free p.1 p.2 iV e n,ne,nf,d⟩
def Inv.un {t':Nat}(I:Inv X pins U H s) (u:Un X.fs [] H H' s.heap h') (hok:bq X.prog X.w H' h'):Inv X pins U H' { s with heap:=h',toks:=t' }:=by
 obtain ⟨m,⟨o,es,ep,ho,r⟩,_⟩:=id I.loc
 obtain ⟨sl,hL⟩:=u.any ho I.free (by simp)
 exact I.step (g':=s.gens) (d':=s.drawn) (ch:=[]) (λ_ z=>nomatch z) (λb o _ hb _ e n=>u.keep b o e n hb (by simp)) (λb o _ hb _ e n=>u.slot b o e n hb (by simp)) (λb o _ e n=>u.free b o e n (by simp)) (λb o _ e=>u.there b o e (by simp)) u.tups u.frzs u.tbls (λm' hm=>by
  obtain ⟨o',lW,fY,ho',r'⟩:=hm
  rw [ho] at ho';cases ho'
  exact ⟨_,lW,fY,hL,r'⟩) hok I.bare
def Inv.call {g':Array GenState}{t':Nat}{d':Drawn}{ch:Ae}(I:Inv X pins U H s) (u:Un (bU X.stack) ch H H' s.heap h') (hok:bq X.prog X.w H' h') (hg:AllBare g')
  (eM:∀b∈ch,(b∈X.ex\/X.s₀.heap.objs.size<=b)/\b≠X.env.locals/\(∀x c,X.env.cells.lookup x=some c->c≠b)/\∀p∈X.pn++pins,p.1≠b) :
  Inv X pins U H' { s with heap:=h',gens:=g',drawn:=d',toks:=t' }:=by
 obtain ⟨m,⟨o,es,ep,ho,r⟩,_⟩:=id I.loc
 obtain ⟨sl,hL⟩:=u.any ho I.free λz=>(eM _ z).2.1 rfl
 exact I.step (ch:=ch) eM (λb o hL hb hc e n=>u.keep b o e n (λz=>(yt.mp (I.stkSub b z)).elim hL hb) hc) (λb o _ _ hc e n=>u.any e n hc) (λb o hc e n=>u.free b o e n hc) (λb o hc e=>u.there b o e hc) u.tups u.frzs u.tbls (λm' hm=>by
  obtain ⟨o',lW,fY,ho',r'⟩:=hm
  rw [ho] at ho';cases ho'
  exact ⟨_,lW,fY,hL,r'⟩) hok hg
def Inv.turned {t':Nat}{it:Addr}(I:Inv X pins U H s) (k:∀b o,b≠it->s.heap.get? b=some o->h'.get? b=some o) (hn:H it=none) (hL:it≠X.env.locals)
  (h1:it∈X.ex\/X.s₀.heap.objs.size<=it) (h2:∀x c,X.env.cells.lookup x=some c->c≠it) (h3:∀p∈X.pn++pins,p.1≠it):Inv X pins U H { s with heap:=h',toks:=t' }:=by
 have rD:∀b u,H b=some u->b≠it:=λb u e z=>by rw [z,hn] at e;cases e
 refine I.step (g':=s.gens) (d':=s.drawn) (ch:=[it]) (λb hb=>?_) (λb o _ _ hc e _=>k b o (λz=>hc (by simp [z])) e) (λb o _ _ hc e _=>⟨o.slots,k b o (λz=>hc (by simp [z])) e⟩) (λ_ _ _ _ n=>n)
  (λb o hc e=>⟨o,k b o (λz=>hc (by simp [z])) e⟩) (λ_ _ e=>e) (λ_ _ _ e=>e) (λb ps e=>⟨#[],by rw [e];simp⟩) (λm hm=>?_) (λb u e=>?_) I.bare
 ·have e:b=it:=by simpa using hb
  subst e
  exact ⟨h1,hL,h2,h3⟩
 ·obtain ⟨o,es,ep,ho,r⟩:=hm
  exact ⟨o,es,ep,k _ o (yS hL) ho,r⟩
 ·refine (I.hok b u e).stay (λc v hc q=>k c v ?_ q) (λ_ q=>q) λ_ _ q=>q
  rcases hc with z|z
  ·rw [z];exact rD b u e
  ·exact rD c _ z
def Inv.tok (I:Inv X pins U H s) (t:Nat):Inv X pins U H { s with toks:=t }:=I.un (h':=s.heap) (t':=t) Un.refl I.hok
theorem Inv.kept {t':Nat}(I:Inv X pins U H s) (k:∀b u,s.heap.get? b=some u->h'.get? b=some u):Inv X pins U H { s with heap:=h',toks:=t' }:=I.un (Un.kept k) (I.hok.kept k)
theorem Inv.laid {a:Addr}{o:HO}{t':Nat}(I:Inv X pins U H s) (k:∀b u,s.heap.get? b=some u->h'.get? b=some u) (hp:s.heap.objs.size<=a) (new:aM X.prog X.w (upd H a o) h' a o) :
  Inv X pins U (upd H a o) { s with heap:=h',toks:=t' }:=I.un (Un.laid k hp (I.hok.fresh hp)) (I.hok.laid k hp new)
theorem Inv.write {x e:Addr}{o:HO}{t':Nat}(I:Inv X pins U H s) (mu:fX (H x)) (he:e=x\/H e=some (.own x)) (k:∀b u,b≠e->s.heap.get? b=some u->h'.get? b=some u) (g6:∃u,h'.get? e=some u)
  (new:aM X.prog X.w (upd H x o) h' x o):Inv X pins U (upd H x o) { s with heap:=h',toks:=t' }:=I.un (Un.write mu he k g6) (I.hok.write mu he k g6 new)
def Inv.weak {ag:List (Option V)}(I:Inv X pins U H s) (hl:ag.length=U.length) (w:∀(i:Nat) v,ag[i]?=some (some v)->U[i]?=some (some v)):Inv X pins ag H s :=
 ⟨I.ok,I.os,I.bare,I.base,let ⟨m,hn,eY⟩:=I.loc;⟨m,hn,λi x v e1 e2 e3=>eY i x v e1 (w i v e2) e3⟩,I.cell,I.free,I.freeC,I.pin,I.hok,hl.trans I.len⟩
def Inv.pins_of {pins':Ac}(I:Inv X pins U H s) (h:∀p∈pins',s.heap.get? p.1=some p.2/\H p.1=none/\p.1≠X.env.locals/\p.1∉X.fs/\∀v,p.2.data ≠ .cell v):Inv X pins' U H s :=
 ⟨I.ok,I.os,I.bare,I.base,I.loc,I.cell,I.free,I.freeC,λp hp=>(iR.mp hp).elim (λz=>I.pin p (gW _ z)) (h p),I.hok,I.len⟩
def rE {N:Ad}(hN:N.Nodup) {i j:Nat}{x:Str}(a:N[i]?=some x) (b:N[j]?=some x):i=j:=by
 obtain ⟨h1,e1⟩:=zM.mp a
 obtain ⟨h2,e2⟩:=zM.mp b
 exact (List.getElem_inj hN).mp (e1.trans e2.symm)
def AY {M:Model}{A:Around}{E:Aa}{i:Nat}{x:Str}{v:V}{u:Value}{Q:Unit->Shared->Prop}(I:Inv X pins U H s) (hN:X.N.Nodup) (hi:X.N[i]?=some x) (hx:Loc X.env.scope x) (r:RelV v u)
  (h:∀s',Inv X pins (U.set i (some v)) H s'->(∃a,Heap.SameBut a s.heap s'.heap/\(a=X.env.locals\/X.env.cells.lookup x=some a))->Q () s') (hf:X.fn x=true\/X.env.scope.names.lookup x=some .local:=by first|exact .inl rfl|exact .inr rfl|assumption):wpAny M A (storeName X.env x u) Q E s:=by
 obtain ⟨m,hn,hl⟩:=id I.loc
 have rF:(X.env.scope.kind == .class||(X.env.scope.kind == .module&&X.env.locals != X.env.globals))=false:=by rw [I.ok.kind];rfl
 have aC:i<U.length:=by rw [I.len];exact (zM.mp hi).1
 have cne:=I.cne
 have tracked:∀{a:Addr} {h':Heap},(∃o,s.heap.get? a=some o/\H a=none)->Heap.SameBut a s.heap h'->bq X.prog X.w H h':=λ{a h'} ha hs b ob e=>by
  obtain ⟨_,_,eZ⟩:=ha
  refine (I.hok b ob e).stay (λc w' hc q=>(hs.2 c ?_).trans q) (λ_ q=>q) λ_ _ q=>q
  rintro rfl
  rcases hc with rfl|hc
  ·rw [eZ] at e;cases e
  ·rw [eZ] at hc;cases hc
 rcases hx with hk|hk
 ·refine wpAny_storeName_local hk hn (λh' iW hs=>?_) rF
  obtain ⟨oL,_,_,AZ,_⟩:=id hn
  refine h _ ⟨I.ok,I.os,I.bare,⟨λb o e n hb hx=>?_,λb o e n hb hx=>?_,I.base.free,λb o e hx=>?_,I.base.tups,I.base.frzs,I.base.tbls⟩,⟨_,iW,λj y v' e1 e2 e3=>?_⟩,λy c e=>?_,I.free,I.freeC,λp hp=>?_,tracked ⟨oL,AZ,I.free⟩ hs,by simpa using I.len⟩ ⟨_,hs,.inl rfl⟩
  ·exact (hs.2 b (yx (yR (zP e) I.ok.above))).trans (I.base.keep b o e n hb hx)
  ·obtain ⟨sl,e1⟩:=I.base.slot b o e n hb hx
   exact ⟨sl,(hs.2 b (yx (yR (zP e) I.ok.above))).trans e1⟩
  ·obtain ⟨o',e1⟩:=I.base.there b o e hx
   exact ⟨o',(hs.2 b (yx (yR (zP e) I.ok.above))).trans e1⟩
  ·by_cases hj:j=i
   ·subst hj
    rw [hi] at e1;cases e1
    rw [wD aC] at e2
    cases e2
    exact ⟨u,r,.inl ⟨hk,by simp⟩⟩
   ·rw [gU (yS hj)] at e2
    obtain ⟨u',r',q⟩:=hl j y v' e1 e2 e3
    refine ⟨u',r',?_⟩
    rcases q with ⟨k,e⟩|⟨k,c,e,z⟩
    ·refine .inl ⟨k,?_⟩
     have:y≠x:=λe=>hj (rE hN e1 (e▸hi))
     simp [this,e]
    ·exact .inr ⟨k,c,e,z.sameBut hs (cne y c e)⟩
  ·obtain ⟨w',z⟩:=I.cell y c e
   exact ⟨w',z.sameBut hs (cne y c e)⟩
  ·obtain ⟨e,n,ne,nf,d⟩:=I.pin p hp
   exact ⟨(hs.2 p.1 ne).trans e,n,ne,nf,d⟩
 ·have oi:X.fn x=true:=by
   rcases hf with z|z
   ·exact z
   ·rw [z] at hk;cases hk
  obtain ⟨c,hc⟩:=I.ok.has x (.inl hk)
  obtain ⟨w',z⟩:=I.cell x c hc
  refine wpAny_storeName_cell I.ok.kind hk hc z (λh' dh hs=>?_)
  obtain ⟨oc,rG,rH⟩:=id z
  refine h { s with heap:=h' } ⟨I.ok,I.os,I.bare,⟨λb o e n hb hx=>?_,λb o e n hb hx=>?_,I.base.free,λb o e hx=>?_,I.base.tups,I.base.frzs,I.base.tbls⟩,⟨m,hn.sameBut hs (yS (cne x c hc)),λj y v' e1 e2 e3=>?_⟩,λy c' e=>?_,I.free,I.freeC,λp hp=>?_,tracked ⟨oc,rG,I.freeC x c hc⟩ hs,by simpa using I.len⟩ ⟨c,hs,.inr hc⟩
  ·exact (hs.2 b (yx (yR (zP e) (I.ok.cab x c oi hc)))).trans (I.base.keep b o e n hb hx)
  ·obtain ⟨sl,e1⟩:=I.base.slot b o e n hb hx
   exact ⟨sl,(hs.2 b (yx (yR (zP e) (I.ok.cab x c oi hc)))).trans e1⟩
  ·obtain ⟨o',e1⟩:=I.base.there b o e hx
   exact ⟨o',(hs.2 b (yx (yR (zP e) (I.ok.cab x c oi hc)))).trans e1⟩
  ·by_cases hj:j=i
   ·subst hj
    rw [hi] at e1;cases e1
    rw [wD aC] at e2
    cases e2
    exact ⟨u,r,.inr ⟨.inl hk,c,hc,dh⟩⟩
   ·rw [gU (yS hj)] at e2
    obtain ⟨u',r',q⟩:=hl j y v' e1 e2 e3
    refine ⟨u',r',?_⟩
    rcases q with q|⟨k,c',e,z'⟩
    ·exact .inl q
    ·refine .inr ⟨k,c',e,z'.sameBut hs ?_⟩
     rintro rfl
     exact hj (rE hN e1 (I.ok.inj _ _ _ e hc▸hi))
  ·by_cases g7:c'=c
   ·subst g7;exact ⟨_,dh⟩
   ·obtain ⟨w2,z2⟩:=I.cell y c' e
    exact ⟨w2,z2.sameBut hs g7⟩
  ·obtain ⟨e,n,ne,nf,d⟩:=I.pin p hp
   refine ⟨(hs.2 p.1 ?_).trans e,n,ne,nf,d⟩
   intro q
   rw [q,rG] at e
   have q':oc=p.2:=Option.some.inj e
   exact d w' (by rw [<-q'];exact rH)
def lX {M:Model}{A:Around}{E:Aa}{i:Nat}{x:Str}{v:V}{u:Value}{Q:Unit->Shared->Prop}(I:Inv X pins U H s) (hN:X.N.Nodup) (hi:X.N[i]?=some x) (hx:Loc X.env.scope x) (r:RelV v u)
  (h:∀s',Inv X pins (U.set i (some v)) H s'->Q () s') (hf:X.fn x=true\/X.env.scope.names.lookup x=some .local:=by first|exact .inl rfl|exact .inr rfl|assumption):wpAny M A (storeName X.env x u) Q E s :=
 AY I hN hi hx r (λs' I' _=>h s' I') hf
def Inv.call' {s':Shared}{ch:Ae}(I:Inv X pins U H s) (ho:s'.os=s.os) (u:Un (bU X.stack) ch H H' s.heap s'.heap) (hok:bq X.prog X.w H' s'.heap) (hg:AllBare s'.gens)
  (eM:∀b∈ch,(b∈X.ex\/X.s₀.heap.objs.size<=b)/\b≠X.env.locals/\(∀x c,X.env.cells.lookup x=some c->c≠b)/\∀p∈X.pn++pins,p.1≠b):Inv X pins U H' s':=by
 obtain ⟨h',g',d',t',o'⟩:=s'
 have e:o'=s.os:=ho
 subst e
 exact I.call (g':=g') (t':=t') (d':=d') u hok hg eM
end
abbrev XK:=Value->Option Addr->Hp->Prop
abbrev St:=List (Option V)
abbrev VK:=V->Hp->Prop
abbrev TE:=St->Hp->VK->Prop
abbrev TT:=St->Hp->(Bool->Hp->Prop)->Prop
abbrev TA:=St->Hp->(List V->Hp->Prop)->Prop
structure Ends where
 nx:St->Hp->Prop
 rt:VK
 bk:St->Hp->Prop:=λ_ _=>False
 ct:St->Hp->Prop:=λ_ _=>False
abbrev TS:=Ends->St->Hp->Prop
def EP (X:Cx) (pins:Ac) (U:St) (Q:VK) (u:Value) (s':Shared):Prop:=∃v H',Inv X pins U H' s'/\RelV v u/\Q v H'
def TP (X:Cx) (pins:Ac) (U:St) (Q:Bool->Hp->Prop) (b:Bool) (s':Shared):Prop:=∃H',Inv X pins U H' s'/\Q b H'
def AP (X:Cx) (pins:Ac) (U:St) (Q:List V->Hp->Prop) (us:Af) (s':Shared):Prop:=∃vs H',Inv X pins U H' s'/\Vals vs us/\Q vs H'
def SP (X:Cx) (pins:Ac) (D:Ends) (f:Flow) (s':Shared):Prop :=
 match f with
 |.next=>∃ag H',Inv X pins ag H' s'/\D.nx ag H'
 |.brk=>∃ag H',Inv X pins ag H' s'/\D.bk ag H'
 |.cont=>∃ag H',Inv X pins ag H' s'/\D.ct ag H'
 |.ret u=>∃v ag H',Inv X pins ag H' s'/\RelV v u/\D.rt v H'
def PE (X:Cx) (e:Expr) (t:TE):Prop :=
 ∀(pins:Ac) (s:Shared) (U:St) (H:Hp) (Q:VK),Inv X pins U H s->t U H Q->wpAny (model X.prog X.w) X.A (eval e X.env) (EP X pins U Q) X.xe s
def PT (X:Cx) (e:Expr) (t:TT):Prop :=
 ∀(pins:Ac) (s:Shared) (U:St) (H:Hp) (Q:Bool->Hp->Prop),Inv X pins U H s->t U H Q->wpAny (model X.prog X.w) X.A (isTrue e X.env (eval e X.env)) (TP X pins U Q) X.xe s
def PW (X:Cx) (e:Expr) (t:TT):Prop :=
 ∀(whole:Sem Value) (pins:Ac) (s:Shared) (U:St) (H:Hp) (Q:Bool->Hp->Prop),Inv X pins U H s->t U H Q->wpAny (model X.prog X.w) X.A (isTrue e X.env whole) (TP X pins U Q) X.xe s
def PW.pt {X:Cx}{e:Expr}{t:TT}(h:PW X e t):PT X e t:=h _
def PA (X:Cx) (es:List Expr) (t:TA):Prop :=
 ∀(pos:Pos) (pins:Ac) (s:Shared) (U:St) (H:Hp) (Q:List V->Hp->Prop),Inv X pins U H s->t U H Q->wpAny (model X.prog X.w) X.A (spliced (backTo pos (starEach es X.env))) (AP X pins U Q) X.xe s
def PS (X:Cx) (st:Stmt) (t:TS):Prop :=
 ∀(pins:Ac) (s:Shared) (U:St) (H:Hp) (D:Ends),Inv X pins U H s->t D U H->wpAny (model X.prog X.w) X.A (exec st X.env) (SP X pins D) X.xe s
def bG (X:Cx) (st:List Stmt) (t:TS):Prop :=
 ∀(pins:Ac) (s:Shared) (U:St) (H:Hp) (D:Ends),Inv X pins U H s->t D U H->wpAny (model X.prog X.w) X.A (execs st X.env) (SP X pins D) X.xe s
def aI {α:Type}{t:Sem α}{Q Q':α->Shared->Prop}{M:Model}{A:Around}{E:Aa}{s:Shared}(h:wpAny M A t Q E s) (hQ:∀a s,Q a s->Q' a s):wpAny M A t Q' E s:=yE h hQ λ_ _ x=>x
section
variable {X:Cx}
def oj (i:Nat):TE:=λU H Q=>∃v,U[i]?=some (some v)/\Q v H
def tC (v:V):TE:=λ_ H Q=>Q v H
def A0 {i:Nat} {x:Str} {pos:Pos} (hN:X.N[i]?=some x) (hv:lV X.env.scope x) (hd:(x==("__debug__" : Str))=false:=by decide) (dA:(x==("__classdict__" : Str))=false:=by decide):PE X (.Name x pos) (oj i):=by
 intro pins s U H Q I h
 obtain ⟨v,e,h⟩:=h
 obtain ⟨m,hn,hl⟩:=I.loc
 obtain ⟨u,r,l⟩:=hl i x v hN e hv
 have fin:EP X pins U Q u s:=⟨v,H,I,r,h⟩
 rcases l with ⟨hk,hm⟩|⟨hk,c,hc,cP⟩
 ·exact wpAny_Name (wpAny_loadName_local I.ok.kind hk hn hm fin) hd
 ·rcases hk with hk|hk
  ·exact wpAny_Name (wpAny_loadName_cell I.ok.kind hk hc cP fin) hd
  ·exact wpAny_Name (wpAny_loadName_free I.ok.kind hk hc cP fin dA) hd
def A1 {i j pos}:PE X (.Constant (.int i) j pos) (tC (.int i)):=λ_ _ _ H _ I h=>wpAny_Constant_int ⟨.int i,H,I.tok _,⟨_,rfl⟩,h⟩
def A2 {b j pos}:PE X (.Constant (.bool b) j pos) (tC (.bl b)):=λ_ _ _ H _ I h=>Constant_bool ⟨.bl b,H,I,rfl,h⟩
def A3 {j pos}:PE X (.Constant .none j pos) (tC .non):=λ_ _ _ H _ I h=>Constant_none ⟨.non,H,I,rfl,h⟩
def rJ {x j pos}:PE X (.Constant (.str x) j pos) (tC (.str x)):=λ_ _ _ H _ I h=>Calls.Constant_str ⟨.str x,H,I.tok _,⟨_,rfl⟩,h⟩
def Gl (X:Cx) (x:Str):Prop:=X.env.kindOf x=some .globalImplicit
def rK {E:Aa}{pins:Ac}{s:Shared}{U:St}{H:Hp}{x:Str}{u:Value}{pos:Pos}{Q:Aa}(I:Inv X pins U H s) (hg:Gl X x) (hm:X.mg x=some u) (h:Q u s)
  (hd:(x==("__debug__" : Str))=false:=by decide):wpAny (model X.prog X.w) X.A (eval (.Name x pos) X.env) Q E s :=
 Calls.Name_function_global I.ok.kind hg (Calls.loadGlobal_global (by rw [I.ok.glob];exact I.mod.glob.keeps I.bk) hm h) hd
def g8 {E:Aa}{pins:Ac}{s:Shared}{U:St}{H:Hp}{x:Str}{u:Value}{pos:Pos}{Q:Aa}(I:Inv X pins U H s) (hg:Gl X x) (hm:X.mg x=none) (hv:bootBuiltins x=some u) (h:Q u s)
  (hn:x ≠ "__name__" := by decide) (hd:(x==("__debug__" : Str))=false:=by decide):wpAny (model X.prog X.w) X.A (eval (.Name x pos) X.env) Q E s:=by
 obtain ⟨mb,h1,h2⟩:=I.mod.blt
 exact Calls.Name_function_global I.ok.kind hg (Calls.loadGlobal_builtin (by rw [I.ok.glob];exact I.mod.glob.keeps I.bk) hm (by rw [I.ok.blt];exact h1.keeps I.bk) ((h2 x hn).trans hv) h) hd
def A4 {x:Str} {v:V} {u:Value} {pos:Pos} (hg:Gl X x) (hm:X.mg x=some u) (r:RelV v u) (hd:(x==("__debug__" : Str))=false:=by decide):PE X (.Name x pos) (tC v) :=
 λ_ _ _ H _ I h=>rK I hg hm ⟨v,H,I,r,h⟩ hd
def A5 {x:Str} {v:V} {u:Value} {pos:Pos} (hg:Gl X x) (hm:X.mg x=none) (hv:bootBuiltins x=some u) (r:RelV v u) (hn:x ≠ "__name__" := by decide) (hd:(x==("__debug__" : Str))=false:=by decide):PE X (.Name x pos) (tC v) :=
 λ_ _ _ H _ I h=>g8 I hg hm hv ⟨v,H,I,r,h⟩ hn hd
variable {a b:Expr} {ta tb:TE} {pos:Pos}
def tB (t:TE):TT:=λU H Q=>t U H λx H1=>∃c,x=.bl c/\Q c H1
def A6 {e:Expr}{t:TE}(h:PE X e t) (he:∀whole,isTrue e X.env whole=(do let v <-whole;standAt e.pos;holding [v] (truthy v)):=by intro _;rfl):PT X e (tB t):=by
 intro pins s U H Q I hw
 refine isTrue_plain (aI (h pins s U H _ I hw) λv s1 ⟨x,H1,I1,r1,q1⟩=>?_) (he _)
 obtain ⟨d,rfl,q⟩:=q1
 cases r1
 exact jK ⟨H1,I1,q⟩
variable {tA lY:TT} {rest:List Expr}
def A7 (t u:TT):TT:=λU H Q=>t U H λc H1=>if c=true then u U H1 Q else Q false H1
def A8 (t u:TT):TT:=λU H Q=>t U H λc H1=>if c=true then Q true H1 else u U H1 Q
def A9 (t:TT):TT:=λU H Q=>t U H λc H1=>Q (!c) H1
def A_ (ha:PT X a tA):PW X (.BoolOp .And [a] pos) tA:=by
 intro wh pins s U H Q I h
 refine isTrue_and (aI (ha pins s U H Q I h) λc s1 e=>?_)
 cases c with
 |true=>exact isTrue_and_nil e
 |false=>exact e
def Ba (ha:PT X a tA):PW X (.BoolOp .Or [a] pos) tA:=by
 intro wh pins s U H Q I h
 refine isTrue_or (aI (ha pins s U H Q I h) λc s1 e=>?_)
 cases c with
 |false=>exact isTrue_or_nil e
 |true=>exact e
def Bb (ha:PT X a tA) (hb:PW X (.BoolOp .And (b::rest) pos) lY):PW X (.BoolOp .And (a::b::rest) pos) (A7 tA lY):=by
 intro wh pins s U H Q I h
 refine isTrue_and (aI (ha pins s U H _ I h) λc s1 ⟨H1,I1,q1⟩=>?_)
 cases c with
 |true=>exact hb wh pins s1 U H1 Q I1 q1
 |false=>exact ⟨H1,I1,q1⟩
def Bc (ha:PT X a tA) (hb:PW X (.BoolOp .Or (b::rest) pos) lY):PW X (.BoolOp .Or (a::b::rest) pos) (A8 tA lY):=by
 intro wh pins s U H Q I h
 refine isTrue_or (aI (ha pins s U H _ I h) λc s1 ⟨H1,I1,q1⟩=>?_)
 cases c with
 |true=>exact ⟨H1,I1,q1⟩
 |false=>exact hb wh pins s1 U H1 Q I1 q1
def Bd (ha:PT X a tA):PT X (.UnaryOp .Not a pos) (A9 tA):=by
 intro pins s U H Q I h
 exact isTrue_not (ha pins s U H (λc H1=>Q (!c) H1) I h)
def Be (ta tb:TE):TE:=λU H Q=>ta U H λx H1=>∃c,x=.bl c/\if c=true then tb U H1 Q else Q (.bl false) H1
def Bf (ta tb:TE):TE:=λU H Q=>ta U H λx H1=>∃c,x=.bl c/\if c=true then Q (.bl true) H1 else tb U H1 Q
def Bg (ta:TE):TE:=λU H Q=>ta U H λx H1=>∃c,x=.bl c/\Q (.bl (!c)) H1
def Bh {op}{t:TE}(h:PE X a t):PE X (.BoolOp op [a] pos) t:=λpins s U H Q I hw=>BoolOp_one (h pins s U H Q I hw)
def Bi (ha:PE X a ta) (hb:PE X (.BoolOp .And (b::rest) pos) tb):PE X (.BoolOp .And (a::b::rest) pos) (Be ta tb):=by
 intro pins s U H Q I h
 refine BoolOp_and (aI (ha pins s U H _ I h) λv s1 ⟨x,H1,I1,r1,q1⟩=>?_)
 obtain ⟨c,rfl,q1⟩:=q1
 cases r1
 refine jK ?_
 cases c with
 |true=>exact hb pins s1 U H1 Q I1 q1
 |false=>exact ⟨.bl false,H1,I1,rfl,q1⟩
def fZ (ha:PE X a ta) (hb:PE X (.BoolOp .Or (b::rest) pos) tb):PE X (.BoolOp .Or (a::b::rest) pos) (Bf ta tb):=by
 intro pins s U H Q I h
 refine BoolOp_or (aI (ha pins s U H _ I h) λv s1 ⟨x,H1,I1,r1,q1⟩=>?_)
 obtain ⟨c,rfl,q1⟩:=q1
 cases r1
 refine jK ?_
 cases c with
 |false=>exact hb pins s1 U H1 Q I1 q1
 |true=>exact ⟨.bl true,H1,I1,rfl,q1⟩
def Bj (ha:PE X a ta):PE X (.UnaryOp .Not a pos) (Bg ta):=by
 intro pins s U H Q I h
 refine UnaryOp_ (aI (ha pins s U H _ I h) λv s1 ⟨x,H1,I1,r1,q1⟩=>?_)
 obtain ⟨c,rfl,q1⟩:=q1
 cases r1
 exact not_of (jK ⟨.bl (!c),H1,I1,rfl,q1⟩)
end
def aS (K:PySem.W.Frag) (H:Hp) (a:Addr) (xs:List V):Prop :=
 Rd H a (.lst xs) \/
  ∃(o:Obj) (its:Array Value) (n:Nat),K.lookup a=some o/\o.cls=.type "list" /\ o.dict=none/\o.data=.seq its n/\its.size<=sizeLine/\Vals xs its.toList
def bg (K:PySem.W.Frag) (H:Hp) (a:Addr) (xs:List V):Prop :=
 Rd H a (.tup xs) \/
  ∃(o:Obj) (its:Array Value) (n:Nat),K.lookup a=some o/\o.cls=.type "tuple" /\ o.data=.seq its n/\its.size<=sizeLine/\Vals xs its.toList
def rL:Value->Option V
 |.none=>some .non
 |.bool b=>some (.bl b)
 |.int i _=>some (.int i)
 |.str x _=>some (.str x)
 |.bytes b _=>some (.byt b)
 |.float b _=>some (.flt b)
 |.ref a=>some (.ref a)
 |.type n=>some (.ty n)
 |_=>none
def RelV.abs {x:V}{u:Value}(r:RelV x u):rL u=some x:=by
 cases x with
 |non=>cases r;rfl
 |bl _=>cases r;rfl
 |int _=>obtain ⟨t,rfl⟩:=r;rfl
 |str _=>obtain ⟨t,rfl⟩:=r;rfl
 |byt _=>obtain ⟨t,rfl⟩:=r;rfl
 |flt _=>obtain ⟨t,rfl⟩:=r;rfl
 |ref _=>cases r;rfl
 |ty _=>cases r;rfl
theorem RelV.inj {x y:V}{u:Value}(r:RelV x u) (q:RelV y u):x=y:=Option.some.inj (r.abs.symm.trans q.abs)
theorem Vals.inj:∀{xs ys:List V}{us:Af},Vals xs us->Vals ys us->xs=ys
 |_,_,_,.nil,.nil=>rfl
 |_,_,_,.cons r t,.cons r' t'=>by rw [r.inj r',Vals.inj t t']
section
variable {X:Cx} {pins:Ac} {U:St} {H:Hp} {s:Shared} {a:Addr} {xs ys:List V}
def aS.of {K:PySem.W.Frag}(h:H a=some (.lst xs)):aS K H a xs:=.inl (.inl h)
def bg.of {K:PySem.W.Frag}(h:H a=some (.tup xs)):bg K H a xs:=.inl (.inl h)
def Inv.list (I:Inv X pins U H s) (h:aS X.K H a xs):∃its:Af,Vals xs its/\PlainL s.heap a its.toArray/\xs.length<=sizeLine:=by
 rcases h with h|⟨o,its,n,hk,hc,hd,hs,hz,r⟩
 ·obtain ⟨z,its,n,r,e⟩:=h.ok I.hok
  exact ⟨its,r,⟨_,n,e,rfl,rfl,rfl⟩,z⟩
 ·refine ⟨its.toList,r,⟨o,n,I.kIn a o hk,hc,hd,by simpa using hs⟩,?_⟩
  have e:=r.length
  simp only [Array.length_toList] at e
  omega
def Inv.tuple (I:Inv X pins U H s) (h:bg X.K H a xs):∃its:Af,Vals xs its/\IsTup s.heap a its.toArray/\xs.length<=sizeLine:=by
 rcases h with h|⟨o,its,n,hk,hc,hs,hz,r⟩
 ·obtain ⟨z,its,r,p⟩:=h.ok I.hok
  exact ⟨its,r,p,z⟩
 ·refine ⟨its.toList,r,⟨o,I.kIn a o hk,hc,n,by simpa using hs⟩,?_⟩
  have e:=r.length
  simp only [Array.length_toList] at e
  omega
def Inv.list_inj (I:Inv X pins U H s) (h:aS X.K H a xs) (h':aS X.K H a ys):xs=ys:=by
 obtain ⟨its,r,⟨o,n,e,_,_,d⟩,_⟩:=I.list h
 obtain ⟨its',r',⟨o',n',e',_,_,d'⟩,_⟩:=I.list h'
 rw [e] at e';cases e'
 rw [d] at d'
 injection d' with d1 _
 have:its=its':=by simpa using congrArg Array.toList d1
 subst this
 exact r.inj r'
def Inv.tuple_inj (I:Inv X pins U H s) (h:bg X.K H a xs) (h':bg X.K H a ys):xs=ys:=by
 obtain ⟨its,r,⟨o,e,_,n,d⟩,_⟩:=I.tuple h
 obtain ⟨its',r',⟨o',e',_,n',d'⟩,_⟩:=I.tuple h'
 rw [e] at e';cases e'
 rw [d] at d'
 injection d' with d1 _
 have:its=its':=by simpa using congrArg Array.toList d1
 subst this
 exact r.inj r'
end
abbrev Cx.wish (X:Cx) (E:Aa):Cx:={ X with xe:=E }
abbrev Cx.nox (X:Cx):Cx:=X.wish λ_ _=>False
theorem Cx.Ok.wish {X:Cx}(ok:X.Ok) (E:Aa):(X.wish E).Ok :=
 ⟨ok.mod,ok.kind,ok.glob,ok.blt,ok.above,ok.inj,ok.has,ok.cab,ok.hd,ok.frames,ok.stk,ok.exf,ok.bs,ok.bsz,ok.noex,ok.exfs,ok.funs,ok.frf⟩
def Cx.Ok.unwish {X:Cx}{E:Aa}(ok:(X.wish E).Ok):X.Ok :=
 ⟨ok.mod,ok.kind,ok.glob,ok.blt,ok.above,ok.inj,ok.has,ok.cab,ok.hd,ok.frames,ok.stk,ok.exf,ok.bs,ok.bsz,ok.noex,ok.exfs,ok.funs,ok.frf⟩
section
variable {X:Cx} {pins:Ac} {U:St} {H:Hp} {s:Shared} {E:Aa}
theorem Inv.wish (I:Inv X pins U H s) (E:Aa):Inv (X.wish E) pins U H s:=⟨I.ok.wish E,I.os,I.bare,I.base,I.loc,I.cell,I.free,I.freeC,I.pin,I.hok,I.len⟩
theorem Inv.unwish (I:Inv (X.wish E) pins U H s):Inv X pins U H s:=⟨I.ok.unwish,I.os,I.bare,I.base,I.loc,I.cell,I.free,I.freeC,I.pin,I.hok,I.len⟩
theorem SP.unwish {D:Ends}{f:Flow}{s':Shared}(h:SP (X.wish E) pins D f s'):SP X pins D f s':=by
 cases f with
 |next=>obtain ⟨ag,H',I,q⟩:=h;exact ⟨ag,H',I.unwish,q⟩
 |brk=>obtain ⟨ag,H',I,q⟩:=h;exact ⟨ag,H',I.unwish,q⟩
 |cont=>obtain ⟨ag,H',I,q⟩:=h;exact ⟨ag,H',I.unwish,q⟩
 |ret u=>obtain ⟨v,ag,H',I,r,q⟩:=h;exact ⟨v,ag,H',I.unwish,r,q⟩
theorem PE.nox {e:Expr}{t:TE}(h:PE X.nox e t):PE X e t:=λpins s U H Q I hw =>
 yE (h pins s U H Q (I.wish _) hw) (λ_ _ ⟨v,H',I',r,q⟩=>⟨v,H',I'.unwish,r,q⟩) λ_ _ z=>z.elim
theorem PT.nox {e:Expr}{t:TT}(h:PT X.nox e t):PT X e t:=λpins s U H Q I hw =>
 yE (h pins s U H Q (I.wish _) hw) (λ_ _ ⟨H',I',q⟩=>⟨H',I'.unwish,q⟩) λ_ _ z=>z.elim
theorem bG.nox {st:List Stmt}{t:TS}(h:bG X.nox st t):bG X st t:=λpins s U H D I hw =>
 yE (h pins s U H D (I.wish _) hw) (λ_ _ q=>q.unwish) λ_ _ z=>z.elim
end
section
variable {X:Cx} {st:Stmt} {rest:List Stmt} {t u:TS} {e:Expr} {te:TE} {pos:Pos}
def Bk:TS:=λD U H=>D.nx U H
def Bl (t u:TS):TS:=λD U H=>t { D with nx:=u D } U H
def Bm:bG X [] Bk:=λ_ _ U H _ I h=>wpAny_execs_nil ⟨U,H,I,h⟩
def Bn (h1:PS X st t) (h2:bG X rest u):bG X (st::rest) (Bl t u):=by
 intro pins s U H D I h
 refine wpAny_execs_cons (aI (h1 pins s U H { D with nx:=u D } I h) λf s1 q=>?_)
 cases f with
 |next =>
  obtain ⟨ag,H',I',q⟩:=q
  exact h2 pins s1 ag H' D I' q
 |ret v=>exact q
 |brk=>exact q
 |cont=>exact q
def Bo (h1:PS X st t):bG X [st] t:=by
 intro pins s U H D I h
 refine wpAny_execs_cons (aI (h1 pins s U H D I h) λf s1 q=>?_)
 cases f with
 |next=>exact wpAny_execs_nil q
 |ret v=>exact q
 |brk=>exact q
 |cont=>exact q
def Inv.quiet {pins:Ac}{U:St}{H:Hp}{s:Shared}(I:Inv X pins U H s):interactive X.env=false:=by simp [interactive,I.ok.kind]
def Bp (te:TE):TS:=λD U H=>te U H λ_ H1=>D.nx U H1
def Bq (he:PE X e te) (hs:swapsWith e none pos.line X.env=pure false:=by rfl):PS X (.Expr e pos) (Bp te):=by
 intro pins s U H D I h
 exact wpAny_Expr_any (aI (he pins s U H _ I h) λv s1 ⟨x,H1,I1,r1,q1⟩=>⟨U,H1,I1,q1⟩) I.quiet hs
def Br (te:TE):TS:=λD U H=>te U H D.rt
def Bs (he:PE X e te):PS X (.Return (some e) pos) (Br te):=by
 intro pins s U H D I h
 exact wpAny_Return_some (aI (he pins s U H _ I h) λv s1 ⟨x,H1,I1,r1,q1⟩=>⟨x,U,H1,I1,r1,q1⟩)
def Bt (c:TT) (t u:TS):TS:=λD U H=>c U H λb H1=>if b=true then t D U H1 else u D U H1
def Bu {c:Expr}{a b:List Stmt}{tc:TT}(hc:PT X c tc) (ha:bG X a t) (hb:bG X b u):PS X (.If c a b pos) (Bt tc t u):=by
 intro pins s U H D I h
 refine wpAny_If (aI (hc pins s U H _ I h) λd s1 ⟨H1,I1,q1⟩=>?_)
 cases d with
 |true=>exact ha pins s1 U H1 D I1 q1
 |false=>exact hb pins s1 U H1 D I1 q1
end
abbrev TG:=V->St->Hp->(St->Hp->Prop)->Prop
abbrev f6:=List V->St->Hp->(St->Hp->Prop)->Prop
def PG (X:Cx) (target:Expr) (t:TG):Prop :=
 ∀(pins:Ac) (s:Shared) (U:St) (H:Hp) (v:V) (u:Value) (Q:St->Hp->Prop),Inv X pins U H s->RelV v u->t v U H Q ->
  wpAny (model X.prog X.w) X.A (assign target X.env u) (λ_ s'=>∃ag H',Inv X pins ag H' s'/\Q ag H') X.xe s
def lZ (X:Cx) (ts:List Expr) (t:f6):Prop :=
 ∀(pins:Ac) (s:Shared) (U:St) (H:Hp) (vs:List V) (us:Af) (Q:St->Hp->Prop),Inv X pins U H s->Vals vs us->t vs U H Q ->
  wpAny (model X.prog X.w) X.A (assignInOrder ((assignEach ts X.env).map (·.2)) us) (λ_ s'=>∃ag H',Inv X pins ag H' s'/\Q ag H') X.xe s
abbrev l5:=V->V->Hp->VK->Prop
def om (X:Cx) (op:Operator) (t:l5):Prop :=
 ∀(pins:Ac) (s:Shared) (U:St) (H:Hp) (x y:V) (v u:Value) (Q:VK),Inv X pins U H s->RelV x v->RelV y u->t x y H Q ->
  wpAny (model X.prog X.w) X.A (inplaceOp op v u) (EP X pins U Q) X.xe s
section
variable {X:Cx} {pos:Pos}
def g9 (i:Nat):TG:=λv U H Q=>Q (U.set i (some v)) H
def g_ {i:Nat}{x:Str}(hN:X.N.Nodup) (hi:X.N[i]?=some x) (hx:Loc X.env.scope x) (hf:X.fn x=true\/X.env.scope.names.lookup x=some .local:=by first|exact .inl rfl|exact .inr rfl|assumption):PG X (.Name x pos) (g9 i):=by
 intro pins s U H v u Q I r h
 exact wpAny_assign_Name (lX I hN hi hx r (λs' I'=>⟨_,H,I',h⟩) hf)
def Bv:f6:=λvs U H Q=>vs=[]/\Q U H
def Bw (t:TG) (u:f6):f6:=λvs U H Q=>∃v r,vs=v::r/\t v U H λag H'=>u r ag H' Q
def Bx:lZ X [] Bv:=by
 intro pins s U H vs us Q I r h
 obtain ⟨e,h⟩:=h
 subst e
 cases r
 exact assignInOrder_nil ⟨U,H,I,h⟩
def oo {e:Expr}{es:List Expr}{t:TG}{u:f6}(h1:PG X e t) (h2:lZ X es u)
  (hs:(assignEach (e::es) X.env).map (·.2)=assign e X.env::(assignEach es X.env).map (·.2):=by rfl):lZ X (e::es) (Bw t u):=by
 intro pins s U H vs us Q I r h
 obtain ⟨v,vr,e1,h⟩:=h
 subst e1
 cases r with
 |cons r rr =>
  rw [hs]
  refine assignInOrder_cons (aI (h1 pins s U H _ _ _ I r h) λ_ s1 ⟨aq,H1,I1,q1⟩=>?_)
  exact h2 pins s1 aq H1 _ _ Q I1 rr q1
def By (K:PySem.W.Frag) (n:Nat) (t:f6):TG:=λv U H Q=>∃a xs,v=.ref a/\bg K H a xs/\xs.length=n/\t xs U H Q
def Bz {es:List Expr}{k:Nat}{t:f6}{n:Nat}(hc:X.calm=true) (h:lZ X es t)
  (hn:(assignEach es X.env).length=n:=by rfl) (dB:(assignEach es X.env).findIdx? (·.1)=none:=by rfl):PG X (.Tuple es k pos) (By X.K n t):=by
 intro pins s U H v u Q I r hw
 obtain ⟨a,xs,e1,hq,hl,hw⟩:=hw
 subst e1
 cases r
 obtain ⟨its,rv,ht,hz⟩:=I.tuple hq
 refine assign_Tuple_tuple (I.ok.hd hc) ht (by simp [hn,<-hl,rv.length]) dB λh' hx=>?_
 have I1:Inv X pins U H { s with heap:=h' }:=I.kept (t':=s.toks) λb o e=>hx b o (yx (zP e)) e
 exact h pins _ U H xs _ Q I1 (by simpa using rv) hw
def rM (te:TE) (g:TG):TS:=λD U H=>te U H λx H1=>g x U H1 D.nx
def BA {tg e:Expr}{te:TE}{g:TG}(he:PE X e te) (hg:PG X tg g) (hs:swapsWithSole [tg] e pos.line X.env=pure false:=by rfl) (hw:swappedStores [tg] e X.env=pure none:=by rfl)
  (h1:(assignEach [tg] X.env).map (·.2)=[assign tg X.env]:=by rfl):PS X (.Assign [tg] e pos) (rM te g):=by
 intro pins s U H D I h
 refine wpAny_Assign_stores (aI (he pins s U H _ I h) λv s1 ⟨x,H1,I1,r1,q1⟩=>?_) hs hw
 rw [h1]
 exact aI (hg pins s1 U H1 x v _ I1 r1 q1) λ_ s2 q=>q
def BB {i:Nat}{x:Str}{e:Expr}{te:TE}{pos':Pos}(hN:X.N.Nodup) (hi:X.N[i]?=some x) (hx:Loc X.env.scope x) (he:PE X e te) (hs:swapsWith e (some (.Name x pos')) pos.line X.env=pure false:=by rfl) (hf:X.fn x=true\/X.env.scope.names.lookup x=some .local:=by first|exact .inl rfl|exact .inr rfl|assumption) :
  PS X (.Assign [.Name x pos'] e pos) (rM te (g9 i)):=by
 intro pins s U H D I h
 refine wpAny_Assign_Name (aI (he pins s U H _ I h) λv s1 ⟨y,H1,I1,r1,q1⟩=>?_) hs
 exact lX I1 hN hi hx r1 (λs2 I2=>⟨_,H1,I2,q1⟩) hf
def BC (i:Nat) (te:TE) (ti:l5):TS:=λD U H=>∃x,U[i]?=some (some x)/\te U H λy H1=>ti x y H1 λz H2=>D.nx (U.set i (some z)) H2
def BD {i:Nat}{x:Str}{e:Expr}{te:TE}{op:Operator}{ti:l5}{pos':Pos}(hN:X.N.Nodup) (hi:X.N[i]?=some x) (hx:Loc X.env.scope x) (he:PE X e te) (ho:om X op ti) (hf:X.fn x=true\/X.env.scope.names.lookup x=some .local:=by first|exact .inl rfl|exact .inr rfl|assumption) :
  PS X (.AugAssign (.Name x pos') op e pos) (BC i te ti):=by
 intro pins s U H D I h
 obtain ⟨v,e1,h⟩:=h
 obtain ⟨m,hn,hl⟩:=I.loc
 have BE:lV X.env.scope x:=by rcases hx with k|k;exact .inl k;exact .inr (.inl k)
 obtain ⟨u,r,l⟩:=hl i x v hi e1 BE
 refine wpAny_AugAssign_Name ?_
 have go:wpAny (model X.prog X.w) X.A (eval e X.env) (λw ae=>wpAny (model X.prog X.w) X.A (inplaceOp op u w) (λr aH=>wpAny (model X.prog X.w) X.A (storeName X.env x r) (λ_=>SP X pins D .next) X.xe aH) X.xe ae) X.xe s:=by
  refine aI (he pins s U H _ I h) λw s1 ⟨y,H1,I1,r1,q1⟩=>?_
  refine aI (ho pins s1 U H1 v y u w _ I1 r r1 q1) λz s2 ⟨zv,H2,I2,r2,q2⟩=>?_
  exact lX I2 hN hi hx r2 (λs3 I3=>⟨_,H2,I3,q2⟩) hf
 rcases l with ⟨hk,hm⟩|⟨hk,c,hc,cP⟩
 ·exact wpAny_loadName_local I.ok.kind hk hn hm go
 ·rcases hk with hk|hk
  ·exact wpAny_loadName_cell I.ok.kind hk hc cP go
  ·rcases hx with k|k
   ·have:X.env.scope.names.lookup x=some .free:=hk
    rw [k] at this;cases this
   ·have:X.env.scope.names.lookup x=some .free:=hk
    rw [k] at this;cases this
def BF (f:Int->Int->Int):l5:=λx y H Q=>∃i j,x=.int i/\y=.int j/\Q (.int (f i j)) H
def BG:om X .Add (BF λi j=>i+j):=by
 intro pins s U H x y v u Q I r1 r2 h
 obtain ⟨i,j,e1,e2,q⟩:=h
 subst e1;subst e2
 obtain ⟨t,rfl⟩:=r1
 obtain ⟨t',rfl⟩:=r2
 exact iadd_int ⟨.int _,H,I.tok _,⟨_,rfl⟩,q⟩
def BH (c:TT) (tb:TS):TS:=λD U H=>∃W:Nat->St->Hp->Prop,(∃m,W m U H)/\∀m U H,W m U H ->
 c U H λb H1=>if b=true then ∃N:St->Hp->Prop,(∀ag H',N ag H'->∃m',m'<m/\W m' ag H')/\tb { D with nx:=N,ct:=N,bk:=D.nx } U H1 else D.nx U H1
def BI {c:Expr}{body:List Stmt}{tc:TT}{tb:TS}(hp:PassesOwn (model X.prog X.w) X.A X.env X.xe) (hc:PT X c tc) (hb:bG X body tb):PS X (.While c body [] pos) (BH tc tb):=by
 intro pins s U H D I h
 obtain ⟨W,⟨m0,w0⟩,turn⟩:=h
 refine wpAny_While (codeAny_whileLoop (λn s'=>∃ag H',Inv X pins ag H' s'/\W n ag H') ?_ m0 ⟨U,H,I,w0⟩)
 rintro n s1 ⟨aq,H1,I1,w1⟩
 refine wpAny_passesOwn hp (aI (hc pins s1 aq H1 _ I1 (turn n aq H1 w1)) λb s2 ⟨H2,I2,q2⟩=>?_)
 cases b with
 |true =>
  obtain ⟨N,hN,q2⟩:=q2
  rw [zu rfl]
  refine wpAny_passesOwn hp (aI (hb pins s2 aq H2 _ I2 q2) λf s3 q3=>?_)
  cases f with
  |next =>
   obtain ⟨au,H3,I3,n3⟩:=q3
   obtain ⟨m',hm,w3⟩:=hN au H3 n3
   exact ⟨m',hm,au,H3,I3,w3⟩
  |cont =>
   obtain ⟨au,H3,I3,n3⟩:=q3
   obtain ⟨m',hm,w3⟩:=hN au H3 n3
   exact ⟨m',hm,au,H3,I3,w3⟩
  |brk=>exact q3
  |ret v=>exact q3
 |false =>
  rw [zt Bool.false_ne_true]
  exact wpAny_execs_nil ⟨aq,H2,I2,q2⟩
end
structure It where
 go:Nat->Hp->Prop
 yld:Nat->Hp->V->Hp->Prop
 stop:Nat->Hp->Prop
def cQ (X:Cx) (pins:Ac) (H:Hp) (b:Addr):Prop :=
 H b=none/\b≠X.env.locals/\b∉X.fs/\(b∈X.ex\/X.s₀.heap.objs.size<=b)/\(∀x c,X.env.cells.lookup x=some c->c≠b)/\∀p∈X.pn++pins,p.1≠b
def Inv.fpOk {X:Cx}{pins:Ac}{U:St}{H H':Hp}{s:Shared}{b:Addr}(I:Inv X pins U H s) (hb:s.heap.objs.size<=b) (hn:H' b=none):cQ X pins H' b:=by
 refine ⟨hn,Nat.ne_of_gt (yR I.lt hb),I.nofs hb,.inr (yL I.sz hb),λx c e z=>?_,λp hp z=>?_⟩
 ·obtain ⟨v,q⟩:=I.cell x c e
  exact absurd (yR q.lt (by rw [z];exact hb)) (Nat.lt_irrefl _)
 ·exact absurd (yR (zP (I.pin p hp).1) (by rw [z];exact hb)) (Nat.lt_irrefl _)
structure Turn (P:Program) (w:World) (K:PySem.W.Frag) (tg:Expr) (J:It) (fp:Ae) (it:Addr) (tn:Nat->Heap->Prop):Prop where
 mem:it∈fp
 obj:∀i h,tn i h->∀b∈fp,∃o,h.get? b=some o/\∀v,o.data ≠ .cell v
 keep:∀i h h',tn i h->(∀b∈fp,∀o,h.get? b=some o->h'.get? b=some o)->tn i h'
 item:∀(X:Cx),X.prog=P->X.w=w->X.K=K->X.calm=true->∀(i:Nat) (pins:Ac) (s:Shared) (U:St) (H:Hp) (E:Aa),Inv X pins U H s->(∀b∈fp,cQ X pins H b)->tn i s.heap->J.go i H ->
  wpAny (model P w) X.A (pyNext (.ref it)) (λr s1=>∃u,r=some u /\
   wpAny (model P w) X.A (letOwnedTupleGo tg (.ref it) u) (λ_ s2=>∃x H',Inv X pins U H' s2/\RelV x u/\J.yld i H x H'/\tn (i+1) s2.heap/\∀b∈fp,H' b=none) E s1) E s
 done:∀(X:Cx),X.prog=P->X.w=w->X.K=K->X.calm=true->∀(i:Nat) (pins:Ac) (s:Shared) (U:St) (H:Hp) (E:Aa),Inv X pins U H s->(∀b∈fp,cQ X pins H b)->tn i s.heap->J.stop i H ->
  wpAny (model P w) X.A (pyNext (.ref it)) (λr s1=>r=none/\Inv X pins U H s1) E s
 self:∀(A:Around) (i:Nat) (s:Shared) (Q:Aa) (E:Aa),tn i s.heap->Q (.ref it) s->wpAny (model P w) A (pyIter (.ref it)) Q E s
abbrev TI:=St->Hp->(It->Hp->Prop)->Prop
def rN (X:Cx) (pins:Ac) (U:St) (tg:Expr) (R:It->Hp->Prop) (l6:Value) (s2:Shared):Prop :=
 ∃(it:Addr) (fp:Ae) (tn:Nat->Heap->Prop) (J:It) (H':Hp),l6=.ref it/\Inv X pins U H' s2/\Turn X.prog X.w X.K tg J fp it tn/\tn 0 s2.heap/\(∀b∈fp,cQ X pins H' b)/\R J H'
def PI (X:Cx) (tg iter:Expr) (wi:TI):Prop :=
 ∀(pins:Ac) (s:Shared) (U:St) (H:Hp) (R:It->Hp->Prop),Inv X pins U H s->wi U H R ->
  wpAny (model X.prog X.w) X.A (eval iter X.env) (λv s1=>wpAny (model X.prog X.w) X.A (pyIter v) (rN X pins U tg R) X.xe s1) X.xe s
def hG {M:Model}{A:Around}{E:Aa}{s:Shared}{tg:Expr}{it:Addr}{u:Value}{o:Obj}{n:String}{vs:Array Value}{Q:Unit->Shared->Prop}(ho:s.heap.get? it=some o) (hc:o.cls=.type n) (hd:o.data=.fields vs)
  (hn:["enumerate", "zip", "dict_itemiterator", "dict_reverseitemiterator", "odict_iterator", "itertools.zip_longest", "itertools.pairwise"].contains n=false) (hQ:Q () s):wpAny M A (letOwnedTupleGo tg (.ref it) u) Q E s:=by
 unfold letOwnedTupleGo
 cases tg<;>first
  |exact zn hQ
  | (cases u<;>first
    |exact zn hQ
    | (refine zf (wpAny_load ho ?_)
       rw [hc,hd]
       show wpAny M A (if (["enumerate", "zip", "dict_itemiterator", "dict_reverseitemiterator", "odict_iterator", "itertools.zip_longest", "itertools.pairwise"].contains n&&vs[0]?==some (rawInt _))=true then _ else _) Q E s
       rw [zt (by intro h;rw [hn,Bool.false_and] at h;cases h)]
       exact zn hQ))
def l7 (K:PySem.W.Frag) (a:Addr):It :=
 ⟨λi H=>∃xs x,aS K H a xs/\xs[i]?=some x,λi H x H'=>H'=H/\∀xs,aS K H a xs->xs[i]?=some x,λi H=>∃xs,aS K H a xs/\xs.length<=i⟩
def oq (K:PySem.W.Frag) (a:Addr):It :=
 ⟨λi H=>∃xs x,bg K H a xs/\xs[i]?=some x,λi H x H'=>H'=H/\∀xs,bg K H a xs->xs[i]?=some x,λi H=>∃xs,bg K H a xs/\xs.length<=i⟩
def l8 (lo:Int) (n:Nat):It:=⟨λi _=>i<n,λi H x H'=>H'=H/\x=.int (lo+i),λi _=>n<=i⟩
def BJ {P:Program}{w:World}{K:PySem.W.Frag}{tg:Expr}(a it:Addr):Turn P w K tg (l7 K a) [it] it (λi h=>h.IsListIter it a i) where
 mem:=by simp
 obj:=λi h st b hb=>by
  have e:b=it:=by simpa using hb
  subst e
  obtain ⟨o,e,c,d⟩:=st
  exact ⟨o,e,λv z=>by rw [d] at z;cases z⟩
 keep:=λi h h' st k=>st.at λo e=>k it (by simp) o e
 item:=by
  intro X hP hw hK hc i pins s U H E I hf st hg
  subst hP hw hK
  obtain ⟨xs,x,hq,hx⟩:=hg
  obtain ⟨its,rv,p,hz⟩:=I.list hq
  obtain ⟨u,hu,ru⟩:=rv.get hx
  obtain ⟨f0,f1,f2,f3,f4,f5⟩:=hf it (by simp)
  refine wpAny_pyNext_list_item st p.isList (x:=u) (by simpa using hu) λh' aE sb=>?_
  have I1:Inv X pins U H { s with heap:=h' }:=I.turned (t':=s.toks) (λb o hb e=>(sb.2 b hb).trans e) f0 f1 f3 f4 f5
  obtain ⟨o,e,c,d⟩:=id aE
  exact ⟨u,rfl,hG (s:={ s with heap:=h' }) e c d (by decide) ⟨x,H,I1,ru,⟨rfl,λys hy=>by rw [I.list_inj hy hq];exact hx⟩,aE,λb hb=>(hf b hb).1⟩⟩
 done:=by
  intro X hP hw hK hc i pins s U H E I hf st hg
  subst hP hw hK
  obtain ⟨xs,hq,hx⟩:=hg
  obtain ⟨its,rv,p,hz⟩:=I.list hq
  obtain ⟨f0,f1,f2,f3,f4,f5⟩:=hf it (by simp)
  have hl:=rv.length
  exact wpAny_pyNext_list_end (I.ok.hd hc) st p.isList (by simp;omega) λh' eb=>⟨rfl,I.turned (t':=s.toks) (λb o hb e=>eb b o hb e) f0 f1 f3 f4 f5⟩
 self:=λ_ _ _ _ _ st h=>wpAny_pyIter_listiter st h
def BK {P:Program}{w:World}{K:PySem.W.Frag}{tg:Expr}(a it:Addr):Turn P w K tg (oq K a) [it] it (λi h=>h.IsTupleIter it a i) where
 mem:=by simp
 obj:=λi h st b hb=>by
  have e:b=it:=by simpa using hb
  subst e
  obtain ⟨o,e,c,d⟩:=st
  exact ⟨o,e,λv z=>by rw [d] at z;cases z⟩
 keep:=λi h h' st k=>st.at λo e=>k it (by simp) o e
 item:=by
  intro X hP hw hK hc i pins s U H E I hf st hg
  subst hP hw hK
  obtain ⟨xs,x,hq,hx⟩:=hg
  obtain ⟨its,rv,p,hz⟩:=I.tuple hq
  obtain ⟨u,hu,ru⟩:=rv.get hx
  obtain ⟨f0,f1,f2,f3,f4,f5⟩:=hf it (by simp)
  refine wpAny_pyNext_tuple_item st (show s.heap.IsTuple a its.toArray from p) (x:=u) (by simpa using hu) λh' aE sb=>?_
  have I1:Inv X pins U H { s with heap:=h' }:=I.turned (t':=s.toks) (λb o hb e=>(sb.2 b hb).trans e) f0 f1 f3 f4 f5
  obtain ⟨o,e,c,d⟩:=id aE
  exact ⟨u,rfl,hG (s:={ s with heap:=h' }) e c d (by decide) ⟨x,H,I1,ru,⟨rfl,λys hy=>by rw [I.tuple_inj hy hq];exact hx⟩,aE,λb hb=>(hf b hb).1⟩⟩
 done:=by
  intro X hP hw hK hc i pins s U H E I hf st hg
  subst hP hw hK
  obtain ⟨xs,hq,hx⟩:=hg
  obtain ⟨its,rv,p,hz⟩:=I.tuple hq
  obtain ⟨f0,f1,f2,f3,f4,f5⟩:=hf it (by simp)
  have hl:=rv.length
  exact wpAny_pyNext_tuple_end (I.ok.hd hc) st (show s.heap.IsTuple a its.toArray from p) (by simp;omega) λh' eb=>⟨rfl,I.turned (t':=s.toks) (λb o hb e=>eb b o hb e) f0 f1 f3 f4 f5⟩
 self:=λ_ _ _ _ _ st h=>wpAny_pyIter_tupleiter st h
def BL {P:Program}{w:World}{K:PySem.W.Frag}{tg:Expr}(it:Addr) (lo:Int) (n:Nat):Turn P w K tg (l8 lo n) [it] it (λi h=>IsRangeIter h it (lo+(i:Nat)*1) ((n:Int)-(i:Nat)) 1) where
 mem:=by simp
 obj:=λi h st b hb=>by
  have e:b=it:=by simpa using hb
  subst e
  exact ⟨_,st,λv z=>by
   have z':Data.fields _=Data.cell v:=z
   cases z'⟩
 keep:=λi h h' st k=>k it (by simp) _ st
 item:=by
  intro X hP hw hK hc i pins s U H E I hf st hg
  subst hP hw hK
  obtain ⟨f0,f1,f2,f3,f4,f5⟩:=hf it (by simp)
  have W:=Walks.range (prog:=X.prog) (w:=X.w) (I.ok.hd hc) it lo 1 n
  refine W.item i s _ _ hg st λv h' tk hv aE kk=>?_
  obtain ⟨t,rfl⟩:=hv
  have I1:Inv X pins U H { s with heap:=h',toks:=tk }:=I.turned (λb o hb e=>kk b o (by simpa using hb) e) f0 f1 f3 f4 f5
  refine ⟨_,rfl,hG (s:={ s with heap:=h',toks:=tk }) (n := "range_iterator") aE rfl rfl (by decide) ⟨.int (lo+i),H,I1,⟨t,?_⟩,⟨rfl,rfl⟩,aE,λb hb=>(hf b hb).1⟩⟩
  rw [Int.mul_one]
 done:=by
  intro X hP hw hK hc i pins s U H E I hf st hg
  subst hP hw hK
  obtain ⟨f0,f1,f2,f3,f4,f5⟩:=hf it (by simp)
  exact wpAny_pyNext_range_end (I.ok.hd hc) st (by have:n<=i:=hg;omega) λh' eb=>⟨rfl,I.turned (t':=s.toks) (λb o hb e=>eb b o hb e) f0 f1 f3 f4 f5⟩
 self:=λ_ _ _ _ _ st h=>wpAny_pyIter_rangeiter st h
section
variable {X:Cx} {tg:Expr}
def BM {pins:Ac}{U:St}{H:Hp}{s:Shared}{R:It->Hp->Prop}{E:Aa}{lo hi:Int}{t u v:Tok}{tk:Nat}(I:Inv X pins U H s) (h1 : -(2 ^ 62)<=lo) (h2:lo<2 ^ 62) (h3 : -(2 ^ 62)<=hi) (h4:hi<2 ^ 62)
  (q:R (l8 lo (hi-lo).toNat) H):wpAny (model X.prog X.w) X.A (pyIter (.ref s.heap.objs.size)) (rN X pins U tg R) E { s with heap:=s.heap.push { cls:=.type "range", data:=.fields #[.int lo t,.int hi u,.int 1 v] },toks:=tk }:=by
 refine wpAny_pyIter_range (IsRange.new ..) (small_one h1 h2 h3 h4) ?_
 have I1:Inv X pins U H { s with heap:=s.heap.push { cls:=.type "range", data:=.fields #[.int lo t,.int hi u,.int 1 v] },toks:=tk }:=I.kept λb o e=>zU _ e
 refine ⟨(s.heap.push { cls:=.type "range", data:=.fields #[.int lo t,.int hi u,.int 1 v] }).objs.size,[(s.heap.push { cls:=.type "range", data:=.fields #[.int lo t,.int hi u,.int 1 v] }).objs.size],_,_,H,rfl,
  I1.kept (t':=tk) λb o e=>zU _ e,BL _ lo (hi-lo).toNat,?_,λb hb=>?_,q⟩
 ·have e1:lo+((0:Nat):Int)*1=lo:=by simp
  have e2:(((hi-lo).toNat:Nat):Int)-((0:Nat):Int)=Builtin.Range.rangeSize lo hi 1:=by rw [rangeSize_one];split<;>omega
  show IsRangeIter _ _ (lo+((0:Nat):Int)*1) ((((hi-lo).toNat:Nat):Int)-((0:Nat):Int)) 1
  rw [e1,e2]
  exact yw _ rfl
 ·have e:b=(s.heap.push { cls:=.type "range", data:=.fields #[.int lo t,.int hi u,.int 1 v] }).objs.size:=by simpa using hb
  subst e
  exact I1.fpOk (zG _) (I1.hok.fresh (zG _))
def cS (ta:TA):TI:=λU H R=>ta U H λvs H1=>∃j:Int,vs=[.int j] /\ -(2 ^ 62)<=j/\j<2 ^ 62/\R (l8 0 j.toNat) H1
def BN {a:Expr} {ta:TA} {p pos:Pos} (hg:Gl X "range") (hm:X.mg "range" = none) (ha:PA X [a] ta) (hs:starEach [a] X.env=[(false,eval a X.env)]:=by rfl):PI X tg (.Call (.Name "range" p) [a] [] pos) (cS ta):=by
 intro pins s U H R I h
 refine Call_ (g8 I hg hm boot_range (PyProof.Rows.callWith_type1 (aI (ha pos pins s U H _ I h) λus s1 ⟨vs,H1,I1,r1,q1⟩=>?_) hs rfl))
 obtain ⟨j,e,q1,q2,q⟩:=q1
 subst e
 cases r1 with
 |cons r rr =>
  cases rr
  obtain ⟨t,rfl⟩:=r
  exact call_range_1 (BM I1 (by omega) (by omega) q1 q2 (by simpa using q))
def BO (wi:TI) (g:TG) (tb:TS):TS:=λD U H=>wi U H λJ H1=>∃W:Nat->Nat->St->Hp->Prop,(∃m,W 0 m U H1)/\∀i m U H,W i m U H ->
 (J.stop i H/\D.nx U H)\/(J.go i H/\∃N:St->Hp->Prop,(∀ag H',N ag H'->∃m',m'<m/\W (i+1) m' ag H')/\∀x H',J.yld i H x H'->g x U H' λaF H2=>tb { D with nx:=N,ct:=N,bk:=D.nx } aF H2)
def d7 (fp:Ae) (h:Heap):Ac:=fp.filterMap λb=>(h.get? b).map λo=>(b,o)
def iX {fp:Ae}{h:Heap}{b:Addr}{o:Obj}(hb:b∈fp) (e:h.get? b=some o):(b,o)∈d7 fp h:=List.mem_filterMap.mpr ⟨b,hb,by rw [e];rfl⟩
def BP {fp:Ae}{h:Heap}{p:Addr×Obj}(hp:p∈d7 fp h):p.1∈fp/\h.get? p.1=some p.2:=by
 obtain ⟨b,hb,e⟩:=List.mem_filterMap.mp hp
 cases q:h.get? b with
 |none=>rw [q] at e;cases e
 |some o =>
  rw [q] at e
  have e':(b,o)=p:=Option.some.inj e
  subst e'
  exact ⟨hb,q⟩
def Inv.pinned {pins:Ac}{U:St}{H:Hp}{s:Shared}{fp:Ae}(I:Inv X pins U H s) (hf:∀b∈fp,cQ X pins H b) (ho:∀b∈fp,∃o,s.heap.get? b=some o/\∀v,o.data ≠ .cell v):Inv X (pins++d7 fp s.heap) U H s :=
 I.pins_of λp hp=>(iR.mp hp).elim (λz=>I.pin p (yk _ z)) λz=>by
  obtain ⟨hb,e⟩:=BP z
  obtain ⟨f0,f1,f2,_⟩:=hf p.1 hb
  obtain ⟨o,e',d⟩:=ho p.1 hb
  rw [e] at e';cases e'
  exact ⟨e,f0,f1,f2,d⟩
def Inv.unpinned {pins pl:Ac}{U:St}{H:Hp}{s:Shared}(I:Inv X (pins++pl) U H s):Inv X pins U H s:=I.pins_of λp hp=>I.pin p (yk _ (gW _ hp))
def BQ {iter:Expr}{body:List Stmt}{wi:TI}{g:TG}{tb:TS}{pos:Pos}(hp:PassesOwn (model X.prog X.w) X.A X.env X.xe) (hc:X.calm=true) (hi:PI X tg iter wi) (hg:PG X tg g) (hb:bG X body tb)
  (hs:∀x,foldedSetIterable iter X.env x=pure x:=by intro _;rfl):PS X (.For tg iter body [] pos) (BO wi g tb):=by
 intro pins s U H D I h
 refine wpAny_For (aI (hi pins s U H _ I h) λv s1 h1=>aI h1 λl6 s2 h2=>?_) hs
 obtain ⟨it,fp,tn,J,H2,e,I2,T,ak,f2,W,⟨m0,w0⟩,turn⟩:=h2
 subst e
 have stat:∀{H':Hp},(∀b∈fp,H' b=none)->∀b∈fp,cQ X pins H' b:=λhn b hb=>⟨hn b hb,(f2 b hb).2⟩
 refine codeAny_forLoop_any (λn s'=>∃i ag H',Inv X pins ag H' s'/\tn i s'.heap/\(∀b∈fp,H' b=none)/\W i n ag H') ?_ m0 ⟨0,U,H2,I2,ak,λb hb=>(f2 b hb).1,w0⟩
 rintro n s3 ⟨i,au,H3,I3,aL,fG,w3⟩
 rcases turn i n au H3 w3 with ⟨stop,qn⟩|⟨go,N,hN,step⟩
 ·refine wpAny_passesOwn hp (aI (T.done X rfl rfl rfl hc i pins s3 au H3 X.xe I3 (stat fG) aL stop) λr s4 ⟨hr,I4⟩=>?_)
  subst hr
  exact wpAny_execs_nil ⟨au,H3,I4,qn⟩
 ·refine wpAny_passesOwn hp (aI (T.item X rfl rfl rfl hc i pins s3 au H3 X.xe I3 (stat fG) aL go) λr s4 ⟨u,hr,h4⟩=>?_)
  subst hr
  refine wpAny_passesOwn hp (aI h4 λ_ s5 ⟨x,H5,I5,r5,y5,bV,iY⟩=>?_)
  have iZ:=I5.pinned (stat iY) (T.obj _ _ bV)
  refine wpAny_passesOwn hp (aI (hg _ s5 au H5 x u _ iZ r5 (step x H5 y5)) λ_ s6 ⟨aA,H6,I6,q6⟩=>?_)
  refine wpAny_passesOwn hp (aI (hb _ s6 aA H6 _ I6 q6) λf s7 q7=>?_)
  have again:∀{ar:St} {H7:Hp},Inv X (pins++d7 fp s5.heap) ar H7 s7->N ar H7->∃m,m<n/\∃i ag H',Inv X pins ag H' s7/\tn i s7.heap/\(∀b∈fp,H' b=none)/\W i m ag H':=λ{ar H7} I7 n7=>by
   obtain ⟨m',hm,w7⟩:=hN ar H7 n7
   refine ⟨m',hm,i+1,ar,H7,I7.unpinned,T.keep _ _ _ bV λb hb o e=>(I7.pin (b,o) (yk _ (yk _ (iX hb e)))).1,λb hb=>?_,w7⟩
   obtain ⟨o,e,d⟩:=T.obj _ _ bV b hb
   exact (I7.pin (b,o) (yk _ (yk _ (iX hb e)))).2.1
  cases f with
  |next=>obtain ⟨ar,H7,I7,n7⟩:=q7;exact again I7 n7
  |cont=>obtain ⟨ar,H7,I7,n7⟩:=q7;exact again I7 n7
  |brk=>obtain ⟨ar,H7,I7,q7⟩:=q7;exact ⟨ar,H7,I7.unpinned,q7⟩
  |ret v=>obtain ⟨x7,ar,H7,I7,r7,q7⟩:=q7;exact ⟨x7,ar,H7,I7.unpinned,r7,q7⟩
end
abbrev R2:=V->V->Hp->VK->Prop
def aW (X:Cx) (f:Value->Value->Sem Value) (r:R2):Prop :=
 ∀(pins:Ac) (s:Shared) (U:St) (H:Hp) (x y:V) (v u:Value) (Q:VK),Inv X pins U H s->RelV x v->RelV y u->r x y H Q ->
  wpAny (model X.prog X.w) X.A (f v u) (EP X pins U Q) X.xe s
def i3 (X:Cx) (f:Value->Sem Value) (r:V->Hp->VK->Prop):Prop :=
 ∀(pins:Ac) (s:Shared) (U:St) (H:Hp) (x:V) (v:Value) (Q:VK),Inv X pins U H s->RelV x v->r x H Q ->
  wpAny (model X.prog X.w) X.A (f v) (EP X pins U Q) X.xe s
def bH (X:Cx) (f:Value) (r:List V->Hp->VK->Prop):Prop :=
 ∀(pins:Ac) (s:Shared) (U:St) (H:Hp) (xs:List V) (us:Af) (Q:VK),Inv X pins U H s->Vals xs us->r xs H Q ->
  wpAny (model X.prog X.w) X.A (call f us) (EP X pins U Q) X.xe s
def i5 (r:R2) (ta tb:TE):TE:=λU H Q=>ta U H λx H1=>tb U H1 λy H2=>r x y H2 Q
def BR (r:V->Hp->VK->Prop) (ta:TE):TE:=λU H Q=>ta U H λx H1=>r x H1 Q
def rI (C:Int->Int->Prop) (g:Int->Int->V):R2:=λx y H Q=>∃i j,x=.int i/\y=.int j/\C i j/\Q (g i j) H
def jX (g:Int->Int->V):R2:=λx y H Q=>∃i j,x=.int i/\y=.int j/\Q (g i j) H
def rU (g:Int->V):V->Hp->VK->Prop:=λx H Q=>∃i,x=.int i/\Q (g i) H
section
variable {X:Cx} {a b c:Expr} {ta tb tc:TE} {pos:Pos}
def i6 (ha:PE X a ta) (hb:PE X b tb) {pins:Ac}{s:Shared}{U:St}{H:Hp}{R:V->V->Hp->Prop}(I:Inv X pins U H s)
  (h:ta U H λx H1=>tb U H1 λy H2=>R x y H2) {Q:Aa} {f:Value->Value->Sem Value}
  (hf:∀v u s2 x y H2,Inv X pins U H2 s2->RelV x v->RelV y u->R x y H2->wpAny (model X.prog X.w) X.A (f v u) Q X.xe s2) :
  wpAny (model X.prog X.w) X.A (eval a X.env) (λv ai=>wpAny (model X.prog X.w) X.A (eval b X.env) (λu ae=>wpAny (model X.prog X.w) X.A (f v u) Q X.xe ae) X.xe ai) X.xe s:=by
 refine aI (ha pins s U H _ I h) λv s1 ⟨x,H1,I1,r1,q1⟩=>?_
 refine aI (hb pins s1 U H1 _ I1 q1) λu s2 ⟨y,H2,I2,r2,q2⟩=>?_
 exact hf v u s2 x y H2 I2 r1 r2 q2
def BS {op:Operator}{r:R2}(ho:aW X (binaryOp op) r) (ha:PE X a ta) (hb:PE X b tb):PE X (.BinOp a op b pos) (i5 r ta tb):=by
 intro pins s U H Q I h
 exact wpAny_BinOp (i6 ha hb I h λv u s2 x y H2 I2 rx ry q=>ho pins s2 U H2 x y v u Q I2 rx ry q)
def BU {op:UnaryOp}{r:V->Hp->VK->Prop}(ho:i3 X (unaryOp op) r) (ha:PE X a ta):PE X (.UnaryOp op a pos) (BR r ta):=by
 intro pins s U H Q I h
 exact UnaryOp_ (aI (ha pins s U H _ I h) λv s1 ⟨x,H1,I1,r1,q1⟩=>ho pins s1 U H1 x v Q I1 r1 q1)
def opI {f:Value->Value->Sem Value}{C:Int->Int->Prop}{g:Int->Int->Int}
  (rule:∀(i j:Int) (t u:Tok) (s:Shared) (Q:Aa) (E:Aa),C i j->Q (.int (g i j) s.toks) { s with toks:=s.toks+1 }->wpAny (model X.prog X.w) X.A (f (.int i t) (.int j u)) Q E s) :
  aW X f (rI C λi j=>.int (g i j)):=by
 intro pins s U H x y v u Q I rx ry h
 obtain ⟨i,j,rfl,rfl,hc,q⟩:=h
 obtain ⟨t,rfl⟩:=rx
 obtain ⟨t',rfl⟩:=ry
 exact rule i j t t' s _ _ hc ⟨.int (g i j),H,I.tok _,⟨_,rfl⟩,q⟩
def rO {f:Value->Value->Sem Value}{g:Int->Int->Int}
  (rule:∀(i j:Int) (t u:Tok) (s:Shared) (Q:Aa) (E:Aa),Q (.int (g i j) s.toks) { s with toks:=s.toks+1 }->wpAny (model X.prog X.w) X.A (f (.int i t) (.int j u)) Q E s) :
  aW X f (jX λi j=>.int (g i j)):=by
 intro pins s U H x y v u Q I rx ry h
 obtain ⟨i,j,rfl,rfl,q⟩:=h
 obtain ⟨t,rfl⟩:=rx
 obtain ⟨t',rfl⟩:=ry
 exact rule i j t t' s _ _ ⟨.int (g i j),H,I.tok _,⟨_,rfl⟩,q⟩
def ou {f:Value->Value->Sem Value}{g:Int->Int->Bool}
  (rule:∀(i j:Int) (t u:Tok) (s:Shared) (Q:Aa) (E:Aa),Q (.bool (g i j)) s->wpAny (model X.prog X.w) X.A (f (.int i t) (.int j u)) Q E s) :
  aW X f (jX λi j=>.bl (g i j)):=by
 intro pins s U H x y v u Q I rx ry h
 obtain ⟨i,j,rfl,rfl,q⟩:=h
 obtain ⟨t,rfl⟩:=rx
 obtain ⟨t',rfl⟩:=ry
 exact rule i j t t' s _ _ ⟨.bl (g i j),H,I,rfl,q⟩
def rP (i j:Int):Prop:=0<=j/\j<=1000000/\i.natAbs<2 ^ 64
def gM (i j:Int):Prop:=(-(2 ^ 64)<i/\i<2 ^ 64)\/(-(2 ^ 64)<j/\j<2 ^ 64)
def gM.ok {i j:Int}(h:gM i j):IntMulOk i j:=by
 rcases h with ⟨h1,h2⟩|⟨h1,h2⟩
 ·exact .of_left (intBits_le_64 h1 h2)
 ·exact .of_right (intBits_le_64 h1 h2)
def BV:aW X (binaryOp .Add) (jX λi j=>.int (i+j)):=rO λ_ _ _ _ _ _ _ q=>add_int q
def BW:aW X (binaryOp .Sub) (jX λi j=>.int (i-j)):=rO λ_ _ _ _ _ _ _ q=>sub_int q
def BX:aW X (binaryOp .Mult) (rI gM λi j=>.int (i*j)):=opI λ_ _ _ _ _ _ _ hc q=>mul_int q hc.ok
def BZ:aW X (binaryOp .Mod) (rI (λ_ j=>j≠0) λi j=>.int (i.fmod j)):=opI λ_ _ _ _ _ _ _ hc q=>mod_int' hc q
def B0:aW X (binaryOp .Pow) (rI rP λi j=>.int (i ^ j.toNat)):=opI λ_ _ _ _ _ _ _ hc q=>pow_int_small hc.1 hc.2.1 hc.2.2 q
def B1 {f:Value->Sem Value}{g:Int->Int}
  (rule:∀(i:Int) (t:Tok) (s:Shared) (Q:Aa) (E:Aa),Q (.int (g i) s.toks) { s with toks:=s.toks+1 }->wpAny (model X.prog X.w) X.A (f (.int i t)) Q E s) :
  i3 X f (rU λi=>.int (g i)):=by
 intro pins s U H x v Q I rx h
 obtain ⟨i,rfl,q⟩:=h
 obtain ⟨t,rfl⟩:=rx
 exact rule i t s _ _ ⟨.int (g i),H,I.tok _,⟨_,rfl⟩,q⟩
def B2:i3 X (unaryOp .USub) (rU λi=>.int (-i)):=B1 λ_ _ _ _ _ q=>neg_int q
def B3 {pins:Ac}{U:St}{H:Hp}{s:Shared}{Q:VK}{k k':Bool}(I:Inv X pins U H s) (q:Q (.bl k) H) (e:k=k'):EP X pins U Q (.bool k') s:=by
 subst e
 exact ⟨.bl k,H,I,rfl,q⟩
def B4:aW X (compareOp .Lt) (jX λi j=>.bl (decide (i<j))):=ou λ_ _ _ _ _ _ _ q=>lt_int q
def B5:aW X (compareOp .LtE) (jX λi j=>.bl (decide (i<=j))):=ou λ_ _ _ _ _ _ _ q=>le_int q
def B6:aW X (compareOp .Gt) (jX λi j=>.bl (decide (j<i))):=ou λ_ _ _ _ _ _ _ q=>gt_int q
def B7:aW X (compareOp .In) (λx y H Q=>∃i j,x=.str i/\y=.str j/\Q (.bl (!(Builtin.Str.occurrences j i 0 j.length 1).isEmpty)) H):=by
 intro pins s U H x y v u Q I rx ry h
 obtain ⟨i,j,rfl,rfl,q⟩:=h
 obtain ⟨t,rfl⟩:=rx
 obtain ⟨t',rfl⟩:=ry
 exact in_str (B3 I q rfl)
def aW.or {f:Value->Value->Sem Value}{r r':R2}(h:aW X f r) (h':aW X f r'):aW X f (λx y H Q=>r x y H Q\/r' x y H Q):=by
 intro pins s U H x y v u Q I rx ry q
 rcases q with q|q
 ·exact h pins s U H x y v u Q I rx ry q
 ·exact h' pins s U H x y v u Q I rx ry q
def gO (b:Expr) {op:CmpOp}(h:op ≠ .In:=by decide) (h2:op ≠ .NotIn:=by decide):behindInMarks op b=false:=by
 have e1:(op==CmpOp.In)=false:=by cases op<;>first|rfl|exact absurd rfl h
 have e2:(op==CmpOp.NotIn)=false:=by cases op<;>first|rfl|exact absurd rfl h2
 cases b<;>simp [behindInMarks,e1,e2]
def B8 {op:CmpOp}{r:R2}(ho:aW X (compareOp op) r) (ha:PE X a ta) (hb:PE X b tb) (hm:behindInMarks op b=false):PE X (.Compare a [op] [b] pos) (i5 r ta tb):=by
 intro pins s U H Q I h
 exact wpAny_Compare1 (i6 ha hb I h λv u s2 x y H2 I2 rx ry q=>ho pins s2 U H2 x y v u Q I2 rx ry q) hm
def rQ (t:TE):TT:=λU H Q=>t U H λx H'=>∃k,x=.bl k/\Q k H'
def B9 {op:CmpOp}{r:R2}(ho:aW X (compareOp op) r) (ha:PE X a ta) (hb:PE X b tb) (hm:behindInMarks op b=false):PT X (.Compare a [op] [b] pos) (rQ (i5 r ta tb)):=by
 intro pins s U H Q I h
 refine wpAny_isTrue_Compare1 (aI (ha pins s U H _ I h) λv s1 ⟨x,H1,I1,r1,q1⟩=>aI (hb pins s1 U H1 _ I1 q1) λu s2 ⟨y,H2,I2,r2,q2⟩ =>
  aI (ho pins s2 U H2 x y v u _ I2 r1 r2 q2) λc s3 ⟨z,H3,I3,r3,k,e,q3⟩=>?_) hm
 subst e
 cases r3
 exact jK ⟨H3,I3,q3⟩
def ow (r r':R2) (ta tb tc:TE):TE:=λU H Q=>ta U H λx H1=>tb U H1 λy H2=>r x y H2 λz H3=>∃k,z=.bl k /\
 (if k=true then tc U H3 λw' H4=>r' y w' H4 Q else Q (.bl false) H3)
def B_ {op bA:CmpOp}{r r':R2}(ho:aW X (compareOp op) r) (ho':aW X (compareOp bA) r') (ha:PE X a ta) (hb:PE X b tb) (hc:PE X c tc)
  (hm:lastMarks [op,bA] [b,c]=false:=by with_unfolding_all rfl):PE X (.Compare a [op,bA] [b,c] pos) (ow r r' ta tb tc):=by
 intro pins s U H Q I h
 refine Compare_chain (aI (ha pins s U H _ I h) λv s1 ⟨x,H1,I1,r1,q1⟩=>chain_link (aI (hb pins s1 U H1 _ I1 q1) λu s2 ⟨y,H2,I2,r2,q2⟩ =>
  aI (ho pins s2 U H2 x y v u _ I2 r1 r2 q2) λd s3 ⟨z,H3,I3,r3,k,e,q3⟩=>?_)) hm
 subst e
 cases r3
 refine jK ?_
 cases k with
 |false=>exact ite_ff ⟨.bl false,H3,I3,rfl,q3⟩
 |true=>exact ite_tt (chain_last (aI (hc pins s3 U H3 _ I3 q3) λw' s4 ⟨z',H4,I4,r4,q4⟩=>ho' pins s4 U H4 y z' u w' Q I4 r2 r4 q4))
def Ca {op bA:CmpOp}{r r':R2}(ho:aW X (compareOp op) r) (ho':aW X (compareOp bA) r') (ha:PE X a ta) (hb:PE X b tb) (hc:PE X c tc)
  (hm:lastMarks [op,bA] [b,c]=false:=by with_unfolding_all rfl):PT X (.Compare a [op,bA] [b,c] pos) (rQ (ow r r' ta tb tc)):=by
 intro pins s U H Q I h
 refine isTrue_chain (aI (ha pins s U H _ I h) λv s1 ⟨x,H1,I1,r1,q1⟩=>test_link (aI (hb pins s1 U H1 _ I1 q1) λu s2 ⟨y,H2,I2,r2,q2⟩ =>
  aI (ho pins s2 U H2 x y v u _ I2 r1 r2 q2) λd s3 ⟨z,H3,I3,r3,k,e,q3⟩=>?_)) hm
 subst e
 cases r3
 refine jK ?_
 cases k with
 |false =>
  obtain ⟨k',e',q'⟩:=q3
  cases e'
  exact ite_ff ⟨H3,I3,q'⟩
 |true =>
  refine ite_tt (test_last (aI (hc pins s3 U H3 _ I3 q3) λw' s4 ⟨z',H4,I4,r4,q4⟩=>aI (ho' pins s4 U H4 y z' u w' _ I4 r2 r4 q4) λd' s5 ⟨z2,H5,I5,r5,k2,e2,q5⟩=>?_))
  subst e2
  cases r5
  exact jK ⟨H5,I5,q5⟩
def l9:(sizeLine:Nat)<2 ^ 63:=by rw [sizeLine_eq];decide
def Cb:aW X (binaryOp .Add) (λx y H Q=>∃i j,x=.str i/\y=.str j/\i.length+j.length<=sizeLine/\Q (.str (i++j)) H):=by
 intro pins s U H x y v u Q I rx ry h
 obtain ⟨i,j,rfl,rfl,hz,q⟩:=h
 obtain ⟨t,rfl⟩:=rx
 obtain ⟨t',rfl⟩:=ry
 exact add_str (λt' tk=>⟨.str (i++j),H,I.tok _,⟨_,rfl⟩,q⟩) hz
def l_ {x:V}{us:Af}(r:Vals [x] us):∃u,us=[u]/\RelV x u:=by
 cases r with
 |cons r1 r2=>cases r2;exact ⟨_,rfl,r1⟩
def ma {x y:V}{us:Af}(r:Vals [x,y] us):∃u w',us=[u,w']/\RelV x u/\RelV y w':=by
 cases r with
 |cons r1 r2 =>
  cases r2 with
  |cons r3 r4=>cases r4;exact ⟨_,_,rfl,r1,r3⟩
def Cc (hc:X.calm=true):bH X (.builtin "max") (λxs H Q=>∃i j,xs=[.int i,.int j]/\Q (.int (if j>i then j else i)) H):=by
 intro pins s U H xs us Q I r h
 obtain ⟨i,j,rfl,q⟩:=h
 obtain ⟨u,w',rfl,⟨t,rfl⟩,⟨t',rfl⟩⟩:=ma r
 refine max_two_ints (I.ok.hd hc) λh' tk k=>⟨_,H,I.kept k,?_,q⟩
 by_cases hj:j>i
 ·rw [zu hj,zu hj];exact ⟨_,rfl⟩
 ·rw [zt hj,zt hj];exact ⟨_,rfl⟩
def Cd (hc:X.calm=true):bH X (.builtin "min") (λxs H Q=>∃i j,xs=[.int i,.int j]/\Q (.int (if j<i then j else i)) H):=by
 intro pins s U H xs us Q I r h
 obtain ⟨i,j,rfl,q⟩:=h
 obtain ⟨u,w',rfl,⟨t,rfl⟩,⟨t',rfl⟩⟩:=ma r
 refine min_two_ints (I.ok.hd hc) λh' tk k=>⟨_,H,I.kept k,?_,q⟩
 by_cases hj:j<i
 ·rw [zu hj,zu hj];exact ⟨_,rfl⟩
 ·rw [zt hj,zt hj];exact ⟨_,rfl⟩
def rR (K:PySem.W.Frag) (x:V) (H:Hp) (n:Nat):Prop :=
 match x with
 |.str y=>y.length<=sizeLine/\n=y.length
 |.byt y=>y.size<=sizeLine/\n=y.size
 |.ref p=>(∃xs,aS K H p xs/\n=xs.length)\/∃xs,bg K H p xs/\n=xs.length
 |_=>False
def Ce:bH X (.builtin "len") (λxs H Q=>∃x n,xs=[x]/\rR X.K x H n/\Q (.int n) H):=by
 intro pins s U H xs us Q I r h
 obtain ⟨x,n,rfl,e,q⟩:=h
 obtain ⟨u,rfl,rx⟩:=l_ r
 have hl:=l9
 have hs:sizeLine=16777216:=sizeLine_eq
 cases x with
 |str y =>
  obtain ⟨t,rfl⟩:=rx
  obtain ⟨hy,e'⟩:y.length<=sizeLine/\n=y.length:=e
  subst e'
  exact len_str (by omega) ⟨.int _,H,I.tok _,⟨_,rfl⟩,q⟩
 |byt y =>
  obtain ⟨t,rfl⟩:=rx
  obtain ⟨hy,e'⟩:y.size<=sizeLine/\n=y.size:=e
  subst e'
  exact PySem.W.len_bytes (by omega) ⟨.int _,H,I.tok _,⟨_,rfl⟩,q⟩
 |ref p =>
  cases rx
  have e':(∃xs,aS X.K H p xs/\n=xs.length)\/∃xs,bg X.K H p xs/\n=xs.length:=e
  rcases e' with ⟨xs,hx,e'⟩|⟨xs,hx,e'⟩
  ·subst e'
   obtain ⟨its,r',pl,hz⟩:=I.list hx
   have hlen:=r'.length
   exact Calls.call_len_list pl.isList (by simp only [yf];omega) ⟨.int xs.length,H,I.tok _,⟨_,by simp only [yf];rw [hlen]⟩,q⟩
  ·subst e'
   obtain ⟨its,r',pl,hz⟩:=I.tuple hx
   have hlen:=r'.length
   exact len_tuple pl (by simp only [yf];omega) ⟨.int xs.length,H,I.tok _,⟨_,by simp only [yf];rw [hlen]⟩,q⟩
 |_=>exact (show False from e).elim
end
structure i7 (h:Heap) (x dx C:Addr) (mA:Ab):Prop where
 obj:h.get? x=some (PySem.W.instObj C dx)
 ns:h.Ns1 dx mA
 ne:dx≠x
def Cf {h:Heap}{dx:Addr}{mA:Ab}(n:h.Ns1 dx mA):∃od,h.get? dx=some od/\∀name,PySem.W.lookIn name od=some (mA name):=by
 obtain ⟨o,es,ep,ho,hd,hk,_,hm⟩:=n
 refine ⟨o,ho,λname=>?_⟩
 have e:=hm name
 unfold nsFind findBy at e
 rw [<-Array.find?_toList] at e
 unfold PySem.W.lookIn
 rw [hd]
 dsimp only
 split
 ·rename_i y q
  rw [q] at e
  exact congrArg some e
 ·rename_i q
  rw [q] at e
  have a:es.toList.any (·.refKey)=false:=by
   rw [List.any_eq_false]
   intro y hy
   obtain ⟨z,t,eS⟩:=hk y (Array.mem_toList_iff.mp hy)
   simp [DictEntry.refKey,eS]
  have a':¬es.toList.any (·.refKey)=true:=by rw [a];exact Bool.false_ne_true
  rw [zt a']
  exact congrArg some e
def i7.look {h:Heap}{x dx C:Addr}{mA:Ab}(I:i7 h x dx C mA):∃od,PySem.W.InstAt h x (PySem.W.instObj C dx) C (some od)/\∀name,PySem.W.lookIn name od=some (mA name) :=
 let ⟨od,ho,hl⟩:=Cf I.ns
 ⟨od,⟨I.obj,rfl,rfl,ho⟩,hl⟩
def cO.some_of {v:V}{o:Option Value}(r:cO (some v) o):∃u,o=some u/\RelV v u:=by
 cases o with
 |none=>exact (show False from r).elim
 |some u=>exact ⟨u,rfl,r⟩
section
variable {P:Program} {w:World} {H:Hp} {h:Heap} {a C dx:Addr} {fs:List (Str×V)}
def Cg (hok:bq P w H h) (e:H a=some (.ins C dx fs)):∃mA,i7 h a dx C mA/\(∀f,cO (fs.lookup f) (mA f))/\PySem.Within mA (fs.map (·.1))/\fs.length<=1000/\H dx=some (.own a):=by
 obtain ⟨d,z,ne,ob,mA,n,r,q⟩:=(show aM P w H h a (.ins C dx fs) from hok a _ e)
 exact ⟨mA,⟨ob,n,ne⟩,r,q,z,d⟩
end
structure f7 (K:PySem.W.Frag) (C:Addr):Prop where
 pg:PySem.W.plainGet K C Str.empty=true
 hd:PySem.W.hasDictIn K C=true
 po:PySem.W.plainOver K C=true
 sa:PySem.W.findIn K (.ref C) "__setattr__" = some (some (.builtin "object.__setattr__"))
def f7.get {K:PySem.W.Frag}{C:Addr}(c:f7 K C) (f:Str):PySem.W.plainGet K C f=true:=c.pg
def md (K:PySem.W.Frag) (C:Addr) (f:Str):Prop:=PySem.W.findIn K (.ref C) f=some none
structure Jk (K:PySem.W.Frag) (C:Addr) (f:Str) (v:V) (u:Value):Prop where
 at_:PySem.W.findIn K (.ref C) f=some (some u)
 rel:RelV v u
 get:PySem.W.specialIn K u "__get__" = some none
 cp:PySem.W.copiedNames.contains f=false
structure Meth (K:PySem.W.Frag) (C:Addr) (m:Str) (f:Addr):Prop where
 at_:PySem.W.findIn K (.ref C) m=some (some (.ref f))
 fn:PySem.W.isFn K (.ref f)=true
 kp:PySem.W.keepIn K (.ref f)=true
section
variable {X:Cx} {pins:Ac} {U:St} {H:Hp} {s:Shared} {A:Around} {E:Aa} {Q:Aa} {c:Value} {b:Bool}
inductive bX (K:PySem.W.Frag) (H:Hp):V->Value->Prop where
 |non:bX K H .non (.type "NoneType")
 |bl (x:Bool):bX K H (.bl x) (.type "bool")
 |int (i:Int):bX K H (.int i) (.type "int")
 |str (x:Str):bX K H (.str x) (.type "str")
 |flt (x:UInt64):bX K H (.flt x) (.type "float")
 |lst {a:Addr} {xs:List V} (e:H a=some (.lst xs)):bX K H (.ref a) (.type "list")
 |frz {a:Addr} {o:Obj} {xs:List V} (e:H a=some (.frz o (.lst xs))):bX K H (.ref a) (.type "list")
 |tup {a:Addr} {xs:List V} (e:H a=some (.tup xs)):bX K H (.ref a) (.type "tuple")
 |dK {a:Addr} {kvs:List (Key×V)} (e:H a=some (.dK kvs)):bX K H (.ref a) (.type "dict")
 |dT {a:Addr} {kvs:List (List Key×V)} (e:H a=some (.dT kvs)):bX K H (.ref a) (.type "dict")
 | ins {a C dx:Addr} {fs:List (Str×V)} (e:H a=some (.ins C dx fs)) (cl:f7 K C) (ha:PySem.W.findIn K (.ref C) "__class__" = some (some (.builtin "object.__class__")))
   (hn:PySem.W.specialIn K (.builtin "object.__class__") "__get__" = some (some (.builtin "getset_descriptor.__get__"))) (rT:PySem.W.takesIn K (.builtin "object.__class__")=some true)
   (hm:PySem.W.mroIn K C (.type "object")=some true):bX K H (.ref a) (.ref C)
def rV {x:V}{u t:Value}(I:Inv X pins U H s) (rx:RelV x u) (ty:bX X.K H x t) (e:PySem.W.kitOne X.K t c=some b) (h:∀tk,Q (.bool b) { s with toks:=tk }) :
  wpAny (model X.prog X.w) A (call (.builtin "isinstance") [u,c]) Q E s:=by
 cases ty with
 |non=>cases (show u=Value.none from rx);exact PySem.W.kia_one PySem.W.kitx_none I.kIn True.intro e (λz=>nomatch z) h
 |bl y=>cases (show u=Value.bool y from rx);exact PySem.W.kia_one PySem.W.kitx_bool I.kIn True.intro e (λz=>nomatch z) h
 |int i=>obtain ⟨t,q⟩:=(show ∃t,u=Value.int i t from rx);cases q;exact PySem.W.kia_one PySem.W.kitx_int I.kIn True.intro e (λz=>nomatch z) h
 |str y=>obtain ⟨t,q⟩:=(show ∃t,u=Value.str y t from rx);cases q;exact PySem.W.kia_one PySem.W.kitx_str I.kIn True.intro e (λz=>nomatch z) h
 |flt y=>obtain ⟨t,q⟩:=(show ∃t,u=Value.float y t from rx);cases q;exact PySem.W.kia_one PySem.W.kitx_float I.kIn True.intro e (λz=>nomatch z) h
 |@lst a xs ea =>
  cases (show u=Value.ref a from rx)
  obtain ⟨_,_,n,_,h1⟩:=(show aM X.prog X.w H s.heap a (.lst xs) from I.hok a _ ea)
  exact PySem.W.kia_one PySem.W.kitx_list I.kIn ⟨_,h1,rfl⟩ e (λz=>nomatch z) h
 |@frz a ob xs ea =>
  cases (show u=Value.ref a from rx)
  obtain ⟨_,_,_,n,_,h1⟩:=(show aM X.prog X.w H s.heap a (.frz ob (.lst xs)) from I.hok a _ ea)
  exact PySem.W.kia_one PySem.W.kitx_list I.kIn ⟨_,h1,rfl⟩ e (λz=>nomatch z) h
 |@tup a xs ea =>
  cases (show u=Value.ref a from rx)
  obtain ⟨_,_,_,p⟩:=(show aM X.prog X.w H s.heap a (.tup xs) from I.hok a _ ea)
  obtain ⟨o,h1,h2,_⟩:=p
  exact PySem.W.kia_one PySem.W.kitx_tuple I.kIn ⟨o,h1,h2⟩ e (λz=>nomatch z) h
 |@dK a kvs ea =>
  cases (show u=Value.ref a from rx)
  obtain ⟨_,_,vs,_,p⟩:=(show aM X.prog X.w H s.heap a (.dK kvs) from I.hok a _ ea)
  obtain ⟨o,es,ep,h1,h2,_⟩:=p
  exact PySem.W.kia_one PySem.W.kitx_dict I.kIn ⟨o,h1,h2.1⟩ e (λz=>nomatch z) h
 |@dT a kvs ea =>
  cases (show u=Value.ref a from rx)
  obtain ⟨_,_,xs,_,o,es,ep,h1,h2,_⟩:=(show aM X.prog X.w H s.heap a (.dT kvs) from I.hok a _ ea)
  exact PySem.W.kia_one PySem.W.kitx_dict I.kIn ⟨o,h1,h2.1⟩ e (λz=>nomatch z) h
 |@ins a C dx fs ea cl ha hn rT hm =>
  cases (show u=Value.ref a from rx)
  obtain ⟨mA,O,_⟩:=Cg I.hok ea
  obtain ⟨od,J,_⟩:=O.look
  exact PySem.W.kia_one (PySem.W.kitx_own (cl.get _) cl.hd ha hn rT hm) I.kIn J e (λz=>nomatch z) h
end
structure bh (k:Nat) (A:Around):Prop where
 hd:A.handled=none
 dp:A.depth+3*k+5<recursionLimit
 un:A.units+16*k+200<cLine
def bh.mono {j k:Nat}{A:Around}(r:bh k A) (h:j<=k):bh j A:=⟨r.hd,by have:=r.dp;omega,by have:=r.un;omega⟩
theorem bh.deeper {k:Nat}{A:Around}(r:bh (k+1) A) (env:Env):bh k (A.deeper env) :=
 ⟨r.hd,by have:=r.dp;show A.depth+1+3*k+5<_;omega,by have:=r.un;show A.units+3+16*k+200<_;omega⟩
theorem bh.depth {k:Nat}{A:Around}(r:bh k A):A.depth<recursionLimit:=by have:=r.dp;omega
def Ci:TA:=λ_ H Q=>Q [] H
def Cj (ta:TE) (tr:TA):TA:=λU H Q=>ta U H λx H1=>tr U H1 λxs H2=>Q (x::xs) H2
section
variable {X:Cx} {e:Expr} {es:List Expr} {te:TE} {t:TA} {pos:Pos}
def oy:PA X [] Ci:=λ_ _ _ _ H Q I h=>Calls.spliced_nil ⟨[],H,I,.nil,h⟩
def oz (ha:PE X e te) (hr:PA X es t) (hs:starEach (e::es) X.env=(false,eval e X.env)::starEach es X.env:=by rfl):PA X (e::es) (Cj te t):=by
 intro pos pins s U H Q I h
 rw [hs]
 show wpAny _ _ (spliced ((false,eval e X.env)::backTo pos (starEach es X.env))) _ _ s
 refine Calls.spliced_cons (aI (ha pins s U H _ I h) λu s1 ⟨x,H1,I1,r1,q1⟩=>?_)
 exact aI (hr pos pins s1 U H1 _ I1 q1) λus s2 ⟨xs,H2,I2,r2,q2⟩=>⟨x::xs,H2,I2,.cons r1 r2,q2⟩
def Ck (t:TA):TE:=λU H Q=>t U H λxs H1=>xs.length<=sizeLine/\∀p,H1 p=none->Q (.ref p) (upd H1 p (.tup xs))
def Cm (t:TA):TE:=λU H Q=>t U H λxs H1=>xs.length<=sizeLine/\∀p,H1 p=none->Q (.ref p) (upd H1 p (.lst xs))
def Cn {x1}(h:PA X es t):PE X (.Tuple es x1 pos) (Ck t):=by
 intro pins s U H Q I hq
 refine wpAny_Tuple_spliced (aI (h pos pins s U H _ I hq) λus s1 ⟨xs,H1,I1,r,z,q⟩=>⟨by rw [<-r.length];exact z,?_⟩)
 have hf:H1 s1.heap.objs.size=none:=I1.hok.fresh (zG _)
 refine ⟨.ref s1.heap.objs.size,upd H1 s1.heap.objs.size (.tup xs),I1.laid (t':=s1.toks) (λb u e=>zU _ e) (zG _) ?_,rfl,q _ hf⟩
 exact ⟨z,us,r,⟨_,yw _ rfl,rfl,_,rfl⟩⟩
def Co (h:PA X es t):PE X (.List es pos) (Cm t):=by
 intro pins s U H Q I hq
 refine wpAny_List_spliced (aI (h pos pins s U H _ I hq) λus s1 ⟨xs,H1,I1,r,z,q⟩=>⟨by rw [<-r.length];exact z,?_⟩)
 have hf:H1 s1.heap.objs.size=none:=I1.hok.fresh (zG _)
 refine ⟨.ref s1.heap.objs.size,upd H1 s1.heap.objs.size (.lst xs),I1.laid (t':=s1.toks) (λb u e=>zU _ e) (zG _) ?_,rfl,q _ hf⟩
 exact ⟨z,us,0,r,yw _ rfl⟩
end
abbrev Sp:=List V->Hp->VK->XK->Prop
abbrev de:=List Env->Hp->Shared->XK->Aa
structure fH (P:Program) (w:World) (K:PySem.W.Frag) (mg:Ab) (base:Heap) (A:Around) (outer:List Env) (s:Shared) (H:Hp):Prop where
 frames:A.frames=some outer
 mod:Mod K mg base
 bs:∀b o,base.get? b=some o->s.heap.get? b=some o/\H b=none
 bsz:base.objs.size<=s.heap.objs.size
 funs:s.heap.FunFrames base outer
 frf:∀b∈bU outer,H b=none
 hok:bq P w H s.heap
 bare:AllBare s.gens
def CE (outer:List Env) (P:Program) (w:World) (H:Hp) (s:Shared) (Q:VK) (u:Value) (s':Shared):Prop :=
 ∃v H',s'.os=s.os/\AllBare s'.gens/\Un (bU outer) [] H H' s.heap s'.heap/\bq P w H' s'.heap/\RelV v u/\Q v H'
def CR (CX:de) (outer:List Env) (P:Program) (w:World) (H:Hp) (s:Shared) (Q:VK) (E:XK) (r:Result) (s':Shared):Prop :=
 match r with
 |.ok (.ret u)=>CE outer P w H s Q u s'
 |.ok _=>False
 |.error e=>CX outer H s E e s'
structure a_ (P:Program) (w:World) (K:PySem.W.Frag) (mg:Ab) (base:Heap) (CX:de) (k:Nat) (f:Addr) (fd:FuncData) (ps:Ad) (sp:Sp):Prop where
 len:∀vs H Q E,sp vs H Q E->vs.length=ps.length
 run:∀(A:Around) (outer:List Env) (s:Shared) (H:Hp) (args:Args) (us:Af) (vs:List V) (Q:VK) (E:XK),bh k A->fH P w K mg base A outer s H->BindsTo s fd args (ps.zip us)->Vals vs us->sp vs H Q E ->
  codeAny (model P w) A (.call (.ref f) args) (CR CX outer P w H s Q E) s
theorem a_.mono {P:Program}{w:World}{K:PySem.W.Frag}{mg:Ab}{base:Heap}{CX:de}{j k:Nat}{f:Addr}{fd:FuncData}{ps:Ad}{sp:Sp}(F:a_ P w K mg base CX j f fd ps sp) (h:j<=k) :
  a_ P w K mg base CX k f fd ps sp:=⟨F.len,λA outer s H args us vs Q E hr=>F.run A outer s H args us vs Q E (hr.mono h)⟩
def a_.imp {P:Program}{w:World}{K:PySem.W.Frag}{mg:Ab}{base:Heap}{CX:de}{k:Nat}{f:Addr}{fd:FuncData}{ps:Ad}{sp rW:Sp}(F:a_ P w K mg base CX k f fd ps sp)
  (h:∀vs H Q E,rW vs H Q E->sp vs H Q E):a_ P w K mg base CX k f fd ps rW :=
 ⟨λvs H Q E q=>F.len vs H Q E (h _ _ _ _ q),λA outer s H args us vs Q E hr he hb hv hs=>F.run A outer s H args us vs Q E hr he hb hv (h _ _ _ _ hs)⟩
section
variable {X:Cx} {pins:Ac} {U:St} {H:Hp} {s s':Shared}
def Inv.env0 (I:Inv X pins U H s):fH X.prog X.w X.K X.mg X.base X.A X.stack s H :=
 ⟨I.ok.frames,I.ok.mod,I.bs,yL I.ok.bsz I.sz,I.stack,I.stkFree,I.hok,I.bare⟩
def Inv.after {Q:VK}{u:Value}(I:Inv X pins U H s) (h:CE X.stack X.prog X.w H s Q u s'):EP X pins U Q u s':=by
 obtain ⟨v,H',os,bare,un,hok,r,q⟩:=h
 obtain ⟨hh,g,d,t,Cp⟩:=s'
 obtain rfl:Cp=s.os:=os
 exact ⟨v,H',I.call (h':=hh) (g':=g) (d':=d) (t':=t) (ch:=[]) un hok bare (λb z=>absurd z (by simp)),r,q⟩
end
def Cq (sp:Sp) (e_:List V) (E:XK) (t:TA):TE:=λU H Q=>t U H λvs H1=>sp (vs++e_) H1 Q E
def Binds (K:PySem.W.Frag) (fd:FuncData) (ps:Ad) (ds:Af):Prop :=
 ∀(s:Shared) (us:Af),K.In s.heap->(us++ds).length=ps.length->BindsTo s fd ⟨us,[]⟩ (ps.zip (us++ds))
def Binds.all {K:PySem.W.Frag}{fd:FuncData}{ps:Ad}(h:∀us:Af,us.length=ps.length->bindArgs fd ⟨us,[]⟩=pure (ps.zip us)):Binds K fd ps []:=λs us _ hl=>by
 rw [List.append_nil] at hl ⊢
 exact .of_eq (h us hl)
def Passes (CX:de) (X:Cx) (E:XK):Prop:=∀(pins:Ac) (U:St) (H:Hp) (s:Shared) (e:Value) (s':Shared),Inv X pins U H s->CX X.stack H s E e s'->X.xe e s'
section
variable {X:Cx} {CX:de} {k:Nat} {f C:Addr} {fd:FuncData} {ps:Ad} {sp:Sp} {e_:List V} {ds:Af} {E:XK} {x:Str} {p pos:Pos} {e:Expr} {es:List Expr} {t:TA}
def Cr {pins:Ac}{U:St}{H:Hp}{s:Shared}{Q:VK}{us:Af}{vs:List V}(F:a_ X.prog X.w X.K X.mg X.base CX k f fd ps sp) (hr:bh k X.A) (hb:Binds X.K fd ps ds) (hd:Vals e_ ds) (hx:Passes CX X E)
  (I:Inv X pins U H s) (r:Vals vs us) (h:sp (vs++e_) H Q E):wpAny (model X.prog X.w) X.A (call (.ref f) us) (EP X pins U Q) X.xe s:=by
 have r2:Vals (vs++e_) (us++ds):=r.append hd
 have hl:(us++ds).length=ps.length:=by rw [<-r2.length];exact F.len _ _ _ _ h
 refine wpAny_call (codeAny_mono (F.run X.A X.stack s H ⟨us,[]⟩ (us++ds) (vs++e_) Q E hr I.env0 (hb s us I.kIn hl) r2 h) λr s' hq=>?_)
 cases r with
 |error e=>exact hx pins U H s e s' I hq
 |ok fl =>
  cases fl with
  |ret u=>exact I.after hq
  |next=>exact hq.elim
  |brk=>exact hq.elim
  |cont=>exact hq.elim
def Cs (F:a_ X.prog X.w X.K X.mg X.base CX k f fd ps sp) (hr:bh k X.A) (hg:Gl X x) (hm:X.mg x=some (.ref f)) (hk:PySem.W.keepIn X.K (.ref f)=true) (hb:Binds X.K fd ps ds) (hd:Vals e_ ds) (hx:Passes CX X E)
  (ha:PA X (e::es) t) (ef:(x==("__debug__" : Str))=false:=by decide) (he:starEach (e::es) X.env=(false,eval e X.env)::starEach es X.env:=by rfl) (bS:(backTo pos (starEach es X.env)).any (·.1)=false:=by rfl) :
  PE X (.Call (.Name x p) (e::es) [] pos) (Cq sp e_ E t):=by
 intro pins s U H Q I h
 refine wpAny_Call_Name_kw (rK I hg hm ?_ ef)
 refine PySem.W.callWith_K (h₀:=X.base) I.ok.mod.kin hk (aI (ha pos pins s U H _ I h) λus s1 ⟨vs,H1,I1,r,q⟩=>⟨I1.kIn,?_⟩) he bS
 exact Cr F hr hb hd hx I1 r q
structure Mk (K:PySem.W.Frag) (C f:Addr):Prop where
 makes:PySem.W.makesIn K C=true
 init:PySem.W.findIn K (.ref C) "__init__" = some (some (.ref f))
 fn:PySem.W.isFn K (.ref f)=true
 kp:PySem.W.keepIn K (.ref C)=true
end
section
variable {fd:FuncData} {ps ks:Ad}
structure AG (K:PySem.W.Frag) (fd:FuncData) (ps ks:Ad) (g:List Value->List Value->Af) (gV:List V->List V->List V):Prop where
 to:∀(s:Shared) (us ws:Af),K.In s.heap->(g us ws).length=ps.length->BindsTo s fd ⟨us,ks.zip ws⟩ (ps.zip (g us ws))
 rel:∀{vs:List V} {us:Af} {zs:List V} {ws:Af},Vals vs us->Vals zs ws->Vals (gV vs zs) (g us ws)
end
structure aJ (N P:Ad) (sc:Scope):Prop where
 kind:sc.kind=.function
 co:sc.isCoroutine=false
 gen:sc.isGenerator=false
 nd:N.Nodup
 pre:N.take P.length=P
 par:∀x∈P,sc.names.lookup x=some .local\/sc.names.lookup x=some .cell
 nofree:∀y∈sc.names,y.2 ≠ .free
theorem rX {kindOf:Str->Option NameKind}{x:Str}:∀{binds:List (Str×Value)}{m:Ab},(∀v,(x,v)∉binds)->bindL kindOf binds m x=m x
 |[],_,_=>rfl
 | (n,v)::r,m,h=>by
  unfold bindL
  rw [rX λw hw=>h w (yF _ hw)]
  split
  ·have:x≠n:=by rintro rfl;exact h v yr
   simp [this]
  ·rfl
theorem rY {kindOf:Str->Option NameKind}{x:Str}:∀{binds:List (Str×Value)}{m:Ab},(∀v,(x,v)∉binds)->bindC kindOf binds m x=m x
 |[],_,_=>rfl
 | (n,v)::r,m,h=>by
  unfold bindC
  rw [rY λw hw=>h w (yF _ hw)]
  split
  ·rfl
  ·have:x≠n:=by rintro rfl;exact h v yr
   simp [this]
theorem rZ {kindOf:Str->Option NameKind}{x:Str}{v:Value}:∀{P:Ad}{vs:Af}{i:Nat}{m:Ab},P.Nodup->P[i]?=some x->vs[i]?=some v->kindOf x=some .local ->
  bindL kindOf (P.zip vs) m x=some v
 |[],_,_,_,_,h,_,_=>by simp at h
 |_::_,[],_,_,_,_,h,_=>by simp at h
 |p::P,w::vs,0,m,nd,h1,h2,hk=>by
  simp at h1 h2;subst h1;subst h2
  show bindL kindOf ((p,w)::P.zip vs) m p=_
  unfold bindL
  rw [rX λv hv=>(ju.mp nd).1 (List.of_mem_zip hv).1,zu hk]
  simp
 |p::P,w::vs,i+1,m,nd,h1,h2,hk=>by
  show bindL kindOf ((p,w)::P.zip vs) m x=_
  unfold bindL
  exact rZ (i:=i) (ju.mp nd).2 (by simpa using h1) (by simpa using h2) hk
theorem r6 {kindOf:Str->Option NameKind}{x:Str}{v:Value}:∀{P:Ad}{vs:Af}{i:Nat}{m:Ab},P.Nodup->P[i]?=some x->vs[i]?=some v->kindOf x≠some .local ->
  bindC kindOf (P.zip vs) m x=some v
 |[],_,_,_,_,h,_,_=>by simp at h
 |_::_,[],_,_,_,_,h,_=>by simp at h
 |p::P,w::vs,0,m,nd,h1,h2,hk=>by
  simp at h1 h2;subst h1;subst h2
  show bindC kindOf ((p,w)::P.zip vs) m p=_
  unfold bindC
  rw [rY λv hv=>(ju.mp nd).1 (List.of_mem_zip hv).1,zt hk]
  simp
 |p::P,w::vs,i+1,m,nd,h1,h2,hk=>by
  show bindC kindOf ((p,w)::P.zip vs) m x=_
  unfold bindC
  exact r6 (i:=i) (ju.mp nd).2 (by simpa using h1) (by simpa using h2) hk
def start (N:Ad) (vs:List V):St:=vs.map some++List.replicate (N.length-vs.length) none
def cy (CX:de) (P:Program) (w:World) (K:PySem.W.Frag) (mg:Ab) (base:Heap) (N:Ad) (qual:Str) (scope:Scope) (f:Addr) (cd:Value) (A:Around) (outer:List Env) (s:Shared) (H:Hp) (E:XK):Cx where
 prog:=P
 w:=w
 K:=K
 mg:=mg
 base:=base
 A:=A.deeper (envOfC qual scope s.heap.objs.size f cd)
 N:=N
 s₀:=s
 H₀:=H
 env:=envOfC qual scope s.heap.objs.size f cd
 outer:=outer
 stack:=envOfC qual scope s.heap.objs.size f cd::outer
 ex:=[]
 calm:=true
 fn:=λ_=>true
 pn:=[]
 xe:=λe s'=>wpAny (model P w) (A.deeper (envOfC qual scope s.heap.objs.size f cd)) (leaving (envOfC qual scope s.heap.objs.size f cd) e) (λ_ oA=>CX outer H s E e oA) (λe' oA=>CX outer H s E e' oA) s'
def r8 {sc:Scope}{n:Nat}{x:Str}(h:sc.names.lookup x=some .cell):∃c,(cellsFrom n sc.names []).lookup x=some c:=by
 have q:=PySem.W.cellsFrom_some sc.names n [] (.inl h)
 exact Option.isSome_iff_exists.mp q
def Ct {CX:de}{P:Program}{w:World}{K:PySem.W.Frag}{mg:Ab}{base:Heap}{N ps:Ad}{qual:Str}{scope:Scope}{f:Addr}{cd:Value}{A:Around}{outer:List Env}{s s1:Shared}{H:Hp}{E:XK}{us:Af}{vs:List V}
  (S:aJ N ps scope) (hd:A.handled=none) (e0:fH P w K mg base A outer s H) (hl:vs.length=ps.length) (r:Vals vs us)
  (x:InCallC s s.heap.objs.size (bindL (envOfC qual scope s.heap.objs.size f cd).kindOf (ps.zip us) λ_=>none) (cellsFrom (s.heap.objs.size+1) scope.names []) (bindC (envOfC qual scope s.heap.objs.size f cd).kindOf (ps.zip us) λ_=>none) s1) :
  Inv (cy CX P w K mg base N qual scope f cd A outer s H E) [] (start N vs) H s1:=by
 have bS:ps.length<=N.length:=by have:=congrArg List.length S.pre;rw [List.length_take] at this;omega
 obtain ⟨h1,tk,rfl,hk⟩:=x.done
 have i9:∀b:Addr,b∉(cy CX P w K mg base N qual scope f cd A outer s H E).ex:=λb z=>absurd (show b∈([]:Ae) from z) (by simp)
 refine ⟨⟨e0.mod,S.kind,rfl,rfl,zG _,λy z c h1 h2=>?_,λy hy=>?_,λy c _ h=>?_,λ_=>hd,Around.frames_deeper e0.frames,.inr ⟨rfl,rfl⟩,λb z=>absurd z (i9 b),e0.bs,e0.bsz,λb _ _=>i9 b,λb z=>absurd z (i9 b),e0.funs,e0.frf⟩,
  rfl,e0.bare,Un.kept hk,⟨_,x.toInCall.ns,λi y v h1 h2 h3=>?_⟩,λy c h=>⟨_,x.cell y c h⟩,e0.hok.fresh (zG _),λy c h=>?_,λp hp=>absurd (show p∈([]:Ac) from hp) (by simp),e0.hok.kept hk,?_⟩
 ·exact name_of_addr x.apart (PySem.mem_of_lookup h1) (PySem.mem_of_lookup h2)
 ·have hy:scope.names.lookup y=some .cell\/scope.names.lookup y=some .free:=hy
  rcases hy with hy|hy
  ·exact r8 hy
  ·exact absurd rfl (S.nofree _ (PySem.mem_of_lookup hy))
 ·exact Nat.le_of_lt (x.above y c (PySem.mem_of_lookup h))
 ·have hi:i<vs.length:=by
   unfold start at h2
   by_cases hi:i<vs.length
   ·exact hi
   ·rw [jN (by simpa using hi)] at h2
    rw [List.getElem?_replicate] at h2
    split at h2<;>cases h2
  have ha:vs[i]?=some v:=by
   unfold start at h2
   rw [wj (by simpa using hi),wf] at h2
   cases e:vs[i]? with
   |none=>rw [e] at h2;cases h2
   |some a=>rw [e] at h2;cases h2;rfl
  obtain ⟨u,hu,rv⟩:=r.get ha
  have hp:ps[i]?=some y:=by
   rw [<-S.pre,List.getElem?_take_of_lt (by omega)];exact h1
  have sd:ps.Nodup:=by rw [<-S.pre];exact S.nd.sublist (List.take_sublist _ _)
  refine ⟨u,rv,?_⟩
  rcases S.par y (iQ hp) with k|k
  ·exact .inl ⟨k,rZ sd hp hu k⟩
  ·obtain ⟨c,e⟩:=r8 (n:=s.heap.objs.size+1) k
   refine .inr ⟨.inl k,c,e,?_⟩
   have q:=x.cell y c e
   rw [r6 sd hp hu (by show scope.names.lookup y≠_;rw [k];decide)] at q
   exact q
 ·exact e0.hok.fresh (Nat.le_of_lt (x.above y c (PySem.mem_of_lookup h)))
 ·unfold start
  show _=N.length
  rw [jB,jL,List.length_replicate]
  omega
def se {CX:de}{P:Program}{w:World}{K:PySem.W.Frag}{mg:Ab}{base:Heap}{k:Nat}{f:Addr}{name qual:Str}{params:Arguments}{body:List Stmt}{scope:Scope}{dV kV doc pm aQ ct oc:Value}{an od:Option Addr}
  {dW:Array (Option Value)} {N ps:Ad} {sp:Sp} (lk:K.lookup f=some ⟨oc,od,.func (PySem.W.fnOf name qual params body scope dV kV doc pm an aQ ct),dW⟩) (dA:PySem.W.codeIn K aQ qual=true) (S:aJ N ps scope)
  (len:∀vs H Q E,sp vs H Q E->vs.length=ps.length)
  (df:∀(A:Around) (outer:List Env) (s:Shared) (H:Hp) (vs:List V) (Q:VK) (E:XK),bh k (A.deeper (envOfC qual scope s.heap.objs.size f aQ))->sp vs H Q E ->
   ∃t,bG (cy CX P w K mg base N qual scope f aQ A outer s H E) body t/\t { nx:=λ_ H'=>Q .non H',rt:=Q } (start N vs) H) :
  a_ P w K mg base CX (k+1) f (PySem.W.fnOf name qual params body scope dV kV doc pm an aQ ct) ps sp:=by
 refine ⟨len,λA outer s H args us vs Q E hr e0 hb r dX=>?_⟩
 have hl:=len _ _ _ _ dX
 have KX:K.In s.heap:=e0.mod.kin.keeps λb o e=>(e0.bs b o e).1
 have lim:s.heap.NoLimit:=e0.mod.nolimit.keeps λb o e=>(e0.bs b o e).1
 have oB:∀y∈ps.zip us,scope.names.lookup y.1=some .local\/(scope.names.lookup y.1=some .cell/\((cellsFrom (s.heap.objs.size+1) scope.names []).lookup y.1).isSome=true):=λ⟨n,v⟩ hy=>by
  rcases S.par n (List.of_mem_zip hy).1 with q|q
  ·exact .inl q
  ·exact .inr ⟨q,PySem.W.cellsFrom_some _ _ _ (.inl q)⟩
 refine codeAny_call_function hr.depth (KX _ _ lk) rfl S.co S.gen rfl (PySem.W.codeRec_of KX dA) (hb _ _ _ _ ?_)
 refine wpAny_newFunctionEnv_cells S.kind oB λenv he s1 x=>?_
 subst he
 refine ⟨lim.keeps x.toInCall.keep,codeAny_func ?_⟩
 obtain ⟨t,ht,hq⟩:=df A outer s H vs Q E (hr.deeper _) dX
 have I:Inv (cy CX P w K mg base N qual scope f aQ A outer s H E) [] (start N vs) H s1:=Ct S hr.hd e0 hl r x
 refine yE (ht [] s1 (start N vs) H _ I hq) (λfl s' hs=>?_) λe s' hs=>hs
 have fin:∀{ag:St} {H':Hp} {v:V} {u:Value},Inv (cy CX P w K mg base N qual scope f aQ A outer s H E) [] ag H' s'->RelV v u->Q v H'->CE outer P w H s Q u s' :=
  λ{ag H' v u} J rv q=>⟨v,H',J.os,J.bare,J.base,J.hok,rv,q⟩
 cases fl with
 |ret u =>
  obtain ⟨v,ag,H',J,rv,q⟩:=hs
  exact fin J rv q
 |next =>
  obtain ⟨ag,H',J,q⟩:=hs
  exact fin (v:=V.non) (u:=Value.none) J rfl q
 |brk =>
  obtain ⟨_,_,_,q⟩:=hs
  exact q.elim
 |cont =>
  obtain ⟨_,_,_,q⟩:=hs
  exact q.elim
section
variable {X:Cx} {x:Str} {p pos:Pos} {e:Expr} {es:List Expr} {t:TA} {id T:String} {r:List V->Hp->VK->Prop}
def sf (r:List V->Hp->VK->Prop) (t:TA):TE:=λU H Q=>t U H λvs H1=>r vs H1 Q
def Cu (hc:bH X (.builtin id) r) (hg:Gl X x) (hm:X.mg x=none) (hv:bootBuiltins x=some (.builtin id)) (ha:PA X (e::es) t) (hn:x ≠ "__name__" := by decide) (ef:(x==("__debug__" : Str))=false:=by decide)
  (he:starEach (e::es) X.env=(false,eval e X.env)::starEach es X.env:=by rfl) (bS:(backTo pos (starEach es X.env)).any (·.1)=false:=by rfl):PE X (.Call (.Name x p) (e::es) [] pos) (sf r t):=by
 intro pins s U H Q I h
 refine wpAny_Call_Name_kw (g8 I hg hm hv ?_ hn ef)
 exact PyProof.Rows.callWith_builtin1 (aI (ha pos pins s U H _ I h) λus s1 ⟨vs,H1,I1,r1,q1⟩=>hc pins s1 U H1 vs us Q I1 r1 q1) he bS
def Cw (hc:bH X (.type T) r) (hg:Gl X x) (hm:X.mg x=none) (hv:bootBuiltins x=some (.type T)) (ha:PA X (e::es) t) (hn:x ≠ "__name__" := by decide) (ef:(x==("__debug__" : Str))=false:=by decide)
  (he:starEach (e::es) X.env=(false,eval e X.env)::starEach es X.env:=by rfl) (bS:(backTo pos (starEach es X.env)).any (·.1)=false:=by rfl):PE X (.Call (.Name x p) (e::es) [] pos) (sf r t):=by
 intro pins s U H Q I h
 refine wpAny_Call_Name_kw (g8 I hg hm hv ?_ hn ef)
 exact PyProof.Rows.callWith_type1 (aI (ha pos pins s U H _ I h) λus s1 ⟨vs,H1,I1,r1,q1⟩=>hc pins s1 U H1 vs us Q I1 r1 q1) he bS
end
end L2
namespace HT
open PySem PyProof.Rows
section
open PySem.SeqAt
open PySem.AutoSeq1 (wpAny_loadPart')
open PySem.MeetsSeq PySem.MeetsSeq2 PySem.MeetsSeq3
end
section
variable {prog:Program} {w:World} {A:Around} {E:Aa} {s:Shared}
def cat_tup {t b:Addr}{vs ws:Af}{Q:Aa}(ht:IsTup s.heap t vs.toArray) (hb:IsTup s.heap b ws.toArray) (hv:vs≠[])
  (h1:ws=[]->Q (.ref t) s) (h2:ws≠[]->Q (.ref s.heap.objs.size) { s with heap:=s.heap.push { cls:=.type "tuple", data:=.seq (vs++ws).toArray } })
  (hsz:vs.length+ws.length<=sizeLine):wpAny (model prog w) A (binaryOp .Add (.ref t) (.ref b)) Q E s:=by
 obtain ⟨⟨cls,dd,data,sl⟩,ho,hc,n,hd⟩:=id ht
 obtain ⟨⟨nV,f9,data2,f_⟩,eP,fI,n2,hd2⟩:=id hb
 simp only at hc hd fI hd2
 subst hc hd fI hd2
 have e:vs.toArray++ws.toArray=(vs++ws).toArray:=by simp
 by_cases hw:ws=[]
 ·exact concat_meets ⟨_,ho,rfl⟩ ⟨_,eP,rfl⟩ noFill_tuple_add seq_tuple_add PySem.F.slot_tuple_add PySem.F.entry_tuple_add (PySem.F.args_tuple_add_2 _ _)
   (tuple_addW1 t b vs.toArray ws.toArray n n2 dd f9 sl f_ (by simpa using hv) (by simp [hw])) ⟨ho,eP,h1 hw⟩
 ·refine concat_meets ⟨_,ho,rfl⟩ ⟨_,eP,rfl⟩ noFill_tuple_add seq_tuple_add PySem.F.slot_tuple_add PySem.F.entry_tuple_add (PySem.F.args_tuple_add_2 _ _)
   (tuple_addW2 t b vs.toArray ws.toArray n n2 dd f9 sl f_ (by simpa using hv) (by simpa using hw) (by rw [yf,yf];exact hsz)) ⟨ho,eP,?_⟩
  rw [e]
  exact h2 hw
def sIx (n d:Nat):Option Int->Nat
 |none=>d
 |some v=>if v<0 then (v+(n:Int)).toNat else min v.toNat n
def sIx_none (n d:Nat):sIx n d none=d:=rfl
def sIx_nat (n d k:Nat):sIx n d (some (k:Int))=min k n:=by
 show (if (k:Int)<0 then ((k:Int)+(n:Int)).toNat else min (k:Int).toNat n)=min k n
 rw [zt (by omega),Int.toNat_natCast]
def Cy (n d:Nat) (hd:d<=n) (o:Option Int):sIx n d o<=n:=by
 cases o with
 |none=>exact hd
 |some v =>
  show (if v<0 then (v+(n:Int)).toNat else min v.toNat n)<=n
  by_cases hv:v<0
  ·rw [zu hv];omega
  ·rw [zt hv];exact Nat.min_le_right _ _
def sh (v:Int) (n d:Nat):(if v<0 then max (v+(n:Int)) 0 else min v (n:Int))=((sIx n d (some v):Nat):Int):=by
 show (if v<0 then max (v+(n:Int)) 0 else min v (n:Int))=(((if v<0 then (v+(n:Int)).toNat else min v.toNat n):Nat):Int)
 by_cases hv:v<0
 ·simp only [zu hv];omega
 ·simp only [zt hv];omega
def Cz (lo hi:Option Int) (n:Nat):Builtin.Slice.sliceAdjust lo hi 1 (n:Int)=(((sIx n 0 lo:Nat):Int),((sIx n n hi:Nat):Int)):=by
 have h1:¬((1:Int)<0):=by omega
 unfold Builtin.Slice.sliceAdjust
 simp only [h1,yG]
 refine Prod.ext ?_ ?_
 ·cases lo with
  |none=>rfl
  |some v=>exact sh v n 0
 ·cases hi with
  |none=>rfl
  |some v=>exact sh v n n
def CA (i j:Nat):Builtin.Slice.slicePlaces (i:Int) (j:Int) 1=j-i:=by
 unfold Builtin.Slice.slicePlaces
 have h1:(1:Int)>0:=by omega
 simp only [h1,jf,Int.ediv_one]
 split<;>omega
def si {v:Value}{o:Option Int}{Q:Option Int->Shared->Prop}(p:IsPart v o) (h:Q o s):wpAny (model prog w) A (Builtin.Slice.slicePartIndex v) Q E s:=by
 cases p with
 |none=>exact slicePart_none h
 |int i t=>exact slicePart_int h
def sj {sl:Addr}{vl vu:Value}{lo hi:Option Int}{n:Nat}{Q:Int×Int×Nat->Shared->Prop}(hs:s.heap.IsSliceOf sl vl vu .none) (pl:IsPart vl lo) (pu:IsPart vu hi)
  (h:Q (((sIx n 0 lo:Nat):Int),1,sIx n n hi-sIx n 0 lo) s):wpAny (model prog w) A (Builtin.Slice.sliceApplied (.ref sl) (pure (n:Int))) Q E s:=by
 obtain ⟨os,gf,mf,i_⟩:=id hs
 unfold Builtin.Slice.sliceApplied Builtin.Slice.sliceFields
 refine zf (zf (jz gf i_ (x:=vl) rfl (zf (jz gf i_ (x:=vu) rfl (zf (jz gf i_ (x:=.none) rfl (zn ?_)))))))
 refine zf (slicePart_none ?_)
 show wpAny _ _ (if ((1:Int)==0)=true then _ else _) _ _ s
 rw [zt (by decide)]
 refine zf (si pl (zf (si pu (zf (zn ?_)))))
 show wpAny _ _ (match Builtin.Slice.sliceAdjust lo hi 1 (n:Int) with|(lo,hi)=>pure (lo,(1:Int),Builtin.Slice.slicePlaces lo hi 1)) _ _ s
 rw [Cz lo hi n]
 show wpAny _ _ (pure (((sIx n 0 lo:Nat):Int),(1:Int),Builtin.Slice.slicePlaces ((sIx n 0 lo:Nat):Int) ((sIx n n hi:Nat):Int) 1)) _ _ s
 rw [CA]
 exact zn h
def CB (xs:Array Value) (i k:Nat):((List.range k).filterMap λ(m:Nat)=>xs[((i:Int)+(m:Int)*1).toNat]?).toArray=((xs.toList.drop i).take k).toArray:=by
 have e:(λ(m:Nat)=>xs[((i:Int)+(m:Int)*1).toNat]?)=λm=>xs[i+m]?:=by
  funext m
  have:((i:Int)+(m:Int)*1).toNat=i+m:=by omega
  rw [this]
 rw [e]
 have:=pick_run xs i k
 rw [List.filterMap_map] at this
 have e2:((λx=>xs[x]?)∘λx=>i+x)=λm=>xs[i+m]?:=rfl
 rw [e2] at this
 rw [this]
def getItem_tuple_cut {t sl:Addr}{items:Array Value}{vl vu:Value}{lo hi:Option Int}{Q:Aa}(ht:IsTup s.heap t items) (hs:s.heap.IsSliceOf sl vl vu .none) (pl:IsPart vl lo) (pu:IsPart vu hi)
  (hw:¬(sIx items.size 0 lo=0/\sIx items.size items.size hi=items.size))
  (h:Q (.ref s.heap.objs.size) { s with heap:=s.heap.push { cls:=.type "tuple", data:=.seq ((items.toList.drop (sIx items.size 0 lo)).take (sIx items.size items.size hi-sIx items.size 0 lo)).toArray } })
  (hsz:items.size<=sizeLine):wpAny (model prog w) A (getItem (.ref t) (.ref sl)) Q E s:=by
 have dC:sizeOk (.seq ((items.toList.drop (sIx items.size 0 lo)).take (sIx items.size items.size hi-sIx items.size 0 lo)).toArray):=by
  show ((items.toList.drop (sIx items.size 0 lo)).take (sIx items.size items.size hi-sIx items.size 0 lo)).toArray.size<=sizeLine
  rw [yf,List.length_take,List.length_drop,Array.length_toList]
  omega
 have hj:sIx items.size items.size hi<=items.size:=Cy _ _ (zG _) hi
 obtain ⟨os,gf,mf,i_⟩:=id hs
 have gg:s.TypeIs (.ref sl) "slice" := ⟨os,gf,mf⟩
 unfold getItem
 try with_reducible refine jn ?_
 first|refine zf (zn ?_)|skip
 refine zf (wpAny_sequenceKey ht.typeIs (by decide) ?_)
 refine zf (wpAny_callSpecial?_slot (name:=Str.ofString "__getitem__") ht.typeIs PyProof.Rows.slot_tuple_getitem
  (jA PyProof.Rows.slot_tuple_getitem ht.typeIs entry_tuple_getitem ?_ (args_tuple_getitem _ _)))
 show wpAny _ _ (Builtin.Tuple.tupleItemsOf (.ref t) >>= _) _ _ s
 refine zf (tupleItemsOf_ ht ?_)
 refine zf (wpAny_typeOf gg ?_)
 rw [zu (by decide)]
 refine zf (sj hs pl pu ?_)
 have CC:¬((((sIx items.size 0 lo:Nat):Int)==0&&(1:Int)==1&&(sIx items.size items.size hi-sIx items.size 0 lo)==items.size)=true):=by
  intro q
  rw [yA,yA] at q
  have q1:((sIx items.size 0 lo:Nat):Int)=0:=eq_of_beq q.1.1
  have q2:sIx items.size items.size hi-sIx items.size 0 lo=items.size:=eq_of_beq q.2
  exact hw ⟨by omega,by omega⟩
 show wpAny _ _ (if (((sIx items.size 0 lo:Nat):Int)==0&&(1:Int)==1&&(sIx items.size items.size hi-sIx items.size 0 lo)==items.size)=true then _ else _) _ _ s
 rw [zt CC,CB]
 first
  |exact zf (m:=Builtin.Tuple.tupleExact _) (jd (zn ⟨_,rfl,zn h⟩) dC)
  |exact zf (m:=Builtin.Tuple.tupleExact _) (jd (zf (zn (zn ⟨_,rfl,zn h⟩))) dC)
  |exact zf (zf (m:=Builtin.Tuple.tupleExact _) (jd (zn (zn ⟨_,rfl,zn h⟩)) dC))
  |exact zf (zf (m:=Builtin.Tuple.tupleExact _) (jd (zn ⟨_,rfl,zn h⟩) dC))
end
end HT
namespace L2
open PySem PySem.Spec PyProof.Rows
abbrev TO:=St->Hp->(Option Int->Hp->Prop)->Prop
def PO (X:Cx) (e:Option Expr) (t:TO):Prop :=
 ∀(pins:Ac) (s:Shared) (U:St) (H:Hp) (Q:Option Int->Hp->Prop),Inv X pins U H s->t U H Q ->
  wpAny (model X.prog X.w) X.A (evalPart e X.env) (λu s'=>∃o H',Inv X pins U H' s'/\IsPart u o/\Q o H') X.xe s
def CD:TO:=λ_ H Q=>Q none H
def CF (t:TE):TO:=λU H Q=>t U H λx H1=>∃i,x=.int i/\Q (some i) H1
section
variable {X:Cx} {e:Expr} {te:TE} {lo hi:Option Expr} {tl th:TO} {pos p2:Pos}
def CG:PO X none CD:=by
 intro pins s U H Q I h
 rw [evalPart_none]
 exact zn ⟨none,H,I,.none,h⟩
def CH (h:PE X e te):PO X (some e) (CF te):=by
 intro pins s U H Q I hw
 rw [evalPart_some]
 refine aI (h pins s U H _ I hw) λu s1 ⟨x,H1,I1,r1,q1⟩=>?_
 obtain ⟨i,rfl,q⟩:=q1
 obtain ⟨t,rfl⟩:=r1
 exact ⟨some i,H1,I1,.int i t,q⟩
def ff (X:Cx) (r:V->Option Int->Option Int->Hp->VK->Prop):Prop :=
 ∀(pins:Ac) (s:Shared) (U:St) (H:Hp) (x:V) (v vl vu:Value) (lo hi:Option Int) (sl:Addr) (Q:VK),Inv X pins U H s->RelV x v->s.heap.IsSliceOf sl vl vu .none->IsPart vl lo->IsPart vu hi->r x lo hi H Q ->
  ∃T id,typeLookup (.type T) "__getitem__" = pure (some (.builtin id))/\s.TypeIs v T/\wpAny (model X.prog X.w) X.A (getItem v (.ref sl)) (EP X pins U Q) X.xe s
def ff.or {r r':V->Option Int->Option Int->Hp->VK->Prop}(h:ff X r) (h':ff X r'):ff X (λx lo hi H Q=>r x lo hi H Q\/r' x lo hi H Q):=by
 intro pins s U H x v vl vu lo hi sl Q I rx hs pl pu q
 rcases q with q|q
 ·exact h pins s U H x v vl vu lo hi sl Q I rx hs pl pu q
 ·exact h' pins s U H x v vl vu lo hi sl Q I rx hs pl pu q
def CI (r:V->Option Int->Option Int->Hp->VK->Prop) (te:TE) (tl th:TO):TE:=λU H Q=>te U H λx H1=>tl U H1 λl H2=>th U H2 λu H3=>r x l u H3 Q
def CJ {r:V->Option Int->Option Int->Hp->VK->Prop}(hr:ff X r) (he:PE X e te) (hl:PO X lo tl) (hu:PO X hi th):PE X (.Subscript e (.Slice lo hi none p2) pos) (CI r te tl th):=by
 intro pins s U H Q I h
 refine Subscript_ (aI (he pins s U H _ I h) λv s1 ⟨x,H1,I1,r1,q1⟩=>?_)
 refine wpAny_Slice (aI (hl pins s1 U H1 _ I1 q1) λvl s2 ⟨l,H2,I2,pl,q2⟩=>aI (hu pins s2 U H2 _ I2 q2) λvu s3 ⟨u,H3,I3,pu,q3⟩=>?_)
 rw [evalPart_none]
 refine zn ?_
 have I4:Inv X pins U H3 { s3 with heap:=s3.heap.push { cls:=.type "slice", data:=.fields #[vl,vu,.none] } }:=I3.kept (t':=s3.toks) λb ob q=>zU _ q
 obtain ⟨T,id,hT,ht,hg⟩:=hr pins { s3 with heap:=s3.heap.push { cls:=.type "slice", data:=.fields #[vl,vu,.none] } } U H3 x v vl vu l u s3.heap.objs.size Q I4 r1 (Heap.IsSliceOf.new ..) pl pu q3
 show wpAny (model X.prog X.w) X.A (subscriptTail e (.Slice lo hi none p2) v (.ref s3.heap.objs.size)) (EP X pins U Q) X.xe { s3 with heap:=s3.heap.push { cls:=.type "slice", data:=.fields #[vl,vu,.none] } }
 exact tail_any (ops:=[.ref s3.heap.objs.size,v]) ht hT hg (by with_unfolding_all rfl)
def dO (xs:List V) (lo hi:Option Int):List V:=(xs.drop (HT.sIx xs.length 0 lo)).take (HT.sIx xs.length xs.length hi-HT.sIx xs.length 0 lo)
def sk (xs:List V) (lo hi:Option Int):(dO xs lo hi).length<=xs.length:=by
 unfold dO
 rw [List.length_take,List.length_drop]
 omega
def CK (K:PySem.W.Frag):V->Option Int->Option Int->Hp->VK->Prop:=λx lo hi H Q=>∃a xs,x=.ref a/\bg K H a xs /\
 ¬(HT.sIx xs.length 0 lo=0/\HT.sIx xs.length xs.length hi=xs.length)/\∀p,H p=none->Q (.ref p) (upd H p (.tup (dO xs lo hi)))
def CL:ff X (CK X.K):=by
 intro pins s U H x v vl vu lo hi sl Q I rx hs pl pu h
 obtain ⟨a,xs,rfl,hx,hw,q⟩:=h
 cases rx
 obtain ⟨its,r,ht,hz⟩:=I.tuple hx
 have hlen:its.toArray.size=xs.length:=by rw [yf];exact r.length.symm
 refine ⟨"tuple", _,PyProof.Rows.slot_tuple_getitem.lookup,ht.typeIs,?_⟩
 refine HT.getItem_tuple_cut ht hs pl pu (by rw [hlen];exact hw) ?_ (by rw [hlen];exact hz)
 rw [hlen]
 refine ⟨.ref s.heap.objs.size,_,I.laid (t':=s.toks) (o:=.tup (dO xs lo hi)) (λb ob q=>zU _ q) (zG _) ?_,rfl,q _ (I.hok.fresh (zG _))⟩
 exact ⟨yL (sk xs lo hi) hz,_,(r.drop (HT.sIx xs.length 0 lo)).take (HT.sIx xs.length xs.length hi-HT.sIx xs.length 0 lo),IsTup.new _ _⟩
def CM (K:PySem.W.Frag):R2:=λx y H Q=>∃a b xs ys,x=.ref a/\y=.ref b/\bg K H a xs/\bg K H b ys/\xs≠[]/\xs.length+ys.length<=sizeLine /\
 (ys=[]->Q (.ref a) H)/\(ys≠[]->∀p,H p=none->Q (.ref p) (upd H p (.tup (xs++ys))))
def Vals.nil_iff {xs:List V}{us:Af}(r:Vals xs us):us=[]↔xs=[]:=by
 cases r with
 |nil=>simp
 |cons _ _=>simp
def CN:aW X (binaryOp .Add) (CM X.K):=by
 intro pins s U H x y v u Q I rx ry h
 obtain ⟨a,b,xs,ys,rfl,rfl,ha,hb,hx,hz,q1,q2⟩:=h
 cases rx
 cases ry
 obtain ⟨its,r1,p1,_⟩:=I.tuple ha
 obtain ⟨aK,r2,p2,_⟩:=I.tuple hb
 refine HT.cat_tup p1 p2 (λz=>hx (r1.nil_iff.mp z)) (λz=>⟨.ref a,H,I,rfl,q1 (r2.nil_iff.mp z)⟩) (λz=>?_) (by rw [<-r1.length,<-r2.length];exact hz)
 refine ⟨.ref s.heap.objs.size,_,I.laid (t':=s.toks) (o:=.tup (xs++ys)) (λb ob q=>zU _ q) (zG _) ?_,rfl,q2 (λw=>z (r2.nil_iff.mpr w)) _ (I.hok.fresh (zG _))⟩
 exact ⟨by rw [jB];exact hz,_,r1.append r2,IsTup.new _ _⟩
end
def di (n:Nat) (i:Int):Option Nat:=if 0<=i then (if i<n then some i.toNat else none) else if -(n:Int)<=i then some (i+n).toNat else none
def bt {α:Type}(xs:List α) (i:Int):Option α:=(di xs.length i).bind λj=>xs[j]?
def CO {n:Nat}{i:Int}{j:Nat}(h:di n i=some j):seqIndex? i n=some j/\j<n /\ -(n:Int)<=i/\i<n:=by
 unfold di at h
 by_cases h0:0<=i
 ·rw [zu h0] at h
  by_cases h1:i<n
  ·rw [zu h1] at h
   have e:i.toNat=j:=Option.some.inj h
   exact ⟨by rw [seqIndex_of h0 h1,e],by omega,by omega,h1⟩
  ·rw [zt h1] at h;cases h
 ·rw [zt h0] at h
  by_cases h1 : -(n:Int)<=i
  ·rw [zu h1] at h
   have e:(i+n).toNat=j:=Option.some.inj h
   exact ⟨by rw [seqIndex_neg (by omega) h1,e],by omega,h1,by omega⟩
  ·rw [zt h1] at h;cases h
def bu {α:Type}{xs:List α}{i:Int}{v:α}(h:bt xs i=some v):∃j,seqIndex? i xs.length=some j/\xs[j]?=some v/\j<xs.length /\ -(xs.length:Int)<=i/\i<xs.length:=by
 unfold bt at h
 cases e:di xs.length i with
 |none=>rw [e] at h;cases h
 |some j =>
  rw [e] at h
  obtain ⟨h1,h2,h3,h4⟩:=CO e
  exact ⟨j,h1,h,h2,h3,h4⟩
def eo (b:Expr):Prop:=∀o i,subscripted b false o i=operate [o,i] (getItem o i)
def dY (X:Cx) (r:R2):Prop :=
 ∀(value slice:Expr) (pins:Ac) (s:Shared) (U:St) (H:Hp) (x y:V) (v u:Value) (Q:VK),Inv X pins U H s->RelV x v->RelV y u->r x y H Q ->
  subscripted slice false v u=operate [v,u] (getItem v u)->wpAny (model X.prog X.w) X.A (subscriptTail value slice v u) (EP X pins U Q) X.xe s
def CP (X:Cx) (id:String) (r:V->List V->Hp->VK->Prop):Prop :=
 ∀(pins:Ac) (s:Shared) (U:St) (H:Hp) (x:V) (xs:List V) (v:Value) (us:Af) (Q:VK),Inv X pins U H s->RelV x v->Vals xs us->r x xs H Q ->
  wpAny (model X.prog X.w) X.A (call (.builtin id) (v::us)) (EP X pins U Q) X.xe s
section
variable {X:Cx} {a b:Expr} {ta tb:TE} {pos:Pos}
def dY.or {r r':R2}(h:dY X r) (h':dY X r'):dY X (λx y H Q=>r x y H Q\/r' x y H Q):=by
 intro value slice pins s U H x y v u Q I rx ry q hs
 rcases q with q|q
 ·exact h value slice pins s U H x y v u Q I rx ry q hs
 ·exact h' value slice pins s U H x y v u Q I rx ry q hs
def CQ {r:R2}(hr:dY X r) (ha:PE X a ta) (hb:PE X b tb) (hs:eo b):PE X (.Subscript a b pos) (i5 r ta tb):=by
 intro pins s U H Q I h
 exact Subscript_ (i6 ha hb I h λv u s2 x y H2 I2 rx ry q=>hr a b pins s2 U H2 x y v u Q I2 rx ry q (hs _ _))
def sr (K:PySem.W.Frag):R2:=λx y H Q=>∃p xs i v,x=.ref p/\y=.int i/\aS K H p xs/\bt xs i=some v/\Q v H
def su (K:PySem.W.Frag):R2:=λx y H Q=>∃p xs i v,x=.ref p/\y=.int i/\bg K H p xs/\bt xs i=some v/\Q v H
def sv:R2:=λx y H Q=>∃z i c,x=.str z/\y=.int i/\z.length<=sizeLine/\bt z.cps.toList i=some c/\Q (.str ⟨#[c]⟩) H
def CS:dY X (sr X.K):=by
 intro value slice pins s U H x y v u Q I rx ry h hs
 obtain ⟨p,xs,i,z,rfl,rfl,hq,he,q⟩:=h
 cases rx
 obtain ⟨t,rfl⟩:=ry
 obtain ⟨its,r,pl,hz⟩:=I.list hq
 obtain ⟨j,h1,h2,h3,h4,h5⟩:=bu he
 obtain ⟨w,ew,cn⟩:=r.get h2
 have hl:=r.length
 have hn:=l9
 have fin:EP X pins U Q w s:=⟨z,H,I,cn,q⟩
 by_cases h0:0<=i
 ·have hj:i.toNat=j:=by
   rw [seqIndex_of h0 h5] at h1
   exact Option.some.inj h1
  exact item_listR pl.isList h0 (by omega) (by rw [hj];simpa using ew) fin hs
 ·have hj:(i+(its.toArray.size:Int)).toNat=j:=by
   rw [seqIndex_neg (by omega) h4] at h1
   rw [yf,<-hl]
   exact Option.some.inj h1
  exact subscriptTail_builtinR (x:=w) pl.isList.typeIs slot_list_getitem.lookup
   (wpAny_getItem_list_neg (Q:=λr s'=>r=w/\EP X pins U Q r s') pl.isList (by omega) (by rw [yf]<;>omega) (by omega) (by rw [hj];simpa using ew) ⟨rfl,fin⟩) hs
def CT:dY X (su X.K):=by
 intro value slice pins s U H x y v u Q I rx ry h hs
 obtain ⟨p,xs,i,z,rfl,rfl,hq,he,q⟩:=h
 cases rx
 obtain ⟨t,rfl⟩:=ry
 obtain ⟨its,r,pl,hz⟩:=I.tuple hq
 obtain ⟨j,h1,h2,h3,h4,h5⟩:=bu he
 obtain ⟨w,ew,cn⟩:=r.get h2
 have hl:=r.length
 have hn:=l9
 have fin:EP X pins U Q w s:=⟨z,H,I,cn,q⟩
 exact subscriptTail_builtinR (x:=w) pl.typeIs slot_tuple_getitem.lookup
  (getItem_tuple (j:=j) (Q:=λr s'=>r=w/\EP X pins U Q r s') pl (by omega) (by omega) (by rw [yf,<-hl];exact h1) (by simpa using ew) ⟨rfl,fin⟩) hs
def CU:dY X sv:=by
 intro value slice pins s U H x y v u Q I rx ry h hs
 obtain ⟨z,i,c,rfl,rfl,hz,he,q⟩:=h
 obtain ⟨t,rfl⟩:=rx
 obtain ⟨t',rfl⟩:=ry
 obtain ⟨j,h1,h2,h3,h4,h5⟩:=bu he
 have hl:z.cps.toList.length=z.length:=by simp [Str.length]
 rw [hl] at h1 h4 h5
 have hn:=l9
 exact tail_any (typeIs_str s z t) slot_str_getitem.lookup (getItem_str (c:=c) (by
  have e1:decide (i < -(2 ^ 63:Int))=false:=yn (by omega)
  have e2:decide (i>=2 ^ 63)=false:=yn (by omega)
  rw [e1,e2,Bool.or_false]) (by rw [h1];simpa using h2) ⟨.str ⟨#[c]⟩,H,I.tok _,⟨_,rfl⟩,q⟩) hs
def CV (K:PySem.W.Frag):R2:=λx y H Q=>sr K x y H Q\/su K x y H Q\/sv x y H Q
def CW:dY X (CV X.K):=CS.or (CT.or CU)
theorem Inv.lst {pins:Ac}{U:St}{H:Hp}{s:Shared}{p:Addr}{xs:List V}(I:Inv X pins U H s) (h:H p=some (.lst xs)) :
  ∃(its:Af) (n:Nat),Vals xs its/\s.heap.get? p=some { cls:=.type "list", data:=.seq its.toArray n }/\xs.length<=sizeLine:=by
 obtain ⟨z,its,n,r,e⟩:=I.hok p _ h
 exact ⟨its,n,r,e,z⟩
def CY (lo hi:Option Int) (n:Nat):(sliceBounds lo hi none n).1=((HT.sIx n 0 lo:Nat):Int)/\(sliceBounds lo hi none n).2.1=((HT.sIx n n hi:Nat):Int)/\(sliceBounds lo hi none n).2.2=1:=by
 refine ⟨?_,?_,rfl⟩
 ·cases lo with
  |none=>simp [sliceBounds,HT.sIx]
  |some i =>
   simp only [sliceBounds,HT.sIx,Option.getD_none,show (1:Int)>0 by decide,jf]
   by_cases h:i<0
   ·simp only [h,jf]<;>omega
   ·simp only [h,yG]<;>omega
 ·cases hi with
  |none=>simp [sliceBounds,HT.sIx]
  |some i =>
   simp only [sliceBounds,HT.sIx,Option.getD_none,show (1:Int)>0 by decide,jf]
   by_cases h:i<0
   ·simp only [h,jf]<;>omega
   ·simp only [h,yG]<;>omega
def CZ (its:Af) (lo hi:Option Int):slicePick its.toArray lo hi none=((its.drop (HT.sIx its.length 0 lo)).take (HT.sIx its.length its.length hi-HT.sIx its.length 0 lo)).toArray:=by
 obtain ⟨h1,h2,h3⟩:=CY lo hi its.toArray.size
 unfold slicePick
 rw [h1,h2,h3]
 simp only [sliceRange_one,pick_run,yf]<;>rfl
def C0 (K:PySem.W.Frag):V->Option Int->Option Int->Hp->VK->Prop:=λx lo hi H Q=>∃a xs,x=.ref a/\aS K H a xs/\∀p,H p=none->Q (.ref p) (upd H p (.lst (dO xs lo hi)))
def C2:ff X (C0 X.K):=by
 intro pins s U H x v vl vu lo hi sl Q I rx hs pl pu h
 obtain ⟨a,xs,rfl,hx,q⟩:=h
 cases rx
 obtain ⟨its,r,ht,hz⟩:=I.list hx
 have hlen:=r.length
 refine ⟨"list", _,slot_list_getitem.lookup,ht.isList.typeIs,?_⟩
 refine wpAny_getItem_list_slice ht.isList hs pl pu .none (by simp) ?_ (by rw [yf]<;>omega)
 rw [CZ,<-hlen]
 refine ⟨.ref s.heap.objs.size,_,I.laid (t':=s.toks) (o:=.lst (dO xs lo hi)) (λb ob q=>zU _ q) (zG _) ?_,rfl,q _ (I.hok.fresh (zG _))⟩
 exact ⟨yL (sk xs lo hi) hz,_,0,(r.drop (HT.sIx xs.length 0 lo)).take (HT.sIx xs.length xs.length hi-HT.sIx xs.length 0 lo),yw _ rfl⟩
def C3:bH X (.type "list") (λxs H Q=>∃p ys,xs=[.ref p]/\(aS X.K H p ys\/bg X.K H p ys)/\∀l,H l=none->Q (.ref l) (upd H l (.lst ys))):=by
 intro pins s U H xs us Q I r h
 obtain ⟨p,ys,rfl,hq,q⟩:=h
 obtain ⟨u,rfl,rx⟩:=l_ r
 cases rx
 have fin:∀(its:Af),Vals ys its->ys.length<=sizeLine->∀(h':Heap) (c':Nat),(∀b o',s.heap.get? b=some o'->h'.get? b=some o') ->
   h'.get? s.heap.objs.size=some { cls:=.type "list", dict:=none,data:=.seq its.toArray c',slots:=#[] }->EP X pins U Q (.ref s.heap.objs.size) { s with heap:=h' }:=λits r' hz h' c' kp e =>
  ⟨.ref s.heap.objs.size,_,I.laid (t':=s.toks) kp (zG _) (show aM X.prog X.w _ h' _ (.lst ys) from ⟨hz,its,c',r',e⟩),rfl,q _ (I.hok.fresh (zG _))⟩
 rcases hq with hq|hq
 ·obtain ⟨its,r',pl,hz⟩:=I.list hq
  have hlen:=r'.length
  obtain ⟨o,ho,hc,n,hd⟩:=pl.isList
  exact call_list_seq p (.inl rfl) ho hc hd (λh' c' kp e=>fin its r' hz h' c' kp e) (by simp only [yf]<;>omega)
 ·obtain ⟨its,r',pl,hz⟩:=I.tuple hq
  have hlen:=r'.length
  obtain ⟨o,ho,hc,n,hd⟩:=pl
  exact call_list_seq p (.inr rfl) ho hc hd (λh' c' kp e=>fin its r' hz h' c' kp e) (by simp only [yf]<;>omega)
def C4:bH X (.type "tuple") (λxs H Q=>∃p ys,xs=[.ref p]/\((aS X.K H p ys/\∀l,H l=none->Q (.ref l) (upd H l (.tup ys)))\/(bg X.K H p ys/\Q (.ref p) H))):=by
 intro pins s U H xs us Q I r h
 obtain ⟨p,ys,rfl,h⟩:=h
 obtain ⟨u,rfl,rx⟩:=l_ r
 cases rx
 rcases h with ⟨hq,q⟩|⟨hq,q⟩
 ·obtain ⟨its,r',pl,hz⟩:=I.list hq
  have hlen:=r'.length
  refine call_tuple_list pl.isList (λh' kp=>?_) (by simp only [yf]<;>omega)
  have I1:Inv X pins U H { s with heap:=h' }:=I.kept (t':=s.toks) kp
  have I2:Inv X pins U (upd H h'.objs.size (.tup ys)) { s with heap:=h'.push { cls:=.type "tuple", data:=.seq its.toArray } } :=
   I1.laid (t':=s.toks) (λb o e=>zU _ e) (zG _) (show aM X.prog X.w _ _ _ (.tup ys) from ⟨hz,its,r',IsTup.new _ _⟩)
  exact ⟨.ref h'.objs.size,_,I2,rfl,q _ (I1.hok.fresh (zG _))⟩
 ·obtain ⟨its,r',pl,hz⟩:=I.tuple hq
  exact call_tuple_same pl ⟨.ref p,H,I,rfl,q⟩
def sx (K:PySem.W.Frag) (T:String) (x:V) (H:Hp):Prop:=match x with
 |.str _=>T = "str"
 |.int _=>T = "int"
 | .ref p=>(T = "list" /\ ∃xs,aS K H p xs)\/(T = "tuple" /\ ∃o,K.lookup p=some o/\o.cls=.type "tuple" /\ o.dict=none) \/
   (T = "dict" /\ ((∃kvs,H p=some (.dK kvs))\/∃kvs,H p=some (.dT kvs)))\/(T = "set" /\ ∃S n,H p=some (.set S n))
 |_=>False
def oD {pins:Ac}{U:St}{H:Hp}{s:Shared}{T:String}{x:V}{v:Value}(I:Inv X pins U H s) (r:RelV x v) (ty:sx X.K T x H) :
  s.TypeIs v T/\∀a,v=.ref a->∃ob,s.heap.get? a=some ob/\ob.dict=none:=by
 cases x with
 |str z =>
  obtain ⟨t,rfl⟩:=r
  cases (show T = "str" from ty)
  exact ⟨typeIs_str s z t,λ_ e=>nomatch e⟩
 |int i =>
  obtain ⟨t,rfl⟩:=r
  cases (show T = "int" from ty)
  exact ⟨typeIs_int s i t,λ_ e=>nomatch e⟩
 |ref p =>
  cases r
  rcases ty with ⟨rfl,xs,hq⟩|⟨rfl,o,hk,hc,hd⟩|⟨rfl,hk⟩|⟨rfl,S,n,hk⟩
  ·obtain ⟨its,_,pl,_⟩:=I.list hq
   refine ⟨pl.isList.typeIs,λa e=>?_⟩
   cases e
   obtain ⟨o,n,e,c,hd,_⟩:=pl
   exact ⟨o,e,hd⟩
  ·refine ⟨⟨o,I.kIn p o hk,hc⟩,λa e=>?_⟩
   cases e
   exact ⟨o,I.kIn _ o hk,hd⟩
  ·have z:∃o,s.heap.get? p=some o/\o.ExactDict:=by
    rcases hk with ⟨kvs,hk⟩|⟨kvs,hk⟩
    ·obtain ⟨_,_,_,_,o,_,_,e,ex,_⟩:=I.hok p _ hk
     exact ⟨o,e,ex⟩
    ·obtain ⟨_,_,_,_,o,_,_,e,ex,_⟩:=I.hok p _ hk
     exact ⟨o,e,ex⟩
   obtain ⟨o,e,ex⟩:=z
   refine ⟨⟨o,e,ex.1⟩,λa e2=>?_⟩
   cases e2
   exact ⟨o,e,ex.2.1⟩
  ·obtain ⟨o,_,_,_,e,ex,_⟩:=I.hok p _ hk
   refine ⟨⟨o,e,ex.1⟩,λa e2=>?_⟩
   cases e2
   exact ⟨o,e,ex.2.1⟩
 |_=>exact ty.elim
def C5 (K:PySem.W.Frag) (T:String) (r:V->List V->Hp->VK->Prop) (to:TE) (t:TA):TE:=λU H Q=>to U H λx H1=>sx K T x H1/\t U H1 λxs H2=>r x xs H2 Q
variable {o e:Expr} {es:List Expr} {to:TE} {t:TA} {name:Str} {apos aO:Pos} {T id:String} {r:V->List V->Hp->VK->Prop}
def sy (pa:PlainAttrs T) (slot:Slot T name id) (hI:typeOf (.builtin id)=pure (.type "method_descriptor")) (hm:CP X id r) (ho:PE X o to) (ha:PA X (e::es) t)
  (bI:attributeBase o name X.env (eval o X.env)=eval o X.env:=by rfl)
  (fJ:((backTo aO (starEach (e::es) X.env)).all (λx=>!x.1)&&(backToKw aO (keywordEach [] X.env)).all (λx=>x.1.isSome)
   && decide ((e::es).length+([]:List Keyword).length+(if ([]:List Keyword).isEmpty then 0 else 1)<30))=true:=by rfl)
  (bJ:(apos.endLine==aO.line)=true:=by rfl) (hs:starEach (e::es) X.env=(false,eval e X.env)::starEach es X.env:=by rfl) (mh:(backTo aO (starEach es X.env)).any (·.1)=false:=by rfl) :
  PE X (.Call (.Attribute o name apos) (e::es) [] aO) (C5 X.K T r to t):=by
 intro pins s U H Q I h
 refine wpAny_Call_method_late bI fJ bJ rfl (aI (ho pins s U H _ I h) λv s1 ⟨x,H1,I1,r1,ty,q1⟩=>?_)
 obtain ⟨h1,h2⟩:=oD I1 r1 ty
 refine ⟨T,id,pa,slot,hI,h1,h2,?_⟩
 have hA:=ha aO pins s1 U H1 _ I1 q1
 rw [hs] at hA ⊢
 refine Calls.callWith_builtin (by show (false||(backTo aO (starEach es X.env)).any (·.1))=false;rw [mh]<;>rfl) (Calls.evalArgs_plain ?_)
 exact aI hA λus s2 ⟨vs,H2,I2,r2,q2⟩=>hm pins s2 U H2 x vs v us Q I2 r1 r2 q2
end
def sC (X:Cx) (id:String) (r:V->List V->Hp->VK->Prop):Prop :=
 ∀(pins:Ac) (s:Shared) (U:St) (H:Hp) (x:V) (xs:List V) (v:Value) (us:Af) (Q:VK),Inv X pins U H s->RelV x v->Vals xs us->r x xs H Q ->
  wpAny (model X.prog X.w) X.A (call (.builtin id) (v::us)) (EP X pins U Q) X.xe s
def Vals.one:∀{x:V}{us:Af},Vals [x] us->∃u,us=[u]/\RelV x u
 |_,_,.cons r .nil=>⟨_,rfl,r⟩
section
variable {X:Cx} {pins:Ac} {U:St} {H:Hp} {s:Shared} {l:Addr} {xs ys:List V}
def Inv.lset {its its':Af}{n:Nat}{f:Array Value->Array Value}{t':Nat}(I:Inv X pins U H s) (hH:H l=some (.lst xs))
  (e:s.heap.get? l=some { cls:=.type "list", data:=.seq its.toArray n }) (hf:f its.toArray=its'.toArray) (hv:Vals ys its') (hz:ys.length<=sizeLine) :
  Inv X pins U (upd H l (.lst ys)) { s with heap:=s.heap.update l (Obj.mapSeq f),toks:=t' }:=by
 have q:=PySem.IsL.update e f
 rw [hf] at q
 refine I.write (x:=l) (e:=l) (by rw [hH];exact trivial) (.inl rfl) (λb' u hb hu=>(jV s.heap (Obj.mapSeq f) (yS hb)).trans hu) ⟨_,q⟩ ?_
 exact ⟨hz,its',_,hv,q⟩
def Inv.lnew {its:Af}{t':Nat}(I:Inv X pins U H s) (hv:Vals ys its) (hz:ys.length<=sizeLine) :
  Inv X pins U (upd H s.heap.objs.size (.lst ys)) { s with heap:=s.heap.push { cls:=.type "list", data:=.seq its.toArray },toks:=t' } :=
 I.laid (λ_ _ q=>zU _ q) (zG _) ⟨hz,its,0,hv,yw _ rfl⟩
theorem Inv.fresh (I:Inv X pins U H s):H s.heap.objs.size=none:=I.hok.fresh (zG _)
def Inv.lstM (I:Inv X pins U H s) (hH:H l=some (.lst xs)):xs.length<=sizeLine/\∃(its:Af) (n:Nat),Vals xs its/\xs.length=its.length/\s.heap.get? l=some { cls:=.type "list", data:=.seq its.toArray n }:=by
 obtain ⟨z,its,n,r,e⟩:=I.hok l _ hH
 exact ⟨z,its,n,r,r.length,e⟩
def hU {n:Nat}(h:n<=sizeLine):Builtin.List.listTooLong n=false:=by
 unfold Builtin.List.listTooLong
 exact yn (by omega)
end
section
variable {X:Cx}
def C6:V->List V->Hp->VK->Prop:=λx vs H Q=>∃l xs y,x=.ref l/\vs=[y]/\H l=some (.lst xs)/\xs.length<sizeLine/\Q .non (upd H l (.lst (xs++[y])))
def zje:sC X "list.append" C6:=by
 intro pins s U H x vs v us Q I rx rv h
 obtain ⟨l,xs,y,rfl,rfl,hH,hz,q⟩:=h
 cases rx
 obtain ⟨u,rfl,ru⟩:=rv.one
 obtain ⟨z,its,n,r,hl,e⟩:=I.lstM hH
 refine call_meets F.slot_list_append ⟨_,e,rfl⟩ F.entry_list_append (F.args_list_append_2 _ _) (PySem.list_append l its.toArray n u (by rw [yf];omega)) ⟨e,?_⟩
 refine ⟨.non,_,I.lset (its':=its++[u]) hH e (by simp) (r.append (.cons ru .nil)) ?_,rfl,q⟩
 rw [jB,List.length_singleton]
 omega
def C7:V->List V->Hp->VK->Prop:=λx vs H Q=>∃l b xs zs,x=.ref l/\vs=[.ref b]/\H l=some (.lst xs)/\H b=some (.lst zs)/\xs.length+zs.length<=sizeLine/\Q .non (upd H l (.lst (xs++zs)))
def zjg:sC X "list.extend" C7:=by
 intro pins s U H x vs v us Q I rx rv h
 obtain ⟨l,b,xs,zs,rfl,rfl,hH,hB,hz,q⟩:=h
 cases rx
 obtain ⟨u,rfl,ru⟩:=rv.one
 cases ru
 obtain ⟨z,its,n,r,hl,e⟩:=I.lstM hH
 obtain ⟨z2,aK,n2,r2,hl2,e2⟩:=I.lstM hB
 have hsz:its.toArray.size+aK.toArray.size<=sizeLine:=by rw [yf,yf];omega
 have oF:¬(!its.toArray.isEmpty&&Builtin.List.listTooLong (its.toArray.size+aK.toArray.size))=true:=by
  rw [hU hsz,Bool.and_false]
  exact Bool.false_ne_true
 refine call_meets F.slot_list_extend ⟨_,e,rfl⟩ F.entry_list_extend (F.args_list_extend_2 _ _)
  (AutoSeq1.list_extend_list_list_0 l its.toArray n b aK.toArray n2 oF (by rw [yf];omega) (by omega)) ⟨e,e2,?_⟩
 refine ⟨.non,_,I.lset (its':=its++aK) hH e (by simp) (r.append r2) ?_,rfl,q⟩
 rw [jB]
 omega
def C8:R2:=λx y H Q=>∃l b xs zs,x=.ref l/\y=.ref b/\H l=some (.lst xs)/\H b=some (.lst zs)/\xs.length+zs.length<=sizeLine/\∀p,H p=none->Q (.ref p) (upd H p (.lst (xs++zs)))
def C9:aW X (binaryOp .Add) C8:=by
 intro pins s U H x y v u Q I rx ry h
 obtain ⟨l,b,xs,zs,rfl,rfl,hH,hB,hz,q⟩:=h
 cases rx
 cases ry
 obtain ⟨z,its,n,r,hl,e⟩:=I.lstM hH
 obtain ⟨z2,aK,n2,r2,hl2,e2⟩:=I.lstM hB
 refine PySem.P.add_list e e2 ?_ (by rw [yf,yf];omega)
 have ea:its.toArray++aK.toArray=(its++aK).toArray:=by simp
 rw [ea]
 exact ⟨.ref _,_,I.lnew (t':=s.toks) (r.append r2) (by rw [jB];omega),rfl,q _ I.fresh⟩
end
end L2
namespace Att
open PySem PySem.W PySem.Calls PyProof.Rows
def C_ {P:Params}{h:Heap}:∀(ns:List Int) (vs:Af),WellAll P h vs (ns.map WData.int)->IntsAre vs ns:=by
 intro ns
 induction ns with
 |nil =>
  intro vs w
  rw [List.map_nil] at w
  cases w
  exact .nil
 |cons n ns ih =>
  intro vs w
  rw [ym] at w
  cases w with
  |cons a b =>
   cases a
   exact .cons _ _ (ih _ b)
def Dc {l:OpenLaw}{n:Nat}(hn:l.most=some n) {P:Params}{h:Heap}{args:List WData}{vals:Af}
  (gP:l.row.toRowW.claim.pre args=true) (hwl:WellAll P h vals args) :
  ∃a vs ns,vals=[Value.ref a]/\args=[WData.list (ns.map WData.int)]/\h.get? a=some { cls:=.type "list", data:=.seq vs.toArray }/\IntsAre vs ns/\ns.length<=n:=by
 have Dd:WShape.hasAll [] args [.list .int]=true:=(pre_splitW gP).1
 have hc:l.pre.holds [] { args:=args }=true:=(pre_splitW gP).2
 obtain ⟨d,r,rfl,h1,h2⟩:=hasAllW_cons Dd
 obtain rfl:=hasAllW_nil h2
 obtain ⟨xs,rfl,h3⟩:=hasW_list h1
 obtain ⟨ns,rfl⟩:=items_int h3
 have hlen:ns.length<=n:=by
  unfold OpenLaw.pre at hc
  have h4:(WTm.not (.lt (.lit (.int (n:Int))) (.len (.arg 0)))).holds [] { args:=[.list (ns.map .int)] }=true:=by
   have h4:=(holds_andW hc).1
   rw [hn] at h4
   exact h4
  have h5:=condW_of h4 (w_not (w_lt w_lit (w_len_list (w_arg rfl))))
  rw [jL] at h5
  refine Nat.le_of_not_lt λq=>?_
  have q':(n:Int)<((ns.length:Nat):Int):=by omega
  first
   | (rw [jg q'] at h5;exact absurd h5 (by decide))
   | (simp at h5;omega)
 cases hwl with
 |cons w1 w2 =>
  cases w2
  cases w1 with
  |list ho cT=>exact ⟨_,_,ns,rfl,rfl,ho,C_ ns _ cT,hlen⟩
def De (l:OpenLaw) (args:List WData):l.row.toRowW.claim.post args (.bool true) args=true :=
 postW_of (r:=l.row.toRowW) (X:=(true==true))
  (show WShape.has [] (.bool true) .bool=true by first|rfl|decide|simp [WShape.has,WShape.arms,WShape.armsAll])
  (show (WTm.eq .res (.lit (.bool true))).value [] { args:=args,res:=some (.bool true),after:=args }=some (.bool (true==true)) from w_eq_bool (w_res rfl) w_lit) rfl
def attach_call {l:OpenLaw}{n:Nat}{q:Program}{loose:Ad}{XP:(Ab)->Heap->Prop}{YP:World->Heap->Prop}{d:DefRec}
  (hn:l.most=some n) (j_:d.params.defaults=[])
  (call:∀(w:World) (s₀ ai:Shared) (mg mb:Ab) (fa:Addr) (o:Obj) (pm cd doc:Value) (a:Addr) (vs:Af) (ns:List Int),
   Ground q loose [] XP w s₀ mg mb ai.heap->YP w ai.heap ->
   ai.heap.get? fa=some o->o.data=.func (docDef d.name d.params d.body d.scope pm cd doc)->ai.heap.CodeRec cd d.name->mg d.name=some (.ref fa) ->
   ai.heap.get? a=some { cls:=.type "list", data:=.seq vs.toArray }->IntsAre vs ns->ns.length<=n->ai.gens=#[] ->
   codeAny (model l.prog w) callerA (.call (.ref fa) ⟨[.ref a],[]⟩) (λr s'=>r=.ok (.ret (.bool true))/\OldK ai.heap s'.heap/\s'.os=ai.os/\AllBare s'.gens) ai) :
  WalkO q loose XP YP l.row.toRowW d [] (λf vs=>PySem.call f vs):=by
 intro w s₀ ai mg mb G Y fa o pm cd doc dV kV ho hd dA hD hmg hg args vals as gP hlay hrd hwl hlo
 obtain rfl:dV=.none:=Dflts.none hD j_
 obtain rfl:kV=.none:=Dflts.noKw hD
 obtain ⟨a,vs,ns,rfl,rfl,kc,hints,hlen⟩:=Dc hn gP hwl
 refine enter_call (codeAny_mono (call w s₀ ai mg mb fa o pm cd doc a vs ns G Y ho (fd_plain hd) dA hmg kc hints hlen hg) λr s' hq=>?_)
 obtain ⟨rfl,h2,h3,h4⟩:=hq
 exact ⟨.inl ⟨.bool true,.bool true,[],rfl,λ_=>rfl,.bool true,De l _,λ_=>⟨List.Pairwise.nil,λ_ hm=>(nomatch hm)⟩⟩,h2,h3,h4⟩
end Att
namespace L2
open PySem PySem.Spec PyProof.Rows
theorem sD:∀{vs:Af}{ns:List Int},IntsAre vs ns->Vals (ns.map V.int) vs
 |_,_,.nil=>.nil
 |_,_,.cons n t h=>.cons ⟨t,rfl⟩ (sD h)
def Only (H:Hp):Prop:=∀b,H b=none\/∃o xs,H b=some (.frz o (.lst xs))
def Df {P:Program}{w:World}{K:PySem.W.Frag}{mg mb:Ab}{CX:de}{k:Nat}{fa a:Addr}{fd:FuncData}{x:Str}{sp:Sp}{ai:Shared}{vs:Af}{ns:List Int}
  (KX:K.In ai.heap) (sE:ai.heap.Ns mainGlobals mg) (hb:ai.heap.Ns builtinsNs mb) (oG:∀x:Str,x ≠ "__name__" -> mb x=bootBuiltins x) (eA:ai.heap.NoLimit) (hg:ai.gens=#[])
  (ha:ai.heap.get? a=some { cls:=.type "list", data:=.seq vs.toArray }) (hi:IntsAre vs ns) (hl:ns.length<=sizeLine) (hr:bh k callerA)
  (F:∀base:Heap,K.In base->base.Ns mainGlobals mg->a_ P w K mg base CX k fa fd [x] sp) (oH:∀(s:Shared) (u:Value),BindsTo s fd ⟨[u],[]⟩ [(x,u)])
  (dX:∀H:Hp,Only H->aS K H a (ns.map V.int)->sp [.ref a] H (λv _=>v=.bl true) λ_ _ _=>False)
  (oI:∀H e s',CX [] H ai (λ_ _ _=>False) e s'->False) :
  codeAny (model P w) callerA (.call (.ref fa) ⟨[.ref a],[]⟩) (λr s'=>r=.ok (.ret (.bool true))/\OldK ai.heap s'.heap/\s'.os=ai.os/\AllBare s'.gens) ai:=by
 have rv:=sD hi
 have sF:=hi.length
 have core:∀H:Hp,Only H->aS K H a (ns.map V.int)->bq P w H ai.heap->(∀b,H b≠none->b=a)->(H a≠none->K.lookup a=none) ->
   codeAny (model P w) callerA (.call (.ref fa) ⟨[.ref a],[]⟩) (λr s'=>r=.ok (.ret (.bool true))/\OldK ai.heap s'.heap/\s'.os=ai.os/\AllBare s'.gens) ai:=by
  intro H hO hS hok hA hK
  have fK:∀{b:Addr} {o:Obj},ai.heap.get? b=some o->H b=none->(dg ai.heap H).get? b=some o:=λe n=>AV e n
  have i9:∀{b:Addr} {o:Obj} {es:Array DictEntry} {ep:Nat},ai.heap.get? b=some o->o.data=.dict es ep->H b=none:=λ{b o es ep} e d=>by
   cases q:H b with
   |none=>rfl
   |some u =>
    have e':b=a:=hA b (by rw [q];simp)
    subst e'
    rw [ha] at e;cases e
    have d':Data.seq vs.toArray _=Data.dict es ep:=d
    cases d'
  have mi:∀{b:Addr} {m:Ab},ai.heap.Ns b m->(dg ai.heap H).Ns b m:=λ{b m} ⟨o,es,ep,e,d,r⟩=>⟨o,es,ep,fK e (i9 e d),d,r⟩
  have sG:K.In (dg ai.heap H):=λb o e=>fK (KX b o e) (by
   cases q:H b with
   |none=>rfl
   |some u =>
    have e':b=a:=hA b (by rw [q];simp)
    subst e'
    rw [hK (by rw [q];simp)] at e;cases e)
  have hM:Mod K mg (dg ai.heap H):=⟨sG,mi sE,⟨mb,mi hb,oG⟩,let ⟨mc,h1,h2⟩:=eA;⟨mc,mi h1,h2⟩⟩
  have e0:fH P w K mg (dg ai.heap H) callerA [] ai H:=⟨rfl,hM,λb o e=>AW e,Nat.le_of_eq (AU _ _),trivial,λb hb=>absurd (show b∈([]:Ae) from hb) (by simp),hok,.of_eq hg⟩
  refine codeAny_mono ((F _ sG (mi sE)).run callerA [] ai H ⟨[.ref a],[]⟩ [.ref a] [.ref a] _ _ hr e0 (oH ai (.ref a)) (.cons rfl .nil) (dX H hO hS)) λr s' h=>?_
  cases r with
  |error e=>exact (oI H e s' h).elim
  |ok fl =>
   cases fl with
   |next=>exact h.elim
   |brk=>exact h.elim
   |cont=>exact h.elim
   |ret u =>
    obtain ⟨v,H',os,bare,un,sH,r',q⟩:=h
    have q':v=.bl true:=q
    subst q'
    obtain rfl:u=Value.bool true:=r'
    refine ⟨rfl,OldK.of_keep λb o e=>?_,os,bare⟩
    cases q:H b with
    |none=>exact un.keep b o e q (by intro z;exact absurd (show b∈([]:Ae) from z) (by simp)) (by simp)
    |some u =>
     rcases hO b with z|⟨ob,xs,z⟩
     ·rw [q] at z;cases z
     ·have z2:=un.frzs b ob _ z
      obtain ⟨e1,_⟩:=hok b _ z
      obtain ⟨e2,_⟩:=sH b _ z2
      rw [e] at e1;cases e1
      exact e2
 cases hk:K.lookup a with
 |some o =>
  have e:=KX a o hk
  rw [ha] at e
  cases e
  refine core (λ_=>none) (λ_=>.inl rfl) (.inr ⟨_,vs.toArray,_,hk,rfl,rfl,rfl,by rw [yf,sF];exact hl,by simpa using rv⟩) (λb u z=>by have z':(none:Option HO)=some u:=z;cases z') (λb z=>absurd rfl z) λz=>absurd rfl z
 |none =>
  refine core (λb=>if b=a then some (.frz { cls:=.type "list", data:=.seq vs.toArray } (.lst (ns.map V.int))) else none) (λb=>?_) (.inl (.inr ⟨{ cls:=.type "list", data:=.seq vs.toArray },zu rfl⟩)) (λb u z=>?_) (λb z=>?_) λ_=>hk
  ·by_cases hb:b=a
   ·exact .inr ⟨_,_,zu hb⟩
   ·exact .inl (zt hb)
  ·by_cases hb:b=a
   ·have z':=(zu hb).symm.trans z
    cases z'
    subst hb
    exact ⟨ha,by rw [jL];exact hl,vs,_,rv,ha⟩
   ·have z':=(zt hb).symm.trans z
    cases z'
  ·by_cases hb:b=a
   ·exact hb
   ·exact absurd (zt hb) z
abbrev KOf {K:PySem.W.Frag}{h:Heap}(_:K.In h):PySem.W.Frag:=K
def zjn {l:PySem.W.OpenLaw}{n k:Nat}{q:Program}{loose:Ad}{XP:(Ab)->Heap->Prop}{YP:World->Heap->Prop}{d:DefRec}{K:Params->PySem.W.Frag}{CX:World->de}{sp:World->Sp}{x:Str}
  (hn:l.most=some n) (dD:n<=sizeLine) (j_:d.params.defaults=[]) (hr:bh k callerA)
  (hY:∀(w:World) (h:Heap),YP w h->(K w.params).In h)
  (F:∀(w:World) (mg:Ab) (fa:Addr) (h:Heap),(K w.params).In h->h.Ns mainGlobals mg->mg d.name=some (.ref fa) ->
   ∃fd:FuncData,(∀(s:Shared) (u:Value),BindsTo s fd ⟨[u],[]⟩ [(x,u)]) /\
    ∀base:Heap,(K w.params).In base->base.Ns mainGlobals mg->a_ l.prog w (K w.params) mg base (CX w) k fa fd [x] (sp w))
  (dX:∀(w:World) (H:Hp) (a:Addr) (ns:List Int),ns.length<=n->Only H->aS (K w.params) H a (ns.map V.int)->sp w [.ref a] H (λv _=>v=.bl true) λ_ _ _=>False)
  (oI:∀(w:World) (H:Hp) (s:Shared) (e:Value) (s':Shared),CX w [] H s (λ_ _ _=>False) e s'->False) :
  PySem.W.WalkO q loose XP YP l.row.toRowW d [] (λf vs=>PySem.call f vs):=by
 refine Att.attach_call hn j_ λw s₀ ai mg mb fa o pm cd doc a vs ns G Y ho hd dA hmg kc hints hlen hg=>?_
 have KX:=hY w _ Y
 obtain ⟨fd,hb,hF⟩:=F w mg fa _ KX G.T.g hmg
 exact Df KX G.T.g G.T.b G.T.builtins G.T.nolimit hg kc hints (yL hlen dD) hr hF hb (λH hO hS=>dX w H a ns hlen hO hS) λH e s'=>oI w H ai e s'
def wG (s:Stmt):Arguments:=match s with
 |.FunctionDef _ a _ _ _ _ _ _ _ _=>a
 |_=>{ posonlyargs:=[],args:=[],vararg:=none,kwonlyargs:=[],kw_defaults:=[],kwarg:=none,defaults:=[] }
def y3 (s:Stmt):List Stmt:=match s with
 |.FunctionDef _ _ b _ _ _ _ _ _ _=>b
 |_=>[]
def zC (s:Stmt):Scope:=match s with
 |.FunctionDef _ _ _ _ _ _ sc _ _ _=>sc
 |_=>{ kind:=.function,names:=[],isGenerator:=false,isCoroutine:=false }
abbrev oJ:de:=λ_ _ _ _ _ _=>False
abbrev E0:XK:=λ_ _ _=>False
structure cK (K:PySem.W.Frag) (x qual:Str) (st:Stmt) (f:Addr) (fd:FuncData):Prop where
 ex:∃(oc:Value) (od:Option Addr) (kV doc pm:Value) (an:Option Addr) (aQ ct:Value) (dW:Array (Option Value)),
  fd=PySem.W.fnOf x qual (wG st) (y3 st) (zC st) .none kV doc pm an aQ ct/\K.lookup f=some ⟨oc,od,.func fd,dW⟩/\PySem.W.codeIn K aQ qual=true
 kp:PySem.W.keepIn K (.ref f)=true
section
variable {P:Program} {w:World} {K:PySem.W.Frag} {mg:Ab} {base:Heap}
def cK.ok {x qual:Str}{st:Stmt}{f:Addr}{fd:FuncData}{N ps:Ad}{k:Nat}{sp:Sp}(F:cK K x qual st f fd) (S:aJ N ps (zC st)) (len:∀vs H Q E,sp vs H Q E->vs.length=ps.length)
  (df:∀(aQ:Value) (A:Around) (outer:List Env) (s:Shared) (H:Hp) (vs:List V) (Q:VK) (E:XK),bh k (A.deeper (envOfC qual (zC st) s.heap.objs.size f aQ))->sp vs H Q E ->
   ∃t,bG (cy oJ P w K mg base N qual (zC st) f aQ A outer s H E).nox (y3 st) t/\t { nx:=λ_ H'=>Q .non H',rt:=Q } (start N vs) H):a_ P w K mg base oJ (k+1) f fd ps sp:=by
 obtain ⟨oc,od,kV,doc,pm,an,aQ,ct,dW,rfl,lk,dA⟩:=F.ex
 refine se lk dA S len λA outer s H vs Q E hr dX=>?_
 obtain ⟨t,h,q⟩:=df aQ A outer s H vs Q E hr dX
 exact ⟨t,h.nox,q⟩
def cK.binds {x qual:Str}{st:Stmt}{f:Addr}{fd:FuncData}{ps:Ad}(F:cK K x qual st f fd)
  (h:∀(kV doc pm:Value) (an:Option Addr) (aQ ct:Value) (us:Af),us.length=ps.length->bindArgs (PySem.W.fnOf x qual (wG st) (y3 st) (zC st) .none kV doc pm an aQ ct) ⟨us,[]⟩=pure (ps.zip us)):Binds K fd ps []:=by
 obtain ⟨oc,od,kV,doc,pm,an,aQ,ct,dW,rfl,lk,dA⟩:=F.ex
 exact .all (h kV doc pm an aQ ct)
def sI {x qual:Str}{st:Stmt}{f:Addr}{oc:Value}{od an:Option Addr}{dW:Array (Option Value)}{kV doc pm aQ ct:Value}(l:K.lookup f=some ⟨oc,od,.func (PySem.W.fnOf x qual (wG st) (y3 st) (zC st) .none kV doc pm an aQ ct),dW⟩)
  (c:PySem.W.codeIn K aQ qual=true) (k:PySem.W.keepIn K (.ref f)=true):cK K x qual st f (PySem.W.fnOf x qual (wG st) (y3 st) (zC st) .none kV doc pm an aQ ct):=⟨⟨oc,od,kV,doc,pm,an,aQ,ct,dW,rfl,l,c⟩,k⟩
end
def gQ (H H':Hp):Prop:=∀b o,H b=some o->H' b=some o
def gQ.free {H H':Hp}(e:gQ H H') {l:Addr}(h:H' l=Option.none):H l=Option.none:=by
 cases q:H l with
 |none=>rfl
 |some o =>
  rw [e l o q] at h
  cases h
def gQ.seq {K:PySem.W.Frag}{H H':Hp}{a:Addr}{xs:List V}(e:gQ H H') (h:aS K H a xs):aS K H' a xs:=by
 rcases h with (h|⟨o,h⟩)|h
 ·exact .inl (.inl (e _ _ h))
 ·exact .inl (.inr ⟨o,e _ _ h⟩)
 ·exact .inr h
end L2
set_option maxHeartbeats 4000000
namespace L2
open PySem PySem.Spec PyProof.Rows
def sJ {l z D b:Nat}(h1:l<z) (h2:z=D) (h3:D<=b) (h4:b=l):False:=by omega
def wH {b D C:Nat}(h1:b<D) (h2:C=D+1) (h3:b=C):False:=by omega
def sL {b e d:Nat}(h1:b<e) (h2:e<=d) (h3:d<=b):False:=by omega
def sN {b D p:Nat}(h1:b<D) (h2:p=D) (h3:p=b):False:=by omega
theorem oK (env:Env):∀(l:List (Str×NameKind)) (acc:List (Str×Addr)),(∀p∈l,p.2=.free->∃c,env.cells.lookup p.1=some c) ->
  ∃cl,(forIn l acc (λ(x:Str×NameKind) (cs:List (Str×Addr))=>if (x.snd==NameKind.free)=true then do
            let a <-cellOf env x.fst
            pure (ForInStep.yield ((x.fst,a)::cs))
      else pure (ForInStep.yield cs)):Sem (List (Str×Addr)))=pure cl /\
   (∀y c,(y,c)∈cl->(y,c)∈acc\/(env.cells.lookup y=some c/\(y,NameKind.free)∈l))/\(∀p∈acc,p∈cl)/\(∀y,(y,NameKind.free)∈l->∃c,(y,c)∈cl)
 |[],acc,_=>⟨acc,rfl,λ_ _ h=>.inl h,λ_ h=>h,λ_ h=>nomatch h⟩
 | (n,k)::r,acc,cT=>by
  by_cases hk:k=.free
  ·subst hk
   obtain ⟨c,hc⟩:=cT (n,.free) yr rfl
   obtain ⟨cl,e,h1,h2,h3⟩:=oK env r ((n,c)::acc) λp hp=>cT p (yF _ hp)
   refine ⟨cl,?_,λy d hy=>?_,λp hp=>h2 p (yF _ hp),λy hy=>?_⟩
   ·rw [List.forIn_cons]
    simp only [beq_self_eq_true,jf]
    have:cellOf env n=pure c:=by unfold cellOf;rw [hc]
    rw [this]
    exact e
   ·rcases h1 y d hy with q|q
    ·rcases yt.mp q with q|q
     ·cases q
      exact .inr ⟨hc,yr⟩
     ·exact .inl q
    ·exact .inr ⟨q.1,yF _ q.2⟩
   ·rcases yt.mp hy with q|q
    ·cases q
     exact ⟨c,h2 _ yr⟩
    ·exact h3 y q
  ·obtain ⟨cl,e,h1,h2,h3⟩:=oK env r acc λp hp=>cT p (yF _ hp)
   refine ⟨cl,?_,λy d hy=>?_,h2,λy hy=>?_⟩
   ·rw [List.forIn_cons]
    have:(k==NameKind.free)=false:=by simpa using hk
    simp only [this,Bool.false_eq_true,yG]
    exact e
   ·rcases h1 y d hy with q|q
    ·exact .inl q
    ·exact .inr ⟨q.1,yF _ q.2⟩
   ·rcases yt.mp hy with q|q
    ·cases q
     exact absurd rfl hk
    ·exact h3 y q
theorem sO {β:Type}{y:Str}:∀{l:List (Str×β)}{c:β},(y,c)∈l->∃d,l.lookup y=some d
 | (n,b)::r,c,h=>by
  rw [wm]
  cases e:y==n with
  |true=>exact ⟨b,rfl⟩
  |false =>
   rcases yt.mp h with q|q
   ·cases q
    simp at e
   ·exact sO q
def zev (env:Env) (scope:Scope) (cT:∀p∈scope.names,p.2=.free->∃c,env.cells.lookup p.1=some c) :
  ∃cl,closureFor scope env=pure cl/\(∀y c,cl.lookup y=some c->env.cells.lookup y=some c)/\(∀y,(y,NameKind.free)∈scope.names->∃c,cl.lookup y=some c):=by
 obtain ⟨cl,e,h1,_,h3⟩:=oK env scope.names [] cT
 refine ⟨cl,?_,λy c hy=>?_,λy hy=>?_⟩
 ·simp only [closureFor]
  rw [e]
  rfl
 ·rcases h1 y c (PySem.mem_of_lookup hy) with z|z
  ·cases z
  ·exact z.1
 ·obtain ⟨c,hc⟩:=h3 y hy
  exact sO hc
structure bw (sc scope:Scope) (x:Str):Prop where
 kind:scope.kind=.function
 ncell:∀y∈scope.names,y.2 ≠ .cell
 names:∀y∈scope.names,y.2=.local->scope.names.lookup y.1=some .local/\(y.1=x\/y.1 = ".0")
 hx:scope.names.lookup x=some .local
 free:∀y∈scope.names,y.2=.free->sc.names.lookup y.1=some .cell
def fL (X:Cx) (M:Ad) (scope:Scope) (cl:List (Str×Addr)) (x:Str) (C:Addr) (ae:Shared) (ah:Hp) (fp:Ae) (E:Aa):Cx :=
 { X with N:=x::M,s₀:=ae,H₀:=ah,env:=compEnvC scope cl C X.env,outer:=X.stack,ex:=fp,fn:=λ_=>false,pn:=[],xe:=E }
def Hid (scope:Scope) (M N:Ad):Prop:=M.length=N.length/\∀p∈M.zip N,p.1=p.2\/p.1∉scope.names.map Prod.fst
def Hid.refl {scope:Scope}{N:Ad}:Hid scope N N:=⟨rfl,λp hp=>.inl (by
 obtain ⟨i,hi,e⟩:=List.getElem_of_mem hp
 rw [List.getElem_zip] at e
 rw [<-e])⟩
def Hid.get {scope:Scope}{M N:Ad}(h:Hid scope M N) {i:Nat}{y:Str}(e:M[i]?=some y):N[i]?=some y\/y∉scope.names.map Prod.fst:=by
 obtain ⟨hi,ei⟩:=zM.mp e
 have hj:i<N.length:=h.1▸hi
 have hm:(M[i],N[i])∈M.zip N:=iQ (i:=i) (by rw [List.getElem?_zip_eq_some];exact ⟨zR hi,zR hj⟩)
 rcases h.2 _ hm with q|q
 ·exact .inl (by rw [zR hj,<-ei];exact congrArg some q.symm)
 ·exact .inr (by rw [<-ei];exact q)
def ke (X:Cx) (scope:Scope) (cl:List (Str×Addr)) (x:Str) (C:Addr) (ae:Shared) (ah:Hp) (fp:Ae) (E:Aa):Cx :=
 { X with N:=x::X.N,s₀:=ae,H₀:=ah,env:=compEnvC scope cl C X.env,outer:=X.stack,ex:=fp,fn:=λ_=>false,pn:=[],xe:=E }
section
variable {X:Cx} {scope:Scope} {x:Str}
def wn {env:Env}{y:Str}{k:NameKind}(h:(relabel scope env).names.lookup y=some k):∃k0,(y,k0)∈scope.names/\((k0=.free/\env.kindOf y=some .cell/\k=.cell)\/(k=k0/\¬(k0=.free/\env.scope.kind=.function/\env.kindOf y=some .cell))):=by
 have hm:=PySem.mem_of_lookup h
 obtain ⟨⟨n,k0⟩,hn,e⟩:=gY.mp hm
 by_cases hc:(k0==NameKind.free&&env.scope.kind == .function&&env.kindOf n==some .cell)=true
 ·have e':(n,NameKind.cell)=(y,k):=by rw [<-e];simp only [hc,jf]
  cases e'
  simp only [yA,beq_iff_eq] at hc
  exact ⟨_,hn,.inl ⟨hc.1.1,hc.2,rfl⟩⟩
 ·have e':(n,k0)=(y,k):=by rw [<-e];simp only [hc,yG];rfl
  cases e'
  refine ⟨_,hn,.inr ⟨rfl,λ⟨a,b,c⟩=>hc ?_⟩⟩
  simp [a,b,c]
def sP (S:bw X.env.scope scope x) {y:Str} (h:(relabel scope X.env).names.lookup y=some .local):y=x\/y = ".0" := by
 obtain ⟨k0,hm,⟨_,_,e⟩|⟨e,_⟩⟩:=wn h
 ·cases e
 ·subst e
  exact (S.names _ hm rfl).2
def oM (S:bw X.env.scope scope x) (hk:X.env.scope.kind=.function) {y:Str}(h:(relabel scope X.env).names.lookup y=some .cell\/(relabel scope X.env).names.lookup y=some .free):(y,NameKind.free)∈scope.names:=by
 rcases h with h|h
 ·obtain ⟨k0,hm,⟨e,_,_⟩|⟨e,_⟩⟩:=wn h
  ·subst e;exact hm
  ·subst e;exact absurd rfl (S.ncell _ hm)
 ·obtain ⟨k0,hm,⟨_,_,e⟩|⟨e,n⟩⟩:=wn h
  ·cases e
  ·subst e
   exact hm
end
def Dg {P:Program}{wd:World}{B:Around}{Z:Result->Shared->Prop}{u0:Shared}{el tg iter:Expr}{sc:Scope}{ps:Pos}{iv ac:Value}{ev:Env}(J0:Nat->Shared->Prop)
  (turn:∀k u,J0 k u->wpAny (model P wd) B (pyNext iv) (λr u1=>match r with|none=>Z (.ok .next) u1|some v=>wpAny (model P wd) B (letOwnedTupleGo tg iv v) (λ_ u2 =>
   wpAny (model P wd) B (assign tg ev v) (λ_ u3=>wpAny (model P wd) B (eval el ev) (λy u4=>wpAny (model P wd) B (call (.builtin "list.append") [ac,y]) (λ_ u5=>∃m,m<k/\J0 m u5)
    (notedBy (model P wd) B ev λe u=>Z (.error e) u) u4) (notedBy (model P wd) B ev λe u=>Z (.error e) u) u3) (notedBy (model P wd) B ev λe u=>Z (.error e) u) u2) (notedBy (model P wd) B ev λe u=>Z (.error e) u) u1)
   (notedBy (model P wd) B ev λe u=>Z (.error e) u) u)
  (k0:Nat) (fg:J0 k0 u0):codeAny (model P wd) B (.compLoop (.ListComp el [⟨tg,iter,[],0⟩] sc ps) 0 iv ac ev) Z u0:=by
 refine codeAny_loop rfl J0 (λk u hJ=>wpAny_noted (E:=λe u=>Z (.error e) u) (env:=ev) (m:=compTurn (.ListComp el [⟨tg,iter,[],0⟩] sc ps) 0 iv ac ev) ?_) k0 fg
 rw [compTurn_list1]
 have one:=turn k u hJ
 refine zf (wpAny_standAt (zf (yE one (λr u1 q1=>?_) λ_ _ z=>z)))
 cases r with
 |none=>exact zn q1
 |some v =>
  refine zf (yE q1 (λ_ u2 q2=>zf (yE q2 (λ_ u3 q3=>?_) λ_ _ z=>z)) λ_ _ z=>z)
  exact zf (zf (yE q3 (λy u4 q4=>zf (yE q4 (λ_ u5 q5=>zn (zn ⟨rfl,q5⟩)) λ_ _ z=>z)) λ_ _ z=>z))
def gh (J:It) (te:TE) (U:St) (Q:VK) (H1:Hp):Prop:=∃W:Nat->Nat->List V->Hp->Prop,(∃m,W 0 m [] H1)/\∀i m ys H,W i m ys H ->
 (J.stop i H/\ys.length<=sizeLine/\∀l,H l=none->Q (.ref l) (upd H l (.lst ys))) \/
 (J.go i H/\ys.length<=sizeLine/\∀z H',J.yld i H z H'->te (some z::U) H' λy H2=>∃m',m'<m/\W (i+1) m' (ys++[y]) H2)
def oN (wi:TI) (te:TE):TE:=λU H Q=>wi U H λJ H1=>gh J te U Q H1
end L2
namespace L2
open PySem PySem.Spec PyProof.Rows PySem.W
structure d9 (sc scope:Scope) (xs:Ad):Prop where
 kind:scope.kind=.function
 ncell:∀y∈scope.names,y.2 ≠ .cell
 names:∀y∈scope.names,y.2=.local->scope.names.lookup y.1=some .local/\(y.1∈xs\/y.1 = ".0")
 free:∀y∈scope.names,y.2=.free->sc.names.lookup y.1=some .cell
def dP (X:Cx) (M:Ad) (scope:Scope) (cl:List (Str×Addr)) (xs:Ad) (C:Addr) (ae:Shared) (ah:Hp) (fp:Ae) (E:Aa):Cx :=
 { X with N:=xs++M,s₀:=ae,H₀:=ah,env:=compEnvC scope cl C X.env,outer:=X.stack,ex:=fp,fn:=λ_=>false,pn:=[],xe:=E }
section
variable {X:Cx} {scope:Scope} {xs:Ad}
def sQ (S:d9 X.env.scope scope xs) {y:Str} (h:(relabel scope X.env).names.lookup y=some .local):y∈xs\/y = ".0" := by
 obtain ⟨k0,hm,⟨_,_,e⟩|⟨e,_⟩⟩:=wn h
 ·cases e
 ·subst e
  exact (S.names _ hm rfl).2
def oO (S:d9 X.env.scope scope xs) (hk:X.env.scope.kind=.function) {y:Str}(h:(relabel scope X.env).names.lookup y=some .cell\/(relabel scope X.env).names.lookup y=some .free):(y,NameKind.free)∈scope.names:=by
 rcases h with h|h
 ·obtain ⟨k0,hm,⟨e,_,_⟩|⟨e,_⟩⟩:=wn h
  ·subst e;exact hm
  ·subst e;exact absurd rfl (S.ncell _ hm)
 ·obtain ⟨k0,hm,⟨_,_,e⟩|⟨e,n⟩⟩:=wn h
  ·cases e
  ·subst e
   exact hm
end
def gi (X:Cx) (ifs:List Expr) (t:TT):Prop:=∀(pins:Ac) (s:Shared) (U:St) (H:Hp) (Q:Bool->Hp->Prop),Inv X pins U H s->t U H Q ->
 wpAny (model X.prog X.w) X.A (forIn ifs true λc r=>if r=true then do let ok <-isTrue c X.env (eval c X.env);pure (ForInStep.yield ok) else pure (ForInStep.yield r)) (TP X pins U Q) X.xe s
def mj:TT:=λ_ H Q=>Q true H
def Dh {X:Cx}:gi X [] mj:=λpins s U H Q I h=>wpAny_tests_nil ⟨H,I,h⟩
theorem gi.nox {X:Cx}{ifs:List Expr}{t:TT}(h:gi X.nox ifs t):gi X ifs t:=λpins s U H Q I hw =>
 yE (h pins s U H Q (I.wish _) hw) (λb s' ⟨H',I',q⟩=>⟨H',I'.unwish,q⟩) λ_ _ z=>z.elim
def Di {P:Program}{wd:World}{B:Around}{Z:Result->Shared->Prop}{u0:Shared}{el tg iter:Expr}{ifs:List Expr}{sc:Scope}{ps:Pos}{iv ac:Value}{ev:Env}(J0:Nat->Shared->Prop)
  (turn:∀k u,J0 k u->wpAny (model P wd) B (pyNext iv) (λr u1=>match r with|none=>Z (.ok .next) u1|some v=>wpAny (model P wd) B (letOwnedTupleGo tg iv v) (λ_ u2 =>
   wpAny (model P wd) B (assign tg ev v) (λ_ u3=>wpAny (model P wd) B (forIn ifs true λc r=>if r=true then do let ok <-isTrue c ev (eval c ev);pure (ForInStep.yield ok) else pure (ForInStep.yield r)) (λok u4 =>
    if ok=true then wpAny (model P wd) B (eval el ev) (λy u5=>wpAny (model P wd) B (call (.builtin "list.append") [ac,y]) (λ_ u6=>∃m,m<k/\J0 m u6)
    (notedBy (model P wd) B ev λe u=>Z (.error e) u) u5) (notedBy (model P wd) B ev λe u=>Z (.error e) u) u4 else ∃m,m<k/\J0 m u4) (notedBy (model P wd) B ev λe u=>Z (.error e) u) u3) (notedBy (model P wd) B ev λe u=>Z (.error e) u) u2) (notedBy (model P wd) B ev λe u=>Z (.error e) u) u1)
   (notedBy (model P wd) B ev λe u=>Z (.error e) u) u)
  (k0:Nat) (fg:J0 k0 u0):codeAny (model P wd) B (.compLoop (.ListComp el [⟨tg,iter,ifs,0⟩] sc ps) 0 iv ac ev) Z u0:=by
 refine codeAny_loop rfl J0 (λk u hJ=>wpAny_noted (E:=λe u=>Z (.error e) u) (env:=ev) (m:=compTurn (.ListComp el [⟨tg,iter,ifs,0⟩] sc ps) 0 iv ac ev) ?_) k0 fg
 rw [compTurn_list]
 have one:=turn k u hJ
 refine zf (wpAny_standAt (zf (yE one (λr u1 q1=>?_) λ_ _ z=>z)))
 cases r with
 |none=>exact zn q1
 |some v =>
  refine zf (yE q1 (λ_ u2 q2=>zf (yE q2 (λ_ u3 q3=>zf (yE q3 (λok u4 q4=>?_) λ_ _ z=>z)) λ_ _ z=>z)) λ_ _ z=>z)
  cases ok with
  |true=>exact zf (zf (yE q4 (λy u4 q4=>zf (yE q4 (λ_ u5 q5=>zn (zn ⟨rfl,q5⟩)) λ_ _ z=>z)) λ_ _ z=>z))
  |false=>exact zf (zn (zn ⟨rfl,q4⟩))
def fh (J:It) (gt:TG) (tt:TT) (te:TE) (n:Nat) (U:St) (Q:VK) (H1:Hp):Prop:=∃W:Nat->Nat->List V->Hp->Prop,(∃m,W 0 m [] H1)/\∀i m ys H,W i m ys H ->
 (J.stop i H/\ys.length<=sizeLine/\∀l,H l=none->Q (.ref l) (upd H l (.lst ys))) \/
 (J.go i H/\ys.length<=sizeLine/\∀z H',J.yld i H z H'->gt z (List.replicate n none++U) H' λaq H1=>∃own:St,aq=own++U/\own.length=n/\tt aq H1 λb H2 =>
  if b=true then te aq H2 λy H3=>∃m',m'<m/\W (i+1) m' (ys++[y]) H3 else ∃m',m'<m/\W (i+1) m' ys H2)
def Dj (wi:TI) (gt:TG) (tt:TT) (te:TE) (n:Nat):TE:=λU H Q=>wi U H λJ H1=>fh J gt tt te n U Q H1
def Dk {X:Cx} {elt iter tg:Expr} {ifs:List Expr} {xs:Ad} {pos:Pos} {scope:Scope} {wi:TI} {gt:TG} {tt:TT} {te:TE} {M:Ad} (hc:X.calm=true) (S:d9 X.env.scope scope xs) (eN:Hid scope M X.N) (bY:((".0" : Str)::(xs++M)).Nodup)
  (hi:PI X tg iter wi) (Dl:∀cl C ae ah fp E,PG (dP X M scope cl xs C ae ah fp E) tg gt) (Dm:∀cl C ae ah fp,gi (dP X M scope cl xs C ae ah fp (λ_ _=>False)) ifs tt) (he:∀cl C ae ah fp,PE (dP X M scope cl xs C ae ah fp (λ_ _=>False)) elt te)
  (hs:∀v,foldedSetIterable iter X.env v=pure v:=by intro _;rfl):PE X (.ListComp elt [⟨tg,iter,ifs,0⟩] scope pos) (Dj wi gt tt te xs.length):=by
 intro pins s U H Q I h
 have hN:(xs++M).Nodup:=(ju.mp bY).2
 have oP:(".0" : Str)∉M:=λz=>(ju.mp bY).1 (yk _ z)
 obtain ⟨cl,gj,bZ,fM⟩:=zev X.env scope λp hp hf=>I.ok.has p.1 (.inl (S.free p hp hf))
 have gk:X.env.scope.kind=.function:=I.ok.kind
 rw [eval_ListComp]
 refine wpAny_comprehension_free (use:=none) rfl hs gj S.kind (λy hy hl=>(S.names y hy hl).1) ?_
 refine aI (hi pins s U H _ I h) λv s1 h1=>aI h1 λl6 ae h2=>?_
 obtain ⟨it,fp,tn,J,H2,e,I2,T,ak,f2,W,⟨m0,w0⟩,turn⟩:=h2
 subst e
 refine jd (wpAny_newFunctionEnv S.ncell (by intro y hy;simp at hy) (λax ay aw=>?_) S.kind)
 dsimp only at ay aw ⊢
 generalize hH2:ae.heap.push { cls:=.type "list", dict:=none,data:=.seq ([]:Af).toArray }=G2 at ay aw ⊢
 have hC:G2.objs.size=ae.heap.objs.size+1:=by rw [<-hH2,Heap.size_push]
 have eQ:ae.heap.objs.size≠G2.objs.size:=by rw [hC];exact yx (wF _)
 have sR:ae.heap.objs.size<=G2.objs.size:=by rw [hC];exact Nat.le_succ _
 have old:∀b o,ae.heap.get? b=some o->ax.get? b=some o:=λb o e=>by
  have hb:b≠G2.objs.size:=by rw [hC];exact yx (Nat.lt_succ_of_lt (zP e))
  exact aw.extBut b o hb (zU _ (hH2▸zU _ e))
 have kf:ax.get? ae.heap.objs.size=some { cls:=.type "list", data:=.seq (#[]:Array Value) 0 }:=aw.extBut _ _ eQ (zU _ (hH2▸yw _ rfl))
 generalize hD:ae.heap.objs.size=D at *
 generalize hCC:G2.objs.size=C at *
 have c6:∀{b:Nat} {o:Obj},ae.heap.get? b=some o->b<D:=λe=>by rw [<-hD];exact zP e
 have nofr:∀b,D<=b->b∉bU X.stack:=λb hb z=>by
  rcases yt.mp (I2.stkSub b z) with q|q
  ·exact sJ I2.lt hD hb q
  ·exact I2.nofs (by rw [hD];exact hb) q
 let E':Aa:=notedBy (model X.prog X.w) X.A (compEnvC scope cl C X.env) λe s'=>compPost (model X.prog X.w) X.A X.xe none (EP X pins U Q) (.ref D) C (.error e) s'
 let Y:Cx:=dP X M scope cl xs C ae H2 fp E'
 have cC:∀b∈fp,cQ X pins H2 b:=f2
 have gm:Y.Ok:=by
  refine ⟨I2.ok.mod,S.kind,I2.ok.glob,I2.ok.blt,(by show ae.heap.objs.size<=C;omega),λy z c h1 h2=>?_,λy hy=>?_,λy c hf=>?_,I2.ok.hd,I2.ok.frames,.inl rfl,λb hb=>?_,I2.bs,yL I2.ok.bsz I2.sz,λb o hb hx=>?_,λb hb hx=>?_,I2.stack,I2.stkFree⟩
  ·exact I2.ok.inj y z c (bZ y c h1) (bZ z c h2)
  ·exact fM y (oO S gk hy)
  ·cases hf
  ·refine ⟨λz=>?_,λy c hy=>(cC b hb).2.2.2.2.1 y c (bZ y c hy)⟩
   obtain ⟨o,ho,_⟩:=T.obj 0 _ ak b hb
   exact wH (c6 ho) hC z
  ·rcases (cC b hx).2.2.2.1 with z|z
   ·exact I2.ok.noex b o hb z
   ·exact sL (zP hb) I2.ok.bsz z
  ·rcases yt.mp (I2.stkSub b hx) with q|q
   ·exact (cC b hb).2.1 q
   ·exact (cC b hb).2.2.1 q
 have dF:∀{s':Shared} {H':Hp} {o:Obj},s'.heap.get? D=some o->H' D=none->(∀v,o.data ≠ .cell v)->∀p∈[(D,o)],s'.heap.get? p.1=some p.2/\H' p.1=none/\p.1≠Y.env.locals/\p.1∉Y.fs/\∀v,p.2.data ≠ .cell v:=λ{s' H' o} e1 e2 e3 p hp=>by
  have ep:p=(D,o):=by simpa using hp
  subst ep
  exact ⟨e1,e2,eQ,nofr D (zG _),e3⟩
 have I0:Inv Y [(D,{ cls:=.type "list", data:=.seq (#[]:Array Value) 0 })] (List.replicate xs.length none++U) H2 { ae with heap:=ax,toks:=ae.toks+([]:List (Str×Value)).length }:=by
  have fresh:∀b,D<=b->H2 b=none:=λb hb=>I2.hok.fresh (by rw [hD];exact hb)
  refine ⟨gm,rfl,I2.bare,Un.kept old,⟨_,ay,λi y v e1 e2 e3=>?_⟩,λy c hy=>?_,fresh C (by omega),λy c hy=>I2.freeC y c (bZ y c hy),λp hp=>dF kf (fresh D (zG _)) (λv z=>by cases z) p hp,I2.hok.kept old,?_⟩
  ·by_cases aZ:i<xs.length
   ·rw [wj (by simpa using aZ),List.getElem?_replicate] at e2
    simp [aZ] at e2
   ·obtain ⟨j,rfl⟩:∃j,i=xs.length+j:=⟨i-xs.length,by omega⟩
    have kg:M[j]?=some y:=by
     have:(xs++M)[xs.length+j]?=some y:=e1
     rw [jN (by omega)] at this
     simpa using this
    have gn:X.N[j]?=some y:=by
     rcases eN.get kg with q|q
     ·exact q
     ·refine absurd ?_ q
      rcases e3 with e3|e3|e3<;>(obtain ⟨k0,hm,_⟩:=wn e3;exact gY.mpr ⟨_,hm,rfl⟩)
    have oQ:U[j]?=some (some v):=by
     rw [jN (by simp)] at e2
     simpa using e2
    have fN:¬(y∈xs\/y = ".0"):=λz=>by
     have hm:=iQ kg
     rcases z with z|z
     ·exact (List.nodup_append.mp hN).2.2 y z y hm rfl
     ·rw [z] at hm
      exact oP hm
    have dj:(y,NameKind.free)∈scope.names:=by
     rcases e3 with e3|e3|e3
     ·exact absurd (sQ S e3) fN
     ·exact oO S gk (.inl e3)
     ·exact oO S gk (.inr e3)
    have kh:X.env.scope.names.lookup y=some .cell:=S.free _ dj rfl
    obtain ⟨m,hn,hl⟩:=I2.loc
    obtain ⟨u,r,l⟩:=hl j y v gn oQ (.inr (.inl kh))
    refine ⟨u,r,?_⟩
    rcases l with ⟨hk,_⟩|⟨_,c,g7,cP⟩
    ·have:X.env.kindOf y=some .cell:=kh
     rw [this] at hk;cases hk
    ·obtain ⟨c',dh⟩:=fM y dj
     have:=bZ y c' dh
     rw [g7] at this
     cases this
     refine .inr ⟨?_,c,dh,?_⟩
     ·rcases e3 with e3|e3|e3
      ·exact absurd (sQ S e3) fN
      ·exact .inl e3
      ·exact .inr e3
     ·obtain ⟨o,ho,hd⟩:=cP
      exact ⟨o,old c o ho,hd⟩
  ·obtain ⟨v,o,ho,hd⟩:=I2.cell y c (bZ y c hy)
   exact ⟨v,o,old c o ho,hd⟩
  ·show (List.replicate xs.length none++U).length=(xs++M).length
   simp [I2.len,eN.1]
 have gp:∀{pl:Ac} {H':Hp},(∀p∈pl,p.1=D)->(∀b∈fp,H' b=none)->∀b∈fp,cQ Y pl H' b:=λ{pl H'} bS hn b hb=>by
  obtain ⟨o,ho,_⟩:=T.obj 0 _ ak b hb
  refine ⟨hn b hb,λz=>?_,?_,.inl hb,(gm.exf b hb).2,λp hp z=>?_⟩
  ·exact wH (c6 ho) hC z
  ·exact gm.exfs b hb
  ·have hp':p∈pl:=by simpa [Y,dP] using hp
   exact sN (c6 ho) (bS p hp') z
 have loop:codeAny (model X.prog X.w) X.A (.compLoop (.ListComp elt [⟨tg,iter,ifs,0⟩] scope pos) 0 (.ref it) (.ref D) (compEnvC scope cl C X.env))
   (compPost (model X.prog X.w) X.A X.xe none (EP X pins U Q) (.ref D) C) { ae with heap:=ax,toks:=ae.toks+([]:List (Str×Value)).length }:=by
  refine Di (λn s'=>∃i ys H' its k,Inv Y [(D,{ cls:=.type "list", data:=.seq (its:Af).toArray k })] (List.replicate xs.length none++U) H' s'/\Vals ys its/\tn i s'.heap/\(∀b∈fp,H' b=none)/\W i n ys H') ?_ m0
   ⟨0,[],H2,[],0,I0,.nil,T.keep 0 _ _ ak (λb hb o e=>old b o e),λb hb=>(cC b hb).1,w0⟩
  rintro n s3 ⟨i,ys,H3,its,k,I3,rv,aL,fG,w3⟩
  have eB:∀{o:Obj},∀p∈[(D,o)],p.1=D:=λ{o} p hp=>by
   have ep:p=(D,o):=by simpa using hp
   rw [ep]
  obtain ⟨gD,nD,_,_,_⟩:=I3.pin (D,_) (yk _ yr)
  rcases turn i n ys H3 w3 with ⟨stop,hz,q⟩|⟨go,hz,step⟩
  ·refine aI (T.done Y rfl rfl rfl hc i _ s3 _ H3 E' I3 (gp eB fG) aL stop) λr s4 ⟨hr,I4⟩=>?_
   subst hr
   obtain ⟨oR,gq,_,_,_⟩:=I4.pin (D,_) (yk _ yr)
   obtain ⟨m4,oS,_⟩:=id I4.loc
   refine ⟨m4,oS,λh' cD=>?_⟩
   refine ⟨.ref D,upd H3 D (.lst ys),?_,rfl,q D gq⟩
   have eO:∀{b:Addr} {u:HO},H3 b=some u->b≠C:=λe z=>by
    have:H3 C=none:=I4.free
    rw [z,this] at e;cases e
   refine I2.call' (s':={ s4 with heap:=h' }) (ch:=fp) (H':=upd H3 D (.lst ys)) I4.os ?_ ?_ I4.bare λb hb=>⟨(cC b hb).2.2.2.1,(cC b hb).2.1,(cC b hb).2.2.2.2.1,(cC b hb).2.2.2.2.2⟩
   ·have B:=I4.base
    have gr:∀{b:Nat} {o:Obj},ae.heap.get? b=some o->b≠C:=λe z=>wH (c6 e) hC z
    have gs:∀{b:Addr} {u:HO},H3 b=some u->b≠D:=λe z=>by rw [z,gq] at e;cases e
    refine ⟨λb o e nn hb hx=>(cD.2 b (gr e)).trans (B.keep b o e nn hb hx),λb o e nn hb hx=>?_,λb o e nn hx=>?_,λb o e hx=>?_,λb xs e=>?_,λb o u e=>?_,λb ps e=>?_⟩
    ·obtain ⟨sl,z⟩:=B.slot b o e nn hb hx
     exact ⟨sl,(cD.2 b (gr e)).trans z⟩
    ·have oU:b≠D:=yx (c6 e)
     rw [zw oU]
     exact B.free b o e nn hx
    ·obtain ⟨o',z⟩:=B.there b o e hx
     exact ⟨o',(cD.2 b (gr e)).trans z⟩
    ·have z:=B.tups b xs e
     rw [zw (gs z)];exact z
    ·have z:=B.frzs b o u e
     rw [zw (gs z)];exact z
    ·obtain ⟨more,z⟩:=B.tbls b ps e
     exact ⟨more,by rw [zw (gs z)];exact z⟩
   ·intro a o e
    by_cases ha:a=D
    ·subst ha
     rw [yg] at e
     cases e
     exact ⟨hz,its,k,rv,(cD.2 _ eQ).trans oR⟩
    ·rw [zw ha] at e
     have dk:∀b u,H3 b=some u->(upd H3 D (.lst ys)) b=some u:=λb u z=>by
      have hb:b≠D:=λw=>by rw [w,gq] at z;cases z
      rw [zw hb];exact z
     refine (I4.hok a o e).stay (λb u hb z=>(cD.2 b ?_).trans z) (λb z=>dk b _ z) λb xs z=>dk b _ z
     rcases hb with hb|hb
     ·rw [hb];exact eO e
     ·exact eO hb
  ·refine aI (T.item Y rfl rfl rfl hc i _ s3 _ H3 E' I3 (gp eB fG) aL go) λr s4 ⟨u,hr,h4⟩=>?_
   subst hr
   refine aI h4 λ_ s5 ⟨z,H5,I5,r5,y5,bV,iY⟩=>?_
   have iZ:=I5.pinned (gp eB iY) (T.obj _ _ bV)
   have ki:PG Y tg gt:=Dl cl C ae H2 fp E'
   have oV:PE Y elt te:=PE.nox (X:=Y) (he cl C ae H2 fp)
   have Dp:gi Y ifs tt:=gi.nox (X:=Y) (Dm cl C ae H2 fp)
   refine aI (ki _ s5 (List.replicate xs.length none++U) H5 z u _ iZ r5 (step z _ y5)) λ_ s6 ⟨aA,H6,I6,own,e1,e2,q6⟩=>?_
   subst e1
   have wk:∀(j:Nat) v,(List.replicate xs.length none++U)[j]?=some (some v)->(own++U)[j]?=some (some v):=λj v e=>by
    by_cases aZ:j<xs.length
    ·rw [wj (by simpa using aZ),List.getElem?_replicate] at e
     simp [aZ] at e
    ·rw [jN (by simp;omega)] at e
     rw [jN (by omega),e2]
     simpa using e
   have wl:(List.replicate xs.length none++U).length=(own++U).length:=by simp [e2]
   refine aI (Dp _ s6 _ _ _ I6 q6) λb s7 ⟨H7,I7,q7⟩=>?_
   cases b with
   |true =>
    refine aI (oV _ s7 _ _ _ I7 q7) λuy s7 ⟨y,H7,I7,ry,m',hm,w7⟩=>?_
    obtain ⟨kj,gu,_,_,_⟩:=I7.pin (D,_) (yk _ (gW _ yr))
    refine wpAny_list_append_plain ⟨k,kj⟩ (λh' bS cD=>?_) (by rw [yf,<-rv.length];exact hz)
    obtain ⟨k',km⟩:=bS
    have I8:Inv Y [] (own++U) H7 { s7 with heap:=h' }:=(I7.pins_of (pins':=[]) (λp hp=>nomatch hp)).turned (it:=D) (t':=s7.toks) (λb o hb e=>(cD.2 b hb).trans e) gu eQ
     (.inr (by show ae.heap.objs.size<=D;omega)) (λa c hy kn=>by
      obtain ⟨v',o',ho',_⟩:=I2.cell a c (bZ a c hy)
      exact yx (c6 ho') kn) (λp hp=>by simp [Y,dP] at hp)
    have I9:Inv Y [] (List.replicate xs.length none++U) H7 { s7 with heap:=h' }:=I8.weak wl wk
    have cU:∀b∈fp,∃o,s5.heap.get? b=some o/\s7.heap.get? b=some o/\H7 b=none:=λb hb=>by
     obtain ⟨o,e,_⟩:=T.obj _ _ bV b hb
     have q:=I7.pin (b,o) (yk _ (yk _ (iX hb e)))
     exact ⟨o,e,q.1,q.2.1⟩
    have oW:∀b∈fp,b≠D:=λb hb=>by
     obtain ⟨o,ho,_⟩:=T.obj 0 _ ak b hb
     exact yx (c6 ho)
    have eT:its.toArray.push uy=(its++[uy]).toArray:=by simp
    rw [eT] at km
    refine ⟨m',hm,i+1,ys++[y],H7,its++[uy],k',I9.pins_of (dF km gu λv e=>by cases e),rv.append (.cons ry .nil),T.keep (i+1) _ _ bV λb hb o e=>?_,λb hb=>?_,w7⟩
    ·obtain ⟨o',e1,e2,_⟩:=cU b hb
     rw [e] at e1
     cases e1
     exact (cD.2 b (oW b hb)).trans e2
    ·obtain ⟨_,_,_,q⟩:=cU b hb
     exact q
   |false =>
    obtain ⟨m',hm,w7⟩:=q7
    obtain ⟨kj,gu,_,_,_⟩:=I7.pin (D,_) (yk _ (gW _ yr))
    have I9:Inv Y [] (List.replicate xs.length none++U) H7 s7:=(I7.pins_of (pins':=[]) (λp hp=>nomatch hp)).weak wl wk
    have cU:∀b∈fp,∃o,s5.heap.get? b=some o/\s7.heap.get? b=some o/\H7 b=none:=λb hb=>by
     obtain ⟨o,e,_⟩:=T.obj _ _ bV b hb
     have q:=I7.pin (b,o) (yk _ (yk _ (iX hb e)))
     exact ⟨o,e,q.1,q.2.1⟩
    refine ⟨m',hm,i+1,ys,H7,its,k,I9.pins_of (dF kj gu λv e=>by cases e),rv,T.keep (i+1) _ _ bV λb hb o e=>?_,λb hb=>?_,w7⟩
    ·obtain ⟨o',e1,e2,_⟩:=cU b hb
     rw [e] at e1
     cases e1
     exact e2
    ·obtain ⟨_,_,_,q⟩:=cU b hb
     exact q
 exact codeAny_compStart_list loop (T.self X.A 0 _ _ _ (T.keep 0 _ _ ak (λb hb o e=>old b o e)) loop)
def sS {X:Cx} {elt iter:Expr} {x:Str} {px pos:Pos} {scope:Scope} {wi:TI} {te:TE} {M:Ad} (hc:X.calm=true) (S:bw X.env.scope scope x) (eN:Hid scope M X.N) (bY:((".0" : Str)::x::M).Nodup)
  (hi:PI X (.Name x px) iter wi) (he:∀cl C ae ah fp,PE (fL X M scope cl x C ae ah fp (λ_ _=>False)) elt te)
  (hs:∀v,foldedSetIterable iter X.env v=pure v:=by intro _;rfl):PE X (.ListComp elt [⟨.Name x px,iter,[],0⟩] scope pos) (oN wi te):=by
 have hN:([x]++M).Nodup:=(ju.mp bY).2
 have S':d9 X.env.scope scope [x]:=⟨S.kind,S.ncell,λy hy h=>⟨(S.names y hy h).1,(S.names y hy h).2.imp (λe=>by rw [e];exact List.mem_singleton_self _) id⟩,S.free⟩
 have ki:∀cl C ae ah fp E,PG (dP X M scope cl [x] C ae ah fp E) (.Name x px) (g9 0):=λcl C ae ah fp E=>g_ (X:=dP X M scope cl [x] C ae ah fp E) (i:=0) hN rfl (.inl (lS S.hx)) (.inr (lS S.hx))
 have e:∀U Q,(λJ H1=>gh J te U Q H1)=λJ H1=>fh J (g9 0) mj te 1 U Q H1:=λU Q=>by
  funext J H1
  exact propext (exists_congr λW=>and_congr Iff.rfl (forall_congr' λi=>forall_congr' λm=>forall_congr' λys=>forall_congr' λH=>imp_congr Iff.rfl (or_congr Iff.rfl (and_congr Iff.rfl (and_congr Iff.rfl (forall_congr' λz=>forall_congr' λH'=>imp_congr Iff.rfl
   ⟨λh=>⟨[some z],rfl,rfl,h⟩,λ⟨_,_,_,h⟩=>h⟩))))))
 intro pins s U H Q I h
 refine Dk (te:=te) (tt:=mj) hc S' eN bY hi ki (λcl C ae ah fp=>Dh) (λcl C ae ah fp=>he cl C ae ah fp) hs pins s U H Q I ?_
 show wi U H λJ H1=>fh J (g9 0) mj te 1 U Q H1
 rw [<-e]
 exact h
end L2
namespace L2
open PySem PySem.Spec PyProof.Rows
def sT {X:Cx} {elt iter:Expr} {x:Str} {px pos:Pos} {scope:Scope} {wi:TI} {te:TE} {N:Ad} (hc:X.calm=true) (S:bw X.env.scope scope x) (eN:X.N=N) (bY:((".0" : Str)::x::N).Nodup)
  (hi:PI X (.Name x px) iter wi) (he:∀cl C ae ah fp,PE (ke X scope cl x C ae ah fp (λ_ _=>False)) elt te)
  (hs:∀v,foldedSetIterable iter X.env v=pure v:=by intro _;rfl):PE X (.ListComp elt [⟨.Name x px,iter,[],0⟩] scope pos) (oN wi te) :=
 sS hc S Hid.refl (eN▸bY) hi he hs
def oX (z:Str):It:=⟨λi _=>i<z.cps.size,λi H v H'=>H'=H/\∃c,z.cps[i]?=some c/\v=.str ⟨#[c]⟩,λi _=>z.cps.size<=i⟩
def sU {P:Program} {w:World} {K:PySem.W.Frag} {tg:Expr} (z:Str) (t:Tok) (it:Addr) (ty:String) (hI:ty = "str_ascii_iterator" \/ ty = "str_iterator"):Turn P w K tg (oX z) [it] it (λi h=>h.IsStrIter it ty z t i) where
 mem:=by simp
 obj:=λi h st b hb=>by
  have e:b=it:=by simpa using hb
  subst e
  obtain ⟨o,e,c,d⟩:=st
  exact ⟨o,e,λv z=>by rw [d] at z;cases z⟩
 keep:=λi h h' st k=>by
  obtain ⟨o,e,r⟩:=st
  exact ⟨o,k it (by simp) o e,r⟩
 item:=by
  intro X hP hw hK hc i pins s U H E I hf st hg
  subst hP hw hK
  obtain ⟨f0,f1,f2,f3,f4,f5⟩:=hf it (by simp)
  have W:Walks X.prog X.w X.A it [it] [it] z.cps.size (SignAt z) (λi h=>h.IsStrIter it ty z t i):=by
   rcases hI with e|e
   ·rw [e];exact Walks.strAscii (I.ok.hd hc) it z t
   ·rw [e];exact Walks.strWide (I.ok.hd hc) it z t
  refine W.item i s _ _ hg st λv h' tk hv aE kk=>?_
  obtain ⟨c,u,Dq,rfl⟩:=hv
  have I1:Inv X pins U H { s with heap:=h',toks:=tk }:=I.turned (λb o hb e=>kk b o (by simpa using hb) e) f0 f1 f3 f4 f5
  obtain ⟨o,e,cc,d⟩:=id aE
  exact ⟨_,rfl,hG (s:={ s with heap:=h',toks:=tk }) e cc d (by rcases hI with e|e<;>rw [e]<;>decide) ⟨.str ⟨#[c]⟩,H,I1,⟨u,rfl⟩,⟨rfl,c,Dq,rfl⟩,aE,λb hb=>(hf b hb).1⟩⟩
 done:=by
  intro X hP hw hK hc i pins s U H E I hf st hg
  subst hP hw hK
  obtain ⟨f0,f1,f2,f3,f4,f5⟩:=hf it (by simp)
  have hn:z.cps[i]?=none:=by
   have Dr:z.cps.size<=i:=hg
   simpa using Dr
  rcases hI with e|e
  ·rw [e] at st
   exact wpAny_pyNext_ascii_end (I.ok.hd hc) st hn λh' eb=>⟨rfl,I.turned (t':=s.toks) (λb o hb e=>eb b o hb e) f0 f1 f3 f4 f5⟩
  ·rw [e] at st
   exact wpAny_pyNext_wide_end (I.ok.hd hc) st hn λh' eb=>⟨rfl,I.turned (t':=s.toks) (λb o hb e=>eb b o hb e) f0 f1 f3 f4 f5⟩
 self:=λA i s Q E st h=>by
  rcases hI with e|e
  ·rw [e] at st;exact wpAny_pyIter_striter_ascii st h
  ·rw [e] at st;exact wpAny_pyIter_striter_wide st h
section
variable {X:Cx}
def Ds:ff X (λx lo hi H Q=>∃z,x=.str z/\z.length<=sizeLine/\Q (.str (Txt.slice z lo hi)) H):=by
 intro pins s U H x v vl vu lo hi sl Q I rx hs pl pu h
 obtain ⟨z,rfl,hz,q⟩:=h
 obtain ⟨t,rfl⟩:=rx
 refine ⟨"str", _,F.slot_str_getitem.lookup,typeIs_str _ _ _,?_⟩
 have fin:∀t' k,EP X pins U Q (.str (Txt.slice z lo hi) t') { s with toks:=k }:=λt' k=>⟨.str _,H,I.tok _,⟨_,rfl⟩,q⟩
 cases pl with
 |none =>
  cases pu with
  |none=>exact wpAny_getItem_str_slice (l:=none) (u:=none) (st:=none) hs rfl (post_val_or_str ⟨yL (Txt.slice_le z _ _) hz,fin⟩)
  |int j uj=>exact wpAny_getItem_str_slice (l:=none) (u:=some (j,uj)) (st:=none) hs rfl (post_val_or_str ⟨yL (Txt.slice_le z _ _) hz,fin⟩)
 |int i ui =>
  cases pu with
  |none=>exact wpAny_getItem_str_slice (l:=some (i,ui)) (u:=none) (st:=none) hs rfl (post_val_or_str ⟨yL (Txt.slice_le z _ _) hz,fin⟩)
  |int j uj=>exact wpAny_getItem_str_slice (l:=some (i,ui)) (u:=some (j,uj)) (st:=none) hs rfl (post_val_or_str ⟨yL (Txt.slice_le z _ _) hz,fin⟩)
theorem sV:∀{bs:List Bool}{us:Af},Vals (bs.map V.bl) us->us=bs.map Value.bool
 |[],us,r=>by rw [List.map_nil] at r;cases r;rfl
 |b::bs,us,r=>by
  rw [ym] at r
  cases r with
  |cons r1 r2 =>
   have e:_=Value.bool b:=r1
   rw [ym,<-sV r2,e]
def Dt (hc:X.calm=true):bH X (.builtin "all") (λxs H Q=>∃(a:Addr) (bs:List Bool),xs=[.ref a]/\aS X.K H a (bs.map V.bl)/\Q (.bl (bs.all id)) H):=by
 intro pins s U H xs us Q I r h
 obtain ⟨a,bs,rfl,hl,q⟩:=h
 obtain ⟨u,rfl,ru⟩:=l_ r
 cases ru
 obtain ⟨its,rv,pl,hz⟩:=I.list hl
 have e:=sV rv
 subst e
 refine call_all_walk (wpAny_pyIter_list pl.isList ?_)
 have hh:X.A.in1.handled=none:=I.ok.hd hc
 have aZ:a<s.heap.objs.size:=by
  obtain ⟨o,e,_⟩:=pl.isList
  exact zP e
 have ko:a≠s.heap.objs.size:=yx aZ
 refine ⟨s.heap.objs.size,_,_,_,_,_,λi=>(bs[i]?).getD true,rfl,Walks.list hh s.heap.objs.size a ko (bs.map Value.bool).toArray,⟨⟨_,yw _ rfl,rfl,rfl⟩,pl.isList.at λo e=>zU _ e⟩,?_,λh' tk kk=>?_⟩
 ·intro i v s' Q' E' hp hq
  have hp':(bs.map Value.bool)[i]?=some v:=by simpa using hp
  rw [wf] at hp'
  cases eb:bs[i]? with
  |none=>rw [eb] at hp';cases hp'
  |some b =>
   rw [eb] at hp'
   have:Value.bool b=v:=Option.some.inj hp'
   subst this
   refine jK ?_
   dsimp only at hq
   rw [eb] at hq
   exact hq
 ·have e1:(List.range (bs.map Value.bool).toArray.size).all (λi=>(bs[i]?).getD true)=bs.all id:=by
   rw [yf,jL]
   rw [Bool.eq_iff_iff,List.all_eq_true,List.all_eq_true]
   constructor
   ·intro hh b hb
    obtain ⟨i,hi,e⟩:=List.getElem_of_mem hb
    have:=hh i (g0.mpr hi)
    rw [zR hi,e] at this
    exact this
   ·intro hh i hi
    have c7:=g0.mp hi
    rw [zR c7]
    exact hh _ (gX c7)
  rw [e1]
  refine ⟨.bl (bs.all id),H,?_,rfl,q⟩
  exact I.kept (t':=tk) λb o e=>kk b o (λz=>by
   have z':b=s.heap.objs.size:=by simpa using z
   exact absurd (zP e) (by rw [z'];exact Nat.lt_irrefl _)) (zU _ e)
def eD:bH X (.builtin "isinstance") (λxs H Q=>∃x n t b,xs=[x,.ty n]/\bX X.K H x t/\PySem.W.kitOne X.K t (.type n)=some b/\Q (.bl b) H):=by
 intro pins s U H xs us Q I r h
 obtain ⟨x,n,t,b,rfl,ty,e,q⟩:=h
 obtain ⟨u,w',rfl,ru,cn⟩:=ma r
 have e2:w'=Value.type n:=cn
 subst e2
 exact rV I ru ty e λtk=>⟨.bl b,H,I.tok _,rfl,q⟩
def Du:aW X (compareOp .In) (λx y H Q=>∃(c:Nat) (z:Str),x=.str ⟨#[c]⟩/\y=.str z/\Q (.bl (decide (c∈z.cps.toList))) H):=by
 intro pins s U H x y v u Q I rx ry h
 obtain ⟨c,z,rfl,rfl,q⟩:=h
 refine B7 pins s U H _ _ v u Q I rx ry ⟨_,_,rfl,rfl,?_⟩
 rw [StrLaws.found_one]
 exact q
end
section
variable {κ:Type} [DecidableEq κ]
def b0 (kvs:List (κ×V)) (k:κ):Option V:=(kvs.find? λkv=>decide (kv.1=k)).map (·.2)
def putK (kvs:List (κ×V)) (k:κ) (v:V):List (κ×V) :=
 if (kvs.any λkv=>decide (kv.1=k))=true then kvs.map (λkv=>if kv.1=k then (kv.1,v) else kv) else kvs++[(k,v)]
def mm {p:κ×V}{r:List (κ×V)}{k:κ}(e:p.1=k):b0 (p::r) k=some p.2:=by simp [b0,List.find?_cons,e]
def mn {p:κ×V}{r:List (κ×V)}{k:κ}(e:¬p.1=k):b0 (p::r) k=b0 r k:=by simp [b0,List.find?_cons,e]
theorem sW (k:κ):∀kvs:List (κ×V),(kvs.any λkv=>decide (kv.1=k))=(b0 kvs k).isSome
 |[]=>rfl
 |p::r=>by
  rw [List.any_cons]
  by_cases e:p.1=k
  ·simp only [mm e,jg e,Bool.true_or,Option.isSome_some]
  ·rw [mn e,yn e,Bool.false_or];exact sW k r
def oY (kvs:List (κ×V)) (k:κ) (v:V):(putK kvs k v).length<=kvs.length+1:=by
 unfold putK
 split
 ·rw [jL];omega
 ·rw [jB,jM,List.length_nil];omega
def cO.isSome_eq {o:Option V}{u:Option Value}(r:cO o u):o.isSome=u.isSome:=by
 cases o with
 | none=>cases u with
  |none=>rfl
  |some _=>exact (show False from r).elim
 | some _=>cases u with
  |none=>exact (show False from r).elim
  |some _=>rfl
def KV.val {kvs:List (κ×V)}{vs:List (κ×Value)}(r:KV kvs vs) (k:κ):cO (b0 kvs k) (valueAt vs k):=by
 unfold KV at r
 induction r with
 |nil=>exact True.intro
 |@cons p q ps qs h t ih =>
  obtain ⟨h1,h2⟩:=h
  by_cases e:p.1=k
  ·have e':q.1=k:=h1.symm.trans e
   have b:valueAt (q::qs) k=some q.2:=by simp [valueAt,List.find?_cons,e']
   rw [mm e,b];exact h2
  ·have e':¬q.1=k:=λz=>e (h1.trans z)
   have b:valueAt (q::qs) k=valueAt qs k:=by simp [valueAt,List.find?_cons,e']
   rw [mn e,b];exact ih
theorem KV.any {kvs:List (κ×V)}{vs:List (κ×Value)}(r:KV kvs vs) (k:κ):(kvs.any λkv=>decide (kv.1=k))=vs.any λkv=>decide (kv.1=k):=by
 unfold KV at r
 induction r with
 |nil=>rfl
 |cons h t ih=>rw [List.any_cons,List.any_cons,ih,h.1]
def KV.repl {kvs:List (κ×V)}{vs:List (κ×Value)}(r:KV kvs vs) (k:κ) {y:V}{u:Value}(ry:RelV y u) :
  KV (kvs.map λkv=>if kv.1=k then (kv.1,y) else kv) (vs.map λkv=>if kv.1=k then (kv.1,u) else kv):=by
 unfold KV at r ⊢
 induction r with
 |nil=>exact .nil
 |@cons p q ps qs h t ih =>
  rw [ym,ym]
  refine .cons ?_ ih
  obtain ⟨h1,h2⟩:=h
  by_cases e:p.1=k
  ·rw [zu e,zu (h1.symm.trans e)];exact ⟨h1,ry⟩
  ·rw [zt e,zt (λz=>e (h1.trans z))];exact ⟨h1,h2⟩
def KV.put {kvs:List (κ×V)}{vs:List (κ×Value)}(r:KV kvs vs) (k:κ) {y:V}{u:Value}(ry:RelV y u):KV (putK kvs k y) (stored vs k u):=by
 unfold putK stored
 rw [r.any k]
 by_cases e:(vs.any λkv=>decide (kv.1=k))=true
 ·rw [zu e,zu e];exact r.repl k ry
 ·rw [zt e,zt e];exact Paired.snoc r ⟨rfl,ry⟩
def KV.keys {kvs:List (κ×V)}{vs:List (κ×Value)}(r:KV kvs vs):kvs.map (·.1)=vs.map (·.1):=by
 unfold KV at r
 induction r with
 |nil=>rfl
 |cons h t ih=>rw [ym,ym,ih,h.1]
theorem KV.length {kvs:List (κ×V)}{vs:List (κ×Value)}(r:KV kvs vs):kvs.length=vs.length:=Paired.length r
end
def kq {P:Program}{w:World}{k:Key}{u:Value}(r:RelV (kV k) u):(av P w).is k u=true:=by
 cases k with
 |inl i=>obtain ⟨t,e⟩:=(show ∃t,u=Value.int i t from r);subst e;exact AO P w i t
 |inr x=>obtain ⟨t,e⟩:=(show ∃t,u=Value.str x t from r);subst e;exact AQ P w x t
theorem oZ {P:Program}{w:World}:∀{ks:List Key}{us:Af},Vals (ks.map kV) us->ItemsAre (av P w) ks us
 |[],_,r=>by rw [List.map_nil] at r;cases r;exact .nil
 |k::ks,_,r=>by
  rw [ym] at r
  cases r with
  |cons h t=>exact .cons (kq h) (oZ t)
abbrev KT (H:Hp):List (List Key×V)->List (List Key×Addr×Value)->Prop:=Paired λp q=>p.1=q.1/\H q.2.1=some (.tup (p.1.map kV))/\RelV p.2 q.2.2
def KT.val {H:Hp}{kvs:List (List Key×V)}{xs:List (List Key×Addr×Value)}(r:KT H kvs xs) (k:List Key):cO (b0 kvs k) ((atKey xs k).map (·.2)):=by
 induction r with
 |nil=>exact True.intro
 |@cons p q ps qs h t ih =>
  obtain ⟨h1,_,h2⟩:=h
  by_cases e:p.1=k
  ·have e':q.1=k:=h1.symm.trans e
   have b:atKey (q::qs) k=some q.2:=by simp [atKey,List.find?_cons,e']
   rw [mm e,b];exact h2
  ·have e':¬q.1=k:=λz=>e (h1.trans z)
   have b:atKey (q::qs) k=atKey qs k:=by simp [atKey,List.find?_cons,e']
   rw [mn e,b];exact ih
def KT.repl {H:Hp}{kvs:List (List Key×V)}{xs:List (List Key×Addr×Value)}(r:KT H kvs xs) (k:List Key) {y:V}{u:Value}(ry:RelV y u) :
  KT H (kvs.map λkv=>if kv.1=k then (kv.1,y) else kv) (xs.map (putAt k u)):=by
 induction r with
 |nil=>exact .nil
 |@cons p q ps qs h t ih =>
  rw [ym,ym]
  refine .cons ?_ ih
  obtain ⟨h1,h2,h3⟩:=h
  unfold putAt
  by_cases e:p.1=k
  ·rw [zu e,zu (h1.symm.trans e)];exact ⟨h1,h2,ry⟩
  ·rw [zt e,zt (λz=>e (h1.trans z))];exact ⟨h1,h2,h3⟩
def KT.put {H:Hp}{kvs:List (List Key×V)}{xs:List (List Key×Addr×Value)}(r:KT H kvs xs) (k:List Key) {b:Addr}{y:V}{u:Value}(hb:H b=some (.tup (k.map kV))) (ry:RelV y u) :
  KT H (putK kvs k y) (storedH xs k b u):=by
 have e:(kvs.any λkv=>decide (kv.1=k))=(atKey xs k).isSome:=by
  rw [sW,(r.val k).isSome_eq,Option.isSome_map]
 unfold putK storedH
 rw [e]
 by_cases q:(atKey xs k).isSome=true
 ·rw [zu q,zu q];exact r.repl k ry
 ·rw [zt q,zt q];exact Paired.snoc r ⟨rfl,hb,ry⟩
def KT.keeps {H H':Hp}{kvs:List (List Key×V)}{xs:List (List Key×Addr×Value)}(r:KT H kvs xs) (ht:∀b ys,H b=some (.tup ys)->H' b=some (.tup ys)):KT H' kvs xs :=
 Paired.mapP r λ_ _ z=>⟨z.1,ht _ _ z.2.1,z.2.2⟩
section
variable {P:Program} {w:World} {H:Hp} {h:Heap} {a:Addr}
def sX {u:HO}(ok:bq P w H h) (e:Rd H a u):aM P w H h a u:=e.ok ok
def wI {kvs:List (Key×V)}(ok:bq P w H h) (e:Rd H a (.dK kvs)):kvs.length<=sizeLine/\(a==sysModules)=false/\∃vs,KV kvs vs/\h.DictOf (av P w) a vs :=
 show aM P w H h a (.dK kvs) from sX ok e
def o8 {kvs:List (Key×V)}(ok:bq P w H h) (e:H a=some (.dK kvs)):kvs.length<=sizeLine/\(a==sysModules)=false/\∃vs,KV kvs vs/\h.DictOf (av P w) a vs:=wI ok (.inl e)
def mq {ks:List Key}(ok:bq P w H h) (e:H a=some (.tup (ks.map kV))):(tupleKind (av P w)).is h ks a:=by
 obtain ⟨_,its,r,o,h1,h2,n,h3⟩:=(show aM P w H h a (.tup (ks.map kV)) from ok a _ e)
 exact ⟨o,its.toArray,n,h1,h2,h3,by simpa using oZ r⟩
def mr {kvs:List (List Key×V)}(ok:bq P w H h) (e:Rd H a (.dT kvs)):kvs.length<=sizeLine/\(a==sysModules)=false /\
  ∃xs,KT H kvs xs/\h.DictOfH (tupleKind (av P w)) a xs:=by
 obtain ⟨z,y,xs,r,o,es,ep,h1,h2,h3,h4,h5⟩:=(show aM P w H h a (.dT kvs) from sX ok e)
 refine ⟨z,y,xs,r,o,es,ep,h1,h2,h3,h4,λx hx=>?_,h5⟩
 have all:∀{l:List (List Key×V)} {m:List (List Key×Addr×Value)},KT H l m->∀x∈m,(tupleKind (av P w)).is h x.1 x.2.1:=by
  intro l m q
  induction q with
  |nil=>intro x hx;exact nomatch hx
  |@cons p q ps qs hq t ih =>
   intro x hx
   rcases yt.mp hx with e|hx
   ·subst e
    exact mq ok (by rw [<-hq.1];exact hq.2.1)
   ·exact ih x hx
 exact all r x hx
def Dv {kvs:List (List Key×V)}(ok:bq P w H h) (e:H a=some (.dT kvs)):kvs.length<=sizeLine/\(a==sysModules)=false /\
  ∃xs,KT H kvs xs/\h.DictOfH (tupleKind (av P w)) a xs:=mr ok (.inl e)
end
def cV (H:Hp) (a:Addr) (y:V) (r:Option V):Prop :=
 (∃kvs k,Rd H a (.dK kvs)/\y=kV k/\r=b0 kvs k)\/∃kvs k b,Rd H a (.dT kvs)/\y=.ref b/\H b=some (.tup (k.map kV))/\r=b0 kvs k
def eE (H:Hp) (a:Addr) (y v:V) (H':Hp):Prop :=
 (∃kvs k,H a=some (.dK kvs)/\y=kV k/\kvs.length<sizeLine/\H'=upd H a (.dK (putK kvs k v))) \/
 ∃kvs k b,H a=some (.dT kvs)/\y=.ref b/\H b=some (.tup (k.map kV))/\kvs.length<sizeLine/\H'=upd H a (.dT (putK kvs k v))
theorem cV.k {H:Hp}{a:Addr}{kvs:List (Key×V)}{k:Key}(e:H a=some (.dK kvs)):cV H a (kV k) (b0 kvs k):=.inl ⟨kvs,k,.inl e,rfl,rfl⟩
def cV.t {H:Hp}{a b:Addr}{kvs:List (List Key×V)}{k:List Key}(e:H a=some (.dT kvs)) (eb:H b=some (.tup (k.map kV))):cV H a (.ref b) (b0 kvs k):=.inr ⟨kvs,k,b,.inl e,rfl,eb,rfl⟩
theorem eE.k {H:Hp}{a:Addr}{kvs:List (Key×V)}{k:Key}{v:V}(e:H a=some (.dK kvs)) (hl:kvs.length<sizeLine):eE H a (kV k) v (upd H a (.dK (putK kvs k v))):=.inl ⟨kvs,k,e,rfl,hl,rfl⟩
def eE.t {H:Hp}{a b:Addr}{kvs:List (List Key×V)}{k:List Key}{v:V}(e:H a=some (.dT kvs)) (eb:H b=some (.tup (k.map kV))) (hl:kvs.length<sizeLine) :
  eE H a (.ref b) v (upd H a (.dT (putK kvs k v))):=.inr ⟨kvs,k,b,e,rfl,eb,hl,rfl⟩
section
variable {X:Cx} {pins:Ac} {U:St} {H:Hp} {s:Shared} {a:Addr} {y v:V} {u r:Value} {o:Option V} {A:Around} {E:Aa}
def Inv.big (I:Inv X pins U H s):sysModules<s.heap.objs.size:=by
 have h:mainGlobals<s.heap.objs.size:=(I.mod.glob.keeps I.bk).lt
 exact Nat.lt_trans (by decide) h
def Dw {Q:Aa}(hu:A.units+1<cLine) (I:Inv X pins U H s) (g:cV H a y (some v)) (ry:RelV y u) (h:∀w' s',Inv X pins U H s'->RelV v w'->Q w' s') :
  wpAny (model X.prog X.w) A (getItem (.ref a) u) Q E s:=by
 rcases g with ⟨kvs,k,e,ey,l⟩|⟨kvs,k,b,e,ey,eb,l⟩
 ·subst ey
  obtain ⟨z,hd,vs,rel,dd⟩:=wI I.hok e
  obtain ⟨w',hw,cn⟩:=cO.some_of (v:=v) (o:=valueAt vs k) (by rw [l];exact rel.val k)
  exact wpAny_getItem_of (kq ry) dd.mapOf hw (h w' _ (I.tok _) cn)
 ·subst ey
  cases (show u=Value.ref b from ry)
  obtain ⟨z,hd,xs,rel,dd⟩:=mr I.hok e
  obtain ⟨w',hw,cn⟩:=cO.some_of (v:=v) (o:=(atKey xs k).map (·.2)) (by rw [l];exact rel.val k)
  obtain ⟨p,hp,kr⟩:=Option.map_eq_some_iff.mp hw
  refine wpAny_getItem_heap (tupleKind_room_in1 hu) (mq I.hok eb) dd hp ?_
  rw [kr]
  exact h w' _ (I.tok _) cn
def Dx {Q:Aa}(hu:A.units+1<cLine) (I:Inv X pins U H s) (g:cV H a y o) (ry:RelV y u) (h:∀s',Inv X pins U H s'->Q (.bool o.isSome) s') :
  wpAny (model X.prog X.w) A (compareOp .In u (.ref a)) Q E s:=by
 rcases g with ⟨kvs,k,e,ey,l⟩|⟨kvs,k,b,e,ey,eb,l⟩
 ·subst ey
  obtain ⟨z,hd,vs,rel,dd⟩:=wI I.hok e
  refine wpAny_in_of (kq ry) hd dd.mapOf ?_
  rw [<-(rel.val k).isSome_eq,<-l]
  exact h _ (I.tok _)
 ·subst ey
  cases (show u=Value.ref b from ry)
  obtain ⟨z,hd,xs,rel,dd⟩:=mr I.hok e
  refine wpAny_in_heap (tupleKind_room_in1 hu) (mq I.hok eb) hd dd ?_
  have q:=(rel.val k).isSome_eq
  rw [Option.isSome_map] at q
  rw [<-q,<-l]
  exact h _ (I.tok _)
def mv {h':Heap}{t':Nat}{ob:HO}(I:Inv X pins U H s) (mu:fX (H a)) (hs:Heap.SameBut a s.heap h') (he:∃q,h'.get? a=some q) (new:aM X.prog X.w (upd H a ob) h' a ob) :
  Inv X pins U (upd H a ob) { s with heap:=h',toks:=t' } :=
 I.write (x:=a) (e:=a) mu (.inl rfl) (λb q hb z=>(hs.2 b hb).trans z) he new
def sY {P:Program}{w:World}{H':Hp}{h':Heap}{kvs:List (Key×V)}{vs:List (Key×Value)}(z:kvs.length<=sizeLine) (hd:(a==sysModules)=false) (rel:KV kvs vs) (dd:h'.DictOf (av P w) a vs) :
  aM P w H' h' a (.dK kvs):=⟨z,hd,vs,rel,dd⟩
def Dy {H':Hp}{Q:Unit->Shared->Prop}(hu:A.units+1<cLine) (I:Inv X pins U H s) (g:eE H a y v H') (ry:RelV y u) (rv:RelV v r) (h:∀s',Inv X pins U H' s'->Q () s') :
  wpAny (model X.prog X.w) A (setItem (.ref a) u r) Q E s:=by
 rcases g with ⟨kvs,k,e,ey,l,eH⟩|⟨kvs,k,b,e,ey,eb,l,eH⟩
 ·subst ey eH
  obtain ⟨z,hd,vs,rel,dd⟩:=o8 I.hok e
  have hz:vs.length<=sizeLine:=by rw [<-rel.length];exact z
  have hl:(putK kvs k v).length<=sizeLine:=by have:=oY kvs k v;omega
  refine wpAny_setItem_pairs (hsz:=hz) (kq ry) dd λh' fP hs=>h _ ?_
  have he:∃q,h'.get? a=some q:=let ⟨q,_,_,hq,_⟩:=fP;⟨q,hq⟩
  exact mv I (by rw [e];exact True.intro) hs he (sY hl hd (rel.put k rv) fP)
 ·subst ey eH
  cases (show u=Value.ref b from ry)
  obtain ⟨z,hd,xs,rel,dd⟩:=Dv I.hok e
  have hz:xs.length<=sizeLine:=by rw [<-Paired.length rel];exact z
  have hl:(putK kvs k v).length<=sizeLine:=by have:=oY kvs k v;omega
  refine wpAny_setItem_heap (hsz:=hz) (tupleKind_room_in1 hu) (mq I.hok eb) dd λh' fP hs=>h _ ?_
  obtain ⟨q,es,ep,hq,h2,h3,h4,_,h5⟩:=fP
  refine mv I (by rw [e];exact True.intro) hs ⟨q,hq⟩ ⟨hl,hd,_,(rel.put k eb rv).keeps λc ys ec=>?_,q,es,ep,hq,h2,h3,h4,h5⟩
  rw [zw (AR ec e (λz=>nomatch z))]
  exact ec
end
def Dz {X:Cx} {pins:Ac} {U:St} {H:Hp} {s:Shared} {a:Addr} {y:V} {o:Option V} (I:Inv X pins U H s) (g:cV H a y o):s.TypeIs (.ref a) "dict" := by
 rcases g with ⟨kvs,k,e,_,_⟩|⟨kvs,k,b,e,_,_,_⟩
 ·obtain ⟨_,_,vs,_,dd⟩:=wI I.hok e
  exact dd.typeIs
 ·obtain ⟨_,_,xs,_,dd⟩:=mr I.hok e
  exact dd.typeIs
def DA (td ty tv:TE):TS:=λD U H=>tv U H λv H1=>td U H1 λx H2=>ty U H2 λy H3=>∃a H4,x=.ref a/\eE H3 a y v H4/\D.nx U H4
section
variable {X:Cx} {o i value:Expr} {pos pos':Pos} {td ty tv:TE}
def DB (hu:X.A.units+1<cLine) (ho:PE X o td) (hi:PE X i ty) (hv:PE X value tv) (hs:swapsWith value (some (.Subscript o i pos')) pos.line X.env=pure false) :
  PS X (.Assign [.Subscript o i pos'] value pos) (DA td ty tv):=by
 intro pins s U H D I h
 refine wpAny_Assign_Subscript (aI (hv pins s U H _ I h) λr s1 ⟨v,H1,I1,rv,q1⟩=>aI (ho pins s1 U H1 _ I1 q1) λu s2 ⟨x,H2,I2,rx,q2⟩=>aI (hi pins s2 U H2 _ I2 q2) λiv s3 gg=>?_) hs
 obtain ⟨y,H3,I3,ry,a,H4,ex,g,q3⟩:=gg
 subst ex
 obtain rfl:u=Value.ref a:=rx
 exact Dy hu I3 g ry rv λs4 I4=>⟨U,H4,I4,q3⟩
end
def o9 {P:Program} {w:World} {H:Hp} (h:Heap) (hb:sysModules<h.objs.size):aM P w H (h.push { cls:=.type "dict", data:=.dict #[] }) h.objs.size (.dK []) :=
 ⟨y1 _,beq_eq_false_iff_ne.mpr (yS (yx hb)),[],.nil,Heap.DictOf.new h⟩
def DC:TE:=λ_ H Q=>∀p,H p=none->Q (.ref p) (upd H p (.dK []))
section
variable {X:Cx} {pos:Pos}
def DD:PE X (.Dict [] [] pos) DC:=λpins s U H Q I h =>
 wpAny_Dict_empty ⟨.ref s.heap.objs.size,_,I.laid (a:=s.heap.objs.size) (o:=.dK []) (t':=s.toks) (λ_ _ q=>zU _ q) (zG _) (o9 s.heap I.big),rfl,h _ (I.hok.fresh (zG _))⟩
end
def hV:List (TE×TE)->St->Hp->(List (V×V)->Hp->Prop)->Prop
 |[],_,H,Q=>Q [] H
 | (tk,tv)::r,U,H,Q=>tk U H λx H1=>tv U H1 λy H2=>hV r U H2 λps H3=>Q ((x,y)::ps) H3
abbrev VV:List (V×V)->List (Value×Value)->Prop:=Paired λp q=>RelV p.1 q.1/\RelV p.2 q.2
def gv (X:Cx) (pos:Pos) (keys:List (Option Expr)) (values:List Expr) (trs:List (TE×TE)):Prop :=
 ∀(pins:Ac) (s:Shared) (U:St) (H:Hp) (Q:List (V×V)->Hp->Prop),Inv X pins U H s->hV trs U H Q ->
  wpAny (model X.prog X.w) X.A (evalPairs (pairTrees keys values X.env pos)) (λvs s'=>∃ps H',Inv X pins U H' s'/\VV ps vs/\Q ps H') X.xe s
def sZ {X:Cx}{pos:Pos}:gv X pos [] [] []:=λpins s U H Q I h=>pairTrees_nil_walk ⟨[],H,I,.nil,h⟩
def s8 {X:Cx}{pos:Pos}{k v:Expr}{ks:List (Option Expr)}{vs:List Expr}{tk tv:TE}{trs:List (TE×TE)}(hk:PE X k tk) (hv:PE X v tv) (hr:gv X pos ks vs trs) :
  gv X pos (some k::ks) (v::vs) ((tk,tv)::trs):=λpins s U H Q I h =>
 pairTrees_cons_walk (aI (hk pins s U H _ I h) λu s1 ⟨x,H1,I1,rx,q1⟩=>aI (hv pins s1 U H1 _ I1 q1) λw2 s2 ⟨y,H2,I2,ry,q2⟩ =>
  aI (hr pins s2 U H2 _ I2 q2) λws s3 ⟨ps,H3,I3,rel,q3⟩=>⟨(x,y)::ps,H3,I3,.cons ⟨rx,ry⟩ rel,q3⟩)
def cE (kvs more:List (Key×V)):List (Key×V):=more.foldl (λacc kv=>putK acc kv.1 kv.2) kvs
def KV.merge:∀{more:List (Key×V)}{rs:List (Key×Value)}{kvs:List (Key×V)}{vs:List (Key×Value)},KV more rs->KV kvs vs->KV (cE kvs more) (merged vs rs):=by
 intro more rs kvs vs r
 unfold KV at r
 induction r generalizing kvs vs with
 |nil=>intro q;exact q
 |@cons p q ps qs h t ih =>
  intro r0
  have e:KV (putK kvs p.1 p.2) (stored vs q.1 q.2):=by
   have:=r0.put p.1 h.2
   rw [<-h.1];exact this
  exact ih e
theorem s9:∀(more kvs:List (Key×V)),(cE kvs more).length<=kvs.length+more.length
 |[],kvs=>by show kvs.length<=kvs.length+0;omega
 |p::r,kvs=>by
  have h1:=s9 r (putK kvs p.1 p.2)
  have h2:=oY kvs p.1 p.2
  show (cE (putK kvs p.1 p.2) r).length<=_
  rw [jM];omega
theorem tf {P:Program}{w:World}:∀{kvs:List (Key×V)}{ws:List (Value×Value)},VV (kvs.map λkv=>(kV kv.1,kv.2)) ws->∃rs,Carries (av P w) ws rs/\KV kvs rs
 |[],_,r=>by rw [List.map_nil] at r;cases r;exact ⟨[],True.intro,.nil⟩
 |p::kvs,_,r=>by
  rw [ym] at r
  cases r with
  |@cons a b as bs h t =>
   obtain ⟨rs,c,q⟩:=tf (P:=P) (w:=w) t
   obtain ⟨b1,b2⟩:=b
   exact ⟨(p.1,b2)::rs,⟨kq h.1,rfl,c⟩,.cons ⟨rfl,h.2⟩ q⟩
def DE (trs:List (TE×TE)):TE:=λU H Q=>∀p,H p=none->hV trs U (upd H p (.dK [])) λps H2=>H2 p=some (.dK [])/\∃kvs:List (Key×V),ps=kvs.map (λkv=>(kV kv.1,kv.2))/\kvs.length<=15/\Q (.ref p) (upd H2 p (.dK (cE [] kvs)))
def tj {X:Cx}{pos:Pos}{keys:List (Option Expr)}{values:List Expr}{trs:List (TE×TE)}(h:gv X pos keys values trs) (cT:keys.all (·.isSome)=true) (hl:keys.length=values.length) (h0:keys≠[])
  (fj:keys.length<=15):PE X (.Dict keys values pos) (DE trs):=by
 intro pins s U H Q I q
 have hn:=I.hok.fresh (zG s.heap.objs.size)
 have I1:=I.laid (a:=s.heap.objs.size) (o:=.dK []) (h':=s.heap.push { cls:=.type "dict", data:=.dict #[] }) (t':=s.toks) (λ_ _ q=>zU _ q) (zG _) (o9 s.heap I.big)
 refine wpAny_Dict_walk (knd:=av X.prog X.w) cT hl h0 fj (aI (h pins _ U _ _ I1 (q _ hn)) λws s2 gg=>?_)
 obtain ⟨ps,H2,I2,rel,e,kvs,ep,lk,q2⟩:=gg
 subst ep
 obtain ⟨rs,c,rk⟩:=tf (P:=X.prog) (w:=X.w) rel
 obtain ⟨z,hd,DF,r0,dd⟩:=o8 I2.hok e
 cases r0
 refine ⟨rs,c,dd,λh' fP hs=>⟨.ref s.heap.objs.size,_,?_,rfl,q2⟩⟩
 have hz:(cE [] kvs).length<=sizeLine:=by
  have h1:=s9 kvs []
  rw [List.length_nil] at h1
  rw [sizeLine_eq];omega
 have he:∃q,h'.get? s.heap.objs.size=some q:=let ⟨q,_,_,hq,_⟩:=fP;⟨q,hq⟩
 exact mv I2 (by rw [e];exact True.intro) hs he (sY hz hd (rk.merge .nil) fP)
structure M1 (X:Cx) (o:Expr) (m:Str) (apos:Pos) (e:Expr) (aO:Pos):Prop where
 base:attributeBase o m X.env (eval o X.env)=eval o X.env
 few:((backTo aO (starEach [e] X.env)).all (λx=>!x.1)&&(backToKw aO (keywordEach [] X.env)).all (λx=>x.1.isSome)
  && decide (([e]:List Expr).length+([]:List Keyword).length+(if ([]:List Keyword).isEmpty then 0 else 1)<30))=true
 line:(apos.endLine==aO.line)=true
 trees:backTo aO (starEach [e] X.env)=[(false,eval e X.env)]
structure M2 (X:Cx) (o:Expr) (m:Str) (apos:Pos) (e f:Expr) (aO:Pos):Prop where
 base:attributeBase o m X.env (eval o X.env)=eval o X.env
 few:((backTo aO (starEach [e,f] X.env)).all (λx=>!x.1)&&(backToKw aO (keywordEach [] X.env)).all (λx=>x.1.isSome)
  && decide (([e,f]:List Expr).length+([]:List Keyword).length+(if ([]:List Keyword).isEmpty then 0 else 1)<30))=true
 line:(apos.endLine==aO.line)=true
 trees:backTo aO (starEach [e,f] X.env)=[(false,eval e X.env),(false,eval f X.env)]
def XO (h:Heap) (a:Addr) (C:Value) (d:Option Addr) (head:Value):Prop :=
 ∃oe vs,h.get? a=some oe/\oe.cls=C/\oe.dict=d/\oe.data=.fields vs/\vs.size=6/\vs[1]?=some head
def TB (h:Heap) (T:Addr) (fl:Value):Prop:=∃oT ts,h.get? T=some oT/\oT.data=.fields ts/\ts[3]?=some fl
def DG (o:Obj) (f):(o.mapFields f).dict=o.dict:=by
 obtain ⟨c,d,dt,sl⟩:=o
 cases dt<;>rfl
def XO.keeps {h h':Heap}{a:Addr}{C:Value}{d:Option Addr}{head:Value}(x:XO h a C d head) (k:∀o,h.get? a=some o->h'.get? a=some o):XO h' a C d head:=by
 obtain ⟨oe,vs,e,r⟩:=x
 exact ⟨oe,vs,k _ e,r⟩
def TB.keeps {h h':Heap}{T:Addr}{fl:Value}(x:TB h T fl) (k:∀o,h.get? T=some o->h'.get? T=some o):TB h' T fl:=by
 obtain ⟨oT,ts,e,r⟩:=x
 exact ⟨oT,ts,k _ e,r⟩
def XO.set1 {h:Heap}{a:Addr}{C:Value}{d:Option Addr}{head:Value}(x:XO h a C d head) (u:Value):XO (h.update a (Obj.mapFields (·.setIfInBounds 1 u))) a C d u:=by
 obtain ⟨oe,vs,e,hc,mw,hd,hz,h1⟩:=x
 have eX:=Obj.data_mapFields hd (·.setIfInBounds 1 u)
 refine ⟨_,_,Heap.get?_update_self _ e (Obj.isFreed_of_fields eX),(Obj.cls_mapFields _ _).trans hc,(DG _ _).trans mw,eX,?_,?_⟩
 ·rw [Array.size_setIfInBounds];exact hz
 ·have:1<vs.size:=by omega
  simp [this]
def TB.set3 {h:Heap}{T:Addr}{fl:Value}(x:TB h T fl) (u:Value):TB (h.update T (Obj.mapFields (·.setIfInBounds 3 u))) T u:=by
 obtain ⟨oT,ts,e,hd,h3⟩:=x
 have eX:=Obj.data_mapFields hd (·.setIfInBounds 3 u)
 refine ⟨_,_,Heap.get?_update_self _ e (Obj.isFreed_of_fields eX),eX,?_⟩
 have:3<ts.size:=(Array.getElem?_eq_some_iff.mp h3).1
 simp [this]
section
variable {M:Model} {A:Around} {E:Aa} {s:Shared} {base:Heap} {env:Env} {outer:List Env} {L a:Addr} {C:Value} {d:Option Addr} {head:Value} {Q:Unit->Shared->Prop}
def tm {b2:Bool}(dj:A.frames=some (env::outer)) (hl:s.heap.FunFrames base (env::outer)) (hf:env.frame=some L) (x:XO s.heap a C d head)
  (h:∀h' T,s.heap.objs.size<=T->XO h' a C d (.ref T)->TB h' T (rawInt L)->(∀b o,b≠a->b∉bU (env::outer)->s.heap.get? b=some o->h'.get? b=some o) ->
   (∀b o,b≠a->b∈bU (env::outer)->s.heap.get? b=some o->∃sl,h'.get? b=some { o with slots:=sl })->Q () { s with heap:=h' }) :
  wpAny M A (do let fr <-frameOf env;let pl <-entryPlaceOf L b2;let tb <-EntryCells.newEntry head fr .none (rawInt L) .none pl;setField (.ref a) 1 tb) Q E s:=by
 obtain ⟨oe,vs,e,hc,mw,hd,hz,h1⟩:=id x
 have aN:a∉bU (env::outer):=λhm=>by
  obtain ⟨_,o,ho,nf⟩:=hl.mem hm
  rw [e] at ho
  cases ho
  exact nf vs hd
 refine zf (wpAny_frameOf_fun dj hl hf λg1 mx=>zf (wpAny_entryPlaceOf λpl tq=>?_))
 unfold EntryCells.newEntry newFields
 refine zf (jd ?_ (tq.sizeOk5 _ _ _ _ _))
 have x1:XO g1 a C d head:=⟨oe,vs,(mx.2.1 a aN).trans e,hc,mw,hd,hz,h1⟩
 generalize hob:({ cls:=.type "traceback", dict:=none,data:=.fields ([head,.ref L,.none,rawInt L,.none]++(if pl.isEmpty then List.replicate 6 Value.none else pl)).toArray }:Obj)=ob
 have x2:XO (g1.push ob) a C d head:=x1.keeps λo q=>zU _ q
 obtain ⟨Jm,fQ,e2,_,_,hd2,Jn,_⟩:=id x2
 refine wpAny_setField e2 hd2 (by omega) ?_
 have aT:g1.objs.size≠a:=λz=>by
  obtain ⟨_,_,q,_⟩:=x1
  have:=zP q
  rw [<-z] at this
  exact Nat.lt_irrefl _ this
 have tu:s.heap.objs.size<=g1.objs.size:=Nat.le_of_eq mx.1.symm
 refine h _ g1.objs.size tu (x2.set1 _) ?_ (λb o nb nf q=>?_) (λb o nb nf q=>?_)
 ·have t0:TB (g1.push ob) g1.objs.size (rawInt L):=by
   refine ⟨ob,_,yw _ (by rw [<-hob];rfl),by rw [<-hob],?_⟩
   rcases tq with rfl|⟨_,_,_,_,_,_,_,rfl⟩<;>simp
  exact t0.keeps λo q=>(jV _ _ (yS aT)).trans q
 ·exact (jV _ _ (yS nb)).trans (zU _ ((mx.2.1 b nf).trans q))
 ·obtain ⟨sl,z⟩:=mx.2.2 b o q
  exact ⟨sl,(jV _ _ (yS nb)).trans (zU _ z)⟩
def DH (dj:A.frames=some (env::outer)) (hl:s.heap.FunFrames base (env::outer)) (hf:env.frame=some L) (x:XO s.heap a C d head)
  (ht:head=.none\/∃T0,head=.ref T0/\T0≠a/\TB s.heap T0 .none)
  (h:∀h' T,s.heap.objs.size<=T->XO h' a C d (.ref T)->TB h' T (rawInt L)->(∀b o,b≠a->.ref b≠head->b∉bU (env::outer)->s.heap.get? b=some o->h'.get? b=some o) ->
   (∀b o,b∈bU (env::outer)->s.heap.get? b=some o->∃sl,h'.get? b=some { o with slots:=sl })->Q () { s with heap:=h' }) :
  wpAny M A (noteFrame (.ref a) env) Q E s:=by
 obtain ⟨oe,vs,e,hc,mw,hd,hz,h1⟩:=id x
 have aN:a∉bU (env::outer):=λhm=>by
  obtain ⟨_,o,ho,nf⟩:=hl.mem hm
  rw [e] at ho
  cases ho
  exact nf vs hd
 unfold noteFrame
 simp only [hf]
 refine zf (jz e hd h1 ?_)
 rcases ht with rfl|⟨T0,rfl,nT,t0⟩
 ·rw [zt (by decide)]
  exact tm dj hl hf x λh' T k1 k2 k3 k4 k5=>h h' T k1 k2 k3 (λb o nb _ nf q=>k4 b o nb nf q) λb o hb q=>k5 b o (λz=>aN (z▸hb)) hb q
 ·obtain ⟨oT,ts,eT,hdT,h3⟩:=id t0
  have TN:T0∉bU (env::outer):=λhm=>by
   obtain ⟨_,o,ho,nf⟩:=hl.mem hm
   rw [eT] at ho
   cases ho
   exact nf ts hdT
  rw [zu (show (Value.ref T0 != Value.none)=true from by simp)]
  refine zf (jz eT hdT h3 ?_)
  rw [zt (show ¬((Value.none==rawInt L)=true) from by simp [rawInt])]
  refine zf (wpAny_setField eT hdT (Array.getElem?_eq_some_iff.mp h3).1 ?_)
  have my:∀b,b≠T0->(s.heap.update T0 (Obj.mapFields (·.setIfInBounds 3 Value.none))).get? b=s.heap.get? b:=λb hb=>jV _ _ (yS hb)
  refine tm (s:={ s with heap:=s.heap.update T0 (Obj.mapFields (·.setIfInBounds 3 Value.none)) }) dj (hl.of_keeps λb o hb nf=>⟨o,(my b λq=>?_).trans hb,rfl⟩) hf (x.keeps λo q=>(my a (yS nT)).trans q) λh' T k1 k2 k3 k4 k5 =>
   h h' T (by simpa using k1) k2 k3 (λb o nb nh nf q=>k4 b o nb nf ((my b λz=>nh (by rw [z])).trans q)) λb o hb q=>k5 b o (λz=>aN (z▸hb)) hb ((my b λz=>TN (z▸hb)).trans q)
  rw [q,eT] at hb
  cases hb
  exact nf ts hdT
def DI {T:Addr}{fl:Value}(x:XO s.heap a C d (.ref T)) (t:TB s.heap T fl) (ne:T≠a)
  (h:∀h',XO h' a C d (.ref T)->TB h' T .none->(∀b o,b≠T->s.heap.get? b=some o->h'.get? b=some o)->h'.objs.size=s.heap.objs.size->Q () { s with heap:=h' }):wpAny M A (setFlight (.ref a) none) Q E s:=by
 obtain ⟨oe,vs,e,_,_,hd,_,h1⟩:=id x
 obtain ⟨oT,ts,eT,hdT,h3⟩:=id t
 unfold setFlight
 refine zf (jz e hd h1 ?_)
 rw [zu (show (Value.ref T != Value.none)=true from by simp)]
 refine wpAny_setField eT hdT (Array.getElem?_eq_some_iff.mp h3).1 ?_
 exact h _ (x.keeps λo q=>(jV _ _ ne).trans q) (t.set3 _) (λb o nb q=>(jV _ _ (yS nb)).trans q) (by simp)
end
def aX (X:Cx) (pins:Ac) (H:Hp) (b:Addr):Prop :=
 H b=none/\X.s₀.heap.objs.size<=b/\b≠X.env.locals/\(∀x c,X.env.cells.lookup x=some c->c≠b)/\∀p∈X.pn++pins,p.1≠b
def aX.new {X:Cx}{pins:Ac}{U:St}{H H':Hp}{s:Shared}{b:Addr}(I:Inv X pins U H s) (hb:s.heap.objs.size<=b) (hn:H' b=none):aX X pins H' b:=by
 obtain ⟨f0,f1,f2,f3,f4,f5⟩:=I.fpOk (H':=H') hb hn
 exact ⟨hn,yL I.sz hb,f1,f4,f5⟩
def mz (X:Cx) (pins:Ac) (H:Hp) (h:Heap) (a C:Addr) (d:Option Addr):Prop :=
 ∃head,XO h a (.ref C) d head/\aX X pins H a/\(head=.none\/∃T,head=.ref T/\T≠a/\TB h T .none/\aX X pins H T)
def Throws (X:Cx) (E:XK):Prop:=∀(pins:Ac) (U:St) (H:Hp) (s:Shared) (a C:Addr) (d:Option Addr),Inv X pins U H s->mz X pins H s.heap a C d->E (.ref C) d H->X.xe (.ref a) s
def bT (P:Program) (w:World):de:=λouter H s E e s'=>∃(a C T:Addr) (d:Option Addr) (H':Hp),e=.ref a/\s'.os=s.os/\AllBare s'.gens/\Un (bU outer) [] H H' s.heap s'.heap/\bq P w H' s'.heap /\
 XO s'.heap a (.ref C) d (.ref T)/\T≠a/\TB s'.heap T .none/\(s.heap.objs.size<=a/\H' a=none)/\(s.heap.objs.size<=T/\H' T=none)/\E (.ref C) d H'
def DJ {X:Cx}{E:XK}(t:Throws X E):Passes (bT X.prog X.w) X E:=by
 rintro pins U H s e s' I ⟨a,C,T,d,H',rfl,os,bare,un,hok,x,ne,tb,⟨a1,a2⟩,⟨t1,t2⟩,q⟩
 have I':Inv X pins U H' s':=I.call' (ch:=[]) os un hok bare λb z=>absurd z (by simp)
 exact t pins U H' s' a C d I' ⟨_,x,aX.new I a1 a2,.inr ⟨T,rfl,ne,tb,aX.new I t1 t2⟩⟩ q
def eF (a:Addr):Value->Ae
 |.ref T0=>[a,T0]
 |_=>[a]
def tD (a:Addr) (v:Value):a∈eF a v:=by cases v<;>simp [eF]
def tE (a T0:Addr):T0∈eF a (.ref T0):=by simp [eF]
section
variable {X:Cx} {pins:Ac} {U:St} {H:Hp} {s:Shared} {a C:Addr} {d:Option Addr} {A:Around} {E:Aa} {Q:Unit->Shared->Prop}
def DK (I:Inv X pins U H s) (dj:A.frames=some X.stack) (dB:X.stack=X.env::X.outer) (hf:X.env.frame=some X.env.locals) (F:mz X pins H s.heap a C d)
  (h:∀s' T,Inv X pins U H s'->XO s'.heap a (.ref C) d (.ref T)->T≠a->TB s'.heap T (rawInt X.env.locals)->aX X pins H a->aX X pins H T->Q () s'):wpAny (model X.prog X.w) A (noteFrame (.ref a) X.env) Q E s:=by
 obtain ⟨head,x,oa,ht⟩:=F
 have hl:s.heap.FunFrames X.base (X.env::X.outer):=dB▸I.stack
 have tF:A.frames=some (X.env::X.outer):=dj.trans (congrArg some dB)
 have tG:bU (X.env::X.outer)=X.env.locals::X.fs:=by
  unfold bU
  rw [List.filterMap_cons,hf]
  rfl
 have eZ:∀b∈X.env.locals::X.fs,H b=none:=λb hb=>I.stkFree b (by rw [dB,tG];exact hb)
 have o_:∀b u,H b=some u->Value.ref b≠head:=λb u e z=>by
  rcases ht with rfl|⟨T0,rfl,_,_,r⟩
  ·cases z
  ·cases z
   rw [r.1] at e
   cases e
 refine DH tF hl hf x (ht.imp id λ⟨T0,e1,e2,e3,_⟩=>⟨T0,e1,e2,e3⟩) λh' T k1 k2 k3 k4 k5=>?_
 rw [tG] at k4 k5
 have oT:aX X pins H T:=aX.new I k1 (I.hok.fresh k1)
 have neT:T≠a:=λz=>by
  obtain ⟨_,_,e,_⟩:=x
  have:=zP e
  rw [<-z] at this
  exact Nat.lt_irrefl _ (yR this k1)
 refine h { s with heap:=h' } T ?_ k2 neT k3 oa oT
 refine I.step (g':=s.gens) (t':=s.toks) (d':=s.drawn) (ch:=eF a head) (λb hb=>?_) (λb o n1 n2 n3 e n=>k4 b o (λz=>n3 ?_) (λz=>n3 ?_) (λz=>(yt.mp z).elim n1 n2) e)
  (λb o n1 n2 n3 e n=>k5 b o (yF _ n2) e) (λ_ _ _ _ n=>n) (λb o n3 e=>?_) (λ_ _ e=>e) (λ_ _ _ e=>e) (λb ps e=>⟨#[],by rw [e];simp⟩) (λm hm=>?_) (λb u e=>?_) I.bare
 ·have own:aX X pins H b:=by
   rcases ht with rfl|⟨T0,rfl,_,_,r⟩
   ·have z:b=a:=by simpa [eF] using hb
    rw [z];exact oa
   ·have z:b=a\/b=T0:=by simpa [eF] using hb
    rcases z with z|z
    ·rw [z];exact oa
    ·rw [z];exact r
  exact ⟨.inr own.2.1,own.2.2.1,own.2.2.2.1,own.2.2.2.2⟩
 ·rw [z]
  exact tD a head
 ·rw [<-z]
  exact tE a b
 ·by_cases hb:b∈X.env.locals::X.fs
  ·obtain ⟨sl,z⟩:=k5 b o hb e
   exact ⟨_,z⟩
  ·exact ⟨o,k4 b o (λz=>n3 (by rw [z];exact tD a head)) (λz=>n3 (by rw [<-z];exact tE a b)) hb e⟩
 ·obtain ⟨o,es,ep,ho,r⟩:=hm
  obtain ⟨sl,z⟩:=k5 _ o yr ho
  exact ⟨_,es,ep,z,r⟩
 ·refine (I.hok b u e).stay (λc v hc q=>?_) (λ_ q=>q) λ_ _ q=>q
  have tr:∃u',H c=some u':=by
   rcases hc with z|z
   ·exact ⟨u,by rw [z];exact e⟩
   ·exact ⟨_,z⟩
  obtain ⟨u',eu⟩:=tr
  exact k4 c v (λz=>by rw [z,oa.1] at eu;cases eu) (o_ c u' eu) (λz=>by rw [eZ c z] at eu;cases eu) q
def DL {T:Addr}{fl:Value}(I:Inv X pins U H s) (x:XO s.heap a (.ref C) d (.ref T)) (ne:T≠a) (tb:TB s.heap T fl) (oa:aX X pins H a) (oT:aX X pins H T)
  (h:∀s',Inv X pins U H s'->XO s'.heap a (.ref C) d (.ref T)->TB s'.heap T .none->Q () s'):wpAny (model X.prog X.w) A (setFlight (.ref a) none) Q E s:=by
 refine DI x tb ne λh' k1 k2 k3 _=>h { s with heap:=h' } ?_ k1 k2
 exact I.turned (t':=s.toks) (it:=T) (λb o nb e=>k3 b o nb e) oT.1 oT.2.2.1 (.inr oT.2.1) oT.2.2.2.1 oT.2.2.2.2
end
section
variable {P:Program} {w:World} {K:PySem.W.Frag} {mg:Ab} {base:Heap}
def cK.okX {x qual:Str}{st:Stmt}{f:Addr}{fd:FuncData}{N ps:Ad}{k:Nat}{sp:Sp}(F:cK K x qual st f fd) (S:aJ N ps (zC st)) (len:∀vs H Q E,sp vs H Q E->vs.length=ps.length)
  (df:∀(aQ:Value) (A:Around) (outer:List Env) (s:Shared) (H:Hp) (vs:List V) (Q:VK) (E:XK),bh k (A.deeper (envOfC qual (zC st) s.heap.objs.size f aQ))->sp vs H Q E ->
   ∃t,bG (cy (bT P w) P w K mg base N qual (zC st) f aQ A outer s H E) (y3 st) t/\t { nx:=λ_ H'=>Q .non H',rt:=Q } (start N vs) H):a_ P w K mg base (bT P w) (k+1) f fd ps sp:=by
 obtain ⟨oc,od,kV,doc,pm,an,aQ,ct,dW,rfl,lk,dA⟩:=F.ex
 exact se lk dA S len λA outer s H vs Q E hr dX=>df aQ A outer s H vs Q E hr dX
end
end L2
namespace L2
open PySem PySem.Spec PyProof.Rows PySem.W PySem.Builtin PySem.Builtin.ObjectAttr
def fR:List Value->Bool
 |[.type a,.type b,.type c,.type d]=>a == "ValueError" && b == "Exception" && c == "BaseException" && d == "object"
 |.ref _::r=>fR r
 |_=>false
def mD (K:Frag) (C:Addr):Bool:=(clsIn K C).any λcd=>fR cd.mro
def mF (C t:Addr) (d:Option Addr) (a:Addr):HO:=.ext λ_ _ h=>h.get? a=some { cls:=.ref C,dict:=d,data:=.fields #[.ref t,.none,.none,.none,.bool false,.none] }
structure gw (K:PySem.W.Frag) (C:Addr) (f:Str):Prop where
 sa:PySem.W.findIn K (.ref C) "__setattr__" = some (some (.builtin "object.__setattr__"))
 line:mD K C=true
 no:PySem.W.takerIn K C f=some none
 hd:PySem.W.hasDictIn K C=true
def DN (K:PySem.W.Frag) (ta tv:TE) (f:Str):TS:=λD U H=>tv U H λy H1=>ta U H1 λx H2=>∃a C t,x=.ref a/\H2 a=some (mF C t none a)/\gw K C f /\
 ∀d,H2 d=none->D.nx U (upd (upd H2 d (.xd [(f,y)])) a (mF C t (some d) a))
abbrev gR:Af:=[.type "ValueError", .type "Exception", .type "BaseException", .type "object"]
structure tH (K:Frag) (C:Addr):Prop where
 ob:∃nm q N bs bm eU sn sub ab col dd k0 k1 k2 k3 k5,K.lookup C=some (excClassObj nm q C N bs bm eU sn sub ab col dd k0 k1 k2 k3 k5 "ValueError.__new__")/\tailIn K gR bm=true/\nsOkIn K N=true
 kp:keepIn K (.ref C)=true
structure nW (K:Frag) (C f:Addr):Prop where
 ob:∃nm q N bs bm eU sn sub ab col dd k0 k1 k2 k3 k5,K.lookup C=some (excClassObj nm q C N bs bm eU sn sub ab col dd k0 k1 k2 k3 k5 "ValueError.__new__")/\tailIn K gR bm=true/\nsOkIn K N=true/\nsIn K N "__init__" = some (some (.ref f))
 fn:isFn K (.ref f)=true
 kp:keepIn K (.ref C)=true
section
variable {f C:Addr}
def DO (C:Addr) (f:Str):Sp:=λvs H Q _=>∃a t y,vs=[.ref a,y]/\H a=some (mF C t none a)/\∀d,H d=none->Q .non (upd (upd H d (.xd [(f,y)])) a (mF C t (some d) a))
end
def XP (X:Cx) (pins:Ac) (U:St) (E:XK) (u:Value) (s':Shared):Prop:=∃(a C:Addr) (d:Option Addr) (H':Hp),u=.ref a/\Inv X pins U H' s'/\mz X pins H' s'.heap a C d/\E (.ref C) d H'
abbrev TX:=St->Hp->VK->XK->Prop
def ku (C:Addr) (d:Option Addr) (a:Addr):HO:=.ext λ_ _ h=>∃T:Addr,XO h a (.ref C) d (.ref T)
end L2
namespace L2
open PySem PySem.Spec PyProof.Rows PySem.W
def pd (X:Cx) (pins:Ac) (H:Hp) (h:Heap) (a C:Addr) (d:Option Addr):Prop :=
 ∃T,XO h a (.ref C) d (.ref T)/\T≠a/\TB h T (rawInt X.env.locals)/\aX X pins H a/\aX X pins H T
def pf (X:Cx) (pins:Ac) (H:Hp) (h:Heap) (a C:Addr) (d:Option Addr):Prop:=mz X pins H h a C d\/pd X pins H h a C d
def wo (X:Cx) (E:XK):Prop:=∀(pins:Ac) (U:St) (H:Hp) (s:Shared) (a C:Addr) (d:Option Addr),Inv X pins U H s->pf X pins H s.heap a C d->E (.ref C) d H->X.xe (.ref a) s
def wo.one {X:Cx}{E:XK}(t:wo X E):Throws X E:=λpins U H s a C d I F q=>t pins U H s a C d I (.inl F) q
def XA (X:Cx) (Er:XK) (e:Value) (s:Shared):Prop:=∃(pins:Ac) (U:St) (H:Hp) (a C:Addr) (d:Option Addr),e=.ref a/\Inv X pins U H s/\pf X pins H s.heap a C d/\Er (.ref C) d H
section
variable {X:Cx} {pins:Ac} {U:St} {H:Hp} {s:Shared} {a C:Addr} {d:Option Addr} {A:Around} {E:Aa} {Q:Unit->Shared->Prop} {Er:XK}
def ya:wo (X.wish (XA X Er)) Er:=λpins U H s a C d I F q=>⟨pins,U,H,a,C,d,rfl,I.unwish,F,q⟩
def tI (I:Inv X pins U H s) (dj:A.frames=some X.stack) (dB:X.stack=X.env::X.outer) (hf:X.env.frame=some X.env.locals) (F:pf X pins H s.heap a C d)
  (h:∀s' T,Inv X pins U H s'->XO s'.heap a (.ref C) d (.ref T)->T≠a->TB s'.heap T (rawInt X.env.locals)->aX X pins H a->aX X pins H T->Q () s'):wpAny (model X.prog X.w) A (noteFrame (.ref a) X.env) Q E s:=by
 rcases F with F|⟨T,x,ne,tb,oa,oT⟩
 ·exact DK I dj dB hf F h
 ·obtain ⟨oe,vs,e,_,_,hd,_,h1⟩:=id x
  obtain ⟨ot,ts,et,DP,h3⟩:=id tb
  unfold noteFrame
  simp only [hf]
  refine zf (jz e hd h1 ?_)
  rw [zu (show (Value.ref T != Value.none)=true by simp)]
  refine zf (jz et DP h3 ?_)
  rw [zu (by simp)]
  exact zn (h s T I x ne tb oa oT)
def DQ {T f:Addr}{fl:Value}(x:XO s.heap a (.ref C) d (.ref T)) (t:TB s.heap T fl) (ne:T≠a)
  (h:∀h',XO h' a (.ref C) d (.ref T)->TB h' T (rawInt f)->(∀b o,b≠T->s.heap.get? b=some o->h'.get? b=some o)->Q () { s with heap:=h' }) {M:Model}:wpAny M A (setFlight (.ref a) (some f)) Q E s:=by
 obtain ⟨oe,vs,e,_,_,hd,_,h1⟩:=id x
 obtain ⟨oT,ts,eT,hdT,h3⟩:=id t
 unfold setFlight
 refine zf (jz e hd h1 ?_)
 rw [zu (show (Value.ref T != Value.none)=true by simp)]
 refine wpAny_setField eT hdT (Array.getElem?_eq_some_iff.mp h3).1 ?_
 exact h _ (x.keeps λo q=>(jV _ _ ne).trans q) (t.set3 _) λb o nb q=>(jV _ _ (yS nb)).trans q
def tJ (dB:X.stack=X.env::X.outer) (hf:X.env.frame=some X.env.locals):PassesOwn (model X.prog X.w) X.A X.env (XA X Er):=by
 rintro e s ⟨pins,U,H,a,C,d,rfl,I,F,q⟩
 unfold notedBy
 refine tI I I.ok.frames dB hf F λs2 T I2 x2 ne DR oa oT=>?_
 unfold cameBackBy
 obtain ⟨oe,vs,e2,_,_,hd,_,h1⟩:=id x2
 refine zf (jz e2 hd h1 ?_)
 rw [zt (show ¬((Value.ref T==Value.none)=true) by simp),hf]
 refine DQ x2 DR ne λh' x3 ph k3=>⟨pins,U,H,a,C,d,rfl,?_,.inr ⟨T,x3,ne,ph,oa,oT⟩,q⟩
 exact I2.turned (t':=s2.toks) (it:=T) (λb o nb e=>k3 b o nb e) oT.1 oT.2.2.1 (.inr oT.2.1) oT.2.2.2.1 oT.2.2.2.2
def bG.throwing {st:List Stmt}{t:TS}(h:bG (X.wish (XA X Er)) st t) (ht:wo X Er):bG X st t:=λpins s U H D I hw =>
 yE (h pins s U H D (I.wish _) hw) (λ_ _ q=>q.unwish) λe s' ⟨pins,U,H,a,C,d,ee,I1,F,q⟩=>ee▸ht pins U H s' a C d I1 F q
def DS (t:wo X Er):Passes (bT X.prog X.w) X Er:=DJ t.one
end
def DT {P:Program}{w:World}{K:PySem.W.Frag}{mg:Ab}{base:Heap}{N:Ad}{qual:Str}{scope:Scope}{f:Addr}{cd:Value}{A:Around}{outer:List Env}{s:Shared}{H:Hp}{E:XK} :
  wo (cy (bT P w) P w K mg base N qual scope f cd A outer s H E) E:=by
 intro pins U H1 s1 a C d I F q
 show wpAny (model P w) (A.deeper (envOfC qual scope s.heap.objs.size f cd)) (leaving (envOfC qual scope s.heap.objs.size f cd) (.ref a)) _ _ s1
 unfold leaving
 refine zf (tI I I.ok.frames rfl rfl F λs2 T I2 x ne tb oa oT=>DL I2 x ne tb oa oT λs3 I3 x3 ph=>?_)
 exact ⟨a,C,T,d,H1,rfl,I3.os,I3.bare,I3.base,I3.hok,x3,ne,ph,⟨oa.2.1,oa.1⟩,⟨oT.2.1,oT.1⟩,q⟩
section
variable {P:Program} {w:World} {K:PySem.W.Frag} {mg:Ab} {base:Heap}
def cK.okT {x qual:Str}{st:Stmt}{f:Addr}{fd:FuncData}{N ps:Ad}{k:Nat}{sp:Sp}(F:cK K x qual st f fd) (S:aJ N ps (zC st)) (len:∀vs H Q E,sp vs H Q E->vs.length=ps.length)
  (df:∀(aQ:Value) (A:Around) (outer:List Env) (s:Shared) (H:Hp) (vs:List V) (Q:VK) (E:XK),bh k (A.deeper (envOfC qual (zC st) s.heap.objs.size f aQ))->sp vs H Q E ->
   ∃t,bG ((cy (bT P w) P w K mg base N qual (zC st) f aQ A outer s H E).wish (XA (cy (bT P w) P w K mg base N qual (zC st) f aQ A outer s H E) E)) (y3 st) t/\t { nx:=λ_ H'=>Q .non H',rt:=Q } (start N vs) H):a_ P w K mg base (bT P w) (k+1) f fd ps sp :=
 cK.okX F S len λaQ A outer s H vs Q E hr hs=>let ⟨t,h1,h2⟩:=df aQ A outer s H vs Q E hr hs;⟨t,bG.throwing h1 DT,h2⟩
end
end L2
namespace L2
open PySem PySem.Spec PyProof.Rows PySem.W PySem.Builtin PySem.Builtin.ObjectAttr
section
variable {K:Frag} {C:Addr}
structure nX (K:Frag) (C:Addr):Prop where
 ga:findIn K (.ref C) "__getattribute__" = some (some (.builtin "BaseException.__getattribute__"))
 hk:findIn K (.ref C) "__getattr__" = some none
 hB:mroIn K C (.type "BaseException")=some true
end
structure kx (K:Frag) (C:Addr):Prop where
 g:nX K C
 hd:hasDictIn K C=true
 ha:findIn K (.ref C) "__class__" = some (some (.builtin "object.__class__"))
 hn:specialIn K (.builtin "object.__class__") "__get__" = some (some (.builtin "getset_descriptor.__get__"))
 tk:takesIn K (.builtin "object.__class__")=some true
 hm:mroIn K C (.type "object")=some true
end L2
namespace L2
open PySem PySem.Spec PyProof.Rows PySem.W
structure Jo (prog:Program) (w:World) (it src:Addr) (xs:Array Value) (St:Nat->Heap->Prop):Prop where
 at_:∀{k h h'},St k h->(∀o,h.get? it=some o->h'.get? it=some o)->(∀o,h.get? src=some o->h'.get? src=some o)->St k h'
 lt:∀{k h},St k h->it<h.objs.size
 item:∀{A:Around} {E:Aa} {s:Shared} {k:Nat} {x:Value} {Q:Aa},St k s.heap->xs[k]?=some x->(∀h',St (k+1) h'->Heap.SameBut it s.heap h'->Q x { s with heap:=h' }) ->
  wpAny (model prog w) A (Builtin.SmallTypes.nextOf (.ref it)) Q E s
 stop:∀{A:Around} {E:Aa} {s:Shared} {k:Nat} {Q:Aa},A.handled=none->St k s.heap->xs[k]?=none ->
  (∀h' e,Heap.ExtBut it s.heap h'->(∃o,h'.get? e=some o/\o.cls=.type "StopIteration")->E (.ref e) { s with heap:=h' })->wpAny (model prog w) A (Builtin.SmallTypes.nextOf (.ref it)) Q E s
def tK (it t:Addr) (xs:Array Value) (k:Nat) (h:Heap):Prop:=IsTupIter h it t k/\IsTup h t xs
structure Jg (z TI TO i1 i2:Addr):Prop where
 TIz:TI≠z
 TOz:TO≠z
 i1z:i1≠z
 i2z:i2≠z
 TITO:TI≠TO
 TIi1:TI≠i1
 TIi2:TI≠i2
 TOi1:TO≠i1
 TOi2:TO≠i2
 i12:i1≠i2
structure KD (X:Cx) (a:Addr):Prop where
 ob:∃es n,X.K.lookup a=some ⟨.type "dict", none,.dict es n,#[]⟩/\KeysLit X.w.params es.toList
 no:(a==sysModules)=false
end L2
namespace Mi
open PySem L2 PySem.W
inductive PV where
 |non|bl (b:Bool)|int (i:Int)|str (x:Str)|ty (n:String)
 |tup (xs:List PV)|frl (xs:List PV)|ref (n:Nat)|fn (x:Str)|kd (ks:Ad) (xs:List PV)|exo (c:Str) (ks:Ad) (xs:List PV)
inductive OC where
 |non|tru|one|row (k:List Key)|mix (z:Str) (k:List Key)
inductive SO where
 |lst (xs:List PV)|dic (ks:Ad) (xs:List PV)|ins (c:Str) (ks:Ad) (xs:List PV)|fdi (ks:Ad) (xs:List PV)|dit (ks:List (List Key)) (xs:List PV)|odd (c:OC) (xs:List PV)|fod (c:OC) (xs:List PV)
abbrev aj:=List SO
inductive Res (α:Type) where
 |ok (a:α) (st:aj)|err (c:Str) (ks:Ad) (xs:List PV) (st:aj)|stuck
abbrev Mo (α:Type):=aj->Res α
noncomputable def Res.bind {α β:Type}:Res α->(α->Mo β)->Res β
 |.ok a st,f=>f a st
 |.err c ks xs st,_=>.err c ks xs st
 |.stuck,_=>.stuck
abbrev zc:=List (Option PV)
def DU (K:Frag) (a:Addr) (ks:Ad) (us:Af):Prop:=∀z,nsIn K a z=some ((ks.zip us).lookup z)
def eG (K:Frag) (H:Hp) (a:Addr) (vs:List V):Prop :=
 (∃o,H a=some (.frz o (.lst vs)))\/∃(o:Obj) (its:Array Value) (n:Nat),K.lookup a=some o/\o.cls=.type "list" /\ o.dict=none/\o.data=.seq its n/\its.size<=sizeLine/\Vals vs its.toList
def eG.sq {K:Frag}{H:Hp}{a:Addr}{vs:List V}(h:eG K H a vs):aS K H a vs:=by
 rcases h with ⟨o,h⟩|h
 ·exact .inl (.inr ⟨o,h⟩)
 ·exact .inr h
section
variable (K:Frag) (mg:Ab)
mutual
def R (ρ:Ae) (H:Hp):PV->V->Prop
 |.non,v=>v=.non
 |.bl b,v=>v=.bl b
 |.int i,v=>v=.int i
 |.str x,v=>v=.str x
 |.ty n,v=>v=.ty n
 |.tup xs,v=>∃a vs,v=.ref a/\bg K H a vs/\Rs ρ H xs vs
 |.frl xs,v=>∃a vs,v=.ref a/\eG K H a vs/\Rs ρ H xs vs
 |.ref n,v=>∃a,v=.ref a/\ρ[n]?=some a
 |.fn x,v=>∃f,v=.ref f/\mg x=some (.ref f)
 |.kd ks xs,v=>∃a us vs,v=.ref a/\DU K a ks us/\Vals vs us/\Rs ρ H xs vs
 |.exo c ks xs,v=>∃a C,v=.ref a/\mg c=some (.ref C)/\((ks=[]/\H a=some (ku C none a))\/∃d vs,H a=some (ku C (some d) a)/\H d=some (.xd (ks.zip vs))/\Rs ρ H xs vs/\ks.length=vs.length)
def Rs (ρ:Ae) (H:Hp):List PV->List V->Prop
 |[],vs=>vs=[]
 |x::xs,vs=>∃v r,vs=v::r/\R ρ H x v/\Rs ρ H xs r
end
def dE (a:Addr) (its:List (List Key×Addr×Value)):HO:=.ext λP w h=>its.length<=sizeLine/\(a==sysModules)=false /\
 ∃o es ep,h.get? a=some o/\o.ExactDict/\o.data=.dict es ep/\es.toList=its.map (entryOfKey (tupleKind (av P w)))/\(its.map (·.1)).Nodup
def dm (P:Program) (w:World) (b:Addr):OC->List Value->List DictEntry->Prop
 |.non,us,es=>∃u,us=[u]/\es=[⟨hashW w.params .none,.none,u⟩]
 |.tru,us,es=>∃u,us=[u]/\es=[⟨hashW w.params (.bool true),.bool true,u⟩]
 |.one,us,es=>∃u t,us=[u]/\es=[⟨(av P w).hash (.inl 1),.int 1 t,u⟩]
 |.row k,us,es=>∃u,us=[u]/\es=[⟨(tupleKind (av P w)).hash k,.ref b,u⟩]
 |.mix z k,us,es=>∃u u' t,us=[u,u']/\es=[⟨(av P w).hash (.inr z),.str z t,u⟩,⟨(tupleKind (av P w)).hash k,.ref b,u'⟩]
def oE (a:Addr) (c:OC) (b:Addr) (us:Af) (ep:Nat):HO:=.ext λP w h=>(a==sysModules)=false/\∃o es,h.get? a=some o/\o.ExactDict/\o.data=.dict es ep/\dm P w b c us es.toList
def hW (K:Frag) (H:Hp) (b:Addr):OC->Prop
 |.row k=>bg K H b (k.map kV)
 |.mix _ k=>bg K H b (k.map kV)
 |_=>True
def dn (ρ:Ae) (H:Hp):SO->Addr->Prop
 |.lst xs,a=>∃vs,H a=some (.lst vs)/\Rs K mg ρ H xs vs
 |.dic ks xs,a=>∃vs,H a=some (.dK ((ks.map Sum.inr).zip vs))/\Rs K mg ρ H xs vs/\ks.length=vs.length
 |.ins c ks xs,a=>∃C dx vs,mg c=some (.ref C)/\H a=some (.ins C dx (ks.zip vs))/\Rs K mg ρ H xs vs/\ks.length=vs.length
 |.fdi ks xs,a=>∃o vs,H a=some (.frz o (.dK ((ks.map Sum.inr).zip vs)))/\Rs K mg ρ H xs vs/\ks.length=vs.length
 |.dit ks xs,a=>∃its vs,H a=some (dE a its)/\its.map (·.1)=ks/\(∀x,x∈its->bg K H x.2.1 (x.1.map kV))/\Vals vs (its.map (·.2.2))/\Rs K mg ρ H xs vs
 |.odd c xs,a=>∃b us ep vs,H a=some (oE a c b us ep)/\hW K H b c/\Vals vs us/\Rs K mg ρ H xs vs
 |.fod c xs,a=>∃o b us ep vs,H a=some (.frz o (oE a c b us ep))/\hW K H b c/\Vals vs us/\Rs K mg ρ H xs vs
structure aP (ρ:Ae) (H:Hp) (st:aj):Prop where
 len:ρ.length=st.length
 nd:ρ.Nodup
 at_:∀(n:Nat) so,st[n]?=some so->∃a,ρ[n]?=some a/\dn K mg ρ H so a
def Still (φ:Program->World->Heap->Prop):Prop:=∀P w,∃h:Heap,φ P w h/\∀b o es ep,h.get? b=some o->o.data ≠ .dict es ep
open Classical in
def mG:HO->Bool
 |.tup _=>true
 |.frz _ _=>true
 |.xd _=>true
 |.ext φ=>decide (Still φ)
 |_=>false
structure Ext (ρ:Ae) (H:Hp) (af:Ae) (H':Hp):Prop where
 pre:∃δ,af=ρ++δ
 imm:∀a o,H a=some o->mG o=true->H' a=some o
def tL {C:Addr}{d:Option Addr}{a:Addr}:mG (ku C d a)=true:=by
 have st:Still λ_ _ h=>∃T:Addr,XO h a (.ref C) d (.ref T):=λP w=>by
  have g:∀b,(Heap.mk (Array.replicate (a+1) { cls:=.ref C,dict:=d,data:=.fields #[.none,.ref 0,.none,.none,.none,.none] }) {}).get? b=if b<a+1 then some { cls:=.ref C,dict:=d,data:=.fields #[.none,.ref 0,.none,.none,.none,.none] } else none:=by
   intro b
   unfold Heap.get?
   by_cases hb:b<a+1
   ·simp [Array.getElem?_replicate,hb]
   ·simp [Array.getElem?_replicate,hb]
  refine ⟨_,⟨0,_,_,(g a).trans (zu (wF a)),rfl,rfl,rfl,rfl,rfl⟩,λb o es ep e=>?_⟩
  rw [g b] at e
  split at e
  ·cases e;intro z;cases z
  ·cases e
 exact @decide_eq_true _ (Classical.propDecidable _) st
def XR (ρ:Ae) (H:Hp) (c:Str) (ks:Ad) (xs:List PV) (Cv:Value) (d:Option Addr):Prop :=
 ∃C,Cv=.ref C/\mg c=some (.ref C)/\((ks=[]/\d=none)\/∃dd vs,d=some dd/\H dd=some (.xd (ks.zip vs))/\Rs K mg ρ H xs vs/\ks.length=vs.length)
def Out {α:Type}(ρ:Ae) (H:Hp) (r:Res α) (good:List Addr->Hp->α->aj->Prop) (E:XK):Prop :=
 match r with
 |.ok x st=>∀af H',Ext ρ H af H'->aP K mg af H' st->good af H' x st
 |.err c ks xs st=>∀af H' C d,Ext ρ H af H'->aP K mg af H' st->XR K mg af H' c ks xs C d->E C d H'
 |.stuck=>False
structure aU (ρ:Ae) (H:Hp) (env:zc) (U:St):Prop where
 len:env.length=U.length
 at_:∀(i:Nat) x,env[i]?=some (some x)->∃v,U[i]?=some (some v)/\R K mg ρ H x v
def gV (Q:VK):List Addr->Hp->PV->aj->Prop:=fun ρ H x _=>∀v,R K mg ρ H x v->Q v H
def DV (Q:List V->Hp->Prop):List Addr->Hp->List PV->aj->Prop:=fun ρ H x _=>∀v,Rs K mg ρ H x v->Q v H
def gB (Q:Bool->Hp->Prop):List Addr->Hp->Bool->aj->Prop:=λ_ H x _=>Q x H
inductive Fl where
 |nx (env:zc)|rt (x:PV)|bk (env:zc)|ct (env:zc)
abbrev Ah:=zc->Mo (List PV)
abbrev Ai:=zc->Mo PV
abbrev Aj:=zc->Mo Fl
abbrev Ak:=zc->Mo Bool
abbrev Al:=List PV->Mo PV
abbrev Am:=PV->PV->Mo PV
abbrev An:=List PV
abbrev Ao:=Option PV
def gS (D:Ends):List Addr->Hp->Fl->aj->Prop:=fun ρ H x _ =>
 match x with
 |.nx env=>∀U,aU K mg ρ H env U->D.nx U H
 |.rt x=>∀v,R K mg ρ H x v->D.rt v H
 |.bk env=>∀U,aU K mg ρ H env U->D.bk U H
 |.ct env=>∀U,aU K mg ρ H env U->D.ct U H
end
section
variable {K:Frag} {mg:Ab} {ρ ad ap:Ae} {H H1 H2:Hp}
def Ext.refl:Ext ρ H ρ H:=⟨⟨[],by simp⟩,λ_ _ h _=>h⟩
def Ext.trans (a:Ext ρ H ad H1) (b:Ext ad H1 ap H2):Ext ρ H ap H2:=by
 obtain ⟨⟨d,hd⟩,i⟩:=a
 obtain ⟨⟨d',eX⟩,i'⟩:=b
 exact ⟨⟨d++d',by rw [eX,hd,jW]⟩,λa o h m=>i' a o (i a o h m) m⟩
def Ext.get (a:Ext ρ H ad H1) {n:Nat}{p:Addr}(h:ρ[n]?=some p):ad[n]?=some p:=by
 obtain ⟨⟨d,hd⟩,_⟩:=a
 rw [hd,wj (zM.mp h).1]
 exact h
def Ext.sqT (e:Ext ρ H ad H1) {a:Addr}{xs:List V}(h:bg K H a xs):bg K H1 a xs:=by
 rcases h with (h|⟨o,h⟩)|h
 ·exact .inl (.inl (e.imm _ _ h rfl))
 ·exact .inl (.inr ⟨o,e.imm _ _ h rfl⟩)
 ·exact .inr h
def Ext.frl (e:Ext ρ H ad H1) {a:Addr}{xs:List V}(h:eG K H a xs):eG K H1 a xs:=by
 rcases h with ⟨o,h⟩|h
 ·exact .inl ⟨o,e.imm _ _ h rfl⟩
 ·exact .inr h
mutual
theorem R.ext (e:Ext ρ H ad H1):∀(x:PV) {v:V},R K mg ρ H x v->R K mg ad H1 x v
 |.non,_,h=>h
 |.bl _,_,h=>h
 |.int _,_,h=>h
 |.str _,_,h=>h
 |.ty _,_,h=>h
 |.tup xs,_,h=>by
  obtain ⟨a,vs,h1,h2,h3⟩:=h
  exact ⟨a,vs,h1,e.sqT h2,Rs.ext e xs h3⟩
 |.frl xs,_,h=>by
  obtain ⟨a,vs,h1,h2,h3⟩:=h
  exact ⟨a,vs,h1,e.frl h2,Rs.ext e xs h3⟩
 |.ref n,_,h=>by
  obtain ⟨a,h1,h2⟩:=h
  exact ⟨a,h1,e.get h2⟩
 |.fn _,_,h=>h
 |.kd ks xs,_,h=>by
  obtain ⟨a,us,vs,h1,h2,h4,h3⟩:=h
  exact ⟨a,us,vs,h1,h2,h4,Rs.ext e xs h3⟩
 |.exo c ks xs,_,h=>by
  obtain ⟨a,C,h1,h2,⟨h3,h4⟩|⟨d,vs,h3,h4,h5,h6⟩⟩:=h
  ·exact ⟨a,C,h1,h2,.inl ⟨h3,e.imm _ _ h4 tL⟩⟩
  ·exact ⟨a,C,h1,h2,.inr ⟨d,vs,e.imm _ _ h3 tL,e.imm _ _ h4 rfl,Rs.ext e xs h5,h6⟩⟩
theorem Rs.ext (e:Ext ρ H ad H1):∀(xs:An) {vs:List V},Rs K mg ρ H xs vs->Rs K mg ad H1 xs vs
 |[],_,h=>h
 |x::xs,_,h=>by
  obtain ⟨v,r,h1,h2,h3⟩:=h
  exact ⟨v,r,h1,R.ext e x h2,Rs.ext e xs h3⟩
end
theorem aU.ext (e:Ext ρ H ad H1) {env:zc}{U:St}(h:aU K mg ρ H env U):aU K mg ad H1 env U :=
 ⟨h.len,λi x hx=>let ⟨v,a,b⟩:=h.at_ i x hx;⟨v,a,R.ext e x b⟩⟩
theorem Rs.len:∀{xs:An}{vs:List V},Rs K mg ρ H xs vs->xs.length=vs.length
 |[],_,h=>by cases h;rfl
 |x::xs,_,h=>by
  obtain ⟨v,r,rfl,_,h3⟩:=h
  simp [Rs.len h3]
theorem Rs.get:∀{xs:An}{vs:List V}{i:Nat}{x:PV},Rs K mg ρ H xs vs->xs[i]?=some x->∃v,vs[i]?=some v/\R K mg ρ H x v
 |[],_,_,_,_,e=>by simp at e
 |x::xs,_,0,_,h,e=>by
  obtain ⟨v,r,rfl,h2,h3⟩:=h
  simp at e
  subst e
  exact ⟨v,by simp,h2⟩
 |x::xs,_,i+1,y,h,e=>by
  obtain ⟨v,r,rfl,h2,h3⟩:=h
  simp at e
  obtain ⟨v',h4,h5⟩:=Rs.get h3 e
  exact ⟨v',by simpa using h4,h5⟩
theorem Rs.append:∀{xs ys:An}{vs ws:List V},Rs K mg ρ H xs vs->Rs K mg ρ H ys ws->Rs K mg ρ H (xs++ys) (vs++ws)
 |[],_,_,_,h,h'=>by cases h;exact h'
 |x::xs,_,_,_,h,h'=>by
  obtain ⟨v,r,rfl,h2,h3⟩:=h
  exact ⟨v,r++_,rfl,h2,Rs.append h3 h'⟩
theorem Rs.take:∀{xs:An}{vs:List V}(n:Nat),Rs K mg ρ H xs vs->Rs K mg ρ H (xs.take n) (vs.take n)
 |[],_,n,h=>by cases h;simp [Rs]
 |x::xs,_,0,h=>by simp [Rs]
 |x::xs,_,n+1,h=>by
  obtain ⟨v,r,rfl,h2,h3⟩:=h
  exact ⟨v,_,rfl,h2,Rs.take n h3⟩
theorem Rs.drop:∀{xs:An}{vs:List V}(n:Nat),Rs K mg ρ H xs vs->Rs K mg ρ H (xs.drop n) (vs.drop n)
 |[],_,n,h=>by cases h;simp [Rs]
 |x::xs,_,0,h=>h
 |x::xs,_,n+1,h=>by
  obtain ⟨v,r,rfl,h2,h3⟩:=h
  exact Rs.drop n h3
theorem Rs.set:∀{xs:An}{vs:List V}{x:PV}{v:V}(i:Nat),Rs K mg ρ H xs vs->R K mg ρ H x v->Rs K mg ρ H (xs.set i x) (vs.set i v)
 |[],_,_,_,i,h,_=>by cases h;simp [Rs]
 |x::xs,_,_,_,0,h,q=>by
  obtain ⟨v,r,rfl,h2,h3⟩:=h
  exact ⟨_,_,rfl,q,h3⟩
 |x::xs,_,_,_,i+1,h,q=>by
  obtain ⟨v,r,rfl,h2,h3⟩:=h
  exact ⟨_,_,rfl,h2,Rs.set i h3 q⟩
theorem aU.set {env:zc}{U:St}{x:PV}{v:V}(h:aU K mg ρ H env U) (i:Nat) (r:R K mg ρ H x v):aU K mg ρ H (env.set i (some x)) (U.set i (some v)):=by
 refine ⟨by simp [h.len],λj y hy=>?_⟩
 rw [List.getElem?_set] at hy ⊢
 by_cases hij:i=j
 ·subst hij
  by_cases hl:i<env.length
  ·rw [zu rfl,zu hl] at hy
   rw [zu rfl,zu (by rw [<-h.len];exact hl)]
   cases hy
   exact ⟨v,rfl,r⟩
  ·rw [zu rfl,zt hl] at hy
   cases hy
 ·rw [zt hij] at hy ⊢
  exact h.at_ j y hy
def aU.cons {env:zc}{U:St}{x:PV}{v:V}(h:aU K mg ρ H env U) (r:R K mg ρ H x v):aU K mg ρ H (some x::env) (some v::U):=by
 refine ⟨by simp [h.len],λj y hy=>?_⟩
 cases j with
 |zero=>simp at hy;subst hy;exact ⟨v,by simp,r⟩
 |succ j=>simp at hy;simpa using h.at_ j y hy
def aP.addr {st:aj}{n:Nat}{so:SO}(s:aP K mg ρ H st) (e:st[n]?=some so) {a:Addr}(ha:ρ[n]?=some a):dn K mg ρ H so a:=by
 obtain ⟨b,hb,h⟩:=s.at_ n so e
 rw [ha] at hb
 cases hb
 exact h
theorem dn.some {so:SO}{a:Addr}(h:dn K mg ρ H so a):∃o,H a=some o/\True:=by
 cases so with
 |lst xs=>obtain ⟨vs,h,_⟩:=h;exact ⟨_,h,trivial⟩
 |dic ks xs=>obtain ⟨vs,h,_⟩:=h;exact ⟨_,h,trivial⟩
 |ins c ks xs=>obtain ⟨C,dx,vs,_,h,_⟩:=h;exact ⟨_,h,trivial⟩
 |fdi ks xs=>obtain ⟨o,vs,h,_⟩:=h;exact ⟨_,h,trivial⟩
 |dit ks xs=>obtain ⟨its,vs,h,_⟩:=h;exact ⟨_,h,trivial⟩
 |odd c xs=>obtain ⟨b,us,ep,vs,h,_⟩:=h;exact ⟨_,h,trivial⟩
 |fod c xs=>obtain ⟨o,b,us,ep,vs,h,_⟩:=h;exact ⟨_,h,trivial⟩
def aP.in_ {st:aj}{n:Nat}{a:Addr}(s:aP K mg ρ H st) (h:ρ[n]?=some a):∃so,st[n]?=some so/\dn K mg ρ H so a:=by
 have hl:n<st.length:=by rw [<-s.len];exact (zM.mp h).1
 refine ⟨st[n],by simp [hl],s.addr (by simp [hl]) h⟩
def dn.ext' {so:SO}{a:Addr}(e:Ext ρ H ad H1) (h:dn K mg ρ H so a) (k:H1 a=H a):dn K mg ad H1 so a:=by
 cases so with
 |lst xs=>obtain ⟨vs,h1,h2⟩:=h;exact ⟨vs,by rw [k];exact h1,Rs.ext e xs h2⟩
 |dic ks xs=>obtain ⟨vs,h1,h2,h3⟩:=h;exact ⟨vs,by rw [k];exact h1,Rs.ext e xs h2,h3⟩
 |ins c ks xs=>obtain ⟨C,dx,vs,h0,h1,h2,h3⟩:=h;exact ⟨C,dx,vs,h0,by rw [k];exact h1,Rs.ext e xs h2,h3⟩
 |fdi ks xs=>obtain ⟨o,vs,h1,h2,h3⟩:=h;exact ⟨o,vs,by rw [k];exact h1,Rs.ext e xs h2,h3⟩
 |dit ks xs=>obtain ⟨its,vs,h1,h2,h3,h4,h5⟩:=h;exact ⟨its,vs,by rw [k];exact h1,h2,λx hx=>e.sqT (h3 x hx),h4,Rs.ext e xs h5⟩
 |odd c xs=>obtain ⟨b,us,ep,vs,h1,h2,h3,h4⟩:=h;exact ⟨b,us,ep,vs,by rw [k];exact h1,by cases c<;>first|exact e.sqT h2|trivial,h3,Rs.ext e xs h4⟩
 |fod c xs=>obtain ⟨o,b,us,ep,vs,h1,h2,h3,h4⟩:=h;exact ⟨o,b,us,ep,vs,by rw [k];exact h1,by cases c<;>first|exact e.sqT h2|trivial,h3,Rs.ext e xs h4⟩
def Ext.new {p:Addr}{o:HO}(hp:H p=none):Ext ρ H ρ (upd H p o) :=
 ⟨⟨[],by simp⟩,λa o' h _=>by rw [zw (jv h hp)];exact h⟩
theorem aP.new {st:aj}{p:Addr}{o:HO}(s:aP K mg ρ H st) (hp:H p=none):aP K mg ρ (upd H p o) st :=
 ⟨s.len,s.nd,λn so e=>by
  obtain ⟨a,ha,h⟩:=s.at_ n so e
  obtain ⟨o',ho,_⟩:=h.some
  exact ⟨a,ha,h.ext' (Ext.new hp) (zw (jv ho hp))⟩⟩
def Ext.push {p:Addr}{o:HO}(hp:H p=none):Ext ρ H (ρ++[p]) (upd H p o) :=
 ⟨⟨[p],rfl⟩,λa o' h _=>by rw [zw (jv h hp)];exact h⟩
theorem aP.push {st:aj}{p:Addr}{o:HO}{so:SO}(s:aP K mg ρ H st) (hp:H p=none) (n:dn K mg (ρ++[p]) (upd H p o) so p):aP K mg (ρ++[p]) (upd H p o) (st++[so]):=by
 refine ⟨by simp [s.len],?_,λi cW e=>?_⟩
 ·refine List.nodup_append.mpr ⟨s.nd,by simp,λa ha b hb=>?_⟩
  obtain rfl:b=p:=by simpa using hb
  obtain ⟨n,hn⟩:=List.getElem?_of_mem ha
  obtain ⟨cW,_,h⟩:=s.in_ hn
  obtain ⟨o',ho,_⟩:=h.some
  exact jv ho hp
 ·by_cases hi:i<st.length
  ·rw [wj hi] at e
   obtain ⟨a,ha,h⟩:=s.at_ i cW e
   obtain ⟨o',ho,_⟩:=h.some
   exact ⟨a,(Ext.push (o:=o) hp).get ha,h.ext' (Ext.push hp) (zw (jv ho hp))⟩
  ·rw [jN (by omega)] at e
   have c7:i=st.length:=by
    have:=(zM.mp e).1
    simp at this
    omega
   subst c7
   simp at e
   subst e
   exact ⟨p,by rw [<-s.len];simp,n⟩
def Ext.write {a:Addr}{o o':HO}(ha:H a=some o) (hi:mG o=false):Ext ρ H ρ (upd H a o') :=
 ⟨⟨[],by simp⟩,λb u h m=>by
  rw [zw]
  ·exact h
  ·intro z;subst z;rw [ha] at h;cases h;rw [hi] at m;cases m⟩
def aP.write {st:aj}{n:Nat}{a:Addr}{o':HO}{so:SO}(s:aP K mg ρ H st) (hn:ρ[n]?=some a) (ew:Ext ρ H ρ (upd H a o')) (h:dn K mg ρ (upd H a o') so a):aP K mg ρ (upd H a o') (st.set n so):=by
 refine ⟨by simp [s.len],s.nd,λi cW e=>?_⟩
 rw [List.getElem?_set] at e
 by_cases hij:n=i
 ·subst hij
  rw [zu rfl] at e
  split at e
  ·cases e;exact ⟨a,hn,h⟩
  ·cases e
 ·rw [zt hij] at e
  obtain ⟨b,hb,q⟩:=s.at_ i cW e
  have ne:b≠a:=by
   intro z
   subst z
   obtain ⟨h1,h2⟩:=zM.mp hn
   obtain ⟨h3,h4⟩:=zM.mp hb
   have pw:=List.pairwise_iff_getElem.mp s.nd
   rcases Nat.lt_trichotomy n i with c|c|c
   ·exact pw n i h1 h3 c (h2.trans h4.symm)
   ·exact hij c
   ·exact pw i n h3 h1 c (h4.trans h2.symm)
  exact ⟨b,hb,q.ext' ew (zw ne)⟩
section
variable {α β:Type} {E:XK} {good:List Addr->Hp->α->aj->Prop}
def Out.ext {r:Res α}(h:Out K mg ρ H r good E) (e:Ext ρ H ad H1):Out K mg ad H1 r good E:=by
 cases r with
 |ok x st=>exact λaf H' e' s=>h af H' (e.trans e') s
 |err c ks xs st=>exact λaf H' C d e' s x=>h af H' C d (e.trans e') s x
 |stuck=>exact h
def Out.mono {r:Res α}{cX:List Addr->Hp->α->aj->Prop}(h:Out K mg ρ H r good E) (g:∀af H' x st,Ext ρ H af H'->aP K mg af H' st->good af H' x st->cX af H' x st):Out K mg ρ H r cX E:=by
 cases r with
 |ok x st=>exact λaf H' e' s=>g af H' x st e' s (h af H' e' s)
 |err c ks xs st=>exact h
 |stuck=>exact h
theorem Out.bind {r:Res β}{f:β->Mo α}(h:Out K mg ρ H (r.bind f) good E):Out K mg ρ H r (λaf H' x st=>Out K mg af H' (f x st) good E) E:=by
 cases r with
 |ok x st=>exact λaf H' e' s=>Out.ext h e'
 |err c ks xs st=>exact h
 |stuck=>exact h
def Out.then {r:Res β}{f:β->Mo α}{cX:List Addr->Hp->β->aj->Prop}(h:Out K mg ρ H (r.bind f) good E) (g:∀af H' x st,Ext ρ H af H'->aP K mg af H' st->Out K mg af H' (f x st) good E->cX af H' x st):Out K mg ρ H r cX E:=h.bind.mono g
def Out.now {x:α}{st:aj}(h:Out K mg ρ H (.ok x st) good E) (s:aP K mg ρ H st):good ρ H x st:=h ρ H Ext.refl s
end
end
end Mi
namespace Mi
open PySem L2 PySem.W PySem.Spec
abbrev lim:Nat:=1000000
def yO {n:Nat}(h:n<=lim):n<=sizeLine:=by rw [sizeLine_eq];show n<=16777216;exact yL h (by decide)
section
variable (K:Frag) (mg:Ab)
def tM (Er:XK) (f:Ai):TE:=λU H Q=>∃env st ρ,aU K mg ρ H env U/\aP K mg ρ H st/\Out K mg ρ H (f env st) (gV K mg Q) Er
def pk (Er:XK) (f:Ak):TT:=λU H Q=>∃env st ρ,aU K mg ρ H env U/\aP K mg ρ H st/\Out K mg ρ H (f env st) (gB Q) Er
def DW (Er:XK) (f:Ah):TA:=λU H Q=>∃env st ρ,aU K mg ρ H env U/\aP K mg ρ H st/\Out K mg ρ H (f env st) (DV K mg Q) Er
def sM (Er:XK) (f:Aj):TS:=λD U H=>∃env st ρ,aU K mg ρ H env U/\aP K mg ρ H st/\Out K mg ρ H (f env st) (gS K mg D) Er
end
def ME (X:Cx) (Er:XK) (e:Expr) (f:Ai):Prop:=PE X e (tM X.K X.mg Er f)
def MT (X:Cx) (Er:XK) (e:Expr) (f:Ak):Prop:=PT X e (pk X.K X.mg Er f)
def MW (X:Cx) (Er:XK) (e:Expr) (f:Ak):Prop:=PW X e (pk X.K X.mg Er f)
def MA (X:Cx) (Er:XK) (e:List Expr) (f:Ah):Prop:=PA X e (DW X.K X.mg Er f)
def MS (X:Cx) (Er:XK) (e:Stmt) (f:Aj):Prop:=PS X e (sM X.K X.mg Er f)
def dZ (X:Cx) (Er:XK) (e:List Stmt) (f:Aj):Prop:=bG X e (sM X.K X.mg Er f)
section
variable {X:Cx} {Er:XK} {e a b c:Expr} {es:List Expr} {pos:Pos} {t t':TE}
def PE.weak (h:PE X e t) (w:∀U H Q,t' U H Q->t U H Q):PE X e t':=λpins s U H Q I q=>h pins s U H Q I (w U H Q q)
def PT.weak {t t':TT}(h:PT X e t) (w:∀U H Q,t' U H Q->t U H Q):PT X e t':=λpins s U H Q I q=>h pins s U H Q I (w U H Q q)
def PW.weak {t t':TT}(h:PW X e t) (w:∀U H Q,t' U H Q->t U H Q):PW X e t':=λwh pins s U H Q I q=>h wh pins s U H Q I (w U H Q q)
def PA.weak {t t':TA}(h:PA X es t) (w:∀U H Q,t' U H Q->t U H Q):PA X es t':=λpos pins s U H Q I q=>h pos pins s U H Q I (w U H Q q)
def PS.weak {st:Stmt}{t t':TS}(h:PS X st t) (w:∀D U H,t' D U H->t D U H):PS X st t':=λpins s U H D I q=>h pins s U H D I (w D U H q)
def bG.weak {st:List Stmt}{t t':TS}(h:bG X st t) (w:∀D U H,t' D U H->t D U H):bG X st t':=λpins s U H D I q=>h pins s U H D I (w D U H q)
def zd (i:Nat):Ai:=λenv st=>match env[i]? with
 |some (some x)=>.ok x st
 |_=>.stuck
def mC (x:PV):Ai:=λ_ st=>.ok x st
def zh (i:Nat) {x:Str} {pos:Pos} (hN:X.N[i]?=some x:=by rfl) (hv:lV X.env.scope x:=by first|exact Or.inl rfl|exact Or.inr (Or.inl rfl)|exact Or.inr (Or.inr rfl)) (hd:(x==("__debug__" : Str))=false:=by decide)
  (dA:(x==("__classdict__" : Str))=false:=by decide):ME X Er (.Name x pos) (zd i):=PE.weak (A0 hN hv hd dA) λU H Q ⟨env,st,ρ,re,rs,h⟩=>by
 unfold zd at h
 split at h
 ·rename_i x' hx
  obtain ⟨v,h1,h2⟩:=re.at_ i x' hx
  exact ⟨v,h1,h.now rs v h2⟩
 ·exact h.elim
def hX {x:PV}{v:V}(hp:PE X e (tC v)) (hr:∀ρ H,R X.K X.mg ρ H x v):ME X Er e (mC x):=PE.weak hp λU H Q ⟨env,st,ρ,re,rs,h⟩=>h.now rs v (hr ρ H)
def zm {i:Int}{j}:ME X Er (.Constant (.int i) j pos) (mC (.int i)):=hX A1 λ_ _=>rfl
def zao {x:Str}{j}:ME X Er (.Constant (.str x) j pos) (mC (.str x)):=hX rJ λ_ _=>rfl
def jw {b:Bool}{j}:ME X Er (.Constant (.bool b) j pos) (mC (.bl b)):=hX A2 λ_ _=>rfl
def zeP {j}:ME X Er (.Constant .none j pos) (mC .non):=hX A3 λ_ _=>rfl
def tN {x:Str} {p:PV} {v:V} {u:Value} (hm:X.mg x=some u) (r:RelV v u) (hr:∀ρ H,R X.K X.mg ρ H p v) (hg:Gl X x:=by rfl) (hd:(x==("__debug__" : Str))=false:=by decide):ME X Er (.Name x pos) (mC p):=hX (A4 hg hm r hd) hr
def cL (K:Frag) (mg:Ab) (r:R2) (op:Am):Prop:=∀ρ H st x y v w (Q:VK) (E:XK),aP K mg ρ H st->R K mg ρ H x v->R K mg ρ H y w->Out K mg ρ H (op x y st) (gV K mg Q) E->r v w H Q
def zg (op:Am) (fa fb:Ai):Ai:=λenv st=>(fa env st).bind λx aa=>(fb env aa).bind λy ak=>op x y ak
variable {fa fb fc:Ai}
def mH {r:R2}{op:Am}{K:Frag}{mg:Ab}(hm:cL K mg r op) {U:St}{H:Hp}{Q:VK}(h:tM K mg Er (zg op fa fb) U H Q):i5 r (tM K mg Er fa) (tM K mg Er fb) U H Q:=by
 obtain ⟨env,st,ρ,re,rs,h⟩:=h
 exact ⟨env,st,ρ,re,rs,h.then λad H1 x aa e1 s1 h1 v rv=>⟨env,aa,ad,re.ext e1,s1,h1.then λap H2 y ak e2 s2 h2 w rw=>hm ap H2 ak x y v w Q Er s2 (R.ext e2 x rv) rw h2⟩⟩
def DX {o:Operator}{r:R2}{op:Am}(ho:aW X (binaryOp o) r) (hm:cL X.K X.mg r op) (ha:ME X Er a fa) (hb:ME X Er b fb):ME X Er (.BinOp a o b pos) (zg op fa fb) :=
 PE.weak (BS ho ha hb) λU H Q h=>mH hm h
def DY {o:CmpOp}{r:R2}{op:Am}(ho:aW X (compareOp o) r) (hm:cL X.K X.mg r op) (ha:ME X Er a fa) (hb:ME X Er b fb) (hk:behindInMarks o b=false):ME X Er (.Compare a [o] [b] pos) (zg op fa fb) :=
 PE.weak (B8 ho ha hb hk) λU H Q h=>mH hm h
def d0:PV->Mo Bool
 |.bl b,st=>.ok b st
 |_,_=>.stuck
def mB (f:Ai):Ak:=λenv st=>(f env st).bind d0
def DZ {K:Frag}{mg:Ab}{ρ:Ae}{H:Hp}{x:PV}{st:aj}{Q:Bool->Hp->Prop}(s:aP K mg ρ H st) (h:Out K mg ρ H (d0 x st) (gB Q) Er) {v:V}(r:R K mg ρ H x v):∃k,v=.bl k/\Q k H:=by
 unfold d0 at h
 split at h
 ·cases r;exact ⟨_,rfl,h.now s⟩
 ·exact h.elim
def pq {α:Type}{K:Frag}{mg:Ab}{ρ:Ae}{H:Hp}{x:PV}{st:aj}{f:Bool->Mo α}{good:List Addr->Hp->α->aj->Prop}(h:Out K mg ρ H ((d0 x st).bind f) good Er):∃k,x=.bl k/\Out K mg ρ H (f k st) good Er:=by
 cases x with
 |bl k=>exact ⟨k,rfl,h⟩
 |_=>exact h.elim
def pv {f:Ai}{K:Frag}{mg:Ab}{U:St}{H:Hp}{Q:Bool->Hp->Prop}(h:pk K mg Er (mB f) U H Q):tM K mg Er f U H λx H1=>∃c,x=.bl c/\Q c H1:=by
 obtain ⟨env,st,ρ,re,rs,h⟩:=h
 exact ⟨env,st,ρ,re,rs,h.then λad H1 x aa e1 s1 h1 v rv=>DZ s1 h1 rv⟩
def D0 {o:CmpOp}{r:R2}{op:Am}(ho:aW X (compareOp o) r) (hm:cL X.K X.mg r op) (ha:ME X Er a fa) (hb:ME X Er b fb) (hk:behindInMarks o b=false):MT X Er (.Compare a [o] [b] pos) (mB (zg op fa fb)) :=
 PT.weak (B9 ho ha hb hk) λU H Q h=>mH hm (pv h)
def y4 (h:ME X Er e fa) (he:∀whole,isTrue e X.env whole=(do let v <-whole;standAt e.pos;holding [v] (truthy v)):=by intro _;rfl):MT X Er e (mB fa) :=
 PT.weak (A6 h he) λU H Q h=>pv h
def jY (op bA:Am) (fa fb fc:Ai):Ai:=λenv st=>(fa env st).bind λx aa=>(fb env aa).bind λy ak=>(op x y ak).bind λk aL=>(d0 k aL).bind λb fq =>
 if b=true then (fc env fq).bind λz bV=>bA y z bV else .ok (.bl false) fq
def tO {r r':R2}{op bA:Am}{K:Frag}{mg:Ab}(hm:cL K mg r op) (gx:cL K mg r' bA) {U:St}{H:Hp}{Q:VK}(h:tM K mg Er (jY op bA fa fb fc) U H Q):ow r r' (tM K mg Er fa) (tM K mg Er fb) (tM K mg Er fc) U H Q:=by
 obtain ⟨env,st,ρ,re,rs,h⟩:=h
 refine ⟨env,st,ρ,re,rs,h.then λad H1 x aa e1 s1 h1 v rv=>⟨env,aa,ad,re.ext e1,s1,h1.then λap H2 y ak e2 s2 h2 w rw=>?_⟩⟩
 refine hm ap H2 ak x y v w _ Er s2 (R.ext e2 x rv) rw (h2.then λam H3 z aL e3 s3 h3 u ru=>?_)
 obtain ⟨b,rfl,h4⟩:=pq h3
 cases ru
 refine ⟨b,rfl,?_⟩
 cases b with
 |true=>exact ⟨env,aL,am,((re.ext e1).ext e2).ext e3,s3,Out.then (f:=λz bV=>bA y z bV) h4 λaG H5 z bV e5 s5 h5 w' cn=>gx aG H5 bV y z w w' Q Er s5 (R.ext e5 y (R.ext e3 y rw)) cn h5⟩
 |false=>exact Out.now (x:=PV.bl false) h4 s3 _ rfl
def D1 {o o':CmpOp}{r r':R2}{op bA:Am}(ho:aW X (compareOp o) r) (hm:cL X.K X.mg r op) (ho':aW X (compareOp o') r') (gx:cL X.K X.mg r' bA) (ha:ME X Er a fa) (hb:ME X Er b fb) (hc:ME X Er c fc)
  (hk:lastMarks [o,o'] [b,c]=false:=by with_unfolding_all rfl):ME X Er (.Compare a [o,o'] [b,c] pos) (jY op bA fa fb fc):=PE.weak (B_ ho ho' ha hb hc hk) λU H Q h=>tO hm gx h
def D2 {o o':CmpOp}{r r':R2}{op bA:Am}(ho:aW X (compareOp o) r) (hm:cL X.K X.mg r op) (ho':aW X (compareOp o') r') (gx:cL X.K X.mg r' bA) (ha:ME X Er a fa) (hb:ME X Er b fb) (hc:ME X Er c fc)
  (hk:lastMarks [o,o'] [b,c]=false:=by with_unfolding_all rfl):MT X Er (.Compare a [o,o'] [b,c] pos) (mB (jY op bA fa fb fc)):=PT.weak (Ca ho ho' ha hb hc hk) λU H Q h=>tO hm gx (pv h)
def tP (K:Frag) (mg:Ab) (r:V->Hp->VK->Prop) (op:PV->Mo PV):Prop:=∀ρ H st x v (Q:VK) (E:XK),aP K mg ρ H st->R K mg ρ H x v->Out K mg ρ H (op x st) (gV K mg Q) E->r v H Q
def wJ (op:PV->Mo PV) (fa:Ai):Ai:=λenv st=>(fa env st).bind op
def D3 {o:UnaryOp}{r:V->Hp->VK->Prop}{op:PV->Mo PV}(ho:i3 X (unaryOp o) r) (hm:tP X.K X.mg r op) (ha:ME X Er a fa):ME X Er (.UnaryOp o a pos) (wJ op fa) :=
 PE.weak (BU ho ha) λU H Q ⟨env,st,ρ,re,rs,h⟩=>⟨env,st,ρ,re,rs,h.then λad H1 x aa e1 s1 h1 v rv=>hm ad H1 aa x v Q Er s1 rv h1⟩
variable {ga gb:Ak} {rest:List Expr}
def yT (ga gb:Ak):Ak:=λenv st=>(ga env st).bind λc aa=>if c=true then gb env aa else .ok false aa
def mI (ga gb:Ak):Ak:=λenv st=>(ga env st).bind λc aa=>if c=true then .ok true aa else gb env aa
def yU (ga:Ak):Ak:=λenv st=>(ga env st).bind λc aa=>.ok (!c) aa
def zbU (ha:MT X Er a ga):MW X Er (.BoolOp .And [a] pos) ga:=A_ ha
def zj0 (ha:MT X Er a ga):MW X Er (.BoolOp .Or [a] pos) ga:=Ba ha
def zap (ha:MT X Er a ga) (hb:MW X Er (.BoolOp .And (b::rest) pos) gb):MW X Er (.BoolOp .And (a::b::rest) pos) (yT ga gb) :=
 PW.weak (Bb ha hb) λU H Q ⟨env,st,ρ,re,rs,h⟩=>⟨env,st,ρ,re,rs,h.then λad H1 k aa e1 s1 h1=>by
  cases k with
  |true=>exact ⟨env,aa,ad,re.ext e1,s1,h1⟩
  |false=>exact h1.now s1⟩
def zj1 (ha:MT X Er a ga) (hb:MW X Er (.BoolOp .Or (b::rest) pos) gb):MW X Er (.BoolOp .Or (a::b::rest) pos) (mI ga gb) :=
 PW.weak (Bc ha hb) λU H Q ⟨env,st,ρ,re,rs,h⟩=>⟨env,st,ρ,re,rs,h.then λad H1 k aa e1 s1 h1=>by
  cases k with
  |false=>exact ⟨env,aa,ad,re.ext e1,s1,h1⟩
  |true=>exact h1.now s1⟩
def za4 {op:BoolOp}(h:MW X Er (.BoolOp op es pos) ga):MT X Er (.BoolOp op es pos) ga:=PW.pt h
def wK (ha:MT X Er a ga):MT X Er (.UnaryOp .Not a pos) (yU ga):=PT.weak (Bd ha) λU H Q ⟨env,st,ρ,re,rs,h⟩=>⟨env,st,ρ,re,rs,h.then λad H1 k aa e1 s1 h1=>h1.now s1⟩
def jo (fa fb:Ai):Ai:=λenv st=>(fa env st).bind λx aa=>(d0 x aa).bind λc ak=>if c=true then fb env ak else .ok (.bl false) ak
def pA (fa:Ai):Ai:=λenv st=>(fa env st).bind λx aa=>(d0 x aa).bind λc ak=>.ok (.bl (!c)) ak
def wL {op}(h:ME X Er a fa):ME X Er (.BoolOp op [a] pos) fa:=Bh h
def wq (ha:ME X Er a fa) (hb:ME X Er (.BoolOp .And (b::rest) pos) fb):ME X Er (.BoolOp .And (a::b::rest) pos) (jo fa fb) :=
 PE.weak (Bi ha hb) λU H Q ⟨env,st,ρ,re,rs,h⟩=>⟨env,st,ρ,re,rs,h.then λad H1 x aa e1 s1 h1 v rv=>by
  obtain ⟨k,rfl,h1⟩:=pq h1
  cases rv
  refine ⟨k,rfl,?_⟩
  cases k with
  |true=>exact ⟨env,aa,ad,re.ext e1,s1,h1⟩
  |false=>exact Out.now (x:=PV.bl false) h1 s1 _ rfl⟩
def zj2 (ha:ME X Er a fa):ME X Er (.UnaryOp .Not a pos) (pA fa) :=
 PE.weak (Bj ha) λU H Q ⟨env,st,ρ,re,rs,h⟩=>⟨env,st,ρ,re,rs,h.then λad H1 x aa e1 s1 h1 v rv=>by
  obtain ⟨k,rfl,h1⟩:=pq h1
  cases rv
  exact ⟨k,rfl,Out.now (x:=PV.bl (!k)) h1 s1 _ rfl⟩⟩
def zk:Ah:=λ_ st=>.ok [] st
def ze (f:Ai) (fs:Ah):Ah:=λenv st=>(f env st).bind λx aa=>(fs env aa).bind λxs ak=>.ok (x::xs) ak
variable {fs:Ah}
def zp:MA X Er [] zk:=PA.weak oy λU H Q ⟨env,st,ρ,re,rs,h⟩=>h.now rs [] rfl
def D4 (ha:ME X Er e fa) (hr:MA X Er es fs) (hs:starEach (e::es) X.env=(false,eval e X.env)::starEach es X.env:=by rfl):MA X Er (e::es) (ze fa fs) :=
 PA.weak (oz ha hr hs) λU H Q ⟨env,st,ρ,re,rs,h⟩=>⟨env,st,ρ,re,rs,h.then λad H1 x aa e1 s1 h1 v rv=>⟨env,aa,ad,re.ext e1,s1,h1.then λap H2 xs ak e2 s2 h2 vs ky =>
  h2.now s2 (v::vs) ⟨v,vs,rfl,R.ext e2 x rv,ky⟩⟩⟩
def yB (fs:Ah):Ai:=λenv st=>(fs env st).bind λxs aa=>if xs.length<=lim then .ok (.tup xs) aa else .stuck
def jh (fs:Ah):Ai:=λenv st=>(fs env st).bind λxs aa=>if xs.length<=lim then .ok (.ref aa.length) (aa++[.lst xs]) else .stuck
def R.tup_of {K:Frag}{mg:Ab}{ρ:Ae}{H:Hp}{xs:An}{vs:List V}{p:Addr}(r:Rs K mg ρ H xs vs) (hp:H p=none):R K mg ρ (upd H p (.tup vs)) (.tup xs) (.ref p) :=
 ⟨p,vs,rfl,bg.of yg,Rs.ext (Ext.new hp) xs r⟩
def jC {x1}(h:MA X Er es fs):ME X Er (.Tuple es x1 pos) (yB fs) :=
 PE.weak (Cn h) λU H Q ⟨env,st,ρ,re,rs,h⟩=>⟨env,st,ρ,re,rs,h.then λad H1 xs aa e1 s1 h1 vs rv=>by
  split at h1
  ·rename_i hl
   exact ⟨by rw [<-rv.len];exact yO hl,λp hp=>h1 ad _ (Ext.new hp) (s1.new hp) _ (R.tup_of rv hp)⟩
  ·exact h1.elim⟩
def Out.newList {K:Frag}{mg:Ab}{ρ:Ae}{H:Hp}{st:aj}{xs:An}{vs:List V}{p:Addr}{Q:VK}(h:Out K mg ρ H (.ok (.ref st.length) (st++[.lst xs])) (gV K mg Q) Er) (s:aP K mg ρ H st) (r:Rs K mg ρ H xs vs) (hp:H p=none):Q (.ref p) (upd H p (.lst vs)) :=
 h (ρ++[p]) _ (Ext.push hp) (s.push hp ⟨vs,yg,Rs.ext (Ext.push hp) xs r⟩) _ ⟨p,rfl,by rw [<-s.len];simp⟩
def jP (h:MA X Er es fs):ME X Er (.List es pos) (jh fs) :=
 PE.weak (Co h) λU H Q ⟨env,st,ρ,re,rs,h⟩=>⟨env,st,ρ,re,rs,h.then λad H1 xs aa e1 s1 h1 vs rv=>by
  split at h1
  ·rename_i hl
   exact ⟨by rw [<-rv.len];exact yO hl,λp hp=>Out.newList h1 s1 rv hp⟩
  ·exact h1.elim⟩
def D5 {r:R2}{op:Am}(ho:dY X r) (hm:cL X.K X.mg r op) (ha:ME X Er a fa) (hb:ME X Er b fb) (hs:eo b:=by exact λ_ _=>rfl):ME X Er (.Subscript a b pos) (zg op fa fb) :=
 PE.weak (CQ ho ha hb hs) λU H Q h=>mH hm h
end
end Mi
namespace HT
open PySem PySem.Spec PyProof.Rows
section
variable {prog:Program} {w:World} {A:Around} {E:Aa} {s:Shared}
def getItem_tuple_all {t sl:Addr}{items:Array Value}{vl vu:Value}{lo hi:Option Int}{Q:Aa}(ht:IsTup s.heap t items) (hs:s.heap.IsSliceOf sl vl vu .none) (pl:IsPart vl lo) (pu:IsPart vu hi)
  (hw:sIx items.size 0 lo=0/\sIx items.size items.size hi=items.size) (h:Q (.ref t) s)
  (hsz:items.size<=sizeLine):wpAny (model prog w) A (getItem (.ref t) (.ref sl)) Q E s:=by
 obtain ⟨os,gf,mf,i_⟩:=id hs
 have gg:s.TypeIs (.ref sl) "slice" := ⟨os,gf,mf⟩
 unfold getItem
 try with_reducible refine jn ?_
 first|refine zf (zn ?_)|skip
 refine zf (wpAny_sequenceKey ht.typeIs (by decide) ?_)
 refine zf (wpAny_callSpecial?_slot (name:=Str.ofString "__getitem__") ht.typeIs PyProof.Rows.slot_tuple_getitem
  (jA PyProof.Rows.slot_tuple_getitem ht.typeIs entry_tuple_getitem ?_ (args_tuple_getitem _ _)))
 show wpAny _ _ (Builtin.Tuple.tupleItemsOf (.ref t) >>= _) _ _ s
 refine zf (tupleItemsOf_ ht ?_)
 refine zf (wpAny_typeOf gg ?_)
 rw [zu (by decide)]
 refine zf (sj hs pl pu ?_)
 have tQ:(((sIx items.size 0 lo:Nat):Int)==0&&(1:Int)==1&&(sIx items.size items.size hi-sIx items.size 0 lo)==items.size)=true:=by
  rw [hw.1,hw.2];simp
 show wpAny _ _ (if (((sIx items.size 0 lo:Nat):Int)==0&&(1:Int)==1&&(sIx items.size items.size hi-sIx items.size 0 lo)==items.size)=true then _ else _) _ _ s
 rw [zu tQ]
 unfold Builtin.Tuple.tupleIsExact
 refine zf (zf (wpAny_typeOf ht.typeIs (zn ?_)))
 rw [zu (by decide)]
 exact zf (we (zn ⟨_,rfl,zn h⟩))
def cat_tup0 {t b:Addr}{ws:Af}{Q:Aa}(ht:IsTup s.heap t #[]) (hb:IsTup s.heap b ws.toArray) (h1:Q (.ref b) s):wpAny (model prog w) A (binaryOp .Add (.ref t) (.ref b)) Q E s:=by
 obtain ⟨⟨cls,dd,data,sl⟩,ho,hc,n,hd⟩:=id ht
 obtain ⟨⟨nV,f9,data2,f_⟩,eP,fI,n2,hd2⟩:=id hb
 simp only at hc hd fI hd2
 subst hc hd fI hd2
 exact concat_meets ⟨_,ho,rfl⟩ ⟨_,eP,rfl⟩ noFill_tuple_add seq_tuple_add PySem.F.slot_tuple_add PySem.F.entry_tuple_add (PySem.F.args_tuple_add_2 _ _)
   (tuple_addW0 t b #[] ws.toArray n n2 dd f9 sl f_ (by simp)) ⟨ho,eP,h1⟩
end
end HT
namespace Mi
open PySem L2 PySem.W PySem.Spec
section
variable {X:Cx} {Er:XK} {K:Frag} {mg:Ab}
def cY (X:Cx) (o:Operator) (op:Am):Prop:=∃r,aW X (binaryOp o) r/\cL X.K X.mg r op
def bK (X:Cx) (o:CmpOp) (op:Am):Prop:=∃r,aW X (compareOp o) r/\cL X.K X.mg r op
def kA (X:Cx) (op:Am):Prop:=∃r,dY X r/\cL X.K X.mg r op
def nY (X:Cx) (o:UnaryOp) (op:PV->Mo PV):Prop:=∃r,i3 X (unaryOp o) r/\tP X.K X.mg r op
variable {a b c e:Expr} {pos:Pos} {fa fb fc:Ai}
def zq {o:Operator}{op:Am}(h:cY X o op) (ha:ME X Er a fa) (hb:ME X Er b fb):ME X Er (.BinOp a o b pos) (zg op fa fb):=let ⟨_,h1,h2⟩:=h;DX h1 h2 ha hb
def jZ {o:CmpOp}{op:Am}(h:bK X o op) (ha:ME X Er a fa) (hb:ME X Er b fb) (hk:behindInMarks o b=false:=by first|exact gO _|with_unfolding_all rfl):ME X Er (.Compare a [o] [b] pos) (zg op fa fb):=let ⟨_,h1,h2⟩:=h;DY h1 h2 ha hb hk
def ja {o:CmpOp}{op:Am}(h:bK X o op) (ha:ME X Er a fa) (hb:ME X Er b fb) (hk:behindInMarks o b=false:=by first|exact gO _|with_unfolding_all rfl):MT X Er (.Compare a [o] [b] pos) (mB (zg op fa fb)):=let ⟨_,h1,h2⟩:=h;D0 h1 h2 ha hb hk
def D6 {o o':CmpOp}{op bA:Am}(h:bK X o op) (h':bK X o' bA) (ha:ME X Er a fa) (hb:ME X Er b fb) (hc:ME X Er c fc)
  (hk:lastMarks [o,o'] [b,c]=false:=by with_unfolding_all rfl):ME X Er (.Compare a [o,o'] [b,c] pos) (jY op bA fa fb fc):=let ⟨_,h1,h2⟩:=h;let ⟨_,h3,h4⟩:=h';D1 h1 h2 h3 h4 ha hb hc hk
def D7 {o o':CmpOp}{op bA:Am}(h:bK X o op) (h':bK X o' bA) (ha:ME X Er a fa) (hb:ME X Er b fb) (hc:ME X Er c fc)
  (hk:lastMarks [o,o'] [b,c]=false:=by with_unfolding_all rfl):MT X Er (.Compare a [o,o'] [b,c] pos) (mB (jY op bA fa fb fc)):=let ⟨_,h1,h2⟩:=h;let ⟨_,h3,h4⟩:=h';D2 h1 h2 h3 h4 ha hb hc hk
def yP {op:Am}(h:kA X op) (ha:ME X Er a fa) (hb:ME X Er b fb) (hs:eo b:=by exact λ_ _=>rfl):ME X Er (.Subscript a b pos) (zg op fa fb):=let ⟨_,h1,h2⟩:=h;D5 h1 h2 ha hb hs
def D8 {o:UnaryOp}{op:PV->Mo PV}(h:nY X o op) (ha:ME X Er a fa):ME X Er (.UnaryOp o a pos) (wJ op fa):=let ⟨_,h1,h2⟩:=h;D3 h1 h2 ha
def Out.ifp {α:Type}{ρ:Ae}{H:Hp}{p:Prop} [Decidable p] {r:Res α}{good:List Addr->Hp->α->aj->Prop}(h:Out K mg ρ H (if p then r else .stuck) good Er):p/\Out K mg ρ H r good Er:=by
 split at h
 ·rename_i hp;exact ⟨hp,h⟩
 ·exact h.elim
def zK {α:Type}(st:aj) (n:Nat) (k:List PV->Res α):Res α:=match st[n]? with
 |some (.lst xs)=>k xs
 |_=>.stuck
def yM {α:Type}(st:aj) (n:Nat) (k:List Str->List PV->Res α):Res α:=match st[n]? with
 |some (.dic ks xs)=>k ks xs
 |_=>.stuck
def D9 {α:Type}(st:aj) (n:Nat) (k:Str->List Str->List PV->Res α):Res α:=match st[n]? with
 |some (.ins c ks xs)=>k c ks xs
 |_=>.stuck
def yV {α:Type}{ρ:Ae}{H:Hp}{st:aj}{n:Nat}{k:List PV->Res α}{good:List Addr->Hp->α->aj->Prop}(h:Out K mg ρ H (zK st n k) good Er):∃xs,st[n]?=some (.lst xs)/\Out K mg ρ H (k xs) good Er:=by
 unfold zK at h
 split at h
 ·rename_i xs e;exact ⟨xs,e,h⟩
 ·exact h.elim
def tR {α:Type}{ρ:Ae}{H:Hp}{st:aj}{n:Nat}{k:List Str->List PV->Res α}{good:List Addr->Hp->α->aj->Prop}(h:Out K mg ρ H (yM st n k) good Er):∃ks xs,st[n]?=some (.dic ks xs)/\Out K mg ρ H (k ks xs) good Er:=by
 unfold yM at h
 split at h
 ·rename_i ks xs e;exact ⟨ks,xs,e,h⟩
 ·exact h.elim
def opI (C:Int->Int->Bool) (g:Int->Int->Int):Am
 |.int i,.int j,st=>if C i j=true then .ok (.int (g i j)) st else .stuck
 |_,_,_=>.stuck
def kB {C:Int->Int->Bool}{g:Int->Int->Int}{P:Int->Int->Prop}(hC:∀i j,C i j=true->P i j):cL K mg (rI P λi j=>.int (g i j)) (opI C g):=by
 intro ρ H st x y v w Q E s rx ry h
 cases x with
 |int i =>
  cases y with
  |int j =>
   cases rx;cases ry
   obtain ⟨c,h⟩:=Out.ifp h
   exact ⟨i,j,rfl,rfl,hC i j c,h.now s _ rfl⟩
  |_=>exact h.elim
 |_=>exact h.elim
abbrev c0:Int->Int->Bool:=λ_ _=>true
def D_ {g:Int->Int->V}{f:Value->Value->Sem Value}(h:aW X f (jX g)):aW X f (rI (λ_ _=>True) g):=λpins s U H x y v u Q I rx ry ⟨i,j,h1,h2,_,q⟩=>h pins s U H x y v u Q I rx ry ⟨i,j,h1,h2,q⟩
abbrev yW:=opI c0 λi j=>i-j
abbrev cj:Int->Int->Bool:=λi j=>(decide (-(2 ^ 64)<i)&&decide (i<2 ^ 64))||(decide (-(2 ^ 64)<j)&&decide (j<2 ^ 64))
abbrev tS:=opI cj λi j=>i*j
abbrev fS:Int->Int->Bool:=λi j=>decide (0<=j)&&decide (j<=1000000)&&decide (i.natAbs<2 ^ 64)
abbrev jp:=opI fS λi j=>i ^ j.toNat
abbrev cF:Int->Int->Bool:=λ_ j=>decide (j≠0)
def zI (i j:Int):Int:=if 0<j then i%j else i.fmod j
abbrev zJ:=opI cF zI
abbrev cZ:Int->Int->Bool:=λ_ j=>decide (j≠0)&&decide (j.natAbs<2 ^ 200)
def zY (i j:Int):Int:=if 0<j then i/j else i.fdiv j
abbrev yh:=opI cZ zY
def Ea (i j:Int):zI i j=i.fmod j:=by
 unfold zI;split
 ·rename_i h;rw [Int.fmod_eq_emod_of_nonneg _ (by omega)]
 ·rfl
def Eb (i j:Int):zY i j=i.fdiv j:=by
 unfold zY;split
 ·rename_i h;rw [Int.fdiv_eq_ediv_of_nonneg _ (by omega)]
 ·rfl
def j0:cY X .Sub yW:=⟨_,D_ BW,kB λ_ _ _=>trivial⟩
def Ec:cY X .Mult tS:=⟨_,BX,kB λi j h=>by simpa [cj,gM] using h⟩
def zaq:cY X .Pow jp:=⟨_,B0,kB λi j h=>by simp [fS] at h;exact ⟨h.1.1,h.1.2,h.2⟩⟩
def yc:cY X .Mod zJ:=⟨_,BZ,by
 have h:(λi j=>V.int (i.fmod j))=λi j=>V.int (zI i j):=by funext i j;rw [Ea]
 rw [h];exact kB λi j h=>by simpa [cF] using h⟩
def Ed {y:Int}(h:y.natAbs<2 ^ 200):y.natAbs.log2<9000:=by
 by_cases h0:y.natAbs=0
 ·rw [h0];decide
 ·have:=(Nat.log2_lt h0).mpr h
  omega
def Ee:aW X (binaryOp .FloorDiv) (rI (λ_ j=>j≠0/\j.natAbs<2 ^ 200) λi j=>.int (i.fdiv j)):=L2.opI λ_ _ _ _ _ _ _ hc q=>PyProof.Rows.floordiv_int hc.1 q (.inl (PyProof.noPylong_of_log2 (Ed hc.2)))
def yH:cY X .FloorDiv yh:=⟨_,Ee,by
 have h:(λi j=>V.int (i.fdiv j))=λi j=>V.int (zY i j):=by funext i j;rw [Eb]
 rw [h];exact kB λi j h=>by simpa [cZ] using h⟩
def h_:PV->Mo PV
 |.int i,st=>.ok (.int (-i)) st
 |_,_=>.stuck
def Ef:nY X .USub h_:=⟨_,B2,by
 intro ρ H st x v Q E s rx h
 cases x with
 |int i=>cases rx;exact ⟨i,rfl,Out.now (x:=PV.int (-i)) h s _ rfl⟩
 |_=>exact h.elim⟩
def zS:Am
 |.int i,.int j,st=>.ok (.int (i+j)) st
 |.str x,.str y,st=>if x.length+y.length<=lim then .ok (.str (x++y)) st else .stuck
 |.tup xs,.tup ys,st=>if xs.length+ys.length<=lim then .ok (.tup (xs++ys)) st else .stuck
 |.ref n,.ref m,st=>zK st n λxs=>zK st m λys=>if xs.length+ys.length<=lim then .ok (.ref st.length) (st++[.lst (xs++ys)]) else .stuck
 |_,_,_=>.stuck
def Eg (K:Frag):R2:=λx y H Q=>∃a b ys,x=.ref a/\y=.ref b/\bg K H a []/\bg K H b ys/\Q (.ref b) H
def Eh:aW X (binaryOp .Add) (Eg X.K):=by
 intro pins s U H x y v u Q I rx ry h
 obtain ⟨a,b,ys,rfl,rfl,h1,h2,q⟩:=h
 cases rx;cases ry
 obtain ⟨i1,r1,p1,_⟩:=I.tuple h1
 obtain ⟨i2,r2,p2,_⟩:=I.tuple h2
 cases r1
 exact HT.cat_tup0 p1 p2 ⟨.ref b,H,I,rfl,q⟩
def yC:cY X .Add zS:=⟨_,BV.or (Cb.or (Eh.or (CN.or C9))),by
 intro ρ H st x y v w Q E s rx ry h
 cases x with
 |int i =>
  cases y with
  |int j=>cases rx;cases ry;exact .inl ⟨i,j,rfl,rfl,Out.now (x:=PV.int (i+j)) h s _ rfl⟩
  |_=>exact h.elim
 |str i =>
  cases y with
  |str j =>
   cases rx;cases ry
   obtain ⟨c,h⟩:=Out.ifp h
   exact .inr (.inl ⟨i,j,rfl,rfl,yO c,h.now s _ rfl⟩)
  |_=>exact h.elim
 |tup xs =>
  cases y with
  |tup ys =>
   obtain ⟨p,vs,rfl,h1,h2⟩:=rx
   obtain ⟨q,ws,rfl,h3,h4⟩:=ry
   obtain ⟨c,h⟩:=Out.ifp h
   cases xs with
   |nil =>
    cases h2
    exact .inr (.inr (.inl ⟨p,q,ws,rfl,rfl,h1,h3,h.now s _ ⟨q,ws,rfl,h3,h4⟩⟩))
   |cons x0 Jp =>
    refine .inr (.inr (.inr (.inl ⟨p,q,vs,ws,rfl,rfl,h1,h3,?_,?_,λe=>?_,λ_ l hl=>?_⟩)))
    ·obtain ⟨v0,r0,e0,_⟩:=h2;rw [e0];simp
    ·rw [<-h2.len,<-h4.len];exact yO c
    ·subst e
     have:ys=[]:=by have:=h4.len;simpa using this
     subst this
     exact h.now s _ ⟨p,vs,rfl,h1,by simpa using h2⟩
    ·exact h ρ _ (Ext.new hl) (s.new hl) _ (R.tup_of (h2.append h4) hl)
  |_=>exact h.elim
 |ref n =>
  cases y with
  |ref m =>
   obtain ⟨p,rfl,hp⟩:=rx
   obtain ⟨q,rfl,hq⟩:=ry
   obtain ⟨xs,e1,h⟩:=yV h
   obtain ⟨ys,e2,h⟩:=yV h
   obtain ⟨c,h⟩:=Out.ifp h
   obtain ⟨vs,h1,h2⟩:=s.addr e1 hp
   obtain ⟨ws,h3,h4⟩:=s.addr e2 hq
   exact .inr (.inr (.inr (.inr ⟨p,q,vs,ws,rfl,rfl,h1,h3,by rw [<-h2.len,<-h4.len];exact yO c,λl hl=>Out.newList h s (h2.append h4) hl⟩)))
  |_=>exact h.elim
 |_=>exact h.elim⟩
def kC (g:Int->Int->Bool):Am
 |.int i,.int j,st=>.ok (.bl (g i j)) st
 |_,_,_=>.stuck
def pB {g:Int->Int->Bool}:cL K mg (jX λi j=>.bl (g i j)) (kC g):=by
 intro ρ H st x y v w Q E s rx ry h
 cases x with
 |int i =>
  cases y with
  |int j=>cases rx;cases ry;exact ⟨i,j,rfl,rfl,Out.now (x:=PV.bl (g i j)) h s _ rfl⟩
  |_=>exact h.elim
 |_=>exact h.elim
abbrev jD:=kC λi j=>decide (i<j)
abbrev ji:=kC λi j=>decide (i<=j)
abbrev pD:=kC λi j=>decide (j<i)
def zas:bK X .Lt jD:=⟨_,B4,pB⟩
def zat:bK X .LtE ji:=⟨_,B5,pB⟩
def zkg:bK X .Gt pD:=⟨_,B6,pB⟩
def pE {ρ:Ae}{H:Hp}{xs:An}{vs:List V}{i:Int}{x:PV}(r:Rs K mg ρ H xs vs) (h:bt xs i=some x):∃v,bt vs i=some v/\R K mg ρ H x v:=by
 unfold bt at h ⊢
 rw [<-r.len]
 cases hj:di xs.length i with
 |none=>rw [hj] at h;cases h
 |some j =>
  rw [hj] at h
  obtain ⟨v,h1,h2⟩:=r.get (show xs[j]?=some x from h)
  exact ⟨v,h1,h2⟩
def cJ:Option PV->Mo PV
 |some x,st=>.ok x st
 |none,_=>.stuck
def pF:Am
 |.tup xs,.int i,st=>cJ (bt xs i) st
 |.frl xs,.int i,st=>cJ (bt xs i) st
 |.str z,.int i,st=>if z.length<=lim then cJ ((bt z.cps.toList i).map λc=>.str ⟨#[c]⟩) st else .stuck
 |.ref n,.int i,st=>zK st n λxs=>cJ (bt xs i) st
 |_,_,_=>.stuck
def kD {ρ:Ae}{H:Hp}{o:Ao}{st:aj}{good}(h:Out K mg ρ H (cJ o st) good Er):∃x,o=some x/\Out K mg ρ H (.ok x st) good Er:=by
 cases o with
 |some x=>exact ⟨x,rfl,h⟩
 |none=>exact h.elim
def Ei:kA X pF:=⟨_,CW,by
 intro ρ H st x y v w Q E s rx ry h
 cases x with
 |tup xs =>
  cases y with
  |int i =>
   cases ry
   obtain ⟨p,vs,rfl,h1,h2⟩:=rx
   obtain ⟨x,e,h⟩:=kD h
   obtain ⟨v,h3,h4⟩:=pE h2 e
   exact .inr (.inl ⟨p,vs,i,v,rfl,rfl,h1,h3,h.now s _ h4⟩)
  |_=>exact h.elim
 |frl xs =>
  cases y with
  |int i =>
   cases ry
   obtain ⟨p,vs,rfl,h1,h2⟩:=rx
   obtain ⟨x,e,h⟩:=kD h
   obtain ⟨v,h3,h4⟩:=pE h2 e
   exact .inl ⟨p,vs,i,v,rfl,rfl,h1.sq,h3,h.now s _ h4⟩
  |_=>exact h.elim
 |str z =>
  cases y with
  |int i =>
   cases ry;cases rx
   obtain ⟨c,h⟩:=Out.ifp h
   obtain ⟨x,e,h⟩:=kD h
   cases hc:bt z.cps.toList i with
   |none=>rw [hc] at e;cases e
   |some k =>
    rw [hc] at e
    cases e
    exact .inr (.inr ⟨z,i,k,rfl,rfl,yO c,hc,h.now s _ rfl⟩)
  |_=>exact h.elim
 |ref n =>
  cases y with
  |int i =>
   cases ry
   obtain ⟨p,rfl,hp⟩:=rx
   obtain ⟨xs,e1,h⟩:=yV h
   obtain ⟨vs,h1,h2⟩:=s.addr e1 hp
   obtain ⟨x,e,h⟩:=kD h
   obtain ⟨v,h3,h4⟩:=pE h2 e
   exact .inl ⟨p,vs,i,v,rfl,rfl,aS.of h1,h3,h.now s _ h4⟩
  |_=>exact h.elim
 |_=>exact h.elim⟩
end
mutual
def plain:PV->Bool
 |.non=>true
 |.bl _=>true
 |.int _=>true
 |.str _=>true
 |.tup xs=>bF xs
 |_=>false
def bF:List PV->Bool
 |[]=>true
 |x::xs=>plain x&&bF xs
end
mutual
def dep:PV->Nat
 |.tup xs=>eI xs+1
 |_=>0
def eI:List PV->Nat
 |[]=>0
 |x::xs=>max (dep x) (eI xs)
end
mutual
def bo:PV->PV->Bool
 |.non,.non=>true
 |.bl a,.bl b=>a==b
 |.bl a,.int b=>(if a then 1 else 0)==b
 |.int a,.bl b=>a==(if b then 1 else 0)
 |.int a,.int b=>a==b
 |.str a,.str b=>a==b
 |.tup xs,.tup ys=>dQ xs ys
 |_,_=>false
def dQ:List PV->List PV->Bool
 |[],[]=>true
 |x::xs,y::ys=>bo x y&&dQ xs ys
 |_,_=>false
end
section
variable {X:Cx} {K:Frag} {mg:Ab} {ρ:Ae} {pins:Ac} {U:L2.St} {H:Hp} {s:Shared}
mutual
theorem tT (I:Inv X pins U H s):∀(x y:PV) {v:V},plain x=true->plain y=true->R X.K mg ρ H x v->R X.K mg ρ H y v->bo x y=true
 |.non,y,v,_,py,rx,ry=>by
  cases rx
  cases y with
  |non=>rfl
  |tup ys=>obtain ⟨_,_,e,_⟩:=ry;cases e
  |bl _=>cases ry
  |int _=>cases ry
  |str _=>cases ry
  |_=>cases py
 |.bl a,y,v,_,py,rx,ry=>by
  cases rx
  cases y with
  |bl b=>cases ry;simp [bo]
  |tup ys=>obtain ⟨_,_,e,_⟩:=ry;cases e
  |non=>cases ry
  |int _=>cases ry
  |str _=>cases ry
  |_=>cases py
 |.int a,y,v,_,py,rx,ry=>by
  cases rx
  cases y with
  |int b=>cases ry;simp [bo]
  |tup ys=>obtain ⟨_,_,e,_⟩:=ry;cases e
  |non=>cases ry
  |bl _=>cases ry
  |str _=>cases ry
  |_=>cases py
 |.str a,y,v,_,py,rx,ry=>by
  cases rx
  cases y with
  |str b=>cases ry;simp [bo]
  |tup ys=>obtain ⟨_,_,e,_⟩:=ry;cases e
  |non=>cases ry
  |bl _=>cases ry
  |int _=>cases ry
  |_=>cases py
 |.tup xs,y,v,px,py,rx,ry=>by
  obtain ⟨a,vs,rfl,h1,h2⟩:=rx
  cases y with
  |tup ys =>
   obtain ⟨b,ws,e,h3,h4⟩:=ry
   cases e
   have:=I.tuple_inj h1 h3
   subst this
   exact fT I xs ys px py h2 h4
  |non=>cases ry
  |bl _=>cases ry
  |int _=>cases ry
  |str _=>cases ry
  |_=>cases py
 |.ty _,_,_,px,_,_,_=>by cases px
 |.frl _,_,_,px,_,_,_=>by cases px
 |.ref _,_,_,px,_,_,_=>by cases px
 |.fn _,_,_,px,_,_,_=>by cases px
 |.kd _ _,_,_,px,_,_,_=>by cases px
 |.exo _ _ _,_,_,px,_,_,_=>by cases px
theorem fT (I:Inv X pins U H s):∀(xs ys:An) {vs:List V},bF xs=true->bF ys=true->Rs X.K mg ρ H xs vs->Rs X.K mg ρ H ys vs->dQ xs ys=true
 |[],ys,vs,_,py,rx,ry=>by
  cases rx
  cases ys with
  |nil=>rfl
  |cons y ys=>obtain ⟨_,_,e,_⟩:=ry;cases e
 |x::xs,ys,vs,px,py,rx,ry=>by
  obtain ⟨v,r,rfl,h1,h2⟩:=rx
  cases ys with
  |nil=>cases ry
  |cons y ys =>
   obtain ⟨v',r',e,h3,h4⟩:=ry
   cases e
   simp only [bF,yA] at px py
   simp only [dQ,yA]
   exact ⟨tT I x y px.1 py.1 h1 h3,fT I xs ys px.2 py.2 h2 h4⟩
end
def dq (xs ys:An) (j:Nat):Bool:=match xs[j]?,ys[j]? with
 |some x,some y=>bo x y
 |_,_=>true
theorem tU:∀(xs ys:An),((List.range (min xs.length ys.length)).all (dq xs ys)&&xs.length==ys.length)=dQ xs ys
 |[],[]=>rfl
 |[],y::ys=>by simp [dQ]
 |x::xs,[]=>by simp [dQ]
 |x::xs,y::ys=>by
  have ih:=tU xs ys
  have e1:min (x::xs).length (y::ys).length=min xs.length ys.length+1:=by simp only [jM];omega
  have e2:((x::xs).length==(y::ys).length)=(xs.length==ys.length):=by
   rw [Bool.eq_iff_iff];simp
  rw [e1,e2,List.range_succ_eq_map,List.all_cons,List.all_map]
  have e3:(dq (x::xs) (y::ys)∘Nat.succ)=dq xs ys:=by
   funext j
   simp [dq]
  rw [e3,Bool.and_assoc,ih]
  simp [dQ,dq]
theorem pG:∀{xs:An}{i:Nat}{x:PV},xs[i]?=some x->dep x<=eI xs
 |[],_,_,e=>by simp at e
 |y::xs,0,x,e=>by simp at e;subst e;simp only [eI];omega
 |y::xs,i+1,x,e=>by
  simp at e
  have:=pG e
  simp only [eI];omega
theorem mJ:∀{xs:An}{i:Nat}{x:PV},bF xs=true->xs[i]?=some x->plain x=true
 |[],_,_,_,e=>by simp at e
 |y::xs,0,x,p,e=>by simp at e;subst e;simp only [bF,yA] at p;exact p.1
 |y::xs,i+1,x,p,e=>by
  simp at e
  simp only [bF,yA] at p
  exact mJ p.2 e
def ia (A:Around):A.in1.units=A.units+1:=rfl
def pH (I:Inv X pins U H s):∀(n:Nat) (x y:PV) {v w:V}{u u':Value}(A:Around),dep x<=n->plain x=true->plain y=true->R X.K mg ρ H x v->R X.K mg ρ H y w->RelV v u->RelV w u'->A.units+n<cLine ->
  SeqAt.EqAt A s u u' (bo x y)/\SeqAt.RcAt A s u u' (bo x y)/\SeqAt.RcNeAt A s u u' (!bo x y):=by
 intro n
 induction n with
 |zero =>
  intro x y v w u u' A hd px py rx ry rv rw hu
  cases x with
  |tup xs=>simp only [dep] at hd;omega
  |non =>
   cases rx;cases rv
   cases y with
   |non=>cases ry;cases rw;exact ⟨.same _,.none_none,.none_none⟩
   |bl b=>cases ry;cases rw;exact ⟨.none_bool b,.none_bool b,.none_bool b⟩
   |int b=>cases ry;obtain ⟨t,rfl⟩:=rw;exact ⟨.none_int b t,.none_int b t,.none_int b t⟩
   |str b=>cases ry;obtain ⟨t,rfl⟩:=rw;exact ⟨.none_str b t,.none_str b t,.none_str b t⟩
   |tup ys =>
    obtain ⟨p,ws,rfl,h1,h2⟩:=ry
    cases rw
    obtain ⟨its,_,pl,_⟩:=I.tuple h1
    exact ⟨.none_tuple pl (by omega),.none_tuple pl (by omega),.none_tuple pl (by omega)⟩
   |_=>cases py
  |bl a =>
   cases rx;cases rv
   cases y with
   |non=>cases ry;cases rw;exact ⟨.bool_none a,.bool_none a,.bool_none a⟩
   |bl b=>cases ry;cases rw;exact ⟨.bool_bool a b,.bool_bool a b,.bool_bool a b⟩
   |int b=>cases ry;obtain ⟨t,rfl⟩:=rw;exact ⟨.bool_int a b t,.bool_int a b t,.bool_int a b t⟩
   |str b=>cases ry;obtain ⟨t,rfl⟩:=rw;exact ⟨.bool_str a b t,.bool_str a b t,.bool_str a b t⟩
   |tup ys =>
    obtain ⟨p,ws,rfl,h1,h2⟩:=ry
    cases rw
    obtain ⟨its,_,pl,_⟩:=I.tuple h1
    exact ⟨.bool_tuple a pl (by omega),.bool_tuple a pl (by omega),.bool_tuple a pl (by omega)⟩
   |_=>cases py
  |int a =>
   cases rx;obtain ⟨t0,rfl⟩:=rv
   cases y with
   |non=>cases ry;cases rw;exact ⟨.int_none a t0,.int_none a t0,.int_none a t0⟩
   |bl b=>cases ry;cases rw;exact ⟨.int_bool a t0 b,.int_bool a t0 b,.int_bool a t0 b⟩
   |int b=>cases ry;obtain ⟨t,rfl⟩:=rw;exact ⟨.int_int a t0 b t,.int_int a t0 b t,.int_int a t0 b t⟩
   |str b=>cases ry;obtain ⟨t,rfl⟩:=rw;exact ⟨.int_str a t0 b t,.int_str a t0 b t,.int_str a t0 b t⟩
   |tup ys =>
    obtain ⟨p,ws,rfl,h1,h2⟩:=ry
    cases rw
    obtain ⟨its,_,pl,_⟩:=I.tuple h1
    exact ⟨.int_tuple a t0 pl (by omega),.int_tuple a t0 pl (by omega),.int_tuple a t0 pl (by omega)⟩
   |_=>cases py
  |str a =>
   cases rx;obtain ⟨t0,rfl⟩:=rv
   cases y with
   |non=>cases ry;cases rw;exact ⟨.str_none a t0,.str_none a t0,.str_none a t0⟩
   |bl b=>cases ry;cases rw;exact ⟨.str_bool a t0 b,.str_bool a t0 b,.str_bool a t0 b⟩
   |int b=>cases ry;obtain ⟨t,rfl⟩:=rw;exact ⟨.str_int a t0 b t,.str_int a t0 b t,.str_int a t0 b t⟩
   |str b=>cases ry;obtain ⟨t,rfl⟩:=rw;exact ⟨.str_str a t0 b t,.str_str a t0 b t,.str_str a t0 b t⟩
   |tup ys =>
    obtain ⟨p,ws,rfl,h1,h2⟩:=ry
    cases rw
    obtain ⟨its,_,pl,_⟩:=I.tuple h1
    exact ⟨.str_tuple a t0 pl (by omega),.str_tuple a t0 pl (by omega),.str_tuple a t0 pl (by omega)⟩
   |_=>cases py
  |_=>cases px
 |succ n ih =>
  intro x y v w u u' A hd px py rx ry rv rw hu
  cases x with
  |tup xs =>
   obtain ⟨a,vs,rfl,h1,h2⟩:=id rx
   cases rv
   obtain ⟨its,r1,p1,_⟩:=I.tuple h1
   cases y with
   |non=>cases ry;cases rw;exact ⟨.tuple_none p1 (by omega),.tuple_none p1 (by omega),.tuple_none p1 (by omega)⟩
   |bl b=>cases ry;cases rw;exact ⟨.tuple_bool b p1 (by omega),.tuple_bool b p1 (by omega),.tuple_bool b p1 (by omega)⟩
   |int b=>cases ry;obtain ⟨t,rfl⟩:=rw;exact ⟨.tuple_int b t p1 (by omega),.tuple_int b t p1 (by omega),.tuple_int b t p1 (by omega)⟩
   |str b=>cases ry;obtain ⟨t,rfl⟩:=rw;exact ⟨.tuple_str b t p1 (by omega),.tuple_str b t p1 (by omega),.tuple_str b t p1 (by omega)⟩
   |tup ys =>
    obtain ⟨b,ws,rfl,h3,h4⟩:=id ry
    cases rw
    obtain ⟨aK,r2,p2,_⟩:=I.tuple h3
    have l1:=h2.len
    have l2:=h4.len
    have l3:=r1.length
    have l4:=r2.length
    have item:∀j (g1:j<its.toArray.size) (g2:j<aK.toArray.size),SeqAt.EqAt A.in1 s its.toArray[j] aK.toArray[j] (dq xs ys j):=λj g1 g2=>by
     have k1:j<xs.length:=by rw [l1,l3];simpa using g1
     have k2:j<ys.length:=by rw [l2,l4];simpa using g2
     obtain ⟨v1,e1,pI⟩:=h2.get (zR k1)
     obtain ⟨v2,e2,rr2⟩:=h4.get (zR k2)
     obtain ⟨u1,f1,pJ⟩:=r1.get e1
     obtain ⟨u2,f2,pK⟩:=r2.get e2
     have w1:its.toArray[j]=u1:=by
      obtain ⟨_,z⟩:=zM.mp f1
      simpa using z
     have w2:aK.toArray[j]=u2:=by
      obtain ⟨_,z⟩:=zM.mp f2
      simpa using z
     have ej:dq xs ys j=bo xs[j] ys[j]:=by
      unfold dq
      rw [zR k1,zR k2]
     rw [w1,w2,ej]
     have Jq:=pG (zR k1)
     simp only [dep] at hd
     exact (ih xs[j] ys[j] A.in1 (by omega) (mJ px (zR k1)) (mJ py (zR k2)) pI rr2 pJ pK (by rw [ia];omega)).1
    have nZ:((List.range (min its.toArray.size aK.toArray.size)).all (dq xs ys)&&its.toArray.size==aK.toArray.size)=bo (.tup xs) (.tup ys):=by
     have e:=tU xs ys
     rw [l1,l2,l3,l4] at e
     simpa [bo] using e
    have rc:SeqAt.RcAt A s (.ref a) (.ref b) (bo (.tup xs) (.tup ys)):=by
     rw [<-nZ]
     exact SeqAt.RcAt.tuples (show s.heap.IsTuple a its.toArray from p1) (show s.heap.IsTuple b aK.toArray from p2) (by omega) item
    refine ⟨?_,rc,?_⟩
    ·by_cases gy:a=b
     ·subst gy
      rw [tT I (.tup xs) (.tup ys) px py rx ry]
      exact .same _
     ·exact .of_refs gy rc
    ·rw [<-nZ]
     exact SeqAt.RcNeAt.tuples (show s.heap.IsTuple a its.toArray from p1) (show s.heap.IsTuple b aK.toArray from p2) (by omega) item
   |_=>cases py
  |non=>exact ih _ y A (y1 _) px py rx ry rv rw (by omega)
  |bl a=>exact ih _ y A (y1 _) px py rx ry rv rw (by omega)
  |int a=>exact ih _ y A (y1 _) px py rx ry rv rw (by omega)
  |str a=>exact ih _ y A (y1 _) px py rx ry rv rw (by omega)
  |_=>cases px
def yy:Am:=λx y st=>if plain x=true/\plain y=true/\dep x<=150 then .ok (.bl (bo x y)) st else .stuck
def Ej (K:Frag) (mg:Ab) (f:Bool->Bool):R2:=λv w H Q=>∃ρ x y,plain x=true/\plain y=true/\dep x<=150/\R K mg ρ H x v/\R K mg ρ H y w/\Q (.bl (f (bo x y))) H
def Ek (hu:X.A.units+200<cLine):aW X (compareOp .Eq) (Ej X.K X.mg id):=by
 intro pins s U H x y v u Q I rx ry h
 obtain ⟨ρ,a,b,pa,pb,hd,ra,rb,q⟩:=h
 exact PySem.EqBoolInt.of_rc (pH I 150 a b X.A hd pa pb ra rb rx ry (by omega)).2.1 ⟨.bl _,H,I,rfl,q⟩
def jq (hu:X.A.units+200<cLine):bK X .Eq yy:=⟨_,Ek hu,fun ρ H st x y v w Q E s rx ry h=>by
 obtain ⟨⟨p1,p2,p3⟩,h⟩:=Out.ifp h
 exact ⟨ρ,x,y,p1,p2,p3,rx,ry,h.now s _ rfl⟩⟩
end
section
variable {X:Cx} {Er:XK} {K:Frag} {mg:Ab} {a b c e:Expr} {es:List Expr} {pos:Pos} {fa:Ai} {fs:Ah}
def El (K:Frag) (mg:Ab) (Er:XK) (f:zc->Mo (Option Int)):TO:=λU H Q=>∃env st ρ,aU K mg ρ H env U/\aP K mg ρ H st/\Out K mg ρ H (f env st) (λ_ H' o _=>Q o H') Er
def MO (X:Cx) (Er:XK) (e:Option Expr) (f:zc->Mo (Option Int)):Prop:=PO X e (El X.K X.mg Er f)
def ba:zc->Mo (Option Int):=λ_ st=>.ok none st
def pL:PV->Mo (Option Int)
 |.int i,st=>.ok (some i) st
 |_,_=>.stuck
def bf (f:Ai):zc->Mo (Option Int):=λenv st=>(f env st).bind pL
def PO.weak {o:Option Expr}{t t':TO}(h:PO X o t) (w:∀U H Q,t' U H Q->t U H Q):PO X o t':=λpins s U H Q I q=>h pins s U H Q I (w U H Q q)
def jQ:MO X Er none ba:=PO.weak CG λU H Q ⟨env,st,ρ,re,rs,h⟩=>h.now rs
def jR (h:ME X Er e fa):MO X Er (some e) (bf fa):=PO.weak (CH h) λU H Q ⟨env,st,ρ,re,rs,h⟩=>⟨env,st,ρ,re,rs,h.then λad H1 x aa e1 s1 h1 v rv=>by
 cases x with
 |int i=>cases rv;exact ⟨i,rfl,Out.now (x:=some i) h1 s1⟩
 |_=>exact h1.elim⟩
def bC (xs:An) (lo hi:Option Int):An:=(xs.drop (HT.sIx xs.length 0 lo)).take (HT.sIx xs.length xs.length hi-HT.sIx xs.length 0 lo)
def j1:PV->Option Int->Option Int->Mo PV
 |.tup xs,lo,hi,st=>.ok (.tup (bC xs lo hi)) st
 |.frl xs,lo,hi,st=>.ok (.ref st.length) (st++[.lst (bC xs lo hi)])
 |.ref n,lo,hi,st=>zK st n λxs=>.ok (.ref st.length) (st++[.lst (bC xs lo hi)])
 |.str z,lo,hi,st=>if z.length<=lim then .ok (.str (Txt.slice z lo hi)) st else .stuck
 |_,_,_,_=>.stuck
def Rs.cut {ρ:Ae}{H:Hp}{xs:An}{vs:List V}(r:Rs K mg ρ H xs vs) (lo hi:Option Int):Rs K mg ρ H (bC xs lo hi) (dO vs lo hi):=by
 unfold bC dO
 rw [r.len]
 exact (r.drop _).take _
def Em (K:Frag):V->Option Int->Option Int->Hp->VK->Prop:=λx lo hi H Q=>∃a xs,x=.ref a/\bg K H a xs/\(HT.sIx xs.length 0 lo=0/\HT.sIx xs.length xs.length hi=xs.length)/\Q (.ref a) H
def En:ff X (Em X.K):=by
 intro pins s U H x v vl vu lo hi sl Q I rx hs pl pu h
 obtain ⟨a,xs,rfl,hx,hw,q⟩:=h
 cases rx
 obtain ⟨its,r,ht,hz⟩:=I.tuple hx
 have hlen:its.toArray.size=xs.length:=by rw [yf];exact r.length.symm
 refine ⟨"tuple", _,PyProof.Rows.slot_tuple_getitem.lookup,ht.typeIs,?_⟩
 exact HT.getItem_tuple_all ht hs pl pu (by rw [hlen];exact hw) ⟨.ref a,H,I,rfl,q⟩ (by rw [hlen];exact hz)
def yI (fa:Ai) (fl fu:zc->Mo (Option Int)):Ai:=λenv st=>(fa env st).bind λx aa=>(fl env aa).bind λl ak=>(fu env ak).bind λu aL=>j1 x l u aL
def jS {lo hi:Option Expr}{fl fu:zc->Mo (Option Int)}{p2:Pos}(ha:ME X Er a fa) (hl:MO X Er lo fl) (hu:MO X Er hi fu):ME X Er (.Subscript a (.Slice lo hi none p2) pos) (yI fa fl fu) :=
 PE.weak (CJ (CL.or (En.or (C2.or Ds))) ha hl hu) λU H Q ⟨env,st,ρ,re,rs,h⟩=>⟨env,st,ρ,re,rs,h.then λad H1 x aa e1 s1 h1 v rv=>⟨env,aa,ad,re.ext e1,s1,h1.then λap H2 l ak e2 s2 h2 =>
  ⟨env,ak,ap,(re.ext e1).ext e2,s2,h2.then λam H3 u aL e3 s3 h3=>by
  have rv:=R.ext e3 x (R.ext e2 x rv)
  cases x with
  |tup xs =>
   obtain ⟨p,vs,rfl,k1,k2⟩:=rv
   by_cases hw:HT.sIx vs.length 0 l=0/\HT.sIx vs.length vs.length u=vs.length
   ·refine .inr (.inl ⟨p,vs,rfl,k1,hw,Out.now (x:=PV.tup (bC xs l u)) h3 s3 _ ⟨p,vs,rfl,k1,?_⟩⟩)
    have:bC xs l u=xs:=by
     unfold bC
     rw [k2.len,hw.1,hw.2]
     simp [<-k2.len]
    rw [this];exact k2
   ·exact .inl ⟨p,vs,rfl,k1,hw,λq hq=>h3 am _ (Ext.new hq) (s3.new hq) _ (R.tup_of (k2.cut l u) hq)⟩
  |frl xs =>
   obtain ⟨p,vs,rfl,k1,k2⟩:=rv
   exact .inr (.inr (.inl ⟨p,vs,rfl,k1.sq,λq hq=>Out.newList (xs:=bC xs l u) h3 s3 (k2.cut l u) hq⟩))
  |ref n =>
   obtain ⟨p,rfl,hp⟩:=rv
   obtain ⟨xs,k0,h3⟩:=yV h3
   obtain ⟨vs,k1,k2⟩:=s3.addr k0 hp
   exact .inr (.inr (.inl ⟨p,vs,rfl,aS.of k1,λq hq=>Out.newList (xs:=bC xs l u) h3 s3 (k2.cut l u) hq⟩))
  |str z =>
   cases rv
   obtain ⟨k0,h3⟩:=Out.ifp h3
   exact .inr (.inr (.inr ⟨z,rfl,yO k0,h3.now s3 _ rfl⟩))
  |_=>exact h3.elim⟩⟩⟩
def pM (K:Frag) (mg:Ab) (r:List V->Hp->VK->Prop) (op:Al):Prop:=∀ρ H st xs vs (Q:VK) (E:XK),aP K mg ρ H st->Rs K mg ρ H xs vs->Out K mg ρ H (op xs st) (gV K mg Q) E->r vs H Q
def cq (X:Cx) (f:Value) (op:Al):Prop:=∃r,bH X f r/\pM X.K X.mg r op
def zo (op:Al) (fs:Ah):Ai:=λenv st=>(fs env st).bind op
def zT {x:Str} {id:String} {op:Al} {p:Pos} (h:cq X (.builtin id) op) (hm:X.mg x=none) (hv:bootBuiltins x=some (.builtin id)) (ha:MA X Er (e::es) fs) (hg:Gl X x:=by rfl) (hn:x ≠ "__name__" := by decide) (ef:(x==("__debug__" : Str))=false:=by decide)
  (he:starEach (e::es) X.env=(false,eval e X.env)::starEach es X.env:=by rfl) (bS:(backTo pos (starEach es X.env)).any (·.1)=false:=by rfl):ME X Er (.Call (.Name x p) (e::es) [] pos) (zo op fs):=by
 obtain ⟨r,h1,h2⟩:=h
 exact PE.weak (Cu h1 hg hm hv ha hn ef he bS) λU H Q ⟨env,st,ρ,re,rs,h⟩=>⟨env,st,ρ,re,rs,h.then λad H1 xs aa e1 s1 k vs rv=>h2 ad H1 aa xs vs Q Er s1 rv k⟩
def pN {x:Str} {T:String} {op:Al} {p:Pos} (h:cq X (.type T) op) (hm:X.mg x=none) (hv:bootBuiltins x=some (.type T)) (ha:MA X Er (e::es) fs) (hg:Gl X x:=by rfl) (hn:x ≠ "__name__" := by decide) (ef:(x==("__debug__" : Str))=false:=by decide)
  (he:starEach (e::es) X.env=(false,eval e X.env)::starEach es X.env:=by rfl) (bS:(backTo pos (starEach es X.env)).any (·.1)=false:=by rfl):ME X Er (.Call (.Name x p) (e::es) [] pos) (zo op fs):=by
 obtain ⟨r,h1,h2⟩:=h
 exact PE.weak (Cw h1 hg hm hv ha hn ef he bS) λU H Q ⟨env,st,ρ,re,rs,h⟩=>⟨env,st,ρ,re,rs,h.then λad H1 xs aa e1 s1 k vs rv=>h2 ad H1 aa xs vs Q Er s1 rv k⟩
def jE {x:Str} {n:String} (hm:X.mg x=none) (hv:bootBuiltins x=some (.type n)) (hg:Gl X x:=by rfl) (hn:x ≠ "__name__" := by decide) (hd:(x==("__debug__" : Str))=false:=by decide):ME X Er (.Name x pos) (mC (.ty n)) :=
 hX (A5 (v:=.ty n) hg hm hv rfl hn hd) λ_ _=>rfl
def Rs.one {ρ:Ae}{H:Hp}{x:PV}{vs:List V}(r:Rs K mg ρ H [x] vs):∃v,vs=[v]/\R K mg ρ H x v:=by
 obtain ⟨v,r',rfl,h,h'⟩:=r
 cases h'
 exact ⟨v,rfl,h⟩
def Rs.two {ρ:Ae}{H:Hp}{x y:PV}{vs:List V}(r:Rs K mg ρ H [x,y] vs):∃v w,vs=[v,w]/\R K mg ρ H x v/\R K mg ρ H y w:=by
 obtain ⟨v,r',rfl,h,h'⟩:=r
 obtain ⟨w,rfl,h2⟩:=Rs.one h'
 exact ⟨v,w,rfl,h,h2⟩
def zZ:Al
 |[.tup xs],st=>.ok (.int xs.length) st
 |[.frl xs],st=>.ok (.int xs.length) st
 |[.str z],st=>if z.length<=lim then .ok (.int z.length) st else .stuck
 |[.ref n],st=>zK st n λxs=>.ok (.int xs.length) st
 |_,_=>.stuck
def jj:cq X (.builtin "len") zZ:=⟨_,Ce,fun ρ H st xs vs Q E s r h=>by
 match xs,r,h with
 |[.tup ys],r,h =>
  obtain ⟨v,rfl,p,ws,rfl,h1,h2⟩:=Rs.one r
  exact ⟨_,ws.length,rfl,.inr ⟨ws,h1,rfl⟩,by rw [<-h2.len];exact Out.now (x:=PV.int ys.length) h s _ rfl⟩
 |[.frl ys],r,h =>
  obtain ⟨v,rfl,p,ws,rfl,h1,h2⟩:=Rs.one r
  exact ⟨_,ws.length,rfl,.inl ⟨ws,h1.sq,rfl⟩,by rw [<-h2.len];exact Out.now (x:=PV.int ys.length) h s _ rfl⟩
 |[.str z],r,h =>
  obtain ⟨v,rfl,rfl⟩:=Rs.one r
  obtain ⟨c,h⟩:=Out.ifp h
  exact ⟨_,z.length,rfl,⟨yO c,rfl⟩,h.now s _ rfl⟩
 |[.ref n],r,h =>
  obtain ⟨v,rfl,p,rfl,hp⟩:=Rs.one r
  obtain ⟨ys,e,h⟩:=yV h
  obtain ⟨ws,h1,h2⟩:=s.addr e hp
  exact ⟨_,ws.length,rfl,.inl ⟨ws,aS.of h1,rfl⟩,by rw [<-h2.len];exact h.now s _ rfl⟩
 |[],r,h=>exact h.elim
 |[.non],r,h=>exact h.elim
 |[.bl _],r,h=>exact h.elim
 |[.int _],r,h=>exact h.elim
 |[.ty _],r,h=>exact h.elim
 |[.fn _],r,h=>exact h.elim
 |[.kd _ _],r,h=>exact h.elim
 |[.exo _ _ _],r,h=>exact h.elim
 |x::y::r',r,h=>cases x<;>exact h.elim⟩
def pO:Al
 |[.tup xs],st=>.ok (.ref st.length) (st++[.lst xs])
 |[.frl xs],st=>.ok (.ref st.length) (st++[.lst xs])
 |[.ref n],st=>zK st n λxs=>.ok (.ref st.length) (st++[.lst xs])
 |_,_=>.stuck
def Eo:cq X (.type "list") pO:=⟨_,C3,fun ρ H st xs vs Q E s r h=>by
 match xs,r,h with
 |[.tup ys],r,h =>
  obtain ⟨v,rfl,p,ws,rfl,h1,h2⟩:=Rs.one r
  exact ⟨p,ws,rfl,.inr h1,λl hl=>Out.newList (xs:=ys) h s h2 hl⟩
 |[.frl ys],r,h =>
  obtain ⟨v,rfl,p,ws,rfl,h1,h2⟩:=Rs.one r
  exact ⟨p,ws,rfl,.inl h1.sq,λl hl=>Out.newList (xs:=ys) h s h2 hl⟩
 |[.ref n],r,h =>
  obtain ⟨v,rfl,p,rfl,hp⟩:=Rs.one r
  obtain ⟨ys,e,h⟩:=yV h
  obtain ⟨ws,h1,h2⟩:=s.addr e hp
  exact ⟨p,ws,rfl,.inl (aS.of h1),λl hl=>Out.newList (xs:=ys) h s h2 hl⟩
 |[],r,h=>exact h.elim
 |[.non],r,h=>exact h.elim
 |[.bl _],r,h=>exact h.elim
 |[.int _],r,h=>exact h.elim
 |[.str _],r,h=>exact h.elim
 |[.ty _],r,h=>exact h.elim
 |[.fn _],r,h=>exact h.elim
 |[.kd _ _],r,h=>exact h.elim
 |[.exo _ _ _],r,h=>exact h.elim
 |x::y::r',r,h=>cases x<;>exact h.elim⟩
def wM:Al
 |[.tup xs],st=>.ok (.tup xs) st
 |[.frl xs],st=>.ok (.tup xs) st
 |[.ref n],st=>zK st n λxs=>.ok (.tup xs) st
 |_,_=>.stuck
def tV:cq X (.type "tuple") wM:=⟨_,C4,fun ρ H st xs vs Q E s r h=>by
 match xs,r,h with
 |[.tup ys],r,h =>
  obtain ⟨v,rfl,p,ws,rfl,h1,h2⟩:=Rs.one r
  exact ⟨p,ws,rfl,.inr ⟨h1,Out.now (x:=PV.tup ys) h s _ ⟨p,ws,rfl,h1,h2⟩⟩⟩
 |[.frl ys],r,h =>
  obtain ⟨v,rfl,p,ws,rfl,h1,h2⟩:=Rs.one r
  exact ⟨p,ws,rfl,.inl ⟨h1.sq,λl hl=>h ρ _ (Ext.new hl) (s.new hl) _ (R.tup_of h2 hl)⟩⟩
 |[.ref n],r,h =>
  obtain ⟨v,rfl,p,rfl,hp⟩:=Rs.one r
  obtain ⟨ys,e,h⟩:=yV h
  obtain ⟨ws,h1,h2⟩:=s.addr e hp
  exact ⟨p,ws,rfl,.inl ⟨aS.of h1,λl hl=>h ρ _ (Ext.new hl) (s.new hl) _ (R.tup_of h2 hl)⟩⟩
 |[],r,h=>exact h.elim
 |[.non],r,h=>exact h.elim
 |[.bl _],r,h=>exact h.elim
 |[.int _],r,h=>exact h.elim
 |[.str _],r,h=>exact h.elim
 |[.ty _],r,h=>exact h.elim
 |[.fn _],r,h=>exact h.elim
 |[.kd _ _],r,h=>exact h.elim
 |[.exo _ _ _],r,h=>exact h.elim
 |x::y::r',r,h=>cases x<;>exact h.elim⟩
def bj (T n:String):Option Bool :=
 if T = "int" then (if n = "int" then some true else if n = "bool" \/ n = "str" \/ n = "tuple" \/ n = "dict" \/ n = "list" then some false else none)
 else if T = "bool" then (if n = "int" \/ n = "bool" then some true else if n = "str" \/ n = "tuple" \/ n = "dict" \/ n = "list" then some false else none)
 else if T = "str" then (if n = "str" then some true else if n = "int" \/ n = "bool" \/ n = "tuple" \/ n = "dict" \/ n = "list" then some false else none)
 else if T = "tuple" then (if n = "tuple" then some true else if n = "int" \/ n = "bool" \/ n = "str" \/ n = "dict" \/ n = "list" then some false else none)
 else if T = "list" then (if n = "list" then some true else if n = "int" \/ n = "bool" \/ n = "str" \/ n = "dict" \/ n = "tuple" then some false else none)
 else if T = "dict" then (if n = "dict" then some true else if n = "int" \/ n = "bool" \/ n = "str" \/ n = "list" \/ n = "tuple" then some false else none)
 else if T = "NoneType" then (if n = "int" \/ n = "bool" \/ n = "str" \/ n = "list" \/ n = "tuple" \/ n = "dict" then some false else none)
 else none
def Ep (K:Frag) {T n:String}{b:Bool}(h:bj T n=some b):PySem.W.kitOne K (.type T) (.type n)=some b:=by
 unfold bj at h
 split at h
 ·rename_i e;subst e
  split at h
  ·rename_i e;subst e;cases h;first|rfl|kernel_rfl
  ·split at h
   ·rename_i e;cases h;rcases e with e|e|e|e|e<;>subst e<;>first|rfl|kernel_rfl
   ·cases h
 ·split at h
  ·rename_i e;subst e
   split at h
   ·rename_i e;cases h;rcases e with e|e<;>subst e<;>first|rfl|kernel_rfl
   ·split at h
    ·rename_i e;cases h;rcases e with e|e|e|e<;>subst e<;>first|rfl|kernel_rfl
    ·cases h
  ·split at h
   ·rename_i e;subst e
    split at h
    ·rename_i e;subst e;cases h;first|rfl|kernel_rfl
    ·split at h
     ·rename_i e;cases h;rcases e with e|e|e|e|e<;>subst e<;>first|rfl|kernel_rfl
     ·cases h
   ·split at h
    ·rename_i e;subst e
     split at h
     ·rename_i e;subst e;cases h;first|rfl|kernel_rfl
     ·split at h
      ·rename_i e;cases h;rcases e with e|e|e|e|e<;>subst e<;>first|rfl|kernel_rfl
      ·cases h
    ·split at h
     ·rename_i e;subst e
      split at h
      ·rename_i e;subst e;cases h;first|rfl|kernel_rfl
      ·split at h
       ·rename_i e;cases h;rcases e with e|e|e|e|e<;>subst e<;>first|rfl|kernel_rfl
       ·cases h
     ·split at h
      ·rename_i e;subst e
       split at h
       ·rename_i e;subst e;cases h;first|rfl|kernel_rfl
       ·split at h
        ·rename_i e;cases h;rcases e with e|e|e|e|e<;>subst e<;>first|rfl|kernel_rfl
        ·cases h
      ·split at h
       ·rename_i e;subst e
        split at h
        ·rename_i e;cases h;rcases e with e|e|e|e|e|e<;>subst e<;>first|rfl|kernel_rfl
        ·cases h
       ·cases h
end
def fw (K:Frag) (mg:Ab) (m:Al):Sp:=λvs H Q E=>∃xs st ρ,Rs K mg ρ H xs vs/\aP K mg ρ H st/\Out K mg ρ H (m xs st) (gV K mg Q) E
section
variable (P:Program) (w:World) (K:Frag) (mg:Ab) (base:Heap)
def b_ (x:Str) (k:Nat) (m:Al):Prop:=∃f fd ps,mg x=some (.ref f)/\keepIn K (.ref f)=true/\Binds K fd ps []/\a_ P w K mg base (bT P w) k f fd ps (fw K mg m)
def mK (c name:Str) (k:Nat) (m:Al):Prop:=∃C f fd ps,mg c=some (.ref C)/\f7 K C/\Meth K C name f/\Binds K fd ps []/\a_ P w K mg base (bT P w) k f fd ps (fw K mg m)
def Es (c:Str) (k:Nat) (m:Al):Prop:=∃C f fd ps,mg c=some (.ref C)/\Mk K C f/\Binds K fd ps []/\a_ P w K mg base (bT P w) k f fd ps (fw K mg m)
def Et (c fld:Str):Prop:=∃C f fd,mg c=some (.ref C)/\nW K C f/\a_ P w K mg base (bT P w) 1 f fd ["self", fld] (DO C fld)/\Binds K fd ["self", fld] []
end
section
variable {X:Cx} {Er:XK} {K:Frag} {mg:Ab} {a b c e o:Expr} {es:List Expr} {pos p:Pos} {fs:Ah} {k:Nat} {x:Str} {m:Al}
def zW (C:b_ X.prog X.w X.K X.mg X.base x k m) (hr:bh k X.A) (ht:wo X Er) (ha:MA X Er (e::es) fs) (hg:Gl X x:=by rfl) (ef:(x==("__debug__" : Str))=false:=by decide)
  (he:starEach (e::es) X.env=(false,eval e X.env)::starEach es X.env:=by rfl) (bS:(backTo pos (starEach es X.env)).any (·.1)=false:=by rfl):ME X Er (.Call (.Name x p) (e::es) [] pos) (zo m fs):=by
 obtain ⟨f,fd,ps,hm,hk,hb,F⟩:=C
 exact PE.weak (Cs F hr hg hm hk hb .nil (DS ht) ha ef he bS) λU H Q ⟨env,st,ρ,re,rs,h⟩=>⟨env,st,ρ,re,rs,h.then λad H1 xs aa e1 s1 k vs rv=>by
  show fw X.K X.mg m (vs++[]) H1 Q Er
  rw [List.append_nil]
  exact ⟨xs,aa,ad,rv,s1,k⟩⟩
theorem mL {ρ:Ae}{H:Hp}{f:Str}:∀{ks:Ad}{xs:An}{vs:List V}{x:PV},Rs K mg ρ H xs vs->(ks.zip xs).lookup f=some x->∃v,(ks.zip vs).lookup f=some v/\R K mg ρ H x v
 |[],_,_,_,_,h=>by simp at h
 |k::ks,[],_,_,_,h=>by simp at h
 |k::ks,y::xs,_,x,r,h=>by
  obtain ⟨v,r',rfl,h1,h2⟩:=r
  simp only [List.zip_cons_cons,wm] at h ⊢
  split at h
  ·cases h;exact ⟨v,rfl,h1⟩
  ·exact mL h2 h
theorem tW {f:Str}{β:Type}:∀{ks:Ad}{vs:List β},f∉ks->(ks.zip vs).lookup f=none
 |[],_,_=>by simp
 |k::ks,[],_=>by simp
 |k::ks,v::vs,h=>by
  simp only [yt,not_or] at h
  simp only [List.zip_cons_cons,wm]
  have:(f==k)=false:=by simpa using h.1
  rw [this]
  exact tW h.2
structure Jh (K:Frag) (mg:Ab) (f:Str) (ins exc:Str->Bool):Prop where
 i:∀c,ins c=true->∃C,mg c=some (.ref C)/\f7 K C/\md K C f
 x:∀c,exc c=true->∃C,mg c=some (.ref C)/\nX K C/\hasDictIn K C=true/\findIn K (.ref C) f=some none
def fU (o:Option Bool):Mo PV:=λst=>match o with
 |some b=>.ok (.bl b) st
 |none=>.stuck
def Eu {ρ:Ae}{H:Hp}{o:Option Bool}{st:aj}{good}(h:Out K mg ρ H (fU o st) good Er):∃b,o=some b/\Out K mg ρ H (.ok (.bl b) st) good Er:=by
 cases o with
 |some x=>exact ⟨x,rfl,h⟩
 |none=>exact h.elim
structure IsT where
 isx:Str->Bool
 sub:Str->Str->Option Bool
 subT:Str->String->Option Bool
 tyC:String->Str->Option Bool
structure tX (K:Frag) (C:Addr):Prop where
 cl:f7 K C
 ha:findIn K (.ref C) "__class__" = some (some (.builtin "object.__class__"))
 hn:specialIn K (.builtin "object.__class__") "__get__" = some (some (.builtin "getset_descriptor.__get__"))
 tk:takesIn K (.builtin "object.__class__")=some true
 hm:mroIn K C (.type "object")=some true
structure Jr (K:Frag) (mg:Ab) (t:IsT):Prop where
 s:∀c B b,t.sub c B=some b->∃C D,mg c=some (.ref C)/\mg B=some (.ref D)/\kitOne K (.ref C) (.ref D)=some b
 tt:∀c n b,t.subT c n=some b->∃C,mg c=some (.ref C)/\kitOne K (.ref C) (.type n)=some b
 u:∀T B b,t.tyC T B=some b->∃D,mg B=some (.ref D)/\kitOne K (.type T) (.ref D)=some b
 x:∀c C,t.isx c=true->mg c=some (.ref C)->((∃B b,t.sub c B=some b)\/∃n b,t.subT c n=some b)->kx K C
 i:∀c C,t.isx c=false->mg c=some (.ref C)->((∃B b,t.sub c B=some b)\/∃n b,t.subT c n=some b)->tX K C
inductive mM (K:Frag) (H:Hp):V->Value->Prop where
 |of {v:V} {t:Value} (h:bX K H v t):mM K H v t
 |tup {a:Addr} {vs:List V} (h:bg K H a vs):mM K H (.ref a) (.type "tuple")
 |exc {a C d:Addr} {fs:List (Str×V)} (ha:H a=some (ku C (some d) a)) (hd:H d=some (.xd fs)) (k:kx K C):mM K H (.ref a) (.ref C)
 |exc0 {a C:Addr} (ha:H a=some (ku C none a)) (k:kx K C):mM K H (.ref a) (.ref C)
end
section
variable {X:Cx} {Er:XK} {K:Frag} {mg:Ab} {a c e o:Expr} {st:Stmt} {dG:List Stmt} {pos pos':Pos} {fa:Ai} {k:Nat} {x:Str} {m:Al}
variable {g g' gb:Aj} {ga:Ak}
theorem Out.fl {ρ:Ae}{H:Hp}{st:aj}{D:Ends}{fl:Fl}{E:XK}(h:Out K mg ρ H (.ok fl st) (gS K mg D) E) (s:aP K mg ρ H st):gS K mg D ρ H fl st:=h.now s
def yu:Aj:=λenv st=>.ok (.nx env) st
def d_ (g:Aj):Fl->Mo Fl
 |.nx env,st=>g env st
 |fl,st=>.ok fl st
def zx (g g':Aj):Aj:=λenv st=>(g env st).bind (d_ g')
def yJ:dZ X Er [] yu:=bG.weak Bm λD U H ⟨env,st,ρ,re,rs,h⟩=>h.now rs U re
def zy (h1:MS X Er st g) (h2:dZ X Er dG g'):dZ X Er (st::dG) (zx g g') :=
 bG.weak (Bn h1 h2) λD U H ⟨env,st,ρ,re,rs,h⟩=>⟨env,st,ρ,re,rs,h.then λad H1 fl aa e1 s1 h1=>by
  cases fl with
  |nx cb=>exact λaq Ew=>⟨cb,aa,ad,Ew,s1,h1⟩
  |rt v=>exact Out.fl (D:=D) (fl:=.rt v) (E:=Er) h1 s1
  |bk cb=>exact Out.fl (D:=D) (fl:=.bk cb) (E:=Er) h1 s1
  |ct cb=>exact Out.fl (D:=D) (fl:=.ct cb) (E:=Er) h1 s1⟩
def zF (h1:MS X Er st g):dZ X Er [st] g:=Bo h1
def zD (i:Nat) (f:Ai):Aj:=λenv st=>(f env st).bind λx aa=>.ok (.nx (env.set i (some x))) aa
def zN (i:Nat) {x:Str}(he:ME X Er e fa) (hN:X.N.Nodup) (hi:X.N[i]?=some x:=by rfl) (hx:Loc X.env.scope x:=by first|exact Or.inl rfl|exact Or.inr rfl) (hs:swapsWith e (some (.Name x pos')) pos.line X.env=pure false:=by rfl)
  (hf:X.fn x=true\/X.env.scope.names.lookup x=some .local:=by first|exact .inl rfl|exact .inr rfl|assumption):MS X Er (.Assign [.Name x pos'] e pos) (zD i fa) :=
 PS.weak (BB hN hi hx he hs hf) λD U H ⟨env,st,ρ,re,rs,h⟩=>⟨env,st,ρ,re,rs,h.then λad H1 x aa e1 s1 h1 v rv=>h1.now s1 _ ((re.ext e1).set i rv)⟩
def yN (f:Ai):Aj:=λenv st=>(f env st).bind λ_ aa=>.ok (.nx env) aa
def wN (he:ME X Er e fa) (hs:swapsWith e none pos.line X.env=pure false:=by rfl):MS X Er (.Expr e pos) (yN fa) :=
 PS.weak (Bq he hs) λD U H ⟨env,st,ρ,re,rs,h⟩=>⟨env,st,ρ,re,rs,h.then λad H1 x aa e1 s1 h1 v rv=>h1.now s1 _ (re.ext e1)⟩
def zQ (f:Ai):Aj:=λenv st=>(f env st).bind λx aa=>.ok (.rt x) aa
def zV (he:ME X Er e fa):MS X Er (.Return (some e) pos) (zQ fa) :=
 PS.weak (Bs he) λD U H ⟨env,st,ρ,re,rs,h⟩=>⟨env,st,ρ,re,rs,h.then λad H1 x aa e1 s1 h1 v rv=>h1.now s1 _ rv⟩
def zX (t:Ak) (g g':Aj):Aj:=λenv st=>(t env st).bind λc aa=>if c=true then g env aa else g' env aa
def yv {A B:List Stmt}(hc:MT X Er c ga) (ha:dZ X Er A g) (hb:dZ X Er B g'):MS X Er (.If c A B pos) (zX ga g g') :=
 PS.weak (Bu hc ha hb) λD U H ⟨env,st,ρ,re,rs,h⟩=>⟨env,st,ρ,re,rs,h.then λad H1 k aa e1 s1 h1=>by
  cases k with
  |true=>exact ⟨env,aa,ad,re.ext e1,s1,h1⟩
  |false=>exact ⟨env,aa,ad,re.ext e1,s1,h1⟩⟩
def fy:Am
 |.int i,.int j,st=>.ok (.int (i+j)) st
 |_,_,_=>.stuck
def kE (i:Nat) (op:Am) (f:Ai):Aj:=λenv st=>(zd i env st).bind λx c9=>(f env c9).bind λy aa=>(op x y aa).bind λz ak=>.ok (.nx (env.set i (some z))) ak
def n4 (X:Cx) (o:Operator) (op:Am):Prop:=∃r,om X o r/\cL X.K X.mg r op
def Ex:n4 X .Add fy:=⟨_,BG,by
 intro ρ H st x y v w Q E s rx ry h
 cases x with
 |int i =>
  cases y with
  |int j=>cases rx;cases ry;exact ⟨i,j,rfl,rfl,Out.now (x:=PV.int (i+j)) h s _ rfl⟩
  |_=>exact h.elim
 |_=>exact h.elim⟩
def Ey (i:Nat) {x:Str}{o:Operator}{op:Am}(ho:n4 X o op) (he:ME X Er e fa) (hN:X.N.Nodup) (hi:X.N[i]?=some x:=by rfl) (hx:Loc X.env.scope x:=by first|exact Or.inl rfl|exact Or.inr rfl)
  (hf:X.fn x=true\/X.env.scope.names.lookup x=some .local:=by first|exact .inl rfl|exact .inr rfl|assumption):MS X Er (.AugAssign (.Name x pos') o e pos) (kE i op fa):=by
 obtain ⟨r,h1,h2⟩:=ho
 refine PS.weak (BD hN hi hx he h1 hf) λD U H ⟨env,st,ρ,re,rs,h⟩=>?_
 unfold kE zd at h
 cases hx:env[i]? with
 |none=>simp only [hx] at h;exact h.elim
 |some q =>
  cases q with
  |none=>simp only [hx] at h;exact h.elim
  |some x0 =>
   simp only [hx] at h
   obtain ⟨v,hv,rv⟩:=re.at_ i x0 hx
   exact ⟨v,hv,env,st,ρ,re,rs,Out.then (f:=λy aa=>(op x0 y aa).bind λz ak=>Res.ok (Fl.nx (env.set i (some z))) ak) (good:=gS X.K X.mg D) h λad H1 y aa e1 s1 k1 w rw=>h2 ad H1 aa x0 y v w _ Er s1 (R.ext e1 x0 rv) rw (k1.then λap H2 z ak e2 s2 k2 u ru=>k2.now s2 _ (((re.ext e1).ext e2).set i ru))⟩
def putK (f:Str) (x:PV):List Str->List PV->List Str×List PV
 |k::ks,y::ys=>if k=f then (k::ks,x::ys) else (k::(putK f x ks ys).1,y::(putK f x ks ys).2)
 |_,_=>([f],[x])
def putAt (f:Str) (ins:Str->Bool) (x:PV):PV->Mo Unit
 |.ref n,st=>D9 st n λc ks xs=>if ins c=true/\ks.length<1000 then .ok () (st.set n (.ins c (putK f x ks xs).1 (putK f x ks xs).2)) else .stuck
 |_,_=>.stuck
def MG (X:Cx) (Er:XK) (e:Expr) (g:PV->zc->Option zc):Prop:=PG X e λv U H Q=>∃x env bx ρ,R X.K X.mg ρ H x v/\aU X.K X.mg ρ H env U/\g x env=some bx/\∀ag,aU X.K X.mg ρ H bx ag->Q ag H
def PG.weak {t t':TG}(h:PG X e t) (w:∀v U H Q,t' v U H Q->t v U H Q):PG X e t':=λpins s U H v u Q I r q=>h pins s U H v u Q I r (w v U H Q q)
def gN (i:Nat):PV->zc->Option zc:=λx env=>some (env.set i (some x))
def kF (i:Nat) {x:Str}(hN:X.N.Nodup) (hi:X.N[i]?=some x:=by rfl) (hx:Loc X.env.scope x:=by first|exact Or.inl rfl|exact Or.inr rfl) (hf:X.fn x=true\/X.env.scope.names.lookup x=some .local:=by first|exact .inl rfl|exact .inr rfl|assumption):MG X Er (.Name x pos) (gN i) :=
 PG.weak (g_ hN hi hx hf) λv U H Q ⟨x,env,bx,ρ,rx,re,hg,q⟩=>by
  cases hg
  exact q _ (re.set i rx)
def g2 (i j:Nat):PV->zc->Option zc
 |.tup [x,y],env=>some ((env.set i (some x)).set j (some y))
 |_,_=>none
def g3 (i j k:Nat):PV->zc->Option zc
 |.tup [x,y,z],env=>some (((env.set i (some x)).set j (some y)).set k (some z))
 |_,_=>none
def Ez {i j k:Nat}{x:PV}{env bx:zc}(h:g3 i j k x env=some bx):∃y z u,x=.tup [y,z,u]/\bx=((env.set i (some y)).set j (some z)).set k (some u):=by
 unfold g3 at h
 split at h
 ·cases h;exact ⟨_,_,_,rfl,rfl⟩
 ·cases h
def EA (i j k:Nat) {x y z:Str}{kt:Nat}{px py pz:Pos}(hc:X.calm=true) (hN:X.N.Nodup) (hi:X.N[i]?=some x:=by rfl) (hj:X.N[j]?=some y:=by rfl) (hk:X.N[k]?=some z:=by rfl) (hx:Loc X.env.scope x:=by first|exact Or.inl rfl|exact Or.inr rfl) (hy:Loc X.env.scope y:=by first|exact Or.inl rfl|exact Or.inr rfl) (hz:Loc X.env.scope z:=by first|exact Or.inl rfl|exact Or.inr rfl)
  (hf:X.fn x=true\/X.env.scope.names.lookup x=some .local:=by first|exact .inl rfl|exact .inr rfl|assumption) (gz:X.fn y=true\/X.env.scope.names.lookup y=some .local:=by first|exact .inl rfl|exact .inr rfl|assumption) (EC:X.fn z=true\/X.env.scope.names.lookup z=some .local:=by first|exact .inl rfl|exact .inr rfl|assumption):MG X Er (.Tuple [.Name x px,.Name y py,.Name z pz] kt pos) (g3 i j k) :=
 PG.weak (Bz (n:=3) hc (oo (g_ hN hi hx hf) (oo (g_ hN hj hy gz) (oo (g_ hN hk hz EC) Bx)))) λv U H Q ⟨x,env,bx,ρ,rx,re,hg,q⟩=>by
  obtain ⟨y,z,u,rfl,rfl⟩:=Ez hg
  obtain ⟨a,vs,rfl,h1,h2⟩:=rx
  obtain ⟨u1,r',rfl,r1,h3⟩:=h2
  obtain ⟨u2,u3,rfl,r2,r3⟩:=Rs.two h3
  exact ⟨a,_,rfl,h1,rfl,u1,_,rfl,u2,_,rfl,u3,[],rfl,rfl,q _ (((re.set i r1).set j r2).set k r3)⟩
def mN (g:PV->zc->Option zc) (f:Ai):Aj:=λenv st=>(f env st).bind λx aa=>match g x env with
 |some bx=>.ok (.nx bx) aa
 |none=>.stuck
def zku {tg:Expr}{gt:PV->zc->Option zc}(hg:MG X Er tg gt) (he:ME X Er e fa) (hs:swapsWithSole [tg] e pos.line X.env=pure false:=by rfl) (hw:swappedStores [tg] e X.env=pure none:=by rfl)
  (h1:(assignEach [tg] X.env).map (·.2)=[assign tg X.env]:=by rfl):MS X Er (.Assign [tg] e pos) (mN gt fa) :=
 PS.weak (BA he hg hs hw h1) λD U H ⟨env,st,ρ,re,rs,h⟩=>⟨env,st,ρ,re,rs,h.then λad H1 x aa e1 s1 h1 v rv=>by
  cases hx:gt x env with
  |none=>simp only [hx] at h1;exact h1.elim
  |some bx =>
   simp only [hx] at h1
   exact ⟨x,env,bx,ad,rv,re.ext e1,hx,λag r'=>Out.now (x:=Fl.nx bx) h1 s1 ag r'⟩⟩
inductive Sq where
 |im (xs:An)|rf (n:Nat)
def Walk (K:Frag) (mg:Ab) (J:It) (ρ:Ae) (H:Hp):Sq->Prop
 | .im xs=>(∀i af H',Ext ρ H af H'->i<xs.length->J.go i H')/\(∀i af H',Ext ρ H af H'->xs.length<=i->J.stop i H') /\
  ∀i af H' st v H2,Ext ρ H af H'->aP K mg af H' st->i<xs.length->J.yld i H' v H2->∃x,xs[i]?=some x/\Ext af H' af H2/\aP K mg af H2 st/\R K mg af H2 x v
 |.rf n=>∃a,ρ[n]?=some a/\J=l7 K a
def MI (X:Cx) (Er:XK) (tg iter:Expr) (src:zc->Mo Sq):Prop:=PI X tg iter λU H R=>∃env st ρ,aU X.K X.mg ρ H env U/\aP X.K X.mg ρ H st/\Out X.K X.mg ρ H (src env st) (λaf H' q aE=>∀J,Walk X.K X.mg J af H' q->R J H') Er
def forL (g:PV->zc->Option zc) (body:Aj):List PV->Aj
 |[],env,st=>.ok (.nx env) st
 | x::xs,env,st=>match g x env with
  |none=>.stuck
  | some cb=>(body cb st).bind λfl ak=>match fl with
   |.nx e=>forL g body xs e ak
   |.ct e=>forL g body xs e ak
   |.bk e=>.ok (.nx e) ak
   |.rt v=>.ok (.rt v) ak
def forR (g:PV->zc->Option zc) (body:Aj) (n:Nat):Nat->Nat->Aj
 |0,_,_,_=>.stuck
 | m+1,i,env,st=>zK st n λxs=>match xs[i]? with
  |none=>.ok (.nx env) st
  | some x=>match g x env with
   |none=>.stuck
   | some cb=>(body cb st).bind λfl ak=>match fl with
    |.nx e=>forR g body n m (i+1) e ak
    |.ct e=>forR g body n m (i+1) e ak
    |.bk e=>.ok (.nx e) ak
    |.rt v=>.ok (.rt v) ak
def gT (g:PV->zc->Option zc) (body:Aj):Sq->Aj
 |.im xs=>forL g body xs
 |.rf n=>forR g body n (lim+1) 0
def wO (src:zc->Mo Sq) (g:PV->zc->Option zc) (body:Aj):Aj:=λenv st=>(src env st).bind λq aa=>gT g body q env aa
def ED {tg iter:Expr}{src:zc->Mo Sq}{gt:PV->zc->Option zc}(hp:PassesOwn (model X.prog X.w) X.A X.env X.xe) (hc:X.calm=true) (hi:MI X Er tg iter src) (hg:MG X Er tg gt) (hb:dZ X Er dG gb)
  (hs:∀x,foldedSetIterable iter X.env x=pure x:=by intro _;rfl):MS X Er (.For tg iter dG [] pos) (wO src gt gb) :=
 PS.weak (BQ hp hc hi hg hb hs) λD U H ⟨env,st,ρ,re,rs,h⟩=>⟨env,st,ρ,re,rs,h.then λao H0 q c9 e0 s0 h0 J wk=>by
  cases q with
  |im xs =>
   obtain ⟨w1,w2,w3⟩:=wk
   refine ⟨λi m U H=>m=xs.length-i/\i<=xs.length/\∃env st ρ,aU X.K X.mg ρ H env U/\aP X.K X.mg ρ H st/\Ext ao H0 ρ H/\Out X.K X.mg ρ H (forL gt gb (xs.drop i) env st) (gS X.K X.mg D) Er,⟨xs.length,by simp,y1 _,env,c9,ao,re.ext e0,s0,Ext.refl,h0⟩,?_⟩
   rintro i m U H ⟨rfl,hi,env,st,ρ,re,rs,ex,h⟩
   by_cases aZ:i<xs.length
   ·refine .inr ⟨w1 i ρ H ex aZ,_,λag H' p'=>⟨xs.length-(i+1),by omega,rfl,aZ,p'⟩,λv H' y=>?_⟩
    obtain ⟨x,hx,dr,s2,rx⟩:=w3 i ρ H st v H' ex rs aZ y
    have hd:xs.drop i=x::xs.drop (i+1):=by
     rw [je aZ]
     have:=(zM.mp hx).2
     rw [this]
    rw [hd] at h
    cases hgx:gt x env with
    |none=>simp only [forL,hgx] at h;exact h.elim
    |some cb =>
     simp only [forL,hgx] at h
     refine ⟨x,env,cb,ρ,rx,re.ext dr,hgx,λaq r1=>⟨cb,st,ρ,r1,s2,Out.then (Out.ext h dr) λam H3 fl aL e3 s3 h3=>?_⟩⟩
     cases fl with
     |nx e=>exact λaz r4=>⟨e,aL,am,r4,s3,(ex.trans dr).trans e3,h3⟩
     |ct e=>exact λaz r4=>⟨e,aL,am,r4,s3,(ex.trans dr).trans e3,h3⟩
     |bk e=>exact Out.fl (D:=D) (fl:=.nx e) (E:=Er) h3 s3
     |rt v=>exact Out.fl (D:=D) (fl:=.rt v) (E:=Er) h3 s3
   ·have e:i=xs.length:=by omega
    subst e
    rw [List.drop_length] at h
    exact .inl ⟨w2 _ ρ H ex (zG _),Out.now (x:=Fl.nx env) h rs U re⟩
  |rf n =>
   obtain ⟨a,ha,rfl⟩:=wk
   refine ⟨λi m U H=>∃env st ρ,aU X.K X.mg ρ H env U/\aP X.K X.mg ρ H st/\ρ[n]?=some a/\Out X.K X.mg ρ H (forR gt gb n m i env st) (gS X.K X.mg D) Er,⟨lim+1,env,c9,ao,re.ext e0,s0,ha,h0⟩,?_⟩
   rintro i m U H ⟨env,st,ρ,re,rs,ha,h⟩
   cases m with
   |zero=>exact h.elim
   |succ m =>
    obtain ⟨xs,hn,h⟩:=yV h
    obtain ⟨vs,hH,hR⟩:=rs.addr hn ha
    cases hx:xs[i]? with
    |none =>
     simp only [hx] at h
     have:vs.length<=i:=by rw [<-hR.len];exact gZ.mp hx
     exact .inl ⟨⟨vs,aS.of hH,this⟩,Out.now (x:=Fl.nx env) h rs U re⟩
    |some x =>
     simp only [hx] at h
     obtain ⟨v,hv,rv⟩:=hR.get hx
     refine .inr ⟨⟨vs,v,aS.of hH,hv⟩,_,λag H' p'=>⟨m,wF m,p'⟩,λv' H' y=>?_⟩
     obtain ⟨e1,y⟩:=y
     subst e1
     have e2:=y vs (aS.of hH)
     rw [hv] at e2
     cases e2
     cases hgx:gt x env with
     |none=>simp only [hgx] at h;exact h.elim
     |some cb =>
      simp only [hgx] at h
      refine ⟨x,env,cb,ρ,rv,re,hgx,λaq r1=>⟨cb,st,ρ,r1,rs,Out.then h λam H3 fl aL e3 s3 h3=>?_⟩⟩
      cases fl with
      |nx e=>exact λaz r4=>⟨e,aL,am,r4,s3,e3.get ha,h3⟩
      |ct e=>exact λaz r4=>⟨e,aL,am,r4,s3,e3.get ha,h3⟩
      |bk e=>exact Out.fl (D:=D) (fl:=.nx e) (E:=Er) h3 s3
      |rt v=>exact Out.fl (D:=D) (fl:=.rt v) (E:=Er) h3 s3⟩
end
section
variable {X:Cx} {Er:XK} {K:Frag} {mg:Ab} {a b c e o tg:Expr} {st:Stmt} {dG:List Stmt} {pos p apos:Pos} {fa fo:Ai} {fs:Ah} {k:Nat} {x:Str} {m:Al}
variable {g gb:Aj} {ga:Ak}
def PI.weak {t t':TI}(h:PI X tg e t) (w:∀U H Q,t' U H Q->t U H Q):PI X tg e t':=λpins s U H Q I q=>h pins s U H Q I (w U H Q q)
def EE (K:Frag) (tl:TE):TI:=λU H R=>tl U H λx H1=>(∃a,x=.ref a/\(∃xs,aS K H1 a xs)/\R (l7 K a) H1)\/(∃a,x=.ref a/\(∃xs,bg K H1 a xs)/\R (oq K a) H1)\/∃z,x=.str z/\R (oX z) H1
def EF {l:Expr}{tl:TE}(hl:PE X l tl):PI X tg l (EE X.K tl):=by
 intro pins s U H R I h
 refine aI (hl pins s U H _ I h) λv s1 ⟨x,H1,I1,r1,q1⟩=>?_
 have fin:∀b∈[s1.heap.objs.size],cQ X pins H1 b:=λb hb=>by
  have e:b=s1.heap.objs.size:=by simpa using hb
  subst e
  exact I1.fpOk (zG _) (I1.hok.fresh (zG _))
 rcases q1 with ⟨a,e,⟨xs,hq⟩,q⟩|⟨a,e,⟨xs,hq⟩,q⟩|⟨z,rfl,q⟩
 ·subst e
  cases r1
  obtain ⟨its,rv,p,hz⟩:=I1.list hq
  exact wpAny_pyIter_list p.isList ⟨s1.heap.objs.size,[s1.heap.objs.size],_,_,H1,rfl,I1.kept (t':=s1.toks) (λb o e=>zU _ e),BJ a _,⟨_,yw _ rfl,rfl,rfl⟩,fin,q⟩
 ·subst e
  cases r1
  obtain ⟨its,rv,p,hz⟩:=I1.tuple hq
  exact wpAny_pyIter_tuple (show s1.heap.IsTuple a its.toArray from p) ⟨s1.heap.objs.size,[s1.heap.objs.size],_,_,H1,rfl,I1.kept (t':=s1.toks) (λb o e=>zU _ e),BK a _,⟨_,yw _ rfl,rfl,rfl⟩,fin,q⟩
 ·obtain ⟨t,rfl⟩:=r1
  cases ha:z.cps.all (·<128) with
  |false=>exact wpAny_pyIter_wide ha ⟨s1.heap.objs.size,[s1.heap.objs.size],_,_,H1,rfl,I1.kept (t':=s1.toks) (λb o e=>zU _ e),sU z t _ "str_iterator" (.inr rfl),⟨_,yw _ rfl,rfl,rfl⟩,fin,q⟩
  |true=>exact wpAny_pyIter_ascii ha ⟨s1.heap.objs.size,[s1.heap.objs.size],_,_,H1,rfl,I1.kept (t':=s1.toks) (λb o e=>zU _ e),sU z t _ "str_ascii_iterator" (.inl rfl),⟨_,yw _ rfl,rfl,rfl⟩,fin,q⟩
def EG {ρ:Ae}{H:Hp}{a:Addr}{xs:An}{vs:List V}(h:bg K H a vs) (r:Rs K mg ρ H xs vs):Walk K mg (oq K a) ρ H (.im xs):=by
 refine ⟨λi af H' e hi=>?_,λi af H' e hi=>⟨vs,e.sqT h,by rw [<-r.len];exact hi⟩,λi af H' st v H2 e s hi y=>?_⟩
 ·obtain ⟨v,hv,_⟩:=r.get (zR hi)
  exact ⟨vs,v,e.sqT h,hv⟩
 ·obtain ⟨e1,y⟩:=y
  subst e1
  obtain ⟨v',hv,rv⟩:=r.get (zR hi)
  have:=y vs (e.sqT h)
  rw [hv] at this
  cases this
  exact ⟨_,zR hi,Ext.refl,s,R.ext e _ rv⟩
def EH {ρ:Ae}{H:Hp}{a:Addr}{xs:An}{vs:List V}(h:eG K H a vs) (r:Rs K mg ρ H xs vs):Walk K mg (l7 K a) ρ H (.im xs):=by
 have hs:∀{af H'},Ext ρ H af H'->aS K H' a vs:=λe=>(e.frl h).sq
 refine ⟨λi af H' e hi=>?_,λi af H' e hi=>⟨vs,hs e,by rw [<-r.len];exact hi⟩,λi af H' st v H2 e s hi y=>?_⟩
 ·obtain ⟨v,hv,_⟩:=r.get (zR hi)
  exact ⟨vs,v,hs e,hv⟩
 ·obtain ⟨e1,y⟩:=y
  subst e1
  obtain ⟨v',hv,rv⟩:=r.get (zR hi)
  have:=y vs (hs e)
  rw [hv] at this
  cases this
  exact ⟨_,zR hi,Ext.refl,s,R.ext e _ rv⟩
def signs (z:Str):An:=z.cps.toList.map λc=>.str ⟨#[c]⟩
def EI {ρ:Ae}{H:Hp}(z:Str):Walk K mg (oX z) ρ H (.im (signs z)):=by
 have hl:(signs z).length=z.cps.size:=by simp [signs]
 refine ⟨λi af H' e hi=>by rw [hl] at hi;exact hi,λi af H' e hi=>by rw [hl] at hi;exact hi,λi af H' st v H2 e s hi y=>?_⟩
 obtain ⟨e1,c,hc,e2⟩:=y
 subst e1 e2
 refine ⟨.str ⟨#[c]⟩,?_,Ext.refl,s,rfl⟩
 simp [signs,hc]
def nums (lo:Int) (n:Nat):An:=(List.range n).map λi=>.int (lo+(i:Nat))
def EJ {ρ:Ae}{H:Hp}(lo:Int) (n:Nat):Walk K mg (l8 lo n) ρ H (.im (nums lo n)):=by
 have hl:(nums lo n).length=n:=by simp [nums]
 refine ⟨λi af H' e hi=>by rw [hl] at hi;exact hi,λi af H' e hi=>by rw [hl] at hi;exact hi,λi af H' st v H2 e s hi y=>?_⟩
 obtain ⟨e1,e2⟩:=y
 subst e1 e2
 rw [hl] at hi
 exact ⟨.int (lo+i),by simp [nums,hi],Ext.refl,s,rfl⟩
def gA:PV->Mo Sq
 |.tup xs,st=>.ok (.im xs) st
 |.frl xs,st=>.ok (.im xs) st
 |.str z,st=>.ok (.im (signs z)) st
 |.ref n,st=>zK st n λ_=>.ok (.rf n) st
 |_,_=>.stuck
def yD (f:Ai):zc->Mo Sq:=λenv st=>(f env st).bind gA
def j2 (h:ME X Er e fa):MI X Er tg e (yD fa):=PI.weak (EF h) λU H Q ⟨env,st,ρ,re,rs,h⟩=>⟨env,st,ρ,re,rs,h.then λad H1 x aa e1 s1 h1 v rv=>by
 cases x with
 |tup xs =>
  obtain ⟨a,vs,rfl,k1,k2⟩:=rv
  exact .inr (.inl ⟨a,rfl,⟨vs,k1⟩,Out.now (x:=Sq.im xs) h1 s1 _ (EG k1 k2)⟩)
 |frl xs =>
  obtain ⟨a,vs,rfl,k1,k2⟩:=rv
  exact .inl ⟨a,rfl,⟨vs,k1.sq⟩,Out.now (x:=Sq.im xs) h1 s1 _ (EH k1 k2)⟩
 |str z =>
  cases rv
  exact .inr (.inr ⟨z,rfl,Out.now (x:=Sq.im (signs z)) h1 s1 _ (EI z)⟩)
 |ref n =>
  obtain ⟨a,rfl,ha⟩:=rv
  obtain ⟨xs,hn,h1⟩:=yV h1
  obtain ⟨vs,k1,k2⟩:=s1.addr hn ha
  exact .inl ⟨a,rfl,⟨vs,aS.of k1⟩,h1.now s1 _ ⟨a,ha,rfl⟩⟩
 |_=>exact h1.elim⟩
abbrev cR (j:Int):Bool:=decide (-(2 ^ 62)<=j)&&decide (j<2 ^ 62)
def ib:List PV->Mo Sq
 |[.int j],st=>if cR j=true then .ok (.im (nums 0 j.toNat)) st else .stuck
 |_,_=>.stuck
def EK {ρ:Ae}{H:Hp}{xs:An}{st:aj}{good:List Addr->Hp->Sq->aj->Prop}(h:Out K mg ρ H (ib xs st) good Er):∃j,xs=[.int j] /\ -(2 ^ 62)<=j/\j<2 ^ 62/\Out K mg ρ H (.ok (.im (nums 0 j.toNat)) st) good Er:=by
 unfold ib at h
 split at h
 ·obtain ⟨c,h⟩:=Out.ifp h
  simp [cR] at c
  exact ⟨_,rfl,c.1,c.2,h⟩
 ·exact h.elim
def cS (fs:Ah):zc->Mo Sq:=λenv st=>(fs env st).bind ib
def EL {a:Expr} (hm:X.mg "range" = none) (ha:MA X Er [a] fs) (hg:Gl X "range" := by rfl) (hs:starEach [a] X.env=[(false,eval a X.env)]:=by rfl):MI X Er tg (.Call (.Name "range" p) [a] [] pos) (cS fs) :=
 PI.weak (BN hg hm ha hs) λU H Q ⟨env,st,ρ,re,rs,h⟩=>⟨env,st,ρ,re,rs,h.then λad H1 xs aa e1 s1 h1 vs rv=>by
  obtain ⟨j,rfl,c1,c2,h1⟩:=EK h1
  obtain ⟨v,rfl,rfl⟩:=Rs.one rv
  exact ⟨j,rfl,c1,c2,h1.now s1 _ (EJ 0 j.toNat)⟩⟩
def ck (t:Ak) (b:Aj):Nat->Aj
 |0,_,_=>.stuck
 | n+1,env,st=>(t env st).bind λc aa=>if c=true then (b env aa).bind λfl ak=>match fl with
   |.nx e=>ck t b n e ak
   |.ct e=>ck t b n e ak
   |.bk e=>.ok (.nx e) ak
   |.rt v=>.ok (.rt v) ak
  else .ok (.nx env) aa
def pP (t:Ak) (b:Aj):Aj:=ck t b lim
def EM (hp:PassesOwn (model X.prog X.w) X.A X.env X.xe) (hc:MT X Er c ga) (hb:dZ X Er dG gb):MS X Er (.While c dG [] pos) (pP ga gb) :=
 PS.weak (BI hp hc hb) λD U H ⟨env,st,ρ,re,rs,h⟩=>by
  refine ⟨λm U H=>∃env st ρ,aU X.K X.mg ρ H env U/\aP X.K X.mg ρ H st/\Out X.K X.mg ρ H (ck ga gb m env st) (gS X.K X.mg D) Er,⟨lim,env,st,ρ,re,rs,h⟩,?_⟩
  rintro m U H ⟨env,st,ρ,re,rs,h⟩
  cases m with
  |zero=>exact h.elim
  |succ m =>
   refine ⟨env,st,ρ,re,rs,Out.then h λad H1 k aa e1 s1 h1=>?_⟩
   cases k with
   |true =>
    change (if true=true then _ else D.nx U H1)
    rw [zu rfl]
    refine ⟨_,λag H' p'=>⟨m,wF m,p'⟩,env,aa,ad,re.ext e1,s1,Out.then h1 λam H3 fl aL e3 s3 h3=>?_⟩
    cases fl with
    |nx e=>exact λaz r4=>⟨e,aL,am,r4,s3,h3⟩
    |ct e=>exact λaz r4=>⟨e,aL,am,r4,s3,h3⟩
    |bk e=>exact Out.fl (D:=D) (fl:=.nx e) (E:=Er) h3 s3
    |rt v=>exact Out.fl (D:=D) (fl:=.rt v) (E:=Er) h3 s3
   |false =>
    have z:D.nx U H1:=Out.fl (D:=D) (fl:=.nx env) (E:=Er) h1 s1 U (re.ext e1)
    exact z
def cu {α:Type}:Res α->Res α
 |.err _ _ _ _=>.stuck
 |r=>r
def mO {α β:Type}{ρ:Ae}{H:Hp}{r:Res β}{f:β->Mo α}{good:List Addr->Hp->α->aj->Prop}{cX:List Addr->Hp->β->aj->Prop}{E E':XK}(h:Out K mg ρ H ((cu r).bind f) good E) (g:∀af H' x st,Ext ρ H af H'->aP K mg af H' st->Out K mg af H' (f x st) good E->cX af H' x st):Out K mg ρ H r cX E':=by
 cases r with
 |ok x st=>exact λaf H' e s=>g af H' x st e s (Out.ext h e)
 |err=>exact h.elim
 |stuck=>exact h.elim
def jb:Am
 |.ref n,y,st=>zK st n λxs=>if xs.length<lim then .ok .non (st.set n (.lst (xs++[y]))) else .stuck
 |_,_,_=>.stuck
def mP:Am
 |.ref n,.ref k,st=>zK st n λxs=>zK st k λys=>if xs.length+ys.length<=lim then .ok .non (st.set n (.lst (xs++ys))) else .stuck
 |_,_,_=>.stuck
def R.refL {ρ:Ae}{H:Hp}{st:aj}{n:Nat}{xs:An}{v:V}(s:aP K mg ρ H st) (r:R K mg ρ H (.ref n) v) (h:st[n]?=some (.lst xs)):∃a vs,v=.ref a/\ρ[n]?=some a/\H a=some (.lst vs)/\Rs K mg ρ H xs vs:=by
 obtain ⟨a,rfl,ha⟩:=r
 obtain ⟨vs,h1,h2⟩:=s.addr h ha
 exact ⟨a,vs,rfl,ha,h1,h2⟩
def fV:PV->Mo PV
 |.ref n,st=>zK st n λ_=>.ok (.ref n) st
 |_,_=>.stuck
def yK (op:Am) (fo fv:Ai):Ai:=λenv st=>(fo env st).bind λo aa=>(fV o aa).bind λo aa=>(fv env aa).bind λy ak=>op o y ak
def tY {α:Type}{ρ:Ae}{H:Hp}{x:PV}{st:aj}{f:PV->Mo α}{good:List Addr->Hp->α->aj->Prop}(h:Out K mg ρ H ((fV x st).bind f) good Er):∃n xs,x=.ref n/\st[n]?=some (.lst xs)/\Out K mg ρ H (f (.ref n) st) good Er:=by
 cases x with
 |ref n =>
  unfold fV zK at h
  cases hn:st[n]? with
  |none=>simp only [hn] at h;exact h.elim
  |some so =>
   cases so with
   |lst xs=>simp only [hn] at h;exact ⟨n,xs,rfl,hn,h⟩
   |_=>simp only [hn] at h;exact h.elim
 |_=>exact h.elim
def zaw {aO:Pos} (ho:ME X Er o fo) (he:ME X Er e fa) (bI:attributeBase o "append" X.env (eval o X.env)=eval o X.env:=by rfl)
  (fJ:((backTo aO (starEach [e] X.env)).all (λx=>!x.1)&&(backToKw aO (keywordEach [] X.env)).all (λx=>x.1.isSome)&&decide ([e].length+([]:List Keyword).length+(if ([]:List Keyword).isEmpty then 0 else 1)<30))=true:=by rfl)
  (bJ:(apos.endLine==aO.line)=true:=by rfl) (hs:starEach [e] X.env=(false,eval e X.env)::starEach [] X.env:=by rfl) (bS:(backTo aO (starEach [] X.env)).any (·.1)=false:=by rfl):ME X Er (.Call (.Attribute o "append" apos) [e] [] aO) (yK jb fo fa) :=
 PE.weak (sy PySem.F.plainAttrs_list PySem.F.slot_list_append PySem.F.type_list_append zje ho (oz he oy hs) bI fJ bJ hs bS) λU H Q ⟨env,st,ρ,re,rs,h⟩=>⟨env,st,ρ,re,rs,h.then λad H1 x aa e1 s1 h1 v rv=>by
  obtain ⟨n,xs,rfl,hn,h1⟩:=tY h1
  obtain ⟨p,vs,rfl,hp,k1,k2⟩:=R.refL s1 rv hn
  refine ⟨.inl ⟨rfl,vs,aS.of k1⟩,env,aa,ad,re.ext e1,s1,h1.then λap H2 y ak e2 s2 h2 w rw=>?_⟩
  obtain ⟨mQ,dD,h2⟩:=yV h2
  obtain ⟨c,h2⟩:=Out.ifp h2
  obtain ⟨p',fQ,e3,kr,k3,k4⟩:=R.refL s2 (R.ext e2 _ rv) dD
  cases e3
  have ew:Ext ap H2 ap (upd H2 p (.lst (fQ++[w]))):=Ext.write k3 rfl
  refine ⟨p,fQ,w,rfl,rfl,k3,?_,h2 ap _ ew (s2.write kr ew ⟨fQ++[w],yg,Rs.ext ew _ (k4.append ⟨w,[],rfl,rw,rfl⟩)⟩) _ rfl⟩
  rw [<-k4.len,sizeLine_eq];have:mQ.length<1000000:=c;omega⟩
def zkD {aO:Pos} (ho:ME X Er o fo) (he:ME X Er e fa) (bI:attributeBase o "extend" X.env (eval o X.env)=eval o X.env:=by rfl)
  (fJ:((backTo aO (starEach [e] X.env)).all (λx=>!x.1)&&(backToKw aO (keywordEach [] X.env)).all (λx=>x.1.isSome)&&decide ([e].length+([]:List Keyword).length+(if ([]:List Keyword).isEmpty then 0 else 1)<30))=true:=by rfl)
  (bJ:(apos.endLine==aO.line)=true:=by rfl) (hs:starEach [e] X.env=(false,eval e X.env)::starEach [] X.env:=by rfl) (bS:(backTo aO (starEach [] X.env)).any (·.1)=false:=by rfl):ME X Er (.Call (.Attribute o "extend" apos) [e] [] aO) (yK mP fo fa) :=
 PE.weak (sy PySem.F.plainAttrs_list PySem.F.slot_list_extend PySem.F.type_list_extend zjg ho (oz he oy hs) bI fJ bJ hs bS) λU H Q ⟨env,st,ρ,re,rs,h⟩=>⟨env,st,ρ,re,rs,h.then λad H1 x aa e1 s1 h1 v rv=>by
  obtain ⟨n,xs,rfl,hn,h1⟩:=tY h1
  obtain ⟨p,vs,rfl,hp,k1,k2⟩:=R.refL s1 rv hn
  refine ⟨.inl ⟨rfl,vs,aS.of k1⟩,env,aa,ad,re.ext e1,s1,h1.then λap H2 y ak e2 s2 h2 w rw=>?_⟩
  cases y with
  |ref m =>
   obtain ⟨mQ,dD,h2⟩:=yV h2
   obtain ⟨Js,EN,h2⟩:=yV h2
   obtain ⟨c,h2⟩:=Out.ifp h2
   obtain ⟨p',fQ,e3,kr,k3,k4⟩:=R.refL s2 (R.ext e2 _ rv) dD
   cases e3
   obtain ⟨q,mR,rfl,Jt,k5,k6⟩:=R.refL s2 rw EN
   have ew:Ext ap H2 ap (upd H2 p (.lst (fQ++mR))):=Ext.write k3 rfl
   exact ⟨p,q,fQ,mR,rfl,rfl,k3,k5,by rw [<-k4.len,<-k6.len];exact yO c,h2 ap _ ew (s2.write kr ew ⟨fQ++mR,yg,Rs.ext ew _ (k4.append k6)⟩) _ rfl⟩
  |_=>exact h2.elim⟩
end
def endOf:Fl->Mo PV
 |.rt v,st=>.ok v st
 |.nx _,st=>.ok .non st
 |_,_=>.stuck
def zE (np nN:Nat) (g:Aj):Al:=λxs st=>if xs.length=np then (g (xs.map some++List.replicate (nN-np) none) st).bind endOf else .stuck
section
variable {P:Program} {w:World} {K:Frag} {mg:Ab} {base:Heap}
abbrev mS (P:Program) (w:World) (K:Frag) (mg:Ab) (base:Heap) (N:Ad) (qual:Str) (scope:Scope) (f:Addr) (cd:Value) (A:Around) (outer:List Env) (s:Shared) (H:Hp) (E:XK):Cx :=
 (cy (bT P w) P w K mg base N qual scope f cd A outer s H E).wish (XA (cy (bT P w) P w K mg base N qual scope f cd A outer s H E) E)
def EO {N:Ad}{np:Nat}{ρ:Ae}{H:Hp}{xs:An}{vs:List V}(r:Rs K mg ρ H xs vs) (h:xs.length=np):aU K mg ρ H (xs.map some++List.replicate (N.length-np) none) (L2.start N vs):=by
 have hl:=r.len
 refine ⟨by simp [L2.start,<-hl,h],λi x hx=>?_⟩
 by_cases hi:i<xs.length
 ·rw [wj (by simpa using hi)] at hx
  simp only [wf] at hx
  cases hq:xs[i]? with
  |none=>rw [hq] at hx;cases hx
  |some y =>
   rw [hq] at hx
   cases hx
   obtain ⟨v,hv,rv⟩:=r.get hq
   refine ⟨v,?_,rv⟩
   unfold L2.start
   rw [wj (by simp;omega)]
   simp [hv]
 ·rw [jN (by simpa using hi)] at hx
  rw [List.getElem?_replicate] at hx
  split at hx<;>cases hx
def mT {x qual:Str}{sm:Stmt}{f:Addr}{fd:FuncData}{N ps:Ad}{k:Nat}{g:Aj}(F:cK K x qual sm f fd) (S:aJ N ps (zC sm))
  (hb:∀(aQ:Value) (A:Around) (outer:List Env) (s:Shared) (H:Hp) (E:XK),bh k (A.deeper (PyProof.Rows.envOfC qual (zC sm) s.heap.objs.size f aQ))->dZ (mS P w K mg base N qual (zC sm) f aQ A outer s H E) E (y3 sm) g) :
  a_ P w K mg base (bT P w) (k+1) f fd ps (fw K mg (zE ps.length N.length g)):=by
 refine F.okT S (λvs H Q E h=>?_) λaQ A outer s H vs Q E hr h=>⟨_,hb aQ A outer s H E hr,?_⟩
 ·obtain ⟨xs,st,ρ,r,_,h⟩:=h
  obtain ⟨hl,_⟩:=Out.ifp h
  rw [<-r.len];exact hl
 ·obtain ⟨xs,st,ρ,r,rs,h⟩:=h
  obtain ⟨hl,h⟩:=Out.ifp h
  refine ⟨_,st,ρ,EO r hl,rs,h.then λad H1 fl aa e1 s1 h1=>?_⟩
  cases fl with
  |rt v=>exact λu ru=>Out.now (x:=v) h1 s1 u ru
  |nx e=>exact λag _=>Out.now (x:=PV.non) h1 s1 _ rfl
  |_=>exact h1.elim
def ER {x:Str}{f:Addr}{fd:FuncData}{ps:Ad}{k:Nat}{m:Al}{sm:Stmt}{qual nm:Str}(hm:mg x=some (.ref f)) (F:cK K nm qual sm f fd) (hb:Binds K fd ps []) (h:a_ P w K mg base (bT P w) k f fd ps (fw K mg m)):b_ P w K mg base x k m:=⟨f,fd,ps,hm,F.kp,hb,h⟩
end
section
variable {X:Cx} {Er:XK} {P:Program} {w:World} {K:Frag} {mg:Ab} {base:Heap} {pos:Pos} {x:Str}
def zO {k:Nat}{A:Around}(hr:bh k A):A.units+200<cLine:=by have:=hr.un;omega
def ES {n:Int} (h:∃t,X.mg x=some (.int n t)) (hg:Gl X x:=by rfl) (hd:(x==("__debug__" : Str))=false:=by decide):ME X Er (.Name x pos) (mC (.int n)):=let ⟨t,h⟩:=h;tN (v:=.int n) h ⟨t,rfl⟩ (λ_ _=>rfl) hg hd
def ET {z:Str} (h:∃t,X.mg x=some (.str z t)) (hg:Gl X x:=by rfl) (hd:(x==("__debug__" : Str))=false:=by decide):ME X Er (.Name x pos) (mC (.str z)):=let ⟨t,h⟩:=h;tN (v:=.str z) h ⟨t,rfl⟩ (λ_ _=>rfl) hg hd
def FnF (K:Frag) (mg:Ab) (x:Str) (sm:Stmt) (ps:Ad):Prop:=∃f fd,mg x=some (.ref f)/\cK K x x sm f fd/\Binds K fd ps []
def tZ (K:Frag) (mg:Ab) (c name qual:Str) (sm:Stmt) (ps:Ad):Prop:=∃C f fd,mg c=some (.ref C)/\f7 K C/\Meth K C name f/\cK K name qual sm f fd/\Binds K fd ps []
def t8 (K:Frag) (mg:Ab) (c qual:Str) (sm:Stmt) (ps:Ad):Prop:=∃C f fd,mg c=some (.ref C)/\Mk K C f/\cK K "__init__" qual sm f fd/\Binds K fd ps []
def t_ (K:Frag) (mg:Ab) (c fld qual:Str) (sm:Stmt):Prop:=∃C f fd,mg c=some (.ref C)/\nW K C f/\gw K C fld/\cK K "__init__" qual sm f fd/\Binds K fd ["self", fld] []
def FnF.ok {sm:Stmt}{N ps:Ad}{k:Nat}{g:Aj}(h:FnF K mg x sm ps) (S:aJ N ps (zC sm))
  (hb:∀(f:Addr) (aQ:Value) (A:Around) (outer:List Env) (s:Shared) (H:Hp) (E:XK),bh k (A.deeper (PyProof.Rows.envOfC x (zC sm) s.heap.objs.size f aQ))->dZ (mS P w K mg base N x (zC sm) f aQ A outer s H E) E (y3 sm) g) :
  b_ P w K mg base x (k+1) (zE ps.length N.length g):=by
 obtain ⟨f,fd,hm,F,b⟩:=h
 exact ER hm F b (mT F S (hb f))
def tZ.ok {c name qual:Str}{sm:Stmt}{N ps:Ad}{k:Nat}{g:Aj}(h:tZ K mg c name qual sm ps) (S:aJ N ps (zC sm))
  (hb:∀(f:Addr) (aQ:Value) (A:Around) (outer:List Env) (s:Shared) (H:Hp) (E:XK),bh k (A.deeper (PyProof.Rows.envOfC qual (zC sm) s.heap.objs.size f aQ))->dZ (mS P w K mg base N qual (zC sm) f aQ A outer s H E) E (y3 sm) g) :
  mK P w K mg base c name (k+1) (zE ps.length N.length g):=by
 obtain ⟨C,f,fd,hm,cl,mt,F,b⟩:=h
 exact ⟨C,f,fd,ps,hm,cl,mt,b,mT F S (hb f)⟩
def t8.ok {c qual:Str}{sm:Stmt}{N ps:Ad}{k:Nat}{g:Aj}(h:t8 K mg c qual sm ps) (S:aJ N ps (zC sm))
  (hb:∀(f:Addr) (aQ:Value) (A:Around) (outer:List Env) (s:Shared) (H:Hp) (E:XK),bh k (A.deeper (PyProof.Rows.envOfC qual (zC sm) s.heap.objs.size f aQ))->dZ (mS P w K mg base N qual (zC sm) f aQ A outer s H E) E (y3 sm) g) :
  Es P w K mg base c (k+1) (zE ps.length N.length g):=by
 obtain ⟨C,f,fd,hm,mk,F,b⟩:=h
 exact ⟨C,f,fd,ps,hm,mk,b,mT F S (hb f)⟩
def t_.ok {c fld qual:Str} {sm:Stmt} (h:t_ K mg c fld qual sm) (S:aJ ["self", fld] ["self", fld] (zC sm))
  (hb:∀(C f:Addr) (aQ:Value) (A:Around) (outer:List Env) (s:Shared) (H:Hp) (E:XK),gw K C fld->bG (cy (bT P w) P w K mg base ["self", fld] qual (zC sm) f aQ A outer s H E) (y3 sm) (DN K (oj 0) (oj 1) fld)) :
  Et P w K mg base c fld:=by
 obtain ⟨C,f,fd,hm,M,xc,F,b⟩:=h
 refine ⟨C,f,fd,hm,M,F.okX S (λvs H Q E h=>?_) (λaQ A outer s H vs Q E hr h=>⟨_,hb C f aQ A outer s H E xc,?_⟩),b⟩
 ·obtain ⟨a,t,y,rfl,_⟩:=h;rfl
 ·obtain ⟨a,t,y,rfl,ha,q⟩:=h
  exact ⟨y,rfl,.ref a,rfl,a,C,t,rfl,ha,xc,λd hd=>q d hd⟩
def jk:bootBuiltins "len" = some (.builtin "len"):=by decide +kernel
def jF:bootBuiltins "isinstance" = some (.builtin "isinstance"):=by decide +kernel
def ua:bootBuiltins "int" = some (.type "int"):=by decide +kernel
def EU:bootBuiltins "bool" = some (.type "bool"):=by decide +kernel
def ub:bootBuiltins "str" = some (.type "str"):=by decide +kernel
def mU:bootBuiltins "tuple" = some (.type "tuple"):=by decide +kernel
def uc:bootBuiltins "dict" = some (.type "dict"):=by decide +kernel
def pQ:bootBuiltins "list" = some (.type "list"):=by decide +kernel
end
theorem b_.mono {P:Program}{w:World}{K:Frag}{mg:Ab}{base:Heap}{x:Str}{j k:Nat}{m:Al}(h:b_ P w K mg base x j m) (pR:j<=k):b_ P w K mg base x k m:=by
 obtain ⟨f,fd,ps,h1,h2,h3,h4⟩:=h
 exact ⟨f,fd,ps,h1,h2,h3,h4.mono pR⟩
theorem mK.mono {P:Program}{w:World}{K:Frag}{mg:Ab}{base:Heap}{c x:Str}{j k:Nat}{m:Al}(h:mK P w K mg base c x j m) (pR:j<=k):mK P w K mg base c x k m:=by
 obtain ⟨C,f,fd,ps,h1,h2,h3,h4,h5⟩:=h
 exact ⟨C,f,fd,ps,h1,h2,h3,h4,h5.mono pR⟩
def fz (K:Frag):Sp:=λvs H Q _=>∃(a:Addr) (ns:List Int),vs=[.ref a]/\aS K H a (ns.map V.int)/\Only H/\ns.length<=63/\∀H',Q (.bl true) H'
theorem ud {K:Frag}{mg:Ab}{ρ:Ae}{H:Hp}:∀ns:List Int,Rs K mg ρ H (ns.map PV.int) (ns.map V.int)
 |[]=>rfl
 |n::ns=>⟨_,_,rfl,rfl,ud ns⟩
def EV {K:Frag}{H:Hp}{a:Addr}{vs:List V}(h:aS K H a vs) (o:Only H):eG K H a vs:=by
 rcases h with (h|⟨ob,h⟩)|h
 ·rcases o a with z|⟨ob,xs,z⟩
  ·rw [h] at z;cases z
  ·rw [h] at z;cases z
 ·exact .inl ⟨ob,h⟩
 ·exact .inr h
def EW {P:Program}{w:World}{K:Frag}{mg:Ab}{base:Heap}{k:Nat}{f:Addr}{fd:FuncData}{ps:Ad}{m:Al}(F:a_ P w K mg base (bT P w) k f fd ps (fw K mg m)) (h:∀ns:List Int,ns.length<=63->∃st,m [.frl (ns.map PV.int)] []=.ok (.bl true) st):a_ P w K mg base (bT P w) k f fd ps (fz K) :=
 F.imp λvs H Q E ⟨a,ns,e,hs,ho,hl,q⟩=>by
  subst e
  obtain ⟨st,hm⟩:=h ns hl
  refine ⟨[.frl (ns.map PV.int)],[],[],⟨_,[],rfl,⟨a,_,rfl,EV hs ho,ud ns⟩,rfl⟩,⟨rfl,List.nodup_nil,λn so e=>by simp at e⟩,?_⟩
  rw [hm]
  intro af H' _ _ v rv
  cases rv
  exact q H'
def walkM {l:PySem.W.OpenLaw}{k:Nat}{x:Str}{q:Program}{loose:Ad}{XP:(Ab)->Heap->Prop}{YP:World->Heap->Prop}{d:DefRec}{K:Params->PySem.W.Frag}(hn:l.most=some 63) (j_:d.params.defaults=[]) (hr:bh k callerA)
  (hY:∀(w:World) (h:Heap),YP w h->(K w.params).In h)
  (F:∀(w:World) (mg:Ab) (fa:Addr) (h:Heap),(K w.params).In h->h.Ns mainGlobals mg->mg d.name=some (.ref fa) ->
   ∃fd:FuncData,(∀(s:Shared) (u:Value),BindsTo s fd ⟨[u],[]⟩ [(x,u)])/\∀base:Heap,(K w.params).In base->base.Ns mainGlobals mg->a_ l.prog w (K w.params) mg base (bT l.prog w) k fa fd [x] (fz (K w.params))) :
  PySem.W.WalkO q loose XP YP l.row.toRowW d [] (λf vs=>PySem.call f vs) :=
 L2.zjn (n:=63) (k:=k) (x:=x) (CX:=λw=>bT l.prog w) (sp:=λw=>fz (K w.params)) hn (by decide) j_ hr hY F (λ_ _ a ns hl ho hS=>⟨a,ns,rfl,hS,ho,hl,λ_=>rfl⟩) λw H s e s' g=>by obtain ⟨_,_,_,_,_,_,_,_,_,_,_,_,_,_,_,z⟩:=g;exact z
section
variable {α β:Type} {env:zc} {st aa:aj} {fa fb fc fo fv:Ai} {fs:Ah} {ga gb:Ak} {g g':Aj} {op bA:Am} {o1:PV->Mo PV} {m:Al}
@[simp] def zB (a:α) (f:α->Mo β):(Res.ok a st).bind f=f a st:=(rfl)
@[simp] def Ju (f:α->Mo β):(Res.stuck:Res α).bind f=.stuck:=(rfl)
@[simp] def Jv (p:Prop) [Decidable p] (a b:Res α) (f:α->Mo β):(if p then a else b).bind f=if p then a.bind f else b.bind f:=by split<;>rfl
@[simp] def jr (i:Nat):zd i env st=(match env[i]? with|some (some x)=>.ok x st|_=>.stuck):=(rfl)
@[simp] def wP (x:PV):mC x env st=.ok x st:=(rfl)
@[simp] def wQ:zg op fa fb env st=(fa env st).bind λx aa=>(fb env aa).bind λy ak=>op x y ak:=(rfl)
@[simp] def Jw:wJ o1 fa env st=(fa env st).bind o1:=(rfl)
@[simp] def EY:mB fa env st=(fa env st).bind d0:=(rfl)
@[simp] def pS (b:Bool):d0 (.bl b) st=.ok b st:=(rfl)
@[simp] def Jx:jY op bA fa fb fc env st=(fa env st).bind λx aa=>(fb env aa).bind λy ak=>(op x y ak).bind λk aL=>(d0 k aL).bind λb fq=>if b=true then (fc env fq).bind λz bV=>bA y z bV else .ok (.bl false) fq:=(rfl)
@[simp] def ue:yT ga gb env st=(ga env st).bind λc aa=>if c=true then gb env aa else .ok false aa:=(rfl)
@[simp] def Jy:mI ga gb env st=(ga env st).bind λc aa=>if c=true then .ok true aa else gb env aa:=(rfl)
@[simp] def EZ:yU ga env st=(ga env st).bind λc aa=>.ok (!c) aa:=(rfl)
@[simp] def uf:jo fa fb env st=(fa env st).bind λx aa=>(d0 x aa).bind λc ak=>if c=true then fb env ak else .ok (.bl false) ak:=(rfl)
@[simp] def Jz:pA fa env st=(fa env st).bind λx aa=>(d0 x aa).bind λc ak=>.ok (.bl (!c)) ak:=(rfl)
@[simp] def ic:zk env st=.ok [] st:=(rfl)
@[simp] def wR:ze fa fs env st=(fa env st).bind λx aa=>(fs env aa).bind λxs ak=>.ok (x::xs) ak:=(rfl)
@[simp] def E1:yB fs env st=(fs env st).bind λxs aa=>if xs.length<=lim then .ok (.tup xs) aa else .stuck:=(rfl)
@[simp] def E2:jh fs env st=(fs env st).bind λxs aa=>if xs.length<=lim then .ok (.ref aa.length) (aa++[.lst xs]) else .stuck:=(rfl)
@[simp] def ug (fl fu:zc->Mo (Option Int)):yI fa fl fu env st=(fa env st).bind λx aa=>(fl env aa).bind λl ak=>(fu env ak).bind λu aL=>j1 x l u aL:=(rfl)
@[simp] def JA:ba env st=.ok none st:=(rfl)
@[simp] def E3:bf fa env st=(fa env st).bind pL:=(rfl)
@[simp] def E4 (i:Int):pL (.int i) st=.ok (some i) st:=(rfl)
@[simp] def ie:zo m fs env st=(fs env st).bind m:=(rfl)
@[simp] def kG (C:Int->Int->Bool) (f:Int->Int->Int) (i j:Int):opI C f (.int i) (.int j) st=if C i j=true then .ok (.int (f i j)) st else .stuck:=(rfl)
@[simp] def JB (f:Int->Int->Bool) (i j:Int):kC f (.int i) (.int j) st=.ok (.bl (f i j)) st:=(rfl)
@[simp] def JC (i:Int):h_ (.int i) st=.ok (.int (-i)) st:=(rfl)
@[simp] def JD (i j:Int):zS (.int i) (.int j) st=.ok (.int (i+j)) st:=(rfl)
@[simp] def JE (x y:Str):zS (.str x) (.str y) st=if x.length+y.length<=lim then .ok (.str (x++y)) st else .stuck:=(rfl)
@[simp] def JF (x:PV):cJ (some x) st=.ok x st:=(rfl)
@[simp] def JG (xs:An) (l u:Option Int):j1 (.frl xs) l u st=.ok (.ref st.length) (st++[.lst (bC xs l u)]):=(rfl)
@[simp] def JH (xs:An):zZ [.frl xs] st=.ok (.int xs.length) st:=(rfl)
@[simp] def JI (n:Nat):zZ [.ref n] st=zK st n λxs=>.ok (.int xs.length) st:=(rfl)
@[simp] def JJ (x y:PV):yy x y st=if plain x=true/\plain y=true/\dep x<=150 then .ok (.bl (bo x y)) st else .stuck:=(rfl)
@[simp] def uh:yu env st=.ok (.nx env) st:=(rfl)
@[simp] def ig:zx g g' env st=(g env st).bind (d_ g'):=(rfl)
@[simp] def mV:d_ g (.nx env) st=g env st:=(rfl)
@[simp] def JK (x:PV):d_ g (.rt x) st=.ok (.rt x) st:=(rfl)
@[simp] def kH (i:Nat):zD i fa env st=(fa env st).bind λx aa=>.ok (.nx (env.set i (some x))) aa:=(rfl)
@[simp] def E5:yN fa env st=(fa env st).bind λ_ aa=>.ok (.nx env) aa:=(rfl)
@[simp] def pT:zQ fa env st=(fa env st).bind λx aa=>.ok (.rt x) aa:=(rfl)
@[simp] def pU:zX ga g g' env st=(ga env st).bind λc aa=>if c=true then g env aa else g' env aa:=(rfl)
@[simp] def pV (i:Nat) (x:PV):gN i x env=some (env.set i (some x)):=(rfl)
@[simp] def E6 (x:PV):endOf (.rt x) st=.ok x st:=(rfl)
@[simp] def JL (i:Nat):kE i op fa env st=(zd i env st).bind λx c9=>(fa env c9).bind λy aa=>(op x y aa).bind λz ak=>.ok (.nx (env.set i (some z))) ak:=(rfl)
@[simp] def JM (i j:Int):fy (.int i) (.int j) st=.ok (.int (i+j)) st:=(rfl)
@[simp] def E7:yD fa env st=(fa env st).bind gA:=(rfl)
@[simp] def E8 (n:Nat):gA (.ref n) st=zK st n λ_=>.ok (.rf n) st:=(rfl)
@[simp] def pW (src:zc->Mo Sq) (gt:PV->zc->Option zc):wO src gt g env st=(src env st).bind λq aa=>gT gt g q env aa:=(rfl)
@[simp] def pX (gt:PV->zc->Option zc) (xs:An):gT gt g (.im xs) env st=forL gt g xs env st:=(rfl)
@[simp] def JN (gt:PV->zc->Option zc):forL gt g [] env st=.ok (.nx env) st:=(rfl)
@[simp] def JO (i:Int):Mi.plain (.int i)=true:=(rfl)
@[simp] def JP (i:Int):dep (.int i)=0:=(rfl)
@[simp] def JQ (a b:Int):bo (.int a) (.int b)=(a==b):=(rfl)
@[simp] def il (a:α):cu (Res.ok a st)=.ok a st:=(rfl)
def ye {n:Nat}{xs:An}(h:st[n]?=some (.lst xs)) (k:List PV->Res α):zK st n k=k xs:=by unfold zK;rw [h]
@[simp] def E9 (xs:An) (k:List PV->Res α):zK (st++[.lst xs]) st.length k=k xs:=ye (by simp) k
@[simp] def E_:yK op fo fv env st=(fo env st).bind λo aa=>(fV o aa).bind λo aa=>(fv env aa).bind λy ak=>op o y ak:=(rfl)
@[simp] def Fb (n:Nat):fV (.ref n) st=zK st n λ_=>.ok (.ref n) st:=(rfl)
def uk (n:Nat):ck ga g (n+1) env st=(ga env st).bind λc aa=>if c=true then (g env aa).bind λfl ak=>match fl with
   |.nx e=>ck ga g n e ak
   |.ct e=>ck ga g n e ak
   |.bk e=>.ok (.nx e) ak
   |.rt v=>.ok (.rt v) ak
  else .ok (.nx env) aa:=rfl
@[simp] def pY:lim=1000000:=(rfl)
end
section
variable {K:Frag} {mg:Ab} {h:Heap} {x:Str} {f:Addr} {oc:Value} {od an:Option Addr} {dW:Array (Option Value)} {kV doc pm aQ ct:Value} {sm:Stmt} {ps:Ad}
def zdg (X:K.In h) (G:h.Ns mainGlobals mg) (a:nsIn K mainGlobals x=some (some (.ref f))) (l:K.lookup f=some ⟨oc,od,.func (fnOf x x (wG sm) (y3 sm) (zC sm) .none kV doc pm an aQ ct),dW⟩) (c:codeIn K aQ x=true) (k:keepIn K (.ref f)=true)
  (b:∀(kV doc pm:Value) (an:Option Addr) (aQ ct:Value) (us:Af),us.length=ps.length->bindArgs (fnOf x x (wG sm) (y3 sm) (zC sm) .none kV doc pm an aQ ct) ⟨us,[]⟩=pure (ps.zip us)):FnF K mg x sm ps :=
 ⟨f,_,mg_of X G a,sI l c k,(sI l c k).binds b⟩
def all_cons {α:Type}{P:α->Prop}{a:α}{l:List α}(h:P a) (t:∀p∈l,P p):∀p∈a::l,P p:=λp hp=>by
 rcases yt.mp hp with rfl|hp
 ·exact h
 ·exact t p hp
end
def zkV {P:Program}{w:World}{K:Frag}{mg:Ab}{x y:Str}{sm:Stmt}{fa:Addr}{k:Nat}{m:Al}(h:FnF K mg x sm [y]) (hmg:mg x=some (.ref fa))
  (hb:∀(kV doc pm:Value) (an:Option Addr) (aQ ct:Value) (u:Value),bindArgs (fnOf x x (wG sm) (y3 sm) (zC sm) .none kV doc pm an aQ ct) ⟨[u],[]⟩=pure [(y,u)])
  (hok:∀(f:Addr) (fd:FuncData),cK K x x sm f fd->∀base:Heap,a_ P w K mg base (bT P w) k f fd [y] (fw K mg m)) (hp:∀ns:List Int,ns.length<=63->∃st,m [.frl (ns.map PV.int)] []=.ok (.bl true) st) :
  ∃fd:FuncData,(∀(s:Shared) (u:Value),BindsTo s fd ⟨[u],[]⟩ [(y,u)])/\∀base:Heap,K.In base->base.Ns mainGlobals mg->a_ P w K mg base (bT P w) k fa fd [y] (fz K):=by
 obtain ⟨f,fd,hm,F,_⟩:=h
 rw [hmg] at hm
 cases hm
 refine ⟨fd,λs u=>?_,λbase _ _=>EW (hok fa fd F base) hp⟩
 obtain ⟨oc,od,kV,doc,pm,an,aQ,ct,dW,rfl,_⟩:=F.ex
 exact .of_eq (hb kV doc pm an aQ ct u)
def zdh {K:Frag}{mg:Ab}{h:Heap}{x:Str}{i:Int}{t:Tok}(X:K.In h) (G:h.Ns mainGlobals mg) (a:nsIn K mainGlobals x=some (some (.int i t))):∃t,mg x=some (.int i t):=⟨t,mg_of X G a⟩
def zkW {K:Frag}{mg:Ab}{h:Heap}{x z:Str}{t:Tok}(X:K.In h) (G:h.Ns mainGlobals mg) (a:nsIn K mainGlobals x=some (some (.str z t))):∃t,mg x=some (.str z t):=⟨t,mg_of X G a⟩
def zkX {K:Frag}{mg:Ab}{h:Heap}{x:Str}(X:K.In h) (G:h.Ns mainGlobals mg) (a:nsIn K mainGlobals x=some none):mg x=none:=mg_none_of X G a
section
variable {X:Cx} {Er:XK} {K:Frag} {mg:Ab} {a e o:Expr} {pos pos':Pos} {fo:Ai}
abbrev kz (ks:Ad) (vs:List V):List (Key×V):=(ks.map Sum.inr).zip vs
theorem pZ {z:Str}:∀{ks:Ad}{vs:List V},b0 (kz ks vs) (Sum.inr z)=(ks.zip vs).lookup z
 |[],_=>by simp [kz,b0]
 |k::ks,[]=>by simp [kz,b0]
 |k::ks,v::vs=>by
  have ih:=pZ (z:=z) (ks:=ks) (vs:=vs)
  by_cases h:k=z
  ·subst h
   rw [show kz (k::ks) (v::vs)=(Sum.inr k,v)::kz ks vs from rfl,mm rfl]
   simp [wm]
  ·rw [show kz (k::ks) (v::vs)=(Sum.inr k,v)::kz ks vs from rfl,mn (by simpa using h),ih]
   have:(z==k)=false:=by simpa using λq=>h q.symm
   simp [wm,this]
theorem uo {z:Str}:∀{ks:Ad}{vs:List V},ks.length=vs.length->((kz ks vs).any λkv=>decide (kv.1=Sum.inr z))=ks.contains z
 |[],_,_=>by simp [kz]
 |k::ks,[],h=>by simp at h
 |k::ks,v::vs,h=>by
  have ih:=uo (z:=z) (ks:=ks) (vs:=vs) (by simpa using h)
  rw [show kz (k::ks) (v::vs)=(Sum.inr k,v)::kz ks vs from rfl,List.any_cons,ih,List.contains_cons]
  congr 1
  by_cases hz:k=z
  ·subst hz;simp
  ·have:(z==k)=false:=by simpa using λq=>hz q.symm
   simp [hz,this]
def repl {α:Type}(z:Str) (x:α):List Str->List α->List α
 |k::ks,y::ys=>(if k=z then x else y)::repl z x ks ys
 |_,ys=>ys
def jG (z:Str) (x:PV) (ks:Ad) (xs:An):List Str×List PV:=if ks.contains z=true then (ks,repl z x ks xs) else (ks++[z],xs++[x])
theorem uq {z:Str}{v:V}:∀{ks:Ad}{vs:List V},(kz ks vs).map (λkv=>if kv.1=Sum.inr z then (kv.1,v) else kv)=kz ks (repl z v ks vs)
 |[],_=>by simp [kz]
 |k::ks,[]=>by simp [kz,repl]
 |k::ks,w::vs=>by
  rw [show kz (k::ks) (w::vs)=(Sum.inr k,w)::kz ks vs from rfl,ym,uq,show repl z v (k::ks) (w::vs)=(if k=z then v else w)::repl z v ks vs from rfl,show ∀u us,kz (k::ks) (u::us)=(Sum.inr k,u)::kz ks us from λ_ _=>rfl]
  by_cases h:k=z
  ·subst h;simp
  ·rw [zt (by simpa using h),zt h]
theorem ur {ρ:Ae}{H:Hp}{z:Str}{x:PV}{v:V}(r:R K mg ρ H x v):∀{ks:Ad}{xs:An}{vs:List V},Rs K mg ρ H xs vs->Rs K mg ρ H (repl z x ks xs) (repl z v ks vs)
 |[],xs,vs,h=>by cases xs<;>cases vs<;>exact h
 |k::ks,[],vs,h=>by cases h;exact rfl
 |k::ks,y::ys,vs,h=>by
  obtain ⟨w,ws,rfl,h1,h2⟩:=h
  refine ⟨_,_,rfl,?_,ur r h2⟩
  split
  ·exact r
  ·exact h1
theorem uu {α:Type}{z:Str}{x:α}:∀{ks:Ad}{xs:List α},(repl z x ks xs).length=xs.length
 |[],xs=>by cases xs<;>rfl
 |k::ks,[]=>rfl
 |k::ks,y::ys=>by simp [repl,uu (ks:=ks)]
def uv {ρ:Ae}{H:Hp}{z:Str}{x:PV}{v:V}(r:R K mg ρ H x v) {ks:Ad}{xs:An}{vs:List V}(hl:ks.length=vs.length) (h:Rs K mg ρ H xs vs):∃ws,L2.putK (kz ks vs) (Sum.inr z) v=kz (jG z x ks xs).1 ws/\Rs K mg ρ H (jG z x ks xs).2 ws/\(jG z x ks xs).1.length=ws.length:=by
 unfold L2.putK jG
 rw [uo hl]
 by_cases hc:ks.contains z=true
 ·rw [zu hc,zu hc]
  exact ⟨repl z v ks vs,uq,ur r h,by rw [uu];exact hl⟩
 ·rw [zt hc,zt hc]
  refine ⟨vs++[v],?_,h.append ⟨v,[],rfl,r,rfl⟩,by simp [hl]⟩
  show _=(List.map Sum.inr (ks++[z])).zip (vs++[v])
  rw [List.map_append,List.zip_append (by simpa using hl)]
  rfl
def uw:Ai:=λ_ st=>.ok (.ref st.length) (st++[.dic [] []])
def zkY:ME X Er (.Dict [] [] pos) uw:=PE.weak DD λU H Q ⟨env,st,ρ,re,rs,h⟩=>λq hq =>
 h (ρ++[q]) _ (Ext.push hq) (rs.push hq ⟨[],yg,rfl,rfl⟩) _ ⟨q,rfl,by rw [<-rs.len];simp⟩
def Fc:Am
 |.ref n,.str z,st=>yM st n λks xs=>cJ ((ks.zip xs).lookup z) st
 |_,_,_=>.stuck
def zH:Am
 |.ref n,.str z,st=>Fc (.ref n) (.str z) st
 |x,y,st=>pF x y st
def Fd:R2:=λx y H Q=>∃a v,x=.ref a/\cV H a y (some v)/\Q v H
def Fe (hu:X.A.units+1<cLine):dY X Fd:=by
 intro value slice pins s U H x y v u Q I rx ry h hs
 obtain ⟨a,w,rfl,g,q⟩:=h
 obtain rfl:v=Value.ref a:=rx
 exact PyProof.Rows.tail_any (Dz I g) PySem.F.slot_dict_getitem.lookup (Dw hu I g ry λw' s' I' cn=>⟨w,H,I',cn,q⟩) hs
def R.refD {ρ:Ae}{H:Hp}{st:aj}{n:Nat}{ks:Ad}{xs:An}{v:V}(s:aP K mg ρ H st) (r:R K mg ρ H (.ref n) v) (h:st[n]?=some (.dic ks xs)):∃a vs,v=.ref a/\ρ[n]?=some a/\H a=some (.dK (kz ks vs))/\Rs K mg ρ H xs vs/\ks.length=vs.length:=by
 obtain ⟨a,rfl,ha⟩:=r
 obtain ⟨vs,h1,h2,h3⟩:=s.addr h ha
 exact ⟨a,vs,rfl,ha,h1,h2,h3⟩
def ux {H:Hp}{a:Addr}{ks:Ad}{vs:List V}{z:Str}(h:H a=some (.dK (kz ks vs))):cV H a (.str z) ((ks.zip vs).lookup z):=by
 have g:=cV.k (k:=Sum.inr z) h
 rw [pZ] at g
 exact g
def yQ (hu:X.A.units+200<cLine):kA X zH:=by
 obtain ⟨r,h1,h2⟩:=Ei (X:=X)
 refine ⟨_,h1.or (Fe (by omega)),fun ρ H st x y v w Q E s rx ry h=>?_⟩
 by_cases hx:∃n z,x=.ref n/\y=.str z
 ·obtain ⟨n,z,rfl,rfl⟩:=hx
  obtain ⟨ks,xs,e,h⟩:=tR (show Out X.K X.mg ρ H (yM st n λks xs=>cJ ((ks.zip xs).lookup z) st) (gV X.K X.mg Q) E from h)
  obtain ⟨q,hq,h⟩:=kD h
  obtain ⟨a,vs,rfl,_,k1,k2,_⟩:=R.refD s rx e
  cases ry
  obtain ⟨v,hv,rv⟩:=mL k2 hq
  refine .inr ⟨a,v,rfl,?_,h.now s _ rv⟩
  have g:=ux (z:=z) k1
  rw [hv] at g
  exact g
 ·refine .inl (h2 ρ H st x y v w Q E s rx ry ?_)
  have:zH x y st=pF x y st:=by
   unfold zH
   split
   ·rename_i n z;exact absurd ⟨n,z,rfl,rfl⟩ hx
   ·rfl
  rw [this] at h
  exact h
def jH (z x:PV):PV->Mo Unit
 | .ref n,st=>match z with
  |.str z=>yM st n λks xs=>if ks.length<lim then .ok () (st.set n (.dic (jG z x ks xs).1 (jG z x ks xs).2)) else .stuck
  |_=>.stuck
 |_,_=>.stuck
def mW (fo fi fv:Ai):Aj:=λenv st=>(fv env st).bind λx aa=>(fo env aa).bind λo ak=>(fi env ak).bind λz aL=>(jH z x o aL).bind λ_ fq=>.ok (.nx env) fq
def Ff {i value:Expr}{fi fv:Ai}(hu:X.A.units+200<cLine) (ho:ME X Er o fo) (hi:ME X Er i fi) (hv:ME X Er value fv) (hs:swapsWith value (some (.Subscript o i pos')) pos.line X.env=pure false:=by rfl):MS X Er (.Assign [.Subscript o i pos'] value pos) (mW fo fi fv) :=
 PS.weak (DB (by omega) ho hi hv hs) λD U H ⟨env,st,ρ,re,rs,h⟩=>⟨env,st,ρ,re,rs,h.then λad H1 x aa e1 s1 h1 v rv=>⟨env,aa,ad,re.ext e1,s1,h1.then λap H2 y ak e2 s2 h2 w rw=>⟨env,ak,ap,(re.ext e1).ext e2,s2,h2.then λam H3 zz aL e3 s3 h3 u ru=>by
  cases y with
  |ref n =>
   cases zz with
   |str z =>
    cases hn:aL[n]? with
    |none=>simp only [jH,yM,hn] at h3;exact h3.elim
    |some so =>
     cases so with
     |lst _=>simp only [jH,yM,hn] at h3;exact h3.elim
     |ins _ _ _=>simp only [jH,yM,hn] at h3;exact h3.elim
     |fdi _ _=>simp only [jH,yM,hn] at h3;exact h3.elim
     |dit _ _=>simp only [jH,yM,hn] at h3;exact h3.elim
     |odd _ _=>simp only [jH,yM,hn] at h3;exact h3.elim
     |fod _ _=>simp only [jH,yM,hn] at h3;exact h3.elim
     |dic ks xs =>
      simp only [jH,yM,hn] at h3
      by_cases hc:ks.length<lim
      ·rw [zu hc] at h3
       obtain ⟨a,vs,e4,ha,k1,k2,k3⟩:=R.refD s3 (R.ext e3 _ rw) hn
       subst e4
       cases ru
       obtain ⟨ws,q1,q2,q3⟩:=uv (z:=z) (R.ext e3 x (R.ext e2 x rv)) k3 k2
       have hlen:(kz ks vs).length<sizeLine:=by
        have:(kz ks vs).length=ks.length:=by simp [kz,k3]
        rw [this,sizeLine_eq]
        have:ks.length<1000000:=hc
        omega
       have g:=eE.k (k:=Sum.inr z) (v:=v) k1 hlen
       have ew:Ext am H3 am (upd H3 a (.dK (L2.putK (kz ks vs) (Sum.inr z) v))):=Ext.write k1 rfl
       refine ⟨a,_,rfl,g,h3 am _ ew (s3.write ha ew ⟨ws,by rw [yg,q1],Rs.ext ew _ q2,q3⟩) U ((((re.ext e1).ext e2).ext e3).ext ew)⟩
      ·rw [zt hc] at h3;exact h3.elim
   |_=>exact h3.elim
  |_=>exact h3.elim⟩⟩⟩
end
open Classical in
def du (K:Frag) (mg:Ab) (ρ:Ae) (H:Hp) (ys:An) (x:PV) (u:Value):Bool:=decide (∃y v,y∈ys/\R K mg ρ H y v/\RelV v u/\bo y x=true)
section
variable {X:Cx} {K:Frag} {mg:Ab} {ρ:Ae} {pins:Ac} {U:L2.St} {H:Hp} {s:Shared}
def okIn (x:PV) (ys:An):Prop:=Mi.plain x=true/\bF ys=true/\eI ys<=150
instance (x:PV) (ys:An):Decidable (okIn x ys):=by unfold okIn;infer_instance
theorem Rs.mem:∀{xs:An}{vs:List V}{us:Af}{u:Value},Rs K mg ρ H xs vs->Vals vs us->u∈us->∃y v,y∈xs/\R K mg ρ H y v/\RelV v u
 |[],_,_,_,h,hv,hu=>by cases h;cases hv;cases hu
 |x::xs,_,_,u,h,hv,hu=>by
  obtain ⟨v,r,rfl,h1,h2⟩:=h
  cases hv with
  |cons r1 r2 =>
   rcases yt.mp hu with rfl|hu
   ·exact ⟨x,v,by simp,h1,r1⟩
   ·obtain ⟨y,w,q1,q2,q3⟩:=Rs.mem h2 r2 hu
    exact ⟨y,w,by simp [q1],q2,q3⟩
theorem Rs.mem':∀{xs:An}{vs:List V}{us:Af}{y:PV},Rs K mg ρ H xs vs->Vals vs us->y∈xs->∃u v,u∈us/\R K mg ρ H y v/\RelV v u
 |[],_,_,_,_,_,hy=>by cases hy
 |x::xs,_,_,y,h,hv,hy=>by
  obtain ⟨v,r,rfl,h1,h2⟩:=h
  cases hv with
  |cons r1 r2 =>
   rcases yt.mp hy with rfl|hy
   ·exact ⟨_,v,by simp,h1,r1⟩
   ·obtain ⟨u,w,q1,q2,q3⟩:=Rs.mem' h2 r2 hy
    exact ⟨u,w,by simp [q1],q2,q3⟩
def Fg {ys:An}{y:PV}(h:bF ys=true) (hy:y∈ys):Mi.plain y=true:=by
 obtain ⟨i,hi⟩:=List.getElem?_of_mem hy
 exact mJ h hi
def Fh {ys:An}{y:PV}(hy:y∈ys):dep y<=eI ys:=by
 obtain ⟨i,hi⟩:=List.getElem?_of_mem hy
 exact pG hi
open Classical in
def uz (I:Inv X pins U H s) {A:Around}(hu:A.units+200<cLine) {ys:An}{vs:List V}{us:Af}{x:PV}{w:V}{v:Value}(ok:okIn x ys) (ry:Rs X.K mg ρ H ys vs) (rv:Vals vs us) (rx:R X.K mg ρ H x w) (rw:RelV w v) :
  (∀u∈us,SeqAt.EqAt A.in1 s u v (du X.K mg ρ H ys x u))/\us.any (du X.K mg ρ H ys x)=ys.any λy=>bo y x:=by
 obtain ⟨px,py,hd⟩:=ok
 have one:∀y v' u,y∈ys->R X.K mg ρ H y v'->RelV v' u->SeqAt.EqAt A.in1 s u v (bo y x):=λy v' u hy r1 r2 =>
  (pH I 150 y x A.in1 (yL (Fh hy) hd) (Fg py hy) px r1 rx r2 rw (by rw [ia];omega)).1
 refine ⟨λu hu'=>?_,?_⟩
 ·obtain ⟨y,v',q1,q2,q3⟩:=Rs.mem ry rv hu'
  by_cases h:∃y v,y∈ys/\R X.K mg ρ H y v/\RelV v u/\bo y x=true
  ·have e:du X.K mg ρ H ys x u=true:=by simpa [du] using h
   obtain ⟨y2,v2,z1,z2,z3,z4⟩:=h
   rw [e,<-z4]
   exact one y2 v2 u z1 z2 z3
  ·have e:du X.K mg ρ H ys x u=false:=by unfold du;exact yn h
   rw [e]
   have:bo y x=false:=by
    cases hq:bo y x with
    |false=>rfl
    |true=>exact absurd ⟨y,v',q1,q2,q3,hq⟩ h
   rw [<-this]
   exact one y v' u q1 q2 q3
 ·rw [Bool.eq_iff_iff]
  simp only [List.any_eq_true]
  constructor
  ·rintro ⟨u,hu',he⟩
   have h:∃y v,y∈ys/\R X.K mg ρ H y v/\RelV v u/\bo y x=true:=by unfold du at he;exact of_decide_eq_true he
   obtain ⟨y,v',z1,_,_,z4⟩:=h
   exact ⟨y,z1,z4⟩
  ·rintro ⟨y,hy,he⟩
   obtain ⟨u,v',q1,q2,q3⟩:=Rs.mem' ry rv hy
   exact ⟨u,q1,by unfold du;exact jg ⟨y,v',hy,q2,q3,he⟩⟩
def yX (neg:Bool):Am
 |x,.tup ys,st=>if okIn x ys then .ok (.bl (neg.xor (ys.any λy=>bo y x))) st else .stuck
 |x,.frl ys,st=>if okIn x ys then .ok (.bl (neg.xor (ys.any λy=>bo y x))) st else .stuck
 | x,.ref n,st=>match st[n]?,x with
  |some (.lst ys),x=>if okIn x ys then .ok (.bl (neg.xor (ys.any λy=>bo y x))) st else .stuck
  |some (.dic ks xs),.str z=>.ok (.bl (neg.xor ((ks.zip xs).lookup z).isSome)) st
  |_,_=>.stuck
 |.str ⟨⟨[c]⟩⟩,.str z,st=>.ok (.bl (neg.xor (decide (c∈z.cps.toList)))) st
 |_,_,_=>.stuck
def uA (K:Frag) (mg:Ab) (neg:Bool):R2:=λv w H Q =>
 (∃ρ x ys vs p,okIn x ys/\w=.ref p/\(aS K H p vs\/bg K H p vs)/\Rs K mg ρ H ys vs/\R K mg ρ H x v/\Q (.bl (neg.xor (ys.any λy=>bo y x))) H) \/
 (∃p o,w=.ref p/\cV H p v o/\Q (.bl (neg.xor o.isSome)) H)\/∃(c:Nat) (z:Str),v=.str ⟨#[c]⟩/\w=.str z/\Q (.bl (neg.xor (decide (c∈z.cps.toList)))) H
def Fi (hu:X.A.units+200<cLine):aW X (compareOp .In) (uA X.K X.mg false):=by
 intro pins s U H x y v u Q I rx ry h
 rcases h with ⟨ρ,a,ys,vs,p,ok,rfl,hq,uB,ra,q⟩|⟨p,o,rfl,g,q⟩|⟨c,z,rfl,rfl,q⟩
 ·obtain rfl:u=Value.ref p:=ry
  rcases hq with hq|hq
  ·obtain ⟨its,r,pl,_⟩:=I.list hq
   obtain ⟨f1,f2⟩:=uz I hu ok uB r ra rx
   refine SeqAt.in_listAt (du X.K X.mg ρ H ys a) pl.isList (λw hw=>f1 w (by simpa using hw)) ⟨.bl _,H,I,rfl,?_⟩
   rw [show its.toArray.any (du X.K X.mg ρ H ys a)=its.any (du X.K X.mg ρ H ys a) by simp,f2]
   simpa using q
  ·obtain ⟨its,r,pl,_⟩:=I.tuple hq
   obtain ⟨f1,f2⟩:=uz I hu ok uB r ra rx
   refine SeqAt.in_tupleAt (du X.K X.mg ρ H ys a) pl (λw hw=>f1 w (by simpa using hw)) ⟨.bl _,H,I,rfl,?_⟩
   rw [show its.toArray.any (du X.K X.mg ρ H ys a)=its.any (du X.K X.mg ρ H ys a) by simp,f2]
   simpa using q
 ·obtain rfl:u=Value.ref p:=ry
  exact Dx (by omega) I g rx λs' I'=>⟨.bl o.isSome,H,I',rfl,by simpa using q⟩
 ·exact Du pins s U H _ _ v u Q I rx ry ⟨c,z,rfl,rfl,by simpa using q⟩
def Fj {neg:Bool}:cL K mg (uA K mg neg) (yX neg):=by
 intro ρ H st x y v w Q E s rx ry h
 cases y with
 |tup ys =>
  obtain ⟨p,vs,rfl,k1,k2⟩:=ry
  obtain ⟨ok,h⟩:=Out.ifp (show Out K mg ρ H (if okIn x ys then .ok (.bl (neg.xor (ys.any λy=>bo y x))) st else .stuck) (gV K mg Q) E from by cases x<;>exact h)
  exact .inl ⟨ρ,x,ys,vs,p,ok,rfl,.inr k1,k2,rx,h.now s _ rfl⟩
 |frl ys =>
  obtain ⟨p,vs,rfl,k1,k2⟩:=ry
  obtain ⟨ok,h⟩:=Out.ifp (show Out K mg ρ H (if okIn x ys then .ok (.bl (neg.xor (ys.any λy=>bo y x))) st else .stuck) (gV K mg Q) E from by cases x<;>exact h)
  exact .inl ⟨ρ,x,ys,vs,p,ok,rfl,.inl k1.sq,k2,rx,h.now s _ rfl⟩
 |ref n =>
  cases hn:st[n]? with
  |none=>exfalso;cases x<;>(simp only [yX,hn] at h;exact h)
  |some so =>
   cases so with
   |lst ys =>
    obtain ⟨p,vs,rfl,_,k1,k2⟩:=R.refL s ry hn
    obtain ⟨ok,h⟩:=Out.ifp (show Out K mg ρ H (if okIn x ys then .ok (.bl (neg.xor (ys.any λy=>bo y x))) st else .stuck) (gV K mg Q) E from by cases x<;>(simp only [yX,hn] at h;exact h))
    exact .inl ⟨ρ,x,ys,vs,p,ok,rfl,.inl (aS.of k1),k2,rx,h.now s _ rfl⟩
   |dic ks xs =>
    obtain ⟨p,vs,rfl,_,k1,k2,k3⟩:=R.refD s ry hn
    cases x with
    |str z =>
     simp only [yX,hn] at h
     cases rx
     refine .inr (.inl ⟨p,_,rfl,ux k1,?_⟩)
     have e:((ks.zip vs).lookup z).isSome=((ks.zip xs).lookup z).isSome:=by
      cases hq:(ks.zip xs).lookup z with
      |some q=>obtain ⟨v,hv,_⟩:=mL k2 hq;rw [hv];rfl
      |none =>
       have:z∉ks:=by
        intro hz
        obtain ⟨i,hi⟩:=List.getElem?_of_mem hz
        have hl:i<xs.length:=by rw [k2.len,<-k3];exact (zM.mp hi).1
        have:=List.lookup_eq_none_iff.mp hq (z,xs[i]) (List.mem_iff_getElem?.mpr ⟨i,by simp [List.getElem?_zip_eq_some,hi,hl]⟩)
        simp at this
       rw [tW this];rfl
     rw [e]
     exact h.now s _ rfl
    |_=>simp only [yX,hn] at h;exact h.elim
   |ins c ks xs=>exfalso;cases x<;>(simp only [yX,hn] at h;exact h)
   |fdi ks xs=>exfalso;cases x<;>(simp only [yX,hn] at h;exact h)
   |dit ks xs=>exfalso;cases x<;>(simp only [yX,hn] at h;exact h)
   |odd c xs=>exfalso;cases x<;>(simp only [yX,hn] at h;exact h)
   |fod c xs=>exfalso;cases x<;>(simp only [yX,hn] at h;exact h)
 |str z =>
  cases x with
  |str q =>
   obtain ⟨⟨l⟩⟩:=q
   match l,rx,h with
   |[c],rx,h=>cases rx;cases ry;exact .inr (.inr ⟨c,z,rfl,rfl,Out.now (x:=PV.bl _) h s _ rfl⟩)
   |[],rx,h=>exact h.elim
   |_::_::_,rx,h=>exact h.elim
  |_=>exact h.elim
 |non=>exfalso;cases x<;>exact h
 |bl _=>exfalso;cases x<;>exact h
 |int _=>exfalso;cases x<;>exact h
 |ty _=>exfalso;cases x<;>exact h
 |fn _=>exfalso;cases x<;>exact h
 |kd _ _=>exfalso;cases x<;>exact h
 |exo _ _ _=>exfalso;cases x<;>exact h
def Fm (hu:X.A.units+200<cLine):bK X .In (yX false):=⟨_,Fi hu,Fj⟩
end
section
variable {X:Cx} {Er:XK} {pos:Pos}
abbrev XN:XK:=λ_ _ _=>False
def Fn:wo X XN:=λ_ _ _ _ _ _ _ _ _ q=>q.elim
def cG (fe:Ai) (env:zc):List PV->Al
 |[],ys,st=>.ok (.ref st.length) (st++[.lst ys])
 |x::xs,ys,st=>(cu (fe (some x::env) st)).bind λy aa=>cG fe env xs (ys++[y]) aa
def cv (fe:Ai) (env:zc) (n:Nat):Nat->Nat->Al
 |0,_,_,_=>.stuck
 | m+1,i,ys,st=>zK st n λxs=>match xs[i]? with
  |none=>.ok (.ref st.length) (st++[.lst ys])
  |some x=>(cu (fe (some x::env) st)).bind λy aa=>cv fe env n m (i+1) (ys++[y]) aa
def dH (fe:Ai) (env:zc):Sq->Mo PV
 |.im xs,st=>if xs.length<=lim then cG fe env xs [] st else .stuck
 |.rf n,st=>cv fe env n (lim+1) 0 [] st
def yo (src:zc->Mo Sq) (fe:Ai):Ai:=λenv st=>(src env st).bind λq aa=>dH fe env q aa
theorem Rs.snoc {K:Frag}{mg:Ab}{ρ:Ae}{H:Hp}{x:PV}{v:V}(r:R K mg ρ H x v):∀{xs:An}{vs:List V},Rs K mg ρ H xs vs->Rs K mg ρ H (xs++[x]) (vs++[v])
 |[],_,h=>by cases h;exact ⟨v,[],rfl,r,rfl⟩
 |y::xs,_,h=>by
  obtain ⟨w,q,rfl,h1,h2⟩:=h
  exact ⟨w,q++[v],rfl,h1,Rs.snoc r h2⟩
def Fo {elt iter:Expr} {x:Str} {px:Pos} {scope:Scope} {src:zc->Mo Sq} {fe:Ai} {M:Ad} (hc:X.calm=true) (S:bw X.env.scope scope x) (eN:Hid scope M X.N) (bY:((".0" : Str)::x::M).Nodup)
  (hi:MI X Er (.Name x px) iter src) (he:∀cl C ae ah fp,ME (fL X M scope cl x C ae ah fp (λ_ _=>False)) XN elt fe)
  (hs:∀v,foldedSetIterable iter X.env v=pure v:=by intro _;rfl):ME X Er (.ListComp elt [⟨.Name x px,iter,[],0⟩] scope pos) (yo src fe) :=
 PE.weak (sS (te:=tM X.K X.mg XN fe) hc S eN bY hi (λcl C ae ah fp=>he cl C ae ah fp) hs) λU H Q ⟨env,st,ρ,re,rs,h⟩=>⟨env,st,ρ,re,rs,h.then λao H0 q c9 e0 s0 h0 J wk=>by
  cases q with
  |im xs =>
   obtain ⟨hl,h0⟩:=Out.ifp h0
   obtain ⟨w1,w2,w3⟩:=wk
   refine ⟨λi m ys H=>m=xs.length-i/\i<=xs.length/\ys.length=i/\∃ps st ρ,Rs X.K X.mg ρ H ps ys/\aP X.K X.mg ρ H st/\Ext ao H0 ρ H/\Out X.K X.mg ρ H (cG fe env (xs.drop i) ps st) (gV X.K X.mg Q) Er,⟨xs.length,by simp,y1 _,rfl,[],c9,ao,rfl,s0,Ext.refl,h0⟩,?_⟩
   rintro i m ys H ⟨rfl,hi,hy,ps,st,ρ,c4,rs,ex,h⟩
   by_cases aZ:i<xs.length
   ·refine .inr ⟨w1 i ρ H ex aZ,yO (by omega),λv H' y=>?_⟩
    obtain ⟨x,hx,dr,s2,rx⟩:=w3 i ρ H st v H' ex rs aZ y
    have hd:xs.drop i=x::xs.drop (i+1):=by
     rw [je aZ]
     have:=(zM.mp hx).2
     rw [this]
    rw [hd] at h
    simp only [cG] at h
    refine ⟨some x::env,st,ρ,(re.ext (e0.trans (ex.trans dr))).cons rx,s2,mO (Out.ext h dr) λam H3 y aL e3 s3 h3 v ry=>⟨xs.length-(i+1),by omega,rfl,aZ,by simp [hy],ps++[y],aL,am,Rs.snoc ry (Rs.ext (dr.trans e3) ps c4),s3,(ex.trans dr).trans e3,h3⟩⟩
   ·have e:i=xs.length:=by omega
    subst e
    rw [List.drop_length] at h
    exact .inl ⟨w2 _ ρ H ex (zG _),yO (by omega),λl hl=>Out.newList h rs c4 hl⟩
  |rf n =>
   obtain ⟨a,ha,rfl⟩:=wk
   refine ⟨λi m ys H=>m+i=lim+1/\ys.length=i/\∃ps st ρ,Rs X.K X.mg ρ H ps ys/\aP X.K X.mg ρ H st/\Ext ao H0 ρ H/\ρ[n]?=some a/\Out X.K X.mg ρ H (cv fe env n m i ps st) (gV X.K X.mg Q) Er,⟨lim+1,rfl,rfl,[],c9,ao,rfl,s0,Ext.refl,ha,h0⟩,?_⟩
   rintro i m ys H ⟨hm,hy,ps,st,ρ,c4,rs,ex,ha,h⟩
   cases m with
   |zero=>exact h.elim
   |succ m =>
    obtain ⟨xs,hn,h⟩:=yV h
    obtain ⟨vs,hH,hR⟩:=rs.addr hn ha
    cases hx:xs[i]? with
    |none =>
     simp only [hx] at h
     have:vs.length<=i:=by rw [<-hR.len];exact gZ.mp hx
     exact .inl ⟨⟨vs,aS.of hH,this⟩,yO (by omega),λl hl=>Out.newList h rs c4 hl⟩
    |some x =>
     simp only [hx] at h
     obtain ⟨v,hv,rv⟩:=hR.get hx
     refine .inr ⟨⟨vs,v,aS.of hH,hv⟩,yO (by omega),λv' H' y=>?_⟩
     obtain ⟨e1,y⟩:=y
     subst e1
     have e2:=y vs (aS.of hH)
     rw [hv] at e2
     cases e2
     exact ⟨some x::env,st,ρ,(re.ext (e0.trans ex)).cons rv,rs,mO h λam H3 y aL e3 s3 h3 v ry=>⟨m,wF m,by omega,by simp [hy],ps++[y],aL,am,Rs.snoc ry (Rs.ext e3 ps c4),s3,ex.trans e3,e3.get ha,h3⟩⟩⟩
def mX {elt iter:Expr} {x:Str} {px:Pos} {scope:Scope} {src:zc->Mo Sq} {fe:Ai} {N:Ad} (hc:X.calm=true) (S:bw X.env.scope scope x) (eN:X.N=N) (bY:((".0" : Str)::x::N).Nodup)
  (hi:MI X Er (.Name x px) iter src) (he:∀cl C ae ah fp,ME (ke X scope cl x C ae ah fp (λ_ _=>False)) XN elt fe)
  (hs:∀v,foldedSetIterable iter X.env v=pure v:=by intro _;rfl):ME X Er (.ListComp elt [⟨.Name x px,iter,[],0⟩] scope pos) (yo src fe) :=
 Fo hc S Hid.refl (eN▸bY) hi he hs
end
section
variable {env:Env} {es:List Expr}
abbrev Fp (e:Expr) (es:List Expr) (env:Env):Prop:=starEach (e::es) env=(false,eval e env)::starEach es env
end
end Mi
namespace L2
open PySem PySem.Spec PyProof.Rows PySem.W
abbrev ZB (h:Heap) (z TI TO T:Addr) (f:Bool):Prop:=h.get? z=some { cls:=.type "zip", dict:=none,data:=.fields #[rawInt T,.bool f,.bool false,.ref TI,.ref TO],slots:=#[] }
structure ZS (z TI TO i1 i2 a b:Addr) (xs ys:Array Value) (k:Nat) (h:Heap):Prop where
 zi:(IsZip h z TI TO .none/\∃u v,IsPair h TO u v)\/∃T f o,ZB h z TI TO T f/\h.get? T=some o
 ti:IsPair h TI (.ref i1) (.ref i2)
 s1:tK i1 a xs k h
 s2:tK i2 b ys k h
section
variable {s:Shared} {z TI TO i1 i2 a b:Addr} {k:Nat} {xs ys:Array Value}
def ZS.type (st:ZS z TI TO i1 i2 a b xs ys k s.heap):s.TypeIs (.ref z) "zip" := by
 rcases st.zi with ⟨hz,_⟩|⟨T,f,o,hz,_⟩<;>exact ⟨_,hz,rfl⟩
end
def putAll (ps:List (Key×V)) (kvs:List (Key×V)):List (Key×V):=ps.foldl (λm p=>putK m p.1 p.2) kvs
structure Ap (d z TI TO i1 i2 a b:Addr):Prop where
 z:d≠z
 TI:d≠TI
 TO:d≠TO
 i1:d≠i1
 i2:d≠i2
 a:d≠a
 b:d≠b
section
variable {z TI TO i1 i2 a b d:Addr} {xs ys:Array Value}
def ZS.keep {k:Nat}{h h':Heap}(st:ZS z TI TO i1 i2 a b xs ys k h) (P:Ap d z TI TO i1 i2 a b) (hs:Heap.SameBut d h h') (hd:∃o,h'.get? d=some o):ZS z TI TO i1 i2 a b xs ys k h':=by
 have up:∀c o,c≠d->h.get? c=some o->h'.get? c=some o:=λc o n e=>hs.extBut _ _ n e
 obtain ⟨⟨⟨o1,g1,r1⟩,⟨p1,e1,t1⟩⟩,⟨⟨o2,g2,r2⟩,⟨p2,e2,t2⟩⟩⟩:=And.intro st.s1 st.s2
 refine ⟨?_,up _ _ P.TI.symm st.ti,⟨⟨o1,up _ _ P.i1.symm g1,r1⟩,⟨p1,up _ _ P.a.symm e1,t1⟩⟩,⟨⟨o2,up _ _ P.i2.symm g2,r2⟩,⟨p2,up _ _ P.b.symm e2,t2⟩⟩⟩
 rcases st.zi with ⟨hz,u,v,Fq⟩|⟨T,f,o,hz,hT⟩
 ·exact .inl ⟨up _ _ P.z.symm hz,u,v,up _ _ P.TO.symm Fq⟩
 ·by_cases e:T=d
  ·obtain ⟨o',ho'⟩:=hd
   exact .inr ⟨T,f,o',up _ _ P.z.symm hz,by rw [e];exact ho'⟩
  ·exact .inr ⟨T,f,o,up _ _ P.z.symm hz,up _ _ e hT⟩
end
end L2
namespace Mi
open PySem L2 PySem.W PySem.Spec
section
variable {K:Frag} {mg:Ab}
def jI:List (Str×PV)->List Str->List PV->List Str×List PV
 |[],ks,xs=>(ks,xs)
 |q::r,ks,xs=>jI r (jG q.1 q.2 ks xs).1 (jG q.1 q.2 ks xs).2
theorem p7 {ρ:Ae}{H:Hp}:∀{zs:Ad}{ys:An}{us:List V}{ks:Ad}{xs:An}{vs:List V},Rs K mg ρ H ys us->Rs K mg ρ H xs vs->ks.length=vs.length ->
  ∃ws,putAll ((zs.map Sum.inr:List Key).zip us) (kz ks vs)=kz (jI (zs.zip ys) ks xs).1 ws/\Rs K mg ρ H (jI (zs.zip ys) ks xs).2 ws/\(jI (zs.zip ys) ks xs).1.length=ws.length
 |[],ys,us,ks,xs,vs,_,h,hl=>⟨vs,rfl,h,hl⟩
 |z::zs,[],us,ks,xs,vs,hy,h,hl=>by
  cases hy
  exact ⟨vs,rfl,h,hl⟩
 |z::zs,y::ys,us,ks,xs,vs,hy,h,hl=>by
  obtain ⟨u,r,rfl,h1,h2⟩:=hy
  obtain ⟨ws,q1,q2,q3⟩:=uv (z:=z) h1 hl h
  obtain ⟨fA,p1,p2,p3⟩:=p7 (zs:=zs) h2 q2 q3
  refine ⟨fA,?_,p2,p3⟩
  show putAll _ (L2.putK (kz ks vs) (Sum.inr z) u)=_
  rw [q1]
  exact p1
end
section
variable {Er:XK}
def wS:List PV->Mo Nat
 |[.ref n],st=>zK st n λ_=>.ok n st
 |_,_=>.stuck
def uC {α:Type}{K:Frag}{mg:Ab}{ρ:Ae}{H:Hp}{vs:An}{st:aj}{f:Nat->Mo α}{good:List Addr->Hp->α->aj->Prop}(h:Out K mg ρ H ((wS vs st).bind f) good Er):∃n xs,vs=[.ref n]/\st[n]?=some (.lst xs)/\Out K mg ρ H (f n st) good Er:=by
 unfold wS at h
 split at h
 ·rename_i n
  unfold zK at h
  cases hn:st[n]? with
  |none=>simp only [hn] at h;exact h.elim
  |some so =>
   cases so with
   |lst xs=>simp only [hn] at h;exact ⟨n,xs,rfl,hn,h⟩
   |_=>simp only [hn] at h;exact h.elim
 ·exact h.elim
end
end Mi
namespace L2
open PySem PySem.Spec PyProof.Rows PySem.W
theorem uD:∀{is:List Int}{its:Af},Vals (is.map V.int) its->(∀v∈its,∃a t,v=Value.int a t)/\numsOf its=is
 |[],_,.nil=>⟨λ_ h=>absurd h (by simp),rfl⟩
 |i::is,_,.cons r rs=>by
  obtain ⟨t,rfl⟩:=r
  obtain ⟨h1,h2⟩:=uD rs
  refine ⟨λv hv=>?_,by show i::numsOf _=_;rw [h2]⟩
  rcases yt.mp hv with q|q
  ·exact ⟨i,t,q⟩
  ·exact h1 v q
def Fs {X:Cx} (hc:X.calm=true):bH X (.builtin "sum") (λxs H Q=>∃(a:Addr) (is:List Int),xs=[V.ref a]/\aS X.K H a (is.map V.int)/\Q (.int is.sum) H):=by
 intro pins s U H xs us Q I r h
 obtain ⟨a,is,rfl,hq,q⟩:=h
 obtain ⟨u,rfl,ru⟩:=r.one
 obtain rfl:u=Value.ref a:=ru
 obtain ⟨its,rv,p,hz⟩:=I.list hq
 obtain ⟨h1,h2⟩:=uD rv
 obtain ⟨ys,e⟩:=AllInts.items (vs:=its.toArray) (λv hv=>h1 v (by simpa using hv))
 have hl:=p.isList
 rw [e] at hl
 refine sum_intListG (I.ok.hd hc) hl λh' tk t' hk=>?_
 have es:preSum (numAt ys) ys.size=is.sum:=by
  rw [preSum_eq,List.take_of_length_le (by simp),<-nums_intItems,<-e]
  show (numsOf its).sum=_
  rw [h2]
 rw [es]
 exact ⟨.int is.sum,H,I.kept (t':=tk) hk,⟨_,rfl⟩,q⟩
def bQ (z:Str) (n:Int):Str:=if n<1 then Str.empty else if (n==1||z.length==0)=true then z else ⟨(List.replicate n.toNat z.cps).foldl (·++·) #[]⟩
theorem uE (c:Array Nat):∀(k:Nat) (a:Array Nat),((List.replicate k c).foldl (·++·) a).size=a.size+k*c.size
 |0,a=>by simp
 |k+1,a=>by
  rw [List.replicate_succ,List.foldl_cons,uE c k,Array.size_append,Nat.succ_mul]
  omega
def uF (z:Str) (n:Int):(bQ z n).length=n.toNat*z.length:=by
 unfold bQ
 split
 ·rename_i h
  have:n.toNat=0:=by omega
  rw [this,Nat.zero_mul];rfl
 ·rename_i h
  split
  ·rename_i h2
   simp only [Bool.or_eq_true,beq_iff_eq] at h2
   rcases h2 with h2|h2
   ·subst h2;simp
   ·rw [h2];simp
  ·show ((List.replicate n.toNat z.cps).foldl (·++·) #[]).size=_
   rw [uE]
   show 0+n.toNat*z.cps.size=_
   rw [Nat.zero_add];rfl
def uG:R2:=λx y H Q=>∃z n,x=.str z/\y=.int n/\(0<=n/\n<=1000/\z.length<=1000)/\Q (.str (bQ z n)) H
def Ft {X:Cx}:aW X (binaryOp .Mult) uG:=by
 intro pins s U H x y v u Q I rx ry h
 obtain ⟨z,n,rfl,rfl,⟨h0,h1,h2⟩,q⟩:=h
 obtain ⟨t,rfl⟩:=rx
 obtain ⟨t',rfl⟩:=ry
 have hb:n.toNat*z.length<=1000000:=by
  have:n.toNat<=1000:=by omega
  calc n.toNat*z.length<=1000*1000:=Nat.mul_le_mul this h2
   _=1000000:=rfl
 have hsz:=sizeLine_eq
 refine PySem.P.mul_str (by rw [yn (by omega),yn (by omega)];rfl) (λha _=>?_) (λ_ _=>?_) ?_
 ·have:(2 ^ 63-1:Int)/n>=1000:=by
   rw [ge_iff_le,Int.le_ediv_iff_mul_le (by omega)]
   omega
  omega
 ·show decide _=false
  rw [decide_eq_false_iff_not]
  have:z.length*n.toNat<=1000000:=by rw [Nat.mul_comm];exact hb
  rw [sizeLine_eq];omega
 ·by_cases c1:n<1
  ·rw [zu c1]
   have e:bQ z n=Str.empty:=by unfold bQ;rw [zu c1]
   rw [e] at q
   exact ⟨by decide,.str Str.empty,H,I.tok _,⟨_,rfl⟩,q⟩
  ·rw [zt c1]
   by_cases c2:(n==1||z.length==0)=true
   ·rw [zu c2]
    have e:bQ z n=z:=by unfold bQ;rw [zt c1,zu c2]
    rw [e] at q
    exact ⟨.str z,H,I,⟨_,rfl⟩,q⟩
   ·rw [zt c2]
    have e:bQ z n=⟨(List.replicate n.toNat z.cps).foldl (·++·) #[]⟩:=by unfold bQ;rw [zt c1,zt c2]
    have hl:=uF z n
    rw [e] at q hl
    exact ⟨by rw [hl,sizeLine_eq];omega,.str _,H,I.tok _,⟨_,rfl⟩,q⟩
end L2
namespace Mi
open PySem L2 PySem.W PySem.Spec
section
variable {X:Cx} {K:Frag} {mg:Ab} {e:Expr}
def yY:Am
 |.int i,.int j,st=>tS (.int i) (.int j) st
 |.str z,.int n,st=>if 0<=n/\n<=1000/\z.length<=1000 then .ok (.str (bQ z n)) st else .stuck
 |_,_,_=>.stuck
def wt:cY X .Mult yY:=by
 obtain ⟨r,h1,h2⟩:=Ec (X:=X)
 refine ⟨λx y H Q=>r x y H Q\/uG x y H Q,h1.or Ft,fun ρ H st x y v w Q E s rx ry h=>?_⟩
 cases x with
 |int i =>
  cases y with
  |int j=>exact .inl (h2 ρ H st (.int i) (.int j) v w Q E s rx ry h)
  |_=>exact h.elim
 |str z =>
  cases y with
  |int n =>
   obtain ⟨c,h⟩:=Out.ifp h
   cases rx;cases ry
   exact .inr ⟨z,n,rfl,rfl,c,Out.now (x:=PV.str (bQ z n)) h s _ rfl⟩
  |_=>exact h.elim
 |_=>exact h.elim
def c5:List PV->Option (List Int)
 |[]=>some []
 |.int i::r=>(c5 r).map (i::·)
 |_::_=>none
theorem uH {ρ:Ae}{H:Hp}:∀{xs:An}{is:List Int}{vs:List V},c5 xs=some is->Rs K mg ρ H xs vs->vs=is.map V.int
 |[],is,vs,e,h=>by cases e;cases h;rfl
 |.int i::r,is,vs,e,h=>by
  simp only [c5,Option.map_eq_some_iff] at e
  obtain ⟨ir,e1,rfl⟩:=e
  obtain ⟨v,r',rfl,h1,h2⟩:=h
  cases h1
  rw [uH e1 h2]
  rfl
 |.non::_,_,_,e,_=>by cases e
 |.bl _::_,_,_,e,_=>by cases e
 |.str _::_,_,_,e,_=>by cases e
 |.ty _::_,_,_,e,_=>by cases e
 |.tup _::_,_,_,e,_=>by cases e
 |.frl _::_,_,_,e,_=>by cases e
 |.ref _::_,_,_,e,_=>by cases e
 |.fn _::_,_,_,e,_=>by cases e
 |.kd _ _::_,_,_,e,_=>by cases e
 |.exo _ _ _::_,_,_,e,_=>by cases e
def iq:Al:=λvs st=>(wS vs st).bind λn st=>zK st n λxs=>match c5 xs with
 |some is=>.ok (.int is.sum) st
 |none=>.stuck
def Fu (hc:X.calm=true):cq X (.builtin "sum") iq:=⟨_,Fs hc,fun ρ H st xs vs Q E s r h=>by
 obtain ⟨n,ys,rfl,hn,h⟩:=uC h
 obtain ⟨bB,iW,h⟩:=yV h
 obtain ⟨v,rfl,rv⟩:=r.one
 obtain ⟨a,rfl,ha⟩:=rv
 obtain ⟨ws,hH,hR⟩:=s.addr iW ha
 cases hi:c5 bB with
 |none=>simp only [hi] at h;exact h.elim
 |some is =>
  simp only [hi] at h
  have e:=uH hi hR
  subst e
  exact ⟨a,is,rfl,aS.of hH,Out.now (x:=PV.int is.sum) h s _ rfl⟩⟩
def Fv:bootBuiltins "sum" = some (.builtin "sum"):=by decide +kernel
end
section
variable {env:zc} {st:aj} {fe:Ai} {fs:Ah} {src:zc->Mo Sq}
@[simp] def JR (xs:An) (i:Int):zH (.tup xs) (.int i) st=cJ (bt xs i) st:=(rfl)
@[simp] def JS (xs:An) (i:Int):zH (.frl xs) (.int i) st=cJ (bt xs i) st:=(rfl)
@[simp] def JT (n:Nat) (i:Int):zH (.ref n) (.int i) st=zK st n λxs=>cJ (bt xs i) st:=(rfl)
@[simp] def kI (z:Str) (i:Int):zH (.str z) (.int i) st=if z.length<=lim then cJ ((bt z.cps.toList i).map λc=>.str ⟨#[c]⟩) st else .stuck:=(rfl)
@[simp] def JU:yo src fe env st=(src env st).bind λq aa=>dH fe env q aa:=(rfl)
@[simp] def p8:cS fs env st=(fs env st).bind ib:=(rfl)
@[simp] def JV (j:Int):ib [.int j] st=if cR j=true then .ok (.im (nums 0 j.toNat)) st else .stuck:=(rfl)
@[simp] def Fw (n:Nat):wS [.ref n] st=zK st n λ_=>.ok n st:=(rfl)
@[simp] def JW (i j:Int):yY (.int i) (.int j) st=if cj i j=true then .ok (.int (i*j)) st else .stuck:=(rfl)
@[simp] def Fx (z:Str) (n:Int):yY (.str z) (.int n) st=if 0<=n/\n<=1000/\z.length<=1000 then .ok (.str (bQ z n)) st else .stuck:=(rfl)
@[simp] def Fy (vs:An):iq vs st=(wS vs st).bind λn st=>zK st n λxs=>match c5 xs with|some is=>.ok (.int is.sum) st|none=>.stuck:=(rfl)
@[simp] def JX (n:Nat) (l u:Option Int):j1 (.ref n) l u st=zK st n λxs=>.ok (.ref st.length) (st++[.lst (bC xs l u)]):=(rfl)
@[simp] def JY (n:Nat):wM [.ref n] st=zK st n λxs=>.ok (.tup xs) st:=(rfl)
@[simp] def JZ (n:Nat) (y:PV):jb (.ref n) y st=zK st n λxs=>if xs.length<lim then .ok .non (st.set n (.lst (xs++[y]))) else .stuck:=(rfl)
end
def Pre (a b:aj):Prop:=∃d,b=a++d
def Pre.refl (st:aj):Pre st st:=⟨[],by simp⟩
def Pre.trans {a b c:aj}(h:Pre a b) (h':Pre b c):Pre a c:=by obtain ⟨d,rfl⟩:=h;obtain ⟨d',rfl⟩:=h';exact ⟨d++d',by simp⟩
def Pre.of (st d:aj):Pre st (st++d):=⟨d,rfl⟩
def Pre.get {a b:aj}(h:Pre a b) {n:Nat}{so:SO}(e:a[n]?=some so):b[n]?=some so:=by
 obtain ⟨d,rfl⟩:=h
 rw [wj (zM.mp e).1]
 exact e
def j3 (st:aj) (so:SO):(st++[so])[st.length]?=some so:=by simp
def Fz {fe:Ai}{env:zc}{f:PV->PV}{st:aj}{n:Nat}{xs:An}(hn:st[n]?=some (.lst xs)) (h:∀x∈xs,fe (some x::env) st=.ok (f x) st) :
  ∀(k i:Nat) (m:Nat) (ys:An),xs.length-i=k->i<=xs.length->k<m->cv fe env n m i ys st=.ok (.ref st.length) (st++[.lst (ys++(xs.drop i).map f)]):=by
 intro k
 induction k with
 |zero =>
  intro i m ys hk hi hm
  obtain ⟨m',rfl⟩:∃m',m=m'+1:=⟨m-1,by omega⟩
  have c7:i=xs.length:=by omega
  subst c7
  simp [cv,zK,hn]
 |succ k ih =>
  intro i m ys hk hi hm
  obtain ⟨m',rfl⟩:∃m',m=m'+1:=⟨m-1,by omega⟩
  have aZ:i<xs.length:=by omega
  have e:xs[i]?=some xs[i]:=by simp [aZ]
  simp only [cv,zK,hn,e,h xs[i] (gX aZ),il,zB]
  rw [ih (i+1) m' _ (by omega) (by omega) (by omega),je aZ]
  rw [ym,jW,List.singleton_append]
section
variable {X:Cx} {Er:XK} {pos:Pos}
def mY:List (Ai)->Ah
 |[],_,st=>.ok [] st
 |f::r,env,st=>(f env st).bind λx aa=>(mY r env aa).bind λxs ak=>.ok (x::xs) ak
inductive eJ (X:Cx) (Er:XK):List (Option Expr)->List Expr->List Str->List (Ai)->Prop
 |nil:eJ X Er [] [] [] []
 |cons {z:Str} {j} {p:Pos} {v:Expr} {f:Ai} {ks:List (Option Expr)} {vs:List Expr} {zs:Ad} {fs:List (Ai)} (hv:ME X Er v f) (hr:eJ X Er ks vs zs fs):eJ X Er (some (.Constant (.str z) j p)::ks) (v::vs) (z::zs) (f::fs)
theorem eJ.pps:∀{ks:List (Option Expr)}{vs:List Expr}{zs:Ad}{fs:List (Ai)},eJ X Er ks vs zs fs->gv X pos ks vs ((zs.zip fs).map λq=>(tC (.str q.1),tM X.K X.mg Er q.2))
 |_,_,_,_,.nil=>sZ
 |_,_,_,_,.cons hv hr=>s8 rJ hv hr.pps
def eJ.len {ks:List (Option Expr)}{vs:List Expr}{zs:Ad}{fs:List (Ai)}(h:eJ X Er ks vs zs fs):ks.length=vs.length/\zs.length=fs.length/\ks.length=zs.length/\ks.all (·.isSome)=true:=by
 induction h with
 |nil=>exact ⟨rfl,rfl,rfl,rfl⟩
 |cons hv hr ih=>exact ⟨by simp [ih.1],by simp [ih.2.1],by simp [ih.2.2.1],by simpa using ih.2.2.2⟩
theorem uI {K:Frag}{mg:Ab}:∀{zs:Ad}{fs:List (Ai)}{env:zc}{st:aj}{ρ:Ae}{H:Hp}{U:L2.St}{Q:List (V×V)->Hp->Prop},zs.length=fs.length->aU K mg ρ H env U->aP K mg ρ H st ->
  Out K mg ρ H (mY fs env st) (λaf H' xs aE=>∀vs,Rs K mg af H' xs vs->Q ((zs.map V.str).zip vs) H') Er->hV ((zs.zip fs).map λq=>(tC (.str q.1),tM K mg Er q.2)) U H Q
 |[],[],env,st,ρ,H,U,Q,_,re,rs,h=>h.now rs [] rfl
 |z::zs,f::fs,env,st,ρ,H,U,Q,hl,re,rs,h=>by
  refine ⟨env,st,ρ,re,rs,Out.then h λad H1 x aa e1 s1 h1 v rv=>?_⟩
  refine uI (env:=env) (st:=aa) (ρ:=ad) (by simpa using hl) (re.ext e1) s1 (Out.then h1 λap H2 xs ak e2 s2 h2 vs ky=>?_)
  exact h2.now s2 (v::vs) ⟨v,vs,rfl,R.ext e2 x rv,ky⟩
 |[],_::_,_,_,_,_,_,_,hl,_,_,_=>by simp at hl
 |_::_,[],_,_,_,_,_,_,hl,_,_,_=>by simp at hl
def cH:Option SO->Bool
 |some (.dic [] [])=>true
 |_=>false
def mZ (zs:Ad) (fs:List (Ai)):Ai:=λenv st=>(mY fs env (st++[.dic [] []])).bind λxs aa =>
 if cH aa[st.length]?=true then .ok (.ref st.length) (aa.set st.length (.dic (jI (zs.zip xs) [] []).1 (jI (zs.zip xs) [] []).2)) else .stuck
def p9 {o:Option SO}(h:cH o=true):o=some (.dic [] []):=by
 unfold cH at h
 split at h
 ·rfl
 ·cases h
theorem p_:∀{zs:Ad}{vs:List V},(zs.map V.str).zip vs=((zs.map Sum.inr:List Key).zip vs).map λkv=>(kV kv.1,kv.2)
 |[],_=>rfl
 |_::_,[]=>rfl
 |z::zs,v::vs=>by simp only [ym,List.zip_cons_cons,p_ (zs:=zs) (vs:=vs)];rfl
def zlg {keys:List (Option Expr)}{values:List Expr}{zs:Ad}{fs:List (Ai)}(h:eJ X Er keys values zs fs) (h0:keys≠[]) (fj:keys.length<=15):ME X Er (.Dict keys values pos) (mZ zs fs):=by
 obtain ⟨l1,l2,l3,l4⟩:=h.len
 exact PE.weak (tj h.pps l4 l1 h0 fj) λU H Q ⟨env,st,ρ,re,rs,ho⟩=>λp hp=>by
  have e0:Ext ρ H (ρ++[p]) (upd H p (.dK [])):=Ext.push hp
  have s0:aP X.K X.mg (ρ++[p]) (upd H p (.dK [])) (st++[.dic [] []]):=rs.push hp ⟨[],yg,rfl,rfl⟩
  have kJ:(ρ++[p])[st.length]?=some p:=by rw [<-rs.len];simp
  refine uI l2 (re.ext e0) s0 (Out.then (Out.ext ho e0) λad H1 xs aa e1 s1 h1 vs rv=>?_)
  obtain ⟨c,h1⟩:=Out.ifp h1
  have hd:=p9 c
  have eK:=e1.get kJ
  obtain ⟨ws,k1,k2,k3⟩:=s1.addr hd eK
  have ew:ws=[]:=by cases ws with|nil=>rfl|cons=>simp at k3
  subst ew
  refine ⟨k1,(zs.map Sum.inr:List Key).zip vs,p_,by rw [List.length_zip,jL];omega,?_⟩
  have eq:Ext ad H1 ad (upd H1 p (.dK (cE [] ((zs.map Sum.inr:List Key).zip vs)))):=Ext.write k1 rfl
  obtain ⟨us,q1,q2,q3⟩:=p7 (K:=X.K) (mg:=X.mg) (zs:=zs) (ks:=[]) (xs:=[]) (vs:=[]) rv rfl rfl
  exact h1 ad _ eq (s1.write eK eq ⟨us,by rw [yg];exact congrArg (λt=>some (HO.dK t)) q1,Rs.ext eq _ q2,q3⟩) _ ⟨p,rfl,eK⟩
def zlh:eJ X Er [] [] [] []:=.nil
def zfr {z:Str}{j}{p:Pos}{v:Expr}{f:Ai}{ks:List (Option Expr)}{vs:List Expr}{zs:Ad}{fs:List (Ai)}(hv:ME X Er v f) (hr:eJ X Er ks vs zs fs):eJ X Er (some (.Constant (.str z) j p)::ks) (v::vs) (z::zs) (f::fs):=.cons hv hr
end
section
variable {X:Cx}
def wT:Al
 |[.int i,.int j],st=>.ok (.int (if j<i then j else i)) st
 |_,_=>.stuck
def m7:Al
 |[.int i,.int j],st=>.ok (.int (if j>i then j else i)) st
 |_,_=>.stuck
def FA (hc:X.calm=true):cq X (.builtin "min") wT:=⟨_,Cd hc,fun ρ H st xs vs Q E s r h=>by
 unfold wT at h
 split at h
 ·rename_i aE i j
  obtain ⟨v,w,rfl,r1,r2⟩:=r.two
  cases r1;cases r2
  exact ⟨i,j,rfl,Out.now (x:=PV.int (if j<i then j else i)) h s _ rfl⟩
 ·exact h.elim⟩
def FC (hc:X.calm=true):cq X (.builtin "max") m7:=⟨_,Cc hc,fun ρ H st xs vs Q E s r h=>by
 unfold m7 at h
 split at h
 ·rename_i aE i j
  obtain ⟨v,w,rfl,r1,r2⟩:=r.two
  cases r1;cases r2
  exact ⟨i,j,rfl,Out.now (x:=PV.int (if j>i then j else i)) h s _ rfl⟩
 ·exact h.elim⟩
def FD:bootBuiltins "min" = some (.builtin "min"):=by decide +kernel
def FE:bootBuiltins "max" = some (.builtin "max"):=by decide +kernel
@[simp] def J1 (i j:Int) (st:aj):wT [.int i,.int j] st=.ok (.int (if j<i then j else i)) st:=(rfl)
@[simp] def J2 (i j:Int) (st:aj):m7 [.int i,.int j] st=.ok (.int (if j>i then j else i)) st:=(rfl)
end
def c_ (f:PV->PV->Option Bool):List PV->List PV->Option Bool
 |[],[]=>some true
 | x::xs,y::ys=>match f x y,c_ f xs ys with
  |some a,some b=>some (a&&b)
  |_,_=>none
 |_,_=>some false
def cw (f:PV->PV->Option Bool) (dv:Ad) (bB:An):List Str->List PV->Option Bool
 | k::ks,x::xs=>match (dv.zip bB).lookup k with
  |none=>some false
  | some y=>match f x y,cw f dv bB ks xs with
   |some a,some b=>some (a&&b)
   |_,_=>none
 |_,_=>some true
def eq1 (x y:PV):Option Bool:=if plain x=true/\plain y=true/\dep x<=100 then some (bo x y) else none
theorem qc {f:PV->PV->Option Bool}:∀{xs ys:An}{b:Bool},c_ f xs ys=some b->∃e:Nat->Bool,(∀j x y,xs[j]?=some x->ys[j]?=some y->f x y=some (e j))/\((List.range (min xs.length ys.length)).all e&&xs.length==ys.length)=b
 |[],[],b,h=>by cases h;exact ⟨λ_=>true,λj x y h=>by simp at h,by simp⟩
 |[],y::ys,b,h=>by cases h;exact ⟨λ_=>true,λj x y h=>by simp at h,by simp⟩
 |x::xs,[],b,h=>by cases h;exact ⟨λ_=>true,λj x y _ h=>by simp at h,by simp⟩
 |x::xs,y::ys,b,h=>by
  simp only [c_] at h
  cases hf:f x y with
  |none=>rw [hf] at h;cases h
  |some a =>
   cases hr:c_ f xs ys with
   |none=>rw [hf,hr] at h;cases h
   |some c =>
    rw [hf,hr] at h
    cases h
    obtain ⟨e,h1,h2⟩:=qc hr
    refine ⟨λj=>match j with|0=>a|j+1=>e j,λj u v hu hv=>?_,?_⟩
    ·cases j with
     |zero=>simp at hu hv;subst hu;subst hv;exact hf
     |succ j=>simp at hu hv;exact h1 j u v hu hv
    ·have e1:min (x::xs).length (y::ys).length=min xs.length ys.length+1:=by simp only [jM];omega
     have e2:((x::xs).length==(y::ys).length)=(xs.length==ys.length):=by
      rw [Bool.eq_iff_iff];simp
     rw [e1,e2,List.range_succ_eq_map,List.all_cons,List.all_map,<-h2,Bool.and_assoc]
     rfl
theorem uJ:∀{ks:Ad}{xs:An},ks.Nodup->∀k x,(k,x)∈ks.zip xs->(ks.zip xs).lookup k=some x
 |[],_,_,k,x,h=>by simp at h
 |_::_,[],_,k,x,h=>by simp at h
 |k0::ks,x0::xs,nd,k,x,h=>by
  rw [ju] at nd
  rw [List.zip_cons_cons] at h ⊢
  rcases yt.mp h with e|h'
  ·cases e;simp [wm]
  ·have hk:k∈ks:=(List.of_mem_zip h').1
   have ne:(k==k0)=false:=by
    simp only [beq_eq_false_iff_ne]
    intro e;subst e;exact nd.1 hk
   rw [wm,ne]
   exact uJ nd.2 k x h'
def bz (P:Program) (W:World) (A:Around) (s:Shared) (u u':Value) (b:Bool):Prop:=∀(E:Aa) (Q:Bool->Shared->Prop),Q b s->wpAny (model P W) A (eqBool u u') Q E s
def dI (P:Program) (W:World) (A:Around) (s:Shared) (u u':Value) (b:Bool):Prop:=∀(E Q:Aa),Q (.bool b) s->wpAny (model P W) A (richCompare .Eq u u') Q E s
section
variable {P:Program} {W:World} {A:Around} {s:Shared}
def bz.of_refs {l b:Addr}{k:Bool}(ko:l≠b) (h:dI P W A s (.ref l) (.ref b) k):bz P W A s (.ref l) (.ref b) k:=λE Q hq=>by
 unfold eqBool
 refine jn (wpAny_ite_split (λgy=>absurd (by have:=eq_of_beq gy;injection this) ko) λ_=>?_)
 exact zf (h E _ (jK hq))
def FF {l b:Addr}{its aK:Array Value}{n n2:Nat}{dd f9:Option Addr}{sl f_:Array (Option Value)}{e:Nat->Bool}{E Q:Aa}
  (hl:s.heap.get? l=some { cls:=.type "tuple", dict:=dd,data:=.seq its n,slots:=sl }) (hb:s.heap.get? b=some { cls:=.type "tuple", dict:=f9,data:=.seq aK n2,slots:=f_ })
  (he:∀j (h1:j<its.size) (h2:j<aK.size),bz P W A.in1 s its[j] aK[j] (e j)) (h:Q (.bool ((List.range (min its.size aK.size)).all e&&its.size==aK.size)) s) :
  wpAny (model P W) A.in1 (Builtin.«tuple.__eq__» ⟨[.ref l,.ref b],[]⟩) (λfin s'=>∃v,fin=.done (.ret v)/\Q v s') E s:=by
 obtain ⟨hp,g,d,tk,os⟩:=s
 have f2:=AutoSeq1.sub_tuple_tuple
 have hZ:(its.toList.zip aK.toList).length=min its.size aK.size:=by simp
 wp_walk using AutoSeq1.wpAny_loadPart' hl,AutoSeq1.wpAny_loadPart' hb,wpAny_forIn_list _ (λrest b s'=>b.1=none/\s'=⟨hp,g,d,tk,os⟩/\∃i,rest=(its.toList.zip aK.toList).drop i/\Q (.bool (((List.range (min its.size aK.size)).drop i).all e&&its.size==aK.size)) ⟨hp,g,d,tk,os⟩) _
 case turn =>
  rintro ⟨y,x⟩ rest b s' ⟨qd,rfl,i,hz,hR⟩
  have aZ:i<(its.toList.zip aK.toList).length:=by
   rcases Nat.lt_or_ge i (its.toList.zip aK.toList).length with h'|h'
   ·exact h'
   ·rw [iS h'] at hz;cases hz
  have hm:i<min its.size aK.size:=hZ▸aZ
  have h1:i<its.size:=by omega
  have h2:i<aK.size:=by omega
  rw [je aZ] at hz
  injection hz with fN gE
  have hy:y=its[i]:=by have:=congrArg Prod.fst fN;simpa using this
  have hx:x=aK[i]:=by have:=congrArg Prod.snd fN;simpa using this
  subst hy hx
  have hd:(List.range (min its.size aK.size)).drop i=i::(List.range (min its.size aK.size)).drop (i+1):=by simp [je,hm]
  rw [hd,List.all_cons] at hR
  refine zf (he i h1 h2 _ _ ?_)
  cases hy:e i with
  |true =>
   rw [hy] at hR
   wp_walk
   exact ⟨rfl,rfl,i+1,gE,by simpa using hR⟩
  |false =>
   rw [hy] at hR
   wp_walk
   exact ⟨_,rfl,by simpa using hR⟩
 case fin =>
  rintro ⟨b1,b2⟩ s' ⟨qd,rfl,i,hz,hR⟩
  simp only at qd
  subst qd
  have FG:min its.size aK.size<=i:=by
   rcases Nat.lt_or_ge i (its.toList.zip aK.toList).length with h'|h'
   ·rw [je h'] at hz;cases hz
   ·exact hZ▸h'
  rw [iS (by simpa using FG)] at hR
  wp_walk
  exact ⟨_,rfl,by simpa [Builtin.Tuple.tupleCompareSizes] using hR⟩
 case h=>exact ⟨rfl,rfl,0,rfl,by simpa using h⟩
def dI.tuples {l b:Addr}{its aK:Array Value}{e:Nat->Bool}(hl:s.heap.IsTuple l its) (hb:s.heap.IsTuple b aK) (hu:A.units<cLine)
  (he:∀j (h1:j<its.size) (h2:j<aK.size),bz P W A.in1 s its[j] aK[j] (e j)):dI P W A s (.ref l) (.ref b) ((List.range (min its.size aK.size)).all e&&its.size==aK.size):=λE Q h=>by
 obtain ⟨⟨cls,dd,data,sl⟩,ho,hc,n,hd⟩:=id hl
 obtain ⟨⟨nV,f9,data2,f_⟩,eP,fI,n2,hd2⟩:=id hb
 simp only at hc hd fI hd2
 subst hc hd fI hd2
 refine wpAny_richCompare_same_room (op:=.Eq) ⟨_,ho,rfl⟩ ⟨_,eP,rfl⟩ F.slot_tuple_eq (jA F.slot_tuple_eq ⟨_,ho,rfl⟩ F.entry_tuple_eq (FF (Q:=λv s'=>v ≠ .notImplemented/\Q v s') ho eP he (show Value.bool ((List.range (min its.size aK.size)).all e&&its.size==aK.size)≠Value.notImplemented/\Q (.bool ((List.range (min its.size aK.size)).all e&&its.size==aK.size)) s from ⟨(λx=>nomatch x),h⟩)) (F.args_tuple_eq_2 _ _)) hu
end
section
variable {X:Cx} {K:Frag} {mg:Ab} {ρ:Ae} {pins:Ac} {U:L2.St} {H:Hp} {s:Shared}
def uK {k:Str}{ks:Ad}{v:V}{vs:List V}{us:List (Key×Value)}(h:KV (kz (k::ks) (v::vs)) us):∃u r,us=(Sum.inr k,u)::r/\RelV v u/\KV (kz ks vs) r:=by
 cases h with
 |@cons p q ps qs h t =>
  obtain ⟨h1,h2⟩:=h
  obtain ⟨k',u⟩:=q
  have:k'=Sum.inr k:=h1.symm
  subst this
  exact ⟨u,qs,rfl,h2,t⟩
theorem uL {f:Str}:∀{ks:Ad}{xs:An}{vs:List V},Rs K mg ρ H xs vs->(ks.zip xs).lookup f=none->(ks.zip vs).lookup f=none
 |[],_,_,_,_=>by simp
 |k::ks,[],_,r,_=>by cases r;simp
 |k::ks,y::xs,_,r,h=>by
  obtain ⟨v,r',rfl,h1,h2⟩:=r
  simp only [List.zip_cons_cons,wm] at h ⊢
  split at h
  ·cases h
  ·exact uL h2 h
def FH (I:Inv X pins U H s) {x y:PV}{v w:V}{u u':Value}{b:Bool}{A:Around}(h:eq1 x y=some b) (rx:R X.K mg ρ H x v) (ry:R X.K mg ρ H y w) (rv:RelV v u) (rw:RelV w u') (hu:A.units+100<cLine):SeqAt.EqAt A s u u' b/\SeqAt.RcAt A s u u' b:=by
 unfold eq1 at h
 split at h
 ·rename_i c
  cases h
  have:=pH I 100 x y A c.2.2 c.1 c.2.1 rx ry rv rw (by omega)
  exact ⟨this.1,this.2.1⟩
 ·cases h
def uM {f:PV->PV->Option Bool}{G:Value->Value->Bool->Prop}(hf:∀x y v w u u' b,f x y=some b->R K mg ρ H x v->R K mg ρ H y w->RelV v u->RelV w u'->G u u' b) {xs ys:An}{vs ws:List V}{its aK:Af}{e:Nat->Bool}(h2:Rs K mg ρ H xs vs) (h4:Rs K mg ρ H ys ws) (r1:Vals vs its) (r2:Vals ws aK) (he:∀j x y,xs[j]?=some x->ys[j]?=some y->f x y=some (e j)) :
  ∀j (g1:j<its.toArray.size) (g2:j<aK.toArray.size),G its.toArray[j] aK.toArray[j] (e j):=by
 intro j g1 g2
 have l1:=h2.len
 have l2:=h4.len
 have l3:=r1.length
 have l4:=r2.length
 have k1:j<xs.length:=by rw [l1,l3];simpa using g1
 have k2:j<ys.length:=by rw [l2,l4];simpa using g2
 obtain ⟨v1,e1,pI⟩:=h2.get (zR k1)
 obtain ⟨v2,e2,rr2⟩:=h4.get (zR k2)
 obtain ⟨u1,f1,pJ⟩:=r1.get e1
 obtain ⟨u2,f2,pK⟩:=r2.get e2
 have w1:its.toArray[j]=u1:=by
  obtain ⟨_,z⟩:=zM.mp f1
  simpa using z
 have w2:aK.toArray[j]=u2:=by
  obtain ⟨_,z⟩:=zM.mp f2
  simpa using z
 rw [w1,w2]
 exact hf xs[j] ys[j] v1 v2 u1 u2 (e j) (he j _ _ (zR k1) (zR k2)) pI rr2 pJ pK
end
section
variable {P:Program} {W:World} {A:Around} {s:Shared} {E:Aa} {K:Type} [DecidableEq K] {knd:KeyKind P W K}
inductive bL (P:Program) (W:World) (A:Around) (s:Shared) (kb:List (K×Value)):List (K×Value)->Bool->Prop
 |nil:bL P W A s kb [] true
 |miss {k:K} {v:Value} {r:List (K×Value)} (h:valueAt kb k=none):bL P W A s kb ((k,v)::r) false
 |hit {k:K} {v y:Value} {r:List (K×Value)} {e b:Bool} (h:valueAt kb k=some y) (he:bz P W A s v y e) (hr:bL P W A s kb r b):bL P W A s kb ((k,v)::r) (e&&b)
def bL.inv {kb r:List (K×Value)}{k:K}{v:Value}{b:Bool}(h:bL P W A s kb ((k,v)::r) b):(valueAt kb k=none/\b=false)\/∃y e c,valueAt kb k=some y/\bz P W A s v y e/\bL P W A s kb r c/\b=(e&&c):=by
 cases h with
 |miss h=>exact .inl ⟨h,rfl⟩
 |hit h he hr=>exact .inr ⟨_,_,_,h,he,hr,rfl⟩
def m8 {nm:String}{a b:Addr}{ka kb:List (K×Value)}{r:Bool}{Q:Bool->Shared->Prop}(la:(a==sysModules)=false) (lb:(b==sysModules)=false) (da:s.heap.DictOf knd a ka) (db:s.heap.DictOf knd b kb)
  (hits:ka.length=kb.length->bL P W A s kb ka r) (h:Q (ka.length==kb.length&&r) s):wpAny (model P W) A (Builtin.Dict.samePairs nm a b) Q E s:=by
 obtain ⟨oa,ea,na,ga,_,qa,ha,pa,_⟩:=da
 obtain ⟨ob,eb,nb,gb,_,qb,hb,pb,_⟩:=db
 have za:ka.length=ea.size:=by rw [<-pa.length];exact Array.length_toList
 have zb:kb.length=eb.size:=by rw [<-pb.length];exact Array.length_toList
 have look:∀k,findBy knd.is eb k=valueAt kb k:=λk=>by
  rw [<-pb.find k]
  clear zb pb hb qb gb
  obtain ⟨l⟩:=eb
  simp [findBy]
 rw [za,zb] at h
 unfold Builtin.Dict.samePairs Builtin.Dict.showsAll
 rw [zt (by rw [la];decide),zt (by rw [lb];decide)]
 refine zf (zn (zf (zn (zf (wpAny_dictEntries ga qa ?_)))))
 dsimp only
 refine zf (wpAny_dictEntries gb qb ?_)
 by_cases hz:ea.size=eb.size
 ·have h':Q r s:=by simpa [hz] using h
  have hh:=hits (by rw [za,zb];exact hz)
  rw [zt (by rw [hz];simp)]
  refine zf (wpAny_dictEpoch ga qa (zf ?_))
  rw [Std.Legacy.Range.forIn_eq_forIn_range']
  simp only [Std.Legacy.Range.size,Nat.sub_zero,Nat.add_sub_cancel,Nat.div_one]
  refine wpAny_forIn_list _ (λrest q s'=>s'=s/\q=(none,())/\∃i,rest=List.range' i (ea.size-i)/\i<=ea.size/\bL P W A s kb (ka.drop i) r) _ ?_ ?_ _ _ ⟨rfl,rfl,0,by simp,y1 _,hh⟩
  ·rintro x rest q s' ⟨rfl,rfl,i,hr,hi,hp⟩
   have lt:i<ea.size:=by
    rcases Nat.lt_or_ge i ea.size with c|c
    ·exact c
    ·rw [Nat.sub_eq_zero_of_le c] at hr;simp at hr
   have e0:ea.size-i=(ea.size-(i+1))+1:=by omega
   rw [e0,List.range'_succ] at hr
   injection hr with hx gE
   subst hx
   refine zf (wpAny_dictEntries ga qa ?_)
   rw [Array.getElem?_eq_getElem lt]
   have lt':x<ka.length:=by rw [za];exact lt
   obtain ⟨k,v,gF⟩:∃k v,ka[x]=(k,v):=⟨_,_,rfl⟩
   have fB:ka.drop x=(k,v)::ka.drop (x+1):=by rw [<-gF];exact je lt'
   obtain ⟨eS,uN⟩:=pa.get? (i:=x) (e:=ea[x]) (k:=k) (v:=v) (by rw [Array.getElem?_toList];exact Array.getElem?_eq_getElem lt) (by rw [zR lt',gF])
   obtain ⟨k',kK,hs⟩:=ha ea[x] (Array.getElem_mem lt)
   rw [knd.inj _ _ _ kK eS] at hs
   rw [fB] at hp
   show wpAny _ _ (holding [ea[x].key,ea[x].val] _ >>= _) _ _ _
   rw [hs]
   refine zf (jn (zf (wpAny_dictFind_of eS gb qb hb ?_)))
   cases hj:eb.findIdx? λe=>knd.is k e.key with
   |none =>
    have hn:valueAt kb k=none:=by rw [<-look k,findBy_of_findIdx?,hj]
    rcases hp.inv with ⟨_,er⟩|⟨y,_,_,hy,_⟩
    ·rw [er] at h'
     refine zn ?_
     show wpAny _ _ (if (!false)=true then _ else _) _ _ _
     rw [zu (by decide)]
     exact zn (zn h')
    ·rw [hn] at hy;exact nomatch hy
   |some j =>
    obtain ⟨jl,_,_⟩:=Array.findIdx?_eq_some_iff_getElem.mp hj
    have hv':valueAt kb k=some eb[j].val:=by
     rw [<-look k,findBy_of_findIdx?,hj]
     simp [Array.getElem?_eq_getElem jl]
    refine zf (wpAny_dictEntries gb qb ?_)
    rw [Array.getElem?_eq_getElem jl]
    rcases hp.inv with ⟨hn,_⟩|⟨y,e,c,hy,he,uO,er⟩
    ·rw [hv'] at hn;exact nomatch hn
    ·have ey:eb[j].val=y:=Option.some.inj (hv'.symm.trans hy)
     rw [<-ey,<-uN] at he
     refine jn (he _ _ ?_)
     cases e with
     |false =>
      rw [er,Bool.false_and] at h'
      show wpAny _ _ (if (!false)=true then _ else _) _ _ _
      rw [zu (by decide)]
      exact zn (zn h')
     |true =>
      rw [Bool.true_and] at er
      rw [<-er] at uO
      show wpAny _ _ (if (!true)=true then _ else _) _ _ _
      rw [zt (by decide)]
      refine zf (wpAny_dictEpoch ga qa ?_)
      rw [zt (by simp)]
      exact zn ⟨rfl,rfl,x+1,gE,lt,uO⟩
  ·rintro q s' ⟨rfl,rfl,i,hr,hi,hp⟩
   have FI:i=ea.size:=by
    rcases Nat.lt_or_ge i ea.size with c|c
    ·have e:ea.size-i=(ea.size-(i+1))+1:=by omega
     rw [e,List.range'_succ] at hr;exact nomatch hr
    ·omega
   refine zn ?_
   rw [FI,<-za,List.drop_length] at hp
   cases hp
   exact h'
 ·rw [zu (by simpa using hz)]
  have hf:(ea.size==eb.size)=false:=by simpa using hz
  rw [hf,Bool.false_and] at h
  exact zf (we (zn h))
def dI.recs {a b:Addr}{ka kb:List (K×Value)}{r:Bool}(la:(a==sysModules)=false) (lb:(b==sysModules)=false) (da:s.heap.DictOf knd a ka) (db:s.heap.DictOf knd b kb) (hu:A.units<cLine)
  (hits:ka.length=kb.length->bL P W A.in1 s kb ka r):dI P W A s (.ref a) (.ref b) (ka.length==kb.length&&r):=λE Q h=>by
 refine wpAny_richCompare_same_room (op:=.Eq) da.typeIs db.typeIs PySem.F.slot_dict_eq (jA PySem.F.slot_dict_eq da.typeIs PySem.F.entry_dict_eq ?_ (PySem.F.args_dict_eq_2 _ _)) hu
 show wpAny _ _ (Builtin.Dict.dictSlotArgs "__eq__" ⟨[.ref a,.ref b],[]⟩ >>= _) _ _ s
 refine zf ?_
 unfold Builtin.Dict.dictSlotArgs
 refine zf (wpAny_notOrdered_dict da.typeIs ?_)
 show wpAny _ _ (pure (Value.ref a,Value.ref b)) _ _ s
 refine zn (zf (wpAny_isInstance (T := "dict") db.typeIs PySem.F.sub_dict_dict ?_))
 simp only [Bool.not_true,Bool.false_eq_true,yG]
 refine zf (zn (zf (zn (zf (m8 la lb da db hits ?_)))))
 refine zn ⟨_,rfl,(λx=>nomatch x),?_⟩
 simpa using h
end
def qf:Option SO->Bool
 |some (.dic _ _)=>true
 |_=>false
def kL (st:aj):PV->Option Nat
 |.int _=>some 0
 |.str _=>some 1
 |.tup _=>some 2
 |.ref a=>if qf st[a]?=true then some 3 else none
 |_=>none
def uP (f:PV->PV->Option Bool):Option SO->Option SO->Option Bool
 |some (.dic ks xs),some (.dic dv bB)=>if ks.Nodup/\ks.length=xs.length then if ks.length=dv.length then cw f dv bB ks xs else some false else none
 |_,_=>none
section
variable {X:Cx} {K:Frag} {mg:Ab} {ρ:Ae} {H:Hp} {s:Shared} {st:aj}
inductive Kn (K:Frag) (mg:Ab) (ρ:Ae) (H:Hp) (st:aj):PV->V->Nat->Prop
 |num (i:Int):Kn K mg ρ H st (.int i) (.int i) 0
 |txt (z:Str):Kn K mg ρ H st (.str z) (.str z) 1
 |row {xs:An} {a:Addr} {vs:List V} (h:bg K H a vs) (r:Rs K mg ρ H xs vs):Kn K mg ρ H st (.tup xs) (.ref a) 2
 |rec_ {n:Nat} {a:Addr} {ks:Ad} {xs:An} {vs:List V} (e:st[n]?=some (.dic ks xs)) (ha:ρ[n]?=some a) (h:H a=some (.dK (kz ks vs))) (r:Rs K mg ρ H xs vs) (l:ks.length=vs.length):Kn K mg ρ H st (.ref n) (.ref a) 3
inductive kM (st:aj) (f:PV->PV->Option Bool):PV->PV->Bool->Prop
 |num (a b:Int):kM st f (.int a) (.int b) (a==b)
 |txt (a b:Str):kM st f (.str a) (.str b) (a==b)
 |row {xs ys:An} {k:Bool} (h:c_ f xs ys=some k):kM st f (.tup xs) (.tup ys) k
 |rec_ {a b:Nat} {k:Bool} (h:uP f st[a]? st[b]?=some k):kM st f (.ref a) (.ref b) k
 |apart {x y:PV} {i j:Nat} (hx:kL st x=some i) (hy:kL st y=some j) (h:i≠j):kM st f x y false
theorem uQ {A:Around}{f:PV->PV->Option Bool}(hf:∀x y v w u u' b,f x y=some b->R K mg ρ H x v->R K mg ρ H y w->RelV v u->RelV w u'->bz X.prog X.w A s u u' b) {dv:Ad}{bB:An}{ws:List V}{kb:List (Key×Value)}(r':Rs K mg ρ H bB ws) (uR:KV (kz dv ws) kb) :
  ∀{ks:Ad} {xs:An} {vs:List V} {ka:List (Key×Value)} {b:Bool},ks.length=vs.length->Rs K mg ρ H xs vs->KV (kz ks vs) ka->cw f dv bB ks xs=some b->bL X.prog X.w A s kb ka b
 |[],xs,[],ka,b,_,_,kv,h=>by
  have:b=true:=by cases xs<;>(cases h;rfl)
  subst this
  cases kv
  exact .nil
 |[],xs,_::_,ka,b,hl,_,_,_=>by simp at hl
 |k::ks,xs,[],ka,b,hl,_,_,_=>by simp at hl
 |k::ks,xs,v::vs,ka,b,hl,r,kv,h=>by
  obtain ⟨u,J3,rfl,ru,FJ⟩:=uK kv
  cases xs with
  |nil=>cases r
  |cons x xs =>
   obtain ⟨v',J4,e,r1,r2⟩:=r
   cases e
   simp only [cw] at h
   have hv:=uR.val (Sum.inr k)
   rw [pZ] at hv
   cases hl2:(dv.zip bB).lookup k with
   |none =>
    rw [hl2] at h
    cases h
    rw [uL r' hl2] at hv
    cases hu:valueAt kb (Sum.inr k) with
    |none=>exact .miss hu
    |some _=>rw [hu] at hv;exact (show False from hv).elim
   |some y =>
    rw [hl2] at h
    simp only at h
    cases h1:f x y with
    |none=>rw [h1] at h;cases h
    |some a =>
     cases h2:cw f dv bB ks xs with
     |none=>rw [h1,h2] at h;cases h
     |some c =>
      rw [h1,h2] at h
      cases h
      obtain ⟨w,hw,cn⟩:=mL r' hl2
      rw [hw] at hv
      cases hu:valueAt kb (Sum.inr k) with
      |none=>rw [hu] at hv;exact (show False from hv).elim
      |some u' =>
       rw [hu] at hv
       exact .hit hu (hf x y v w u u' a h1 r1 cn ru hv) (uQ hf r' uR (by simpa using hl) r2 FJ h2)
end
section
variable {X:Cx} {mg:Ab} {pins:Ac} {U:L2.St} {H:Hp} {s:Shared} {o:Expr} {apos aO p0 eV:Pos}
open Classical in
open Classical in
theorem uS:∀{ks:Ad}{vs:List V}{kv:List (Key×Value)},ks.length=vs.length->KV (kz ks vs) kv->Vals vs (kv.map (·.2))
 |[],[],_,_,h=>by cases h;exact .nil
 |[],_::_,_,hl,_=>by simp at hl
 |_::_,[],_,hl,_=>by simp at hl
 |k::ks,v::vs,kv,hl,h=>by
  obtain ⟨u,r,rfl,h1,h2⟩:=uK h
  exact .cons h1 (uS (by simpa using hl) h2)
def FK (to:TE):TE:=λU H Q=>to U H λx H1=>∃a ks vs,x=.ref a/\H1 a=some (.dK (kz ks vs))/\ks.length=vs.length/\∀l,H1 l=none->Q (.ref l) (upd H1 l (.lst vs))
def FL {to:TE} (hc:X.calm=true) (iw:Gl X "list") (iz:X.mg "list" = none) (ho:PE X o to) (bI:attributeBase o "values" X.env (eval o X.env)=eval o X.env) (bJ:(apos.endLine==aO.line)=true) :
  PE X (.Call (.Name "list" p0) [.Call (.Attribute o "values" apos) [] [] aO] [] eV) (FK to):=by
 intro pins s U H Q I h
 refine PyProof.Rows.Call_ (g8 I iw iz pQ (PyProof.Rows.callWith_type1 ?_ rfl rfl))
 show wpAny _ _ (spliced ((false,eval (.Call (.Attribute o "values" apos) [] [] aO) X.env)::backTo eV (starEach [] X.env))) _ _ s
 refine Calls.spliced_cons ?_
 refine wpAny_Call_method0_late bI bJ (aI (ho pins s U H _ I h) λv s1 ⟨x,H1,I1,r1,q1⟩=>?_)
 obtain ⟨a,ks,vs,rfl,e,hl,q⟩:=q1
 obtain rfl:v=Value.ref a:=r1
 obtain ⟨hz,lo,kv,uT,hd⟩:=wI I1.hok (.inl e)
 obtain ⟨ep,gG⟩:=hd.dictAt
 refine ⟨"dict", "dict.values", PySem.F.plainAttrs_dict,PySem.F.slot_dict_values,PySem.F.type_dict_values,?_,?_,Calls.callWith_builtin rfl (PySem.evalArgs_none (call_meetsIn PySem.F.slot_dict_values hd.typeIs PySem.F.entry_dict_values (PySem.F.args_dict_values_1 _) (meets_dict_values (av X.prog X.w) a lo) ⟨⟨kv,hd⟩,?_⟩))⟩
 ·exact (oD I1 (x:=.ref a) rfl (.inr (.inr (.inl ⟨rfl,.inl ⟨_,e⟩⟩)))).1
 ·exact (oD I1 (x:=.ref a) rfl (.inr (.inr (.inl ⟨rfl,.inl ⟨_,e⟩⟩)))).2
 refine Calls.spliced_nil ?_
 have hle:s1.heap.objs.size<=(s1.heap.push { cls:=.type "dict_values", data:=.fields #[.ref a] }).objs.size:=by rw [Heap.size_push];exact Nat.le_succ _
 refine kdl_call (s:={ s1 with heap:=s1.heap.push { cls:=.type "dict_values", data:=.fields #[.ref a] } }) (kdl_values (knd:=av X.prog X.w) (kvs:=kv) (ep:=ep)) (I.ok.hd hc) ⟨⟨_,yw _ rfl,rfl,rfl⟩,gG.push _⟩ (by rw [<-uT.length];exact hz) λh' tk dR c' hk hS dw=>?_
 have ev:dR.toList=kv.map (·.2):=kdl_vals_eq _ (by rw [Array.length_toList];exact dw.1) λj u e=>dw.2 j u (by rw [<-Array.getElem?_toList];exact e)
 have hv:Vals vs dR.toList:=by rw [ev];exact uS hl uT
 have lv:vs.length<=sizeLine:=by
  have:(kz ks vs).length=vs.length:=by simp [kz,hl]
  rw [<-this];exact hz
 exact ⟨.ref _,_,I1.laid (t':=tk) (λb ob eb=>hk b ob (zU _ eb)) hle (show aM X.prog X.w _ h' _ (.lst vs) from ⟨lv,dR.toList,c',hv,by simpa using hS⟩),rfl,q _ (I1.hok.fresh hle)⟩
end
end Mi
namespace L2
open PySem PySem.Spec PyProof.Rows
def FN (iy:Nat) (wi:TI) (te:TE):TS:=λD U H=>wi U H λJ H1=>gh J te U (λv H2=>D.nx (U.set iy (some v)) H2) H1
def FO {X:Cx} {elt iter:Expr} {x y:Str} {px pos pos' dS:Pos} {scope:Scope} {wi:TI} {te:TE} {M:Ad} {iy:Nat} (hc:X.calm=true) (S:bw X.env.scope scope x) (eN:Hid scope M X.N) (bY:((".0" : Str)::x::M).Nodup)
  (hi:PI X (.Name x px) iter wi) (he:∀cl C ae ah fp,PE (fL X M scope cl x C ae ah fp (λ_ _=>False)) elt te) (kN:X.N.Nodup) (kO:X.N[iy]?=some y) (hy:Loc X.env.scope y) (kQ:X.fn y=true\/X.env.scope.names.lookup y=some .local)
  (kS:swapsWith (.ListComp elt [⟨.Name x px,iter,[],0⟩] scope pos) (some (.Name y pos')) dS.line X.env=pure true) (hs:∀v,foldedSetIterable iter X.env v=pure v:=by intro _;rfl):PS X (.Assign [.Name y pos'] (.ListComp elt [⟨.Name x px,iter,[],0⟩] scope pos) dS) (FN iy wi te):=by
 intro pins s U H Dn I h
 have hN:(x::M).Nodup:=(ju.mp bY).2
 have oP:(".0" : Str)∉M:=λz=>(ju.mp bY).1 (yF _ z)
 obtain ⟨cl,gj,bZ,fM⟩:=zev X.env scope λp hp hf=>I.ok.has p.1 (.inl (S.free p hp hf))
 have gk:X.env.scope.kind=.function:=I.ok.kind
 rw [exec_Assign_Name_used _ _ _ _ kS]
 refine zf (wpAny_standAt ?_)
 rw [arm_evalThenUse_ListComp]
 refine zf (zf (wpAny_comprehension_free (Q:=λ_ s'=>wpAny (model X.prog X.w) X.A (pure ():Sem Unit) (λ_ s'=>wpAny (model X.prog X.w) X.A (pure .next:Sem Flow) (SP X pins Dn) X.xe s') X.xe s') (use:=some (assign (.Name y pos') X.env)) rfl hs gj S.kind (λy hy hl=>(S.names y hy hl).1) ?_))
 refine aI (hi pins s U H _ I h) λv s1 h1=>aI h1 λl6 ae h2=>?_
 obtain ⟨it,fp,tn,J,H2,e,I2,T,ak,f2,W,⟨m0,w0⟩,turn⟩:=h2
 subst e
 refine jd (wpAny_newFunctionEnv S.ncell (by intro y hy;simp at hy) (λax ay aw=>?_) S.kind)
 dsimp only at ay aw ⊢
 generalize hH2:ae.heap.push { cls:=.type "list", dict:=none,data:=.seq ([]:Af).toArray }=G2 at ay aw ⊢
 have hC:G2.objs.size=ae.heap.objs.size+1:=by rw [<-hH2,Heap.size_push]
 have eQ:ae.heap.objs.size≠G2.objs.size:=by rw [hC];exact yx (wF _)
 have sR:ae.heap.objs.size<=G2.objs.size:=by rw [hC];exact Nat.le_succ _
 have old:∀b o,ae.heap.get? b=some o->ax.get? b=some o:=λb o e=>by
  have hb:b≠G2.objs.size:=by rw [hC];exact yx (Nat.lt_succ_of_lt (zP e))
  exact aw.extBut b o hb (zU _ (hH2▸zU _ e))
 have kf:ax.get? ae.heap.objs.size=some { cls:=.type "list", data:=.seq (#[]:Array Value) 0 }:=aw.extBut _ _ eQ (zU _ (hH2▸yw _ rfl))
 generalize hD:ae.heap.objs.size=D at *
 generalize hCC:G2.objs.size=C at *
 have c6:∀{b:Nat} {o:Obj},ae.heap.get? b=some o->b<D:=λe=>by rw [<-hD];exact zP e
 have nofr:∀b,D<=b->b∉bU X.stack:=λb hb z=>by
  rcases yt.mp (I2.stkSub b z) with q|q
  ·exact sJ I2.lt hD hb q
  ·exact I2.nofs (by rw [hD];exact hb) q
 let E':Aa:=notedBy (model X.prog X.w) X.A (compEnvC scope cl C X.env) λe s'=>compPost (model X.prog X.w) X.A X.xe (some (assign (.Name y pos') X.env)) (λ_ s'=>wpAny (model X.prog X.w) X.A (pure ():Sem Unit) (λ_ s'=>wpAny (model X.prog X.w) X.A (pure .next:Sem Flow) (SP X pins Dn) X.xe s') X.xe s') (.ref D) C (.error e) s'
 let Y:Cx:=fL X M scope cl x C ae H2 fp E'
 have cC:∀b∈fp,cQ X pins H2 b:=f2
 have gm:Y.Ok:=by
  refine ⟨I2.ok.mod,S.kind,I2.ok.glob,I2.ok.blt,(by show ae.heap.objs.size<=C;omega),λy z c h1 h2=>?_,λy hy=>?_,λy c hf=>?_,I2.ok.hd,I2.ok.frames,.inl rfl,λb hb=>?_,I2.bs,yL I2.ok.bsz I2.sz,λb o hb hx=>?_,λb hb hx=>?_,I2.stack,I2.stkFree⟩
  ·exact I2.ok.inj y z c (bZ y c h1) (bZ z c h2)
  ·exact fM y (oM S gk hy)
  ·cases hf
  ·refine ⟨λz=>?_,λy c hy=>(cC b hb).2.2.2.2.1 y c (bZ y c hy)⟩
   obtain ⟨o,ho,_⟩:=T.obj 0 _ ak b hb
   exact wH (c6 ho) hC z
  ·rcases (cC b hx).2.2.2.1 with z|z
   ·exact I2.ok.noex b o hb z
   ·exact sL (zP hb) I2.ok.bsz z
  ·rcases yt.mp (I2.stkSub b hx) with q|q
   ·exact (cC b hb).2.1 q
   ·exact (cC b hb).2.2.1 q
 have dF:∀{s':Shared} {H':Hp} {o:Obj},s'.heap.get? D=some o->H' D=none->(∀v,o.data ≠ .cell v)->∀p∈[(D,o)],s'.heap.get? p.1=some p.2/\H' p.1=none/\p.1≠Y.env.locals/\p.1∉Y.fs/\∀v,p.2.data ≠ .cell v:=λ{s' H' o} e1 e2 e3 p hp=>by
  have ep:p=(D,o):=by simpa using hp
  subst ep
  exact ⟨e1,e2,eQ,nofr D (zG _),e3⟩
 have I0:Inv Y [(D,{ cls:=.type "list", data:=.seq (#[]:Array Value) 0 })] (none::U) H2 { ae with heap:=ax,toks:=ae.toks+([]:List (Str×Value)).length }:=by
  have fresh:∀b,D<=b->H2 b=none:=λb hb=>I2.hok.fresh (by rw [hD];exact hb)
  refine ⟨gm,rfl,I2.bare,Un.kept old,⟨_,ay,λi y v e1 e2 e3=>?_⟩,λy c hy=>?_,fresh C (by omega),λy c hy=>I2.freeC y c (bZ y c hy),λp hp=>dF kf (fresh D (zG _)) (λv z=>by cases z) p hp,I2.hok.kept old,?_⟩
  ·cases i with
   |zero=>simp at e2
   |succ i =>
    have kg:M[i]?=some y:=by simpa [Y,fL] using e1
    have gn:X.N[i]?=some y:=by
     rcases eN.get kg with q|q
     ·exact q
     ·refine absurd ?_ q
      rcases e3 with e3|e3|e3<;>(obtain ⟨k0,hm,_⟩:=wn e3;exact gY.mpr ⟨_,hm,rfl⟩)
    have oQ:U[i]?=some (some v):=by simpa using e2
    have fN:¬(y=x\/y = ".0"):=λz=>by
     have hm:=iQ kg
     rcases z with z|z
     ·rw [z] at hm
      exact (ju.mp hN).1 hm
     ·rw [z] at hm
      exact oP hm
    have dj:(y,NameKind.free)∈scope.names:=by
     rcases e3 with e3|e3|e3
     ·exact absurd (sP S e3) fN
     ·exact oM S gk (.inl e3)
     ·exact oM S gk (.inr e3)
    have kh:X.env.scope.names.lookup y=some .cell:=S.free _ dj rfl
    obtain ⟨m,hn,hl⟩:=I2.loc
    obtain ⟨u,r,l⟩:=hl i y v gn oQ (.inr (.inl kh))
    refine ⟨u,r,?_⟩
    rcases l with ⟨hk,_⟩|⟨_,c,g7,cP⟩
    ·have:X.env.kindOf y=some .cell:=kh
     rw [this] at hk;cases hk
    ·obtain ⟨c',dh⟩:=fM y dj
     have:=bZ y c' dh
     rw [g7] at this
     cases this
     refine .inr ⟨?_,c,dh,?_⟩
     ·rcases e3 with e3|e3|e3
      ·exact absurd (sP S e3) fN
      ·exact .inl e3
      ·exact .inr e3
     ·obtain ⟨o,ho,hd⟩:=cP
      exact ⟨o,old c o ho,hd⟩
  ·obtain ⟨v,o,ho,hd⟩:=I2.cell y c (bZ y c hy)
   exact ⟨v,o,old c o ho,hd⟩
  ·show (none::U).length=(x::M).length
   simp [I2.len,eN.1]
 have gp:∀{pl:Ac} {H':Hp},(∀p∈pl,p.1=D)->(∀b∈fp,H' b=none)->∀b∈fp,cQ Y pl H' b:=λ{pl H'} bS hn b hb=>by
  obtain ⟨o,ho,_⟩:=T.obj 0 _ ak b hb
  refine ⟨hn b hb,λz=>?_,?_,.inl hb,(gm.exf b hb).2,λp hp z=>?_⟩
  ·exact wH (c6 ho) hC z
  ·exact gm.exfs b hb
  ·have hp':p∈pl:=by simpa [Y,fL] using hp
   exact sN (c6 ho) (bS p hp') z
 have loop:codeAny (model X.prog X.w) X.A (.compLoop (.ListComp elt [⟨.Name x px,iter,[],0⟩] scope pos) 0 (.ref it) (.ref D) (compEnvC scope cl C X.env))
   (compPost (model X.prog X.w) X.A X.xe (some (assign (.Name y pos') X.env)) (λ_ s'=>wpAny (model X.prog X.w) X.A (pure ():Sem Unit) (λ_ s'=>wpAny (model X.prog X.w) X.A (pure .next:Sem Flow) (SP X pins Dn) X.xe s') X.xe s') (.ref D) C) { ae with heap:=ax,toks:=ae.toks+([]:List (Str×Value)).length }:=by
  refine Dg (λn s'=>∃i ys H' its k,Inv Y [(D,{ cls:=.type "list", data:=.seq (its:Af).toArray k })] (none::U) H' s'/\Vals ys its/\tn i s'.heap/\(∀b∈fp,H' b=none)/\W i n ys H') ?_ m0
   ⟨0,[],H2,[],0,I0,.nil,T.keep 0 _ _ ak (λb hb o e=>old b o e),λb hb=>(cC b hb).1,w0⟩
  rintro n s3 ⟨i,ys,H3,its,k,I3,rv,aL,fG,w3⟩
  have eB:∀{o:Obj},∀p∈[(D,o)],p.1=D:=λ{o} p hp=>by
   have ep:p=(D,o):=by simpa using hp
   rw [ep]
  obtain ⟨gD,nD,_,_,_⟩:=I3.pin (D,_) (yk _ yr)
  rcases turn i n ys H3 w3 with ⟨stop,hz,q⟩|⟨go,hz,step⟩
  ·refine aI (T.done Y rfl rfl rfl hc i _ s3 _ H3 E' I3 (gp eB fG) aL stop) λr s4 ⟨hr,I4⟩=>?_
   subst hr
   obtain ⟨oR,gq,_,_,_⟩:=I4.pin (D,_) (yk _ yr)
   obtain ⟨m4,oS,_⟩:=id I4.loc
   have fin:∀h',Heap.SameBut C s4.heap h'->Inv X pins U (upd H3 D (.lst ys)) { s4 with heap:=h' }:=λh' cD=>by
    have eO:∀{b:Addr} {u:HO},H3 b=some u->b≠C:=λe z=>by
     have:H3 C=none:=I4.free
     rw [z,this] at e;cases e
    refine I2.call' (s':={ s4 with heap:=h' }) (ch:=fp) (H':=upd H3 D (.lst ys)) I4.os ?_ ?_ I4.bare λb hb=>⟨(cC b hb).2.2.2.1,(cC b hb).2.1,(cC b hb).2.2.2.2.1,(cC b hb).2.2.2.2.2⟩
    ·have B:=I4.base
     have gr:∀{b:Nat} {o:Obj},ae.heap.get? b=some o->b≠C:=λe z=>wH (c6 e) hC z
     have gs:∀{b:Addr} {u:HO},H3 b=some u->b≠D:=λe z=>by rw [z,gq] at e;cases e
     refine ⟨λb o e nn hb hx=>(cD.2 b (gr e)).trans (B.keep b o e nn hb hx),λb o e nn hb hx=>?_,λb o e nn hx=>?_,λb o e hx=>?_,λb xs e=>?_,λb o u e=>?_,λb ps e=>?_⟩
     ·obtain ⟨sl,z⟩:=B.slot b o e nn hb hx
      exact ⟨sl,(cD.2 b (gr e)).trans z⟩
     ·have oU:b≠D:=yx (c6 e)
      rw [zw oU]
      exact B.free b o e nn hx
     ·obtain ⟨o',z⟩:=B.there b o e hx
      exact ⟨o',(cD.2 b (gr e)).trans z⟩
     ·have z:=B.tups b xs e
      rw [zw (gs z)];exact z
     ·have z:=B.frzs b o u e
      rw [zw (gs z)];exact z
     ·obtain ⟨more,z⟩:=B.tbls b ps e
      exact ⟨more,by rw [zw (gs z)];exact z⟩
    ·intro a o e
     by_cases ha:a=D
     ·subst ha
      rw [yg] at e
      cases e
      exact ⟨hz,its,k,rv,(cD.2 _ eQ).trans oR⟩
     ·rw [zw ha] at e
      have dk:∀b u,H3 b=some u->(upd H3 D (.lst ys)) b=some u:=λb u z=>by
       have hb:b≠D:=λw=>by rw [w,gq] at z;cases z
       rw [zw hb];exact z
      refine (I4.hok a o e).stay (λb u hb z=>(cD.2 b ?_).trans z) (λb z=>dk b _ z) λb xs z=>dk b _ z
      rcases hb with hb|hb
      ·rw [hb];exact eO e
      ·exact eO hb
   have FP:C≠D:=λz=>eQ z.symm
   have IX:=fin s4.heap ⟨rfl,λ_ _=>rfl⟩
   obtain ⟨oC,eC,pC,gC,rC⟩:=id oS
   have uU:upd H3 D (.lst ys) C=none:=by rw [zw FP];exact I4.free
   have qg:∀b o,ae.heap.get? b=some o->b≠C:=λb o e z=>wH (c6 e) hC z
   have uV:C≠X.env.locals:=λz=>by
    obtain ⟨m2,dD,_⟩:=id I2.loc
    obtain ⟨o2,_,_,g2,_⟩:=dD
    exact qg _ _ g2 z.symm
   have FQ:C∉X.fs:=I2.nofs (by rw [hD];omega)
   have IP:Inv X (pins++[(C,oC)]) U (upd H3 D (.lst ys)) s4:=IX.pins_of λp hp=>by
    rcases iR.mp hp with hp|hp
    ·exact IX.pin p (yk _ hp)
    ·have ep:p=(C,oC):=by simpa using hp
     subst ep
     exact ⟨gC,uU,uV,FQ,λv z=>by rw [rC.1] at z;cases z⟩
   show wpAny _ _ (assign (.Name y pos') X.env (.ref D)) _ _ s4
   have dB:wpAny (model X.prog X.w) X.A (assign (.Name y pos') X.env (.ref D)) (λ_ s5=>Inv X (pins++[(C,oC)]) (U.set iy (some (.ref D))) (upd H3 D (.lst ys)) s5) X.xe s4:=wpAny_assign_Name (lX IP kN kO hy (v:=.ref D) rfl (λs5 I5=>I5) kQ)
   refine aI dB λ_ s5 I5=>?_
   have g5:=(I5.pin (C,oC) (yk _ (yk _ yr))).1
   refine ⟨m4,⟨oC,eC,pC,g5,rC⟩,λJ5 cD=>zn (zn ⟨_,_,?_,q D gq⟩)⟩
   exact (I5.pins_of (pins':=pins) λp hp=>I5.pin p (yk _ (gW _ hp))).turned (it:=C) (t':=s5.toks) (λb o hb e=>(cD.2 b hb).trans e) uU uV
    (.inr (by have:=I2.sz;rw [hD] at this;omega)) (λa c ha z=>by
     obtain ⟨v',o',ho',_⟩:=I2.cell a c ha
     exact qg _ _ ho' z) (λp hp=>qg _ _ (I2.pin p hp).1)
  ·refine aI (T.item Y rfl rfl rfl hc i _ s3 _ H3 E' I3 (gp eB fG) aL go) λr s4 ⟨u,hr,h4⟩=>?_
   subst hr
   refine aI h4 λ_ s5 ⟨z,H5,I5,r5,y5,bV,iY⟩=>?_
   have iZ:=I5.pinned (gp eB iY) (T.obj _ _ bV)
   have ki:PG Y (.Name x px) (g9 0):=g_ (X:=Y) hN rfl (.inl (lS S.hx)) (.inr (lS S.hx))
   have oV:PE Y elt te:=PE.nox (X:=Y) (he cl C ae H2 fp)
   refine aI (ki _ s5 (none::U) H5 z u (λag H'=>ag=some z::U/\H'=H5) iZ r5 ⟨rfl,rfl⟩) λ_ s6 ⟨aA,H6,I6,e1,e2⟩=>?_
   subst e1 e2
   refine aI (oV _ s6 _ _ _ I6 (step z _ y5)) λuy s7 ⟨y,H7,I7,ry,m',hm,w7⟩=>?_
   obtain ⟨kj,gu,_,_,_⟩:=I7.pin (D,_) (yk _ (gW _ yr))
   refine wpAny_list_append_plain ⟨k,kj⟩ (λh' bS cD=>?_) (by rw [yf,<-rv.length];exact hz)
   obtain ⟨k',km⟩:=bS
   have I8:Inv Y [] (some z::U) H7 { s7 with heap:=h' }:=(I7.pins_of (pins':=[]) (λp hp=>nomatch hp)).turned (it:=D) (t':=s7.toks) (λb o hb e=>(cD.2 b hb).trans e) gu eQ
    (.inr (by show ae.heap.objs.size<=D;omega)) (λa c hy kn=>by
     obtain ⟨v',o',ho',_⟩:=I2.cell a c (bZ a c hy)
     exact yx (c6 ho') kn) (λp hp=>by simp [Y,fL] at hp)
   have I9:Inv Y [] (none::U) H7 { s7 with heap:=h' }:=I8.weak (by simp) λj v e=>by
    cases j with
    |zero=>simp at e
    |succ j=>simpa using e
   have cU:∀b∈fp,∃o,s5.heap.get? b=some o/\s7.heap.get? b=some o/\H7 b=none:=λb hb=>by
    obtain ⟨o,e,_⟩:=T.obj _ _ bV b hb
    have q:=I7.pin (b,o) (yk _ (yk _ (iX hb e)))
    exact ⟨o,e,q.1,q.2.1⟩
   have oW:∀b∈fp,b≠D:=λb hb=>by
    obtain ⟨o,ho,_⟩:=T.obj 0 _ ak b hb
    exact yx (c6 ho)
   have eT:its.toArray.push uy=(its++[uy]).toArray:=by simp
   rw [eT] at km
   refine ⟨m',hm,i+1,ys++[y],H7,its++[uy],k',I9.pins_of (dF km gu λv e=>by cases e),rv.append (.cons ry .nil),T.keep (i+1) _ _ bV λb hb o e=>?_,λb hb=>?_,w7⟩
   ·obtain ⟨o',e1,e2,_⟩:=cU b hb
    rw [e] at e1
    cases e1
    exact (cD.2 b (oW b hb)).trans e2
   ·obtain ⟨_,_,_,q⟩:=cU b hb
    exact q
 exact codeAny_compStart_list loop (T.self X.A 0 _ _ _ (T.keep 0 _ _ ak (λb hb o e=>old b o e)) loop)
end L2
namespace Mi
open PySem L2 PySem.W PySem.Spec
section
variable {X:Cx} {Er:XK} {pos:Pos}
def FR (X:Cx) (Er:XK) (src:zc->Mo Sq):TI:=λU H R=>∃env st ρ,aU X.K X.mg ρ H env U/\aP X.K X.mg ρ H st/\Out X.K X.mg ρ H (src env st) (λaf H' q aE=>∀J,Walk X.K X.mg J af H' q->R J H') Er
def FT {src:zc->Mo Sq}{fe:Ai}(U:L2.St) (H:Hp) (Q:VK) (hh:tM X.K X.mg Er (yo src fe) U H Q):oN (FR X Er src) (tM X.K X.mg XN fe) U H Q:=by
 obtain ⟨env,st,ρ,re,rs,h⟩:=hh
 refine ⟨env,st,ρ,re,rs,h.then λao H0 q c9 e0 s0 h0 J wk=>?_⟩
 cases q with
 |im xs =>
  obtain ⟨hl,h0⟩:=Out.ifp h0
  obtain ⟨w1,w2,w3⟩:=wk
  refine ⟨λi m ys H=>m=xs.length-i/\i<=xs.length/\ys.length=i/\∃ps st ρ,Rs X.K X.mg ρ H ps ys/\aP X.K X.mg ρ H st/\Ext ao H0 ρ H/\Out X.K X.mg ρ H (cG fe env (xs.drop i) ps st) (gV X.K X.mg Q) Er,⟨xs.length,by simp,y1 _,rfl,[],c9,ao,rfl,s0,Ext.refl,h0⟩,?_⟩
  rintro i m ys H ⟨rfl,hi,hy,ps,st,ρ,c4,rs,ex,h⟩
  by_cases aZ:i<xs.length
  ·refine .inr ⟨w1 i ρ H ex aZ,yO (by omega),λv H' y=>?_⟩
   obtain ⟨x,hx,dr,s2,rx⟩:=w3 i ρ H st v H' ex rs aZ y
   have hd:xs.drop i=x::xs.drop (i+1):=by
    rw [je aZ]
    have:=(zM.mp hx).2
    rw [this]
   rw [hd] at h
   simp only [cG] at h
   refine ⟨some x::env,st,ρ,(re.ext (e0.trans (ex.trans dr))).cons rx,s2,mO (Out.ext h dr) λam H3 y aL e3 s3 h3 v ry=>⟨xs.length-(i+1),by omega,rfl,aZ,by simp [hy],ps++[y],aL,am,Rs.snoc ry (Rs.ext (dr.trans e3) ps c4),s3,(ex.trans dr).trans e3,h3⟩⟩
  ·have e:i=xs.length:=by omega
   subst e
   rw [List.drop_length] at h
   exact .inl ⟨w2 _ ρ H ex (zG _),yO (by omega),λl hl=>Out.newList h rs c4 hl⟩
 |rf n =>
  obtain ⟨a,ha,rfl⟩:=wk
  refine ⟨λi m ys H=>m+i=lim+1/\ys.length=i/\∃ps st ρ,Rs X.K X.mg ρ H ps ys/\aP X.K X.mg ρ H st/\Ext ao H0 ρ H/\ρ[n]?=some a/\Out X.K X.mg ρ H (cv fe env n m i ps st) (gV X.K X.mg Q) Er,⟨lim+1,rfl,rfl,[],c9,ao,rfl,s0,Ext.refl,ha,h0⟩,?_⟩
  rintro i m ys H ⟨hm,hy,ps,st,ρ,c4,rs,ex,ha,h⟩
  cases m with
  |zero=>exact h.elim
  |succ m =>
   obtain ⟨xs,hn,h⟩:=yV h
   obtain ⟨vs,hH,hR⟩:=rs.addr hn ha
   cases hx:xs[i]? with
   |none =>
    simp only [hx] at h
    have:vs.length<=i:=by rw [<-hR.len];exact gZ.mp hx
    exact .inl ⟨⟨vs,aS.of hH,this⟩,yO (by omega),λl hl=>Out.newList h rs c4 hl⟩
   |some x =>
    simp only [hx] at h
    obtain ⟨v,hv,rv⟩:=hR.get hx
    refine .inr ⟨⟨vs,v,aS.of hH,hv⟩,yO (by omega),λv' H' y=>?_⟩
    obtain ⟨e1,y⟩:=y
    subst e1
    have e2:=y vs (aS.of hH)
    rw [hv] at e2
    cases e2
    exact ⟨some x::env,st,ρ,(re.ext (e0.trans ex)).cons rv,rs,mO h λam H3 y aL e3 s3 h3 v ry=>⟨m,wF m,by omega,by simp [hy],ps++[y],aL,am,Rs.snoc ry (Rs.ext e3 ps c4),s3,ex.trans e3,e3.get ha,h3⟩⟩
def FU (i:Nat) {elt iter:Expr} {x y:Str} {px pos' dS:Pos} {scope:Scope} {src:zc->Mo Sq} {fe:Ai} {M:Ad} (hc:X.calm=true) (S:bw X.env.scope scope x) (eN:Hid scope M X.N) (bY:((".0" : Str)::x::M).Nodup)
  (hi:MI X Er (.Name x px) iter src) (he:∀cl C ae ah fp,ME (fL X M scope cl x C ae ah fp (λ_ _=>False)) XN elt fe) (kN:X.N.Nodup) (kO:X.N[i]?=some y) (hy:Loc X.env.scope y) (kQ:X.fn y=true\/X.env.scope.names.lookup y=some .local)
  (kS:swapsWith (.ListComp elt [⟨.Name x px,iter,[],0⟩] scope pos) (some (.Name y pos')) dS.line X.env=pure true) (hs:∀v,foldedSetIterable iter X.env v=pure v:=by intro _;rfl) :
  MS X Er (.Assign [.Name y pos'] (.ListComp elt [⟨.Name x px,iter,[],0⟩] scope pos) dS) (zD i (yo src fe)) :=
 PS.weak (FO (te:=tM X.K X.mg XN fe) hc S eN bY hi (λcl C ae ah fp=>he cl C ae ah fp) kN kO hy kQ kS hs) λD U H ⟨env,st,ρ,re,rs,h⟩=>by
  refine FT (X:=X) (Er:=Er) (src:=src) (fe:=fe) U H (λv H2=>D.nx (U.set i (some v)) H2) ⟨env,st,ρ,re,rs,h.then λad H1 x aa e1 s1 h1 v rv=>?_⟩
  exact h1.now s1 (U.set i (some v)) ((re.ext e1).set i rv)
def uW (i:Nat) {elt iter:Expr} {x y:Str} {px pos' dS:Pos} {scope:Scope} {src:zc->Mo Sq} {fe:Ai} {N:Ad} (hc:X.calm=true) (S:bw X.env.scope scope x) (eN:X.N=N) (bY:((".0" : Str)::x::N).Nodup)
  (hi:MI X Er (.Name x px) iter src) (he:∀cl C ae ah fp,ME (ke X scope cl x C ae ah fp (λ_ _=>False)) XN elt fe) (kN:X.N.Nodup) (kO:X.N[i]?=some y) (hy:Loc X.env.scope y) (kQ:X.fn y=true\/X.env.scope.names.lookup y=some .local)
  (kS:swapsWith (.ListComp elt [⟨.Name x px,iter,[],0⟩] scope pos) (some (.Name y pos')) dS.line X.env=pure true) (hs:∀v,foldedSetIterable iter X.env v=pure v:=by intro _;rfl) :
  MS X Er (.Assign [.Name y pos'] (.ListComp elt [⟨.Name x px,iter,[],0⟩] scope pos) dS) (zD i (yo src fe)) :=
 FU i hc S Hid.refl (eN▸bY) hi he kN kO hy kQ kS hs
end
end Mi
namespace L2
open PySem PySem.Spec PyProof.Rows PySem.W
section
variable {X:Cx} {pins:Ac} {U:St} {H:Hp} {s:Shared} {a:Addr} {kvs:List (Key×V)} {o:Obj}
def Inv.freeze (I:Inv X pins U H s) (ha:H a=some (.dK kvs)) (ho:s.heap.get? a=some o):Inv X pins U (upd H a (.frz o (.dK kvs))) s:=by
 have mu:fX (H a):=by rw [ha];trivial
 have d:=I.hok a _ ha
 exact I.un (h':=s.heap) (t':=s.toks) (Un.write (e:=a) mu (.inl rfl) (λb u _ q=>q) ⟨o,ho⟩) (bq.write (e:=a) I.hok mu (.inl rfl) (λb u _ q=>q) ⟨o,ho⟩ ⟨ho,d⟩)
def Inv.young (I:Inv X pins U H s) (ha:H a=some (.dK kvs)):∀o u,X.H₀ a≠some (.frz o u):=λo u e=>by
 have:=I.base.frzs a o u e
 rw [ha] at this
 cases this
def Inv.thaw (I:Inv X pins U H s) (ha:H a=some (.frz o (.dK kvs))) (hy:∀o u,X.H₀ a≠some (.frz o u)):Inv X pins U (upd H a (.dK kvs)) s:=by
 have ne:∀b,H b=none->b≠a:=λb n z=>by rw [z,ha] at n;cases n
 have no:∀b u,H b=some u->(∀o k,u ≠ .frz o k)->b≠a:=λb u e n z=>by rw [z,ha] at e;cases e;exact n _ _ rfl
 refine ⟨I.ok,I.os,I.bare,⟨I.base.keep,I.base.slot,λb o e n hx=>?_,I.base.there,λb xs e=>?_,λb o u e=>?_,λb ps e=>?_⟩,I.loc,I.cell,?_,λx c e=>?_,λp hp=>?_,λb u e=>?_,I.len⟩
 ·have:=I.base.free b o e n hx
  rw [zw (ne b this)];exact this
 ·have:=I.base.tups b xs e
  rw [zw (no b _ this λ_ _=>nofun)];exact this
 ·have:=I.base.frzs b o u e
  rw [zw (λz=>hy o u (by rw [<-z];exact e))];exact this
 ·obtain ⟨m,this⟩:=I.base.tbls b ps e
  exact ⟨m,by rw [zw (no b _ this λ_ _=>nofun)];exact this⟩
 ·rw [zw (ne _ I.free)];exact I.free
 ·rw [zw (ne _ (I.freeC x c e))];exact I.freeC x c e
 ·obtain ⟨h1,h2,h3⟩:=I.pin p hp
  exact ⟨h1,by rw [zw (ne _ h2)];exact h2,h3⟩
 ·by_cases hb:b=a
  ·subst hb
   rw [yg] at e
   cases e
   exact (I.hok b _ ha).2
  ·rw [zw hb] at e
   exact (I.hok b u e).stay (λc v _ q=>q) (λc q=>by rw [zw (no c _ q λ_ _=>nofun)];exact q) λc xs q=>by rw [zw (no c _ q λ_ _=>nofun)];exact q
end
def uX (a:Addr) (o:Obj) (kvs:List (Key×V)):It :=
 ⟨λi H=>H a=some (.frz o (.dK kvs))/\i<kvs.length,λi H x H'=>H'=H/\∃kv,kvs[i]?=some kv/\x=kV kv.1,λi H=>H a=some (.frz o (.dK kvs))/\kvs.length<=i⟩
def FV {k:Key}{u:Value}(h:dc k u=true):RelV (kV k) u:=by
 rcases jO h with ⟨i,t,rfl,rfl⟩|⟨y,t,rfl,rfl⟩
 ·exact ⟨t,rfl⟩
 ·exact ⟨t,rfl⟩
def uY {X:Cx}{pins:Ac}{U:St}{H:Hp}{s:Shared}{a:Addr}{o:Obj}{kvs:List (Key×V)}{es:Array DictEntry}{ep:Nat}(I:Inv X pins U H s) (ha:H a=some (.frz o (.dK kvs))) (hd:o.data=.dict es ep) :
  ∃vs,KV kvs vs/\s.heap.DictAt (av X.prog X.w) a vs ep:=by
 obtain ⟨ho,_,_,vs,r,o',lW,fY,e1,e2,e3,e4⟩:=I.hok a _ ha
 rw [ho] at e1
 cases e1
 rw [hd] at e3
 cases e3
 exact ⟨vs,r,o,es,ho,e2,hd,e4⟩
def FW {P:Program}{w:World}{K:PySem.W.Frag}{tg:Expr}{a it:Addr}{o:Obj}{kvs:List (Key×V)}{es:Array DictEntry}{ep:Nat}(hd:o.data=.dict es ep):Turn P w K tg (uX a o kvs) [it] it (λi h=>h.IsKeyIter it a i kvs.length ep) where
 mem:=by simp
 obj:=λi h st b hb=>by
  have e:b=it:=by simpa using hb
  subst e
  obtain ⟨o,e,c,d⟩:=st
  exact ⟨o,e,λv z=>by rw [d] at z;cases z⟩
 keep:=λi h h' st k=>st.at λo e=>k it (by simp) o e
 item:=by
  intro X hP hw hK hc i pins s U H E I hf st hg
  subst hP hw hK
  obtain ⟨ha,hi⟩:=hg
  obtain ⟨vs,r,gG⟩:=uY I ha hd
  have hl:=r.length
  have hv:vs[i]?=some (vs[i]'(by omega)):=zR (by omega)
  have gF:kvs[i]?=some kvs[i]:=zR hi
  have hk:kvs[i].1=(vs[i]'(by omega)).1:=by
   have:=congrArg (λl:List Key=>l[i]?) r.keys
   simp only [wf,hv,gF,Option.map_some] at this
   exact Option.some.inj this
  obtain ⟨f0,f1,f2,f3,f4,f5⟩:=hf it (by simp)
  rw [hl] at st
  refine wpAny_pyNext_dict_item st gG (k:=(vs[i]'(by omega)).1) (v:=(vs[i]'(by omega)).2) hv λkey h' eS aE sb=>?_
  have I1:Inv X pins U H { s with heap:=h' }:=I.turned (t':=s.toks) (λb o hb e=>(sb.2 b hb).trans e) f0 f1 f3 f4 f5
  obtain ⟨o',e,c,d⟩:=id aE
  refine ⟨key,rfl,hG (s:={ s with heap:=h' }) e c d (by decide) ⟨kV kvs[i].1,H,I1,?_,⟨rfl,_,gF,rfl⟩,by rw [<-hl] at aE;exact aE,λb hb=>(hf b hb).1⟩⟩
  rw [hk]
  exact FV eS
 done:=by
  intro X hP hw hK hc i pins s U H E I hf st hg
  subst hP hw hK
  obtain ⟨ha,hi⟩:=hg
  obtain ⟨vs,r,gG⟩:=uY I ha hd
  have hl:=r.length
  obtain ⟨f0,f1,f2,f3,f4,f5⟩:=hf it (by simp)
  rw [hl] at st
  exact wpAny_pyNext_dict_end (I.ok.hd hc) st gG (gZ.mpr (by omega)) λh' eb=>⟨rfl,I.turned (t':=s.toks) (λb o hb e=>eb b o hb e) f0 f1 f3 f4 f5⟩
 self:=λ_ _ _ _ _ st h=>wpAny_pyIter_keyiter st h
def FX (X:Cx) (tl:TE):TI:=λU H R=>tl U H λx H1=>∃a kvs,x=.ref a/\H1 a=some (.dK kvs)/\∀o,kvs.length<=sizeLine->(∀o u,X.H₀ a≠some (.frz o u))->R (uX a o kvs) (upd H1 a (.frz o (.dK kvs)))
def FY {X:Cx}{l tg:Expr}{tl:TE}(hl:PE X l tl):PI X tg l (FX X tl):=by
 intro pins s U H R I h
 refine aI (hl pins s U H _ I h) λv s1 ⟨x,H1,I1,r1,a,kvs,e,ha,q⟩=>?_
 subst e
 cases r1
 obtain ⟨hz,lo,vs,r,o,es,ep,ho,hx,hd,hr⟩:=I1.hok a _ ha
 have I2:=I1.freeze ha ho
 have fr:∀b,s1.heap.objs.size<=b->(upd H1 a (.frz o (.dK kvs))) b=none:=λb hb=>I2.hok.fresh hb
 refine wpAny_pyIter_dict lo (show s1.heap.DictAt (av X.prog X.w) a vs ep from ⟨o,es,ho,hx,hd,hr⟩) ?_
 refine ⟨s1.heap.objs.size,[s1.heap.objs.size],_,_,_,rfl,I2.kept (t':=s1.toks) (λb o e=>zU _ e),FW hd,?_,λb hb=>?_,q o hz (I1.young ha)⟩
 ·rw [r.length]
  exact ⟨_,yw _ rfl,rfl,rfl⟩
 ·have e:b=s1.heap.objs.size:=by simpa using hb
  subst e
  exact I2.fpOk (zG _) (fr _ (zG _))
def uZ (X:Cx) (H:Hp) (G:Hp->Prop):Prop:=∃a o kvs,H a=some (.frz o (.dK kvs))/\(∀o u,X.H₀ a≠some (.frz o u))/\G (upd H a (.dK kvs))
def FZ {X:Cx}{e:Expr}{t:TE}(h:PE X e t):PE X e (λU H Q=>t U H λv H'=>uZ X H' (Q v)):=by
 intro pins s U H Q I q
 refine aI (h pins s U H _ I q) λu s1 ⟨v,H',I',r,a,o,kvs,ha,hy,q'⟩=>?_
 exact ⟨v,_,I'.thaw ha hy,r,q'⟩
end L2
namespace Mi
open PySem L2 PySem.W PySem.Spec
section
variable {K:Frag} {mg:Ab} {ρ:Ae} {H:Hp} {a:Addr} {o:Obj} {kvs:List (Key×V)} {u:HO}
def iA (ha:H a=some (.frz o (.dK kvs))) {b:Addr}{w:HO}(h:H b=some w) (n:∀o k,w ≠ .frz o (.dK k)):upd H a u b=some w:=by
 rw [zw]
 ·exact h
 ·intro z;subst z;rw [ha] at h;cases h;exact n _ _ rfl
def m9 (ha:H a=some (.frz o (.dK kvs))) {p:Addr}{xs:List V}(h:bg K H p xs):bg K (upd H a u) p xs:=by
 rcases h with (h|⟨o,h⟩)|h
 ·exact .inl (.inl (iA ha h (λ_ _=>nofun)))
 ·exact .inl (.inr ⟨o,iA ha h (λ_ _=>nofun)⟩)
 ·exact .inr h
def F0 (ha:H a=some (.frz o (.dK kvs))) {p:Addr}{xs:List V}(h:eG K H p xs):eG K (upd H a u) p xs:=by
 rcases h with ⟨o,h⟩|h
 ·exact .inl ⟨o,iA ha h (λ_ _=>nofun)⟩
 ·exact .inr h
mutual
theorem R.th (ha:H a=some (.frz o (.dK kvs))):∀(x:PV) {v:V},R K mg ρ H x v->R K mg ρ (upd H a u) x v
 |.non,_,h=>h
 |.bl _,_,h=>h
 |.int _,_,h=>h
 |.str _,_,h=>h
 |.ty _,_,h=>h
 |.tup xs,_,h=>by
  obtain ⟨a,vs,h1,h2,h3⟩:=h
  exact ⟨a,vs,h1,m9 ha h2,Rs.th ha xs h3⟩
 |.frl xs,_,h=>by
  obtain ⟨a,vs,h1,h2,h3⟩:=h
  exact ⟨a,vs,h1,F0 ha h2,Rs.th ha xs h3⟩
 |.ref n,_,h=>h
 |.fn _,_,h=>h
 |.kd ks xs,_,h=>by
  obtain ⟨a,us,vs,h1,h2,h4,h3⟩:=h
  exact ⟨a,us,vs,h1,h2,h4,Rs.th ha xs h3⟩
 |.exo c ks xs,_,h=>by
  obtain ⟨a,C,h1,h2,⟨h3,h4⟩|⟨d,vs,h3,h4,h5,h6⟩⟩:=h
  ·exact ⟨a,C,h1,h2,.inl ⟨h3,iA ha h4 (λ_ _=>nofun)⟩⟩
  ·exact ⟨a,C,h1,h2,.inr ⟨d,vs,iA ha h3 (λ_ _=>nofun),iA ha h4 (λ_ _=>nofun),Rs.th ha xs h5,h6⟩⟩
theorem Rs.th (ha:H a=some (.frz o (.dK kvs))):∀(xs:An) {vs:List V},Rs K mg ρ H xs vs->Rs K mg ρ (upd H a u) xs vs
 |[],_,h=>h
 |x::xs,_,h=>by
  obtain ⟨v,r,h1,h2,h3⟩:=h
  exact ⟨v,r,h1,R.th ha x h2,Rs.th ha xs h3⟩
end
theorem aU.th (ha:H a=some (.frz o (.dK kvs))) {env:zc}{U:L2.St}(h:aU K mg ρ H env U):aU K mg ρ (upd H a u) env U :=
 ⟨h.len,λi x hx=>let ⟨v,p,q⟩:=h.at_ i x hx;⟨v,p,R.th ha x q⟩⟩
def F1 (ha:H a=some (.frz o (.dK kvs))) {so:SO}{b:Addr}(ne:b≠a) (h:dn K mg ρ H so b):dn K mg ρ (upd H a u) so b:=by
 cases so with
 |lst xs=>obtain ⟨vs,h1,h2⟩:=h;exact ⟨vs,by rw [zw ne];exact h1,Rs.th ha xs h2⟩
 |dic ks xs=>obtain ⟨vs,h1,h2,h3⟩:=h;exact ⟨vs,by rw [zw ne];exact h1,Rs.th ha xs h2,h3⟩
 |ins c ks xs=>obtain ⟨C,dx,vs,h0,h1,h2,h3⟩:=h;exact ⟨C,dx,vs,h0,by rw [zw ne];exact h1,Rs.th ha xs h2,h3⟩
 |fdi ks xs=>obtain ⟨o,vs,h1,h2,h3⟩:=h;exact ⟨o,vs,by rw [zw ne];exact h1,Rs.th ha xs h2,h3⟩
 |dit ks xs=>obtain ⟨its,vs,h1,h2,h3,h4,h5⟩:=h;exact ⟨its,vs,by rw [zw ne];exact h1,h2,λx hx=>m9 ha (h3 x hx),h4,Rs.th ha xs h5⟩
 |odd c xs=>obtain ⟨b,us,ep,vs,h1,h2,h3,h4⟩:=h;exact ⟨b,us,ep,vs,by rw [zw ne];exact h1,by cases c<;>first|exact m9 ha h2|trivial,h3,Rs.th ha xs h4⟩
 |fod c xs=>obtain ⟨o,b,us,ep,vs,h1,h2,h3,h4⟩:=h;exact ⟨o,b,us,ep,vs,by rw [zw ne];exact h1,by cases c<;>first|exact m9 ha h2|trivial,h3,Rs.th ha xs h4⟩
def aP.thaw {st:aj}{n:Nat}{ks:Ad}{xs:An}(s:aP K mg ρ H st) (hn:ρ[n]?=some a) (ha:H a=some (.frz o (.dK kvs))) (hs:st[n]?=some (.fdi ks xs)):aP K mg ρ (upd H a (.dK kvs)) (st.set n (.dic ks xs)):=by
 refine ⟨by simp [s.len],s.nd,λi cW e=>?_⟩
 rw [List.getElem?_set] at e
 by_cases hij:n=i
 ·subst hij
  rw [zu rfl] at e
  split at e
  ·cases e
   obtain ⟨o',vs,h1,h2,h3⟩:=s.addr hs hn
   rw [ha] at h1
   cases h1
   exact ⟨a,hn,vs,yg,Rs.th ha xs h2,h3⟩
  ·cases e
 ·rw [zt hij] at e
  obtain ⟨b,hb,q⟩:=s.at_ i cW e
  have ne:b≠a:=by
   intro z
   subst z
   obtain ⟨h1,h2⟩:=zM.mp hn
   obtain ⟨h3,h4⟩:=zM.mp hb
   have pw:=List.pairwise_iff_getElem.mp s.nd
   rcases Nat.lt_trichotomy n i with c|c|c
   ·exact pw n i h1 h3 c (h2.trans h4.symm)
   ·exact hij c
   ·exact pw i n h3 h1 c (h4.trans h2.symm)
  exact ⟨b,hb,F1 ha ne q⟩
def Ext.thawed {af:Ae}{H':Hp}{w:HO}(ha:H a=some (.dK kvs)) (e:Ext ρ (upd H a (.frz o (.dK kvs))) af H'):Ext ρ H af (upd H' a w) :=
 ⟨e.pre,λb x h m=>by
  have ne:b≠a:=by intro z;subst z;rw [ha] at h;cases h;cases m
  rw [zw ne]
  exact e.imm b x (by rw [zw ne];exact h) m⟩
end
section
variable {X:Cx} {Er:XK} {pos:Pos} {o:Expr} {fo:Ai}
def kT {α:Type}(v:PV) (st:aj) (f:Nat->List Str->List PV->Res α):Res α:=match v with
 |.ref n=>yM st n λks xs=>f n ks xs
 |_=>.stuck
def dJ {α:Type}(n:Nat) (st:aj) (f:aj->Res α):Res α:=match st[n]? with
 |some (.fdi ks xs)=>f (st.set n (.dic ks xs))
 |_=>.stuck
def F2 {α:Type}{K:Frag}{mg:Ab}{ρ:Ae}{H:Hp}{st:aj}{v:PV}{k:Nat->List Str->List PV->Res α}{good:List Addr->Hp->α->aj->Prop}(h:Out K mg ρ H (kT v st k) good Er):∃n ks xs,v=.ref n/\st[n]?=some (.dic ks xs)/\Out K mg ρ H (k n ks xs) good Er:=by
 unfold kT at h
 split at h
 ·rename_i n
  obtain ⟨ks,xs,e,h⟩:=tR h
  exact ⟨n,ks,xs,rfl,e,h⟩
 ·exact h.elim
def F3 {α:Type}{K:Frag}{mg:Ab}{ρ:Ae}{H:Hp}{st:aj}{n:Nat}{k:aj->Res α}{good:List Addr->Hp->α->aj->Prop}(h:Out K mg ρ H (dJ n st k) good Er):∃ks xs,st[n]?=some (.fdi ks xs)/\Out K mg ρ H (k (st.set n (.dic ks xs))) good Er:=by
 unfold dJ at h
 split at h
 ·rename_i ks xs e;exact ⟨ks,xs,e,h⟩
 ·exact h.elim
def u7 {α β:Type}{K:Frag}{mg:Ab}{ρ:Ae}{H:Hp}{r:Res β}{f:β->Mo α}{good:List Addr->Hp->α->aj->Prop}(h:Out K mg ρ H ((cu r).bind f) good Er):∃x st,r=.ok x st/\Out K mg ρ H (f x st) good Er:=by
 cases r with
 |ok x st=>exact ⟨x,st,rfl,h⟩
 |err=>exact h.elim
 |stuck=>exact h.elim
def u9 {α β:Type}{r:Res β}{f:β->Mo α}{x:α}{st:aj}(h:(cu r).bind f=.ok x st):∃y aa,r=.ok y aa/\f y aa=.ok x st:=by
 cases r with
 |ok y aa=>exact ⟨y,aa,rfl,h⟩
 |err=>cases h
 |stuck=>cases h
def F4 {ks:Ad}{vs:List V}{i:Nat}{kv:Key×V}(h:(kz ks vs)[i]?=some kv):∃k,ks[i]?=some k/\kV kv.1=.str k:=by
 unfold kz at h
 rw [List.getElem?_zip_eq_some] at h
 obtain ⟨h1,_⟩:=h
 rw [wf] at h1
 cases hk:ks[i]? with
 |none=>rw [hk] at h1;cases h1
 |some k =>
  rw [hk] at h1
  have:kv.1=Sum.inr k:=(Option.some.inj h1).symm
  exact ⟨k,rfl,by rw [this];rfl⟩
def cf (fe:Ai) (env:zc):List PV->List PV->Mo (An)
 |[],ys,st=>.ok ys st
 |x::xs,ys,st=>(cu (fe (some x::env) st)).bind λy aa=>cf fe env xs (ys++[y]) aa
def ng (fo:Ai) (fe:Ai):Ai:=λenv st=>(fo env st).bind λv aa=>kT v aa λn ks xs =>
 (cu (cf fe env (ks.map PV.str) [] (aa.set n (.fdi ks xs)))).bind λys ak=>dJ n (ak++[.lst ys]) λaL=>.ok (.ref ak.length) aL
def F5 {elt:Expr} {x:Str} {px:Pos} {scope:Scope} {fe:Ai} {N:Ad} (hc:X.calm=true) (S:bw X.env.scope scope x) (eN:X.N=N) (bY:((".0" : Str)::x::N).Nodup)
  (ho:ME X Er o fo) (he:∀cl C ae ah fp,ME (ke X scope cl x C ae ah fp (λ_ _=>False)) XN elt fe)
  (hs:∀v,foldedSetIterable o X.env v=pure v:=by intro _;rfl):ME X Er (.ListComp elt [⟨.Name x px,o,[],0⟩] scope pos) (ng fo fe) :=
 PE.weak (FZ (sT (te:=tM X.K X.mg XN fe) hc S eN bY (FY ho) (λcl C ae ah fp=>he cl C ae ah fp) hs)) λU H Q ⟨env,st,ρ,re,rs,h⟩=>⟨env,st,ρ,re,rs,h.then λao H0 x c9 e0 s0 h0 v rv=>by
  obtain ⟨n,ks,xs,rfl,hn,h0⟩:=F2 h0
  obtain ⟨a,vs,rfl,ha,k1,k2,k3⟩:=R.refD s0 rv hn
  refine ⟨a,kz ks vs,rfl,k1,λob hz hy=>?_⟩
  obtain ⟨kU,aE,hr,h0⟩:=u7 h0
  obtain ⟨dv,bB,ht,h0⟩:=F3 h0
  have ew:Ext ao H0 ao (upd H0 a (.frz ob (.dK (kz ks vs)))):=Ext.write k1 rfl
  have hl:(kz ks vs).length=ks.length:=by simp [kz,k3]
  rw [hl] at hz
  refine ⟨λi m ys H=>m=ks.length-i/\i<=ks.length/\ys.length=i/\∃ps st ρ,Rs X.K X.mg ρ H ps ys/\aP X.K X.mg ρ H st/\Ext ao (upd H0 a (.frz ob (.dK (kz ks vs)))) ρ H/\cf fe env ((ks.map PV.str).drop i) ps st=.ok kU aE,
   ⟨ks.length,by simp,y1 _,rfl,[],_,ao,rfl,s0.write (so:=.fdi ks xs) ha ew ⟨ob,vs,yg,Rs.ext ew _ k2,k3⟩,Ext.refl,hr⟩,?_⟩
  rintro i m ys H ⟨rfl,hi,qh,ps,st,ρ,c4,rs,ex,h⟩
  have hf:H a=some (.frz ob (.dK (kz ks vs))):=ex.imm a _ yg rfl
  have qi:=ex.get ha
  by_cases aZ:i<ks.length
  ·refine .inr ⟨⟨hf,by rw [hl];exact aZ⟩,by omega,λv H' y=>?_⟩
   obtain ⟨rfl,kv,gF,rfl⟩:=y
   obtain ⟨k,hk,ev⟩:=F4 gF
   have hd:(ks.map PV.str).drop i=.str k::(ks.map PV.str).drop (i+1):=by
    rw [je (by simpa using aZ)]
    have:=(zM.mp hk).2
    simp [this]
   rw [hd] at h
   simp only [cf] at h
   obtain ⟨y,ak,qj,h⟩:=u9 h
   refine ⟨some (.str k)::env,st,ρ,(re.ext (e0.trans (ew.trans ex))).cons ev,rs,?_⟩
   rw [qj]
   exact λam H3 e3 s3 w cn=>⟨ks.length-(i+1),by omega,rfl,aZ,by simp [qh],ps++[y],ak,am,Rs.snoc cn (Rs.ext e3 ps c4),s3,ex.trans e3,h⟩
  ·have e:i=ks.length:=by omega
   subst e
   rw [iS (by simp)] at h
   cases h
   refine .inl ⟨⟨hf,by rw [hl];exact zG _⟩,by omega,λl eY=>?_⟩
   have ne:a≠l:=jv hf eY
   have gz:upd H l (.lst ys) a=some (.frz ob (.dK (kz ks vs))):=by rw [zw ne];exact hf
   have ep:Ext ρ H (ρ++[l]) (upd H l (.lst ys)):=Ext.push eY
   have s1:aP X.K X.mg (ρ++[l]) (upd H l (.lst ys)) (aE++[.lst kU]):=rs.push eY ⟨ys,yg,Rs.ext ep _ c4⟩
   exact ⟨a,ob,_,gz,hy,h0 (ρ++[l]) _ (Ext.thawed k1 (ex.trans ep)) (aP.thaw s1 (ep.get qi) gz ht) _ ⟨l,rfl,by rw [<-rs.len];simp⟩⟩⟩
end
section
variable {X:Cx} {Er:XK} {K:Frag} {mg:Ab} {pos p:Pos} {e f:Expr} {fk:Ai}
def cI:List PV->Option (List Bool)
 |[]=>some []
 |.bl b::r=>(cI r).map (b::·)
 |_::_=>none
theorem u_ {ρ:Ae}{H:Hp}:∀{xs:An}{bs:List Bool}{vs:List V},cI xs=some bs->Rs K mg ρ H xs vs->vs=bs.map V.bl
 |[],bs,vs,e,h=>by cases e;cases h;rfl
 |.bl i::r,bs,vs,e,h=>by
  simp only [cI,Option.map_eq_some_iff] at e
  obtain ⟨ir,e1,rfl⟩:=e
  obtain ⟨v,r',rfl,h1,h2⟩:=h
  cases h1
  rw [u_ e1 h2]
  rfl
 |.non::_,_,_,e,_=>by cases e
 |.int _::_,_,_,e,_=>by cases e
 |.str _::_,_,_,e,_=>by cases e
 |.ty _::_,_,_,e,_=>by cases e
 |.tup _::_,_,_,e,_=>by cases e
 |.frl _::_,_,_,e,_=>by cases e
 |.ref _::_,_,_,e,_=>by cases e
 |.fn _::_,_,_,e,_=>by cases e
 |.kd _ _::_,_,_,e,_=>by cases e
 |.exo _ _ _::_,_,_,e,_=>by cases e
theorem vc:∀bs:List Bool,cI (bs.map PV.bl)=some bs
 |[]=>rfl
 |b::bs=>by simp [cI,vc bs]
def jT:Al:=λvs st=>(wS vs st).bind λn st=>zK st n λxs=>match cI xs with
 |some bs=>.ok (.bl (bs.all id)) st
 |none=>.stuck
def F6 (hc:X.calm=true):cq X (.builtin "all") jT:=⟨_,Dt hc,fun ρ H st xs vs Q E s r h=>by
 obtain ⟨n,ys,rfl,hn,h⟩:=uC h
 obtain ⟨bB,iW,h⟩:=yV h
 obtain ⟨v,rfl,rv⟩:=r.one
 obtain ⟨a,rfl,ha⟩:=rv
 obtain ⟨ws,hH,hR⟩:=s.addr iW ha
 cases hi:cI bB with
 |none=>simp only [hi] at h;exact h.elim
 |some bs =>
  simp only [hi] at h
  have e:=u_ hi hR
  subst e
  exact ⟨a,bs,rfl,aS.of hH,Out.now (x:=PV.bl (bs.all id)) h s _ rfl⟩⟩
def F7:bootBuiltins "all" = some (.builtin "all"):=by decide +kernel
def wU:List ((Ai)×(Ai))->zc->Mo (List PV×List PV)
 |[],_,st=>.ok ([],[]) st
 |q::r,env,st=>(q.1 env st).bind λk aa=>(q.2 env aa).bind λx ak=>(wU r env ak).bind λz aL=>.ok (k::z.1,x::z.2) aL
inductive d4 (X:Cx) (Er:XK):List (Option Expr)->List Expr->List ((Ai)×(Ai))->Prop
 |nil:d4 X Er [] [] []
 |cons {k v:Expr} {fk fv:Ai} {ks:List (Option Expr)} {vs:List Expr} {fs:List ((Ai)×(Ai))} (hk:ME X Er k fk) (hv:ME X Er v fv) (hr:d4 X Er ks vs fs):d4 X Er (some k::ks) (v::vs) ((fk,fv)::fs)
def wV:d4 X Er [] [] []:=.nil
def wu {k v:Expr}{fk fv:Ai}{ks:List (Option Expr)}{vs:List Expr}{fs:List ((Ai)×(Ai))}(hk:ME X Er k fk) (hv:ME X Er v fv) (hr:d4 X Er ks vs fs):d4 X Er (some k::ks) (v::vs) ((fk,fv)::fs):=.cons hk hv hr
theorem d4.pps:∀{ks:List (Option Expr)}{vs:List Expr}{fs:List ((Ai)×(Ai))},d4 X Er ks vs fs->gv X pos ks vs (fs.map λq=>(tM X.K X.mg Er q.1,tM X.K X.mg Er q.2))
 |_,_,_,.nil=>sZ
 |_,_,_,.cons hk hv hr=>s8 hk hv hr.pps
def d4.len {ks:List (Option Expr)}{vs:List Expr}{fs:List ((Ai)×(Ai))}(h:d4 X Er ks vs fs):ks.length=vs.length/\ks.length=fs.length/\ks.all (·.isSome)=true:=by
 induction h with
 |nil=>exact ⟨rfl,rfl,rfl⟩
 |cons hk hv hr ih=>exact ⟨by simp [ih.1],by simp [ih.2.1],by simpa using ih.2.2⟩
theorem ql:∀{fs:List ((Ai)×(Ai))}{env:zc}{st:aj}{ρ:Ae}{H:Hp}{U:L2.St}{Q:List (V×V)->Hp->Prop},aU K mg ρ H env U->aP K mg ρ H st ->
  Out K mg ρ H (wU fs env st) (λaf H' q aE=>q.1.length=fs.length->q.2.length=fs.length->∀ks vs,Rs K mg af H' q.1 ks->Rs K mg af H' q.2 vs->Q (ks.zip vs) H') Er->hV (fs.map λq=>(tM K mg Er q.1,tM K mg Er q.2)) U H Q
 |[],env,st,ρ,H,U,Q,re,rs,h=>h.now rs rfl rfl [] [] rfl rfl
 |f::fs,env,st,ρ,H,U,Q,re,rs,h=>by
  refine ⟨env,st,ρ,re,rs,Out.then h λad H1 k aa e1 s1 h1 v rv=>?_⟩
  refine ⟨env,aa,ad,re.ext e1,s1,Out.then h1 λap H2 x ak e2 s2 h2 u ru=>?_⟩
  refine ql (env:=env) (st:=ak) (ρ:=ap) ((re.ext e1).ext e2) s2 (Out.then h2 λam H3 z aL e3 s3 h3 l1 l2 ks vs rk ky=>?_)
  exact h3.now s3 (by simp [l1]) (by simp [l2]) (v::ks) (u::vs) ⟨v,ks,rfl,R.ext e3 k (R.ext e2 k rv),rk⟩ ⟨u,vs,rfl,R.ext e3 x ru,ky⟩
def dM:List PV->Option (Ad)
 |[]=>some []
 |.str z::r=>(dM r).map (z::·)
 |_::_=>none
theorem vd {ρ:Ae}{H:Hp}:∀{xs:An}{zs:Ad}{vs:List V},dM xs=some zs->Rs K mg ρ H xs vs->vs=zs.map V.str
 |[],bs,vs,e,h=>by cases e;cases h;rfl
 |.str i::r,bs,vs,e,h=>by
  simp only [dM,Option.map_eq_some_iff] at e
  obtain ⟨ir,e1,rfl⟩:=e
  obtain ⟨v,r',rfl,h1,h2⟩:=h
  cases h1
  rw [vd e1 h2]
  rfl
 |.non::_,_,_,e,_=>by cases e
 |.int _::_,_,_,e,_=>by cases e
 |.bl _::_,_,_,e,_=>by cases e
 |.ty _::_,_,_,e,_=>by cases e
 |.tup _::_,_,_,e,_=>by cases e
 |.frl _::_,_,_,e,_=>by cases e
 |.ref _::_,_,_,e,_=>by cases e
 |.fn _::_,_,_,e,_=>by cases e
 |.kd _ _::_,_,_,e,_=>by cases e
 |.exo _ _ _::_,_,_,e,_=>by cases e
def iB (fs:List ((Ai)×(Ai))):Ai:=λenv st=>(wU fs env (st++[.dic [] []])).bind λq aa=>match dM q.1 with
 |some zs=>if cH aa[st.length]?=true then .ok (.ref st.length) (aa.set st.length (.dic (jI (zs.zip q.2) [] []).1 (jI (zs.zip q.2) [] []).2)) else .stuck
 |none=>.stuck
def zfH {keys:List (Option Expr)}{values:List Expr}{fs:List ((Ai)×(Ai))}(h:d4 X Er keys values fs) (h0:keys≠[]) (fj:keys.length<=15):ME X Er (.Dict keys values pos) (iB fs):=by
 obtain ⟨l1,l2,l4⟩:=h.len
 exact PE.weak (tj h.pps l4 l1 h0 fj) λU H Q ⟨env,st,ρ,re,rs,ho⟩=>λp hp=>by
  have e0:Ext ρ H (ρ++[p]) (upd H p (.dK [])):=Ext.push hp
  have s0:aP X.K X.mg (ρ++[p]) (upd H p (.dK [])) (st++[.dic [] []]):=rs.push hp ⟨[],yg,rfl,rfl⟩
  have kJ:(ρ++[p])[st.length]?=some p:=by rw [<-rs.len];simp
  refine ql (re.ext e0) s0 (Out.then (Out.ext ho e0) λad H1 q aa e1 s1 h1 lk lv us vs ru rv=>?_)
  cases hk:dM q.1 with
  |none=>simp only [hk] at h1;exact h1.elim
  |some zs =>
   simp only [hk] at h1
   have eu:=vd hk ru
   subst eu
   obtain ⟨c,h1⟩:=Out.ifp h1
   have hd:=p9 c
   have eK:=e1.get kJ
   obtain ⟨ws,k1,k2,k3⟩:=s1.addr hd eK
   have ew:ws=[]:=by cases ws with|nil=>rfl|cons=>simp at k3
   subst ew
   have lz:zs.length=fs.length:=by have:=ru.len;simpa [lk] using this.symm
   refine ⟨k1,(zs.map Sum.inr:List Key).zip vs,p_,by rw [List.length_zip,jL];omega,?_⟩
   have eq:Ext ad H1 ad (upd H1 p (.dK (cE [] ((zs.map Sum.inr:List Key).zip vs)))):=Ext.write k1 rfl
   obtain ⟨us,q1,q2,q3⟩:=p7 (K:=X.K) (mg:=X.mg) (zs:=zs) (ks:=[]) (xs:=[]) (vs:=[]) rv rfl rfl
   exact h1 ad _ eq (s1.write eK eq ⟨us,by rw [yg];exact congrArg (λt=>some (HO.dK t)) q1,Rs.ext eq _ q2,q3⟩) _ ⟨p,rfl,eK⟩
end
section
variable {α:Type} {env:zc} {st:aj} {fa fo:Ai}
def F8 {n:Nat}{ks:Ad}{xs:An}(h:st[n]?=some (.dic ks xs)) (k:List Str->List PV->Res α):yM st n k=k ks xs:=by unfold yM;rw [h]
def F9 {n:Nat}{xs:An}(h:st[n]?=some (.lst xs)):wS [.ref n] st=.ok n st:=by
 show zK st n _=_
 rw [ye h]
def kW {n:Nat}{bs:List Bool}(h:st[n]?=some (.lst (bs.map PV.bl))):jT [.ref n] st=.ok (.bl (bs.all id)) st:=by
 unfold jT
 rw [F9 h]
 simp only [zB]
 rw [ye h,vc]
@[simp] def F_ (n:Nat) (f:Nat->List Str->List PV->Res α):kT (.ref n) st f=yM st n λks xs=>f n ks xs:=(rfl)
@[simp] def Ga:ng fo fa env st=(fo env st).bind λv aa=>kT v aa λn ks xs=>(cu (cf fa env (ks.map PV.str) [] (aa.set n (.fdi ks xs)))).bind λys ak=>dJ n (ak++[.lst ys]) λaL=>.ok (.ref ak.length) aL:=(rfl)
def Gb {n:Nat}{ks:Ad}{xs:An}(h:st[n]?=some (.fdi ks xs)) (f:aj->Res α):dJ n st f=f (st.set n (.dic ks xs)):=by unfold dJ;rw [h]
end
end Mi
namespace Mi
open PySem L2 PySem.W
section
variable {g g':Aj} {f fa fb:Ai} {fs:Ah} {t ta tb:Ak} {e e1:zc} {st s1 s2 s3:aj} {x y v:PV} {xs:An} {b:Bool}
def zL {X:Res Fl}(h:g e st=.ok (.nx e1) s1) (h':g' e1 s1=X):zx g g' e st=X:=by rw [ig,h,zB,mV,h']
def yp {i:Nat}(h:f e st=.ok v s1):zD i f e st=.ok (.nx (e.set i (some v))) s1:=by rw [kH,h,zB]
def Ge (h:f e st=.ok v s1):yN f e st=.ok (.nx e) s1:=by rw [E5,h,zB]
def wW (h:f e st=.ok v s1):zQ f e st=.ok (.rt v) s1:=by rw [pT,h,zB]
def kX {X:Res Fl}(h:t e st=.ok true s1) (h':g e s1=X):zX t g g' e st=X:=by rw [pU,h,zB,zu rfl,h']
def wv {X:Res Fl}(h:t e st=.ok false s1) (h':g' e s1=X):zX t g g' e st=X:=by rw [pU,h,zB,zt (by simp),h']
def wX (h:t e st=.ok false s1):zX t g yu e st=.ok (.nx e) s1:=wv h (uh ..)
def zr {i:Nat}(h:e[i]?=some (some v)):zd i e st=.ok v st:=by rw [jr,h]
def zA {op:Am}{X:Res PV}(h:fa e st=.ok x s1) (h':fb e s1=.ok y s2) (h2:op x y s2=X):zg op fa fb e st=X:=by rw [wQ,h,zB,h',zB,h2]
def z0 {m:Al}{X:Res PV}(h:fs e st=.ok xs s1) (h2:m xs s1=X):zo m fs e st=X:=by rw [ie,h,zB,h2]
def yi (h:f e st=.ok x s1) (h':fs e s1=.ok xs s2):ze f fs e st=.ok (x::xs) s2:=by rw [wR,h,zB,h',zB]
def ni:zk e st=.ok [] st:=(rfl)
def yj (h:f e st=.ok x s1):ze f zk e st=.ok [x] s1:=yi h ni
def yz (h:f e st=.ok x s1) (h':fa e s1=.ok y s2):ze f (ze fa zk) e st=.ok [x,y] s2:=yi h (yj h')
def j4 (h:fs e st=.ok xs s1) (hl:xs.length<=1000000):yB fs e st=.ok (.tup xs) s1:=by rw [E1,h,zB,zu hl]
def qm (h:fs e st=.ok xs s1) (hl:xs.length<=1000000):jh fs e st=.ok (.ref s1.length) (s1++[.lst xs]):=by rw [E2,h,zB,zu hl]
def yb (h:f e st=.ok (.bl b) s1):mB f e st=.ok b s1:=by rw [EY,h,zB,pS]
def iC (h:ta e st=.ok false s1):yT ta tb e st=.ok false s1:=by rw [ue,h,zB,zt (by simp)]
def j5 (h:ta e st=.ok true s1) (h':tb e s1=.ok b s2):yT ta tb e st=.ok b s2:=by rw [ue,h,zB,zu rfl,h']
def iD (h:ta e st=.ok b s1):yU ta e st=.ok (!b) s1:=by rw [EZ,h,zB]
def nj {X:Res PV}(h:fa e st=.ok (.bl true) s1) (h':fb e s1=X):jo fa fb e st=X:=by rw [uf,h,zB,pS,zB,zu rfl,h']
def ve {lo hi:Option Int}{fl fu:zc->Mo (Option Int)}{X:Res PV}(h:fa e st=.ok x s1) (hl:fl e s1=.ok lo s2) (hu:fu e s2=.ok hi s3) (h':j1 x lo hi s3=X):yI fa fl fu e st=X:=by rw [ug,h,zB,hl,zB,hu,zB,h']
def vf {i:Int}(h:f e st=.ok (.int i) s1):bf f e st=.ok (some i) s1:=by rw [E3,h,zB,E4]
def vg:ba e st=.ok none st:=(rfl)
def Gf {op:Am}{n:Nat}{ys:An}{X:Res PV}(h:fa e st=.ok (.ref n) s1) (hl:s1[n]?=some (.lst ys)) (h':fb e s1=.ok y s2) (h2:op (.ref n) y s2=X):yK op fa fb e st=X:=by
 rw [E_,h,zB,Fb]
 simp only [zK,hl,zB]
 rw [h',zB,h2]
def kY (i j:Int):zS (.int i) (.int j) st=.ok (.int (i+j)) st:=(rfl)
def qo (i j:Int):yW (.int i) (.int j) st=.ok (.int (i-j)) st:=(rfl)
def jm (i j:Int) (h:j≠0):zJ (.int i) (.int j) st=.ok (.int (zI i j)) st:=by show (if _ then _ else _)=_;rw [zu (by simpa using h)]
def iE (i j:Int) (h:j≠0) (h2:j.natAbs<2 ^ 200):yh (.int i) (.int j) st=.ok (.int (zY i j)) st:=by
 show (if _ then _ else _)=_
 rw [zu]
 simp only [cZ,yA,wE]
 exact ⟨h,h2⟩
def qp (i j:Int):jD (.int i) (.int j) st=.ok (.bl (decide (i<j))) st:=(rfl)
def qq (i j:Int):ji (.int i) (.int j) st=.ok (.bl (decide (i<=j))) st:=(rfl)
def yZ (i j:Int):yy (.int i) (.int j) st=.ok (.bl (decide (i=j))) st:=by simp [Mi.plain,dep,bo];rfl
def iF {m:Nat}{n:Nat}{r:aj}(hl:xs.length=m) (h:g (xs.map some++List.replicate (n-m) none) st=.ok (.rt v) r):zE m n g xs st=.ok v r:=by
 unfold zE
 rw [zu hl,h,zB,E6]
end
end Mi
namespace Mi
open PySem L2 PySem.W PySem.Spec
def vh:Expr->Bool
 |.Starred _ _=>false
 |_=>true
def Gg {e:Expr}{es:List Expr}{env:Env}(h:vh e=true):Fp e es env:=by cases e<;>first|rfl|cases h
def zj {X:Cx}{Er:XK}{e:Expr}{es:List Expr}{fa:Ai}{fs:Ah}(ha:ME X Er e fa) (hr:MA X Er es fs) (hs:vh e=true:=by rfl):MA X Er (e::es) (ze fa fs):=D4 ha hr (Gg hs)
end Mi
namespace L2
open PySem PySem.Spec PyProof.Rows PySem.W
structure Gi (K:Frag) (C B:Addr):Prop where
 of:tH K C
 sub:mroIn K C (.ref B)=some true
end L2
namespace L2
open PySem PySem.Spec PyProof.Rows PySem.W Mi
section
variable {X:Cx} {pins:Ac} {U:St} {H:Hp} {s:Shared} {b:Addr} {k:List Key} {r:Value}
def vi (I:Inv X pins U H s) (h:bg X.K H b (k.map kV)):(tupleKind (av X.prog X.w)).is s.heap k b:=by
 obtain ⟨us,r,⟨o,h1,h2,n,h3⟩,_⟩:=I.tuple h
 exact ⟨o,us.toArray,n,h1,h2,h3,by simpa using oZ r⟩
end
end L2
namespace Mi
open PySem L2 PySem.W PySem.Spec
section
variable {K:Frag} {mg:Ab} {ρ:Ae} {H:Hp}
def Gj:PV->Option Key
 |.int i=>some (.inl i)
 |.str z=>some (.inr z)
 |_=>none
def fW:List PV->Option (List Key)
 |[]=>some []
 | x::r=>match Gj x,fW r with
  |some k,some l=>some (k::l)
  |_,_=>none
theorem qr:∀{xs:An}{vs:List V}{k:List Key},Rs K mg ρ H xs vs->fW xs=some k->vs=k.map kV
 |[],vs,k,r,h=>by cases h;cases r;rfl
 |x::xs,vs,k,r,h=>by
  obtain ⟨v,ws,rfl,h1,h2⟩:=r
  unfold fW at h
  split at h
  ·rename_i k0 l hk hl
   cases h
   rw [qr h2 hl,ym]
   congr 1
   cases x with
   |int i=>cases hk;exact h1
   |str z=>cases hk;exact h1
   |_=>cases hk
  ·cases h
end
end Mi
namespace PySem
def Heap.IsRevT (h:Heap) (a l:Addr) (i:Int):Prop:=∃o,h.get? a=some o/\o.cls=.type "reversed" /\ o.data=.fields #[.ref l,rawInt i]
section
open PyProof.Rows
def Heap.IsRevT.at {h h':Heap}{a l:Addr}{i:Int}(x:h.IsRevT a l i) (e:∀o,h.get? a=some o->h'.get? a=some o):h'.IsRevT a l i:=let ⟨o,ho,r⟩:=x;⟨o,e _ ho,r⟩
end
end PySem
namespace Mi
open PySem L2 PySem.W PySem.Spec
section
variable {X:Cx} {K:Frag} {mg:Ab} {a:Expr}
inductive kZ (K:Frag) (H:Hp):V->Value->Prop where
 |of {v:V} {t:Value} (h:bX K H v t):kZ K H v t
 |tup {a:Addr} {vs:List V} (h:bg K H a vs):kZ K H (.ref a) (.type "tuple")
 |odd {a b:Addr} {c:OC} {us:Af} {ep:Nat} (h:H a=some (oE a c b us ep)):kZ K H (.ref a) (.type "dict")
def eD:bH X (.builtin "isinstance") (λxs H Q=>∃v w t c b,xs=[v,w]/\kZ X.K H v t/\RelV w c/\(∀c',RelV w c'->c'=c)/\kitOne X.K t c=some b/\Q (.bl b) H):=by
 intro pins s U H xs us Q I r h
 obtain ⟨v,w,t,c,b,rfl,ty,rw,un,e,q⟩:=h
 obtain ⟨u,w',rfl,ru,cn⟩:=ma r
 obtain rfl:=un w' cn
 have h:∀tk,EP X pins U Q (.bool b) { s with toks:=tk }:=λtk=>⟨.bl b,H,I.tok _,rfl,q⟩
 cases ty with
 |of ty=>exact rV I ru ty e h
 |@tup a vs hq =>
  obtain rfl:u=Value.ref a:=ru
  obtain ⟨its,_,p,_⟩:=I.tuple hq
  obtain ⟨o,h1,h2,_⟩:=p
  exact PySem.W.kia_one PySem.W.kitx_tuple I.kIn ⟨o,h1,h2⟩ e (λz=>nomatch z) h
 |@odd a b c us ep hq =>
  obtain rfl:u=Value.ref a:=ru
  obtain ⟨⟨_,o,es,h1,h2,_⟩,_⟩:=(show aM X.prog X.w H s.heap a (oE a c b us ep) from I.hok a _ hq)
  exact PySem.W.kia_one PySem.W.kitx_dict I.kIn ⟨o,h1,h2.1⟩ e (λz=>nomatch z) h
def qt:Option SO->Option String
 |some (.dic _ _)=>some "dict"
 |some (.lst _)=>some "list"
 |some (.odd _ _)=>some "dict"
 |_=>none
def tyP (st:aj):PV->Option String
 |.non=>some "NoneType"
 |.bl _=>some "bool"
 |.int _=>some "int"
 |.str _=>some "str"
 |.tup _=>some "tuple"
 |.ref n=>qt st[n]?
 |_=>none
def Gk {ρ:Ae}{H:Hp}{st:aj}{x:PV}{v:V}{T:String}(s:aP K mg ρ H st) (r:R K mg ρ H x v) (h:tyP st x=some T):kZ K H v (.type T):=by
 cases x with
 |non=>cases h;cases r;exact .of .non
 |bl b=>cases h;cases r;exact .of (.bl b)
 |int i=>cases h;cases r;exact .of (.int i)
 |str z=>cases h;cases r;exact .of (.str z)
 |tup xs=>cases h;obtain ⟨a,vs,rfl,h1,_⟩:=r;exact .tup h1
 |ref n =>
  obtain ⟨a,rfl,ha⟩:=r
  have h:qt st[n]?=some T:=h
  cases e:st[n]? with
  |none=>rw [e] at h;cases h
  |some so =>
   rw [e] at h
   cases so with
   |lst xs=>cases h;obtain ⟨vs,h1,_⟩:=s.addr e ha;exact .of (.lst h1)
   |dic ks xs=>cases h;obtain ⟨vs,h1,_⟩:=s.addr e ha;exact .of (.dK h1)
   |odd c xs=>cases h;obtain ⟨b,us,ep,vs,h1,_⟩:=s.addr e ha;exact .odd h1
   |_=>cases h
 |_=>cases h
def yq:Al
 | [x,.ty n],st=>match tyP st x with
  |some T=>fU (bj T n) st
  |none=>.stuck
 |_,_=>.stuck
def jJ:cq X (.builtin "isinstance") yq:=⟨_,eD,fun ρ H st xs vs Q E s r h=>by
 unfold yq at h
 split at h
 ·rename_i x n
  obtain ⟨v,w,rfl,rx,ry⟩:=Rs.two r
  cases hc:tyP st x with
  |none=>rw [hc] at h;exact h.elim
  |some T =>
   rw [hc] at h
   cases ry
   obtain ⟨b,hb,h⟩:=Eu h
   exact ⟨v,_,_,_,b,rfl,Gk s rx hc,rfl,λc' h=>h,Ep X.K hb,h.now s _ rfl⟩
 ·exact h.elim⟩
end
end Mi
namespace L2
open PySem PySem.Spec PyProof.Rows PySem.W
section
variable {P:Program} {w:World} {K:PySem.W.Frag} {mg:Ab} {base:Heap}
structure Kf (P:Program) (w:World) (K:PySem.W.Frag) (mg:Ab) (base:Heap) (k:Nat) (f:Addr) (fd:FuncData) (ps:Ad) (sp:Sp):Prop where
 len:∀vs H Q,sp vs H Q E0->vs.length=ps.length
 run:∀(A:Around) (a:Addr) (outer:List Env) (s:Shared) (H:Hp) (args:Args) (us:Af) (vs:List V) (Q:VK),bh k A->fH P w K mg base A outer s H->BindsTo s fd args (ps.zip us)->Vals vs us->sp vs H Q E0 ->
  codeAny (model P w) (A.mark (some (.ref a))) (.call (.ref f) args) (CR oJ outer P w H s Q E0) s
end
section
variable {prog:Program} {w:World} {A:Around} {E:Aa} {s:Shared} {d it v:Addr} {es:Array DictEntry} {ep i:Nat}
def aY (h:Heap) (d:Addr) (es:Array DictEntry) (ep:Nat):Prop:=∃o,h.get? d=some o/\o.ExactDict/\o.data=.dict es ep
def aY.ty (r:aY s.heap d es ep):s.TypeIs (.ref d) "dict" := let ⟨o,a,b,_⟩:=r;⟨o,a,b.1⟩
def aY.move {h h':Heap}(r:aY h d es ep) (e:∀o,h.get? d=some o->h'.get? d=some o):aY h' d es ep:=let ⟨o,a,b⟩:=r;⟨o,e o a,b⟩
def aY.lt {h:Heap}(r:aY h d es ep):d<h.objs.size:=let ⟨_,a,_⟩:=r;zP a
def Gm {Q:Aa}(lo:(d==sysModules)=false) (r:aY s.heap d es ep)
  (q:Q (.ref s.heap.objs.size) { s with heap:=s.heap.push { cls:=.type "dict_keyiterator", data:=.fields #[.ref d,.int 0 0,.int es.size 0,.int ep 0] } }):wpAny (model prog w) A (pyIter (.ref d)) Q E s:=by
 have t:=r.ty
 obtain ⟨o,g,x,y⟩:=r
 refine wpAny_pyIter_slot t F.slot_dict_iter (jA F.slot_dict_iter t F.entry_dict_iter ?_ (F.args_dict_iter_1 _));unfold Builtin.«dict.__iter__»
 refine zf ?_;unfold Builtin.Dict.dictSlotNone
 refine zf (wpAny_notOrdered_dict t ?_);show wpAny _ _ (pure (Value.ref d)) _ _ s
 refine zn ?_;show wpAny _ _ (Builtin.Dict.showsAll d >>= _) _ _ s
 unfold Builtin.Dict.showsAll;rw [zt (by rw [lo];exact Bool.false_ne_true)]
 refine zf (zn (zf (wpAny_dictEntries g y (zf (wpAny_dictEpoch g y (zf (jd (zn ⟨_,rfl,"dict_keyiterator", _,⟨_,yw _ rfl,rfl⟩,F.slot_dict_keyiterator_next.lookup,?_⟩))))))))
 simpa [rawInt] using q
def Gn {Q:Option Value->Shared->Prop}(hit:s.heap.IsKeyIter it d i es.size ep) (r:aY s.heap d es ep) (hi:i<es.size)
  (q:∀h',h'.IsKeyIter it d (i+1) es.size ep->Heap.SameBut it s.heap h'->Q (some (es[i]'hi).key) { s with heap:=h' }):wpAny (model prog w) A (pyNext (.ref it)) Q E s:=by
 obtain ⟨o,g,c,y⟩:=id hit
 obtain ⟨od,gd,_,yd⟩:=r
 unfold pyNext
 refine zf (wpAny_attempt (wpAny_callSpecial?_slot (name:=Str.ofString "__next__") hit.typeIs F.slot_dict_keyiterator_next (jA F.slot_dict_keyiterator_next hit.typeIs F.entry_dict_keyiterator_next ?_ (F.args_dict_keyiterator_next_1 _))))
 refine zf (zn (zf (zf ?_)))
 first|refine zf (wpAny_typeNameOfWhole_keyiter hit.typeIs (zn (zf (wpAny_fieldsOf g y ?_))))|refine zf (wpAny_typeNameOf_keyiter hit.typeIs (zn (zf (wpAny_fieldsOf g y ?_))))
 simp only [show Builtin.Dict_items.ownsTuple "dict_keyiterator" = false by decide,Bool.false_eq_true,yG]
 show wpAny _ _ (if (Value.ref d==Value.none)=true then _ else _) _ _ s;rw [zt (show ¬((Value.ref d==Value.none)=true) from Bool.false_ne_true)]
 refine zf (zn (zf (wpAny_dictEntries gd yd ?_)))
 rw [zt (by simp)]
 refine zf (zn (zf (wpAny_dictEpoch gd yd ?_)))
 rw [zt (by simp)]
 refine zn ?_
 simp only [show ¬((i:Int)<0) by omega,yG,Int.toNat_natCast,Array.getElem?_eq_getElem hi]
 refine zf ?_
 first|refine zf (wpAny_typeNameOfWhole_keyiter hit.typeIs (zn (zf (wpAny_isOneOf_keyiter hit.typeIs ?_))))|refine zf (wpAny_typeNameOf_keyiter hit.typeIs (zn (zf (wpAny_isOneOf_keyiter hit.typeIs ?_))))
 show wpAny _ _ (setField (.ref it) 1 (rawInt ((i:Int)+1)) >>= _) _ _ s;refine zf (wpAny_setField g y (by simp) ?_)
 have n1:(s.heap.update it (Obj.mapFields (·.setIfInBounds 1 (rawInt ((i:Int)+1))))).IsKeyIter it d (i+1) es.size ep:=⟨_,Heap.get?_update_self _ g (Obj.isFreed_of_fields (Obj.data_mapFields y _)),(Obj.cls_mapFields ..).trans c,by rw [Obj.data_mapFields y];simp [rawInt]⟩
 refine zf (jn (zf (wpAny_isOneOf_keyiter (s:={ s with heap:=s.heap.update it (Obj.mapFields (·.setIfInBounds 1 (rawInt ((i:Int)+1)))) }) n1.typeIs ?_)))
 exact zn (zn ⟨_,rfl,zn (q _ n1 (Heap.SameBut.update ..))⟩)
def Gp {Q:Option Value->Shared->Prop}(hh:A.handled=none) (hit:s.heap.IsKeyIter it d i es.size ep) (r:aY s.heap d es ep) (hi:es.size<=i)
  (q:∀h',Heap.ExtBut it s.heap h'->Q none { s with heap:=h' }):wpAny (model prog w) A (pyNext (.ref it)) Q E s:=by
 obtain ⟨o,g,c,y⟩:=id hit
 obtain ⟨od,gd,_,yd⟩:=r
 unfold pyNext
 refine zf (wpAny_attempt (wpAny_callSpecial?_slot (name:=Str.ofString "__next__") hit.typeIs F.slot_dict_keyiterator_next (jA F.slot_dict_keyiterator_next hit.typeIs F.entry_dict_keyiterator_next ?_ (F.args_dict_keyiterator_next_1 _))))
 refine zf (zn (zf (zf ?_)))
 first|refine zf (wpAny_typeNameOfWhole_keyiter hit.typeIs (zn (zf (wpAny_fieldsOf g y ?_))))|refine zf (wpAny_typeNameOf_keyiter hit.typeIs (zn (zf (wpAny_fieldsOf g y ?_))))
 simp only [show Builtin.Dict_items.ownsTuple "dict_keyiterator" = false by decide,Bool.false_eq_true,yG]
 show wpAny _ _ (if (Value.ref d==Value.none)=true then _ else _) _ _ s;rw [zt (show ¬((Value.ref d==Value.none)=true) from Bool.false_ne_true)]
 refine zf (zn (zf (wpAny_dictEntries gd yd ?_)))
 rw [zt (by simp)]
 refine zf (zn (zf (wpAny_dictEpoch gd yd ?_)))
 rw [zt (by simp)]
 refine zn ?_
 simp only [show ¬((i:Int)<0) by omega,yG,Int.toNat_natCast,Array.getElem?_eq_none hi]
 refine zf ?_
 first|refine zf (wpAny_typeNameOfWhole_keyiter hit.typeIs (zn ?_))|refine zf (wpAny_typeNameOf_keyiter hit.typeIs (zn ?_))
 show wpAny _ _ (setField (.ref it) 0 .none >>= _) _ _ s;refine zf (wpAny_setField g y (by simp) ?_)
 show wpAny _ _ (newExc (.type "StopIteration") [] >>= _) _ _ _;refine zf ?_
 simp only [newExc,newTuple];refine zf (jd ?_ (by size_fits))
 refine zf (m:=firstArgMember _ _) (wpAny_of_eq (a:=Value.none) (by first|rfl|(simp only [firstArgMember];rfl)) (jd ?_ (by size_fits)))
 simp only [raiseNew];refine zf (wpAny_handled ?_)
 rw [show A.in1.handled=none from hh];refine zf (zn (wpAny_throw ?_));refine zf (wpAny_isInstance (T := "StopIteration") (b:=true) ⟨_,yw _ rfl,rfl⟩ isSubtype_stop ?_)
 exact zn (q _ (((Heap.SameBut.update ..).extBut.push _).push _))
def Gq (d:Addr) (lo:(d==sysModules)=false):MeetsIn prog w (Builtin.«dict.values» ⟨[.ref d],[]⟩) (λ_ R s=>(∃es ep,aY s.heap d es ep)/\R (.ok (.ret (.ref s.heap.objs.size))) { s with heap:=s.heap.push { cls:=.type "dict_values", data:=.fields #[.ref d] } }) :=
 .of_wp λA R s ⟨⟨es,ep,r⟩,h⟩=>by
  refine zf ?_;unfold Builtin.Dict.noArgs
  refine zf (wpAny_notOrdered_dict r.ty ?_);show wpAny _ _ (pure d) _ _ s
  refine zn ?_;show wpAny _ _ (Builtin.Dict.showsAll d >>= _) _ _ s
  unfold Builtin.Dict.showsAll;rw [zt (by rw [lo];exact Bool.false_ne_true)]
  exact zf (zn (zf (jd (zn ⟨_,rfl,h⟩))))
def Gr {Q:Aa}(hv:s.heap.IsValuesView v d) (r:aY s.heap d es ep)
  (q:Q (.ref s.heap.objs.size) { s with heap:=s.heap.push { cls:=.type "dict_valueiterator", data:=.fields #[.ref d,.int 0 0,.int es.size 0,.int ep 0] } }):wpAny (model prog w) A (pyIter (.ref v)) Q E s:=by
 obtain ⟨ov,Gs,_,Gu⟩:=id hv
 obtain ⟨o,g,x,y⟩:=r
 refine wpAny_pyIter_slot hv.typeIs F.slot_dict_values_iter (jA F.slot_dict_values_iter hv.typeIs F.entry_dict_values_iter ?_ (F.args_dict_values_iter_1 _));unfold Builtin.«dict_values.__iter__»
 refine zf (zn (zf ?_));unfold Builtin.Dict_items.dictOf
 refine zf (jz Gs Gu (x:=.ref d) rfl (zn (zf ?_)));unfold Builtin.Dict_items.newIterator
 refine zf (wpAny_dictEntries g y (zf (wpAny_dictEpoch g y ?_)))
 simp only [show Builtin.Dict_items.ownsTuple "dict_valueiterator" = false by decide,Bool.false_eq_true,yG]
 refine jd (zn ⟨_,rfl,"dict_valueiterator", _,⟨_,yw _ rfl,rfl⟩,F.slot_dict_valueiterator_next.lookup,?_⟩);simpa [rawInt] using q
def Gv {Q:Option Value->Shared->Prop}(hit:s.heap.IsValIter it d i es.size ep) (r:aY s.heap d es ep) (hi:i<es.size)
  (q:∀h',h'.IsValIter it d (i+1) es.size ep->Heap.SameBut it s.heap h'->Q (some (es[i]'hi).val) { s with heap:=h' }):wpAny (model prog w) A (pyNext (.ref it)) Q E s:=by
 obtain ⟨o,g,c,y⟩:=id hit
 obtain ⟨od,gd,_,yd⟩:=r
 unfold pyNext
 refine zf (wpAny_attempt (wpAny_callSpecial?_slot (name:=Str.ofString "__next__") hit.typeIs F.slot_dict_valueiterator_next (jA F.slot_dict_valueiterator_next hit.typeIs F.entry_dict_valueiterator_next ?_ (F.args_dict_valueiterator_next_1 _))))
 refine zf (zn (zf (zf ?_)))
 first|refine zf (wpAny_typeNameOfWhole_valiter hit.typeIs (zn (zf (wpAny_fieldsOf g y ?_))))|refine zf (wpAny_typeNameOf_valiter hit.typeIs (zn (zf (wpAny_fieldsOf g y ?_))))
 simp only [show Builtin.Dict_items.ownsTuple "dict_valueiterator" = false by decide,Bool.false_eq_true,yG]
 show wpAny _ _ (if (Value.ref d==Value.none)=true then _ else _) _ _ s;rw [zt (show ¬((Value.ref d==Value.none)=true) from Bool.false_ne_true)]
 refine zf (zn (zf (wpAny_dictEntries gd yd ?_)))
 rw [zt (by simp)]
 refine zf (zn (zf (wpAny_dictEpoch gd yd ?_)))
 rw [zt (by simp)]
 refine zn ?_
 simp only [show ¬((i:Int)<0) by omega,yG,Int.toNat_natCast,Array.getElem?_eq_getElem hi]
 refine zf ?_
 first|refine zf (wpAny_typeNameOfWhole_valiter hit.typeIs (zn (zf (wpAny_isOneOf_valiter hit.typeIs ?_))))|refine zf (wpAny_typeNameOf_valiter hit.typeIs (zn (zf (wpAny_isOneOf_valiter hit.typeIs ?_))))
 show wpAny _ _ (setField (.ref it) 1 (rawInt ((i:Int)+1)) >>= _) _ _ s;refine zf (wpAny_setField g y (by simp) ?_)
 have n1:(s.heap.update it (Obj.mapFields (·.setIfInBounds 1 (rawInt ((i:Int)+1))))).IsValIter it d (i+1) es.size ep:=⟨_,Heap.get?_update_self _ g (Obj.isFreed_of_fields (Obj.data_mapFields y _)),(Obj.cls_mapFields ..).trans c,by rw [Obj.data_mapFields y];simp [rawInt]⟩
 refine zf (jn (zf (wpAny_isOneOf_valiter (s:={ s with heap:=s.heap.update it (Obj.mapFields (·.setIfInBounds 1 (rawInt ((i:Int)+1)))) }) n1.typeIs (zf (wpAny_isOneOf_valiter (s:={ s with heap:=s.heap.update it (Obj.mapFields (·.setIfInBounds 1 (rawInt ((i:Int)+1)))) }) n1.typeIs ?_)))))
 exact zn (zn ⟨_,rfl,zn (q _ n1 (Heap.SameBut.update ..))⟩)
def Gw {Q:Option Value->Shared->Prop}(hh:A.handled=none) (hit:s.heap.IsValIter it d i es.size ep) (r:aY s.heap d es ep) (hi:es.size<=i)
  (q:∀h',Heap.ExtBut it s.heap h'->Q none { s with heap:=h' }):wpAny (model prog w) A (pyNext (.ref it)) Q E s:=by
 obtain ⟨o,g,c,y⟩:=id hit
 obtain ⟨od,gd,_,yd⟩:=r
 unfold pyNext
 refine zf (wpAny_attempt (wpAny_callSpecial?_slot (name:=Str.ofString "__next__") hit.typeIs F.slot_dict_valueiterator_next (jA F.slot_dict_valueiterator_next hit.typeIs F.entry_dict_valueiterator_next ?_ (F.args_dict_valueiterator_next_1 _))))
 refine zf (zn (zf (zf ?_)))
 first|refine zf (wpAny_typeNameOfWhole_valiter hit.typeIs (zn (zf (wpAny_fieldsOf g y ?_))))|refine zf (wpAny_typeNameOf_valiter hit.typeIs (zn (zf (wpAny_fieldsOf g y ?_))))
 simp only [show Builtin.Dict_items.ownsTuple "dict_valueiterator" = false by decide,Bool.false_eq_true,yG]
 show wpAny _ _ (if (Value.ref d==Value.none)=true then _ else _) _ _ s;rw [zt (show ¬((Value.ref d==Value.none)=true) from Bool.false_ne_true)]
 refine zf (zn (zf (wpAny_dictEntries gd yd ?_)))
 rw [zt (by simp)]
 refine zf (zn (zf (wpAny_dictEpoch gd yd ?_)))
 rw [zt (by simp)]
 refine zn ?_
 simp only [show ¬((i:Int)<0) by omega,yG,Int.toNat_natCast,Array.getElem?_eq_none hi]
 refine zf ?_
 first|refine zf (wpAny_typeNameOfWhole_valiter hit.typeIs (zn ?_))|refine zf (wpAny_typeNameOf_valiter hit.typeIs (zn ?_))
 show wpAny _ _ (setField (.ref it) 0 .none >>= _) _ _ s;refine zf (wpAny_setField g y (by simp) ?_)
 show wpAny _ _ (newExc (.type "StopIteration") [] >>= _) _ _ _;refine zf ?_
 simp only [newExc,newTuple];refine zf (jd ?_ (by size_fits))
 refine zf (m:=firstArgMember _ _) (wpAny_of_eq (a:=Value.none) (by first|rfl|(simp only [firstArgMember];rfl)) (jd ?_ (by size_fits)))
 simp only [raiseNew];refine zf (wpAny_handled ?_)
 rw [show A.in1.handled=none from hh];refine zf (zn (wpAny_throw ?_));refine zf (wpAny_isInstance (T := "StopIteration") (b:=true) ⟨_,yw _ rfl,rfl⟩ isSubtype_stop ?_)
 exact zn (q _ (((Heap.SameBut.update ..).extBut.push _).push _))
def Gx (hh:A.handled=none) (I d:Addr) (ko:d≠I) (es:Array DictEntry) (ep:Nat):Walks prog w A I [I,d] [I] es.size (λi v=>∃e,es[i]?=some e/\v=e.val) (λi h=>h.IsValIter I d i es.size ep/\aY h d es ep) where
 sub:=λb hb=>by simp at hb;simp [hb]
 frame:=λ_ _ _ z hk=>⟨z.1.at λo e=>hk I (by simp) o e,z.2.move λo e=>hk d (by simp) o e⟩
 item:=λi s Q E hi z hQ=>Gv z.1 z.2 hi λh' n1 sb=>hQ _ h' s.toks ⟨_,Array.getElem?_eq_getElem hi,rfl⟩ ⟨n1,z.2.move λo e=>sb.extBut d o ko e⟩ λb o hb e=>sb.extBut b o (λh=>hb (by simp [h])) e
 done:=λs Q E z hQ=>Gw hh z.1 z.2 (zG _) λh' n1=>hQ h' s.toks λb o hb e=>n1 b o (λh=>hb (by simp [h])) e
 self:=λ_ _ _ _ z hQ=>wpAny_pyIter_valiter z.1 hQ
def Gy:KdlSrc prog w "dict_values" v d es.size (λi x=>∃e,es[i]?=some e/\x=e.val) (λh=>h.IsValuesView v d/\aY h d es ep) where
 type:=λ_ z=>z.1.typeIs
 there:=λ_ z=>⟨let ⟨_,g,_⟩:=z.1;zP g,z.2.lt⟩
 keep:=λ_ _ z hk=>⟨let ⟨o,g,x⟩:=z.1;⟨o,hk v (.inl rfl) o g,x⟩,z.2.move λo e=>hk d (.inr rfl) o e⟩
 notList:=by decide
 notTuple:=by decide
 hint:=λ_ _ _ _ z q=>kdl_hint_values z.1.typeIs q
 iter:=λ_ _ hh z=>⟨_,_,(λ_ _ q=>Gr z.1 z.2 q),Gx hh _ d (yx z.2.lt) es ep,⟨⟨_,yw _ rfl,rfl,rfl⟩,z.2.move λo e=>zU _ e⟩⟩
end
end L2
namespace Mi
open PySem L2 PySem.W PySem.Spec PyProof.Rows
def bp (P:Program) (W:World) (A:Around) (s:Shared) (v:Value):Prop:=∀(E:Aa) (Q:Bool->Shared->Prop),Q true s->wpAny (model P W) A (eqIsQuiet 8 v) Q E s
section
variable {P:Program} {W:World} {A:Around} {s:Shared} {d:Addr} {o:Obj} {es:Array DictEntry} {ep:Nat} {key:Value} {h:Int} {E:Aa}
def Gz {stored:Af}{Q:Bool->Shared->Prop}(hk:bp P W A s key) (hs:∀v∈stored,bp P W A s v) (q:Q false s):wpAny (model P W) A (tableMayTell key stored) Q E s:=by
 unfold tableMayTell
 split
 ·exact zn q
 ·refine zf (hk _ _ ?_)
  simp only [Bool.not_true,Bool.false_eq_true,yG]
  refine zf (wpAny_forIn_list _ (λrest r s'=>s'=s/\r=(none,())/\∀v∈rest,bp P W A s v) _ ?_ ?_ _ _ ⟨rfl,rfl,hs⟩)
  ·rintro x rest r s' ⟨rfl,rfl,hr⟩
   refine zf (hr x yr _ _ ?_)
   simp only [Bool.not_true,Bool.false_eq_true,yG]
   exact zn ⟨rfl,rfl,λv hv=>hr v (yF _ hv)⟩
  ·rintro r s' ⟨rfl,rfl,_⟩
   exact zn q
structure eL (P:Program) (W:World) (A:Around) (s:Shared) (es:Array DictEntry) (key:Value) (h:Int) (r:Option Nat):Prop where
 cmp:∀i (hi:i<es.size),es[i].hash=h->bz P W A s es[i].key key (decide (r=some i))
 has:∀j,r=some j->∃hj:j<es.size,es[j].hash=h
 qk:bp P W A s key
 qs:∀i (hi:i<es.size),bp P W A s es[i].key
 cl:¬(es.any λe=>e.key==key&&e.hash != h)=true
 st:∀x t,key=.str x t->¬(es.all λe=>isExactStrKey e.key)=true
def qu {x:Nat}(hx:x∈placesWithHash es.size (λi=>es[i]?.map (·.hash)) h):∃hl:x<es.size,es[x].hash=h:=by
 unfold placesWithHash at hx
 rw [List.mem_filter,g0] at hx
 refine ⟨hx.1,?_⟩
 have:(Option.map (·.hash) es[x]?==some h)=true:=hx.2
 rw [Array.getElem?_eq_getElem hx.1] at this
 simpa using this
def vj {j:Nat}(hj:j<es.size) (e:es[j].hash=h):j∈placesWithHash es.size (λi=>es[i]?.map (·.hash)) h:=by
 unfold placesWithHash
 rw [List.mem_filter,g0]
 refine ⟨hj,?_⟩
 show (Option.map (·.hash) es[j]?==some h)=true
 rw [Array.getElem?_eq_getElem hj]
 simpa using e
def GA:(placesWithHash es.size (λi=>es[i]?.map (·.hash)) h).Nodup:=List.nodup_range.filter _
def vk {r:Option Nat}{Q:Option Nat->Shared->Prop}(ho:s.heap.get? d=some o) (hd:o.data=.dict es ep) (a:eL P W A s es key h r) (q:Q r s):wpAny (model P W) A (dictFind d key h) Q E s:=by
 have plain:wpAny (model P W) A (dictWalkPlain d key h es (placesWithHash es.size (λi=>es[i]?.map (·.hash)) h)) Q E s:=by
  unfold dictWalkPlain
  refine zf (wpAny_forIn_list _ (λrest b s'=>s'=s/\b=(none,())/\(∀j,r=some j->j∈rest)/\∀x∈rest,∃hl:x<es.size,es[x].hash=h) _ ?_ ?_ _ _ ⟨rfl,rfl,λj e=>by obtain ⟨hj,e'⟩:=a.has j e;exact vj hj e',λx hx=>qu hx⟩)
  ·rintro x rest b s' ⟨rfl,rfl,h1,h2⟩
   obtain ⟨hl,eh⟩:=h2 x yr
   rw [Array.getElem?_eq_getElem hl]
   dsimp only
   rw [zu (by rw [eh];simp)]
   refine zf (wpAny_dictEpoch ho hd (zf (a.cmp x hl eh _ _ (zf (wpAny_dictEpoch ho hd ?_)))))
   rw [zt (by simp)]
   by_cases hx:r=some x
   ·rw [zu (by rw [jg hx])]
    exact zf (we (zn (zn (by rw [hx] at q;exact q))))
   ·rw [zt (by rw [yn hx];decide)]
    refine zf (we (zn ⟨rfl,rfl,λj e=>?_,λy hy=>h2 y (yF _ hy)⟩))
    rcases yt.mp (h1 j e) with z|z
    ·exact absurd (by rw [<-z];exact e) hx
    ·exact z
  ·rintro b s' ⟨rfl,rfl,h1,_⟩
   refine zn ?_
   cases r with
   |none=>exact q
   |some j=>exact nomatch h1 j rfl
 have dB:∀v∈(placesWithHash es.size (λi=>es[i]?.map (·.hash)) h).filterMap (λi=>es[i]?.map (·.key)),bp P W A s v:=λv hv=>by
  obtain ⟨i,hi,e⟩:=List.mem_filterMap.mp hv
  obtain ⟨hl,_⟩:=qu hi
  rw [Array.getElem?_eq_getElem hl] at e
  cases e
  exact a.qs i hl
 unfold dictFind
 refine jn (zf (wpAny_dictEntries ho hd ?_))
 cases key
 all_goals dsimp only
 all_goals first
  |rw [zt (a.st _ _ rfl)]
  |skip
 all_goals refine wpAny_ite_split (λ_=>plain) λ_=>?_
 all_goals first
  |rw [zt a.cl]
  |skip
 all_goals refine wpAny_ite_split (λ_=>zf (zn ?_)) λ_=>zf (Gz a.qk dB ?_)
 all_goals
  rw [zt (by simp)]
  refine zf (wpAny_forIn_list _ (λrest b s'=>s'=s/\∃hit,b=(none,hit)/\rest.Nodup/\(∀x∈rest,∃hl:x<es.size,es[x].hash=h)/\((hit=none/\∀j,r=some j->j∈rest)\/∃j,r=some j/\hit=some j/\j∉rest)) _ ?_ ?_ _ _ ⟨rfl,none,rfl,GA,λx hx=>qu hx,.inl ⟨rfl,λj e=>by obtain ⟨hj,e'⟩:=a.has j e;exact vj hj e'⟩⟩)
  ·rintro x rest b s' ⟨rfl,hit,rfl,nd,h2,h3⟩
   rw [ju] at nd
   obtain ⟨hl,eh⟩:=h2 x yr
   have vm:∀y∈rest,∃hl:y<es.size,es[y].hash=h:=λy hy=>h2 y (yF _ hy)
   rw [Array.getElem?_eq_getElem hl]
   dsimp only
   rw [zu (by rw [eh];simp)]
   refine zf (wpAny_dictEpoch ho hd (zf (a.cmp x hl eh _ _ (zf (wpAny_dictEpoch ho hd ?_)))))
   rw [zt (by simp)]
   by_cases hx:r=some x
   ·have hn:hit=none:=by
     rcases h3 with ⟨z,_⟩|⟨j,z,_,z2⟩
     ·exact z
     ·rw [hx] at z;cases z;exact absurd yr z2
    subst hn
    rw [zu (by rw [jg hx]),zt (by simp)]
    refine zf (we ?_)
    split
    ·exact zn (zn (by rw [hx] at q;exact q))
    ·exact zn ⟨rfl,some x,rfl,nd.2,vm,.inr ⟨x,hx,rfl,nd.1⟩⟩
   ·rw [zt (by rw [yn hx];decide)]
    refine zf (we ?_)
    rw [zt (by simp)]
    refine zn ⟨rfl,hit,rfl,nd.2,vm,?_⟩
    rcases h3 with ⟨z,z2⟩|⟨j,z,z1,z2⟩
    ·refine .inl ⟨z,λj e=>?_⟩
     rcases yt.mp (z2 j e) with y|y
     ·exact absurd (by rw [<-y];exact e) hx
     ·exact y
    ·exact .inr ⟨j,z,z1,λm=>z2 (yF _ m)⟩
  ·rintro b s' ⟨rfl,hit,rfl,_,_,h3⟩
   refine zn ?_
   rcases h3 with ⟨rfl,z⟩|⟨j,z,rfl,_⟩
   ·cases r with
    |none=>exact q
    |some j=>exact nomatch z j rfl
   ·rw [z] at q;exact q
end
section
variable {P:Program} {W:World} {A:Around} {s:Shared} {a b:Addr} {ea eb:Array DictEntry} {na nb:Nat} {E:Aa}
def GB {nm:String}{Q:Bool->Shared->Prop}(la:(a==sysModules)=false) (lb:(b==sysModules)=false) (ra:aY s.heap a ea na) (rb:aY s.heap b eb nb) (hz:ea.size=eb.size)
  (hf:∀i (hi:i<ea.size),eL P W A s eb ea[i].key ea[i].hash (some i)) (he:∀i (hi:i<ea.size) (hj:i<eb.size),bz P W A s ea[i].val eb[i].val true) (q:Q true s):wpAny (model P W) A (Builtin.Dict.samePairs nm a b) Q E s:=by
 obtain ⟨oa,ga,_,qa⟩:=ra
 obtain ⟨ob,gb,_,qb⟩:=rb
 unfold Builtin.Dict.samePairs Builtin.Dict.showsAll
 rw [zt (by rw [la];decide),zt (by rw [lb];decide)]
 refine zf (zn (zf (zn (zf (wpAny_dictEntries ga qa ?_)))))
 dsimp only
 refine zf (wpAny_dictEntries gb qb ?_)
 rw [zt (by rw [hz];simp)]
 refine zf (wpAny_dictEpoch ga qa (zf ?_))
 rw [Std.Legacy.Range.forIn_eq_forIn_range']
 simp only [Std.Legacy.Range.size,Nat.sub_zero,Nat.add_sub_cancel,Nat.div_one]
 refine wpAny_forIn_list _ (λrest q s'=>s'=s/\q=(none,())/\∀x∈rest,x<ea.size) _ ?_ ?_ _ _ ⟨rfl,rfl,λx hx=>by
  rw [List.mem_range'] at hx
  obtain ⟨i,hi,rfl⟩:=hx
  omega⟩
 ·rintro x rest q s' ⟨rfl,rfl,hr⟩
  have lt:=hr x yr
  have lt':x<eb.size:=by omega
  refine zf (wpAny_dictEntries ga qa ?_)
  rw [Array.getElem?_eq_getElem lt]
  refine zf (jn (zf (vk gb qb (hf x lt) (zf (wpAny_dictEntries gb qb ?_)))))
  rw [Array.getElem?_eq_getElem lt']
  refine jn (he x lt lt' _ _ ?_)
  show wpAny _ _ (if (!true)=true then _ else _) _ _ _
  rw [zt (by decide)]
  refine zf (wpAny_dictEpoch ga qa ?_)
  rw [zt (by simp)]
  exact zn ⟨rfl,rfl,λy hy=>hr y (yF _ hy)⟩
 ·rintro q s' ⟨rfl,rfl,_⟩
  exact zn ‹_›
def dI.raws (la:(a==sysModules)=false) (lb:(b==sysModules)=false) (ra:aY s.heap a ea na) (rb:aY s.heap b eb nb) (hz:ea.size=eb.size) (hu:A.units<cLine)
  (hf:∀i (hi:i<ea.size),eL P W A.in1 s eb ea[i].key ea[i].hash (some i)) (he:∀i (hi:i<ea.size) (hj:i<eb.size),bz P W A.in1 s ea[i].val eb[i].val true):dI P W A s (.ref a) (.ref b) true:=λE Q h=>by
 refine wpAny_richCompare_same_room (op:=.Eq) ra.ty rb.ty PySem.F.slot_dict_eq (jA PySem.F.slot_dict_eq ra.ty PySem.F.entry_dict_eq ?_ (PySem.F.args_dict_eq_2 _ _)) hu
 show wpAny _ _ (Builtin.Dict.dictSlotArgs "__eq__" ⟨[.ref a,.ref b],[]⟩ >>= _) _ _ s
 refine zf ?_
 unfold Builtin.Dict.dictSlotArgs
 refine zf (wpAny_notOrdered_dict ra.ty ?_)
 show wpAny _ _ (pure (Value.ref a,Value.ref b)) _ _ s
 refine zn (zf (wpAny_isInstance (T := "dict") rb.ty PySem.F.sub_dict_dict ?_))
 simp only [Bool.not_true,Bool.false_eq_true,yG]
 refine zf (zn (zf (zn (zf (GB la lb ra rb hz hf he ?_)))))
 exact zn ⟨_,rfl,(λx=>nomatch x),by simpa using h⟩
end
section
variable {P:Program} {W:World} {A:Around} {s:Shared} {d:Addr} {es:Array DictEntry} {ep:Nat} {key u:Value} {h:Int} {E:Aa}
def cx (P:Program) (W:World) (A:Around) (s:Shared) (v:Value) (h:Int):Prop:=∀(E:Aa) (Q:Int->Shared->Prop),(∀tk,Q h { s with toks:=tk })->wpAny (model P W) A (pyHash v) Q E s
def vn {Q:Unit->Shared->Prop}(r:aY s.heap d es ep) (hz:es.size<=10) (hh:cx P W A s key h) (a:∀tk (E:Aa) (Q:Option Nat->Shared->Prop),Q none { s with toks:=tk }->wpAny (model P W) A (dictFind d key h) Q E { s with toks:=tk })
  (q:∀h' tk,aY h' d (es.push ⟨h,key,u⟩) (ep+1)->Heap.SameBut d s.heap h'->Q () { s with heap:=h',toks:=tk }):wpAny (model P W) A (dictSet d key u) Q E s:=by
 obtain ⟨o,g,x,y⟩:=r
 unfold dictSet
 refine jn (zf (hh _ _ λtk=>?_))
 unfold dictSetHashed
 refine jn (zf (a tk _ _ (zf (we ?_))))
 refine wpAny_updateDictKeys g y (q _ tk ?_ (Heap.SameBut.update ..)) (by rw [sizeLine_eq];omega)
 obtain ⟨c,dd,dt,sl⟩:=o
 cases y
 exact ⟨_,Heap.get?_update_self _ g rfl,x,rfl⟩
end
section
variable {P:Program} {W:World} {A:Around} {s:Shared}
def bz.id {v:Value}:bz P W A s v v true:=λE Q q=>by
 unfold eqBool
 refine jn ?_
 rw [zu (by simp)]
 exact zf (we (zn q))
def bp.val {v:Value}(h:carriedByValue v=true):bp P W A s v:=λE Q q=>by
 rw [eqIsQuiet_byValue _ h]
 exact zn q
def bp.row {b:Addr}{k:List Key}(h:(tupleKind (av P W)).is s.heap k b):bp P W A s (.ref b):=λE Q q=>(tupleKind (av P W)).quiet h q
def bz.key {k:Key}{u v:Value}(hu:(av P W).is k u=true) (hv:(av P W).is k v=true):bz P W A s u v true:=λE Q q=>(av P W).eqBool hu hv (by simpa using q)
def bz.rows {k:List Key}{b b':Addr}(hu:A.units<cLine) (h:(tupleKind (av P W)).is s.heap k b) (h':(tupleKind (av P W)).is s.heap k b'):bz P W A s (.ref b) (.ref b') true:=λE Q q=>(tupleKind (av P W)).eqBool hu h h' (by simpa using q)
def qv {k:List Key}{b:Addr}(h:(tupleKind (av P W)).is s.heap k b):∃its,s.heap.IsTuple b its:=by
 obtain ⟨o,its,n,h1,h2,h3,_⟩:=h
 exact ⟨its,o,h1,h2,n,h3⟩
def qw (P:Program) (W:World) (h:Heap) (b:Addr):OC->Prop
 |.row k=>(tupleKind (av P W)).is h k b
 |.mix _ k=>(tupleKind (av P W)).is h k b
 |_=>True
def GC {c:OC}{b b':Addr}{us k7:Af}{ea eb:Array DictEntry}(hu:A.units<cLine) (ha:dm P W b c us ea.toList) (hb:dm P W b' c k7 eb.toList) (ta:qw P W s.heap b c) (tb:qw P W s.heap b' c) :
  ea.size=eb.size/\∀i (hi:i<ea.size),eL P W A s eb ea[i].key ea[i].hash (some i):=by
 obtain ⟨ea⟩:=ea
 obtain ⟨eb⟩:=eb
 have one:∀{e e':DictEntry},e'.hash=e.hash->bz P W A s e'.key e.key true->bp P W A s e.key->bp P W A s e'.key->(∀x t,e.key=.str x t->False)->∀i (hi:i<(Array.mk [e]).size),eL P W A s ⟨[e']⟩ (Array.mk [e])[i].key (Array.mk [e])[i].hash (some i):=λ{e e'} hh he qe qe' ns i hi=>by
  obtain rfl:i=0:=by simpa using hi
  refine ⟨λj hj _=>?_,λj hj=>?_,qe,λj hj=>?_,?_,λx t z=>(ns x t z).elim⟩
  ·obtain rfl:j=0:=by simpa using hj
   simpa using he
  ·cases hj;exact ⟨by simp,hh⟩
  ·obtain rfl:j=0:=by simpa using hj
   exact qe'
  ·simp [hh]
 cases c with
 |non =>
  obtain ⟨u,rfl,e1⟩:=ha
  obtain ⟨u',rfl,e2⟩:=hb
  cases e1;cases e2
  exact ⟨rfl,one rfl bz.id (.val rfl) (.val rfl) (λ_ _ z=>nomatch z)⟩
 |tru =>
  obtain ⟨u,rfl,e1⟩:=ha
  obtain ⟨u',rfl,e2⟩:=hb
  cases e1;cases e2
  exact ⟨rfl,one rfl bz.id (.val rfl) (.val rfl) (λ_ _ z=>nomatch z)⟩
 |one =>
  obtain ⟨u,t,rfl,e1⟩:=ha
  obtain ⟨u',t',rfl,e2⟩:=hb
  cases e1;cases e2
  exact ⟨rfl,one rfl (bz.key (k:=.inl 1) (lT 1 t') (lT 1 t)) (.val rfl) (.val rfl) (λ_ _ z=>nomatch z)⟩
 |row k =>
  obtain ⟨u,rfl,e1⟩:=ha
  obtain ⟨u',rfl,e2⟩:=hb
  cases e1;cases e2
  exact ⟨rfl,one rfl (bz.rows hu tb ta) (.row ta) (.row tb) (λ_ _ z=>nomatch z)⟩
 |mix z k =>
  obtain ⟨u,u1,t,rfl,e1⟩:=ha
  obtain ⟨u',Kg,t',rfl,e2⟩:=hb
  cases e1;cases e2
  obtain ⟨its,hT⟩:=qv ta
  obtain ⟨its',GD⟩:=qv tb
  refine ⟨rfl,λi hi=>?_⟩
  match i,hi with
  |0,_ =>
   refine ⟨λj hj hh=>?_,λj hj=>?_,.val rfl,λj hj=>?_,by simp,λx t _=>by simp [isExactStrKey]⟩
   ·match j,hj with
    |0,_=>exact bz.key (k:=.inr z) (iT z t') (iT z t)
    |1,_=>exact λE Q q=>SeqAt.EqAt.tuple_str z t GD hu P W E Q q
   ·cases hj;exact ⟨by simp,rfl⟩
   ·match j,hj with
    |0,_=>exact .val rfl
    |1,_=>exact .row tb
  |1,_ =>
   refine ⟨λj hj hh=>?_,λj hj=>?_,.row ta,λj hj=>?_,by simp,λx t z=>nomatch z⟩
   ·match j,hj with
    |0,_=>exact λE Q q=>SeqAt.EqAt.str_tuple z t' hT hu P W E Q q
    |1,_=>exact bz.rows hu tb ta
   ·cases hj;exact ⟨by simp,rfl⟩
   ·match j,hj with
    |0,_=>exact .val rfl
    |1,_=>exact .row tb
end
section
variable {P:Program} {W:World} {A:Around} {s:Shared} {E:Aa} {d:Addr}
def k8 {Q:PUnit->Shared->Prop}(q:Q PUnit.unit s):wpAny (model P W) A (storeAll d []) Q E s:=by
 unfold storeAll
 exact zn q
def iG {k v:Value}{r:List (Value×Value)}{Q:PUnit->Shared->Prop}(h:wpAny (model P W) A (dictSet d k v) (λ_ s'=>wpAny (model P W) A (storeAll d r) Q E s') E s):wpAny (model P W) A (storeAll d ((k,v)::r)) Q E s:=by
 unfold storeAll at h ⊢
 rw [List.forIn_cons]
 exact zf (zf (yE h (λ_ _ z=>zn z) λ_ _ z=>z))
def cx.non (hu:A.units+10<cLine):cx P W A s .none (hashW W.params .none):=λE Q q=>pyHash_laid .none .none A s Q rfl .none (by simp [WData.depth];omega) q
def cx.tru (hu:A.units+10<cLine):cx P W A s (.bool true) (hashW W.params (.bool true)):=λE Q q=>pyHash_laid (.bool true) (.bool true) A s Q rfl (.bool true) (by simp [WData.depth];omega) q
def cx.key {k:Key}{v:Value}(h:(av P W).is k v=true):cx P W A s v ((av P W).hash k):=λE Q q=>(av P W).pyHash h (q _)
def cx.row {k:List Key}{b:Addr}(hu:A.units<cLine) (h:(tupleKind (av P W)).is s.heap k b):cx P W A s (.ref b) ((tupleKind (av P W)).hash k):=λE Q q=>(tupleKind (av P W)).pyHash hu h (q _)
def nk {key:Value}{h:Int}(hq:bp P W A s key) (ns:∀x t,key=.str x t->False):eL P W A s #[] key h none :=
 ⟨λi hi _=>by simp at hi,λj hj=>(nomatch hj),hq,λi hi=>by simp at hi,by simp,λx t z=>(ns x t z).elim⟩
def k_ {es:Array DictEntry}{ep:Nat}{key u:Value}{h:Int}{Q:Unit->Shared->Prop}(r:aY s.heap d es ep) (hz:es.size<=10) (hh:cx P W A s key h) (a:∀tk,eL P W A { s with toks:=tk } es key h none)
  (q:∀h' tk,aY h' d (es.push ⟨h,key,u⟩) (ep+1)->Heap.SameBut d s.heap h'->Q () { s with heap:=h',toks:=tk }):wpAny (model P W) A (dictSet d key u) Q E s :=
 vn r hz hh (λtk E Q q=>let ⟨_,g,_,y⟩:=r;vk (s:={ s with toks:=tk }) g y (a tk) q) q
end
section
variable {X:Cx} {pins:Ac} {U:L2.St} {H:Hp} {s:Shared} {a b:Addr} {c:OC} {us:Af} {ep:Nat}
def lg (I:L2.Inv X pins U H s) (e:H a=some (oE a c b us ep)):(a==sysModules)=false/\∃es,aY s.heap a es ep/\dm X.prog X.w b c us es.toList:=by
 obtain ⟨⟨lo,o,es,h1,h2,h3,h4⟩,_⟩:=(show aM X.prog X.w H s.heap a (oE a c b us ep) from I.hok a _ e)
 exact ⟨lo,es,⟨o,h1,h2,h3⟩,h4⟩
def GF {P:Program}{w:World}{H:Hp}{h:Heap}{es:Array DictEntry}(lo:(a==sysModules)=false) (r:aY h a es ep) (oe:dm P w b c us es.toList):aM P w H h a (oE a c b us ep):=by
 obtain ⟨o,h1,h2,h3⟩:=r
 exact ⟨⟨lo,o,es,h1,h2,h3,oe⟩,⟨o,h1⟩,λh1 h2 ⟨lo,o,es,e,r⟩ k=>⟨lo,o,es,k _ e,r⟩⟩
def qx (I:L2.Inv X pins U H s) (k:hW X.K H b c):qw X.prog X.w s.heap b c:=by
 cases c with
 |row k'=>exact vi I k
 |mix z k'=>exact vi I k
 |_=>trivial
def iH {p:V×V}{ps:List (V×V)}{ws:List (Value×Value)}(h:VV (p::ps) ws):∃w fA,ws=w::fA/\(RelV p.1 w.1/\RelV p.2 w.2)/\VV ps fA:=by
 cases h with
 |cons a b=>exact ⟨_,_,rfl,a,b⟩
def vo (b:Addr):OC->List (V×V)->List V->Prop
 |.non,ps,vs=>∃v,ps=[(.non,v)]/\vs=[v]
 |.tru,ps,vs=>∃v,ps=[(.bl true,v)]/\vs=[v]
 |.one,ps,vs=>∃v,ps=[(.int 1,v)]/\vs=[v]
 |.row _,ps,vs=>∃v,ps=[(.ref b,v)]/\vs=[v]
 |.mix z _,ps,vs=>∃v v',ps=[(.str z,v),(.ref b,v')]/\vs=[v,v']
def GG (K:Frag) (trs:List (TE×TE)):TE:=λU H Q=>∀p,H p=none->hV trs U (upd H p (.dK [])) λps H2=>H2 p=some (.dK [])/\∃c b vs,vo b c ps vs/\hW K H2 b c/\∀us ep,Vals vs us->Q (.ref p) (upd H2 p (oE p c b us ep))
def GH {pos:Pos}{keys:List (Option Expr)}{values:List Expr}{trs:List (TE×TE)}(hu:X.A.units+200<cLine) (h:gv X pos keys values trs) (cT:keys.all (·.isSome)=true) (hl:keys.length=values.length) (h0:keys≠[]) (fj:keys.length<=15):PE X (.Dict keys values pos) (GG X.K trs):=by
 intro pins s U H Q I q
 have hn:=I.hok.fresh (zG s.heap.objs.size)
 have I1:=I.laid (a:=s.heap.objs.size) (o:=.dK []) (h':=s.heap.push { cls:=.type "dict", data:=.dict #[] }) (t':=s.toks) (λ_ _ q=>zU _ q) (zG _) (o9 s.heap I.big)
 refine wpAny_Dict_any cT hl h0 fj (aI (h pins _ U _ _ I1 (q _ hn)) λws s2 gg=>?_)
 obtain ⟨ps,H2,I2,rel,e,c,b,vs,op,ok,q2⟩:=gg
 obtain ⟨_,lo,DF,r0,dd⟩:=o8 I2.hok e
 cases r0
 obtain ⟨o,es,ep,g1,g2,g3,g4,g5,_⟩:=dd
 have ez:es=#[]:=by
  have:=g5.length
  simpa using this
 subst ez
 have R0:aY s2.heap s.heap.objs.size #[] ep:=⟨o,g1,g2,g3⟩
 have tk:=qx I2 ok
 have fin:∀{es:Array DictEntry} {ep:Nat} {h':Heap} {t':Nat} {us:Af},aY h' s.heap.objs.size es ep->dm X.prog X.w b c us es.toList->Heap.SameBut s.heap.objs.size s2.heap h'->Vals vs us->EP X pins U Q (.ref s.heap.objs.size) { s2 with heap:=h',toks:=t' }:=λ{es ep h' t' us} r oe hs hv =>
  ⟨.ref _,_,mv I2 (by rw [e];exact True.intro) hs (let ⟨o,g,_⟩:=r;⟨o,g⟩) (GF lo r oe),rfl,q2 us _ hv⟩
 have u1:X.A.units+10<cLine:=by omega
 have u2:X.A.units<cLine:=by omega
 cases c with
 |non =>
  obtain ⟨v,rfl,rfl⟩:=op
  obtain ⟨⟨k1,w1⟩,fA,rfl,⟨rk,rw⟩,rr⟩:=iH rel
  cases rr
  obtain rfl:k1=Value.none:=rk
  exact iG (k_ R0 (by simp) (.non u1) (λ_=>nk (.val rfl) (λ_ _ z=>nomatch z)) λh' t' r' hs=>k8 (fin r' ⟨w1,rfl,rfl⟩ hs (.cons rw .nil)))
 |tru =>
  obtain ⟨v,rfl,rfl⟩:=op
  obtain ⟨⟨k1,w1⟩,fA,rfl,⟨rk,rw⟩,rr⟩:=iH rel
  cases rr
  obtain rfl:k1=Value.bool true:=rk
  exact iG (k_ R0 (by simp) (.tru u1) (λ_=>nk (.val rfl) (λ_ _ z=>nomatch z)) λh' t' r' hs=>k8 (fin r' ⟨w1,rfl,rfl⟩ hs (.cons rw .nil)))
 |one =>
  obtain ⟨v,rfl,rfl⟩:=op
  obtain ⟨⟨k1,w1⟩,fA,rfl,⟨rk,rw⟩,rr⟩:=iH rel
  cases rr
  obtain ⟨t,rfl⟩:∃t,k1=Value.int 1 t:=rk
  exact iG (k_ R0 (by simp) (.key (k:=.inl 1) (lT 1 t)) (λ_=>nk (.val rfl) (λ_ _ z=>nomatch z)) λh' t' r' hs=>k8 (fin r' ⟨w1,t,rfl,rfl⟩ hs (.cons rw .nil)))
 |row k =>
  obtain ⟨v,rfl,rfl⟩:=op
  obtain ⟨⟨k1,w1⟩,fA,rfl,⟨rk,rw⟩,rr⟩:=iH rel
  cases rr
  obtain rfl:k1=Value.ref b:=rk
  exact iG (k_ R0 (by simp) (.row u2 tk) (λ_=>nk (.row tk) (λ_ _ z=>nomatch z)) λh' t' r' hs=>k8 (fin r' ⟨w1,rfl,rfl⟩ hs (.cons rw .nil)))
 |mix z k =>
  obtain ⟨v,v',rfl,rfl⟩:=op
  obtain ⟨⟨k1,w1⟩,fA,rfl,⟨rk,rw⟩,rr⟩:=iH rel
  obtain ⟨⟨k2,w2⟩,mR,rfl,⟨GI,GJ⟩,rr2⟩:=iH rr
  cases rr2
  obtain ⟨t,rfl⟩:∃t,k1=Value.str z t:=rk
  obtain rfl:k2=Value.ref b:=GI
  refine iG (vn R0 (by simp) (.key (k:=.inr z) (iT z t)) (λtk E Q q=>wpAny_dictFind_of (knd:=av X.prog X.w) (s:={ s2 with toks:=tk }) (k:=.inr z) (iT z t) g1 g3 (λe he=>by simp at he) (by simpa using q)) λh' t' r' hs=>?_)
  have qy:(tupleKind (av X.prog X.w)).is h' k b:=(tupleKind (av X.prog X.w)).keeps tk g1 g3 hs
  obtain ⟨its,hT⟩:=qv (s:={ s2 with heap:=h',toks:=t' }) qy
  refine iG (k_ (s:={ s2 with heap:=h',toks:=t' }) r' (by simp) (.row u2 qy) (λt2=>⟨λi hi hh=>?_,λj hj=>(nomatch hj),.row qy,λi hi=>?_,by simp,λx t z=>nomatch z⟩) λh2 t2 r2 GK=>k8 (fin r2 ⟨w1,w2,t,rfl,rfl⟩ (hs.trans GK) (.cons rw (.cons GJ .nil))))
  ·match i,hi with
   |0,_=>exact λE Q q=>SeqAt.EqAt.str_tuple z t (s:={ s2 with heap:=h',toks:=t2 }) hT u2 X.prog X.w E Q q
  ·match i,hi with
   |0,_=>exact .val rfl
end
end Mi
namespace Mi
open PySem L2 PySem.W PySem.Spec
section
variable {X:Cx} {Er:XK} {K:Frag} {mg:Ab} {ρ:Ae} {H:Hp} {pos:Pos}
def ww:List PV->Option OC
 |[.non]=>some .non
 |[.bl true]=>some .tru
 |[.int 1]=>some .one
 |[.tup xs]=>(fW xs).map .row
 |[.str z,.tup xs]=>(fW xs).map (.mix z)
 |_=>none
def dN:OC->Nat
 |.mix _ _=>2
 |_=>1
def GL {xs:An}{c:OC}{ks vs:List V}(h:ww xs=some c) (r:Rs K mg ρ H xs ks) (hl:vs.length=dN c):∃b,vo b c (ks.zip vs) vs/\hW K H b c:=by
 unfold ww at h
 split at h
 ·cases h
  obtain ⟨v,rfl,rv⟩:=r.one
  cases rv
  match vs,hl with
  |[v],_=>exact ⟨0,⟨v,rfl,rfl⟩,trivial⟩
 ·cases h
  obtain ⟨v,rfl,rv⟩:=r.one
  cases rv
  match vs,hl with
  |[v],_=>exact ⟨0,⟨v,rfl,rfl⟩,trivial⟩
 ·cases h
  obtain ⟨v,rfl,rv⟩:=r.one
  cases rv
  match vs,hl with
  |[v],_=>exact ⟨0,⟨v,rfl,rfl⟩,trivial⟩
 ·rename_i xs
  obtain ⟨k,hk,rfl⟩:=Option.map_eq_some_iff.mp h
  obtain ⟨v,rfl,rv⟩:=r.one
  obtain ⟨b,ws,rfl,h1,h2⟩:=rv
  match vs,hl with
  |[v],_=>exact ⟨b,⟨v,rfl,rfl⟩,by rw [qr h2 hk] at h1;exact h1⟩
 ·rename_i z xs
  obtain ⟨k,hk,rfl⟩:=Option.map_eq_some_iff.mp h
  obtain ⟨v,w,rfl,r1,r2⟩:=Rs.two r
  cases r1
  obtain ⟨b,ws,rfl,h1,h2⟩:=r2
  match vs,hl with
  |[v,v'],_=>exact ⟨b,⟨v,v',rfl,rfl⟩,by rw [qr h2 hk] at h1;exact h1⟩
 ·cases h
def jx (fs:List ((Ai)×(Ai))):Ai:=λenv st=>(wU fs env (st++[.dic [] []])).bind λq aa=>match ww q.1 with
 |some c=>if cH aa[st.length]?=true/\q.2.length=dN c then .ok (.ref st.length) (aa.set st.length (.odd c q.2)) else .stuck
 |none=>.stuck
def GN {keys:List (Option Expr)}{values:List Expr}{fs:List ((Ai)×(Ai))}(hu:X.A.units+200<cLine) (h:d4 X Er keys values fs) (h0:keys≠[]) (fj:keys.length<=15):ME X Er (.Dict keys values pos) (jx fs):=by
 obtain ⟨l1,l2,l4⟩:=h.len
 exact PE.weak (GH hu h.pps l4 l1 h0 fj) λU H Q ⟨env,st,ρ,re,rs,ho⟩=>λp hp=>by
  have e0:Ext ρ H (ρ++[p]) (upd H p (.dK [])):=Ext.push hp
  have s0:aP X.K X.mg (ρ++[p]) (upd H p (.dK [])) (st++[.dic [] []]):=rs.push hp ⟨[],yg,rfl,rfl⟩
  have kJ:(ρ++[p])[st.length]?=some p:=by rw [<-rs.len];simp
  refine ql (re.ext e0) s0 (Out.then (Out.ext ho e0) λad H1 q aa e1 s1 h1 lk lv us vs ru rv=>?_)
  cases hk:ww q.1 with
  |none=>simp only [hk] at h1;exact h1.elim
  |some c =>
   simp only [hk] at h1
   obtain ⟨⟨c1,c2⟩,h1⟩:=Out.ifp h1
   obtain ⟨b,op,ok⟩:=GL hk ru (rv.len.symm.trans c2)
   have hd:=p9 c1
   have eK:=e1.get kJ
   obtain ⟨ws,k1,k2,k3⟩:=s1.addr hd eK
   have ew:ws=[]:=by cases ws with|nil=>rfl|cons=>simp at k3
   subst ew
   refine ⟨k1,c,b,vs,op,ok,λus ep hv=>?_⟩
   have eq:Ext ad H1 ad (upd H1 p (oE p c b us ep)):=Ext.write k1 rfl
   exact h1 ad _ eq (s1.write eK eq ⟨b,us,ep,vs,yg,by cases c<;>first|exact eq.sqT ok|trivial,hv,Rs.ext eq _ rv⟩) _ ⟨p,rfl,eK⟩
end
end Mi
namespace Mi
open PySem L2 PySem.W PySem.Spec PyProof.Rows
def fZ {X:Cx}{e:Expr}{t t':TE}(h:PE X e t) (h':PE X e t'):PE X e (λU H Q=>t U H Q\/t' U H Q):=λpins s U H Q I q=>q.elim (h pins s U H Q I) (h' pins s U H Q I)
def qz {P:Program}{w:World}{b:Addr}{c:OC}{us:Af}{es:List DictEntry}(h:dm P w b c us es):es.map (·.val)=us/\us.length<=2:=by
 cases c with
 |one=>obtain ⟨u,t,rfl,rfl⟩:=h;exact ⟨rfl,by simp⟩
 |mix z k=>obtain ⟨u,u',t,rfl,rfl⟩:=h;exact ⟨rfl,by simp⟩
 |_=>obtain ⟨u,rfl,rfl⟩:=h;exact ⟨rfl,by simp⟩
def qA {X:Cx} {pins:Ac} {U:L2.St} {H:Hp} {s:Shared} {a b:Addr} {c:OC} {us:Af} {ep:Nat} (I:L2.Inv X pins U H s) (e:H a=some (oE a c b us ep)):s.TypeIs (.ref a) "dict" /\ ∀x,Value.ref a=.ref x->∃ob,s.heap.get? x=some ob/\ob.dict=none:=by
 obtain ⟨_,es,r,_⟩:=lg I e
 refine ⟨r.ty,λx z=>?_⟩
 cases z
 obtain ⟨o,g,x,_⟩:=r
 exact ⟨o,g,x.2.1⟩
section
variable {X:Cx} {Er:XK} {o:Expr} {p0 eV apos aO:Pos}
def GO (to:TE):TE:=λU H Q=>to U H λx H1=>∃a c b us ep vs,x=.ref a/\H1 a=some (oE a c b us ep)/\Vals vs us/\∀l,H1 l=none->Q (.ref l) (upd H1 l (.lst vs))
def GP {to:TE} (hc:X.calm=true) (iw:Gl X "list") (iz:X.mg "list" = none) (ho:PE X o to) (bI:attributeBase o "values" X.env (eval o X.env)=eval o X.env) (bJ:(apos.endLine==aO.line)=true) :
  PE X (.Call (.Name "list" p0) [.Call (.Attribute o "values" apos) [] [] aO] [] eV) (GO to):=by
 intro pins s U H Q I h
 refine PyProof.Rows.Call_ (g8 I iw iz pQ (PyProof.Rows.callWith_type1 ?_ rfl rfl))
 show wpAny _ _ (spliced ((false,eval (.Call (.Attribute o "values" apos) [] [] aO) X.env)::backTo eV (starEach [] X.env))) _ _ s
 refine Calls.spliced_cons ?_
 refine wpAny_Call_method0_late bI bJ (aI (ho pins s U H _ I h) λv s1 ⟨x,H1,I1,r1,q1⟩=>?_)
 obtain ⟨a,c,b,us,ep,vs,rfl,e,hv,q⟩:=q1
 obtain rfl:v=Value.ref a:=r1
 obtain ⟨lo,es,r,oe⟩:=lg I1 e
 obtain ⟨ev,ul⟩:=qz oe
 have zl:es.size=us.length:=by rw [<-ev,jL,Array.length_toList]
 have hz:es.size<=sizeLine:=by rw [sizeLine_eq];omega
 obtain ⟨t1,t2⟩:=qA I1 e
 refine ⟨"dict", "dict.values", PySem.F.plainAttrs_dict,PySem.F.slot_dict_values,PySem.F.type_dict_values,t1,t2,Calls.callWith_builtin rfl (PySem.evalArgs_none (call_meetsIn PySem.F.slot_dict_values r.ty PySem.F.entry_dict_values (PySem.F.args_dict_values_1 _) (Gq a lo) ⟨⟨es,ep,r⟩,?_⟩))⟩
 refine Calls.spliced_nil ?_
 have hle:s1.heap.objs.size<=(s1.heap.push { cls:=.type "dict_values", data:=.fields #[.ref a] }).objs.size:=by rw [Heap.size_push];exact Nat.le_succ _
 refine kdl_call (s:={ s1 with heap:=s1.heap.push { cls:=.type "dict_values", data:=.fields #[.ref a] } }) (Gy (es:=es) (ep:=ep)) (I.ok.hd hc) ⟨⟨_,yw _ rfl,rfl,rfl⟩,r.move λo e=>zU _ e⟩ hz λh' tk dR c' hk hS dw=>?_
 have ew:dR.toList=us:=by
  rw [<-ev]
  refine List.ext_getElem? λj=>?_
  rw [wf,Array.getElem?_toList,Array.getElem?_toList]
  by_cases hj:j<dR.size
  ·obtain ⟨e',h1,h2⟩:=dw.2 j _ (Array.getElem?_eq_getElem hj)
   rw [Array.getElem?_eq_getElem hj,h1,h2];rfl
  ·rw [Array.getElem?_eq_none (by omega),Array.getElem?_eq_none (by have:=dw.1;omega)];rfl
 have hv:Vals vs dR.toList:=by rw [ew];exact hv
 have lv:vs.length<=sizeLine:=by rw [hv.length,ew,<-zl];exact hz
 exact ⟨.ref _,_,I1.laid (t':=tk) (λb ob eb=>hk b ob (zU _ eb)) hle (show aM X.prog X.w _ h' _ (.lst vs) from ⟨lv,dR.toList,c',hv,by simpa using hS⟩),rfl,q _ (I1.hok.fresh hle)⟩
def lh (i:Nat):Ai:=λenv st=>match env[i]? with
 | some (some (.ref n))=>match st[n]? with
  |some (.dic _ xs)=>.ok (.ref st.length) (st++[.lst xs])
  |some (.odd _ xs)=>.ok (.ref st.length) (st++[.lst xs])
  |_=>.stuck
 |_=>.stuck
def GQ {i:Nat} (hc:X.calm=true) (iz:X.mg "list" = none) (ho:ME X Er o (zd i)) (iw:Gl X "list" := by rfl) (bI:attributeBase o "values" X.env (eval o X.env)=eval o X.env:=by rfl) (bJ:(apos.endLine==aO.line)=true:=by rfl) :
  ME X Er (.Call (.Name "list" p0) [.Call (.Attribute o "values" apos) [] [] aO] [] eV) (lh i) :=
 PE.weak (fZ (FL hc iw iz ho bI bJ) (GP hc iw iz ho bI bJ)) λU H Q ⟨env,st,ρ,re,rs,h⟩=>by
  unfold lh at h
  split at h
  ·rename_i n he
   have hv:zd i env st=.ok (.ref n) st:=by rw [jr,he]
   split at h
   ·rename_i ks xs hn
    refine .inl ⟨env,st,ρ,re,rs,by
     rw [hv]
     exact λad H1 e1 s1 v rv=>by
      obtain ⟨a,vs,rfl,_,k1,k2,k3⟩:=R.refD s1 rv hn
      exact ⟨a,ks,vs,rfl,k1,k3,λl hl=>Out.newList (xs:=xs) (Out.ext h e1) s1 k2 hl⟩⟩
   ·rename_i c xs hn
    refine .inr ⟨env,st,ρ,re,rs,by
     rw [hv]
     exact λad H1 e1 s1 v rv=>by
      obtain ⟨a,rfl,ha⟩:=rv
      obtain ⟨b,us,ep,vs,k1,_,k2,k3⟩:=s1.addr hn ha
      exact ⟨a,c,b,us,ep,vs,rfl,k1,k2,λl hl=>Out.newList (xs:=xs) (Out.ext h e1) s1 k3 hl⟩⟩
   ·exact h.elim
  ·exact h.elim
end
section
variable {X:Cx} {pins:Ac} {U:L2.St} {H:Hp} {s:Shared} {a b:Addr} {c:OC} {us:Af} {ep:Nat} {o:Obj}
def lj (I:L2.Inv X pins U H s) (ha:H a=some (oE a c b us ep)) (ho:s.heap.get? a=some o):L2.Inv X pins U (upd H a (.frz o (oE a c b us ep))) s:=by
 have mu:fX (H a):=by rw [ha];trivial
 have d:=I.hok a _ ha
 exact I.un (h':=s.heap) (t':=s.toks) (Un.write (e:=a) mu (.inl rfl) (λb u _ q=>q) ⟨o,ho⟩) (bq.write (e:=a) I.hok mu (.inl rfl) (λb u _ q=>q) ⟨o,ho⟩ ⟨ho,d⟩)
def nq (I:L2.Inv X pins U H s) (ha:H a=some (oE a c b us ep)):∀o u,X.H₀ a≠some (.frz o u):=λo u e=>by
 have:=I.base.frzs a o u e
 rw [ha] at this
 cases this
def thawO (I:L2.Inv X pins U H s) (ha:H a=some (.frz o (oE a c b us ep))) (hy:∀o u,X.H₀ a≠some (.frz o u)):L2.Inv X pins U (upd H a (oE a c b us ep)) s:=by
 have ne:∀x,H x=none->x≠a:=λx n z=>by rw [z,ha] at n;cases n
 have no:∀x u,H x=some u->(∀o k,u ≠ .frz o k)->x≠a:=λx u e n z=>by rw [z,ha] at e;cases e;exact n _ _ rfl
 refine ⟨I.ok,I.os,I.bare,⟨I.base.keep,I.base.slot,λx o e n hx=>?_,I.base.there,λx xs e=>?_,λx o u e=>?_,λx ps e=>?_⟩,I.loc,I.cell,?_,λx c e=>?_,λp hp=>?_,λx u e=>?_,I.len⟩
 ·have:=I.base.free x o e n hx
  rw [zw (ne x this)];exact this
 ·have:=I.base.tups x xs e
  rw [zw (no x _ this λ_ _=>nofun)];exact this
 ·have:=I.base.frzs x o u e
  rw [zw (λz=>hy o u (by rw [<-z];exact e))];exact this
 ·obtain ⟨m,this⟩:=I.base.tbls x ps e
  exact ⟨m,by rw [zw (no x _ this λ_ _=>nofun)];exact this⟩
 ·rw [zw (ne _ I.free)];exact I.free
 ·rw [zw (ne _ (I.freeC x c e))];exact I.freeC x c e
 ·obtain ⟨h1,h2,h3⟩:=I.pin p hp
  exact ⟨h1,by rw [zw (ne _ h2)];exact h2,h3⟩
 ·by_cases hb:x=a
  ·subst hb
   rw [yg] at e
   cases e
   exact (I.hok x _ ha).2
  ·rw [zw hb] at e
   exact (I.hok x u e).stay (λc v _ q=>q) (λc q=>by rw [zw (no c _ q λ_ _=>nofun)];exact q) λc xs q=>by rw [zw (no c _ q λ_ _=>nofun)];exact q
def vp (I:L2.Inv X pins U H s) (e:H a=some (.frz o (oE a c b us ep))):(a==sysModules)=false/\∃es,aY s.heap a es ep/\dm X.prog X.w b c us es.toList:=by
 obtain ⟨_,⟨lo,o,es,h1,h2,h3,h4⟩,_⟩:=(show aM X.prog X.w H s.heap a (.frz o (oE a c b us ep)) from I.hok a _ e)
 exact ⟨lo,es,⟨o,h1,h2,h3⟩,h4⟩
end
def d6 (b:Addr):OC->List V
 |.non=>[.non]
 |.tru=>[.bl true]
 |.one=>[.int 1]
 |.row _=>[.ref b]
 |.mix z _=>[.str z,.ref b]
def qB {P:Program}{w:World}{b:Addr}{c:OC}{us:Af}{es:List DictEntry}(h:dm P w b c us es):es.length=(d6 b c).length/\∀(i:Nat) e,es[i]?=some e->∃x,(d6 b c)[i]?=some x/\RelV x e.key:=by
 have one:∀{x:V} {e0:DictEntry},RelV x e0.key->∀(i:Nat) e,[e0][i]?=some e->∃y,[x][i]?=some y/\RelV y e.key:=λ{x e0} r i e h=>by
  match i,h with
  |0,h=>cases h;exact ⟨x,rfl,r⟩
 cases c with
 |non=>obtain ⟨u,rfl,rfl⟩:=h;exact ⟨rfl,one rfl⟩
 |tru=>obtain ⟨u,rfl,rfl⟩:=h;exact ⟨rfl,one rfl⟩
 |one=>obtain ⟨u,t,rfl,rfl⟩:=h;exact ⟨rfl,one ⟨t,rfl⟩⟩
 |row k=>obtain ⟨u,rfl,rfl⟩:=h;exact ⟨rfl,one rfl⟩
 |mix z k =>
  obtain ⟨u,u',t,rfl,rfl⟩:=h
  refine ⟨rfl,λi e h=>?_⟩
  match i,h with
  |0,h=>cases h;exact ⟨_,rfl,⟨t,rfl⟩⟩
  |1,h=>cases h;exact ⟨_,rfl,rfl⟩
def vq (a:Addr) (o:Obj) (c:OC) (b:Addr) (us:Af) (ep:Nat):It :=
 ⟨λi H=>H a=some (.frz o (oE a c b us ep))/\i<(d6 b c).length,λi H x H'=>H'=H/\(d6 b c)[i]?=some x,λi H=>H a=some (.frz o (oE a c b us ep))/\(d6 b c).length<=i⟩
def GR {P:Program}{w:World}{K:PySem.W.Frag}{tg:Expr}{a it:Addr}{o:Obj}{c:OC}{b:Addr}{us:Af}{ep:Nat}:Turn P w K tg (vq a o c b us ep) [it] it (λi h=>h.IsKeyIter it a i (d6 b c).length ep) where
 mem:=by simp
 obj:=λi h st x hx=>by
  have e:x=it:=by simpa using hx
  subst e
  obtain ⟨o,e,c,d⟩:=st
  exact ⟨o,e,λv z=>by rw [d] at z;cases z⟩
 keep:=λi h h' st k=>st.at λo e=>k it (by simp) o e
 item:=by
  intro X hP hw hK hc i pins s U H E I hf st hg
  subst hP hw hK
  obtain ⟨ha,hi⟩:=hg
  obtain ⟨lo,es,r,oe⟩:=vp I ha
  obtain ⟨hl,hk⟩:=qB oe
  have hz:es.size=(d6 b c).length:=by rw [<-hl,Array.length_toList]
  have c7:i<es.size:=by omega
  obtain ⟨f0,f1,f2,f3,f4,f5⟩:=hf it (by simp)
  rw [<-hz] at st
  refine Gn st r c7 λh' aE sb=>?_
  have I1:L2.Inv X pins U H { s with heap:=h' }:=I.turned (t':=s.toks) (λb o hb e=>(sb.2 b hb).trans e) f0 f1 f3 f4 f5
  obtain ⟨o',e,c',d⟩:=id aE
  obtain ⟨x,hx,rx⟩:=hk i (es[i]'c7) (by rw [Array.getElem?_toList];exact Array.getElem?_eq_getElem c7)
  exact ⟨_,rfl,hG (s:={ s with heap:=h' }) e c' d (by decide) ⟨x,H,I1,rx,⟨rfl,hx⟩,by rw [hz] at aE;exact aE,λb hb=>(hf b hb).1⟩⟩
 done:=by
  intro X hP hw hK hc i pins s U H E I hf st hg
  subst hP hw hK
  obtain ⟨ha,hi⟩:=hg
  obtain ⟨lo,es,r,oe⟩:=vp I ha
  obtain ⟨hl,hk⟩:=qB oe
  have hz:es.size=(d6 b c).length:=by rw [<-hl,Array.length_toList]
  obtain ⟨f0,f1,f2,f3,f4,f5⟩:=hf it (by simp)
  rw [<-hz] at st
  exact Gp (I.ok.hd hc) st r (by omega) λh' eb=>⟨rfl,I.turned (t':=s.toks) (λb o hb e=>eb b o hb e) f0 f1 f3 f4 f5⟩
 self:=λ_ _ _ _ _ st h=>wpAny_pyIter_keyiter st h
def GS (X:Cx) (tl:TE):TI:=λU H R=>tl U H λx H1=>∃a c b us ep,x=.ref a/\H1 a=some (oE a c b us ep)/\∀o,(∀o u,X.H₀ a≠some (.frz o u))->R (vq a o c b us ep) (upd H1 a (.frz o (oE a c b us ep)))
def GU {X:Cx}{l tg:Expr}{tl:TE}(hl:PE X l tl):PI X tg l (GS X tl):=by
 intro pins s U H R I h
 refine aI (hl pins s U H _ I h) λv s1 ⟨x,H1,I1,r1,a,c,b,us,ep,e,ha,q⟩=>?_
 subst e
 cases r1
 obtain ⟨lo,es,r,oe⟩:=lg I1 ha
 obtain ⟨o,ho,hx,hd⟩:=id r
 have I2:=lj I1 ha ho
 have fr:∀x,s1.heap.objs.size<=x->(upd H1 a (.frz o (oE a c b us ep))) x=none:=λx hx=>I2.hok.fresh hx
 refine Gm lo r ?_
 refine ⟨s1.heap.objs.size,[s1.heap.objs.size],_,_,_,rfl,I2.kept (t':=s1.toks) (λb o e=>zU _ e),GR,?_,λx hx=>?_,q o (nq I1 ha)⟩
 ·have hz:es.size=(d6 b c).length:=by rw [<-(qB oe).1,Array.length_toList]
  rw [<-hz]
  exact ⟨_,yw _ rfl,rfl,rfl⟩
 ·have e:x=s1.heap.objs.size:=by simpa using hx
  subst e
  exact I2.fpOk (zG _) (fr _ (zG _))
def qC (X:Cx) (H:Hp) (G:Hp->Prop):Prop:=∃a o c b us ep,H a=some (.frz o (oE a c b us ep))/\(∀o u,X.H₀ a≠some (.frz o u))/\G (upd H a (oE a c b us ep))
def GV {X:Cx}{e:Expr}{t:TE}(h:PE X e t):PE X e (λU H Q=>t U H λv H'=>qC X H' (Q v)):=by
 intro pins s U H Q I q
 refine aI (h pins s U H _ I q) λu s1 ⟨x,H1,I1,r1,a,o,c,b,us,ep,ha,hy,q1⟩=>⟨x,_,thawO I1 ha hy,r1,q1⟩
end Mi
namespace Mi
open PySem L2 PySem.W PySem.Spec
def vt (P:Program) (w:World) {a b:Addr}{c:OC}{us:Af}{ep:Nat}:mG (oE a c b us ep)=false:=by
 refine @decide_eq_false _ (Classical.propDecidable _) λst=>?_
 obtain ⟨h,⟨_,o,es,e,_,d,_⟩,n⟩:=st P w
 exact n _ _ _ _ e d
section
variable {K:Frag} {mg:Ab} {ρ:Ae} {H:Hp} {a b:Addr} {o:Obj} {c:OC} {us:Af} {ep:Nat} {u:HO}
def iI (ha:H a=some (.frz o (oE a c b us ep))) {p:Addr}{w:HO}(h:H p=some w) (n:∀o a c b us ep,w ≠ .frz o (oE a c b us ep)):upd H a u p=some w:=by
 rw [zw]
 ·exact h
 ·intro z;subst z;rw [ha] at h;cases h;exact n _ _ _ _ _ _ rfl
def lp (ha:H a=some (.frz o (oE a c b us ep))) {p:Addr}{xs:List V}(h:bg K H p xs):bg K (upd H a u) p xs:=by
 rcases h with (h|⟨o,h⟩)|h
 ·exact .inl (.inl (iI ha h (λ_ _ _ _ _ _=>nofun)))
 ·exact .inl (.inr ⟨o,iI ha h (λ_ _ _ _ _ _=>nofun)⟩)
 ·exact .inr h
def GW (ha:H a=some (.frz o (oE a c b us ep))) {p:Addr}{xs:List V}(h:eG K H p xs):eG K (upd H a u) p xs:=by
 rcases h with ⟨o,h⟩|h
 ·exact .inl ⟨o,iI ha h (λ_ _ _ _ _ _=>nofun)⟩
 ·exact .inr h
mutual
theorem R.thO (ha:H a=some (.frz o (oE a c b us ep))):∀(x:PV) {v:V},R K mg ρ H x v->R K mg ρ (upd H a u) x v
 |.non,_,h=>h
 |.bl _,_,h=>h
 |.int _,_,h=>h
 |.str _,_,h=>h
 |.ty _,_,h=>h
 |.tup xs,_,h=>by
  obtain ⟨a,vs,h1,h2,h3⟩:=h
  exact ⟨a,vs,h1,lp ha h2,Rs.thO ha xs h3⟩
 |.frl xs,_,h=>by
  obtain ⟨a,vs,h1,h2,h3⟩:=h
  exact ⟨a,vs,h1,GW ha h2,Rs.thO ha xs h3⟩
 |.ref n,_,h=>h
 |.fn _,_,h=>h
 |.kd ks xs,_,h=>by
  obtain ⟨a,us,vs,h1,h2,h4,h3⟩:=h
  exact ⟨a,us,vs,h1,h2,h4,Rs.thO ha xs h3⟩
 |.exo c ks xs,_,h=>by
  obtain ⟨a,C,h1,h2,⟨h3,h4⟩|⟨d,vs,h3,h4,h5,h6⟩⟩:=h
  ·exact ⟨a,C,h1,h2,.inl ⟨h3,iI ha h4 (λ_ _ _ _ _ _=>nofun)⟩⟩
  ·exact ⟨a,C,h1,h2,.inr ⟨d,vs,iI ha h3 (λ_ _ _ _ _ _=>nofun),iI ha h4 (λ_ _ _ _ _ _=>nofun),Rs.thO ha xs h5,h6⟩⟩
theorem Rs.thO (ha:H a=some (.frz o (oE a c b us ep))):∀(xs:An) {vs:List V},Rs K mg ρ H xs vs->Rs K mg ρ (upd H a u) xs vs
 |[],_,h=>h
 |x::xs,_,h=>by
  obtain ⟨v,r,h1,h2,h3⟩:=h
  exact ⟨v,r,h1,R.thO ha x h2,Rs.thO ha xs h3⟩
end
theorem aU.thO (ha:H a=some (.frz o (oE a c b us ep))) {env:zc}{U:L2.St}(h:aU K mg ρ H env U):aU K mg ρ (upd H a u) env U :=
 ⟨h.len,λi x hx=>let ⟨v,p,q⟩:=h.at_ i x hx;⟨v,p,R.thO ha x q⟩⟩
def GX (ha:H a=some (.frz o (oE a c b us ep))) {so:SO}{p:Addr}(ne:p≠a) (h:dn K mg ρ H so p):dn K mg ρ (upd H a u) so p:=by
 cases so with
 |lst xs=>obtain ⟨vs,h1,h2⟩:=h;exact ⟨vs,by rw [zw ne];exact h1,Rs.thO ha xs h2⟩
 |dic ks xs=>obtain ⟨vs,h1,h2,h3⟩:=h;exact ⟨vs,by rw [zw ne];exact h1,Rs.thO ha xs h2,h3⟩
 |ins c ks xs=>obtain ⟨C,dx,vs,h0,h1,h2,h3⟩:=h;exact ⟨C,dx,vs,h0,by rw [zw ne];exact h1,Rs.thO ha xs h2,h3⟩
 |fdi ks xs=>obtain ⟨o,vs,h1,h2,h3⟩:=h;exact ⟨o,vs,by rw [zw ne];exact h1,Rs.thO ha xs h2,h3⟩
 |dit ks xs=>obtain ⟨its,vs,h1,h2,h3,h4,h5⟩:=h;exact ⟨its,vs,by rw [zw ne];exact h1,h2,λx hx=>lp ha (h3 x hx),h4,Rs.thO ha xs h5⟩
 |odd c xs=>obtain ⟨b,us,ep,vs,h1,h2,h3,h4⟩:=h;exact ⟨b,us,ep,vs,by rw [zw ne];exact h1,by cases c<;>first|exact lp ha h2|trivial,h3,Rs.thO ha xs h4⟩
 |fod c xs=>obtain ⟨o,b,us,ep,vs,h1,h2,h3,h4⟩:=h;exact ⟨o,b,us,ep,vs,by rw [zw ne];exact h1,by cases c<;>first|exact lp ha h2|trivial,h3,Rs.thO ha xs h4⟩
def aP.thawO {st:aj}{n:Nat}{c':OC}{xs:An}(s:aP K mg ρ H st) (hn:ρ[n]?=some a) (ha:H a=some (.frz o (oE a c b us ep))) (hs:st[n]?=some (.fod c' xs)):aP K mg ρ (upd H a (oE a c b us ep)) (st.set n (.odd c' xs)):=by
 refine ⟨by simp [s.len],s.nd,λi cW e=>?_⟩
 rw [List.getElem?_set] at e
 by_cases hij:n=i
 ·subst hij
  rw [zu rfl] at e
  split at e
  ·cases e
   obtain ⟨o',b',k7,fY,vs,h1,h2,h3,h4⟩:=s.addr hs hn
   exact ⟨a,hn,b',k7,fY,vs,by
    rw [ha] at h1
    rw [yg]
    injection h1 with h1
    injection h1 with _ h1
    rw [h1],by cases c'<;>first|exact lp ha h2|trivial,h3,Rs.thO ha xs h4⟩
  ·cases e
 ·rw [zt hij] at e
  obtain ⟨p,hb,q⟩:=s.at_ i cW e
  have ne:p≠a:=by
   intro z
   subst z
   obtain ⟨h1,h2⟩:=zM.mp hn
   obtain ⟨h3,h4⟩:=zM.mp hb
   have pw:=List.pairwise_iff_getElem.mp s.nd
   rcases Nat.lt_trichotomy n i with c|c|c
   ·exact pw n i h1 h3 c (h2.trans h4.symm)
   ·exact hij c
   ·exact pw i n h3 h1 c (h4.trans h2.symm)
  exact ⟨p,hb,GX ha ne q⟩
def Ext.thawedO (P:Program) (W:World) {af:Ae}{H':Hp}{w:HO}(ha:H a=some (oE a c b us ep)) (e:Ext ρ (upd H a (.frz o (oE a c b us ep))) af H'):Ext ρ H af (upd H' a w) :=
 ⟨e.pre,λp x h m=>by
  have ne:p≠a:=by intro z;subst z;rw [ha] at h;cases h;rw [vt P W] at m;cases m
  rw [zw ne]
  exact e.imm p x (by rw [zw ne];exact h) m⟩
end
section
variable {X:Cx} {Er:XK} {pos:Pos} {o:Expr} {K:Frag} {mg:Ab} {ρ:Ae} {H:Hp}
def kP:Key->PV
 |.inl i=>.int i
 |.inr z=>.str z
def cg:OC->An
 |.non=>[.non]
 |.tru=>[.bl true]
 |.one=>[.int 1]
 |.row k=>[.tup (k.map kP)]
 |.mix z k=>[.str z,.tup (k.map kP)]
theorem nr:∀k:List Key,Rs K mg ρ H (k.map kP) (k.map kV)
 |[]=>rfl
 |.inl i::k=>⟨_,_,rfl,rfl,nr k⟩
 |.inr z::k=>⟨_,_,rfl,rfl,nr k⟩
def vv {b:Addr}{c:OC}(h:hW K H b c):Rs K mg ρ H (cg c) (d6 b c):=by
 cases c with
 |row k=>exact ⟨_,_,rfl,⟨b,_,rfl,h,nr k⟩,rfl⟩
 |mix z k=>exact ⟨_,_,rfl,rfl,_,_,rfl,⟨b,_,rfl,h,nr k⟩,rfl⟩
 |_=>exact ⟨_,_,rfl,rfl,rfl⟩
def fC {α:Type}(n:Nat) (st:aj) (f:aj->Res α):Res α:=match st[n]? with
 |some (.fod c xs)=>f (st.set n (.odd c xs))
 |_=>.stuck
def GY {α:Type}{n:Nat}{st:aj}{f:aj->Res α}{good:List Addr->Hp->α->aj->Prop}(h:Out K mg ρ H (fC n st f) good Er):∃c xs,st[n]?=some (.fod c xs)/\Out K mg ρ H (f (st.set n (.odd c xs))) good Er:=by
 unfold fC at h
 split at h
 ·rename_i c xs e
  exact ⟨c,xs,e,h⟩
 ·exact h.elim
def wx (i:Nat) (fe:Ai):Ai:=λenv st=>match env[i]? with
 | some (some (.ref n))=>match st[n]? with
  |some (.dic _ _)=>ng (zd i) fe env st
  |some (.odd c xs)=>(cu (cf fe env (cg c) [] (st.set n (.fod c xs)))).bind λys ak=>fC n (ak++[.lst ys]) λaL=>.ok (.ref ak.length) aL
  |_=>.stuck
 |_=>.stuck
def GZ {i:Nat} {elt:Expr} {x:Str} {px:Pos} {scope:Scope} {fe:Ai} {N:Ad} (hc:X.calm=true) (S:bw X.env.scope scope x) (eN:X.N=N) (bY:((".0" : Str)::x::N).Nodup)
  (ho:ME X Er o (zd i)) (he:∀cl C ae ah fp,ME (ke X scope cl x C ae ah fp (λ_ _=>False)) XN elt fe)
  (hs:∀v,foldedSetIterable o X.env v=pure v:=by intro _;rfl):ME X Er (.ListComp elt [⟨.Name x px,o,[],0⟩] scope pos) (wx i fe) :=
 PE.weak (fZ (F5 hc S eN bY ho he hs) (GV (sT (te:=tM X.K X.mg XN fe) hc S eN bY (GU ho) (λcl C ae ah fp=>he cl C ae ah fp) hs))) λU H Q ⟨env,st,ρ,re,rs,h⟩=>by
  unfold wx at h
  split at h
  ·rename_i n hx
   have hv:zd i env st=.ok (.ref n) st:=by rw [jr,hx]
   split at h
   ·exact .inl ⟨env,st,ρ,re,rs,h⟩
   ·rename_i c xs hn
    refine .inr ⟨env,st,ρ,re,rs,?_⟩
    rw [hv]
    intro ao H0 e0 s0 v rv
    obtain ⟨a,rfl,ha⟩:=rv
    obtain ⟨b,us,ep,vs,k1,k2,k3,k4⟩:=s0.addr hn ha
    refine ⟨a,c,b,us,ep,rfl,k1,λob hy=>?_⟩
    have h0:=Out.ext h e0
    obtain ⟨kU,aE,hr,h0⟩:=u7 h0
    obtain ⟨c',bB,ht,h0⟩:=GY h0
    have ew:Ext ao H0 ao (upd H0 a (.frz ob (oE a c b us ep))):=Ext.write k1 (vt X.prog X.w)
    have hl:(d6 b c).length=(cg c).length:=(vv (mg:=X.mg) (ρ:=ao) k2).len.symm
    have hz:(cg c).length<=2:=by cases c<;>simp [cg]
    have hsz:2<sizeLine:=by rw [sizeLine_eq];decide
    refine ⟨λi m ys H=>m=(cg c).length-i/\i<=(cg c).length/\ys.length=i/\∃ps st ρ,Rs X.K X.mg ρ H ps ys/\aP X.K X.mg ρ H st/\Ext ao (upd H0 a (.frz ob (oE a c b us ep))) ρ H/\cf fe env ((cg c).drop i) ps st=.ok kU aE,
     ⟨(cg c).length,by simp,y1 _,rfl,[],_,ao,rfl,s0.write (so:=.fod c xs) ha ew ⟨ob,b,us,ep,vs,yg,by cases c<;>first|exact ew.sqT k2|trivial,k3,Rs.ext ew _ k4⟩,Ext.refl,hr⟩,?_⟩
    rintro i m ys H ⟨rfl,hi,qh,ps,st,ρ,c4,rs,ex,h⟩
    have hf:H a=some (.frz ob (oE a c b us ep)):=ex.imm a _ yg rfl
    have qi:=ex.get ha
    have kR:Rs X.K X.mg ρ H (cg c) (d6 b c):=Rs.ext (ew.trans ex) _ (vv k2)
    by_cases aZ:i<(cg c).length
    ·refine .inr ⟨⟨hf,by rw [hl];exact aZ⟩,by omega,λv H' y=>?_⟩
     obtain ⟨rfl,hv⟩:=y
     obtain ⟨v',hv',G0⟩:=kR.get (zR aZ)
     rw [hv] at hv'
     cases hv'
     rw [je aZ] at h
     simp only [cf] at h
     obtain ⟨y,ak,qj,h⟩:=u9 h
     refine ⟨some (cg c)[i]::env,st,ρ,(re.ext (e0.trans (ew.trans ex))).cons G0,rs,?_⟩
     rw [qj]
     exact λam H3 e3 s3 w cn=>⟨(cg c).length-(i+1),by omega,rfl,aZ,by simp [qh],ps++[y],ak,am,Rs.snoc cn (Rs.ext e3 ps c4),s3,ex.trans e3,h⟩
    ·have e:i=(cg c).length:=by omega
     subst e
     rw [iS (zG _)] at h
     cases h
     refine .inl ⟨⟨hf,by rw [hl];exact zG _⟩,by omega,λl eY=>?_⟩
     have ne:a≠l:=jv hf eY
     have gz:upd H l (.lst ys) a=some (.frz ob (oE a c b us ep)):=by rw [zw ne];exact hf
     have eq:Ext ρ H (ρ++[l]) (upd H l (.lst ys)):=Ext.push eY
     have s1:aP X.K X.mg (ρ++[l]) (upd H l (.lst ys)) (aE++[.lst kU]):=rs.push eY ⟨ys,yg,Rs.ext eq _ c4⟩
     exact ⟨a,ob,_,_,_,_,gz,hy,h0 (ρ++[l]) _ (Ext.thawedO X.prog X.w k1 (ex.trans eq)) (aP.thawO s1 (eq.get qi) gz ht) _ ⟨l,rfl,by rw [<-rs.len];simp⟩⟩
   ·exact h.elim
  ·exact h.elim
end
def lq:OC->OC->Bool
 |.non,.non=>true
 |.tru,.tru=>true
 |.one,.one=>true
 |.row k,.row k'=>decide (k=k')
 |.mix z k,.mix z' k'=>decide (z=z')&&decide (k=k')
 |_,_=>false
def G1 {c c':OC}(h:lq c c'=true):c=c':=by
 cases c<;>cases c'<;>simp_all [lq]
def G3 (c:OC):lq c c=true:=by
 cases c<;>simp [lq]
def cz (f:PV->PV->Bool):List PV->List PV->Bool
 |[],[]=>true
 |x::xs,y::ys=>f x y&&cz f xs ys
 |_,_=>false
def dU (f:PV->PV->Bool):Option SO->Option SO->Bool
 |some (.lst xs),some (.lst ys)=>decide (c_ eq1 xs ys=some true)
 |some (.dic ks xs),some (.dic dv ys)=>decide (ks=dv/\ks.Nodup/\ks.length=xs.length)&&cz f xs ys
 |some (.odd c xs),some (.odd c' ys)=>lq c c'&&cz f xs ys
 |_,_=>false
def cM (st:aj):Nat->PV->PV->Bool
 |0,_,_=>false
 | n+1,x,y=>match x,y with
  |.non,.non=>true
  |.bl a,.bl b=>decide (a=b)
  |.int a,.int b=>decide (a=b)
  |.str a,.str b=>decide (a=b)
  |.tup xs,.tup ys=>cz (cM st n) xs ys
  |.ref a,.ref b=>dU (cM st n) st[a]? st[b]?
  |_,_=>false
def fO (f:PV->PV->Bool) (x y:PV):Option Bool:=if f x y=true then some true else none
theorem vw {f:PV->PV->Bool}:∀{xs ys:An},cz f xs ys=true->c_ (fO f) xs ys=some true
 |[],[],_=>rfl
 |x::xs,y::ys,h=>by
  simp only [cz,yA] at h
  simp only [c_,fO,h.1,jf]
  rw [vw h.2];rfl
 |[],_::_,h=>by cases h
 |_::_,[],h=>by cases h
theorem vx {f:PV->PV->Bool}:∀{xs ys:An},cz f xs ys=true->xs.length=ys.length/\∀(i:Nat) x y,xs[i]?=some x->ys[i]?=some y->f x y=true
 |[],[],_=>⟨rfl,λi x y h=>by simp at h⟩
 |x::xs,y::ys,h=>by
  simp only [cz,yA] at h
  obtain ⟨l,g⟩:=vx h.2
  refine ⟨by simp [l],λi a b ha hb=>?_⟩
  cases i with
  |zero=>cases ha;cases hb;exact h.1
  |succ i=>exact g i a b (by simpa using ha) (by simpa using hb)
 |[],_::_,h=>by cases h
 |_::_,[],h=>by cases h
theorem vy {f:PV->PV->Bool}{ks:Ad}{ys:An}:∀(zs:Ad) (xs us:An),cz f xs us=true->(∀(i:Nat) k y,zs[i]?=some k->us[i]?=some y->(ks.zip ys).lookup k=some y)->zs.length=xs.length->cw (fO f) ks ys zs xs=some true
 |[],_,_,_,_,_=>by simp [cw]
 |z::zs,[],_,_,_,h=>by simp at h
 |z::zs,x::xs,[],h,_,_=>by cases h
 |z::zs,x::xs,u::us,h,hk,hl=>by
  simp only [cz,yA] at h
  simp only [cw]
  rw [hk 0 z u rfl rfl]
  simp only [fO,h.1,jf]
  rw [show cw (fO f) ks ys zs xs=some true from vy zs xs us h.2 (λi k y a b=>hk (i+1) k y (by simpa using a) (by simpa using b)) (by simpa using hl)]
  rfl
section
variable {X:Cx} {K:Frag} {mg:Ab} {ρ:Ae} {pins:Ac} {U:L2.St} {H:Hp} {s:Shared} {st:aj}
def vz {xs:An}{vs:List V}{us:Af}{i:Nat}{u:Value}(r:Rs K mg ρ H xs vs) (h:Vals vs us) (e:us[i]?=some u):∃x v,xs[i]?=some x/\R K mg ρ H x v/\RelV v u:=by
 cases hx:xs[i]? with
 |none =>
  have l1:=r.len
  have l2:=h.length
  have:=gZ.mp hx
  have:=(zM.mp e).1
  omega
 |some x =>
  obtain ⟨v,hv,rv⟩:=r.get hx
  obtain ⟨u',hu',ru⟩:=h.get hv
  rw [e] at hu'
  cases hu'
  exact ⟨x,v,rfl,rv,ru⟩
def G4 (I:Inv X pins U H s) (S:aP X.K mg ρ H st):∀(n:Nat) (x y:PV) (v w:V) (u u':Value) (A:Around),cM st n x y=true->R X.K mg ρ H x v->R X.K mg ρ H y w->RelV v u->RelV w u'->A.units+n+110<cLine ->
  bz X.prog X.w A s u u' true/\dI X.prog X.w A s u u' true:=by
 intro n
 induction n with
 |zero=>intro x y v w u u' A h;cases h
 |succ n ih =>
  intro x y v w u u' A h rx ry rv rw hu
  have ref:∀{a a':Addr},dI X.prog X.w A s (.ref a) (.ref a') true->bz X.prog X.w A s (.ref a) (.ref a') true/\dI X.prog X.w A s (.ref a) (.ref a') true:=λ{a a'} rc=>by
   refine ⟨?_,rc⟩
   by_cases gy:a=a'
   ·subst gy;exact λE Q q=>SeqAt.EqAt.same _ _ _ E Q q
   ·exact .of_refs gy rc
  have vA:∀x y v w u u' b,fO (cM st n) x y=some b->R X.K mg ρ H x v->R X.K mg ρ H y w->RelV v u->RelV w u'->bz X.prog X.w A.in1 s u u' b:=λx y v w u u' b e r1 r2 r3 r4=>by
   unfold fO at e
   split at e
   ·rename_i hh
    cases e
    exact (ih x y v w u u' A.in1 hh r1 r2 r3 r4 (by rw [ia];omega)).1
   ·cases e
  unfold cM at h
  split at h
  ·cases rx;cases ry;obtain rfl:u=Value.none:=rv;obtain rfl:u'=Value.none:=rw
   exact ⟨bz.id,λE Q q=>SeqAt.RcAt.none_none _ _ E Q q⟩
  ·rename_i a b
   obtain rfl:=of_decide_eq_true h
   cases rx;cases ry;obtain rfl:u=Value.bool a:=rv;obtain rfl:u'=Value.bool a:=rw
   exact ⟨bz.id,λE Q q=>SeqAt.RcAt.bool_bool a a _ _ E Q (by simpa using q)⟩
  ·rename_i a b
   obtain rfl:=of_decide_eq_true h
   cases rx;cases ry;obtain ⟨t,rfl⟩:=rv;obtain ⟨t',rfl⟩:=rw
   exact ⟨λE Q q=>SeqAt.EqAt.int_int a t a t' _ _ E Q (by simpa using q),λE Q q=>SeqAt.RcAt.int_int a t a t' _ _ E Q (by simpa using q)⟩
  ·rename_i a b
   obtain rfl:=of_decide_eq_true h
   cases rx;cases ry;obtain ⟨t,rfl⟩:=rv;obtain ⟨t',rfl⟩:=rw
   exact ⟨λE Q q=>SeqAt.EqAt.str_str a t a t' _ _ E Q (by simpa using q),λE Q q=>SeqAt.RcAt.str_str a t a t' _ _ E Q (by simpa using q)⟩
  ·rename_i xs ys
   obtain ⟨a,vs,rfl,h1,h2⟩:=rx
   obtain ⟨a',ws,rfl,h3,h4⟩:=ry
   cases rv
   cases rw
   obtain ⟨its,r1,p1,_⟩:=I.tuple h1
   obtain ⟨aK,r2,p2,_⟩:=I.tuple h3
   obtain ⟨e,he,hb⟩:=qc (vw h)
   have it:=uM (G:=bz X.prog X.w A.in1 s) vA h2 h4 r1 r2 he
   have eb:((List.range (min its.toArray.size aK.toArray.size)).all e&&its.toArray.size==aK.toArray.size)=true:=by
    rw [h2.len,h4.len,r1.length,r2.length] at hb
    simpa using hb
   refine ref ?_
   rw [<-eb]
   exact dI.tuples (show s.heap.IsTuple a its.toArray from p1) (show s.heap.IsTuple a' aK.toArray from p2) (by omega) it
  ·rename_i i j
   obtain ⟨a,rfl,h1⟩:=rx
   obtain ⟨a',rfl,h2⟩:=ry
   cases rv
   cases rw
   refine ref ?_
   unfold dU at h
   split at h
   ·rename_i xs ys e1 e2
    have h:=of_decide_eq_true h
    obtain ⟨vs,k1,k2⟩:=S.addr e1 h1
    obtain ⟨ws,k3,k4⟩:=S.addr e2 h2
    obtain ⟨its,r1,p1,_⟩:=I.list (aS.of k1)
    obtain ⟨aK,r2,p2,_⟩:=I.list (aS.of k3)
    obtain ⟨e,he,hb⟩:=qc h
    have it:=uM (G:=SeqAt.EqAt A.in1 s) (λx y v w u u' b e r1 r2 r3 r4=>(FH I e r1 r2 r3 r4 (by rw [ia];omega)).1) k2 k4 r1 r2 he
    rw [k2.len,k4.len,r1.length,r2.length] at hb
    simp only [yA,beq_iff_eq] at hb
    have hz:its.toArray.size=aK.toArray.size:=by simpa using hb.2
    have eb:(List.range its.toArray.size).all e=true:=by
     have:=hb.1
     rw [hb.2] at this
     rw [hz]
     simpa using this
    rw [<-eb]
    exact λE Q q=>SeqAt.RcAt.lists p1.isList p2.isList hz (by omega) it _ _ E Q q
   ·rename_i ks xs dv ys e1 e2
    simp only [yA,wE] at h
    obtain ⟨⟨rfl,nd,hl⟩,h⟩:=h
    obtain ⟨vs,k1,k2,k3⟩:=S.addr e1 h1
    obtain ⟨ws,k4,k5,k6⟩:=S.addr e2 h2
    obtain ⟨_,s1,ka,vB,da⟩:=wI I.hok (.inl k1)
    obtain ⟨_,s2,kb,vC,db⟩:=wI I.hok (.inl k4)
    have la:ka.length=ks.length:=by rw [<-vB.length];simp [kz,k3]
    have lb:kb.length=ks.length:=by rw [<-vC.length];simp [kz,k6]
    have hh:cw (fO (cM st n)) ks ys ks xs=some true:=vy ks xs ys h (λi k y ik iy=>by
     refine uJ nd k y (List.mem_iff_getElem?.mpr ⟨i,?_⟩)
     rw [List.getElem?_zip_eq_some]
     exact ⟨ik,iy⟩) hl
    have hits:ka.length=kb.length->bL X.prog X.w A.in1 s kb ka true:=λ_=>uQ vA k5 vC k3 k2 vB hh
    have oG:(ka.length==kb.length&&true)=true:=by rw [la,lb];simp
    rw [<-oG]
    exact dI.recs s1 s2 da db (by omega) hits
   ·rename_i c xs c' ys e1 e2
    simp only [yA] at h
    obtain ⟨hc,h⟩:=h
    obtain rfl:=G1 hc
    obtain ⟨b,us,ep,vs,k1,k2,k3,k4⟩:=S.addr e1 h1
    obtain ⟨b',k7,fY,ws,g1,g2,g3,g4⟩:=S.addr e2 h2
    obtain ⟨la,ea,ra,oa⟩:=lg I k1
    obtain ⟨lb,eb,rb,ob⟩:=lg I g1
    obtain ⟨hz,hf⟩:=GC (A:=A.in1) (by rw [ia];omega) oa ob (qx I k2) (qx I g2)
    refine dI.raws la lb ra rb hz (by omega) hf λi hi hj=>?_
    obtain ⟨hl,hg⟩:=vx h
    obtain ⟨va,_⟩:=qz oa
    obtain ⟨vb,_⟩:=qz ob
    have iu:us[i]?=some (ea[i]'hi).val:=by rw [<-va,wf,Array.getElem?_toList,Array.getElem?_eq_getElem hi];rfl
    have G5:k7[i]?=some (eb[i]'hj).val:=by rw [<-vb,wf,Array.getElem?_toList,Array.getElem?_eq_getElem hj];rfl
    obtain ⟨z,v,m1,m2,m3⟩:=vz k4 k3 iu
    obtain ⟨z',v',m4,m5,m6⟩:=vz g4 g3 G5
    exact (ih z z' v v' _ _ A.in1 (hg i z z' m1 m4) m2 m5 m3 m6 (by rw [ia];omega)).1
   ·cases h
  ·cases h
def nu:Am:=λx y st=>if cM st 80 x y=true then .ok (.bl true) st else .stuck
def G6 (K:Frag) (mg:Ab):R2:=λv w H Q=>∃ρ st x y,aP K mg ρ H st/\cM st 80 x y=true/\R K mg ρ H x v/\R K mg ρ H y w/\Q (.bl true) H
def G7 (hu:X.A.units+200<cLine):aW X (compareOp .Eq) (G6 X.K X.mg):=by
 intro pins s U H x y v u Q I rx ry h
 obtain ⟨ρ,st,a,b,S,e,ra,rb,q⟩:=h
 exact (G4 I S 80 a b x y v u X.A e ra rb rx ry (by omega)).2 _ _ ⟨.bl true,H,I,rfl,q⟩
def G8 (hu:X.A.units+200<cLine):bK X .Eq nu:=⟨_,G7 hu,fun ρ H st x y v w Q E s rx ry h=>by
 obtain ⟨e,h⟩:=Out.ifp (show Out X.K X.mg ρ H (if cM st 80 x y=true then .ok (.bl true) st else .stuck) (gV X.K X.mg Q) E from h)
 exact ⟨ρ,st,x,y,s,e,rx,ry,h.now s _ rfl⟩⟩
end
end Mi
abbrev Mi.At (n:Nat):Option Mi.PV:=some (.ref n)
abbrev Mi.Au (n:Nat):Option Mi.PV:=some (.int n)
abbrev Mi.Ar (i:Int):=Mi.mC (.int i)
abbrev Mi.As (z:PySem.Str):=Mi.mC (.str z)
namespace FK11
open PySem L2 PySem.W Mi
def top (i:Nat):Stmt:=PySem.Challenge.pw_foreknown_k11_what_is_a_value.main.body.getD i (.Pass ⟨0,0,0,0⟩)
abbrev vD:Stmt:=top 13
abbrev vE:Stmt:=top 15
abbrev vF:Stmt:=top 18
abbrev vG:Stmt:=top 14
abbrev vH:Stmt:=top 16
abbrev vI:Stmt:=top 17
abbrev zbp:Stmt:=top 19
abbrev zbq:Stmt:=top 20
abbrev vJ:Stmt:=top 21
abbrev vK:Stmt:=top 7
abbrev vL:Stmt:=top 8
abbrev vM:Stmt:=top 5
abbrev zdz:Stmt:=top 6
abbrev zdA:Stmt:=top 10
abbrev zdB:Stmt:=top 11
abbrev vN:Stmt:=top 22
abbrev vO:Stmt:=top 9
abbrev qD:Stmt:=top 23
structure Txt (w:World) (K:Frag) (mg:Ab):Prop where
 f__law_cell:FnF K mg "_law_cell" vD ["_law_script", "_law_k"]
 f__law_word:FnF K mg "_law_word" vE ["_law_cell_here"]
 f__law_odd:FnF K mg "_law_odd" vF ["_law_cell_here"]
 f__law_number:FnF K mg "_law_number" vG ["_law_cell_here"]
 f__law_keys:FnF K mg "_law_keys" vH ["_law_cell_here", "_law_many"]
 f__law_record:FnF K mg "_law_record" vI ["_law_cell_here", "_law_things"]
 f__law_built:FnF K mg "_law_built" zbp ["_law_script", "_law_size", "_law_bad"]
 f__law_made:FnF K mg "_law_made" zbq ["_law_script"]
 f__law_told:FnF K mg "_law_told" vJ ["_law_found", "_law_due"]
 f_things_within:FnF K mg "things_within" vK ["thing"]
 f_all_within:FnF K mg "all_within" vL ["thing"]
 f_in_bounds:FnF K mg "in_bounds" vM ["number"]
 f_is_word:FnF K mg "is_word" zdz ["thing"]
 f_may_stand:FnF K mg "may_stand" zdA ["thing"]
 f_is_value:FnF K mg "is_value" zdB ["thing"]
 f__law_count:FnF K mg "_law_count" vN ["_law_found", "_law_due"]
 f_parts:FnF K mg "parts" vO ["value"]
 f_law:FnF K mg "law" qD ["_law_script"]
 b_all:mg "all" = none
 b_bool:mg "bool" = none
 b_dict:mg "dict" = none
 b_int:mg "int" = none
 b_isinstance:mg "isinstance" = none
 b_len:mg "len" = none
 b_list:mg "list" = none
 b_max:mg "max" = none
 b_min:mg "min" = none
 b_range:mg "range" = none
 b_str:mg "str" = none
 b_sum:mg "sum" = none
 b_tuple:mg "tuple" = none
 c_LETTERS:∃t,mg "LETTERS" = some (.str "abcdefghijklmnopqrstuvwxyz" t)
 c_MOST_PARTS:∃t,mg "MOST_PARTS" = some (.int 60 t)
 c_MOST_SIGNS:∃t,mg "MOST_SIGNS" = some (.int 8 t)
 c_NUMBER_BOUND:∃t,mg "NUMBER_BOUND" = some (.int 1000000000000000000 t)
section
variable {P:Program} {w:World} {K:Frag} {mg:Ab} {base:Heap}
set_option hygiene false in
local macro_rules
|`(tactic|exact $s:str)=>do
 let ts<-(s.getString.splitOn " ").toArray.mapM λ(w:String)=>do
  let p:=(w.drop 1).toString
  let i:Lean.TSyntax `term:=if p.all Char.isDigit then ⟨(Lean.Syntax.mkNumLit p).raw⟩ else ⟨(Lean.mkIdent p.toName).raw⟩
  match w.toList.headD 'a' with
  |'a'=>`(tactic|refine $i ?_ ?_)
  |'b'=>`(tactic|exact (zh $i))
  |'c'=>`(tactic|exact $i)
  |'d'=>`(tactic|refine $i ?_)
  |'e'=>`(tactic|refine zq $i ?_ ?_)
  |'f'=>`(tactic|refine zW ($i T) (hr.mono (by decide)) ya ?_)
  |'g'=>`(tactic|refine $i ?_ ?_ ?_)
  |'h'=>`(tactic|refine zN $i ?_ ?_)
  |'i'=>`(tactic|refine mX (N:=["_law_script", "_law_size", "_law_bad", "_law_stack", "_law_deep", "_law_k", "_law_cell_here", "_law_many", "_law_held", "_law_count_here", "_law_good", "_law_things"]) rfl (by exact ⟨rfl,by decide +kernel,by decide +kernel,rfl,by show ∀y:Str×NameKind,y∈_->y.2=NameKind.free->List.lookup y.1 (zC zbp).names=some NameKind.cell;decide +kernel⟩) rfl (by decide +kernel) ?_ ?_)
  |'j'=>`(tactic|refine zT jj T.b_len jk ?_)
  |'k'=>`(tactic|refine yP ?_ ?_ ?_ ?_)
  |'l'=>`(tactic|refine zT jJ T.b_isinstance jF ?_)
  |'m'=>`(tactic|refine $i (jq (zO hr)) ?_ ?_)
  |'n'=>`(tactic|refine mX (N:=["_law_script", "_law_first", "_law_size", "_law_bad", "_law_stack", "_law_things"]) rfl (by exact ⟨rfl,by decide +kernel,by decide +kernel,rfl,by show ∀y:Str×NameKind,y∈_->y.2=NameKind.free->List.lookup y.1 (zC zbq).names=some NameKind.cell;decide +kernel⟩) rfl (by decide +kernel) ?_ ?_)
  |'o'=>`(tactic|exact (yQ (zO hr)))
  |'p'=>`(tactic|exact λ_ _=>rfl)
  |'q'=>`(tactic|refine zj ?_ ?_)
  |'r'=>`(tactic|exact zm)
  |'s'=>`(tactic|exact zp)
  |'t'=>`(tactic|refine GN (zO hr) ?_ (by simp) (by decide))
  |'u'=>`(tactic|refine ED (tJ rfl rfl) rfl ?_ ?_ ?_)
  |'v'=>`(tactic|refine zT (F6 rfl) T.b_all F7 ?_)
  |'w'=>`(tactic|intro _ _ _ _ _)
  |'x'=>`(tactic|refine zy ?_ ?_)
  |'y'=>`(tactic|refine zF ?_)
  |'z'=>`(tactic|refine EL T.b_range ?_)
  |'A'=>`(tactic|refine ja $i ?_ ?_)
  |'B'=>`(tactic|refine $i ?_ (by simp) (by decide))
  |'C'=>`(tactic|refine zV ?_)
  |'D'=>`(tactic|exact (zh 0))
  |'E'=>`(tactic|refine D8 Ef ?_)
  |'F'=>`(tactic|exact (jE T.b_bool EU))
  |'G'=>`(tactic|refine jZ $i ?_ ?_)
  |'H'=>`(tactic|refine zq yc ?_ ?_)
  |'I'=>`(tactic|refine zW ($i T) (hr.mono (by decide)) Fn ?_)
  |'J'=>`(tactic|exact jy.nd)
  |'K'=>`(tactic|refine zT (FA rfl) T.b_min FD ?_)
  |'L'=>`(tactic|refine zT (Fu rfl) T.b_sum Fv ?_)
  |'M'=>`(tactic|exact (ES $i))
  |'O'=>`(tactic|exact ⟨rfl,by decide +kernel,by decide +kernel,rfl,by show ∀y:Str×NameKind,y∈_->y.2=NameKind.free->List.lookup y.1 (zC $i).names=some NameKind.cell;decide +kernel⟩)
  |'P'=>`(tactic|exact ⟨rfl,by decide +kernel,by decide +kernel,by show ∀y:Str×NameKind,y∈_->y.2=NameKind.free->List.lookup y.1 (zC $i).names=some NameKind.cell;decide +kernel⟩)
  |'R'=>`(tactic|first|exact Or.inl rfl|exact Or.inr rfl)
  |'S'=>`(tactic|first|exact .inl rfl|exact .inr rfl|assumption)
  |'N'=>`(tactic|exact ⟨rfl,rfl,rfl,by decide +kernel,rfl,by decide +kernel,by decide +kernel⟩)
  |_=>Lean.Macro.throwUnsupported
 `(tactic|($[$ts]*))
def zci:aJ ["_law_script", "_law_k", "_law_mixed", "_law_cell_here"] ["_law_script", "_law_k"] (zC vD):=by exact "N"
def vP:Aj :=
  (zQ (zg zJ (zg yY (zd 2) (zg zS (zd 1) (Ar 3))) (Ar 1000000007)))
def vQ:Aj :=
  zx (wO (yD (yI (zd 0) ba (bf (Ar 5)))) (gN 3)
  (zD 2 (zg zJ (zg zS (zg yY (zd 2) (Ar 1103)) (zd 3)) (Ar 998244353)))) (vP)
def vR:Aj :=
  zx (zD 2 (zg zS (zg yY (Ar 31) (zd 1)) (Ar 17))) (vQ)
def qE:Aj :=
  zx (zX (mB (zg jD (zd 1) (zo zZ (ze (zd 0) zk))))
  (zQ (zg zH (zd 0) (zd 1)))
  yu) (vR)
def js:Al:=zE 2 4 (qE)
def zaN (T:Txt w K mg):b_ P w K mg base "_law_cell" 1 js:=T.f__law_cell.ok (k:=0) zci λ_ _ _ _ _ _ _ hr=>by
 exact "x gyv Azas b1 j q D s y C k o D b1 p cyJ x h2 eyC ewt r b1 r czci.nd x u dj2 gjS D cjQ djR r"
 exact (kF 3 zci.nd)
 exact "y h2 H eyC ewt b2 r b3 r czci.nd y C H ewt b2 eyC b1 r r"
def zaO:aJ ["_law_cell_here", "_law_word_here", "_law_rest", "_law_k"] ["_law_cell_here"] (zC vE):=by exact "N"
def vS:Aj :=
  (zQ (zd 1))
def vT:Aj :=
  zx (wO (cS (ze (zg zS (Ar 1) (zg zJ (zd 0) (Ar 8))) zk)) (gN 3)
  (zx (zD 1 (zg zS (zd 1) (zg zH (As "etaoinshrdlucmfwypvbgkjqxz") (zg zJ (zd 2) (Ar 26)))))
  (zD 2 (zg zJ (zg yY (zd 2) (Ar 16807)) (Ar 2147483647))))) (vS)
def vU:Aj :=
  zx (zD 2 (zg zJ (zg yh (zd 0) (Ar 8)) (Ar 2147483647))) (vT)
def vV:Aj :=
  zx (zD 1 (As "")) (vU)
def wY:Al:=zE 1 4 (vV)
def zdE (T:Txt w K mg):b_ P w K mg base "_law_word" 1 wY:=T.f__law_word.ok (k:=0) zaO λ_ _ _ _ _ _ _ hr=>by
 exact "x h1 czao czaO.nd x h2 H eyH D r r czaO.nd x u z q eyC r H D r s"
 exact (kF 3 zaO.nd)
 exact "x h1 eyC b1 k o czao H b2 r p czaO.nd y h2 H ewt b2 r r czaO.nd y C b1"
def wy:aJ ["_law_cell_here", "_law_word_here", "_law_at", "_law_spoilt", "_law_far", "_law_some"] ["_law_cell_here"] (zC vF):=by exact "N"
def nv:Aj :=
  (zQ (zg zH (zd 5) (zg zJ (zd 0) (Ar 20))))
def ny:Aj :=
  zx (zD 5 (zg zS (zd 5) (jh (ze (jx [((mC .non),(Ar 1))]) (ze (jx [((mC (.bl true)),(zd 1))]) (ze (jx [((yB (ze (Ar 1) zk)),(Ar 1))]) (ze (jx [((As "a"),(Ar 1)),((yB (ze (zd 1) zk)),(Ar 2))]) zk))))))) (nv)
def nA:Aj :=
  zx (zD 5 (zg zS (zd 5) (jh (ze (zd 3) (ze (jh (ze (Ar 1) zk)) (ze (jh zk) (ze (iB [((zd 3),(Ar 1))]) (ze (mZ ["", "a"] [(Ar 1),(Ar 2)]) (ze (jx [((Ar 1),(Ar 1))]) (ze (iB [((yI (zg yY (zd 1) (Ar 9)) ba (bf (Ar 9))),(yB zk))]) zk)))))))))) (ny)
def nB:Aj :=
  zx (zD 5 (jh (ze (mC (.bl true)) (ze (mC (.bl false)) (ze (mC .non) (ze (zg zS (zg jp (Ar 10) (Ar 18)) (zd 4)) (ze (zg yW (zg yW (Ar 0) (zg jp (Ar 10) (Ar 18))) (zd 4)) (ze (zg jp (Ar 10) (Ar 18)) (ze (zg yW (Ar 0) (zg jp (Ar 10) (Ar 18))) (ze (As "") (ze (yI (zg yY (zd 1) (Ar 9)) ba (bf (Ar 9))) zk))))))))))) (nA)
def G9:Aj :=
  zx (zD 4 (zg zJ (zg yh (zd 0) (Ar 20)) (zg jp (Ar 10) (Ar 30)))) (nB)
def G_:Aj :=
  zx (zD 3 (zg zS (zg zS (yI (zd 1) ba (bf (zd 2))) (zg zH (As "AZ09 _'-") (zg zJ (zg yh (zd 0) (Ar 3)) (Ar 8)))) (yI (zd 1) (bf (zd 2)) ba))) (G9)
def Ha:Aj :=
  zx (zD 2 (zg zJ (zg yh (zd 0) (Ar 7)) (zg zS (zo zZ (ze (zd 1) zk)) (Ar 1)))) (G_)
def Hb:Aj :=
  zx (zD 1 (zo wY (ze (zg yh (zd 0) (Ar 20)) zk))) (Ha)
def iJ:Al:=zE 1 6 (Hb)
def zmp (T:Txt w K mg):b_ P w K mg base "_law_odd" 2 iJ:=T.f__law_odd.ok (k:=1) wy λ_ _ _ _ _ _ _ hr=>by
 exact "x h1 fzdE q eyH D r s cwy.nd x h2 H eyH D r eyC j q b1 s r cwy.nd x h3 eyC eyC gjS b1 cjQ djR b2 k o czao H eyH D r r p gjS b1 djR b2 cjQ cwy.nd x h4 H eyH D r ezaq r r cwy.nd x h5 djP q cjw q cjw q czeP q eyC ezaq r r b4 q ej0 ej0 r ezaq r r b4 q ezaq r r q ej0 r ezaq r r q czao q gjS ewt b1 r cjQ djR r s cwy.nd x h5 eyC b5 djP q b3 q djP q r s q djP s q BzfH gwu b3 r cwV q Bzlg azfr r azfr r czlh q t gwu r r cwV q BzfH gwu gjS ewt b1 r cjQ djR r djC s cwV s cwy.nd x h5 eyC b5 djP q t gwu czeP r cwV q t gwu cjw b1 cwV q t gwu djC q r s r cwV q t gwu czao r gwu djC q b1 s r cwV s cwy.nd y C k o b5 H D r p"
def zge:aJ ["_law_cell_here", "_law_far"] ["_law_cell_here"] (zC vG):=by exact "N"
def vW:Aj :=
  (zQ (zg yW (zg zJ (zg yh (zd 0) (Ar 5)) (Ar 9)) (Ar 2)))
def qF:Aj :=
  zx (zX (mB (zg yy (zg zJ (zd 0) (Ar 5)) (Ar 3)))
  (zQ (zg yW (zg zJ (zg yh (zd 0) (Ar 5)) (Ar 2001)) (Ar 1000)))
  yu) (vW)
def nC:Aj :=
  zx (zX (mB (zg yy (zg zJ (zd 0) (Ar 5)) (Ar 2)))
  (zQ (zg yW (zg zJ (zg yh (zd 0) (Ar 5)) (zg zS (zg yY (Ar 2) (zd 1)) (Ar 1))) (zd 1)))
  yu) (qF)
def iK:Aj :=
  zx (zX (mB (zg yy (zg zJ (zd 0) (Ar 5)) (Ar 1)))
  (zQ (zg zH (jh (ze (zd 1) (ze (wJ h_ (zd 1)) zk))) (zg zJ (zg yh (zd 0) (Ar 5)) (Ar 2))))
  yu) (nC)
def iL:Aj :=
  zx (zD 1 (zg yW (zg jp (Ar 10) (Ar 18)) (Ar 1))) (iK)
def j6:Al:=zE 1 2 (iL)
def zmq (T:Txt w K mg):b_ P w K mg base "_law_number" 1 j6:=T.f__law_number.ok (k:=0) zge λ_ _ _ _ _ _ _ hr=>by
 exact "x h1 ej0 ezaq r r r czge.nd x gyv mja H D r r y C k o djP q b1 q E b1 s H eyH D r r p cyJ x gyv mja H D r r y C ej0 H eyH D r eyC ewt r b1 r b1 cyJ x gyv mja H D r r y C ej0 H eyH D r r r cyJ y C ej0 H eyH D r r r"
def zaS:aJ ["_law_cell_here", "_law_many", "_law_word_here", "_law_at", "_law_keys_here", "_law_k", "_law_letter"] ["_law_cell_here", "_law_many"] (zC vH):=by exact "N"
def Hc:Aj :=
  (zQ (zd 4))
def Hd:Aj :=
  zx (wO (cS (ze (zd 1) zk)) (gN 5)
  (zx (zD 6 (zg zH (As "abcdefghijklmnopqrstuvwxyz") (zg zJ (zg zS (zg yh (zd 0) (Ar 11)) (zg yY (Ar 3) (zd 5))) (Ar 26))))
  (yN (yK jb (zd 4) (zg zS (zg zS (yI (zd 2) ba (bf (zd 3))) (zd 6)) (yI (zd 2) (bf (zd 3)) ba)))))) (Hc)
def He:Aj :=
  zx (zD 4 (jh zk)) (Hd)
def Hf:Aj :=
  zx (zD 3 (zg zJ (zg yh (zd 0) (Ar 5)) (zg zS (zo zZ (ze (zd 2) zk)) (Ar 1)))) (He)
def Hg:Aj :=
  zx (zD 2 (yI (zo wY (ze (zd 0) zk)) ba (bf (Ar 7)))) (Hf)
def nE:Al:=zE 2 7 (Hg)
def zmw (T:Txt w K mg):b_ P w K mg base "_law_keys" 2 nE:=T.f__law_keys.ok (k:=1) zaS λ_ _ _ _ _ _ _ hr=>by
 exact "x h2 gjS fzdE q D s cjQ djR r czaS.nd x h3 H eyH D r eyC j q b2 s r czaS.nd x h4 djP s czaS.nd x u z q b1 s"
 exact (kF 5 zaS.nd)
 exact "x h6 k o czao H eyC eyH D r ewt r b5 r p czaS.nd y dwN azaw b4 eyC eyC gjS b2 cjQ djR b3 b6 gjS b2 djR b3 cjQ y C b4"
def zcp:aJ ["_law_cell_here", "_law_things", "_law_record_here", "_law_keys_here", "_law_k"] ["_law_cell_here", "_law_things"] (zC vI):=by exact "N"
def Hh:Aj :=
  (zQ (zd 2))
def Hi:Aj :=
  zx (wO (cS (ze (zo zZ (ze (zd 1) zk)) zk)) (gN 4)
  (mW (zd 2) (zg zH (zd 3) (zd 4)) (zg zH (zd 1) (zd 4)))) (Hh)
def Hj:Aj :=
  zx (zD 3 (zo nE (ze (zd 0) (ze (zo zZ (ze (zd 1) zk)) zk)))) (Hi)
def Hk:Aj :=
  zx (zD 2 uw) (Hj)
def lr:Al:=zE 2 5 (Hk)
def zmB (T:Txt w K mg):b_ P w K mg base "_law_record" 3 lr:=T.f__law_record.ok (k:=2) zcp λ_ _ _ _ _ _ _ hr=>by
 exact "x h2 czkY czcp.nd x h3 fzmw q D q j q b1 s s czcp.nd x u z q j q b1 s s"
 exact (kF 4 zcp.nd)
 exact "y"
 refine Ff ?_ ?_ ?_ ?_ ?_
 exact (zO hr)
 exact "b2 k o b3 b4 p k o b1 b4 p"
 rfl
 exact "y C b2"
def jy:aJ ["_law_script", "_law_size", "_law_bad", "_law_stack", "_law_deep", "_law_k", "_law_cell_here", "_law_many", "_law_held", "_law_count_here", "_law_good", "_law_things"] ["_law_script", "_law_size", "_law_bad"] (zC zbp):=by exact "N"
def Hl:Aj :=
  (zQ (zd 3))
def Hm:Aj :=
  zx (wO (cS (ze (zd 1) zk)) (gN 5)
  (zx (zD 6 (zo js (ze (zd 0) (ze (zg zS (Ar 3) (zd 5)) zk))))
  (zx (zD 7 (zo wT (ze (zg zJ (zg yh (zd 6) (Ar 4)) (Ar 5)) (ze (zo zZ (ze (zd 3) zk)) zk))))
  (zx (zX (mB (zd 4))
  (zD 7 (zo wT (ze (Ar 1) (ze (zo zZ (ze (zd 3) zk)) zk))))
  yu)
  (zx (zD 8 (yI (zd 3) (bf (zg yW (zo zZ (ze (zd 3) zk)) (zd 7))) ba))
  (zx (zD 9 (zg zS (Ar 1) (zo iq (ze (yo (yD (zd 8)) (zg zH (zd 0) (Ar 1))) zk))))
  (zx (zD 10 (zo jT (ze (yo (yD (zd 8)) (zg zH (zd 0) (Ar 2))) zk)))
  (zX (mB (zg yy (zd 5) (zd 2)))
  (yN (yK jb (zd 3) (yB (ze (zo iJ (ze (zd 6) zk)) (ze (Ar 1) (ze (mC (.bl false)) zk))))))
  (zX (mB (zg yy (zg zJ (zd 6) (Ar 4)) (Ar 0)))
  (yN (yK jb (zd 3) (yB (ze (zo j6 (ze (zg yh (zd 6) (Ar 4)) zk)) (ze (Ar 1) (ze (mC (.bl true)) zk))))))
  (zX (yT (mB (zg yy (zg zJ (zd 6) (Ar 4)) (Ar 1))) (yU (mB (zd 4))))
  (yN (yK jb (zd 3) (yB (ze (zo wY (ze (zg yh (zd 6) (Ar 4)) zk)) (ze (Ar 1) (ze (mC (.bl true)) zk))))))
  (zx (zD 3 (yI (zd 3) ba (bf (zg yW (zo zZ (ze (zd 3) zk)) (zd 7)))))
  (zx (zD 11 (yo (yD (zd 8)) (zg zH (zd 0) (Ar 0))))
  (zX (mB (zg yy (zg zJ (zd 6) (Ar 4)) (Ar 2)))
  (yN (yK jb (zd 3) (yB (ze (zo wM (ze (zd 11) zk)) (ze (zd 9) (ze (zd 10) zk))))))
  (yN (yK jb (zd 3) (yB (ze (zo lr (ze (zg yh (zd 6) (Ar 4)) (ze (zd 11) zk))) (ze (zd 9) (ze (zd 10) zk))))))))))))))))))) (Hl)
def Hn:Aj :=
  zx (zD 4 (zg yy (zg zJ (zo js (ze (zd 0) (ze (Ar 2) zk))) (Ar 3)) (Ar 1))) (Hm)
def Ho:Aj :=
  zx (zD 3 (jh zk)) (Hn)
def nF:Al:=zE 3 12 (Ho)
def zmG (T:Txt w K mg):b_ P w K mg base "_law_built" 4 nF:=T.f__law_built.ok (k:=3) jy λ_ _ _ _ _ _ _ hr=>by
 exact "x h3 djP s J x h4 mjZ H fzaN q D q r s r r J x u z q b1 s"
 exact (kF 5 jy.nd)
 exact "x h6 fzaN q D q eyC r b5 s J x h7 K q H eyH b6 r r q j q b3 s s J x gyv dy4 b4 y h7 K q r q j q b3 s s J cyJ x h8 gjS b3 djR ej0 j q b3 s b7 cjQ J x h9 eyC r L q i dj2 b8 w k o D r p s J x h10 v q i dj2 b8 w k o D r p s J y gyv mja b5 b2 y dwN azaw b3 djC q fzmp q b6 s q r q cjw s y gyv mja H b6 r r y dwN azaw b3 djC q fzmq q eyH b6 r s q r q cjw s y gyv dza4 azap mja H b6 r r dzbU dwK dy4 b4 y dwN azaw b3 djC q fzdE q eyH b6 r s q r q cjw s x h3 gjS b3 cjQ djR ej0 j q b3 s b7 J x"
 refine uW 11 (N:=["_law_script", "_law_size", "_law_bad", "_law_stack", "_law_deep", "_law_k", "_law_cell_here", "_law_many", "_law_held", "_law_count_here", "_law_good", "_law_things"]) rfl (by exact "Ozbp") rfl (by decide +kernel) ?_ ?_ jy.nd rfl (by exact "R") (by exact "S") (by rfl)
 exact "dj2 b8 w k o D r p y gyv mja H b6 r r y dwN azaw b3 djC q"
 refine pN tV T.b_tuple mU ?_
 exact "q b11 s q b9 q b10 s y dwN azaw b3 djC q fzmB q eyH b6 r q b11 s q b9 q b10 s y C b3"
def wz:aJ ["_law_script", "_law_first", "_law_size", "_law_bad", "_law_stack", "_law_things"] ["_law_script"] (zC zbq):=by exact "N"
def vX:Aj :=
  (zQ (yB (ze (zo wM (ze (zd 5) zk)) (ze (zg zS (Ar 1) (zo iq (ze (yo (yD (zd 4)) (zg zH (zd 0) (Ar 1))) zk))) (ze (zo jT (ze (yo (yD (zd 4)) (zg zH (zd 0) (Ar 2))) zk)) zk)))))
def qG:Aj :=
  zx (zD 5 (yo (yD (zd 4)) (zg zH (zd 0) (Ar 0)))) (vX)
def lu:Aj :=
  zx (zX (yT (mB (zg pD (zo zZ (ze (zd 4) zk)) (Ar 0))) (mB (zg yy (zg zJ (zg yh (zo js (ze (zd 0) (ze (Ar 2) zk))) (Ar 3)) (Ar 2)) (Ar 1))))
  (zQ (zg zH (zd 4) (wJ h_ (Ar 1))))
  yu) (qG)
def qH:Aj :=
  zx (zD 4 (zo nF (ze (zd 0) (ze (zd 2) (ze (zd 3) zk))))) (lu)
def qI:Aj :=
  zx (zX (mB (zg yy (zg zJ (zo js (ze (zd 0) (ze (Ar 1) zk))) (Ar 2)) (Ar 1)))
  (zD 3 (zg zJ (zg yh (zo js (ze (zd 0) (ze (Ar 1) zk))) (Ar 2)) (zo m7 (ze (Ar 1) (ze (zd 2) zk)))))
  yu) (qH)
def ly:Aj :=
  zx (zD 3 (wJ h_ (Ar 1))) (qI)
def vY:Aj :=
  zx (zX (mB (zg yy (zg zJ (zd 1) (Ar 3)) (Ar 1)))
  (zD 2 (zg zS (Ar 57) (zg zJ (zg yh (zd 1) (Ar 3)) (Ar 6))))
  yu) (ly)
def nG:Aj :=
  zx (zD 2 (zg zJ (zg yh (zd 1) (Ar 3)) (Ar 12))) (vY)
def qJ:Aj :=
  zx (zD 1 (zo js (ze (zd 0) (ze (Ar 0) zk)))) (nG)
def wZ:Al:=zE 1 6 (qJ)
def zgi (T:Txt w K mg):b_ P w K mg base "_law_made" 5 wZ:=T.f__law_made.ok (k:=4) wz λ_ _ _ _ _ _ _ hr=>by
 exact "x h1 fzaN q D q r s cwz.nd x h2 H eyH b1 r r cwz.nd x gyv mja H b1 r r y h2 eyC r H eyH b1 r r cwz.nd cyJ x h3 E r cwz.nd x gyv mja H fzaN q D q r s r r y h3 H eyH fzaN q D q r s r"
 refine zT (FC rfl) T.b_max FE ?_
 exact "q r q b2 s cwz.nd cyJ x h4 fzmG q D q b2 q b3 s cwz.nd x gyv dza4 azap Azkg j q b4 s r dzbU mja H eyH fzaN q D q r s r r r y C k o b4 E r p cyJ x"
 refine uW 5 (N:=["_law_script", "_law_first", "_law_size", "_law_bad", "_law_stack", "_law_things"]) rfl (by exact "Ozbq") rfl (by decide +kernel) ?_ ?_ wz.nd rfl (by exact "R") (by exact "S") (by rfl)
 exact "dj2 b4 w k o D r p y C djC q"
 refine pN tV T.b_tuple mU ?_
 exact "q b5 s q eyC r L q n dj2 b4 w k o D r p s q v q n dj2 b4 w k o D r p s s"
def Hq:aJ ["_law_found", "_law_due"] ["_law_found", "_law_due"] (zC vJ):=by exact "N"
def Hr:Aj :=
  (zQ (jo (zo yq (ze (zd 0) (ze (mC (.ty "bool")) zk))) (zg yy (zd 0) (zd 1))))
def wA:Al:=zE 2 2 (Hr)
def zdK (T:Txt w K mg):b_ P w K mg base "_law_told" 1 wA:=T.f__law_told.ok (k:=0) Hq λ_ _ _ _ _ _ _ hr=>by
 exact "y C awq l q D q F s dwL mjZ D b1"
def Hs:aJ ["thing"] ["thing"] (zC vK):=by exact "N"
def vZ:Aj :=
  (zQ (jh zk))
def nH:Aj :=
  zx (zX (mB (zo yq (ze (zd 0) (ze (mC (.ty "dict")) zk))))
  (zQ (lh 0))
  yu) (vZ)
def lD:Aj :=
  zx (zX (mB (zo yq (ze (zd 0) (ze (mC (.ty "tuple")) zk))))
  (zQ (zo pO (ze (zd 0) zk)))
  yu) (nH)
def j7:Al:=zE 1 1 (lD)
def zmK (T:Txt w K mg):b_ P w K mg base "things_within" 1 j7:=T.f_things_within.ok (k:=0) Hs λ_ _ _ _ _ _ _ hr=>by
 exact "x gyv dy4 l q D q"
 exact (jE T.b_tuple mU)
 exact "s y C"
 refine pN Eo T.b_list pQ ?_
 exact "q D s cyJ x gyv dy4 l q D q"
 exact (jE T.b_dict uc)
 exact "s y C"
 refine GQ rfl T.b_list ?_
 exact "D cyJ y C djP s"
def zct:aJ ["thing", "found", "place"] ["thing"] (zC vL):=by exact "N"
def v5:Aj :=
  (zQ (zd 1))
def v7:Aj :=
  zx (pP (mB (zg jD (zd 2) (zo zZ (ze (zd 1) zk))))
  (zx (yN (yK mP (zd 1) (zo j7 (ze (zg zH (zd 1) (zd 2)) zk))))
  (kE 2 fy (Ar 1)))) (v5)
def v8:Aj :=
  zx (zD 2 (Ar 0)) (v7)
def v9:Aj :=
  zx (zD 1 (jh (ze (zd 0) zk))) (v8)
def lE:Al:=zE 1 3 (v9)
def zgo (T:Txt w K mg):b_ P w K mg base "all_within" 2 lE:=T.f_all_within.ok (k:=1) zct λ_ _ _ _ _ _ _ hr=>by
 exact "x h1 djP q D s czct.nd x h2 r czct.nd x"
 refine EM (tJ rfl rfl) ?_ ?_
 exact "Azas b2 j q b1 s x dwN azkD b1 fzmK q k o b1 b2 p s y"
 refine Ey 2 Ex ?_ zct.nd
 exact "r y C b1"
def Ht:aJ ["number"] ["number"] (zC vM):=by exact "N"
def v_:Aj :=
  (zQ (jY jD jD (wJ h_ (Ar 1000000000000000000)) (zd 0) (Ar 1000000000000000000)))
def qK:Al:=zE 1 1 (v_)
def zmM (T:Txt w K mg):b_ P w K mg base "in_bounds" 1 qK:=T.f_in_bounds.ok (k:=0) Ht λ_ _ _ _ _ _ _ hr=>by
 exact "y C"
 refine D6 zas zas ?_ ?_ ?_
 exact "E MT.c_NUMBER_BOUND D MT.c_NUMBER_BOUND"
def Hu:aJ ["thing"] ["thing"] (zC zdz):=by exact "N"
def w_:Aj :=
  (zQ (zo jT (ze (yo (yD (zd 0)) (zg (yX false) (zd 0) (As "abcdefghijklmnopqrstuvwxyz"))) zk)))
def lF:Aj :=
  zx (zX (mI (yU (mB (zo yq (ze (zd 0) (ze (mC (.ty "str")) zk))))) (yU (mB (jY ji ji (Ar 1) (zo zZ (ze (zd 0) zk)) (Ar 8)))))
  (zQ (mC (.bl false)))
  yu) (w_)
def jc:Al:=zE 1 1 (lF)
def zgr (T:Txt w K mg):b_ P w K mg base "is_word" 1 jc:=T.f_is_word.ok (k:=0) Hu λ_ _ _ _ _ _ _ hr=>by
 exact "x gyv dza4 azj1 dwK dy4 l q D q"
 exact (jE T.b_str ub)
 exact "s dzj0 dwK"
 refine D7 zat zat ?_ ?_ ?_
 exact "r j q D s MT.c_MOST_SIGNS y C cjw cyJ y C v q"
 refine mX (N:=["thing"]) rfl (by exact "Ozdz") rfl (by decide +kernel) ?_ ?_
 exact "dj2 D w"
 refine jZ (Fm (zO hr)) ?_ ?_
 exact "D"
 exact (ET T.c_LETTERS)
 exact "s"
def Hv:aJ ["thing"] ["thing"] (zC zdA):=by exact "N"
def iM:Aj :=
  (zQ (zo yq (ze (zd 0) (ze (mC (.ty "tuple")) zk))))
def iN:Aj :=
  zx (zX (mB (zo yq (ze (zd 0) (ze (mC (.ty "dict")) zk))))
  (zQ (zo jT (ze (wx 0 (zo jc (ze (zd 0) zk))) zk)))
  yu) (iM)
def w4:Aj :=
  zx (zX (mB (zo yq (ze (zd 0) (ze (mC (.ty "str")) zk))))
  (zQ (zo jc (ze (zd 0) zk)))
  yu) (iN)
def wB:Aj :=
  zx (zX (mB (zo yq (ze (zd 0) (ze (mC (.ty "int")) zk))))
  (zQ (zo qK (ze (zd 0) zk)))
  yu) (w4)
def j8:Aj :=
  zx (zX (mB (zo yq (ze (zd 0) (ze (mC (.ty "bool")) zk))))
  (zQ (mC (.bl false)))
  yu) (wB)
def jt:Al:=zE 1 1 (j8)
def zmP (T:Txt w K mg):b_ P w K mg base "may_stand" 2 jt:=T.f_may_stand.ok (k:=1) Hv λ_ _ _ _ _ _ _ hr=>by
 exact "x gyv dy4 l q D q F s y C cjw cyJ x gyv dy4 l q D q"
 exact (jE T.b_int ua)
 exact "s y C fzmM q D s cyJ x gyv dy4 l q D q"
 exact (jE T.b_str ub)
 exact "s y C fzgr q D s cyJ x gyv dy4 l q D q"
 exact (jE T.b_dict uc)
 exact "s y C v q"
 refine GZ (N:=["thing"]) rfl (by exact "OzdA") rfl (by decide +kernel) ?_ ?_
 exact "D w Izgr q D s s cyJ y C l q D q"
 exact (jE T.b_tuple mU)
 exact "s"
def zgs:aJ ["thing", "found"] ["thing"] (zC zdB):=by exact "N"
def qL:Aj :=
  (zQ (jo (zg ji (zo zZ (ze (zd 1) zk)) (Ar 60)) (zo jT (ze (yo (yD (zd 1)) (zo jt (ze (zd 0) zk))) zk))))
def qM:Aj :=
  zx (zD 1 (zo lE (ze (zd 0) zk))) (qL)
def j9:Al:=zE 1 2 (qM)
def zdO (T:Txt w K mg):b_ P w K mg base "is_value" 3 j9:=T.f_is_value.ok (k:=2) zgs λ_ _ _ _ _ _ _ hr=>by
 exact "x h1 fzgo q D s czgs.nd y C awq Gzat j q b1 s MT.c_MOST_PARTS dwL v q"
 refine mX (N:=["thing", "found"]) rfl (by exact "OzdB") rfl (by decide +kernel) ?_ ?_
 exact "dj2 b1 w IzmP q D s s"
def Hw:aJ ["_law_found", "_law_due"] ["_law_found", "_law_due"] (zC vN):=by exact "N"
def xb:Aj :=
  (zQ (jo (zo yq (ze (zd 0) (ze (mC (.ty "int")) zk))) (jo (pA (zo yq (ze (zd 0) (ze (mC (.ty "bool")) zk)))) (zg yy (zd 0) (zd 1)))))
def w5:Al:=zE 2 2 (xb)
def zgu (T:Txt w K mg):b_ P w K mg base "_law_count" 1 w5:=T.f__law_count.ok (k:=0) Hw λ_ _ _ _ _ _ _ hr=>by
 exact "y C awq l q D q"
 exact (jE T.b_int ua)
 exact "s awq dzj2 l q D q F s dwL mjZ D b1"
def Hx:aJ ["value"] ["value"] (zC vO):=by exact "N"
def xf:Aj :=
  (zQ (zo zZ (ze (zo lE (ze (zd 0) zk)) zk)))
def w6:Al:=zE 1 1 (xf)
def zgw (T:Txt w K mg):b_ P w K mg base "parts" 3 w6:=T.f_parts.ok (k:=2) Hx λ_ _ _ _ _ _ _ hr=>by
 exact "y C j q fzgo q D s s"
def xg:aJ ["_law_script", "_law_thing", "_law_many", "_law_good"] ["_law_script"] (zC qD):=by exact "N"
def xh:Aj :=
  (zQ (jo (zo wA (ze (zo j9 (ze (zd 1) zk)) (ze (jo (zd 3) (zg ji (zd 2) (Ar 60))) zk))) (zg nu (zd 1) (zg zH (zo wZ (ze (zd 0) zk)) (Ar 0)))))
def xi:Aj :=
  zx (zX (yT (mB (zd 3)) (yT (mB (zg jD (zd 2) (Ar 60))) (yU (mB (zo w5 (ze (zo w6 (ze (yB (ze (zd 1) zk)) zk)) (ze (zg zS (zd 2) (Ar 1)) zk)))))))
  (zQ (mC (.bl false)))
  yu) (xh)
def xj:Aj :=
  zx (zX (yU (mB (zo wA (ze (zo j9 (ze (yB (ze (zd 1) zk)) zk)) (ze (jo (zd 3) (zg jD (zd 2) (Ar 60))) zk)))))
  (zQ (mC (.bl false)))
  yu) (xi)
def xk:Aj :=
  zx (zX (yT (mB (zd 3)) (yT (mB (zg ji (zd 2) (Ar 60))) (yU (mB (zo w5 (ze (zo w6 (ze (zd 1) zk)) (ze (zd 2) zk)))))))
  (zQ (mC (.bl false)))
  yu) (xj)
def xl:Aj :=
  zx (zX (yU (mB (zo wA (ze (zo j9 (ze (zd 1) zk)) (ze (jo (zd 3) (zg ji (zd 2) (Ar 60))) zk)))))
  (zQ (mC (.bl false)))
  yu) (xk)
def Hy:Aj :=
  zx (mN (g3 1 2 3) (zo wZ (ze (zd 0) zk))) (xl)
def qN:Al:=zE 1 4 (Hy)
def zmT (T:Txt w K mg) {f:Addr} {fd:FuncData} (F:cK K "law" "law" qD f fd):a_ P w K mg base (bT P w) 6 f fd ["_law_script"] (fw K mg qN):=mT (k:=5) F xg λaQ A outer s H E hr =>by
 exact "x azku"
 exact (EA 1 2 3 rfl xg.nd)
 exact "fzgi q D s x gyv dwK dy4 fzdK q fzdO q b1 s q awq b3 dwL Gzat b2 r s y C cjw cyJ x gyv dza4 azap dy4 b3 azap Azat b2 r dzbU dwK dy4 fzgu q fzgw q b1 s q b2 s y C cjw cyJ x gyv dwK dy4 fzdK q fzdO q djC q b1 s s q awq b3 dwL Gzas b2 r s y C cjw cyJ x gyv dza4 azap dy4 b3 azap Azas b2 r dzbU dwK dy4 fzgu q fzgw q djC q b1 s s q eyC b2 r s y C cjw cyJ y C awq fzdK q fzdO q b1 s q awq b3 dwL Gzat b2 r s dwL"
 refine jZ (G8 (zO hr)) ?_ ?_
 exact "b1 k o fzgi q D s r p"
end
def y0 (i j:Int) (h:0<j):zI i j=i%j:=by unfold zI;rw [zu h]
def qO (i j:Int) (h:0<j):zY i j=i/j:=by unfold zY;rw [zu h]
def bu {α:Type}{l:List α}{k:Nat}{x:α}(h:l[k]?=some x):bt l (k:Int)=some x:=by
 obtain ⟨hl,e⟩:=zM.mp h
 simp [bt,di,hl,e]
inductive Tr where
 |num (i:Int)|word (z:Str)|row (ts:List Tr)|rec_ (ks:Ad) (ts:List Tr)|tru (b:Bool)|non|lst (is:List Int)|od (c:OC) (ts:List Tr)
mutual
def sz:Tr->Nat
 |.row ts=>1+a9 ts
 |.rec_ _ ts=>1+a9 ts
 |.od _ ts=>1+a9 ts
 |_=>1
def a9:List Tr->Nat
 |[]=>0
 |t::ts=>sz t+a9 ts
end
mutual
def dp:Tr->Nat
 |.row ts=>1+bM ts
 |.rec_ _ ts=>1+bM ts
 |.od _ ts=>1+bM ts
 |_=>0
def bM:List Tr->Nat
 |[]=>0
 |t::ts=>max (dp t) (bM ts)
end
def OW:OC->Prop
 |.mix z _=>z.length<=1000
 |_=>True
mutual
def TR (r:Nat) (st:aj):Tr->PV->Prop
 |.num i,v=>v=.int i
 |.word z,v=>v=.str z/\z.length<=1000
 |.row ts,v=>∃xs,v=.tup xs/\aR r st ts xs
 |.rec_ ks ts,v=>∃n xs,v=.ref n/\n≠r/\st[n]?=some (.dic ks xs)/\ks.Nodup/\ks.length=xs.length/\aR r st ts xs/\∀k∈ks,k.length<=1000
 |.tru b,v=>v=.bl b
 |.non,v=>v=.non
 |.lst is,v=>∃n,v=.ref n/\n≠r/\st[n]?=some (.lst (is.map PV.int))
 |.od c ts,v=>∃n xs,v=.ref n/\n≠r/\st[n]?=some (.odd c xs)/\aR r st ts xs/\OW c
def aR (r:Nat) (st:aj):List Tr->List PV->Prop
 |[],xs=>xs=[]
 |t::ts,xs=>∃x q,xs=x::q/\TR r st t x/\aR r st ts q
end
def Old (a b:aj):Prop:=∀(n:Nat) so,a[n]?=some so->b[n]?=some so
def Old.refl (a:aj):Old a a:=λ_ _ e=>e
def Old.trans {a b c:aj}(h:Old a b) (h':Old b c):Old a c:=λn so e=>h' n so (h n so e)
def gH {a b:aj}(h:Pre a b):Old a b:=λn so e=>h.get e
def qP (a d:aj):Old a (a++d):=gH (Pre.of a d)
def Ob (r:Nat) (a b:aj):Prop:=∀(n:Nat) so,n≠r->a[n]?=some so->b[n]?=some so
def Ob.trans {r:Nat}{a b c:aj}(h:Ob r a b) (h':Ob r b c):Ob r a c:=λn so ne e=>h' n so ne (h n so ne e)
def Ob.refl (r:Nat) (a:aj):Ob r a a:=λ_ _ _ e=>e
def wa {r:Nat}{a b:aj}(h:Old a b):Ob r a b:=λn so _ e=>h n so e
def wc {r:Nat}{a b:aj}(h:Pre a b):Ob r a b:=wa (gH h)
def iO (r:Nat) (a d:aj):Ob r a (a++d):=wa (qP a d)
def xm (r:Nat) (a:aj) (so:SO):Ob r a (a.set r so):=λn s ne e=>by rw [gU (yS ne)];exact e
mutual
theorem TR.mono {r:Nat}{a b:aj}(d:Ob r a b):∀(t:Tr) {v:PV},TR r a t v->TR r b t v
 |.num _,_,h=>h
 |.word _,_,h=>h
 |.tru _,_,h=>h
 |.non,_,h=>h
 |.row ts,_,h=>by obtain ⟨xs,e,q⟩:=h;exact ⟨xs,e,aR.mono d ts q⟩
 |.rec_ ks ts,_,h=>by obtain ⟨n,xs,e,ne,h1,h2,h3,q,h4⟩:=h;exact ⟨n,xs,e,ne,d _ _ ne h1,h2,h3,aR.mono d ts q,h4⟩
 |.lst is,_,h=>by obtain ⟨n,e,ne,h1⟩:=h;exact ⟨n,e,ne,d _ _ ne h1⟩
 |.od c ts,_,h=>by obtain ⟨n,xs,e,ne,h1,q,h4⟩:=h;exact ⟨n,xs,e,ne,d _ _ ne h1,aR.mono d ts q,h4⟩
theorem aR.mono {r:Nat}{a b:aj}(d:Ob r a b):∀(ts:List Tr) {xs:An},aR r a ts xs->aR r b ts xs
 |[],_,h=>h
 |t::ts,_,h=>by obtain ⟨x,q,e,h1,h2⟩:=h;exact ⟨x,q,e,TR.mono d t h1,aR.mono d ts h2⟩
end
def nI {st:aj}{n r:Nat}{so:SO}(h:st[n]?=some so) (hr:st.length<=r):n≠r:=by
 have:=(zM.mp h).1
 omega
mutual
theorem TR.new {r r':Nat}{st:aj}(hr:st.length<=r'):∀(t:Tr) {v:PV},TR r st t v->TR r' st t v
 |.num _,_,h=>h
 |.word _,_,h=>h
 |.tru _,_,h=>h
 |.non,_,h=>h
 |.row ts,_,h=>by obtain ⟨xs,e,q⟩:=h;exact ⟨xs,e,aR.new hr ts q⟩
 |.rec_ ks ts,_,h=>by obtain ⟨n,xs,e,ne,h1,h2,h3,q,h4⟩:=h;exact ⟨n,xs,e,nI h1 hr,h1,h2,h3,aR.new hr ts q,h4⟩
 |.lst is,_,h=>by obtain ⟨n,e,ne,h1⟩:=h;exact ⟨n,e,nI h1 hr,h1⟩
 |.od c ts,_,h=>by obtain ⟨n,xs,e,ne,h1,q,h4⟩:=h;exact ⟨n,xs,e,nI h1 hr,h1,aR.new hr ts q,h4⟩
theorem aR.new {r r':Nat}{st:aj}(hr:st.length<=r'):∀(ts:List Tr) {xs:An},aR r st ts xs->aR r' st ts xs
 |[],_,h=>h
 |t::ts,_,h=>by obtain ⟨x,q,e,h1,h2⟩:=h;exact ⟨x,q,e,TR.new hr t h1,aR.new hr ts h2⟩
end
theorem aR.len {r:Nat}{st:aj}:∀{ts:List Tr}{xs:An},aR r st ts xs->ts.length=xs.length
 |[],_,h=>by cases h;rfl
 |t::ts,_,h=>by obtain ⟨x,q,rfl,_,h2⟩:=h;simp [aR.len h2]
theorem aR.get {r:Nat}{st:aj}:∀{ts:List Tr}{xs:An}{i:Nat}{x:PV},aR r st ts xs->xs[i]?=some x->∃t,ts[i]?=some t/\TR r st t x
 |[],_,_,_,h,e=>by cases h;simp at e
 |t::ts,_,0,x,h,e=>by obtain ⟨y,q,rfl,h1,_⟩:=h;simp at e;subst e;exact ⟨t,by simp,h1⟩
 |t::ts,_,i+1,x,h,e=>by obtain ⟨y,q,rfl,_,h2⟩:=h;simp at e;simpa using aR.get h2 e
theorem aR.append {r:Nat}{st:aj}:∀{ts us:List Tr}{xs ys:An},aR r st ts xs->aR r st us ys->aR r st (ts++us) (xs++ys)
 |[],_,_,_,h,h'=>by cases h;exact h'
 |t::ts,_,_,_,h,h'=>by obtain ⟨y,q,rfl,h1,h2⟩:=h;exact ⟨y,q++_,rfl,h1,aR.append h2 h'⟩
def aR.one {r:Nat}{st:aj}{t:Tr}{v:PV}(h:TR r st t v):aR r st [t] [v]:=⟨v,[],rfl,h,rfl⟩
theorem nJ:∀a b:List Tr,a9 (a++b)=a9 a+a9 b
 |[],b=>by simp [a9]
 |t::a,b=>by simp only [List.cons_append,a9,nJ a b];omega
theorem qQ:∀a b:List Tr,bM (a++b)=max (bM a) (bM b)
 |[],b=>by simp [bM]
 |t::a,b=>by simp only [List.cons_append,bM,qQ a b];omega
def Hz (t:Tr):0<sz t:=by
 cases t<;>simp only [sz]<;>omega
theorem xn:∀{ts:List Tr}{t:Tr},t∈ts->sz t<=a9 ts
 |u::ts,t,h=>by
  rcases yt.mp h with rfl|h
  ·simp only [a9];omega
  ·have:=xn h;simp only [a9];omega
theorem lG:∀{ts:List Tr}{t:Tr},t∈ts->dp t<=bM ts
 |u::ts,t,h=>by
  rcases yt.mp h with rfl|h
  ·simp only [bM];omega
  ·have:=lG h;simp only [bM];omega
theorem lH:∀ts:List Tr,ts.length<=a9 ts
 |[]=>by simp [a9]
 |t::ts=>by have:=Hz t;have:=lH ts;simp only [a9,jM];omega
theorem nK {r r':Nat}{st:aj}{f:PV->PV->Bool}:∀(ts:List Tr) {xs ys:An},(∀t∈ts,∀v w,TR r st t v->TR r' st t w->f v w=true)->aR r st ts xs->aR r' st ts ys->cz f xs ys=true
 |[],_,_,_,h,h'=>by cases h;cases h';rfl
 |t::ts,_,_,hf,h,h'=>by
  obtain ⟨x,q,rfl,h1,h2⟩:=h
  obtain ⟨y,q',rfl,h3,h4⟩:=h'
  simp only [cz,hf t (yr ..) x y h1 h3,Bool.true_and]
  exact nK ts (λu hu=>hf u (yF _ hu)) h2 h4
theorem xo:∀is:List Int,c_ eq1 (is.map PV.int) (is.map PV.int)=some true
 |[]=>rfl
 |i::is=>by
  simp only [ym,c_,xo is]
  have:eq1 (.int i) (.int i)=some true:=by simp [eq1,Mi.plain,dep,bo]
  rw [this];rfl
def HA {r r':Nat}{st:aj}:∀(n:Nat) (t:Tr) (v w:PV),dp t<n->TR r st t v->TR r' st t w->cM st n v w=true:=by
 intro n
 induction n with
 |zero=>intro t v w h;omega
 |succ n ih =>
  intro t v w hd h h'
  cases t with
  |num i=>cases h;cases h';simp [cM]
  |word z=>obtain ⟨rfl,_⟩:=h;obtain ⟨rfl,_⟩:=h';simp [cM]
  |tru b=>cases h;cases h';simp [cM]
  |non=>cases h;cases h';simp [cM]
  |row ts =>
   obtain ⟨xs,rfl,q⟩:=h
   obtain ⟨ys,rfl,q'⟩:=h'
   simp only [dp] at hd
   show cz (cM st n) xs ys=true
   exact nK ts (λu hu v w=>ih u v w (by have:=lG hu;omega)) q q'
  |rec_ ks ts =>
   obtain ⟨a,xs,rfl,_,ha,nd,hl,q,_⟩:=h
   obtain ⟨b,ys,rfl,_,hb,_,_,q',_⟩:=h'
   simp only [dp] at hd
   show dU (cM st n) st[a]? st[b]?=true
   rw [ha,hb]
   simp only [dU,yA,wE]
   exact ⟨⟨trivial,nd,hl⟩,nK ts (λu hu v w=>ih u v w (by have:=lG hu;omega)) q q'⟩
  |lst is =>
   obtain ⟨a,rfl,_,ha⟩:=h
   obtain ⟨b,rfl,_,hb⟩:=h'
   show dU (cM st n) st[a]? st[b]?=true
   rw [ha,hb]
   simp only [dU,xo,decide_true]
  |od c ts =>
   obtain ⟨a,xs,rfl,_,ha,q,_⟩:=h
   obtain ⟨b,ys,rfl,_,hb,q',_⟩:=h'
   simp only [dp] at hd
   show dU (cM st n) st[a]? st[b]?=true
   rw [ha,hb]
   simp only [dU,yA,G3]
   exact ⟨trivial,nK ts (λu hu v w=>ih u v w (by have:=lG hu;omega)) q q'⟩
def ty:Tr->String
 |.num _ => "int"
 |.word _ => "str"
 |.row _ => "tuple"
 |.rec_ _ _ => "dict"
 |.tru _ => "bool"
 |.non => "NoneType"
 |.lst _ => "list"
 |.od _ _ => "dict"
def kids:Tr->List Tr
 |.row ts=>ts
 |.rec_ _ ts=>ts
 |.od _ ts=>ts
 |_=>[]
abbrev cA:Str := "abcdefghijklmnopqrstuvwxyz"
def bP (z:Str):Bool:=decide (1<=z.length)&&decide (z.length<=8)&&z.cps.toList.all λc=>decide (c∈cA.cps.toList)
def ok:Tr->Bool
 |.num i=>decide (-1000000000000000000<i)&&decide (i<1000000000000000000)
 |.word z=>bP z
 |.row _=>true
 |.rec_ ks _=>ks.all bP
 |_=>false
def oks:List Tr->Bool
 |[]=>true
 |t::ts=>ok t&&oks ts
mutual
def okT:Tr->Bool
 |.num i=>ok (.num i)
 |.word z=>ok (.word z)
 |.row ts=>ok (.row ts)&&okTs ts
 |.rec_ ks ts=>ok (.rec_ ks ts)&&okTs ts
 |_=>false
def okTs:List Tr->Bool
 |[]=>true
 |t::ts=>okT t&&okTs ts
end
theorem xq:∀a b:List Tr,oks (a++b)=(oks a&&oks b)
 |[],b=>by simp [oks]
 |t::a,b=>by simp only [List.cons_append,oks,xq a b,Bool.and_assoc]
theorem xr:∀a b:List Tr,okTs (a++b)=(okTs a&&okTs b)
 |[],b=>by simp [okTs]
 |t::a,b=>by simp only [List.cons_append,okTs,xr a b,Bool.and_assoc]
def HB (t:Tr):okT t=(ok t&&okTs (kids t)):=by
 cases t<;>simp [okT,kids,okTs,ok]
def HC (t:Tr):sz t=1+a9 (kids t):=by
 cases t<;>simp [sz,kids,a9]
def xt {r:Nat}{st:aj}{t:Tr}{v:PV}(h:TR r st t v) (n:String):yq [v,.ty n] st=fU (bj (ty t) n) st:=by
 have ref:∀{m:Nat} {T:String},qt st[m]?=some T->yq [.ref m,.ty n] st=fU (bj T n) st:=λ{m T} e=>by
  have e':tyP st (.ref m)=some T:=e
  simp only [yq,e']
 cases t with
 |num i=>cases h;rfl
 |word z=>obtain ⟨rfl,_⟩:=h;rfl
 |tru b=>cases h;rfl
 |non=>cases h;rfl
 |row ts=>obtain ⟨xs,rfl,_⟩:=h;rfl
 |rec_ ks ts=>obtain ⟨m,xs,rfl,_,hm,_⟩:=h;exact ref (by rw [hm];rfl)
 |lst is=>obtain ⟨m,rfl,_,hm⟩:=h;exact ref (by rw [hm];rfl)
 |od c ts=>obtain ⟨m,xs,rfl,_,hm,_⟩:=h;exact ref (by rw [hm];rfl)
@[simp] def Kh (b:Bool) (st:aj):fU (some b) st=.ok (.bl b) st:=(rfl)
@[simp] def t1:bj "int" "str" = some false:=(rfl)
@[simp] def t2:bj "int" "tuple" = some false:=(rfl)
@[simp] def t3:bj "int" "dict" = some false:=(rfl)
@[simp] def t4:bj "int" "int" = some true:=(rfl)
@[simp] def t5:bj "int" "bool" = some false:=(rfl)
@[simp] def t6:bj "str" "str" = some true:=(rfl)
@[simp] def t7:bj "str" "tuple" = some false:=(rfl)
@[simp] def t9:bj "str" "int" = some false:=(rfl)
@[simp] def Ki:bj "str" "bool" = some false:=(rfl)
@[simp] def Kj:bj "tuple" "str" = some false:=(rfl)
@[simp] def Kk:bj "tuple" "tuple" = some true:=(rfl)
@[simp] def Km:bj "tuple" "dict" = some false:=(rfl)
@[simp] def Ko:bj "tuple" "int" = some false:=(rfl)
@[simp] def Kp:bj "tuple" "bool" = some false:=(rfl)
@[simp] def Kq:bj "dict" "str" = some false:=(rfl)
@[simp] def Kr:bj "dict" "tuple" = some false:=(rfl)
@[simp] def Ks:bj "dict" "dict" = some true:=(rfl)
@[simp] def Kt:bj "dict" "int" = some false:=(rfl)
@[simp] def Ku:bj "dict" "bool" = some false:=(rfl)
@[simp] def Kv:bj "bool" "bool" = some true:=(rfl)
@[simp] def Kw:bj "NoneType" "str" = some false:=(rfl)
@[simp] def Kx:bj "NoneType" "tuple" = some false:=(rfl)
@[simp] def Ky:bj "NoneType" "dict" = some false:=(rfl)
@[simp] def Kz:bj "NoneType" "int" = some false:=(rfl)
@[simp] def KA:bj "NoneType" "bool" = some false:=(rfl)
@[simp] def KC:bj "list" "str" = some false:=(rfl)
@[simp] def KG:bj "list" "tuple" = some false:=(rfl)
@[simp] def KH:bj "list" "dict" = some false:=(rfl)
@[simp] def KI:bj "list" "int" = some false:=(rfl)
@[simp] def KJ:bj "list" "bool" = some false:=(rfl)
def HD {r:Nat}{st:aj}{t:Tr}{v:PV}(h:TR r st t v):∃xs,j7 [v] st=.ok (.ref st.length) (st++[.lst xs])/\aR r st (kids t) xs:=by
 have e:=xt h
 have none_:kids t=[]->bj (ty t) "tuple" = some false->bj (ty t) "dict" = some false->∃xs,j7 [v] st=.ok (.ref st.length) (st++[.lst xs])/\aR r st (kids t) xs:=λk a b =>
  ⟨[],by simp [j7,zE,lD,nH,vZ,e,a,b],by rw [k];rfl⟩
 cases t with
 |num i=>exact none_ rfl rfl rfl
 |word z=>exact none_ rfl rfl rfl
 |tru z=>exact none_ rfl rfl rfl
 |non=>exact none_ rfl rfl rfl
 |lst z=>exact none_ rfl rfl rfl
 |row ts=>obtain ⟨xs,rfl,hr⟩:=h;exact ⟨xs,by simp [j7,zE,lD,e,ty,pO],hr⟩
 |rec_ ks ts=>obtain ⟨m,xs,rfl,_,hm,nd,hl,hr,_⟩:=h;exact ⟨xs,by simp [j7,zE,lD,nH,e,ty,lh,hm],hr⟩
 |od c ts=>obtain ⟨m,xs,rfl,_,hm,hr,_⟩:=h;exact ⟨xs,by simp [j7,zE,lD,nH,e,ty,lh,hm],hr⟩
abbrev nL:Ak:=(mB (zg jD (zd 2) (zo zZ (ze (zd 1) zk))))
abbrev xu:Aj:=(zx (yN (yK mP (zd 1) (zo j7 (ze (zg zH (zd 1) (zd 2)) zk))))
  (kE 2 fy (Ar 1)))
def HE (v:PV) (r:Nat):∀(m p fuel:Nat) (ts:List Tr) (xs:An) (st:aj),st[r]?=some (.lst xs)->aR r st ts xs->p<=ts.length->a9 (ts.drop p)=m->m<fuel->p+m<=100000 ->
  ∃fD bB aE,ck nL xu fuel [some v,At r,some (.int p)] st=.ok (.nx [some v,At r,some (.int fD.length)]) aE/\aE[r]?=some (.lst bB)/\aR r aE fD bB/\Ob r st aE/\oks fD=(oks (ts.take p)&&okTs (ts.drop p))/\fD.length=p+m:=by
 intro m
 induction m using Nat.strongRecOn with
 |_ m ih =>
  intro p fuel ts xs st hr ht hp hm hf hb
  obtain ⟨f',rfl⟩:∃f',fuel=f'+1:=⟨fuel-1,by omega⟩
  have hlen:=ht.len
  by_cases he:p=ts.length
  ·subst he
   refine ⟨ts,xs,st,?_,hr,ht,Ob.refl _ _,by simp [okTs],?_⟩
   ·rw [uk]
    simp [ye hr,hlen]
   ·rw [List.drop_length] at hm
    simp [a9] at hm
    omega
  ·have lt:p<ts.length:=by omega
   have qR:p<xs.length:=by omega
   obtain ⟨t,et,hx⟩:=ht.get (zR qR)
   have hd:ts.drop p=t::ts.drop (p+1):=by
    rw [je lt]
    have:=(zM.mp et).2
    rw [this]
   obtain ⟨ys,ey,hy⟩:=HD hx
   have rl:r<st.length:=(zM.mp hr).1
   have dy:(st++[SO.lst ys])[r]?=some (.lst xs):=(Pre.of st _).get hr
   have KL:=HC t
   rw [hd] at hm
   simp only [a9] at hm
   have qS:Ob r st ((st++[SO.lst ys]).set r (.lst (xs++ys))):=(iO r _ _).trans (xm r _ _)
   have lk:ys.length<=a9 (kids t):=by rw [<-hy.len];exact lH _
   have lx:xs.length<=p+m:=by
    have:=lH (ts.drop p)
    rw [hd] at this
    simp only [a9,jM,List.length_drop] at this
    omega
   have fB:(ts++kids t).drop (p+1)=ts.drop (p+1)++kids t:=List.drop_append_of_le_length (by omega)
   have dC:(ts++kids t).take (p+1)=ts.take p++[t]:=by
    rw [List.take_append_of_le_length (by omega),<-List.take_append_getElem lt]
    have:=(zM.mp et).2
    rw [this]
   have gx:a9 ((ts++kids t).drop (p+1))=m-1:=by rw [fB,nJ];omega
   have xv:((st++[SO.lst ys]).set r (SO.lst (xs++ys)))[r]?=some (SO.lst (xs++ys)):=by
    rw [wD]
    simp
    omega
   obtain ⟨fD,bB,aE,e1,e2,e3,e4,e5,e6⟩:=ih (m-1) (by omega) (p+1) f' (ts++kids t) (xs++ys) ((st++[SO.lst ys]).set r (.lst (xs++ys))) xv ((ht.mono qS).append (hy.mono qS)) (by simp;omega) gx (by omega) (by omega)
   refine ⟨fD,bB,aE,?_,e2,e3,qS.trans e4,?_,by omega⟩
   ·rw [uk]
    have gG:bt xs (p:Int)=some xs[p]:=by simp [bt,di,qR]
    have eA:xs.length+ys.length<=1000000:=by omega
    have top:(st++[SO.lst ys])[st.length]?=some (.lst ys):=j3 _ _
    have ee:((p:Int)+1)=((p+1:Nat):Int):=by omega
    simp [ye hr,qR,gG,ey,mP,ye dy,ye top,eA]
    rw [ee]
    exact e1
   ·rw [e5,dC,fB,hd,xq,xr]
    have:=HB t
    simp only [oks,okTs,Bool.and_true,this]
    cases oks (ts.take p)<;>cases ok t<;>cases okTs (kids t)<;>cases okTs (ts.drop (p+1))<;>rfl
def xw {q:Nat}{st:aj}{t:Tr}{v:PV}(h:TR q st t v) (hs:sz t<=10000):∃r ts xs aE,lE [v] st=.ok (.ref r) aE/\aE[r]?=some (.lst xs)/\aR r aE ts xs/\Old st aE/\oks ts=okT t/\ts.length=sz t:=by
 obtain ⟨fD,bB,aE,e1,e2,e3,e4,e5,e6⟩:=HE v st.length (sz t) 0 lim [t] [v] (st++[.lst [v]]) (j3 _ _) (aR.one ((h.new (zG _)).mono (iO _ _ _))) (y1 _) (by simp [a9]) (by show sz t<1000000;omega) (by omega)
 refine ⟨st.length,fD,bB,aE,?_,e2,e3,λn so e=>e4 n so (nI e (zG _)) (qP _ _ n so e),by simpa [oks,okTs] using e5,by omega⟩
 simp only [lE,zE,v9,v8,v7,v5]
 simp
 have gn:pP nL xu [some v,At st.length,some (.int 0)] (st++[.lst [v]])=.ok (.nx [some v,At st.length,some (.int fD.length)]) aE:=e1
 simp [gn]
def xx {q:Nat}{st:aj}{t:Tr}{v:PV}(h:TR q st t v) (hs:sz t<=10000):∃aE,w6 [v] st=.ok (.int (sz t)) aE/\Old st aE:=by
 obtain ⟨r,ts,xs,aa,e1,e2,e3,e4,e5,e6⟩:=xw h hs
 have hl:=e3.len
 refine ⟨aa,?_,e4⟩
 simp [w6,zE,xf,e1,ye e2]
 omega
theorem xy (env:zc) (st:aj):∀(cs:List Nat) (ys:An),cG (zg (yX false) (zd 0) (As "abcdefghijklmnopqrstuvwxyz")) env (cs.map λc=>PV.str ⟨#[c]⟩) ys st=.ok (.ref st.length) (st++[.lst (ys++(cs.map λc=>decide (c∈cA.cps.toList)).map PV.bl)])
 |[],ys=>by simp [cG]
 |c::cs,ys=>by
  have e:yX false (.str ⟨#[c]⟩) (.str cA) st=.ok (.bl (decide (c∈cA.cps.toList))) st:=by
   show Res.ok (PV.bl (false.xor _)) st=_
   rw [Bool.false_xor]
  rw [ym,cG]
  have e2:(zg (yX false) (zd 0) (As "abcdefghijklmnopqrstuvwxyz")) (some (PV.str ⟨#[c]⟩)::env) st=.ok (.bl (decide (c∈cA.cps.toList))) st:=by
   simp only [wQ,jr,wP,wg,zB]
   exact e
  rw [e2]
  simp only [il,zB]
  rw [xy env st cs]
  simp
def xA (z:Str) (hz:z.length<=1000) (st:aj):∃aE,jc [.str z] st=.ok (.bl (bP z)) aE/\Pre st aE:=by
 have zl:z.length<=1000000:=by omega
 have e1:yq [.str z,.ty "str"] st=.ok (.bl true) st:=rfl
 by_cases h1:1<=z.length
 ·by_cases h8:z.length<=8
  ·refine ⟨st++[.lst ((z.cps.toList.map λc=>decide (c∈cA.cps.toList)).map PV.bl)],?_,Pre.of _ _⟩
   have c:=xy [some (.str z)] st z.cps.toList []
   have sl:(signs z).length<=lim:=by show (z.cps.toList.map _).length<=1000000;rw [jL,Array.length_toList];exact zl
   have xB:(1:Int)<=(z.length:Int):=by omega
   have HF:(z.length:Int)<=8:=by omega
   have cc:yo (yD (zd 0)) (zg (yX false) (zd 0) (As "abcdefghijklmnopqrstuvwxyz")) [some (.str z)] st=.ok (.ref st.length) (st++[.lst ((z.cps.toList.map λc=>decide (c∈cA.cps.toList)).map PV.bl)]):=by
    show dH _ _ (.im (signs z)) st=_
    rw [dH,zu sl]
    exact c
   have al:=kW (j3 st (SO.lst ((z.cps.toList.map λc=>decide (c∈cA.cps.toList)).map PV.bl)))
   have nL:(mI (yU (mB (zo yq (ze (zd 0) (ze (mC (.ty "str")) zk))))) (yU (mB (jY ji ji (Ar 1) (zo zZ (ze (zd 0) zk)) (Ar 8))))) [some (.str z)] st=.ok false st:=by
    simp [e1,zZ,zl,h1,HF,xB]
   simp only [jc,zE,lF,w_,jM,List.length_nil,jf,ig,pU,ym,List.map_nil,Nat.sub_self,List.replicate,List.append_nil,Nat.zero_add]
   rw [nL]
   simp only [zB,Bool.false_eq_true,yG,uh,mV,pT,ie,wR,ic]
   rw [cc]
   simp only [zB]
   rw [al]
   simp [bP,h1,h8,List.all_map]
  ·refine ⟨st,?_,Pre.refl _⟩
   have xB:(1:Int)<=(z.length:Int):=by omega
   simp [jc,zE,lF,e1,zZ,zl,h1,bP,h8]
   omega
 ·refine ⟨st,?_,Pre.refl _⟩
  simp [jc,zE,lF,e1,zZ,zl,h1,bP]
  omega
def HG {v:PV} {st:aj} (h:yq [v,.ty "str"] st=.ok (.bl false) st):jc [v] st=.ok (.bl false) st:=by
 simp [jc,zE,lF,h]
def HH {fe:Ai}{env:zc}{n:Nat}{xs:An}{bs:List Bool}(hl:bs.length=xs.length):∀(k i m:Nat) (ys:An) (st:aj),xs.length-i=k->i<=xs.length->k<m->st[n]?=some (.lst xs)->(∀(j:Nat) x b,xs[j]?=some x->bs[j]?=some b->∀aE,Old st aE->∃n5,fe (some x::env) aE=.ok (.bl b) n5/\Old aE n5) ->
  ∃r aE,cv fe env n m i ys st=.ok (.ref r) aE/\aE[r]?=some (.lst (ys++(bs.drop i).map PV.bl))/\Old st aE:=by
 intro k
 induction k with
 |zero =>
  intro i m ys st hk hi hm hn h
  obtain ⟨m',rfl⟩:∃m',m=m'+1:=⟨m-1,by omega⟩
  have e:xs[i]?=none:=gZ.mpr (by omega)
  refine ⟨st.length,st++[.lst ys],?_,?_,qP _ _⟩
  ·simp only [cv,ye hn,e]
  ·rw [iS (by omega)];simp
 |succ k ih =>
  intro i m ys st hk hi hm hn h
  obtain ⟨m',rfl⟩:∃m',m=m'+1:=⟨m-1,by omega⟩
  have lt:i<xs.length:=by omega
  have lb:i<bs.length:=by omega
  obtain ⟨aa,e1,o1⟩:=h i xs[i] bs[i] (zR lt) (zR lb) st (Old.refl _)
  obtain ⟨r,ak,e2,k2,o2⟩:=ih (i+1) m' (ys++[.bl bs[i]]) aa (by omega) (by omega) (by omega) (o1 n _ hn) (λj y c h1 h2 aE o=>h j y c h1 h2 aE (o1.trans o))
  refine ⟨r,ak,?_,?_,o1.trans o2⟩
  ·simp only [cv,ye hn,zR lt,e1,il,zB,e2]
  ·rw [k2,je lb,ym,jW,List.singleton_append]
def wk:PV->Bool
 |.str z=>bP z
 |_=>false
def KW (p:PV):Prop:=∀st,∃aE,jc [p] st=.ok (.bl (wk p)) aE/\Pre st aE
theorem KW.str {z:Str}(h:z.length<=1000):KW (.str z):=λst=>xA z h st
def KW.no {p:PV} (h:wk p=false) (h':∀st,yq [p,.ty "str"] st=.ok (.bl false) st):KW p:=λst=>⟨st,by rw [h];exact HG (h' st),Pre.refl _⟩
theorem qT (env:zc):∀(zs:An) (ys:An) (st:aj),(∀z∈zs,KW z)->∃aE,cf (zo jc (ze (zd 0) zk)) env zs ys st=.ok (ys++(zs.map wk).map PV.bl) aE/\Pre st aE
 |[],ys,st,_=>⟨st,by simp [cf],Pre.refl _⟩
 |z::zs,ys,st,h=>by
  obtain ⟨aa,e1,p1⟩:=h z (yr ..) st
  obtain ⟨ak,e2,p2⟩:=qT env zs (ys++[.bl (wk z)]) aa λy hy=>h y (yF _ hy)
  refine ⟨ak,?_,p1.trans p2⟩
  rw [cf]
  simp only [ie,wR,jr,wg,zB,ic,e1,il,e2]
  simp
def HI:∀ks:Ad,(ks.map PV.str).map wk=ks.map bP
 |[]=>rfl
 |k::ks=>by simp [wk]
def xC {st ak:aj}{n:Nat}{so cW:SO}{d:aj}(hn:st[n]?=some so) (p:Pre (st.set n cW) ak):(ak++d)[n]?=some cW/\Old st ((ak++d).set n so):=by
 have nl:n<st.length:=(zM.mp hn).1
 have hs:(st.set n cW)[n]?=some cW:=by rw [wD nl]
 have hf:=(Pre.of ak d).get (p.get hs)
 refine ⟨hf,λm s e=>?_⟩
 by_cases hm:m=n
 ·subst hm
  rw [hn] at e
  cases e
  rw [wD (zM.mp hf).1]
 ·rw [gU (yS hm)]
  refine (Pre.of ak d).get (p.get ?_)
  rw [gU (yS hm)]
  exact e
def xD {st ak:aj}{n:Nat}{so cW:SO}{xs:An}(hn:st[n]?=some so) (p:Pre (st.set n cW) ak):((ak++[SO.lst xs]).set n so)[ak.length]?=some (.lst xs):=by
 have nl:n<st.length:=(zM.mp hn).1
 have hs:(st.set n cW)[n]?=some cW:=by rw [wD nl]
 have:=(zM.mp (p.get hs)).1
 rw [gU (by omega)]
 simp
def HJ {st:aj}{n:Nat}{ks:Ad}{xs:An}(hn:st[n]?=some (.dic ks xs)) (hk:∀k∈ks,k.length<=1000):∃r aE,wx 0 (zo jc (ze (zd 0) zk)) [At n] st=.ok (.ref r) aE/\aE[r]?=some (.lst ((ks.map bP).map PV.bl))/\Old st aE:=by
 obtain ⟨ak,e2,p2⟩:=qT [At n] (ks.map PV.str) [] (st.set n (.fdi ks xs)) (λz hz=>by obtain ⟨k,kK,rfl⟩:=gY.mp hz;exact .str (hk k kK))
 rw [HI] at e2
 obtain ⟨hf,ho⟩:=xC (d:=[SO.lst ((ks.map bP).map PV.bl)]) hn p2
 refine ⟨ak.length,(ak++[SO.lst ((ks.map bP).map PV.bl)]).set n (.dic ks xs),?_,xD hn p2,ho⟩
 rw [List.nil_append] at e2
 have:wx 0 (zo jc (ze (zd 0) zk)) [At n] st=ng (zd 0) (zo jc (ze (zd 0) zk)) [At n] st:=by
  unfold wx
  simp only [wg,hn]
 rw [this]
 simp only [Ga,jr,wg,zB,F_,F8 hn,e2,il,Gb hf]
def HK {c:OC}(h:OW c):(∀z∈cg c,KW z)/\((cg c).map wk).all id=false:=by
 have no:∀p,wk p=false->(∀st,yq [p,.ty "str"] st=.ok (.bl false) st)->(∀z∈[p],KW z)/\([p].map wk).all id=false:=λp a b=>⟨λz hz=>by
  have:z=p:=by simpa using hz
  subst this
  exact .no a b,by simp [a]⟩
 cases c with
 |non=>exact no _ rfl λ_=>rfl
 |tru=>exact no _ rfl λ_=>rfl
 |one=>exact no _ rfl λ_=>rfl
 |row k=>exact no _ rfl λ_=>rfl
 |mix z k =>
  refine ⟨λp hp=>?_,by simp [cg,wk]⟩
  have:p=.str z\/p=.tup (k.map kP):=by simpa [cg] using hp
  rcases this with rfl|rfl
  ·exact .str h
  ·exact .no rfl λ_=>rfl
def HL {st:aj}{n:Nat}{c:OC}{xs:An}(hn:st[n]?=some (.odd c xs)) (hk:OW c):∃(r:Nat) (aE:aj) (bs:List Bool),wx 0 (zo jc (ze (zd 0) zk)) [At n] st=.ok (.ref r) aE/\aE[r]?=some (.lst (bs.map PV.bl))/\bs.all id=false/\Old st aE:=by
 obtain ⟨k1,k2⟩:=HK hk
 obtain ⟨ak,e2,p2⟩:=qT [At n] (cg c) [] (st.set n (.fod c xs)) k1
 obtain ⟨hf,ho⟩:=xC (d:=[SO.lst (((cg c).map wk).map PV.bl)]) hn p2
 refine ⟨ak.length,(ak++[SO.lst (((cg c).map wk).map PV.bl)]).set n (.odd c xs),(cg c).map wk,?_,xD hn p2,k2,ho⟩
 rw [List.nil_append] at e2
 unfold wx
 simp only [wg,hn,e2,il,zB,fC,hf]
def HM {q:Nat}{st:aj}{t:Tr}{v:PV}(h:TR q st t v):∃aE,jt [v] st=.ok (.bl (ok t)) aE/\Old st aE:=by
 have e:=xt h
 cases t with
 |num i =>
  cases h
  refine ⟨st,?_,Old.refl _⟩
  simp [jt,zE,j8,wB,e,ty,qK,v_,ok]
  by_cases c : -1000000000000000000<i<;>simp [c]
 |word z =>
  obtain ⟨rfl,hz⟩:=h
  obtain ⟨aa,e1,p1⟩:=xA z hz st
  refine ⟨aa,?_,gH p1⟩
  simp [jt,zE,j8,wB,w4,e,ty,e1,ok]
 |row ts =>
  refine ⟨st,?_,Old.refl _⟩
  simp [jt,zE,j8,wB,w4,iN,iM,e,ty,ok]
 |rec_ ks ts =>
  obtain ⟨n,xs,rfl,_,hn,nd,hl,hr,hk⟩:=h
  obtain ⟨r,aE,e1,k1,o1⟩:=HJ hn hk
  refine ⟨aE,?_,o1⟩
  have al:=kW k1
  simp only [jt,zE,j8,wB,w4,iN,iM]
  simp [e,ty,e1,al,ok,List.all_map]
 |tru b =>
  refine ⟨st,?_,Old.refl _⟩
  simp [jt,zE,j8,e,ty,ok]
 |non =>
  refine ⟨st,?_,Old.refl _⟩
  simp [jt,zE,j8,wB,w4,iN,iM,e,ty,ok]
 |lst is =>
  refine ⟨st,?_,Old.refl _⟩
  simp [jt,zE,j8,wB,w4,iN,iM,e,ty,ok]
 |od c ts =>
  obtain ⟨n,xs,rfl,_,hn,hr,hk⟩:=h
  obtain ⟨r,aE,bs,e1,k1,k2,o1⟩:=HL hn hk
  refine ⟨aE,?_,o1⟩
  have al:=kW k1
  rw [k2] at al
  simp only [jt,zE,j8,wB,w4,iN,iM]
  simp [e,ty,e1,al,ok]
theorem xE:∀ts:List Tr,(ts.map ok).all id=oks ts
 |[]=>rfl
 |t::ts=>by simp [oks,<-xE ts]
def xF {q:Nat}{st:aj}{t:Tr}{v:PV}(h:TR q st t v) (hs:sz t<=10000):∃aE,j9 [v] st=.ok (.bl (decide (sz t<=60)&&okT t)) aE/\Old st aE:=by
 obtain ⟨r,ts,xs,aa,e1,e2,e3,e4,e5,e6⟩:=xw h hs
 have hl:=e3.len
 by_cases hc:sz t<=60
 ·obtain ⟨r2,ak,c1,c2,c3⟩:=HH (fe:=zo jt (ze (zd 0) zk)) (env:=[some v,At r]) (n:=r) (xs:=xs) (bs:=ts.map ok) (by simp [hl]) xs.length 0 (lim+1) [] aa (by omega) (y1 _) (by show xs.length<1000000+1;omega) e2 (λj x b h1 h2 aE o=>by
   obtain ⟨t',q1,q2⟩:=e3.get h1
   simp [q1] at h2
   subst h2
   obtain ⟨aL,m1,m2⟩:=HM (q2.mono (wa o))
   exact ⟨aL,by simp [m1],m2⟩)
  simp only [List.nil_append,List.drop_zero] at c2
  have al:=kW c2
  rw [xE,e5] at al
  have dh:(xs.length:Int)<=60:=by omega
  have cc:yo (yD (zd 1)) (zo jt (ze (zd 0) zk)) [some v,At r] aa=.ok (.ref r2) ak:=by
   simp only [yo,E7,jr,og,wg,zB,E8,ye e2,dH]
   exact c1
  refine ⟨ak,?_,e4.trans c3⟩
  simp only [j9,zE,qM,qL,jM,List.length_nil,jf,ig,kH,ie,wR,ic,ym,List.map_nil]
  simp only [jr,List.cons_append,wg,zB,e1,mV,List.nil_append,List.replicate,List.set_cons_succ,List.set_cons_zero,pT,uf,wQ,ie,wR,ic,og,wP]
  have e8:zZ [.ref r] aa=.ok (.int xs.length) aa:=by simp [ye e2]
  rw [e8]
  simp only [zB]
  have e7:ji (.int xs.length) (.int 60) aa=.ok (.bl true) aa:=by simp [ji,dh]
  rw [e7]
  simp only [zB,pS,jf]
  rw [cc]
  simp [al,hc]
 ·refine ⟨aa,?_,e4⟩
  have dh:¬(xs.length:Int)<=60:=by omega
  simp [j9,zE,qM,qL,e1,ye e2,hc,dh]
def HN (is:List Int):c5 (is.map PV.int)=some is:=by
 induction is with
 |nil=>rfl
 |cons i r ih=>simp [c5,ih]
def mix (a:Int):List Int->Int
 |[]=>a
 |x::r=>mix (zI (a*1103+x) 998244353) r
def HP (l:List Int) (n:Nat) (st:aj) (hn:st[n]?=some (.lst (l.map PV.int))) (v0 v1:Ao):∀(k i m:Nat) (a:Int) (v3:Ao),l.length-i=k->i<=l.length->k<m->∃fE,
  forR (gN 3) (zD 2 (zg zJ (zg zS (zg yY (zd 2) (Ar 1103)) (zd 3)) (Ar 998244353))) n m i [v0,v1,some (.int a),v3] st=.ok (.nx [v0,v1,some (.int (mix a (l.drop i))),fE]) st:=by
 intro k
 induction k with
 |zero =>
  intro i m a v3 hk hi hm
  obtain ⟨m',rfl⟩:∃m',m=m'+1:=⟨m-1,by omega⟩
  have c7:i=l.length:=by omega
  subst c7
  exact ⟨v3,by simp [forR,zK,hn,mix]⟩
 |succ k ih =>
  intro i m a v3 hk hi hm
  obtain ⟨m',rfl⟩:∃m',m=m'+1:=⟨m-1,by omega⟩
  have aZ:i<l.length:=by omega
  obtain ⟨fE,e⟩:=ih (i+1) m' (zI (a*1103+l[i]) 998244353) (some (.int l[i])) (by omega) (by omega) (by omega)
  refine ⟨fE,?_⟩
  rw [je aZ]
  simp only [mix]
  rw [<-e]
  have HQ:(l.map PV.int)[i]?=some (.int l[i]):=by simp [aZ]
  have hc:cj a 1103=true:=by simp [cj]
  conv=>lhs;unfold forR
  simp only [zK,hn,HQ,pV]
  simp [hc,cF]
def xG (ns:List Int) (k:Nat) (h9:k<1000):∃c,∀st,∃aa,js [.frl (ns.map PV.int),.int k] st=.ok (.int c) aa/\Pre st aa:=by
 by_cases hk:k<ns.length
 ·have e:bt (ns.map PV.int) (k:Int)=some (.int ns[k]):=by
   simp [bt,di,hk]
  exact ⟨ns[k],λst=>⟨st,by simp [js,zE,qE,hk,e],Pre.refl _⟩⟩
 ·have xH:bC (ns.map PV.int) none (some 5)=(ns.take 5).map PV.int:=by
   unfold bC
   simp [HT.sIx]
  refine ⟨zI (mix (31*k+17) (ns.take 5)*(k+3)) 1000000007,λst=>?_⟩
  have top:=j3 st (SO.lst ((ns.take 5).map PV.int))
  obtain ⟨fE,e⟩:=HP (ns.take 5) st.length (st++[.lst ((ns.take 5).map PV.int)]) top (some (.frl (ns.map PV.int))) (some (.int k)) (ns.take 5).length 0 (lim+1) (31*k+17) none (by omega) (y1 _) (by show (ns.take 5).length<1000000+1;simp;omega)
  refine ⟨st++[.lst ((ns.take 5).map PV.int)],?_,Pre.of _ _⟩
  have c1:cj 31 (k:Int)=true:=by simp [cj]
  have c2:cj (mix (31*k+17) (ns.take 5)) (k+3)=true:=by
   simp only [cj,Bool.or_eq_true,yA,wE]
   exact .inr ⟨by omega,by omega⟩
  simp only [List.drop_zero] at e
  simp only [js,zE,qE,vR,vQ,vP]
  simp [hk,c1,xH,gT]
  simp only [pY,List.map_take,Nat.reduceAdd] at e
  rw [e]
  simp [c2,cF]
def bE (ns:List Int) (k:Nat) (h:k<1000):Int:=Classical.choose (xG ns k h)
def wC (ns:List Int) (k:Nat) (h:k<1000) (st:aj):∃aa,js [.frl (ns.map PV.int),.int k] st=.ok (.int (bE ns k h)) aa/\Pre st aa:=Classical.choose_spec (xG ns k h) st
def qU (i j k:Int) (h:0<j) (h1:k<1000000000000000000) (h2:j-k<=1000000000000000000):ok (.num (zI i j-k))=true:=by
 have a:=Int.emod_nonneg i (show j≠0 by omega)
 have b:=Int.emod_lt_of_pos i h
 simp only [ok,y0 i j h,yA,wE]
 omega
def HR (c:Int):∃i:Int,ok (.num i)=true/\∀st,∃aa,j6 [.int c] st=.ok (.int i) aa/\Pre st aa:=by
 have m5:c%5=1\/c%5=2\/c%5=3\/(c%5≠1/\c%5≠2/\c%5≠3):=by omega
 have em:zI c 5=c%5:=y0 _ _ (by decide)
 have pw:((10:Int) ^ (18:Int).toNat)=1000000000000000000:=by decide
 have cp:fS 10 18=true:=by decide
 rcases m5 with h|h|h|⟨h1,h2,h3⟩
 ·have r:zI (zY c 5) 2=0\/zI (zY c 5) 2=1:=by rw [y0 _ _ (by decide)];omega
  rcases r with r|r
  ·exact ⟨999999999999999999,by decide,λst=>⟨st++[.lst [.int 999999999999999999,.int (-999999999999999999)]],by
    simp [j6,zE,iL,iK,cp,pw,em,h,cF,cZ,r,bt,di],Pre.of _ _⟩⟩
  ·exact ⟨-999999999999999999,by decide,λst=>⟨st++[.lst [.int 999999999999999999,.int (-999999999999999999)]],by
    simp [j6,zE,iL,iK,cp,pw,em,h,cF,cZ,r,bt,di],Pre.of _ _⟩⟩
 ·exact ⟨zI (zY c 5) 1999999999999999999-999999999999999999,qU _ _ _ (by decide) (by decide) (by decide),λst=>⟨st,by
   simp [j6,zE,iL,iK,nC,cp,pw,em,h,cF,cZ,cj],Pre.refl _⟩⟩
 ·exact ⟨zI (zY c 5) 2001-1000,qU _ _ _ (by decide) (by decide) (by decide),λst=>⟨st,by
   simp [j6,zE,iL,iK,nC,qF,cp,pw,em,h,cF,cZ],Pre.refl _⟩⟩
 ·exact ⟨zI (zY c 5) 9-2,qU _ _ _ (by decide) (by decide) (by decide),λst=>⟨st,by
   simp [j6,zE,iL,iK,nC,qF,vW,cp,pw,em,h1,h2,h3,cF,cZ],Pre.refl _⟩⟩
abbrev alpha:Str := "etaoinshrdlucmfwypvbgkjqxz"
def Ls (z:Str):Prop:=∀ch∈z.cps.toList,ch∈cA.cps.toList
def HS:∀ch∈alpha.cps.toList,ch∈cA.cps.toList:=by decide +kernel
def Ls.app {a b:Str}(h:Ls a) (h':Ls b):Ls (a++b):=λch hc=>by
 have e:(a++b).cps.toList=a.cps.toList++b.cps.toList:=by show (a.cps++b.cps).toList=_;simp
 rw [e] at hc
 rcases iR.mp hc with hc|hc
 ·exact h ch hc
 ·exact h' ch hc
def xI {z:Str}(h1:1<=z.length) (h8:z.length<=8) (h:Ls z):bP z=true:=by
 simp only [bP,yA,wE,List.all_eq_true]
 exact ⟨⟨h1,h8⟩,h⟩
def xJ (z:Str) (n:Nat) (hz:z.cps.toList.length=n) (hn:n<=1000) (i:Int) (h0:0<=i) (h1:i<n):∃c,c∈z.cps.toList/\∀st,zH (.str z) (.int i) st=.ok (.str ⟨#[c]⟩) st:=by
 have hl:z.length<=1000000:=by show z.cps.size<=1000000;rw [<-Array.length_toList];omega
 obtain ⟨k,rfl⟩:=Int.eq_ofNat_of_zero_le h0
 have lt:k<z.cps.toList.length:=by omega
 refine ⟨z.cps.toList[k],gX lt,λst=>?_⟩
 rw [kI,pY,zu hl,bu (zR lt)]
 rfl
def Ls.one {c:Nat}{z:Str}(h:c∈z.cps.toList) (hz:∀ch∈z.cps.toList,ch∈cA.cps.toList):Ls ⟨#[c]⟩:=λch hc=>by
 have e:ch=c:=by simpa using hc
 subst e
 exact hz _ h
abbrev wb:Aj:=(zx (zD 1 (zg zS (zd 1) (zg zH (As "etaoinshrdlucmfwypvbgkjqxz") (zg zJ (zd 2) (Ar 26)))))
  (zD 2 (zg zJ (zg yY (zd 2) (Ar 16807)) (Ar 2147483647))))
theorem xK (v0:Ao):∀(xs:An) (z:Str) (r:Int) (v3:Ao),z.length+xs.length<=100->Ls z->∃z' r' fE,z'.length=z.length+xs.length/\Ls z'/\∀st,forL (gN 3) wb xs [v0,some (.str z),some (.int r),v3] st=.ok (.nx [v0,some (.str z'),some (.int r'),fE]) st
 |[],z,r,v3,h,hz=>⟨z,r,v3,by simp,hz,λst=>by simp⟩
 |x::xs,z,r,v3,h,hz=>by
  simp only [jM] at h
  have hm:0<=zI r 26/\zI r 26<(26:Nat):=by
   rw [y0 _ _ (by decide)]
   exact ⟨Int.emod_nonneg _ (by decide),Int.emod_lt_of_pos _ (by decide)⟩
  obtain ⟨c,gI,ec⟩:=xJ alpha 26 (by decide +kernel) (by decide) (zI r 26) hm.1 hm.2
  have l1:(⟨#[c]⟩:Str).length=1:=rfl
  have lz:(z++(⟨#[c]⟩:Str)).length=z.length+1:=by rw [Str.length_append,l1]
  obtain ⟨z',r',fE,hl,kn,e⟩:=xK v0 xs (z++⟨#[c]⟩) (zI (r*16807) 2147483647) (some x) (by rw [lz];omega) (hz.app (Ls.one gI HS))
  refine ⟨z',r',fE,by rw [hl,lz];simp;omega,kn,λst=>?_⟩
  have hc:cj r 16807=true:=by simp [cj]
  have eA:z.length+(⟨#[c]⟩:Str).length<=1000000:=by rw [l1];omega
  rw [<-e st]
  conv=>lhs;unfold forL
  simp only [pV,ig,kH,wQ,jr,wP,kG]
  simp [cF,hc,-kI,ec,eA]
def qV (c:Int):∃z:Str,z.length<=8/\1<=z.length/\Ls z/\∀st,wY [.int c] st=.ok (.str z) st:=by
 have hm:∃k:Nat,k<8/\zI c 8=k:=by
  rw [y0 _ _ (by decide)]
  have:=Int.emod_nonneg c (show (8:Int)≠0 by decide)
  have:=Int.emod_lt_of_pos c (show (0:Int)<8 by decide)
  exact ⟨(c%8).toNat,by omega,by omega⟩
 obtain ⟨k,hk,ek⟩:=hm
 have l0:((("" : String):Str)).length=0:=rfl
 obtain ⟨z',r',fE,hl,hz,e⟩:=xK (some (.int c)) (nums 0 (1+k)) "" (zI (zY c 8) 2147483647) none (by rw [l0];simp [nums];omega) (λch hc=>absurd hc (by decide +kernel +revert))
 have hn:(nums 0 (1+k)).length=1+k:=by simp [nums]
 refine ⟨z',by rw [hl,l0,hn];omega,by rw [hl,l0,hn];omega,hz,λst=>?_⟩
 have hR:cR (1+(k:Int))=true:=by simp [cR];omega
 have tn:((1:Int)+(k:Int)).toNat=1+k:=by omega
 simp only [wY,zE,vV,vU,vT,vS]
 simp only [jM,List.length_nil,jf,ig,kH,wP,zB,mV,wQ,jr,kG]
 simp [cF,cZ,ek]
 rw [zu (by omega),tn,e st]
 simp
theorem qW {g:PV->zc->Option zc}{body:Aj}(I:Nat->zc->aj->Prop) (n:Nat) (hb:∀i e st,i<n->I i e st->∃e1 e2 ak,g (.int i) e=some e1/\body e1 st=.ok (.nx e2) ak/\I (i+1) e2 ak) :
  ∀(k i:Nat) (env:zc) (st:aj),i+k=n->I i env st->∃bx aE,forL g body ((List.range' i k).map λi:Nat=>PV.int i) env st=.ok (.nx bx) aE/\I n bx aE
 |0,i,env,st,hk,h=>⟨env,st,by simp,by rw [<-hk];exact h⟩
 |k+1,i,env,st,hk,h=>by
  obtain ⟨e1,e2,ak,q1,q2,q3⟩:=hb i env st (by omega) h
  obtain ⟨bx,aE,r1,r2⟩:=qW I n hb k (i+1) e2 ak (by omega) q3
  refine ⟨bx,aE,?_,r2⟩
  rw [List.range'_succ,ym]
  unfold forL
  rw [q1]
  simp only
  rw [q2]
  simp only [zB]
  exact r1
def qX (m:Nat) (st:aj) (h:m<=1000):ib [.int (m:Int)] st=.ok (.im ((List.range' 0 m).map λi:Nat=>PV.int i)) st:=by
 have hr:cR (m:Int)=true:=by simp [cR];omega
 simp [hr,nums,List.range_eq_range']
def dz (i:Int) (j:Nat) (h:0<j):∃b:Nat,b<j/\zI i j=b:=by
 have h1:=Int.emod_nonneg i (show (j:Int)≠0 by omega)
 have h2:=Int.emod_lt_of_pos i (show (0:Int)<j by omega)
 exact ⟨(i%j).toNat,by omega,by rw [y0 _ _ (by omega)];omega⟩
theorem Ls.slice {z:Str}(h:Ls z) (l u:Option Int):Ls (Txt.slice z l u):=by
 unfold Txt.slice
 split
 ·exact h
 ·intro ch hc
  have dh:ch∈List.filterMap (λx=>z.cps[x]?) (PySem.Builtin.Str.strSliceIndices l u 1 z.length):=by simpa using hc
  obtain ⟨i,_,e⟩:=List.mem_filterMap.mp dh
  exact h ch (by
   have:=Array.getElem?_eq_some_iff.mp e
   obtain ⟨hi,e⟩:=this
   rw [<-e]
   simp)
def qY (z:Str) (l u:Option Int):(Txt.slice z l u).length<=(PySem.Builtin.Str.strSliceIndices l u 1 z.length).length:=by
 unfold Txt.slice
 split
 ·rename_i h
  simp at h
  omega
 ·show (List.filterMap _ (PySem.Builtin.Str.strSliceIndices l u 1 z.length)).toArray.size<=_
  rw [yf]
  exact List.length_filterMap_le _ _
def HU:∀n:Nat,n<9->∀a:Nat,a<9->a<=n->(PySem.Builtin.Str.strSliceIndices none (some (a:Int)) 1 n).length+(PySem.Builtin.Str.strSliceIndices (some (a:Int)) none 1 n).length<=n:=by decide +kernel
def sgn (j:Nat):Nat:=(cA.cps.toList[j]?).getD 0
def xM (j:Nat) (hj:j<26) (st:aj):zH (.str cA) (.int j) st=.ok (.str ⟨#[sgn j]⟩) st/\Ls ⟨#[sgn j]⟩:=by
 have hz:cA.cps.toList.length=26:=by decide +kernel
 have lt:j<cA.cps.toList.length:=by omega
 have hl:cA.length<=1000000:=by decide +kernel
 have e:cA.cps.toList[j]?=some (sgn j):=by unfold sgn;rw [zR lt];rfl
 refine ⟨?_,Ls.one (z:=cA) (iQ e) λ_ h=>h⟩
 rw [kI,pY,zu hl,bu e]
 rfl
def key (z:Str) (a j:Nat):Str:=Txt.slice z none (some (a:Int))++⟨#[sgn j]⟩++Txt.slice z (some (a:Int)) none
def HV {z:Str}(h:Ls z) (h7:z.length<=7) {a:Nat}(ha:a<=z.length) {j:Nat}(hj:j<26):bP (key z a j)=true/\(key z a j).length<=8:=by
 have l1:=qY z none (some (a:Int))
 have l2:=qY z (some (a:Int)) none
 have l3:=HU z.length (by omega) a (by omega) ha
 have hl:(key z a j).length<=8/\1<=(key z a j).length:=by
  unfold key
  rw [Str.length_append,Str.length_append]
  have:(⟨#[sgn j]⟩:Str).length=1:=rfl
  omega
 exact ⟨xI hl.2 hl.1 (((h.slice _ _).app (xM j hj []).2).app (h.slice _ _)),hl.1⟩
def HW:∀i,i<26->∀j,j<26->sgn i=sgn j->i=j:=by decide +kernel
def HX {z:Str}{a i j:Nat}(hi:i<26) (hj:j<26) (e:key z a i=key z a j):i=j:=by
 have e1:=congrArg (λq:Str=>q.cps.toList) e
 simp only [key,Str.cps_append,Array.toList_append] at e1
 have:=List.append_cancel_right e1
 have:=List.append_cancel_left this
 exact HW i hi j hj (by simpa using this)
def pj (c:Int) (i:Nat):Nat:=(zI (zY c 11+3*(i:Int)) 26).toNat
def iP (c:Int) (i:Nat):pj c i<26/\zI (zY c 11+3*(i:Int)) 26=(pj c i:Int):=by
 obtain ⟨b,hb,e⟩:=dz (zY c 11+3*(i:Int)) 26 (by decide)
 have e':zI (zY c 11+3*(i:Int)) 26=(b:Int):=e
 unfold pj
 rw [e']
 exact ⟨by simpa using hb,by simp⟩
def HY (c:Int) {i j:Nat}(hi:i<8) (hj:j<8) (h:i≠j):pj c i≠pj c j:=by
 have a:=(iP c i).2
 have b:=(iP c j).2
 rw [y0 _ _ (by decide)] at a b
 omega
def cN (z:Str) (a:Nat) (c:Int) (i:Nat):Ad:=(List.range i).map λk=>key z a (pj c k)
def xN (z:Str) (a:Nat) (c:Int) (i:Nat):cN z a c (i+1)=cN z a c i++[key z a (pj c i)]:=by
 simp [cN,List.range_succ]
def xO (z:Str) (a:Nat) (c:Int) (i:Nat):(cN z a c i).length=i:=by simp [cN]
theorem xP (z:Str) (a:Nat) (c:Int):∀i,i<=8->(cN z a c i).Nodup
 |0,_=>by simp [cN]
 |i+1,h=>by
  rw [xN]
  refine List.nodup_append.mpr ⟨xP z a c i (by omega),by simp,λx hx y hy=>?_⟩
  have e:y=key z a (pj c i):=by simpa using hy
  subst e
  simp only [cN,gY,g0] at hx
  obtain ⟨j,hj,rfl⟩:=hx
  exact λe=>HY c (show j<8 by omega) (show i<8 by omega) (by omega) (HX (iP c j).1 (iP c i).1 e)
abbrev kb:Aj:=(zx (zD 6 (zg zH (As "abcdefghijklmnopqrstuvwxyz") (zg zJ (zg zS (zg yh (zd 0) (Ar 11)) (zg yY (Ar 3) (zd 5))) (Ar 26))))
  (yN (yK jb (zd 4) (zg zS (zg zS (yI (zd 2) ba (bf (zd 3))) (zd 6)) (yI (zd 2) (bf (zd 3)) ba)))))
def HZ {c:Int}{m:Nat}{z:Str}{a:Nat}(hz:z.length<=8) (st:aj) (i:Nat) (hi:i<8) (x6:Ao):kb [some (.int c),some (.int m),some (.str z),some (.int a),At st.length,some (.int i),x6] (st++[.lst ((cN z a c i).map PV.str)]) =
  .ok (.nx [some (.int c),some (.int m),some (.str z),some (.int a),At st.length,some (.int i),some (.str ⟨#[sgn (pj c i)]⟩)]) (st++[.lst ((cN z a c (i+1)).map PV.str)]):=by
 obtain ⟨pl,pe⟩:=iP c i
 have sg:=λst=>(xM (pj c i) pl st).1
 have cm:cj 3 (i:Int)=true:=by simp [cj]
 have zl:z.length<=1000000:=by omega
 have l1:(⟨#[sgn (pj c i)]⟩:Str).length=1:=rfl
 have s1:=Txt.slice_le z none (some (a:Int))
 have s2:=Txt.slice_le z (some (a:Int)) none
 have a1:(Txt.slice z none (some (a:Int))).length+(⟨#[sgn (pj c i)]⟩:Str).length<=1000000:=by rw [l1];omega
 have a2:(Txt.slice z none (some (a:Int))++(⟨#[sgn (pj c i)]⟩:Str)).length+(Txt.slice z (some (a:Int)) none).length<=1000000:=by rw [Str.length_append,l1];omega
 have kl:(cN z a c i).length<1000000:=by rw [xO];omega
 have ks:(cN z a c i).map PV.str++[.str (key z a (pj c i))]=(cN z a c (i+1)).map PV.str:=by simp [xN]
 simp only [ig,kH,wQ,jr,wP,kG]
 simp [cm,cF,cZ,pe,-kI,sg,j1,zl,a1,a2,kl]
 exact ks
def H8 (c:Int) (m:Nat) (hm:m<=8):∃ks:Ad,ks.Nodup/\ks.length=m/\(∀k∈ks,bP k=true/\k.length<=8)/\∀st,nE [.int c,.int m] st=.ok (.ref st.length) (st++[.lst (ks.map PV.str)]):=by
 obtain ⟨w,h8,_,lw,ew⟩:=qV c
 have sl:(Txt.slice w none (some 7)).length<=7:=by
  have:=qY w none (some 7)
  have q:∀n:Nat,n<9->(PySem.Builtin.Str.strSliceIndices none (some 7) 1 n).length<=7:=by decide +kernel
  have:=q w.length (by omega)
  omega
 have lz:=lw.slice none (some 7)
 generalize hzz:Txt.slice w none (some 7)=z at sl lz
 obtain ⟨a,ha,ea⟩:=dz (zY c 5) (z.length+1) (by omega)
 refine ⟨cN z a c m,xP z a c m hm,xO z a c m,λk hk=>?_,λst=>?_⟩
 ·simp only [cN,gY] at hk
  obtain ⟨i,_,rfl⟩:=hk
  exact HV lz sl (by omega) (iP c i).1
 ·obtain ⟨bx,aE,r1,r2⟩:=qW (g:=gN 5) (body:=kb) (λi e s=>∃x5 x6,e=[some (.int c),some (.int m),some (.str z),some (.int a),At st.length,x5,x6]/\s=st++[.lst ((cN z a c i).map PV.str)]) m
   (λi e s hi ⟨x5,x6,h1,h2⟩=>by
    subst h1 h2
    exact ⟨_,_,_,rfl,HZ (by omega) st i (by omega) x6,some (.int i),_,rfl,rfl⟩) m 0 [some (.int c),some (.int m),some (.str z),some (.int a),At st.length,none,none] (st++[.lst []]) (by omega) ⟨none,none,rfl,by simp [cN]⟩
  obtain ⟨x5,x6,rfl,rfl⟩:=r2
  have rg:=qX m (st++[.lst []]) (by omega)
  have wl:w.length<=1000000:=by omega
  have zl:z.length<=1000000:=by omega
  have nz:((z.length:Int)+1)≠0:=by omega
  have qZ:zI (zY c 5) ((z.length:Int)+1)=(a:Int):=ea
  simp only [nE]
  refine iF rfl (zL (yp (v:=.str z) (s1:=st) (ve (z0 (yj (zr rfl)) (ew st)) vg (vf rfl) (by simp [j1,wl,hzz]))) ?_)
  refine zL (yp (v:=.int a) (s1:=st) ?_) ?_
  ·simp [cZ,cF,nz,zZ,zl,qZ]
  refine zL (yp (qm ni (by simp))) ?_
  refine zL (e1:=[some (.int c),some (.int m),some (.str z),some (.int a),At st.length,x5,x6]) (s1:=st++[.lst ((cN z a c m).map PV.str)]) ?_ (wW (zr rfl))
  simp only [pW,p8,wR,ic]
  rw [show zd 1 (_:zc) (st++[SO.lst []])=.ok (.int m) (st++[SO.lst []]) from rfl]
  simp only [zB]
  rw [rg]
  simp only [zB,pX]
  exact r1
def H9 {ks:Ad}(nd:ks.Nodup) {i:Nat}(hi:i<ks.length):ks[i]∉ks.take i:=λhm=>by
 obtain ⟨j,hj,e⟩:=List.getElem_of_mem hm
 rw [List.getElem_take] at e
 have H_:j<i:=by simp at hj;omega
 exact (List.pairwise_iff_getElem.mp nd) j i (by omega) hi H_ e
abbrev rb:Aj:=(mW (zd 2) (zg zH (zd 3) (zd 4)) (zg zH (zd 1) (zd 4)))
def Ia {c:Int}{n:Nat}{xs:An}{ks:Ad}{st:aj}(hn:st[n]?=some (.lst xs)) (nd:ks.Nodup) (hl:ks.length=xs.length) (h8:xs.length<=8) (i:Nat) (hi:i<xs.length) :
  rb [some (.int c),At n,At st.length,some (.ref (st.length+1)),some (.int i)] (st++[.dic (ks.take i) (xs.take i),.lst (ks.map PV.str)])=.ok (.nx [some (.int c),At n,At st.length,some (.ref (st.length+1)),some (.int i)]) (st++[.dic (ks.take (i+1)) (xs.take (i+1)),.lst (ks.map PV.str)]):=by
 have c7:i<ks.length:=by omega
 have q0:(st++[SO.dic (ks.take i) (xs.take i),.lst (ks.map PV.str)])[n]?=some (.lst xs):=(Pre.of st _).get hn
 have h2:(st++[SO.dic (ks.take i) (xs.take i),.lst (ks.map PV.str)])[st.length+1]?=some (.lst (ks.map PV.str)):=by simp
 have h3:(st++[SO.dic (ks.take i) (xs.take i),.lst (ks.map PV.str)])[st.length]?=some (.dic (ks.take i) (xs.take i)):=by simp
 have a1:zH (.ref n) (.int (i:Int)) (st++[SO.dic (ks.take i) (xs.take i),.lst (ks.map PV.str)])=.ok xs[i] (st++[SO.dic (ks.take i) (xs.take i),.lst (ks.map PV.str)]):=by
  simp [ye q0,bu (zR hi)]
 have a2:zH (.ref (st.length+1)) (.int (i:Int)) (st++[SO.dic (ks.take i) (xs.take i),.lst (ks.map PV.str)])=.ok (.str ks[i]) (st++[SO.dic (ks.take i) (xs.take i),.lst (ks.map PV.str)]):=by
  have:(ks.map PV.str)[i]?=some (.str ks[i]):=by simp [c7]
  simp [ye h2,bu this]
 have put:jH (.str ks[i]) xs[i] (.ref st.length) (st++[SO.dic (ks.take i) (xs.take i),.lst (ks.map PV.str)])=.ok () (st++[.dic (ks.take (i+1)) (xs.take (i+1)),.lst (ks.map PV.str)]):=by
  have no:=H9 nd c7
  simp only [jH,yM,h3]
  rw [zu (by show (ks.take i).length<1000000;simp;omega)]
  simp [jG,no,List.take_append_getElem hi,List.take_append_getElem c7]
 unfold rb mW
 rw [zA (zr rfl) (zr rfl) a1]
 simp only [zB,jr,og,wg]
 rw [zA (zr rfl) (zr rfl) a2]
 simp only [zB]
 rw [put]
 rfl
def Ib (c:Int) (m:Nat) (hm:m<=8):∃ks:Ad,ks.Nodup/\ks.length=m/\(∀k∈ks,bP k=true/\k.length<=8)/\∀(st:aj) (n:Nat) (xs:An),st[n]?=some (.lst xs)->xs.length=m->lr [.int c,.ref n] st=.ok (.ref st.length) (st++[.dic ks xs,.lst (ks.map PV.str)]):=by
 obtain ⟨ks,nd,kl,kw,ek⟩:=H8 c m hm
 refine ⟨ks,nd,kl,kw,λst n xs hn hx=>?_⟩
 subst hx
 have q0:(st++[SO.dic [] []])[n]?=some (.lst xs):=(Pre.of st _).get hn
 have e1:=ek (st++[.dic [] []])
 have e2:st++[SO.dic [] []]++[SO.lst (ks.map PV.str)]=st++[.dic (ks.take 0) (xs.take 0),.lst (ks.map PV.str)]:=by simp
 have e3:(st++[SO.dic [] []]).length=st.length+1:=by simp
 rw [e2,e3] at e1
 obtain ⟨bx,aE,r1,r2⟩:=qW (g:=gN 4) (body:=rb) (λi e s=>∃x4,e=[some (.int c),At n,At st.length,some (.ref (st.length+1)),x4]/\s=st++[.dic (ks.take i) (xs.take i),.lst (ks.map PV.str)]) xs.length
  (λi e s hi ⟨x4,h1,h2⟩=>by
   subst h1 h2
   exact ⟨_,_,_,rfl,Ia hn nd kl hm i hi,some (.int i),rfl,rfl⟩) xs.length 0 [some (.int c),At n,At st.length,some (.ref (st.length+1)),none] (st++[.dic (ks.take 0) (xs.take 0),.lst (ks.map PV.str)]) (by omega) ⟨none,rfl,rfl⟩
 obtain ⟨x4,rfl,rfl⟩:=r2
 rw [List.take_of_length_le (zG xs.length),List.take_of_length_le (show ks.length<=xs.length by omega)] at r1
 have dD:(st++[SO.dic (ks.take 0) (xs.take 0),.lst (ks.map PV.str)])[n]?=some (.lst xs):=(Pre.of st _).get hn
 have rg:=qX xs.length (st++[.dic (ks.take 0) (xs.take 0),.lst (ks.map PV.str)]) (by omega)
 have Ic:zZ [.ref n] (st++[SO.dic [] []])=.ok (.int xs.length) (st++[SO.dic [] []]):=by simp [ye q0]
 have ln2:zZ [.ref n] (st++[SO.dic (ks.take 0) (xs.take 0),.lst (ks.map PV.str)])=.ok (.int xs.length) (st++[SO.dic (ks.take 0) (xs.take 0),.lst (ks.map PV.str)]):=by
  generalize ks.take 0=k0 at dD ⊢
  generalize xs.take 0=x0 at dD ⊢
  simp [ye dD]
 simp only [lr]
 refine iF rfl (zL (yp (v:=.ref st.length) (s1:=st++[.dic [] []]) rfl) ?_)
 refine zL (yp (z0 (yz (zr rfl) (z0 (yj (zr rfl)) Ic)) e1)) ?_
 refine zL (e1:=[some (.int c),At n,At st.length,some (.ref (st.length+1)),x4]) (s1:=st++[.dic ks xs,.lst (ks.map PV.str)]) ?_ (wW (zr rfl))
 simp only [pW,p8]
 rw [yj (z0 (yj (zr rfl)) ln2)]
 simp only [zB]
 rw [rg]
 simp only [zB,pX]
 exact r1
section
variable {fk fv lI lJ:Ai} {env:zc} {st:aj} {k v k' v':PV} {c:OC} {z:Str}
def Ie (hk:∀s,fk env s=.ok k s) (hv:∀s,fv env s=.ok v s) (h:ww [k]=some c) (hl:dN c=1):jx [(fk,fv)] env st=.ok (.ref st.length) (st++[.odd c [v]]):=by
 simp only [jx,wU,hk,hv,zB,h]
 rw [zu ⟨by simp [cH],by simp [hl]⟩]
 simp
def Ig (hk:∀s,fk env s=.ok k s) (hv:∀s,fv env s=.ok v s) (kK:∀s,lI env s=.ok k' s) (hv':∀s,lJ env s=.ok v' s) (h:ww [k,k']=some c) (hl:dN c=2):jx [(fk,fv),(lI,lJ)] env st=.ok (.ref st.length) (st++[.odd c [v,v']]):=by
 simp only [jx,wU,hk,hv,kK,hv',zB,h]
 rw [zu ⟨by simp [cH],by simp [hl]⟩]
 simp
def Ih (hk:∀s,fk env s=.ok (.str z) s) (hv:∀s,fv env s=.ok v s):iB [(fk,fv)] env st=.ok (.ref st.length) (st++[.dic [z] [v]]):=by
 simp only [iB,wU,hk,hv,zB,dM]
 simp [cH,jI,jG]
end
abbrev n6:Str := "AZ09 _'-"
def Ii:∀ch∈n6.cps.toList,ch∉cA.cps.toList:=by decide +kernel
def Ij {z:Str}{ch:Nat}(h:ch∈z.cps.toList) (h':ch∉cA.cps.toList):bP z=false:=by
 cases e:bP z with
 |false=>rfl
 |true =>
  simp only [bP,yA,List.all_eq_true,wE] at e
  exact absurd (e.2 ch h) h'
def Ik {z:Str}(h:9<=z.length):bP z=false:=by
 have:¬z.length<=8:=by omega
 simp [bP,this]
def Il:∀n:Nat,n<73->9<=n->PySem.Builtin.Str.strSliceIndices none (some 9) 1 n=[0,1,2,3,4,5,6,7,8]:=by decide +kernel
def Im {z:Str}(h1:9<=z.length) (h2:z.length<73):9<=(Txt.slice z none (some 9)).length:=by
 unfold Txt.slice
 rw [Il z.length h2 h1]
 split
 ·exact h1
 ·have e:∀k,k<9->∃ch,z.cps[k]?=some ch:=λk hk=>⟨_,Array.getElem?_eq_getElem (show k<z.cps.size from yR hk h1)⟩
  obtain ⟨a0,e0⟩:=e 0 (by decide)
  obtain ⟨a1,e1⟩:=e 1 (by decide)
  obtain ⟨a2,e2⟩:=e 2 (by decide)
  obtain ⟨a3,e3⟩:=e 3 (by decide)
  obtain ⟨a4,e4⟩:=e 4 (by decide)
  obtain ⟨a5,e5⟩:=e 5 (by decide)
  obtain ⟨a6,e6⟩:=e 6 (by decide)
  obtain ⟨a7,e7⟩:=e 7 (by decide)
  obtain ⟨a8,e8⟩:=e 8 (by decide)
  show 9<=(List.filterMap _ _).toArray.size
  simp only [List.filterMap_cons,List.filterMap_nil,e0,e1,e2,e3,e4,e5,e6,e7,e8]
  exact zG 9
section
variable {env:zc} {st:aj} {L:List SO}
def lK {fs:Ah}{xs:An}{L':List SO}{k:Nat}(h:fs env (st++L)=.ok xs (st++L')) (hl:xs.length<=1000000) (hk:L'.length=k):jh fs env (st++L)=.ok (.ref (st.length+k)) (st++(L'++[.lst xs])):=by
 rw [qm h hl,jB,hk,jW]
def xQ {fk fv:Ai}{z:Str}{v:PV}{k:Nat}(h1:∀s,fk env s=.ok (.str z) s) (h2:∀s,fv env s=.ok v s) (hk:L.length=k):iB [(fk,fv)] env (st++L)=.ok (.ref (st.length+k)) (st++(L++[.dic [z] [v]])):=by
 rw [Ih h1 h2,jB,hk,jW]
def Io {k:Nat} (hk:L.length=k):mZ ["", "a"] [(Ar 1),(Ar 2)] env (st++L)=.ok (.ref (st.length+k)) (st++(L++[.dic ["", "a"] [.int 1,.int 2]])):=by
 have e:(jI (List.zip (["", "a"]:Ad) [PV.int 1,PV.int 2]) [] [])=((["", "a"]:Ad),[PV.int 1,PV.int 2]):=by
  have:¬("a" : Str)=("" : Str):=by decide +kernel
  simp [jI,jG,this]
 simp only [mZ,mY,wP,zB,e]
 rw [zu (by simp [cH])]
 simp [hk]
def nM {fk fv:Ai}{x v:PV}{c:OC}{k:Nat}(h1:∀s,fk env s=.ok x s) (h2:∀s,fv env s=.ok v s) (h:ww [x]=some c) (hl:dN c=1) (hk:L.length=k):jx [(fk,fv)] env (st++L)=.ok (.ref (st.length+k)) (st++(L++[.odd c [v]])):=by
 rw [Ie h1 h2 h hl,jB,hk,jW]
def Ip {fk fv lI lJ:Ai}{x v x' v':PV}{c:OC}{k:Nat}(h1:∀s,fk env s=.ok x s) (h2:∀s,fv env s=.ok v s) (h3:∀s,lI env s=.ok x' s) (h4:∀s,lJ env s=.ok v' s) (h:ww [x,x']=some c) (hl:dN c=2) (hk:L.length=k):jx [(fk,fv),(lI,lJ)] env (st++L)=.ok (.ref (st.length+k)) (st++(L++[.odd c [v,v']])):=by
 rw [Ig h1 h2 h3 h4 h hl,jB,hk,jW]
def xR {n m k:Nat}{xs ys:An}(hn:L[n]?=some (.lst xs)) (hm:L[m]?=some (.lst ys)) (hl:xs.length+ys.length<=1000000) (hk:L.length=k):zS (.ref (st.length+n)) (.ref (st.length+m)) (st++L)=.ok (.ref (st.length+k)) (st++(L++[.lst (xs++ys)])):=by
 have a:(st++L)[st.length+n]?=some (.lst xs):=by rw [jN (by omega)];simpa using hn
 have b:(st++L)[st.length+m]?=some (.lst ys):=by rw [jN (by omega)];simpa using hm
 show zK _ _ _=_
 rw [ye a,ye b,zu hl,jB,hk,jW]
def xS {n:Nat}{so:SO}(hn:L[n]?=some so):(st++L)[st.length+n]?=some so:=by
 rw [jN (by omega)];simpa using hn
end
def Iq (c:Int):∃t,okT t=false/\sz t<=3/\dp t<=2/\∀(st:aj) (r:Nat),r<st.length->∃v aE,iJ [.int c] st=.ok v aE/\Pre st aE/\TR r aE t v:=by
 obtain ⟨w,h8,h1,lw,ew⟩:=qV (zY c 20)
 obtain ⟨a,ha,ea⟩:=dz (zY c 7) (w.length+1) (by omega)
 obtain ⟨k,hk,ek⟩:=dz (zY c 3) 8 (by decide)
 obtain ⟨ch,gI,ec⟩:=xJ n6 8 (by decide +kernel) (by decide) (k:Int) (by omega) (by omega)
 have l1:(⟨#[ch]⟩:Str).length=1:=rfl
 have s1:=Txt.slice_le w none (some (a:Int))
 have s2:=Txt.slice_le w (some (a:Int)) none
 have a1:(Txt.slice w none (some (a:Int))).length+(⟨#[ch]⟩:Str).length<=1000000:=by rw [l1];omega
 have a2:(Txt.slice w none (some (a:Int))++(⟨#[ch]⟩:Str)).length+(Txt.slice w (some (a:Int)) none).length<=1000000:=by rw [Str.length_append,l1];omega
 obtain ⟨sp,q9⟩:∃sp,sp=Txt.slice w none (some (a:Int))++(⟨#[ch]⟩:Str)++Txt.slice w (some (a:Int)) none:=⟨_,rfl⟩
 have dX:bP sp=false:=by
  refine Ij (ch:=ch) ?_ (Ii ch gI)
  rw [q9]
  simp [Str.cps_append]
 have xT:sp.length<=1000:=by rw [q9,Str.length_append,Str.length_append,l1];omega
 obtain ⟨f,hf⟩:∃f,f=zI (zY c 20) 1000000000000000000000000000000:=⟨_,rfl⟩
 have KN:0<=f:=by rw [hf,y0 _ _ (by decide)];exact Int.emod_nonneg _ (by decide)
 obtain ⟨w9,e9⟩:∃w9,w9=Txt.slice (bQ w 9) none (some 9):=⟨_,rfl⟩
 have rl:(bQ w 9).length=9*w.length:=uF w 9
 have h9:bP w9=false:=by
  rw [e9]
  exact Ik (Im (by omega) (by omega))
 have xU:w9.length<=1000:=by have:=Txt.slice_le (bQ w 9) none (some 9);rw [e9];omega
 have wl:w.length<=1000:=by omega
 obtain ⟨b,hb,eb⟩:=dz c 20 (by decide)
 have Ir:zI c 20=(b:Int):=eb
 obtain ⟨Ts,gg⟩:∃Ts:List Tr,Ts=[.tru true,.tru false,.non,.num (1000000000000000000+f),.num (-1000000000000000000-f),.num 1000000000000000000,.num (-1000000000000000000),.word "", .word w9,.word sp,.lst [1],.lst [],.rec_ [sp] [.num 1],.rec_ ["", "a"] [.num 1,.num 2],.od .one [.num 1],.rec_ [w9] [.row []],.od .non [.num 1],.od .tru [.word w],.od (.row [.inl 1]) [.num 1],.od (.mix "a" [.inr w]) [.num 1,.num 2]]:=⟨_,rfl⟩
 have i0:bP "" = false:=by decide +kernel
 have xV:∀t∈Ts,okT t=false/\sz t<=3/\dp t<=2:=by
  have n1:¬(1000000000000000000+f<1000000000000000000):=by omega
  have n2:¬(-1000000000000000000 < -1000000000000000000-f):=by omega
  rw [gg]
  simp [okT,ok,okTs,sz,a9,dp,bM,dX,h9,i0,n1,n2]
 have KO:Ts.length=20:=by rw [gg];rfl
 have main:∀st,∃xs aE,(∀v,xs[b]?=some v->iJ [.int c] st=.ok v aE)/\Pre st aE/\∀r,r<st.length->aR r aE Ts xs:=by
  intro st
  obtain ⟨A,hA⟩:∃A:An,A=[.bl true,.bl false,.non,.int (1000000000000000000+f),.int (-1000000000000000000-f),.int 1000000000000000000,.int (-1000000000000000000),.str "", .str w9]:=⟨_,rfl⟩
  obtain ⟨B,hB⟩:∃B:An,B=[.str sp,.ref (st.length+1),.ref (st.length+2),.ref (st.length+3),.ref (st.length+4),.ref (st.length+5),.ref (st.length+6)]:=⟨_,rfl⟩
  obtain ⟨C,hC⟩:∃C:An,C=[.ref (st.length+9),.ref (st.length+10),.ref (st.length+11),.ref (st.length+12)]:=⟨_,rfl⟩
  have lA:A.length=9:=by rw [hA];rfl
  have lB:B.length=7:=by rw [hB];rfl
  have lC:C.length=4:=by rw [hC];rfl
  obtain ⟨E,hE⟩:∃E:Option PV->zc,E=λx=>[some (.int c),some (.str w),some (.int a),some (.str sp),some (.int f),x]:=⟨_,rfl⟩
  have k9:∀x s,yI (zg yY (zd 1) (Ar 9)) ba (bf (Ar 9)) (E x) s=.ok (.str w9) s:=λx s=>by
   rw [hE]
   have r9:(bQ w 9).length<=1000000:=by omega
   refine ve (zA (zr rfl) rfl (by rw [Fx,zu ⟨by decide,by decide,wl⟩])) vg (vf rfl) ?_
   rw [e9]
   simp [j1,r9]
  have xW:∀x s,zd 1 (E x) s=.ok (.str w) s:=λx s=>by rw [hE];rfl
  have xX:∀x s,zd 3 (E x) s=.ok (.str sp) s:=λx s=>by rw [hE];rfl
  have xY:∀x s,zd 4 (E x) s=.ok (.int f) s:=λx s=>by rw [hE];rfl
  have q_:∀v s,zd 5 (E (some v)) s=.ok v s:=λx s=>by rw [hE];rfl
  have es:∀x v,(E x).set 5 (some v)=E (some v):=λx v=>by rw [hE];rfl
  have cp:fS 10 18=true:=by decide
  have pw:∀s:aj,jp (.int 10) (.int 18) s=.ok (.int 1000000000000000000) s:=λs=>by
   have:((10:Int) ^ (18:Int).toNat)=1000000000000000000:=by decide
   simp only [kG,cp,jf,this]
  have fq:nB (E none) st=nA (E (At st.length)) (st++[.lst A]):=by
   have q:∀s,zg jp (Ar 10) (Ar 18) (E none) s=.ok (.int 1000000000000000000) s:=λs=>zA rfl rfl (pw s)
   have e0:=lK (env:=E none) (st:=st) (L:=[]) (L':=[]) (k:=0) (xs:=A) (fs:=(ze (mC (.bl true)) (ze (mC (.bl false)) (ze (mC .non) (ze (zg zS (zg jp (Ar 10) (Ar 18)) (zd 4)) (ze (zg yW (zg yW (Ar 0) (zg jp (Ar 10) (Ar 18))) (zd 4)) (ze (zg jp (Ar 10) (Ar 18)) (ze (zg yW (Ar 0) (zg jp (Ar 10) (Ar 18))) (ze (As "") (ze (yI (zg yY (zd 1) (Ar 9)) ba (bf (Ar 9))) zk))))))))))
    (by
     rw [hA,List.append_nil]
     exact yi rfl (yi rfl (yi rfl (yi (zA (q st) (xY none st) (kY _ _)) (yi (zA (zA rfl (q st) (qo _ _)) (xY none st) (qo _ _)) (yi (q st) (yi (zA rfl (q st) (qo _ _)) (yi rfl (yj (k9 none st))))))))))
    (by omega) rfl
   rw [List.append_nil] at e0
   unfold nB
   refine zL (yp e0) ?_
   rw [es]
   rfl
  have bV:nA (E (At st.length)) (st++[.lst A])=ny (E (some (.ref (st.length+8)))) (st++[.lst A,.lst [.int 1],.lst [],.dic [sp] [.int 1],.dic ["", "a"] [.int 1,.int 2],.odd .one [.int 1],.dic [w9] [.tup []],.lst B,.lst (A++B)]):=by
   unfold nA
   refine zL (yp (zA (q_ _ _) (lK (L':=[.lst A,.lst [.int 1],.lst [],.dic [sp] [.int 1],.dic ["", "a"] [.int 1,.int 2],.odd .one [.int 1],.dic [w9] [.tup []]]) (k:=7) (xs:=B) ?_ (by omega) rfl) (xR (n:=0) (m:=7) (k:=8) (xs:=A) (ys:=B) rfl rfl (by omega) rfl))) ?_
   ·rw [hB]
    exact yi (xX _ _) (yi (lK (L':=[.lst A]) (k:=1) (yj rfl) (by simp) rfl) (yi (lK (L:=[.lst A,.lst [.int 1]]) (L':=[.lst A,.lst [.int 1]]) (k:=2) ni (by simp) rfl)
     (yi (xQ (L:=[.lst A,.lst [.int 1],.lst []]) (k:=3) (λs=>xX _ s) (λs=>rfl) rfl) (yi (Io (L:=[.lst A,.lst [.int 1],.lst [],.dic [sp] [.int 1]]) (k:=4) rfl)
     (yi (nM (x:=.int 1) (c:=.one) (L:=[.lst A,.lst [.int 1],.lst [],.dic [sp] [.int 1],.dic ["", "a"] [.int 1,.int 2]]) (k:=5) (λs=>rfl) (λs=>rfl) rfl rfl rfl)
     (yj (xQ (L:=[.lst A,.lst [.int 1],.lst [],.dic [sp] [.int 1],.dic ["", "a"] [.int 1,.int 2],.odd .one [.int 1]]) (k:=6) (λs=>k9 _ s) (λs=>rfl) rfl)))))))
   ·rw [es]
    rfl
  have xZ:ny (E (some (.ref (st.length+8)))) (st++[.lst A,.lst [.int 1],.lst [],.dic [sp] [.int 1],.dic ["", "a"] [.int 1,.int 2],.odd .one [.int 1],.dic [w9] [.tup []],.lst B,.lst (A++B)])=nv (E (some (.ref (st.length+14)))) (st++[.lst A,.lst [.int 1],.lst [],.dic [sp] [.int 1],.dic ["", "a"] [.int 1,.int 2],.odd .one [.int 1],.dic [w9] [.tup []],.lst B,.lst (A++B),.odd .non [.int 1],.odd .tru [.str w],.odd (.row [.inl 1]) [.int 1],.odd (.mix "a" [.inr w]) [.int 1,.int 2],.lst C,.lst (A++B++C)]):=by
   unfold ny
   refine zL (yp (zA (q_ _ _) (lK (L':=[.lst A,.lst [.int 1],.lst [],.dic [sp] [.int 1],.dic ["", "a"] [.int 1,.int 2],.odd .one [.int 1],.dic [w9] [.tup []],.lst B,.lst (A++B),.odd .non [.int 1],.odd .tru [.str w],.odd (.row [.inl 1]) [.int 1],.odd (.mix "a" [.inr w]) [.int 1,.int 2]]) (k:=13) (xs:=C) ?_ (by omega) rfl) (xR (n:=8) (m:=13) (k:=14) (xs:=A++B) (ys:=C) rfl rfl (by simp;omega) rfl))) ?_
   ·rw [hC]
    exact yi (nM (x:=.non) (c:=.non) (L:=[.lst A,.lst [.int 1],.lst [],.dic [sp] [.int 1],.dic ["", "a"] [.int 1,.int 2],.odd .one [.int 1],.dic [w9] [.tup []],.lst B,.lst (A++B)]) (k:=9) (λs=>rfl) (λs=>rfl) rfl rfl rfl)
     (yi (nM (x:=.bl true) (c:=.tru) (L:=[.lst A,.lst [.int 1],.lst [],.dic [sp] [.int 1],.dic ["", "a"] [.int 1,.int 2],.odd .one [.int 1],.dic [w9] [.tup []],.lst B,.lst (A++B),.odd .non [.int 1]]) (k:=10) (λs=>rfl) (λs=>xW _ s) rfl rfl rfl)
     (yi (nM (x:=.tup [.int 1]) (c:=.row [.inl 1]) (L:=[.lst A,.lst [.int 1],.lst [],.dic [sp] [.int 1],.dic ["", "a"] [.int 1,.int 2],.odd .one [.int 1],.dic [w9] [.tup []],.lst B,.lst (A++B),.odd .non [.int 1],.odd .tru [.str w]]) (k:=11) (λs=>rfl) (λs=>rfl) rfl rfl rfl)
     (yj (Ip (x:=.str "a") (x':=.tup [.str w]) (c:=.mix "a" [.inr w]) (L:=[.lst A,.lst [.int 1],.lst [],.dic [sp] [.int 1],.dic ["", "a"] [.int 1,.int 2],.odd .one [.int 1],.dic [w9] [.tup []],.lst B,.lst (A++B),.odd .non [.int 1],.odd .tru [.str w],.odd (.row [.inl 1]) [.int 1]]) (k:=12) (λs=>rfl) (λs=>rfl) (λs=>j4 (yj (xW _ s)) (by simp)) (λs=>rfl) rfl rfl rfl))))
   ·rw [es]
    rfl
  obtain ⟨L,hL⟩:∃L:List SO,L=[.lst A,.lst [.int 1],.lst [],.dic [sp] [.int 1],.dic ["", "a"] [.int 1,.int 2],.odd .one [.int 1],.dic [w9] [.tup []],.lst B,.lst (A++B),.odd .non [.int 1],.odd .tru [.str w],.odd (.row [.inl 1]) [.int 1],.odd (.mix "a" [.inr w]) [.int 1,.int 2],.lst C,.lst (A++B++C)]:=⟨_,rfl⟩
  rw [<-hL] at xZ
  refine ⟨A++B++C,st++L,λv hv=>?_,Pre.of _ _,λr hr=>?_⟩
  ·have x_:(st++L)[st.length+14]?=some (.lst (A++B++C)):=xS (by rw [hL];rfl)
   have y_:w.length<=1000000:=by omega
   have nz:((w.length:Int)+1)≠0:=by omega
   have qZ:zI (zY c 7) ((w.length:Int)+1)=(a:Int):=ea
   have Iu:zI (zY c 3) 8=(k:Int):=ek
   have Iv:((10:Int) ^ (30:Int).toNat)=1000000000000000000000000000000:=by decide
   have Iw:fS 10 30=true:=by decide
   have fin:nv (E (some (.ref (st.length+14)))) (st++L)=.ok (.rt v) (st++L):=by
    unfold nv
    refine wW (zA (q_ _ _) (zA (x:=.int c) (s1:=st++L) (by rw [hE];rfl) rfl (jm _ _ (by decide))) ?_)
    rw [Ir]
    rw [jW] at hv x_
    simp [ye x_,bu hv]
   simp only [iJ]
   refine iF rfl (zL (yp (z0 (yj (zA (zr rfl) rfl (iE _ _ (by decide) (by decide)))) (ew st))) ?_)
   refine zL (yp (v:=.int a) (s1:=st) ?_) ?_
   ·simp [cZ,cF,nz,zZ,y_,qZ]
   refine zL (yp (v:=.str sp) (s1:=st) ?_) ?_
   ·have Iy:=ec st
    rw [q9]
    simp only [wQ,jr,wP,kG,ug]
    simp [cF,cZ,Iu,-kI,Iy,j1,y_,a1,a2]
   refine zL (yp (v:=.int f) (s1:=st) ?_) ?_
   ·rw [hf]
    simp [cZ,cF,Iw,Iv]
   have Iz:E none=[some (.int c),some (.str w),some (.int a),some (.str sp),some (.int f),none]:=by rw [hE]
   show nB [some (.int c),some (.str w),some (.int a),some (.str sp),some (.int f),none] st=_
   rw [<-Iz,fq,bV,xZ,fin]
  ·have g:∀(n:Nat) so,L[n]?=some so->(st++L)[st.length+n]?=some so:=λn so h=>xS h
   have ne:∀n,st.length+n≠r:=λn=>by omega
   have IA:(["", "a"]:Ad).Nodup:=by decide +kernel
   rw [gg,hA,hB,hC]
   refine ⟨_,_,rfl,rfl,_,_,rfl,rfl,_,_,rfl,rfl,_,_,rfl,rfl,_,_,rfl,rfl,_,_,rfl,rfl,_,_,rfl,rfl,_,_,rfl,⟨rfl,by decide +kernel⟩,_,_,rfl,⟨rfl,xU⟩,_,_,rfl,⟨rfl,xT⟩,?_⟩
   refine ⟨_,_,rfl,⟨_,rfl,ne _,g 1 _ (by rw [hL];rfl)⟩,_,_,rfl,⟨_,rfl,ne _,g 2 _ (by rw [hL];rfl)⟩,?_⟩
   refine ⟨_,_,rfl,⟨_,[.int 1],rfl,ne _,g 3 _ (by rw [hL];rfl),by simp,rfl,aR.one rfl,by simpa using xT⟩,?_⟩
   refine ⟨_,_,rfl,⟨_,[.int 1,.int 2],rfl,ne _,g 4 _ (by rw [hL];rfl),IA,rfl,⟨_,_,rfl,rfl,aR.one rfl⟩,by decide +kernel⟩,?_⟩
   refine ⟨_,_,rfl,⟨_,[.int 1],rfl,ne _,g 5 _ (by rw [hL];rfl),aR.one rfl,trivial⟩,?_⟩
   refine ⟨_,_,rfl,⟨_,[.tup []],rfl,ne _,g 6 _ (by rw [hL];rfl),by simp,rfl,aR.one ⟨[],rfl,rfl⟩,by simpa using xU⟩,?_⟩
   refine ⟨_,_,rfl,⟨_,[.int 1],rfl,ne _,g 9 _ (by rw [hL];rfl),aR.one rfl,trivial⟩,?_⟩
   refine ⟨_,_,rfl,⟨_,[.str w],rfl,ne _,g 10 _ (by rw [hL];rfl),aR.one ⟨rfl,wl⟩,trivial⟩,?_⟩
   refine ⟨_,_,rfl,⟨_,[.int 1],rfl,ne _,g 11 _ (by rw [hL];rfl),aR.one rfl,trivial⟩,?_⟩
   exact ⟨_,_,rfl,⟨_,[.int 1,.int 2],rfl,ne _,g 12 _ (by rw [hL];rfl),⟨_,_,rfl,rfl,aR.one rfl⟩,by show ("a" : Str).length<=1000;decide +kernel⟩,rfl⟩
 have lt:b<Ts.length:=by omega
 obtain ⟨q1,q2,q3⟩:=xV Ts[b] (gX lt)
 refine ⟨Ts[b],q1,q2,q3,λst r hr=>?_⟩
 obtain ⟨xs,aE,e1,p1,h2⟩:=main st
 have h3:=h2 r hr
 have hl:=h3.len
 have lx:b<xs.length:=by omega
 obtain ⟨t,et,ht⟩:=h3.get (zR lx)
 rw [zR lt] at et
 cases et
 exact ⟨xs[b],aE,e1 _ (zR lx),p1,ht⟩
def aV (r:Nat) (st:aj):List (Tr×Int)->List PV->Prop
 |[],xs=>xs=[]
 |p::ps,xs=>∃v q,xs=.tup [v,.int p.2,.bl (okT p.1)]::q/\TR r st p.1 v/\aV r st ps q
section
variable {r r':Nat} {st:aj}
theorem aV.mono {a b:aj}(d:Ob r a b):∀(ts:List (Tr×Int)) {xs:An},aV r a ts xs->aV r b ts xs
 |[],_,h=>h
 |t::ts,_,h=>by obtain ⟨x,q,e,h1,h2⟩:=h;exact ⟨x,q,e,TR.mono d t.1 h1,aV.mono d ts h2⟩
theorem aV.new (hr:st.length<=r'):∀(ts:List (Tr×Int)) {xs:An},aV r st ts xs->aV r' st ts xs
 |[],_,h=>h
 |t::ts,_,h=>by obtain ⟨x,q,e,h1,h2⟩:=h;exact ⟨x,q,e,TR.new hr t.1 h1,aV.new hr ts h2⟩
theorem aV.len:∀{ts:List (Tr×Int)}{xs:An},aV r st ts xs->ts.length=xs.length
 |[],_,h=>by cases h;rfl
 |t::ts,_,h=>by obtain ⟨x,q,rfl,_,h2⟩:=h;simp [aV.len h2]
theorem aV.append:∀{ts us:List (Tr×Int)}{xs ys:An},aV r st ts xs->aV r st us ys->aV r st (ts++us) (xs++ys)
 |[],_,_,_,h,h'=>by cases h;exact h'
 |t::ts,_,_,_,h,h'=>by obtain ⟨y,q,rfl,h1,h2⟩:=h;exact ⟨y,q++_,rfl,h1,aV.append h2 h'⟩
theorem aV.take:∀{ts:List (Tr×Int)}{xs:An}(n:Nat),aV r st ts xs->aV r st (ts.take n) (xs.take n)
 |[],_,n,h=>by cases h;simp [aV]
 |t::ts,_,0,h=>by simp [aV]
 |t::ts,_,n+1,h=>by obtain ⟨y,q,rfl,h1,h2⟩:=h;exact ⟨y,_,rfl,h1,aV.take n h2⟩
theorem aV.drop:∀{ts:List (Tr×Int)}{xs:An}(n:Nat),aV r st ts xs->aV r st (ts.drop n) (xs.drop n)
 |[],_,n,h=>by cases h;simp [aV]
 |t::ts,_,0,h=>h
 |t::ts,_,n+1,h=>by obtain ⟨y,q,rfl,h1,h2⟩:=h;exact aV.drop n h2
def aV.one {t:Tr}{c:Int}{v:PV}{g:Bool}(h:TR r st t v) (hg:okT t=g):aV r st [(t,c)] [.tup [v,.int c,.bl g]]:=⟨v,[],by rw [hg],h,rfl⟩
def jU:PV->PV
 |.tup (x::_)=>x
 |_=>.non
def rd:PV->PV
 |.tup (_::x::_)=>x
 |_=>.non
def rh:PV->PV
 |.tup (_::_::x::_)=>x
 |_=>.non
abbrev T1 (ps:List (Tr×Int)):List Tr:=ps.map (·.1)
abbrev C1 (ps:List (Tr×Int)):List Int:=ps.map (·.2)
theorem aV.fsts:∀{ts:List (Tr×Int)}{xs:An},aV r st ts xs->aR r st (T1 ts) (xs.map jU)/\xs.map rd=(C1 ts).map PV.int/\xs.map rh=((T1 ts).map okT).map PV.bl/\∀x∈xs,∃v w u,x=.tup [v,w,u]
 |[],_,h=>by cases h;exact ⟨rfl,rfl,rfl,λx hx=>nomatch hx⟩
 |t::ts,_,h=>by
  obtain ⟨v,q,rfl,h1,h2⟩:=h
  obtain ⟨a,b,c,d⟩:=aV.fsts h2
  refine ⟨⟨v,_,rfl,h1,a⟩,by simp [rd,b],by simp [rh,c],λx hx=>?_⟩
  rcases yt.mp hx with rfl|hx
  ·exact ⟨v,_,_,rfl⟩
  ·exact d x hx
theorem z_:∀ts:List Tr,(ts.map okT).all id=okTs ts
 |[]=>rfl
 |t::ts=>by simp [okTs,<-z_ ts]
def Gd (ps:List (Tr×Int)):Prop:=∀p∈ps,okT p.1=true->p.2=sz p.1
theorem nO:∀{ps:List (Tr×Int)},Gd ps->okTs (T1 ps)=true->(C1 ps).sum=a9 (T1 ps)
 |[],_,_=>rfl
 |p::ps,h,o=>by
  simp only [T1,ym,okTs,yA] at o
  have e1:=h p (yr ..) o.1
  have e2:=nO (λq hq=>h q (yF _ hq)) o.2
  simp only [C1,T1,ym,List.sum_cons,a9]
  simp only [C1,T1] at e2
  omega
def lL {ps qs:List (Tr×Int)}(h:Gd ps) (h':Gd qs):Gd (ps++qs):=λp hp=>by
 rcases iR.mp hp with hp|hp
 ·exact h p hp
 ·exact h' p hp
def lM {t:Tr}{c:Int}(h:okT t=true->c=sz t):Gd [(t,c)]:=λp hp=>by
 have:p=(t,c):=by simpa using hp
 subst this
 exact h
def IB {ps:List (Tr×Int)}(h:Gd ps) (n:Nat):Gd (ps.take n)/\Gd (ps.drop n):=⟨λp hp=>h p (List.mem_of_mem_take hp),λp hp=>h p (List.mem_of_mem_drop hp)⟩
section
variable {n:Nat} {ts:List (Tr×Int)} {xs:An} (hn:st[n]?=some (.lst xs)) (h:aV r st ts xs) (hl:xs.length<=1000) (env:zc) (i:Nat) (he:env[i]?=some (At n))
include hn h hl he
def ri {f:PV->PV}{k:Int}(hf:∀v w u,f (.tup [v,w,u])=([v,w,u][k.toNat]?).getD .non) (hk:0<=k/\k<=2):yo (yD (zd i)) (zg zH (zd 0) (Ar k)) env st=.ok (.ref st.length) (st++[.lst (xs.map f)]):=by
 obtain ⟨_,_,_,c⟩:=h.fsts
 have q:=Fz (fe:=zg zH (zd 0) (Ar k)) (env:=env) (f:=f) hn (λx hx=>by
  obtain ⟨v,w,u,rfl⟩:=c x hx
  rw [hf]
  have:k=0\/k=1\/k=2:=by omega
  rcases this with rfl|rfl|rfl<;>simp [bt,di]) xs.length 0 (lim+1) [] (by omega) (y1 _) (by show xs.length<1000000+1;omega)
 simp only [List.nil_append,List.drop_zero] at q
 simp [he,ye hn,dH]
 simpa using q
def Ag:yo (yD (zd i)) (zg zH (zd 0) (Ar 0)) env st=.ok (.ref st.length) (st++[.lst (xs.map jU)]):=ri hn h hl env i he (λv w u=>rfl) ⟨by decide,by decide⟩
def Aq:zo iq (ze (yo (yD (zd i)) (zg zH (zd 0) (Ar 1))) zk) env st=.ok (.int (C1 ts).sum) (st++[.lst ((C1 ts).map PV.int)]):=by
 have c:=ri hn h hl env i he (f:=rd) (k:=1) (λv w u=>rfl) ⟨by decide,by decide⟩
 rw [h.fsts.2.1] at c
 have im:=HN (C1 ts)
 simp only [ie,wR,ic,c,zB,Fy,Fw]
 simp only [E9,zB]
 rw [im]
def Av:zo jT (ze (yo (yD (zd i)) (zg zH (zd 0) (Ar 2))) zk) env st=.ok (.bl (okTs (T1 ts))) (st++[.lst (((T1 ts).map okT).map PV.bl)]):=by
 have c:=ri hn h hl env i he (f:=rh) (k:=2) (λv w u=>rfl) ⟨by decide,by decide⟩
 rw [h.fsts.2.2.1] at c
 have al:=kW (j3 st (SO.lst (((T1 ts).map okT).map PV.bl)))
 rw [z_] at al
 exact z0 (yj c) al
end
end
def Kl (B:Nat) (a b:aj):Prop:=∀(n:Nat) so,n<B->a[n]?=some so->b[n]?=some so
def Kl.trans {B:Nat}{a b c:aj}(h:Kl B a b) (h':Kl B b c):Kl B a c:=λn so l e=>h' n so l (h n so l e)
def IC {B r:Nat}{a b:aj}(h:Ob r a b) (hr:B<=r):Kl B a b:=λn so l e=>h n so (by omega) e
def rj {B:Nat}{a b:aj}(h:Pre a b):Kl B a b:=λn so l e=>h.get e
def ID (xs:An) (k:Nat) (h:k<=xs.length):bC xs (some (k:Int)) none=xs.drop k:=by
 unfold bC
 rw [HT.sIx_nat,HT.sIx_none,Nat.min_eq_left h]
 exact List.take_of_length_le (by simp)
def IE (xs:An) (k:Nat) (h:k<=xs.length):bC xs none (some (k:Int))=xs.take k:=by
 unfold bC
 rw [HT.sIx_nat,HT.sIx_none,Nat.min_eq_left h]
 simp
abbrev EB (ns:List Int) (sz bd:Int) (r:Nat) (dp:Bool) (i:Nat) (x6 x7 x8 x9 x10 x11:Ao):zc:=[some (.frl (ns.map PV.int)),some (.int sz),some (.int bd),At r,some (.bl dp),some (.int i),x6,x7,x8,x9,x10,x11]
abbrev b1:Aj:=zD 6 (zo js (ze (zd 0) (ze (zg zS (Ar 3) (zd 5)) zk)))
abbrev b2:Aj:=zD 7 (zo wT (ze (zg zJ (zg yh (zd 6) (Ar 4)) (Ar 5)) (ze (zo zZ (ze (zd 3) zk)) zk)))
abbrev b3:Aj:=(zX (mB (zd 4))
  (zD 7 (zo wT (ze (Ar 1) (ze (zo zZ (ze (zd 3) zk)) zk))))
  yu)
abbrev b4:Aj:=zD 8 (yI (zd 3) (bf (zg yW (zo zZ (ze (zd 3) zk)) (zd 7))) ba)
abbrev b5:Aj:=zD 9 (zg zS (Ar 1) (zo iq (ze (yo (yD (zd 8)) (zg zH (zd 0) (Ar 1))) zk)))
abbrev b6:Aj:=zD 10 (zo jT (ze (yo (yD (zd 8)) (zg zH (zd 0) (Ar 2))) zk))
abbrev bO:Aj:=(yN (yK jb (zd 3) (yB (ze (zo iJ (ze (zd 6) zk)) (ze (Ar 1) (ze (mC (.bl false)) zk))))))
abbrev bN:Aj:=(yN (yK jb (zd 3) (yB (ze (zo j6 (ze (zg yh (zd 6) (Ar 4)) zk)) (ze (Ar 1) (ze (mC (.bl true)) zk))))))
abbrev bW:Aj:=(yN (yK jb (zd 3) (yB (ze (zo wY (ze (zg yh (zd 6) (Ar 4)) zk)) (ze (Ar 1) (ze (mC (.bl true)) zk))))))
abbrev b7:Aj:=(zD 3 (yI (zd 3) ba (bf (zg yW (zo zZ (ze (zd 3) zk)) (zd 7)))))
abbrev b8:Aj:=(zD 11 (yo (yD (zd 8)) (zg zH (zd 0) (Ar 0))))
abbrev bR:Aj:=(yN (yK jb (zd 3) (yB (ze (zo wM (ze (zd 11) zk)) (ze (zd 9) (ze (zd 10) zk))))))
abbrev bD:Aj:=(yN (yK jb (zd 3) (yB (ze (zo lr (ze (zg yh (zd 6) (Ar 4)) (ze (zd 11) zk))) (ze (zd 9) (ze (zd 10) zk))))))
abbrev b9:Aj:=(zX (mB (zg yy (zg zJ (zd 6) (Ar 4)) (Ar 2))) bR bD)
abbrev br:Aj:=(zX (mB (zg yy (zd 5) (zd 2))) bO
  (zX (mB (zg yy (zg zJ (zd 6) (Ar 4)) (Ar 0))) bN
  (zX (yT (mB (zg yy (zg zJ (zd 6) (Ar 4)) (Ar 1))) (yU (mB (zd 4)))) bW
  (zx b7 (zx b8 b9)))))
abbrev bb:Aj:=(zx b1 (zx b2 (zx b3 (zx b4 (zx b5 (zx b6 br))))))
def many (dp:Bool) (c:Int) (n:Nat):Nat:=if dp then min 1 n else min (c/4%5).toNat n
def rm (dp:Bool) (c:Int) (n:Nat):many dp c n<=n/\many dp c n<=4:=by
 unfold many
 have:=Int.emod_lt_of_pos (c/4) (show (0:Int)<5 by decide)
 split
 ·omega
 ·omega
section
variable {ns:List Int} {sz bd:Int} {dp:Bool} {i r:Nat} {c:Int} {x6 x7 x8 x9 x10 x11:Ao} {st:aj} {xs:An} {ps:List (Tr×Int)}
def IF (hr:st[r]?=some (.lst xs)):∃y7,b2 (EB ns sz bd r dp i (some (.int c)) x7 x8 x9 x10 x11) st=.ok (.nx (EB ns sz bd r dp i (some (.int c)) y7 x8 x9 x10 x11)) st/\b3 (EB ns sz bd r dp i (some (.int c)) y7 x8 x9 x10 x11) st=.ok (.nx (EB ns sz bd r dp i (some (.int c)) (some (.int (many dp c xs.length:Nat))) x8 x9 x10 x11)) st:=by
 have e4:zY c 4=c/4:=qO _ _ (by decide)
 have e5:zI (c/4) 5=c/4%5:=y0 _ _ (by decide)
 have h0:=Int.emod_nonneg (c/4) (show (5:Int)≠0 by decide)
 refine ⟨some (.int (if (xs.length:Int)<c/4%5 then xs.length else c/4%5)),?_,?_⟩
 ·simp [cZ,cF,e4,e5,ye hr]
 ·cases dp with
  |true =>
   simp [ye hr,many]
   split<;>omega
  |false =>
   simp [many]
   split<;>omega
def s4 (hr:st[r]?=some (.lst xs)) (m:Nat) (hm:m<=xs.length):b4 (EB ns sz bd r dp i x6 (some (.int (m:Nat))) x8 x9 x10 x11) st=.ok (.nx (EB ns sz bd r dp i x6 (some (.int (m:Nat))) (At st.length) x9 x10 x11)) (st++[.lst (xs.drop (xs.length-m))]):=by
 have e:((xs.length:Int)-(m:Int))=((xs.length-m:Nat):Int):=by omega
 have cd:=ID xs (xs.length-m) (by omega)
 simp [ye hr]
 rw [e,cd]
def s7 (hr:st[r]?=some (.lst xs)) (m:Nat) (hm:m<=xs.length):b7 (EB ns sz bd r dp i x6 (some (.int (m:Nat))) x8 x9 x10 x11) st=.ok (.nx (EB ns sz bd st.length dp i x6 (some (.int (m:Nat))) x8 x9 x10 x11)) (st++[.lst (xs.take (xs.length-m))]):=by
 have e:((xs.length:Int)-(m:Int))=((xs.length-m:Nat):Int):=by omega
 have cd:=IE xs (xs.length-m) (by omega)
 simp [ye hr]
 rw [e,cd]
def nP {h9:3+i<1000}(ec:c=bE ns (3+i) h9) (hr:st[r]?=some (.lst xs)) (h:aV r st ps xs) (hl:xs.length<=1000):∃aa n,bb (EB ns sz bd r dp i x6 x7 x8 x9 x10 x11) st =
   br (EB ns sz bd r dp i (some (.int c)) (some (.int (many dp c xs.length:Nat))) (At n) (some (.int (1+(C1 (ps.drop (xs.length-many dp c xs.length))).sum))) (some (.bl (okTs (T1 (ps.drop (xs.length-many dp c xs.length)))))) x11) aa /\
   Pre st aa/\aa[n]?=some (.lst (xs.drop (xs.length-many dp c xs.length))):=by
 obtain ⟨aa,e1,p1⟩:=wC ns (3+i) h9 st
 rw [<-ec] at e1
 have dy:=p1.get hr
 have IG:=h.mono (wc p1)
 obtain ⟨y7,q2,q3⟩:=IF (ns:=ns) (sz:=sz) (bd:=bd) (dp:=dp) (i:=i) (c:=c) (x7:=x7) (x8:=x8) (x9:=x9) (x10:=x10) (x11:=x11) dy
 have ml:=rm dp c xs.length
 generalize many dp c xs.length=m at q3 ml ⊢
 have q4:=s4 (ns:=ns) (sz:=sz) (bd:=bd) (dp:=dp) (i:=i) (x6:=some (.int c)) (x8:=x8) (x9:=x9) (x10:=x10) (x11:=x11) dy m ml.1
 have top:=j3 aa (SO.lst (xs.drop (xs.length-m)))
 have hd:=(IG.mono (iO r aa [SO.lst (xs.drop (xs.length-m))])).drop (xs.length-m)
 have hl2:(xs.drop (xs.length-m)).length<=1000:=by simp;omega
 have q5:=Aq top hd hl2 (EB ns sz bd r dp i (some (.int c)) (some (.int (m:Nat))) (At aa.length) x9 x10 x11) 8 rfl
 have top2:=(Pre.of _ [SO.lst ((C1 (ps.drop (xs.length-m))).map PV.int)]).get top
 have q6:=Av top2 (hd.mono (iO r _ _)) hl2 (EB ns sz bd r dp i (some (.int c)) (some (.int (m:Nat))) (At aa.length) (some (.int (1+(C1 (ps.drop (xs.length-m))).sum))) x10 x11) 8 rfl
 have IH:((3:Int)+(i:Int))=((3+i:Nat):Int):=by omega
 refine ⟨_,aa.length,zL (yp (z0 (yz (zr rfl) (zA rfl (zr rfl) (kY _ _))) (by rw [IH];exact e1))) (zL q2 (zL q3 (zL q4 (zL (yp (zA rfl q5 (kY _ _))) (zL (yp q6) rfl))))),(p1.trans (Pre.of _ _)).trans ((Pre.of _ _).trans (Pre.of _ _)),(Pre.of _ _).get top2⟩
end
section
variable {ns:List Int} {cB bd:Int} {dp0:Bool} {i r B:Nat} {x6 x7 x8 x9 x10 x11:Ao} {st s2:aj} {xs:An} {ps:List (Tr×Int)}
def lN {f:Ai}{v:PV}(hr:st[r]?=some (.lst xs)) (hl:xs.length<=1000) (p:Pre st s2) (hv:f (EB ns cB bd r dp0 i x6 x7 x8 x9 x10 x11) st=.ok v s2):yN (yK jb (zd 3) f) (EB ns cB bd r dp0 i x6 x7 x8 x9 x10 x11) st=.ok (.nx (EB ns cB bd r dp0 i x6 x7 x8 x9 x10 x11)) (s2.set r (.lst (xs++[v]))):=by
 have eA:xs.length<1000000:=by omega
 refine Ge (v:=.non) (Gf (zr rfl) hr hv ?_)
 simp [ye (p.get hr),eA]
def lO {t:Tr}{v:PV}{k:Int}{g:Bool}(hB:B<=r) (hr:st[r]?=some (.lst xs)) (h:aV r st ps xs) (p:Pre st s2) (ht:TR r s2 t v) (hg:okT t=g):(s2.set r (.lst (xs++[.tup [v,.int k,.bl g]])))[r]?=some (.lst (xs++[.tup [v,.int k,.bl g]]))/\aV r (s2.set r (.lst (xs++[.tup [v,.int k,.bl g]]))) (ps++[(t,k)]) (xs++[.tup [v,.int k,.bl g]])/\Kl B st (s2.set r (.lst (xs++[.tup [v,.int k,.bl g]]))):=by
 have rl:r<s2.length:=(zM.mp (p.get hr)).1
 have d:=xm r s2 (.lst (xs++[.tup [v,.int k,.bl g]]))
 exact ⟨by rw [wD rl],((h.mono (wc p)).mono d).append (aV.one (ht.mono d) hg),(rj p).trans (IC d hB)⟩
end
def nQ (a b:List (Tr×Int)):T1 (a++b)=T1 a++T1 b:=by simp [T1]
def nR (a:List (Tr×Int)):(T1 a).length=a.length:=jL _
def lP (a:List (Tr×Int)) (t:Tr) (k:Int):a9 (T1 (a++[(t,k)]))=a9 (T1 a)+sz t:=by
 rw [nQ,nJ]
 show a9 (T1 a)+(sz t+0)=_
 omega
def lQ (a:List (Tr×Int)) (t:Tr) (k:Int):bM (T1 (a++[(t,k)]))=max (bM (T1 a)) (dp t):=by
 rw [nQ,qQ]
 show max (bM (T1 a)) (max (dp t) 0)=_
 omega
def step (ns:List Int) (cB bd:Int) (dp0:Bool) (i:Nat) (hi:i<100) (ps:List (Tr×Int)) (hg:Gd ps) (hs:a9 (T1 ps)<=3*i) (hd:bM (T1 ps)<=i+2):∃fF,Gd fF/\a9 (T1 fF)<=3*(i+1)/\bM (T1 fF)<=i+1+2 /\
  ∀(B r:Nat) (xs:An) (st:aj) (x6 x7 x8 x9 x10 x11:Ao),B<=r->B<=st.length->st[r]?=some (.lst xs)->aV r st ps xs ->
  ∃r' bB aE y6 y7 y8 y9 gJ gK,bb (EB ns cB bd r dp0 i x6 x7 x8 x9 x10 x11) st=.ok (.nx (EB ns cB bd r' dp0 i y6 y7 y8 y9 gJ gK)) aE/\B<=r'/\B<=aE.length/\aE[r']?=some (.lst bB)/\aV r' aE fF bB/\Kl B st aE:=by
 have h9:3+i<1000:=by omega
 obtain ⟨c,ec⟩:∃c,c=bE ns (3+i) h9:=⟨_,rfl⟩
 have tl:=lH (T1 ps)
 have pl:ps.length<=300:=by rw [nR] at tl;omega
 have e4:zI c 4=c%4:=y0 _ _ (by decide)
 have eW:∀{B r:Nat} {st:aj} {xs:An},B<=r->st[r]?=some (.lst xs)->B<=st.length:=λ{B r st xs} a b=>by
  have:=(zM.mp b).1
  omega
 by_cases hb:(i:Int)=bd
 ·obtain ⟨t,o1,o2,o3,ot⟩:=Iq c
  refine ⟨ps++[(t,1)],lL hg (lM λz=>by rw [o1] at z;cases z),by rw [lP];(try simp only [sz]);omega,by rw [lQ];(try simp only [dp]);omega,λB r xs st x6 x7 x8 x9 x10 x11 hB eR hr h=>?_⟩
  have len:=h.len
  obtain ⟨aa,n,e1,p1,hn⟩:=nP (sz:=cB) (bd:=bd) (dp:=dp0) (x6:=x6) (x7:=x7) (x8:=x8) (x9:=x9) (x10:=x10) (x11:=x11) ec hr h (by omega)
  have dy:=p1.get hr
  obtain ⟨v,s2,e2,p2,t2⟩:=ot aa r (zM.mp dy).1
  obtain ⟨f1,f2,f3⟩:=lO (k:=1) hB hr h (p1.trans p2) t2 o1
  refine ⟨r,_,_,_,_,_,_,_,_,e1.trans (kX (yb (zA (zr rfl) (zr rfl) (by rw [yZ,jg hb]))) (lN dy (by omega) p2 (j4 (yi (z0 (yj (zr rfl)) e2) (yz rfl rfl)) (by simp)))),hB,eW hB f1,f1,f2,f3⟩
 have rn:decide ((i:Int)=bd)=false:=yn hb
 by_cases h0:c%4=0
 ·obtain ⟨k,ro,en⟩:=HR (zY c 4)
  have o1:okT (.num k)=true:=by simp only [okT,ro]
  refine ⟨ps++[(.num k,1)],lL hg (lM λ_=>by simp [sz]),by rw [lP];(try simp only [sz]);omega,by rw [lQ];(try simp only [dp]);omega,λB r xs st x6 x7 x8 x9 x10 x11 hB eR hr h=>?_⟩
  have len:=h.len
  obtain ⟨aa,n,e1,p1,hn⟩:=nP (sz:=cB) (bd:=bd) (dp:=dp0) (x6:=x6) (x7:=x7) (x8:=x8) (x9:=x9) (x10:=x10) (x11:=x11) ec hr h (by omega)
  have dy:=p1.get hr
  obtain ⟨s2,e2,p2⟩:=en aa
  obtain ⟨f1,f2,f3⟩:=lO (t:=.num k) (k:=1) hB hr h (p1.trans p2) rfl o1
  refine ⟨r,_,_,_,_,_,_,_,_,e1.trans (wv (yb (zA (zr rfl) (zr rfl) (by rw [yZ,rn]))) (kX (yb (zA (zA (zr rfl) rfl (jm _ _ (by decide))) rfl (by rw [yZ,e4,jg h0]))) (lN dy (by omega) p2 (j4 (yi (z0 (yj (zA (zr rfl) rfl (iE _ _ (by decide) (by decide)))) e2) (yz rfl rfl)) (by simp))))),hB,eW hB f1,f1,f2,f3⟩
 by_cases h1:c%4=1/\dp0=false
 ·obtain ⟨h1,rfl⟩:=h1
  obtain ⟨w,w8,w1,lw,ew⟩:=qV (zY c 4)
  have o1:okT (.word w)=true:=by simp only [okT,ok,xI w1 w8 lw]
  refine ⟨ps++[(.word w,1)],lL hg (lM λ_=>by simp [sz]),by rw [lP];(try simp only [sz]);omega,by rw [lQ];(try simp only [dp]);omega,λB r xs st x6 x7 x8 x9 x10 x11 hB eR hr h=>?_⟩
  have len:=h.len
  obtain ⟨aa,n,e1,p1,hn⟩:=nP (sz:=cB) (bd:=bd) (dp:=false) (x6:=x6) (x7:=x7) (x8:=x8) (x9:=x9) (x10:=x10) (x11:=x11) ec hr h (by omega)
  have dy:=p1.get hr
  obtain ⟨f1,f2,f3⟩:=lO (t:=.word w) (k:=1) hB hr h p1 ⟨rfl,by omega⟩ o1
  refine ⟨r,_,_,_,_,_,_,_,_,e1.trans (wv (yb (zA (zr rfl) (zr rfl) (by rw [yZ,rn]))) (wv (yb (zA (zA (zr rfl) rfl (jm _ _ (by decide))) rfl (by rw [yZ,e4,yn h0]))) (kX (j5 (yb (zA (zA (zr rfl) rfl (jm _ _ (by decide))) rfl (by rw [yZ,e4,jg h1]))) (iD (b:=false) (yb (zr rfl)))) (lN dy (by omega) (Pre.refl _) (j4 (yi (z0 (yj (zA (zr rfl) rfl (iE _ _ (by decide) (by decide)))) (ew aa)) (yz rfl rfl)) (by simp)))))),hB,eW hB f1,f1,f2,f3⟩
 have go:∀(B r:Nat) (xs:An) (st:aj) (x6 x7 x8 x9 x10 x11:Ao),B<=r->B<=st.length->st[r]?=some (.lst xs)->aV r st ps xs->∃s3 n r1 n1 ys zs,bb (EB ns cB bd r dp0 i x6 x7 x8 x9 x10 x11) st=b9 (EB ns cB bd r1 dp0 i (some (.int c)) (some (.int (many dp0 c ps.length:Nat))) (At n) (some (.int (1+(C1 (ps.drop (ps.length-many dp0 c ps.length))).sum))) (some (.bl (okTs (T1 (ps.drop (ps.length-many dp0 c ps.length)))))) (At n1)) s3 /\
   Pre st s3/\B<=r1/\r1<s3.length/\s3[n1]?=some (.lst ys)/\aR r1 s3 (T1 (ps.drop (ps.length-many dp0 c ps.length))) ys/\s3[r1]?=some (.lst zs)/\aV r1 s3 (ps.take (ps.length-many dp0 c ps.length)) zs:=by
  intro B r xs st x6 x7 x8 x9 x10 x11 hB eR hr h
  have len:=h.len
  obtain ⟨aa,n,e1,p1,hn⟩:=nP (sz:=cB) (bd:=bd) (dp:=dp0) (x6:=x6) (x7:=x7) (x8:=x8) (x9:=x9) (x10:=x10) (x11:=x11) ec hr h (by omega)
  have dy:=p1.get hr
  rw [len]
  have ml:=rm dp0 c xs.length
  generalize many dp0 c xs.length=m at e1 hn ml ⊢
  have q7:=s7 (ns:=ns) (sz:=cB) (bd:=bd) (dp:=dp0) (i:=i) (x6:=some (.int c)) (x8:=some (.ref n)) (x9:=some (.int (1+(C1 (ps.drop (xs.length-m))).sum))) (x10:=some (.bl (okTs (T1 (ps.drop (xs.length-m)))))) (x11:=x11) dy m ml.1
  have hw:=(aV.new (zG aa.length) ps (h.mono (wc p1))).mono (iO aa.length aa [SO.lst (xs.take (xs.length-m))])
  have dD:(aa++[SO.lst (xs.take (xs.length-m))])[n]?=some (.lst (xs.drop (xs.length-m))):=(Pre.of _ _).get hn
  have Aw:=hw.drop (xs.length-m)
  have q8:=Ag dD Aw (by simp;omega) (EB ns cB bd aa.length dp0 i (some (.int c)) (some (.int (m:Nat))) (At n) (some (.int (1+(C1 (ps.drop (xs.length-m))).sum))) (some (.bl (okTs (T1 (ps.drop (xs.length-m)))))) x11) 8 rfl
  have d8:=iO aa.length (aa++[SO.lst (xs.take (xs.length-m))]) [SO.lst ((xs.drop (xs.length-m)).map jU)]
  have lB:=eW hB dy
  have Ax:∀{s:aj} {e:zc},e[6]?=some (some (.int c))->e[4]?=some (some (.bl dp0))->(yT (mB (zg yy (zg zJ (zd 6) (Ar 4)) (Ar 1))) (yU (mB (zd 4)))) e s=.ok false s:=λ{s e} h6 h4=>by
   by_cases gI:c%4=1
   ·refine j5 (yb (zA (zA (zr h6) rfl (jm _ _ (by decide))) rfl (by rw [yZ,e4,jg gI]))) ?_
    have:dp0=true:=by cases dp0 with
     |true=>rfl
     |false=>exact absurd ⟨gI,rfl⟩ h1
    subst this
    exact iD (b:=true) (yb (zr h4))
   ·exact iC (yb (zA (zA (zr h6) rfl (jm _ _ (by decide))) rfl (by rw [yZ,e4,yn gI])))
  refine ⟨_,n,aa.length,_,_,_,e1.trans (wv (yb (zA (zr rfl) (zr rfl) (by rw [yZ,rn]))) (wv (yb (zA (zA (zr rfl) rfl (jm _ _ (by decide))) rfl (by rw [yZ,e4,yn h0]))) (wv (Ax rfl rfl) (zL q7 (zL (yp q8) rfl))))),(p1.trans (Pre.of _ _)).trans (Pre.of _ _),lB,?_,j3 _ _,Aw.fsts.1.mono d8,(Pre.of _ _).get (j3 _ _),(hw.take (xs.length-m)).mono d8⟩
  simp
 have ml:=rm dp0 c ps.length
 have n8:a9 (T1 (ps.take (ps.length-many dp0 c ps.length)))+a9 (T1 (ps.drop (ps.length-many dp0 c ps.length)))=a9 (T1 ps):=by rw [<-nJ,<-nQ,List.take_append_drop]
 have n9:max (bM (T1 (ps.take (ps.length-many dp0 c ps.length)))) (bM (T1 (ps.drop (ps.length-many dp0 c ps.length))))=bM (T1 ps):=by rw [<-qQ,<-nQ,List.take_append_drop]
 have gc:=IB hg (ps.length-many dp0 c ps.length)
 have II:(ps.take (ps.length-many dp0 c ps.length)).length<=300:=by simp;omega
 have IJ:(ps.drop (ps.length-many dp0 c ps.length)).length<=4:=by simp;omega
 generalize ps.take (ps.length-many dp0 c ps.length)=ta at go n8 n9 gc II
 generalize ps.drop (ps.length-many dp0 c ps.length)=tb at go n8 n9 gc IJ
 by_cases h2:c%4=2
 ·have o1:okT (.row (T1 tb))=okTs (T1 tb):=by simp [okT,ok]
  refine ⟨ta++[(.row (T1 tb),1+(C1 tb).sum)],lL gc.1 (lM λz=>by rw [o1] at z;have:=nO gc.2 z;simp only [sz];omega),by rw [lP];(try simp only [sz]);omega,by rw [lQ];(try simp only [dp]);omega,λB r xs st x6 x7 x8 x9 x10 x11 hB eR hr h=>?_⟩
  obtain ⟨s3,n,r1,n1,ys,zs,e,p3,gL,rl,k1,k2,k3,k4⟩:=go B r xs st x6 x7 x8 x9 x10 x11 hB eR hr h
  have l2:=k2.len
  have l4:=k4.len
  have KP:ys.length<=1000:=by rw [<-l2,nR];omega
  have et:wM [.ref n1] s3=.ok (.tup ys) s3:=by simp [ye k1]
  obtain ⟨f1,f2,f3⟩:=lO (t:=.row (T1 tb)) (k:=1+(C1 tb).sum) gL k3 k4 (Pre.refl _) ⟨ys,rfl,k2⟩ o1
  exact ⟨r1,_,_,_,_,_,_,_,_,e.trans (kX (yb (zA (zA (zr rfl) rfl (jm _ _ (by decide))) rfl (by rw [yZ,e4,jg h2]))) (lN k3 (by omega) (Pre.refl _) (j4 (yi (z0 (yj (zr rfl)) et) (yz (zr rfl) (zr rfl))) (by simp)))),gL,eW gL f1,f1,f2,(rj p3).trans f3⟩
 ·obtain ⟨ks,nd,kl,kw,Ay⟩:=Ib (zY c 4) tb.length (by omega)
  have o1:okT (.rec_ ks (T1 tb))=okTs (T1 tb):=by
   have:ks.all bP=true:=List.all_eq_true.mpr λk hk=>(kw k hk).1
   simp [okT,ok,this]
  refine ⟨ta++[(.rec_ ks (T1 tb),1+(C1 tb).sum)],lL gc.1 (lM λz=>by rw [o1] at z;have:=nO gc.2 z;simp only [sz];omega),by rw [lP];(try simp only [sz]);omega,by rw [lQ];(try simp only [dp]);omega,λB r xs st x6 x7 x8 x9 x10 x11 hB eR hr h=>?_⟩
  obtain ⟨s3,n,r1,n1,ys,zs,e,p3,gL,rl,k1,k2,k3,k4⟩:=go B r xs st x6 x7 x8 x9 x10 x11 hB eR hr h
  have l2:=k2.len
  have l4:=k4.len
  have yl:ys.length=tb.length:=by rw [<-l2,nR]
  have er:=Ay s3 n1 ys k1 yl
  have pr:Pre s3 (s3++[SO.dic ks ys,.lst (ks.map PV.str)]):=Pre.of _ _
  obtain ⟨f1,f2,f3⟩:=lO (t:=.rec_ ks (T1 tb)) (v:=.ref s3.length) (k:=1+(C1 tb).sum) gL k3 k4 pr ⟨s3.length,ys,rfl,by omega,by simp,nd,by omega,k2.mono (wc pr),λk hk=>by have:=(kw k hk).2;omega⟩ o1
  exact ⟨r1,_,_,_,_,_,_,_,_,e.trans (wv (yb (zA (zA (zr rfl) rfl (jm _ _ (by decide))) rfl (by rw [yZ,e4,yn h2]))) (lN k3 (by omega) pr (j4 (yi (z0 (yz (zA (zr rfl) rfl (iE _ _ (by decide) (by decide))) (zr rfl)) er) (yz (zr rfl) (zr rfl))) (by simp)))),gL,eW gL f1,f1,f2,(rj p3).trans f3⟩
abbrev EX (ns:List Int) (sz bd:Int) (r:Nat) (dp:Bool) (x5 x6 x7 x8 x9 x10 x11:Ao):zc:=[some (.frl (ns.map PV.int)),some (.int sz),some (.int bd),At r,some (.bl dp),x5,x6,x7,x8,x9,x10,x11]
theorem Az (ns:List Int) (cB bd:Int) (dp0:Bool) (n:Nat) (hn:n<=100):∀(k i:Nat) (ps:List (Tr×Int)),i+k=n->Gd ps->a9 (T1 ps)<=3*i->bM (T1 ps)<=i+2->∃fF,Gd fF/\a9 (T1 fF)<=3*n/\bM (T1 fF)<=n+2 /\
  ∀(B r:Nat) (xs:An) (st:aj) (x5 x6 x7 x8 x9 x10 x11:Ao),B<=r->B<=st.length->st[r]?=some (.lst xs)->aV r st ps xs ->
  ∃r' bB aE y5 y6 y7 y8 y9 gJ gK,forL (gN 5) bb ((List.range' i k).map λj:Nat=>PV.int j) (EX ns cB bd r dp0 x5 x6 x7 x8 x9 x10 x11) st=.ok (.nx (EX ns cB bd r' dp0 y5 y6 y7 y8 y9 gJ gK)) aE/\aE[r']?=some (.lst bB)/\aV r' aE fF bB/\Kl B st aE
 |0,i,ps,e,g,h1,h2=>⟨ps,g,by omega,by omega,λB r xs st x5 x6 x7 x8 x9 x10 x11 hB eR hr hw=>⟨r,xs,st,x5,x6,x7,x8,x9,x10,x11,by simp,hr,hw,λ_ _ _ e=>e⟩⟩
 |k+1,i,ps,e,g,h1,h2=>by
  obtain ⟨p1,g1,a1,IK,c1⟩:=step ns cB bd dp0 i (by omega) ps g h1 h2
  obtain ⟨p2,g2,a2,IL,c2⟩:=Az ns cB bd dp0 n hn k (i+1) p1 (by omega) g1 a1 IK
  refine ⟨p2,g2,a2,IL,λB r xs st x5 x6 x7 x8 x9 x10 x11 hB eR hr hw=>?_⟩
  obtain ⟨r1,IM,aa,y6,y7,y8,y9,gJ,gK,e1,f1,f2,f3,f4,f5⟩:=c1 B r xs st x6 x7 x8 x9 x10 x11 hB eR hr hw
  obtain ⟨r2,mQ,ak,z5,z6,z7,z8,z9,IQ,IU,e2,k2,k3,k4⟩:=c2 B r1 IM aa (some (.int i)) y6 y7 y8 y9 gJ gK f1 f2 f3 f4
  refine ⟨r2,mQ,ak,z5,z6,z7,z8,z9,IQ,IU,?_,k2,k3,f5.trans k4⟩
  rw [List.range'_succ,ym]
  conv=>lhs;unfold forL
  simp only [EX,pV,List.set_cons_succ,List.set_cons_zero]
  have gn:bb [some (.frl (ns.map PV.int)),some (.int cB),some (.int bd),At r,some (.bl dp0),some (.int i),x6,x7,x8,x9,x10,x11] st=_:=e1
  rw [gn]
  simp only [zB]
  exact e2
abbrev F (ns:List Int):PV:=.frl (ns.map PV.int)
def IV (ns:List Int) (n:Nat) (hn:n<=100) (bd:Int):∃ps,Gd ps/\a9 (T1 ps)<=3*n/\bM (T1 ps)<=n+2/\∀st,∃r xs aE,nF [F ns,.int n,.int bd] st=.ok (.ref r) aE/\aE[r]?=some (.lst xs)/\aV r aE ps xs/\Old st aE:=by
 obtain ⟨ps,h1,h2,h3,h4⟩:=Az ns n bd (decide (bE ns 2 (by decide)%3=1)) n hn n 0 [] (by omega) (λp hp=>nomatch hp) (by simp [a9]) (by simp [bM])
 refine ⟨ps,h1,h2,h3,λst=>?_⟩
 obtain ⟨aa,e1,p1⟩:=wC ns 2 (by decide) (st++[.lst []])
 have hr:aa[st.length]?=some (.lst []):=p1.get (j3 _ _)
 have hl:=(zM.mp hr).1
 obtain ⟨r,xs,aE,y5,y6,y7,y8,y9,gJ,gK,e2,f2,g2,d2⟩:=h4 st.length st.length [] aa none none none none none none none (zG _) (by omega) hr rfl
 refine ⟨r,xs,aE,?_,f2,g2,λm so e=>d2 m so (zM.mp e).1 (((Pre.of st [SO.lst []]).trans p1).get e)⟩
 have e3:zI (bE ns 2 (by decide)) 3=bE ns 2 (by decide)%3:=y0 _ _ (by decide)
 have rg:=qX n aa (by omega)
 simp only [nF]
 refine iF rfl (zL (yp (qm ni (by simp))) (zL (yp (zA (zA (z0 (yz (zr rfl) rfl) e1) rfl (jm _ _ (by decide))) rfl (yZ _ _))) ?_))
 rw [e3]
 refine zL (e1:=EX ns n bd r (decide (bE ns 2 (by decide)%3=1)) y5 y6 y7 y8 y9 gJ gK) (s1:=aE) ?_ (wW (zr rfl))
 simp only [pW,p8]
 rw [yj (x:=.int n) (s1:=aa) (zr rfl)]
 simp only [zB]
 rw [rg]
 simp only [zB,pX]
 exact e2
def size (f:Int):Int:=if f%3=1 then 57+f/3%6 else f/3%12
def IW (f:Int):∃n:Nat,size f=n/\n<=62:=by
 have a:=Int.emod_nonneg (f/3) (show (6:Int)≠0 by decide)
 have b:=Int.emod_lt_of_pos (f/3) (show (0:Int)<6 by decide)
 have a3:=Int.emod_nonneg (f/3) (show (12:Int)≠0 by decide)
 have b3:=Int.emod_lt_of_pos (f/3) (show (0:Int)<12 by decide)
 refine ⟨(size f).toNat,?_,?_⟩<;>(unfold size;split<;>omega)
def IY (ns:List Int) (f:Int) (st:aj):nG [some (F ns),some (.int f),none,none,none,none] st=ly [some (F ns),some (.int f),some (.int (size f)),none,none,none] st:=by
 have e3:zI f 3=f%3:=y0 _ _ (by decide)
 have d3:zY f 3=f/3:=qO _ _ (by decide)
 have a:zI (f/3) 12=f/3%12:=y0 _ _ (by decide)
 have b:zI (f/3) 6=f/3%6:=y0 _ _ (by decide)
 simp only [nG,vY]
 by_cases h:f%3=1<;>simp [cF,cZ,e3,d3,a,b,h,size]
def IZ (ns:List Int) (f:Int) (n:Nat):∃bd:Int,∀st,∃aa,ly [some (F ns),some (.int f),some (.int n),none,none,none] st=qH [some (F ns),some (.int f),some (.int n),some (.int bd),none,none] aa/\Pre st aa:=by
 have e2:zI (bE ns 1 (by decide)) 2=bE ns 1 (by decide)%2:=y0 _ _ (by decide)
 by_cases h:bE ns 1 (by decide)%2=1
 ·refine ⟨zI (zY (bE ns 1 (by decide)) 2) (if (n:Int)<=1 then 1 else n),λst=>?_⟩
  obtain ⟨s1,q1,p1⟩:=wC ns 1 (by decide) st
  obtain ⟨s2,q2,p2⟩:=wC ns 1 (by decide) s1
  refine ⟨s2,?_,p1.trans p2⟩
  simp only [ly]
  refine zL (yp (v:=.int (-1)) (s1:=st) rfl) ?_
  simp only [qI]
  refine zL (kX (yb (zA (zA (z0 (yz (zr rfl) rfl) q1) rfl (jm _ _ (by decide))) rfl (by rw [yZ,e2,jg h]))) (yp (zA (zA (z0 (yz (zr rfl) rfl) q2) rfl (iE _ _ (by decide) (by decide))) (z0 (yz (y:=.int n) (s2:=s2) rfl (zr rfl)) (s1:=s2) (X:=.ok (.int (if (n:Int)<=1 then 1 else n)) s2) ?_) (jm _ _ ?_)))) rfl
  ·simp
   split<;>split<;>first|rfl|omega|(congr 2;omega)
  ·split<;>omega
 ·refine ⟨-1,λst=>?_⟩
  obtain ⟨s1,q1,p1⟩:=wC ns 1 (by decide) st
  refine ⟨s1,?_,p1⟩
  simp only [ly]
  refine zL (yp (v:=.int (-1)) (s1:=st) rfl) ?_
  simp only [qI]
  exact zL (wX (yb (zA (zA (z0 (yz (zr rfl) rfl) q1) rfl (jm _ _ (by decide))) rfl (by rw [yZ,e2,yn h])))) rfl
def I_ (ns:List Int):∃(t:Tr) (k:Int),(okT t=true->k=sz t)/\sz t<=1000/\dp t<=70/\∀st,∃v r aE,wZ [F ns] st=.ok (.tup [v,.int k,.bl (okT t)]) aE/\TR r aE t v/\Old st aE:=by
 obtain ⟨n,en,hn⟩:=IW (bE ns 0 (by decide))
 obtain ⟨bd,Ja⟩:=IZ ns (bE ns 0 (by decide)) n
 obtain ⟨ps,g,h1,h2,h3⟩:=IV ns n (by omega) bd
 have tl:=lH (T1 ps)
 rw [nR] at tl
 have hd:∀st,∃r xs ak,wZ [F ns] st=(lu [some (F ns),some (.int (bE ns 0 (by decide))),some (.int n),some (.int bd),At r,none] ak).bind endOf/\ak[r]?=some (.lst xs)/\aV r ak ps xs/\Old st ak:=by
  intro st
  obtain ⟨c9,e0,p0⟩:=wC ns 0 (by decide) st
  obtain ⟨aa,e1,p1⟩:=Ja c9
  obtain ⟨r,xs,ak,e2,f2,g2,d2⟩:=h3 aa
  refine ⟨r,xs,ak,?_,f2,g2,(gH (p0.trans p1)).trans d2⟩
  show (qJ [some (F ns),none,none,none,none,none] st).bind endOf=_
  refine congrArg (λq:Res Fl=>q.bind endOf) ?_
  simp only [qJ]
  refine zL (yp (z0 (yz (zr rfl) rfl) e0)) ?_
  show nG [some (F ns),some (.int (bE ns 0 (by decide))),none,none,none,none] c9=_
  rw [IY,en,e1]
  simp only [qH]
  exact zL (yp (z0 (yi (zr rfl) (yz (zr rfl) (zr rfl))) e2)) rfl
 have AA:zY (bE ns 2 (by decide)) 3=bE ns 2 (by decide)/3:=qO _ _ (by decide)
 have AB:zI (bE ns 2 (by decide)/3) 2=bE ns 2 (by decide)/3%2:=y0 _ _ (by decide)
 by_cases hc:0<ps.length/\bE ns 2 (by decide)/3%2=1
 ·
  have lt:ps.length-1<ps.length:=by omega
  have hm:ps[ps.length-1].1∈T1 ps:=List.mem_map_of_mem (gX lt)
  refine ⟨ps[ps.length-1].1,ps[ps.length-1].2,g _ (gX lt),?_,?_,λst=>?_⟩
  ·have:=xn hm;omega
  ·have:=lG hm;omega
  ·obtain ⟨r,xs,ak,e,hr,hw,d⟩:=hd st
   obtain ⟨aL,e4,p4⟩:=wC ns 2 (by decide) ak
   have len:=hw.len
   have q:=hw.drop (ps.length-1)
   rw [je lt] at q
   obtain ⟨v,rr,e5,h5,_⟩:=q
   have hx:xs[xs.length-1]?=some (.tup [v,.int ps[ps.length-1].2,.bl (okT ps[ps.length-1].1)]):=by
    have:=congrArg List.head? e5
    rw [List.head?_drop] at this
    rw [<-len]
    exact this
   have ha:bt xs (-1)=some (.tup [v,.int ps[ps.length-1].2,.bl (okT ps[ps.length-1].1)]):=by
    have:di xs.length (-1)=some (xs.length-1):=by simp [di];omega
    simp only [bt,this]
    exact hx
   refine ⟨v,r,aL,?_,h5.mono (wc p4),d.trans (gH p4)⟩
   have Jb:js [F ns,.int 2] ak=.ok (.int (bE ns 2 (by decide))) aL:=e4
   have lR:0<xs.length:=by omega
   rw [e]
   simp only [lu]
   simp [ye hr,lR,Jb,cZ,cF,AA,AB,hc.2,ye (p4.get hr),ha]
 ·have o1:okT (.row (T1 ps))=okTs (T1 ps):=by simp [okT,ok]
  refine ⟨.row (T1 ps),1+(C1 ps).sum,λz=>by rw [o1] at z;have:=nO g z;simp only [sz];omega,by simp only [sz];omega,by simp only [dp];omega,λst=>?_⟩
  obtain ⟨r,xs,ak,e,hr,hw,d⟩:=hd st
  have len:=hw.len
  have fin:∀aL,Pre ak aL->∃v aE,qG [some (F ns),some (.int (bE ns 0 (by decide))),some (.int n),some (.int bd),At r,none] aL=.ok (.rt (.tup [v,.int (1+(C1 ps).sum),.bl (okT (.row (T1 ps)))])) aE/\TR r aE (.row (T1 ps)) v/\Old aL aE:=by
   intro aL p3
   have rp:=p3.get hr
   have nS:=hw.mono (wc p3)
   have c1:=Ag rp nS (by omega) [some (F ns),some (.int (bE ns 0 (by decide))),some (.int n),some (.int bd),At r,none] 4 rfl
   have p4:Pre aL (aL++[SO.lst (xs.map jU)]):=Pre.of _ _
   have c2:=Aq (p4.get rp) (nS.mono (wc p4)) (by omega) [some (F ns),some (.int (bE ns 0 (by decide))),some (.int n),some (.int bd),At r,At aL.length] 4 rfl
   have p5:=Pre.of (aL++[SO.lst (xs.map jU)]) [SO.lst ((C1 ps).map PV.int)]
   have c3:=Av ((p4.trans p5).get rp) (nS.mono (wc (p4.trans p5))) (by omega) [some (F ns),some (.int (bE ns 0 (by decide))),some (.int n),some (.int bd),At r,At aL.length] 4 rfl
   have et:wM [.ref aL.length] (aL++[SO.lst (xs.map jU)])=.ok (.tup (xs.map jU)) (aL++[SO.lst (xs.map jU)]):=by simp
   have p6:=Pre.of (aL++[SO.lst (xs.map jU)]++[SO.lst ((C1 ps).map PV.int)]) [SO.lst (((T1 ps).map okT).map PV.bl)]
   refine ⟨.tup (xs.map jU),_,?_,⟨_,rfl,nS.fsts.1.mono (wc ((p4.trans p5).trans p6))⟩,gH ((p4.trans p5).trans p6)⟩
   rw [o1]
   simp only [qG,vX]
   exact zL (yp c1) (wW (j4 (yi (z0 (yj (zr rfl)) et) (yz (zA rfl c2 (kY _ _)) c3)) (by simp)))
  have eg:∀s:aj,s[r]?=some (.lst xs)->mB (zg pD (zo zZ (ze (zd 4) zk)) (Ar 0)) [some (F ns),some (.int (bE ns 0 (by decide))),some (.int n),some (.int bd),At r,none] s=.ok (decide ((0:Int)<xs.length)) s:=λs hs=>by simp [ye hs]
  by_cases h0:0<ps.length
  ·obtain ⟨aL,e4,p4⟩:=wC ns 2 (by decide) ak
   obtain ⟨v,aE,e5,h5,d5⟩:=fin aL p4
   have nc:¬bE ns 2 (by decide)/3%2=1:=λz=>hc ⟨h0,z⟩
   refine ⟨v,r,aE,?_,h5,(d.trans (gH p4)).trans d5⟩
   rw [e]
   have lR:(0:Int)<(xs.length:Int):=by omega
   have q:=eg ak hr
   rw [jg lR] at q
   simp only [lu]
   rw [zL (wX (j5 q (yb (zA (zA (zA (z0 (yz (zr rfl) rfl) e4) rfl (iE _ _ (by decide) (by decide))) rfl (jm _ _ (by decide))) rfl (by rw [yZ,AA,AB,yn nc]))))) e5]
   rfl
  ·obtain ⟨v,aE,e5,h5,d5⟩:=fin ak (Pre.refl _)
   refine ⟨v,r,aE,?_,h5,d.trans d5⟩
   rw [e]
   have lR:¬(0:Int)<(xs.length:Int):=by omega
   have q:=eg ak hr
   rw [yn lR] at q
   simp only [lu]
   rw [zL (wX (iC q)) e5]
   rfl
def Jc (a b:Bool) (st:aj):yy (.bl a) (.bl b) st=.ok (.bl (a==b)) st:=by simp [Mi.plain,dep,bo]
def AD (a b:Bool) (h:a=b) (st:aj):wA [.bl a,.bl b] st=.ok (.bl true) st:=by
 subst h
 have e:yq [.bl a,.ty "bool"] st=.ok (.bl true) st:=rfl
 simp only [wA]
 refine iF rfl (wW (nj (z0 (yz (zr rfl) rfl) e) (zA (zr rfl) (zr rfl) ?_)))
 rw [Jc]
 simp
def AE (i j:Int) (h:i=j) (st:aj):w5 [.int i,.int j] st=.ok (.bl true) st:=by
 subst h
 have e:yq [.int i,.ty "int"] st=.ok (.bl true) st:=rfl
 have e':yq [.int i,.ty "bool"] st=.ok (.bl false) st:=rfl
 simp [w5,zE,xb,e,e',Mi.plain,dep,bo]
def znH (ns:List Int):∃st,qN [.frl (ns.map PV.int)] []=.ok (.bl true) st:=by
 obtain ⟨t,k,hk,hs,hd,hm⟩:=I_ ns
 obtain ⟨v,r1,s1,e1,t1,_⟩:=hm []
 have val:∀{r:Nat} {s:aj},TR r s t v->∃s',zo wA (ze (zo j9 (ze (zd 1) zk)) (ze (jo (zd 3) (zg ji (zd 2) (Ar 60))) zk)) [some (F ns),some v,some (.int k),some (.bl (okT t))] s=.ok (.bl true) s'/\Old s s':=λ{r s} ht=>by
  obtain ⟨s',e,o⟩:=xF ht (by omega)
  refine ⟨s',z0 (yz (y:=.bl (okT t&&decide (k<=60))) (z0 (yj (zr rfl)) e) ?_) (AD _ _ ?_ s'),o⟩
  ·cases okT t with
   |true=>exact nj (zr rfl) (zA (zr rfl) rfl (by rw [qq];simp))
   |false=>simp
  ·cases ho:okT t with
   |true =>
    have:=hk ho
    rw [Bool.and_true,Bool.true_and]
    exact decide_eq_decide.mpr (by omega)
   |false=>simp
 obtain ⟨s2,e2,o2⟩:=val t1
 have t2:=t1.mono (wa o2)
 have Jd:∃s3,(yT (mB (zd 3)) (yT (mB (zg ji (zd 2) (Ar 60))) (yU (mB (zo w5 (ze (zo w6 (ze (zd 1) zk)) (ze (zd 2) zk))))))) [some (F ns),some v,some (.int k),some (.bl (okT t))] s2=.ok false s3/\Old s2 s3:=by
  cases ho:okT t with
  |false=>exact ⟨s2,iC (yb (zr rfl)),Old.refl _⟩
  |true =>
   have ek:=hk ho
   by_cases h6:k<=60
   ·obtain ⟨s3,e3,o3⟩:=xx t2 (by omega)
    exact ⟨s3,j5 (yb (zr rfl)) (j5 (yb (zA (zr rfl) rfl (by rw [qq,jg h6]))) (iD (b:=true) (yb (z0 (yz (z0 (yj (zr rfl)) e3) (zr rfl)) (AE _ _ ek.symm s3))))),o3⟩
   ·exact ⟨s2,j5 (yb (zr rfl)) (iC (yb (zA (zr rfl) rfl (by rw [qq,yn h6])))),Old.refl _⟩
 obtain ⟨s3,e3,o3⟩:=Jd
 have t3:=t2.mono (wa o3)
 have n_:∀{r:Nat} {s:aj},TR r s t v->TR r s (.row [t]) (.tup [v]):=λh=>⟨[v],rfl,aR.one h⟩
 have Je:sz (.row [t])=1+sz t:=by simp [sz,a9]
 have ro:okT (.row [t])=okT t:=by simp [okT,okTs,ok]
 have q4:∃s4,zo wA (ze (zo j9 (ze (yB (ze (zd 1) zk)) zk)) (ze (jo (zd 3) (zg jD (zd 2) (Ar 60))) zk)) [some (F ns),some v,some (.int k),some (.bl (okT t))] s3=.ok (.bl true) s4/\Old s3 s4:=by
  obtain ⟨s',e,o⟩:=xF (n_ t3) (by omega)
  refine ⟨s',z0 (yz (y:=.bl (okT t&&decide (k<60))) (z0 (yj (j4 (yj (zr rfl)) (by simp))) e) ?_) (AD _ _ ?_ s'),o⟩
  ·cases okT t with
   |true=>exact nj (zr rfl) (zA (zr rfl) rfl (by rw [qp];simp))
   |false=>simp
  ·rw [ro,Je]
   cases ho:okT t with
   |true =>
    have:=hk ho
    rw [Bool.and_true,Bool.true_and]
    exact decide_eq_decide.mpr (by omega)
   |false=>simp
 obtain ⟨s4,e4,o4⟩:=q4
 have t4:=t3.mono (wa o4)
 have AF:∃s5,(yT (mB (zd 3)) (yT (mB (zg jD (zd 2) (Ar 60))) (yU (mB (zo w5 (ze (zo w6 (ze (yB (ze (zd 1) zk)) zk)) (ze (zg zS (zd 2) (Ar 1)) zk))))))) [some (F ns),some v,some (.int k),some (.bl (okT t))] s4=.ok false s5/\Old s4 s5:=by
  cases ho:okT t with
  |false=>exact ⟨s4,iC (yb (zr rfl)),Old.refl _⟩
  |true =>
   have ek:=hk ho
   by_cases h6:k<60
   ·obtain ⟨s5,e5,o5⟩:=xx (n_ t4) (by omega)
    exact ⟨s5,j5 (yb (zr rfl)) (j5 (yb (zA (zr rfl) rfl (by rw [qp,jg h6]))) (iD (b:=true) (yb (z0 (yz (z0 (yj (j4 (yj (zr rfl)) (by simp))) e5) (zA (zr rfl) rfl (kY _ _))) (AE _ _ (by omega) s5))))),o5⟩
   ·exact ⟨s4,j5 (yb (zr rfl)) (iC (yb (zA (zr rfl) rfl (by rw [qp,yn h6])))),Old.refl _⟩
 obtain ⟨s5,e5,o5⟩:=AF
 have t5:=t4.mono (wa o5)
 obtain ⟨s6,e6,o6⟩:=val t5
 have t6:=t5.mono (wa o6)
 obtain ⟨w,r7,s7,e7,t7,o7⟩:=hm s6
 have eq:=HA (st:=s7) 80 t v w (by omega) (t6.mono (wa o7)) t7
 have q8:nu v w s7=.ok (.bl true) s7:=by unfold nu;rw [zu eq]
 have ix:zH (.tup [w,.int k,.bl (okT t)]) (.int 0) s7=.ok w s7:=by simp [bt,di]
 refine ⟨s7,?_⟩
 have sA:mN (g3 1 2 3) (zo wZ (ze (zd 0) zk)) [some (F ns),none,none,none] []=.ok (.nx [some (F ns),some v,some (.int k),some (.bl (okT t))]) s1:=by
  have:zo wZ (ze (zd 0) zk) [some (F ns),none,none,none] []=.ok (.tup [v,.int k,.bl (okT t)]) s1:=z0 (yj (zr rfl)) e1
  simp only [mN,this,zB]
  rfl
 simp only [qN]
 refine iF rfl (zL sA ?_)
 simp only [xl,xk,xj,xi,xh]
 exact zL (wX (iD (b:=true) (yb e2))) (zL (wX e3) (zL (wX (iD (b:=true) (yb e4))) (zL (wX e5) (wW (nj e6 (zA (zr rfl) (zA (z0 (yj (zr rfl)) e7) rfl ix) q8))))))
end FK11
open PySem PySem.W PyProof.Rows
set_option maxHeartbeats 0
namespace PySem.W.Fast
def tw5833238111771905727:=()
def tw15266859411969175193:=()
local macro_rules
|`(command|#print $s:str)=>do
 let c<-(s.getString.splitOn " ").toArray.flatMapM λw=>do
  let [p,a,b]:=w.splitOn "_"|Lean.Macro.throwUnsupported
  (Array.range (b.toNat!+1-a.toNat!)).mapM λk=>do
   let n:=Lean.mkIdent (.mkSimple s!"tw{((`hdT).str s!"{p}_{a.toNat!+k}").hash}")
   `(command|theorem $n : True := trivial)
 return Lean.mkNullNode c
#print "o_0_950 sts_0_950 view_0_950 tree_0_950 heap_0_950 env_0_950"
end PySem.W.Fast
open_top hdT for PySem.Challenge.rw_foreknown_k11_what_is_a_value
theorem uu1 {us:List PySem.Value}(h:us.length=1):∃a,us=[a]:=match us,h with|[a],_=>⟨a,rfl⟩
theorem uu2 {us:List PySem.Value}(h:us.length=2):∃a b,us=[a,b]:=match us,h with|[a,b],_=>⟨a,b,rfl⟩
theorem uu3 {us:List PySem.Value}(h:us.length=3):∃a b c,us=[a,b,c]:=match us,h with|[a,b,c],_=>⟨a,b,c,rfl⟩
theorem PySem.Challenge.cw_foreknown_k11_what_is_a_value_holds : PySem.Challenge.rw_foreknown_k11_what_is_a_value.Holds :=
 hdT (by
 k_fill
 refine Mi.walkM (l:=PySem.Challenge.rw_foreknown_k11_what_is_a_value) (k:=6) (x := "_law_script") rfl rfl ⟨rfl,by decide,by decide⟩ (λw h Y=>PySem.W.kIn_of Y) ?F
 case F =>
  intro w mg fa h KX G hmg
  have c_LETTERS:∃t,mg "LETTERS" = some (.str "abcdefghijklmnopqrstuvwxyz" t):=by
   refine' Mi.zkW KX G ?a
   (case a=>k_is)
  have c_MOST_PARTS:∃t,mg "MOST_PARTS" = some (.int 60 t):=by
   refine' Mi.zdh KX G ?a
   (case a=>k_is)
  have c_MOST_SIGNS:∃t,mg "MOST_SIGNS" = some (.int 8 t):=by
   refine' Mi.zdh KX G ?a
   (case a=>k_is)
  have c_NUMBER_BOUND:∃t,mg "NUMBER_BOUND" = some (.int 1000000000000000000 t):=by
   refine' Mi.zdh KX G ?a
   (case a=>k_is)
  have T:FK11.Txt w (L2.KOf KX) mg:=by
   constructor
   case c_LETTERS=>exact c_LETTERS
   case c_MOST_PARTS=>exact c_MOST_PARTS
   case c_MOST_SIGNS=>exact c_MOST_SIGNS
   case c_NUMBER_BOUND=>exact c_NUMBER_BOUND
   all_goals first
    | (show Mi.FnF _ _ _ _ [_];dsimp only [L2.KOf];refine' Mi.zdg KX G ?a ?l ?c ?k ?b;(case a|l|c|k=>k_is);(case b=>exact λ_ _ _ _ _ _ us hl=>by obtain ⟨_,rfl⟩:=uu1 hl;rfl))
    | (show Mi.FnF _ _ _ _ [_,_];dsimp only [L2.KOf];refine' Mi.zdg KX G ?a ?l ?c ?k ?b;(case a|l|c|k=>k_is);(case b=>exact λ_ _ _ _ _ _ us hl=>by obtain ⟨_,_,rfl⟩:=uu2 hl;rfl))
    | (show Mi.FnF _ _ _ _ [_,_,_];dsimp only [L2.KOf];refine' Mi.zdg KX G ?a ?l ?c ?k ?b;(case a|l|c|k=>k_is);(case b=>exact λ_ _ _ _ _ _ us hl=>by obtain ⟨_,_,_,rfl⟩:=uu3 hl;rfl))
    | (refine' Mi.zkX KX G ?a;case a=>k_is)
  exact Mi.zkV T.f_law hmg (λ_ _ _ _ _ _ _=>rfl) (λf fd F base=>FK11.zmT T F) (λns _=>FK11.znH ns))
