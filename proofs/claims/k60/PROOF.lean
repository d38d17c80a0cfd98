import PyProof.Rows.All
import Wide.All
import OpenK.AllK
import Wide.FinOn
import Lean
import PyProof.EqAt
import PyProof.EqKinds
import PyProof.TupleCall
import PySem.Challenge.RW_foreknown_k60_one_key_for_the_same
set_option Elab.async false
set_option linter.all false
set_option maxRecDepth 100000
noncomputable section
abbrev Aa:=PySem.Value->PySem.Shared->Prop
abbrev Ab:=PySem.Str->Option PySem.Value
abbrev Ac:=List (PySem.Addr×PySem.Obj)
abbrev Ae:=List PySem.Str
abbrev Af:=List PySem.Addr
abbrev Ag:=List PySem.Value
def zB:=@PySem.wpAny_bind
def yk:=@PySem.Heap.get?_push_of_some
def yb:=@PySem.wpAny_pure
def yn:=@PySem.Heap.lt_size
def yY:=@PySem.Heap.get?_push_size
def jG:=@PySem.wpAny_field
def wJ:=@PySem.wpAny_call_entry
def pS:=@PySem.wpAny_newObj_type
def wv:=@PySem.wpAny_holding
def ju:=@PySem.wpAny_mono
def wK:=@PySem.Heap.get?_update_other
def j_:=@PySem.wpAny_truthy_bool
def wc:=@PySem.lookup_relabel_local
def yr:=@List.getElem?_eq_getElem
def yB:=@List.getElem?_set_ne
def yt:=@List.getElem?_eq_some_iff
def yp:=@List.getElem?_set_self
def yf:=@Nat.le_refl
def yV:=@List.size_toArray
def jf:=@List.mem_cons_self
def jH:=@List.mem_cons_of_mem
def jd:=@List.mem_append_right
def og:=@List.mem_append_left
def zx:=@if_pos
def zK:=@if_neg
def oh:=@List.mem_singleton
def jo:=@List.getElem?_map
def yI:=@List.mem_cons
def we:=@List.drop_eq_getElem_cons
def jv:=@Nat.le_trans
def ww:=@List.length_append
def jw:=@Nat.zero_le
def iq:=@List.mem_of_getElem?
def jx:=@List.length_map
def wL:=@List.map_append
def jM:=@Nat.lt_of_lt_of_le
def kg:=@or_false
def yG:=@List.map_cons
def yN:=@Nat.ne_of_lt
def lE:=@Bool.and_eq_true
def jI:=@List.mem_map
def iu:=@List.mem_append
def wf:=@List.length_cons
def jU:=@List.nodup_cons
def kh:=@List.getElem?_append_left
def iw:=@List.getElem?_append_right
def jp:=@decide_eq_false
def jV:=@decide_eq_true
def mM:=@List.drop_of_length_le
def jy:=@List.lookup_cons
def oi:=@List.getElem?_eq_none
def oj:=@List.getElem?_eq_none_iff
def wM:=@List.append_assoc
def wx:=@List.mem_range
def kj:=@decide_eq_true_eq
def yO:=@Ne.symm
def vK:=@List.length_singleton
def wg:=@Nat.lt_succ_self
namespace L2
open PySem PySem.Spec PyProof.Rows
abbrev Key:=Sum Int Str
def eM:Key->Value->Bool
 |.inl k,v=>Value.isInt k v
 |.inr x,v=>Value.isStrOf x v
def CI (w:World):Key->Int
 |.inl k=>hashInt k
 |.inr x=>hashStr w x
def wN:∀{k:Key}{v:Value},eM k v=true->(∃i t,k=Sum.inl i/\v=Value.int i t)\/(∃x t,k=Sum.inr x/\v=Value.str x t)
 |.inl i,v,h=>by
  obtain ⟨t,e⟩:=Value.isInt_shape (k:=i) (v:=v) h
  exact .inl ⟨i,t,rfl,e⟩
 |.inr x,v,h=>by
  obtain ⟨t,e⟩:=Value.isStrOf_shape (x:=x) (v:=v) h
  exact .inr ⟨x,t,rfl,e⟩
def KR (i:Int) (t:Tok):eM (.inl i) (.int i t)=true:=by simp [eM,Value.isInt]
def KS (x:Str) (t:Tok):eM (.inr x) (.str x t)=true:=by simp [eM,Value.isStrOf]
def KU (a b:Int):decide ((Sum.inl a:Key)=Sum.inl b)=(a==b):=by
 by_cases e:a=b
 ·subst e;simp
 ·have h:¬(Sum.inl a:Key)=Sum.inl b:=λq=>e (Sum.inl.inj q)
  rw [jp h]
  exact (beq_eq_false_iff_ne.mpr e).symm
def KW (a b:Str):decide ((Sum.inr a:Key)=Sum.inr b)=decide (a=b):=by
 by_cases e:a=b
 ·subst e;simp
 ·have h:¬(Sum.inr a:Key)=Sum.inr b:=λq=>e (Sum.inr.inj q)
  rw [jp h,jp e]
def KY (a:Int) (b:Str):decide ((Sum.inl a:Key)=Sum.inr b)=false:=jp (λq=>nomatch q)
def KZ (a:Str) (b:Int):decide ((Sum.inr a:Key)=Sum.inl b)=false:=jp (λq=>nomatch q)
def bb (prog:Program) (w:World):PySem.KeyKind prog w Key where
 is:=eM
 hash:=CI w
 inj:=λv a b ha hb=>by
  rcases wN ha with ⟨i,t,rfl,rfl⟩|⟨x,t,rfl,rfl⟩
  ·rcases wN hb with ⟨j,u,rfl,e⟩|⟨y,u,rfl,e⟩
   ·injection e with e1 _;rw [e1]
   ·exact nomatch e
  ·rcases wN hb with ⟨j,u,rfl,e⟩|⟨y,u,rfl,e⟩
   ·exact nomatch e
   ·injection e with e1 _;rw [e1]
 byValue:=λk v h=>by
  rcases wN h with ⟨i,t,rfl,rfl⟩|⟨x,t,rfl,rfl⟩<;>rfl
 pyHash:=λhv h=>by
  rcases wN hv with ⟨i,t,rfl,rfl⟩|⟨x,t,rfl,rfl⟩
  ·exact wpAny_pyHash_int h
  ·exact wpAny_pyHash_str h
 eqBool:=λhu hv h=>by
  rcases wN hu with ⟨i,t,rfl,rfl⟩|⟨x,t,rfl,rfl⟩
  ·rcases wN hv with ⟨j,u,rfl,rfl⟩|⟨y,u,rfl,rfl⟩
   ·rw [KU] at h;exact wpAny_eqBool_int h
   ·rw [KY] at h;exact SeqAt.EqAt.int_str i t y u _ _ _ _ h
  ·rcases wN hv with ⟨j,u,rfl,rfl⟩|⟨y,u,rfl,rfl⟩
   ·rw [KZ] at h;exact SeqAt.EqAt.str_int x t j u _ _ _ _ h
   ·rw [KW] at h;exact wpAny_eqBool_str h
 «strs» := λk x t v h=>by
  rcases wN h with ⟨i,u,rfl,e⟩|⟨y,u,rfl,e⟩
  ·exact nomatch e
  ·injection e with e1 _
   subst e1
   cases v<;>rfl
def K0 (prog:Program) (w:World) (i:Int) (t:Tok):(bb prog w).is (.inl i) (.int i t)=true:=KR i t
def K1 (prog:Program) (w:World) (x:Str) (t:Tok):(bb prog w).is (.inr x) (.str x t)=true:=KS x t
inductive V where
 |non|bl (b:Bool)|int (i:Int)|str (x:Str)|byt (b:Array UInt8)|flt (b:UInt64)|ref (a:Addr)|ty (n:String)
 deriving DecidableEq
def RelV:V->Value->Prop
 |.non,u=>u=Value.none
 |.bl b,u=>u=Value.bool b
 |.int i,u=>∃t,u=Value.int i t
 |.str x,u=>∃t,u=Value.str x t
 |.byt b,u=>∃t,u=Value.bytes b t
 |.flt b,u=>∃t,u=Value.float b t
 |.ref a,u=>u=Value.ref a
 |.ty n,u=>u=Value.type n
abbrev Vals:List V->List Value->Prop:=Paired RelV
theorem Vals.length {xs:List V}{us:Ag}(r:Vals xs us):xs.length=us.length:=Paired.length r
theorem Vals.get:∀{xs:List V}{us:Ag}{i:Nat}{x:V},Vals xs us->xs[i]?=some x->∃u,us[i]?=some u/\RelV x u
 |_,_,_,_,.nil,e=>by simp at e
 |_,_,0,_,.cons r _,e=>by simp at e;subst e;exact ⟨_,rfl,r⟩
 |_,_,i+1,x,.cons _ t,e=>by
  obtain ⟨u,h1,h2⟩:=Vals.get (i:=i) (x:=x) t (by simpa using e)
  exact ⟨u,by simpa using h1,h2⟩
theorem Vals.set {x:V}{u:Value}(r:RelV x u):∀{xs:List V}{us:Ag}(i:Nat),Vals xs us->Vals (xs.set i x) (us.set i u)
 |_,_,_,.nil=>.nil
 |_,_,0,.cons _ t=>.cons r t
 |_,_,i+1,.cons q t=>.cons q (Vals.set r i t)
theorem Vals.append:∀{xs ys:List V}{us ws:Ag},Vals xs us->Vals ys ws->Vals (xs++ys) (us++ws)
 |_,_,_,_,.nil,s=>s
 |_,_,_,_,.cons r t,s=>.cons r (Vals.append t s)
theorem Vals.take:∀{xs:List V}{us:Ag}(n:Nat),Vals xs us->Vals (xs.take n) (us.take n)
 |_,_,0,_=>.nil
 |_,_,_+1,.nil=>.nil
 |_,_,n+1,.cons r t=>.cons r (Vals.take n t)
theorem Vals.drop:∀{xs:List V}{us:Ag}(n:Nat),Vals xs us->Vals (xs.drop n) (us.drop n)
 |_,_,0,r=>r
 |_,_,_+1,.nil=>.nil
 |_,_,n+1,.cons _ t=>Vals.drop n t
def cZ:Option V->Option Value->Prop
 |some v,some u=>RelV v u
 |none,none=>True
 |_,_=>False
def KV {κ:Type}:List (κ×V)->List (κ×Value)->Prop:=Paired λ(p:κ×V) (q:κ×Value)=>p.1=q.1/\RelV p.2 q.2
def kV:Key->V
 |.inl i=>.int i
 |.inr x=>.str x
inductive HO where
 |lst (xs:List V)
 |tup (xs:List V)
 |dK (kvs:List (Key×V))|dT (kvs:List (List Key×V))
 |set (S:Int->Bool) (n:Nat)
 |ins (C dx:Addr) (fs:List (Str×V))
 |own (x:Addr)
 |xd (fs:List (Str×V))
 |met (f x:Addr)
 |rng (lo hi:Int)
 |frz (o:Obj) (u:HO)
 |tbl (ps:Array Value)
 |ext (φ:Program->World->Heap->Prop)
abbrev Hp:=Addr->Option HO
def upd (H:Hp) (a:Addr) (o:HO):Hp:=λb=>if b=a then some o else H b
def yZ {H:Hp}{a:Addr}{o:HO}:upd H a o a=some o:=by unfold upd;rw [zx rfl]
def yo {H:Hp}{a b:Addr}{o:HO}(h:b≠a):upd H a o b=H b:=by unfold upd;rw [zK h]
def K3 {H:Hp}{a b:Addr}{o u:HO}(h:H a=some o) (h':H b=some u) (d:o≠u):a≠b:=by
 intro e;subst e;rw [h] at h';exact d (Option.some.inj h')
def iA {H:Hp}{a b:Addr}{o:HO}(h:H a=some o) (h':H b=none):a≠b:=by
 intro e;subst e;rw [h] at h';cases h'
section
variable (P:Program) (w:World)
def bo (H:Hp) (h:Heap) (a:Addr):HO->Prop
 |.lst xs=>xs.length<=sizeLine/\∃(its:Ag) (n:Nat),Vals xs its/\h.get? a=some { cls:=.type "list", data:=.seq its.toArray n }
 |.tup xs=>xs.length<=sizeLine/\∃its:Ag,Vals xs its/\IsTup h a its.toArray
 |.dK kvs=>kvs.length<=sizeLine/\(a==sysModules)=false/\∃vs,KV kvs vs/\h.DictOf (bb P w) a vs
 | .dT kvs=>kvs.length<=sizeLine/\(a==sysModules)=false/\∃xs:List (List Key×Addr×Value),
   Paired (λ(p:List Key×V) (q:List Key×Addr×Value)=>p.1=q.1/\H q.2.1=some (.tup (p.1.map kV))/\RelV p.2 q.2.2) kvs xs /\
   ∃o es ep,h.get? a=some o/\o.ExactDict/\o.data=.dict es ep/\es.toList=xs.map (entryOfKey (tupleKind (bb P w)))/\(xs.map (·.1)).Nodup
 |.set S n=>h.SetOf (intKind P w) a S n
 | .ins C dx fs=>H dx=some (.own a)/\fs.length<=1000/\dx≠a/\h.get? a=some (PySem.W.instObj C dx) /\
   ∃mA,h.Ns1 dx mA/\(∀f,cZ (fs.lookup f) (mA f))/\PySem.Within mA (fs.map (·.1))
 |.own _=>∃o,h.get? a=some o
 |.xd fs=>∃mA,h.Ns1 a mA/\∀f,cZ (fs.lookup f) (mA f)
 |.rng lo hi=>∃t u v,h.get? a=some { cls:=.type "range", data:=.fields #[.int lo t,.int hi u,.int 1 v] }
 |.frz o u=>h.get? a=some o/\bo H h a u
 |.tbl ps=>h.get? a=some { cls:=.none,data:=.fields ps }
 |.met f x=>h.get? a=some (PySem.W.methodObj (.ref f) (.ref x))
 |.ext φ=>φ P w h/\(∃o,h.get? a=some o)/\∀h1 h2:Heap,φ P w h1->(∀o,h1.get? a=some o->h2.get? a=some o)->φ P w h2
def cK (H:Hp) (h:Heap):Prop:=∀a o,H a=some o->bo P w H h a o
end
section
variable {P:Program} {w:World} {H H':Hp} {h h':Heap} {a:Addr} {o:HO}
theorem bo.lt (x:bo P w H h a o):a<h.objs.size:=by
 cases o with
 |lst xs=>obtain ⟨_,_,_,_,e⟩:=x;exact yn e
 |tup xs=>obtain ⟨_,_,_,p⟩:=x;exact p.lt
 |dK kvs=>obtain ⟨_,_,_,_,o,_,_,e,_⟩:=x;exact yn e
 |dT kvs=>obtain ⟨_,_,_,_,o,_,_,e,_⟩:=x;exact yn e
 |set S n=>obtain ⟨o,_,_,_,e,_⟩:=x;exact yn e
 |ins C dx fs=>obtain ⟨_,_,_,e,_⟩:=x;exact yn e
 |own y=>obtain ⟨_,e⟩:=x;exact yn e
 |xd fs=>obtain ⟨_,⟨_,_,_,e,_⟩,_⟩:=x;exact yn e
 |rng lo hi=>obtain ⟨_,_,_,e⟩:=x;exact yn e
 |frz ob u=>obtain ⟨e,_⟩:=x;exact yn e
 |tbl ps=>exact yn (show h.get? a=some _ from x)
 |met f y=>exact yn (show h.get? a=some _ from x)
 |ext φ=>obtain ⟨_,⟨_,e⟩,_⟩:=x;exact yn e
theorem Paired.mapP {α β:Type}{F G:α->β->Prop}:∀{aI:List α}{aK:List β},Paired F aI aK->(∀a b,F a b->G a b)->Paired G aI aK
 |_,_,.nil,_=>.nil
 |_,_,.cons r t,f=>.cons (f _ _ r) (Paired.mapP t f)
def bo.stay (x:bo P w H h a o) (k:∀b u,(b=a\/H b=some (.own a))->h.get? b=some u->h'.get? b=some u)
  (ho:∀b,H b=some (.own a)->H' b=some (.own a)) (ht:∀b xs,H b=some (.tup xs)->H' b=some (.tup xs)):bo P w H' h' a o:=by
 induction o with
 |lst xs=>obtain ⟨z,its,n,r,e⟩:=x;exact ⟨z,its,n,r,k _ _ (.inl rfl) e⟩
 |tup xs=>obtain ⟨z,its,r,ob,e,c⟩:=x;exact ⟨z,its,r,ob,k _ _ (.inl rfl) e,c⟩
 |dK kvs=>obtain ⟨z,y,vs,r,ob,es,ep,e,c⟩:=x;exact ⟨z,y,vs,r,ob,es,ep,k _ _ (.inl rfl) e,c⟩
 |dT kvs =>
  obtain ⟨z,y,xs,r,ob,es,ep,e,c⟩:=x
  exact ⟨z,y,xs,Paired.mapP r λp q z=>⟨z.1,ht _ _ z.2.1,z.2.2⟩,ob,es,ep,k _ _ (.inl rfl) e,c⟩
 |set S n=>obtain ⟨ob,es,ep,t,e,c⟩:=x;exact ⟨ob,es,ep,t,k _ _ (.inl rfl) e,c⟩
 |ins C dx fs =>
  obtain ⟨d,z,ne,e,mA,⟨od,es,ep,e2,c⟩,r⟩:=x
  exact ⟨ho _ d,z,ne,k _ _ (.inl rfl) e,mA,⟨od,es,ep,k _ _ (.inr d) e2,c⟩,r⟩
 |own y=>obtain ⟨ob,e⟩:=x;exact ⟨ob,k _ _ (.inl rfl) e⟩
 |xd fs=>obtain ⟨mA,⟨od,es,ep,e,c⟩,r⟩:=x;exact ⟨mA,⟨od,es,ep,k _ _ (.inl rfl) e,c⟩,r⟩
 |rng lo hi=>obtain ⟨t,u,v,e⟩:=x;exact ⟨t,u,v,k _ _ (.inl rfl) e⟩
 |frz ob u ih=>obtain ⟨e,q⟩:=x;exact ⟨k _ _ (.inl rfl) e,ih q⟩
 |tbl ps =>
  have e:h.get? a=some { cls:=.none,data:=.fields ps }:=x
  show h'.get? a=some { cls:=.none,data:=.fields ps }
  exact k a _ (.inl rfl) e
 |met f y =>
  have e:h.get? a=some (PySem.W.methodObj (.ref f) (.ref y)):=x
  show h'.get? a=some (PySem.W.methodObj (.ref f) (.ref y))
  exact k a _ (.inl rfl) e
 |ext φ=>obtain ⟨p,⟨o,e⟩,st⟩:=x;exact ⟨st _ _ p λo q=>k _ _ (.inl rfl) q,⟨o,k _ _ (.inl rfl) e⟩,st⟩
theorem cK.lt (x:cK P w H h) (e:H a=some o):a<h.objs.size:=(x a o e).lt
def cK.fresh (x:cK P w H h) (e:h.objs.size<=a):H a=none:=by
 cases q:H a with
 |none=>rfl
 |some u=>exact absurd (jM (x.lt q) e) (Nat.lt_irrefl _)
def cK.kept (x:cK P w H h) (k:∀b u,h.get? b=some u->h'.get? b=some u):cK P w H h':=λa o e =>
 (x a o e).stay (λb u _ q=>k b u q) (λ_ q=>q) λ_ _ q=>q
def cK.laid (x:cK P w H h) (k:∀b u,h.get? b=some u->h'.get? b=some u) (hp:h.objs.size<=a) (new:bo P w (upd H a o) h' a o):cK P w (upd H a o) h':=λb u e=>by
 have hn:=x.fresh hp
 by_cases hb:b=a
 ·subst hb;rw [yZ] at e;cases e;exact new
 ·rw [yo hb] at e
  exact (x b u e).stay (λc v _ q=>k c v q) (λc q=>by rw [yo (iA q hn)];exact q) λc xs q=>by rw [yo (iA q hn)];exact q
end
def Rd (H:Hp) (a:Addr) (u:HO):Prop:=H a=some u\/∃o,H a=some (.frz o u)
def Rd.ok {P:Program}{w:World}{H:Hp}{h:Heap}{a:Addr}{u:HO}(r:Rd H a u) (x:cK P w H h):bo P w H h a u:=by
 rcases r with r|⟨o,r⟩
 ·exact x a u r
 ·obtain ⟨_,q⟩:=x a _ r
  exact q
def pU:Option HO->Prop
 |some (.lst _)=>True
 |some (.dK _)=>True
 |some (.dT _)=>True
 |some (.set _ _)=>True
 |some (.ins _ _ _)=>True
 |some (.ext _)=>True
 |_=>False
section
variable {P:Program} {w:World} {H:Hp} {h h':Heap} {x e:Addr} {o':HO}
def cK.write (ok:cK P w H h) (mu:pU (H x)) (he:e=x\/H e=some (.own x)) (k:∀b u,b≠e->h.get? b=some u->h'.get? b=some u) (om:∃u,h'.get? e=some u)
  (new:bo P w (upd H x o') h' x o'):cK P w (upd H x o') h':=λb u q=>by
 have nown:∀c y,H c=some (.own y)->c≠x:=λc y r z=>by subst z;rw [r] at mu;exact mu
 have CJ:∀c xs,H c=some (.tup xs)->c≠x:=λc xs r z=>by subst z;rw [r] at mu;exact mu
 by_cases hb:b=x
 ·subst hb;rw [yZ] at q;cases q;exact new
 ·rw [yo hb] at q
  by_cases hbe:b=e
  ·have q':H b=some (.own x):=by
    rcases he with z|z
    ·exact absurd (hbe.trans z) hb
    ·rw [hbe];exact z
   rw [q] at q';cases q'
   obtain ⟨v,hv⟩:=om
   exact ⟨v,by rw [hbe];exact hv⟩
  ·refine (ok b u q).stay (λc v hc r=>k c v ?_ r) (λc r=>by rw [yo (nown c b r)];exact r) λc xs r=>by rw [yo (CJ c xs r)];exact r
   rcases hc with rfl|hc
   ·exact hbe
   ·rintro rfl
    rcases he with z|z
    ·exact nown c b hc z
    ·rw [hc] at z;cases z;exact hb rfl
end
structure Un (fs ex:Af) (H H':Hp) (h h':Heap):Prop where
 keep:∀b o,h.get? b=some o->H b=none->b∉fs->b∉ex->h'.get? b=some o
 slot:∀b o,h.get? b=some o->H b=none->b∈fs->b∉ex->∃sl,h'.get? b=some { o with slots:=sl }
 free:∀b o,h.get? b=some o->H b=none->b∉ex->H' b=none
 there:∀b o,h.get? b=some o->b∉ex->∃o',h'.get? b=some o'
 tups:∀b xs,H b=some (.tup xs)->H' b=some (.tup xs)
 frzs:∀b o u,H b=some (.frz o u)->H' b=some (.frz o u)
 tbls:∀b ps,H b=some (.tbl ps)->∃more,H' b=some (.tbl (ps++more))
section
variable {fs ex:Af} {H H1 H2:Hp} {h h1 h2 h':Heap} {a x e:Addr} {o:HO}
def Un.any (u:Un fs ex H H1 h h1) {b:Addr}{ob:Obj}(q:h.get? b=some ob) (n:H b=none) (hx:b∉ex):∃sl,h1.get? b=some { ob with slots:=sl }:=by
 by_cases hb:b∈fs
 ·exact u.slot b ob q n hb hx
 ·exact ⟨ob.slots,u.keep b ob q n hb hx⟩
def Un.trans (a:Un fs ex H H1 h h1) (b:Un fs ex H1 H2 h1 h2):Un fs ex H H2 h h2 where
 keep:=λc ob q n hc hx=>b.keep c ob (a.keep c ob q n hc hx) (a.free c ob q n hx) hc hx
 slot:=λc ob q n hc hx=>by
  obtain ⟨sl,e1⟩:=a.slot c ob q n hc hx
  obtain ⟨vL,e2⟩:=b.slot c _ e1 (a.free c ob q n hx) hc hx
  exact ⟨vL,e2⟩
 free:=λc ob q n hx=>by
  obtain ⟨o',e1⟩:=a.there c ob q hx
  exact b.free c o' e1 (a.free c ob q n hx) hx
 there:=λc ob q hx=>by
  obtain ⟨o',e1⟩:=a.there c ob q hx
  exact b.there c o' e1 hx
 tups:=λc xs q=>b.tups c xs (a.tups c xs q)
 frzs:=λc ob xs q=>b.frzs c ob xs (a.frzs c ob xs q)
 tbls:=λc ps q=>by
  obtain ⟨m1,e1⟩:=a.tbls c ps q
  obtain ⟨m2,e2⟩:=b.tbls c _ e1
  exact ⟨m1++m2,by rw [e2,Array.append_assoc]⟩
def Un.kept (k:∀b u,h.get? b=some u->h'.get? b=some u):Un fs ex H H h h' :=
 ⟨λb ob q _ _ _=>k b ob q,λb ob q _ _ _=>⟨ob.slots,k b ob q⟩,λ_ _ _ n _=>n,λb ob q _=>⟨ob,k b ob q⟩,λ_ _ q=>q,λ_ _ _ q=>q,λ_ ps q=>⟨#[],by rw [q];simp⟩⟩
def Un.refl:Un fs ex H H h h:=Un.kept λ_ _ q=>q
def Un.laid (k:∀b u,h.get? b=some u->h'.get? b=some u) (hp:h.objs.size<=a) (hn:H a=none):Un fs ex H (upd H a o) h h' where
 keep:=λb u q _ _ _=>k b u q
 slot:=λb u q _ _ _=>⟨u.slots,k b u q⟩
 free:=λb u q n _=>by rw [yo (yN (jM (yn q) hp))];exact n
 there:=λb u q _=>⟨u,k b u q⟩
 tups:=λb xs q=>by rw [yo (iA q hn)];exact q
 frzs:=λb u xs q=>by rw [yo (iA q hn)];exact q
 tbls:=λb ps q=>⟨#[],by rw [yo (iA q hn),q];simp⟩
def Un.write (mu:pU (H x)) (he:e=x\/H e=some (.own x)) (k:∀b u,b≠e->h.get? b=some u->h'.get? b=some u) (om:∃u,h'.get? e=some u):Un fs ex H (upd H x o) h h':=by
 have hx:∀b,H b=none->b≠x:=λb n z=>by subst z;rw [n] at mu;exact mu
 have hb:∀b,H b=none->b≠e:=λb n z=>by
  subst z
  rcases he with r|r
  ·exact hx b n r
  ·rw [n] at r;cases r
 have hm:∀b u,H b=some u->¬pU (some u)->b≠x:=λb u q nm z=>by subst z;rw [q] at mu;exact nm mu
 refine ⟨λb u q n _ _=>k b u (hb b n) q,λb u q n _ _=>⟨u.slots,k b u (hb b n) q⟩,λb u q n _=>by rw [yo (hx b n)];exact n,λb u q _=>?_,
  λb xs q=>by rw [yo (hm b _ q λz=>z)];exact q,λb u xs q=>by rw [yo (hm b _ q λz=>z)];exact q,λb ps q=>⟨#[],by rw [yo (hm b _ q λz=>z),q];simp⟩⟩
 by_cases hbe:b=e
 ·subst hbe;exact om
 ·exact ⟨u,k b u hbe q⟩
end
def si (h:Heap) (H:Hp):Af:=(List.range h.objs.size).filter λa=>(H a).isSome
def fJ (h:Heap) (H:Hp):Heap:=PySem.W.hideAll h (si h H)
def K5 (h:Heap) (H:Hp):(fJ h H).objs.size=h.objs.size:=PySem.W.hideAll_size _ _
def K6 {h:Heap}{H:Hp}{b:Addr}{o:Obj}(e:h.get? b=some o) (n:H b=none):(fJ h H).get? b=some o :=
 PySem.W.hideAll_get _ e λhm=>by
  have q:(H b).isSome=true:=(List.mem_filter.mp hm).2
  rw [n] at q;simp at q
def K7 {h:Heap}{H:Hp}{b:Addr}{o:Obj}(e:(fJ h H).get? b=some o):h.get? b=some o/\H b=none:=by
 have e':h.get? b=some o:=PySem.W.of_hideAll (si h H) e
 refine ⟨e',?_⟩
 cases q:H b with
 |none=>rfl
 |some x =>
  have hm:b∈si h H:=List.mem_filter.mpr ⟨wx.mpr (yn e'),by simp [q]⟩
  have z:(fJ h H).get? b=none:=PySem.W.hideAll_none (si h H) hm
  rw [z] at e;cases e
def pV (g h:Heap) (L:Addr):Ac:=(List.range h.objs.size).filterMap λa=>if a=L\/(g.get? a).isSome=true then none else (h.get? a).map λo=>(a,o)
def rest (g h:Heap) (L d:Addr):Ac:=(pV g h L).filter λp=>decide (p.1≠d)
structure Mod (K:PySem.W.Frag) (mg:Ab) (base:Heap):Prop where
 kin:K.In base
 glob:base.Ns mainGlobals mg
 blt:∃mb,base.Ns builtinsNs mb/\∀x:Str,x ≠ "__name__" -> mb x=bootBuiltins x
 nolimit:base.NoLimit
structure Cx where
 prog:Program
 w:World
 K:PySem.W.Frag
 mg:Ab
 base:Heap
 A:Around
 N:Ae
 s₀:Shared
 H₀:Hp
 env:Env
 outer:List Env
 stack:List Env
 ex:Af
 fn:Str->Bool
 calm:Bool
 pn:Ac
 xe:Aa
def dw (l:List Env):Af:=l.filterMap (·.frame)
abbrev Cx.fs (X:Cx):Af:=dw X.outer
def sj (sc:Scope) (x:Str):Prop:=sc.names.lookup x=some .local\/sc.names.lookup x=some .cell\/sc.names.lookup x=some .free
def Loc (sc:Scope) (x:Str):Prop:=sc.names.lookup x=some .local\/sc.names.lookup x=some .cell
def Look (env:Env) (h:Heap) (m:Ab) (x:Str) (u:Value):Prop :=
 (env.kindOf x=some .local/\m x=some u)\/((env.kindOf x=some .cell\/env.kindOf x=some .free)/\∃c,env.cells.lookup x=some c/\h.IsCell c (some u))
structure Cx.Ok (X:Cx):Prop where
 mod:Mod X.K X.mg X.base
 kind:X.env.scope.kind=.function
 glob:X.env.globals=mainGlobals
 blt:X.env.builtins=builtinsNs
 above:X.s₀.heap.objs.size<=X.env.locals
 inj:∀x y c,X.env.cells.lookup x=some c->X.env.cells.lookup y=some c->x=y
 has:∀x,(X.env.kindOf x=some .cell\/X.env.kindOf x=some .free)->∃c,X.env.cells.lookup x=some c
 cab:∀x c,X.fn x=true->X.env.cells.lookup x=some c->X.s₀.heap.objs.size<=c
 hd:X.calm=true->X.A.handled=none
 frames:X.A.frames=some X.stack
 stk:X.stack=X.outer\/(X.stack=X.env::X.outer/\X.env.frame=some X.env.locals)
 exf:∀b∈X.ex,b≠X.env.locals/\∀x c,X.env.cells.lookup x=some c->c≠b
 bs:∀b o,X.base.get? b=some o->X.s₀.heap.get? b=some o/\X.H₀ b=none
 bsz:X.base.objs.size<=X.s₀.heap.objs.size
 noex:∀b o,X.base.get? b=some o->b∉X.ex
 exfs:∀b∈X.ex,b∉X.fs
 funs:X.s₀.heap.FunFrames X.base X.outer
 frf:∀b∈X.fs,X.H₀ b=none
structure Inv (X:Cx) (pins:Ac) (σ:List (Option V)) (H:Hp) (s:Shared):Prop where
 ok:X.Ok
 os:s.os=X.s₀.os
 bare:AllBare s.gens
 base:Un X.fs X.ex X.H₀ H X.s₀.heap s.heap
 loc:∃m,s.heap.Ns X.env.locals m/\∀(i:Nat) (x:Str) (v:V),X.N[i]?=some x->σ[i]?=some (some v)->sj X.env.scope x->∃u,RelV v u/\Look X.env s.heap m x u
 cell:∀x c,X.env.cells.lookup x=some c->∃v,s.heap.IsCell c v
 free:H X.env.locals=none
 freeC:∀x c,X.env.cells.lookup x=some c->H c=none
 pin:∀p∈X.pn++pins,s.heap.get? p.1=some p.2/\H p.1=none/\p.1≠X.env.locals/\p.1∉X.fs/\∀v,p.2.data ≠ .cell v
 hok:cK X.prog X.w H s.heap
 len:σ.length=X.N.length
section
variable {X:Cx} {pins:Ac} {σ:List (Option V)} {H H':Hp} {s:Shared} {h':Heap}
def Cx.Ok.nofr (ok:X.Ok) {b:Addr}{o:Obj}(e:X.base.get? b=some o):b∉X.fs:=λhb=>by
 have:=(ok.funs.mem hb).1
 rw [e] at this;cases this
theorem Inv.bs (I:Inv X pins σ H s):∀b o,X.base.get? b=some o->s.heap.get? b=some o/\H b=none:=λb o e =>
 ⟨I.base.keep b o (I.ok.bs b o e).1 (I.ok.bs b o e).2 (I.ok.nofr e) (I.ok.noex b o e),I.base.free b o (I.ok.bs b o e).1 (I.ok.bs b o e).2 (I.ok.noex b o e)⟩
def Inv.bk (I:Inv X pins σ H s):∀b o,X.base.get? b=some o->s.heap.get? b=some o:=λb o e=>(I.bs b o e).1
theorem Inv.mod (I:Inv X pins σ H s):Mod X.K X.mg X.base:=I.ok.mod
def Inv.kIn (I:Inv X pins σ H s):X.K.In s.heap:=I.ok.mod.kin.keeps I.bk
def Inv.fr (I:Inv X pins σ H s):∃m,Fr X.base X.env.locals s.heap m :=
 let ⟨m,hn,_⟩:=I.loc
 ⟨m,hn,I.bk,jv I.ok.bsz I.ok.above⟩
theorem Inv.lt (I:Inv X pins σ H s):X.env.locals<s.heap.objs.size:=let ⟨_,hn,_⟩:=I.loc;hn.lt
def Inv.sz (I:Inv X pins σ H s):X.s₀.heap.objs.size<=s.heap.objs.size:=jv I.ok.above (Nat.le_of_lt I.lt)
def Inv.nofs (I:Inv X pins σ H s) {a:Addr}(h:s.heap.objs.size<=a):a∉X.fs:=λhb=>by
 obtain ⟨_,o,ho,_⟩:=I.ok.funs.mem hb
 exact absurd (jM (yn ho) (jv I.sz h)) (Nat.lt_irrefl _)
def Inv.cne (I:Inv X pins σ H s):∀x c,X.env.cells.lookup x=some c->c≠X.env.locals:=λx c e z=>by
 obtain ⟨v,o,ho,hd⟩:=I.cell x c e
 obtain ⟨m,⟨o',es,ep,ho',fg,_⟩,_⟩:=I.loc
 rw [z,ho'] at ho;cases ho;rw [fg] at hd;cases hd
theorem Inv.funs (I:Inv X pins σ H s):s.heap.FunFrames X.base X.outer:=by
 have all:∀(l:List Env),(∀b∈dw l,b∈X.fs)->X.s₀.heap.FunFrames X.base l->s.heap.FunFrames X.base l:=by
  intro l
  induction l with
  |nil=>intro _ _;trivial
  |cons env r ih =>
   intro hs hl
   obtain ⟨hk,⟨L,o,hf,hn,ho,hd⟩,hr⟩:=hl
   have hL:L∈X.fs:=hs L (by unfold dw;rw [List.filterMap_cons,hf];exact jf)
   obtain ⟨sl,e⟩:=I.base.slot L o ho (I.ok.frf L hL) hL λz=>I.ok.exfs L z hL
   exact ⟨hk,⟨L,_,hf,hn,e,hd⟩,ih (λb hb=>hs b (by unfold dw;rw [List.filterMap_cons,hf];exact jH _ hb)) hr⟩
 exact all X.outer (λ_ hb=>hb) I.ok.funs
theorem Inv.stack (I:Inv X pins σ H s):s.heap.FunFrames X.base X.stack:=by
 rcases I.ok.stk with e|⟨e,hf⟩
 ·rw [e];exact I.funs
 ·rw [e]
  obtain ⟨m,hn,_⟩:=I.loc
  refine .cons (by rw [I.ok.kind];decide) hf hn ?_ I.funs
  exact Heap.get?_none_of_le (jv I.ok.bsz I.ok.above)
def Inv.stkSub (I:Inv X pins σ H s):∀b∈dw X.stack,b∈X.env.locals::X.fs:=λb hb=>by
 rcases I.ok.stk with e|⟨e,hf⟩
 ·rw [e] at hb;exact jH _ hb
 ·rw [e] at hb
  unfold dw at hb
  rw [List.filterMap_cons,hf] at hb
  exact hb
def Inv.stkFree (I:Inv X pins σ H s):∀b∈dw X.stack,H b=none:=λb hb=>by
 rcases yI.mp (I.stkSub b hb) with e|hb
 ·rw [e];exact I.free
 ·obtain ⟨_,o,ho,_⟩:=I.ok.funs.mem hb
  exact I.base.free b o ho (I.ok.frf b hb) λz=>I.ok.exfs b z hb
def Inv.step {g':Array GenState}{t':Nat}{d':Drawn}{ch:Af}(I:Inv X pins σ H s)
  (iB:∀b∈ch,(b∈X.ex\/X.s₀.heap.objs.size<=b)/\b≠X.env.locals/\(∀x c,X.env.cells.lookup x=some c->c≠b)/\∀p∈X.pn++pins,p.1≠b)
  (keep:∀b o,b≠X.env.locals->b∉X.fs->b∉ch->s.heap.get? b=some o->H b=none->h'.get? b=some o)
  (slot:∀b o,b≠X.env.locals->b∈X.fs->b∉ch->s.heap.get? b=some o->H b=none->∃sl,h'.get? b=some { o with slots:=sl }) (free:∀b o,b∉ch->s.heap.get? b=some o->H b=none->H' b=none)
  (there:∀b o,b∉ch->s.heap.get? b=some o->∃o',h'.get? b=some o')
  (tups:∀b xs,H b=some (.tup xs)->H' b=some (.tup xs)) (frzs:∀b o u,H b=some (.frz o u)->H' b=some (.frz o u)) (tbls:∀b ps,H b=some (.tbl ps)->∃more,H' b=some (.tbl (ps++more)))
  (ns:∀m,s.heap.Ns X.env.locals m->h'.Ns X.env.locals m) (hok:cK X.prog X.w H' h') (hg:AllBare g') :
  Inv X pins σ H' { s with heap:=h',gens:=g',drawn:=d',toks:=t' }:=by
 have CK:∀b o,X.s₀.heap.get? b=some o->b≠X.env.locals:=λb o e=>yN (jM (yn e) I.ok.above)
 have iC:∀b o,X.s₀.heap.get? b=some o->b∉X.ex->b∉ch:=λb o e hx hb=>by
  rcases (iB b hb).1 with z|z
  ·exact hx z
  ·exact absurd (jM (yn e) z) (Nat.lt_irrefl _)
 have cellK:∀x c,X.env.cells.lookup x=some c->∀v,s.heap.IsCell c v->h'.IsCell c v:=λx c e v ⟨o,ho,hd⟩=>by
  have gO:c∉ch:=λz=>(iB c z).2.2.1 x c e rfl
  by_cases hc:c∈X.fs
  ·obtain ⟨sl,q⟩:=slot c o (I.cne x c e) hc gO ho (I.freeC x c e)
   exact ⟨_,q,hd⟩
  ·exact ⟨o,keep c o (I.cne x c e) hc gO ho (I.freeC x c e),hd⟩
 refine ⟨I.ok,I.os,hg,⟨λb o e n hb hx=>?_,λb o e n hb hx=>?_,λb o e n hx=>?_,λb o e hx=>?_,λb xs e=>tups b xs (I.base.tups b xs e),λb o xs e=>frzs b o xs (I.base.frzs b o xs e),λb ps e=>?_⟩,?_,λx c e=>?_,?_,λx c e=>?_,λp hp=>?_,hok,I.len⟩
 ·exact keep b o (CK b o e) hb (iC b o e hx) (I.base.keep b o e n hb hx) (I.base.free b o e n hx)
 ·obtain ⟨sl,e1⟩:=I.base.slot b o e n hb hx
  obtain ⟨vL,e2⟩:=slot b _ (CK b o e) hb (iC b o e hx) e1 (I.base.free b o e n hx)
  exact ⟨vL,e2⟩
 ·obtain ⟨o',e1⟩:=I.base.there b o e hx
  exact free b o' (iC b o e hx) e1 (I.base.free b o e n hx)
 ·obtain ⟨o',e1⟩:=I.base.there b o e hx
  exact there b o' (iC b o e hx) e1
 ·obtain ⟨m1,e1⟩:=I.base.tbls b ps e
  obtain ⟨m2,e2⟩:=tbls b _ e1
  exact ⟨m1++m2,by rw [e2,Array.append_assoc]⟩
 ·obtain ⟨m,hn,hl⟩:=I.loc
  refine ⟨m,ns m hn,λi x v e1 e2 e3=>?_⟩
  obtain ⟨u,r,l⟩:=hl i x v e1 e2 e3
  refine ⟨u,r,?_⟩
  rcases l with l|⟨k,c,e,z⟩
  ·exact .inl l
  ·exact .inr ⟨k,c,e,cellK x c e _ z⟩
 ·obtain ⟨v,z⟩:=I.cell x c e
  exact ⟨v,cellK x c e v z⟩
 ·obtain ⟨m,⟨o,_,_,ho,_⟩,_⟩:=I.loc
  exact free _ o (λz=>(iB _ z).2.1 rfl) ho I.free
 ·obtain ⟨v,o,ho,hd⟩:=I.cell x c e
  exact free c o (λz=>(iB c z).2.2.1 x c e rfl) ho (I.freeC x c e)
 ·obtain ⟨e,n,ne,nf,d⟩:=I.pin p hp
  have gO:p.1∉ch:=λz=>(iB p.1 z).2.2.2 p hp rfl
  exact ⟨keep p.1 p.2 ne nf gO e n,free p.1 p.2 gO e n,ne,nf,d⟩
def Inv.un {t':Nat}(I:Inv X pins σ H s) (u:Un X.fs [] H H' s.heap h') (hok:cK X.prog X.w H' h'):Inv X pins σ H' { s with heap:=h',toks:=t' }:=by
 obtain ⟨m,⟨o,es,ep,ho,r⟩,_⟩:=id I.loc
 obtain ⟨sl,hL⟩:=u.any ho I.free (by simp)
 exact I.step (g':=s.gens) (d':=s.drawn) (ch:=[]) (λ_ z=>nomatch z) (λb o _ hb _ e n=>u.keep b o e n hb (by simp)) (λb o _ hb _ e n=>u.slot b o e n hb (by simp)) (λb o _ e n=>u.free b o e n (by simp)) (λb o _ e=>u.there b o e (by simp)) u.tups u.frzs u.tbls (λm' hm=>by
  obtain ⟨o',vM,vN,ho',r'⟩:=hm
  rw [ho] at ho';cases ho'
  exact ⟨_,vM,vN,hL,r'⟩) hok I.bare
def Inv.call {g':Array GenState}{t':Nat}{d':Drawn}{ch:Af}(I:Inv X pins σ H s) (u:Un (dw X.stack) ch H H' s.heap h') (hok:cK X.prog X.w H' h') (hg:AllBare g')
  (iB:∀b∈ch,(b∈X.ex\/X.s₀.heap.objs.size<=b)/\b≠X.env.locals/\(∀x c,X.env.cells.lookup x=some c->c≠b)/\∀p∈X.pn++pins,p.1≠b) :
  Inv X pins σ H' { s with heap:=h',gens:=g',drawn:=d',toks:=t' }:=by
 obtain ⟨m,⟨o,es,ep,ho,r⟩,_⟩:=id I.loc
 obtain ⟨sl,hL⟩:=u.any ho I.free λz=>(iB _ z).2.1 rfl
 exact I.step (ch:=ch) iB (λb o hL hb hc e n=>u.keep b o e n (λz=>(yI.mp (I.stkSub b z)).elim hL hb) hc) (λb o _ _ hc e n=>u.any e n hc) (λb o hc e n=>u.free b o e n hc) (λb o hc e=>u.there b o e hc) u.tups u.frzs u.tbls (λm' hm=>by
  obtain ⟨o',vM,vN,ho',r'⟩:=hm
  rw [ho] at ho';cases ho'
  exact ⟨_,vM,vN,hL,r'⟩) hok hg
def Inv.turned {t':Nat}{it:Addr}(I:Inv X pins σ H s) (k:∀b o,b≠it->s.heap.get? b=some o->h'.get? b=some o) (hn:H it=none) (hL:it≠X.env.locals)
  (h1:it∈X.ex\/X.s₀.heap.objs.size<=it) (h2:∀x c,X.env.cells.lookup x=some c->c≠it) (h3:∀p∈X.pn++pins,p.1≠it):Inv X pins σ H { s with heap:=h',toks:=t' }:=by
 have CL:∀b u,H b=some u->b≠it:=λb u e z=>by rw [z,hn] at e;cases e
 refine I.step (g':=s.gens) (d':=s.drawn) (ch:=[it]) (λb hb=>?_) (λb o _ _ hc e _=>k b o (λz=>hc (by simp [z])) e) (λb o _ _ hc e _=>⟨o.slots,k b o (λz=>hc (by simp [z])) e⟩) (λ_ _ _ _ n=>n)
  (λb o hc e=>⟨o,k b o (λz=>hc (by simp [z])) e⟩) (λ_ _ e=>e) (λ_ _ _ e=>e) (λb ps e=>⟨#[],by rw [e];simp⟩) (λm hm=>?_) (λb u e=>?_) I.bare
 ·have e:b=it:=by simpa using hb
  subst e
  exact ⟨h1,hL,h2,h3⟩
 ·obtain ⟨o,es,ep,ho,r⟩:=hm
  exact ⟨o,es,ep,k _ o (yO hL) ho,r⟩
 ·refine (I.hok b u e).stay (λc v hc q=>k c v ?_ q) (λ_ q=>q) λ_ _ q=>q
  rcases hc with z|z
  ·rw [z];exact CL b u e
  ·exact CL c _ z
def Inv.tok (I:Inv X pins σ H s) (t:Nat):Inv X pins σ H { s with toks:=t }:=I.un (h':=s.heap) (t':=t) Un.refl I.hok
theorem Inv.kept {t':Nat}(I:Inv X pins σ H s) (k:∀b u,s.heap.get? b=some u->h'.get? b=some u):Inv X pins σ H { s with heap:=h',toks:=t' }:=I.un (Un.kept k) (I.hok.kept k)
theorem Inv.laid {a:Addr}{o:HO}{t':Nat}(I:Inv X pins σ H s) (k:∀b u,s.heap.get? b=some u->h'.get? b=some u) (hp:s.heap.objs.size<=a) (new:bo X.prog X.w (upd H a o) h' a o) :
  Inv X pins σ (upd H a o) { s with heap:=h',toks:=t' }:=I.un (Un.laid k hp (I.hok.fresh hp)) (I.hok.laid k hp new)
theorem Inv.write {x e:Addr}{o:HO}{t':Nat}(I:Inv X pins σ H s) (mu:pU (H x)) (he:e=x\/H e=some (.own x)) (k:∀b u,b≠e->s.heap.get? b=some u->h'.get? b=some u) (om:∃u,h'.get? e=some u)
  (new:bo X.prog X.w (upd H x o) h' x o):Inv X pins σ (upd H x o) { s with heap:=h',toks:=t' }:=I.un (Un.write mu he k om) (I.hok.write mu he k om new)
def Inv.weak {aj:List (Option V)}(I:Inv X pins σ H s) (hl:aj.length=σ.length) (w:∀(i:Nat) v,aj[i]?=some (some v)->σ[i]?=some (some v)):Inv X pins aj H s :=
 ⟨I.ok,I.os,I.bare,I.base,let ⟨m,hn,CM⟩:=I.loc;⟨m,hn,λi x v e1 e2 e3=>CM i x v e1 (w i v e2) e3⟩,I.cell,I.free,I.freeC,I.pin,I.hok,hl.trans I.len⟩
def Inv.pins_of {pins':Ac}(I:Inv X pins σ H s) (h:∀p∈pins',s.heap.get? p.1=some p.2/\H p.1=none/\p.1≠X.env.locals/\p.1∉X.fs/\∀v,p.2.data ≠ .cell v):Inv X pins' σ H s :=
 ⟨I.ok,I.os,I.bare,I.base,I.loc,I.cell,I.free,I.freeC,λp hp=>(iu.mp hp).elim (λz=>I.pin p (og _ z)) (h p),I.hok,I.len⟩
def CN {N:Ae}(hN:N.Nodup) {i j:Nat}{x:Str}(a:N[i]?=some x) (b:N[j]?=some x):i=j:=by
 obtain ⟨h1,e1⟩:=yt.mp a
 obtain ⟨h2,e2⟩:=yt.mp b
 exact (List.getElem_inj hN).mp (e1.trans e2.symm)
def K9 {M:Model}{A:Around}{E:Aa}{i:Nat}{x:Str}{v:V}{u:Value}{Q:Unit->Shared->Prop}(I:Inv X pins σ H s) (hN:X.N.Nodup) (hi:X.N[i]?=some x) (hx:Loc X.env.scope x) (r:RelV v u)
  (h:∀s',Inv X pins (σ.set i (some v)) H s'->(∃a,Heap.SameBut a s.heap s'.heap/\(a=X.env.locals\/X.env.cells.lookup x=some a))->Q () s') (hf:X.fn x=true\/X.env.scope.names.lookup x=some .local:=by first|exact .inl rfl|exact .inr rfl|assumption):wpAny M A (storeName X.env x u) Q E s:=by
 obtain ⟨m,hn,hl⟩:=id I.loc
 have CO:(X.env.scope.kind == .class||(X.env.scope.kind == .module&&X.env.locals != X.env.globals))=false:=by rw [I.ok.kind];rfl
 have aJ:i<σ.length:=by rw [I.len];exact (yt.mp hi).1
 have cne:=I.cne
 have tracked:∀{a:Addr} {h':Heap},(∃o,s.heap.get? a=some o/\H a=none)->Heap.SameBut a s.heap h'->cK X.prog X.w H h':=λ{a h'} ha hs b ob e=>by
  obtain ⟨_,_,ko⟩:=ha
  refine (I.hok b ob e).stay (λc w' hc q=>(hs.2 c ?_).trans q) (λ_ q=>q) λ_ _ q=>q
  rintro rfl
  rcases hc with rfl|hc
  ·rw [ko] at e;cases e
  ·rw [ko] at hc;cases hc
 rcases hx with hk|hk
 ·refine wpAny_storeName_local hk hn (λh' K_ hs=>?_) CO
  obtain ⟨oL,_,_,pW,_⟩:=id hn
  refine h _ ⟨I.ok,I.os,I.bare,⟨λb o e n hb hx=>?_,λb o e n hb hx=>?_,I.base.free,λb o e hx=>?_,I.base.tups,I.base.frzs,I.base.tbls⟩,⟨_,K_,λj y v' e1 e2 e3=>?_⟩,λy c e=>?_,I.free,I.freeC,λp hp=>?_,tracked ⟨oL,pW,I.free⟩ hs,by simpa using I.len⟩ ⟨_,hs,.inl rfl⟩
  ·exact (hs.2 b (yN (jM (yn e) I.ok.above))).trans (I.base.keep b o e n hb hx)
  ·obtain ⟨sl,e1⟩:=I.base.slot b o e n hb hx
   exact ⟨sl,(hs.2 b (yN (jM (yn e) I.ok.above))).trans e1⟩
  ·obtain ⟨o',e1⟩:=I.base.there b o e hx
   exact ⟨o',(hs.2 b (yN (jM (yn e) I.ok.above))).trans e1⟩
  ·by_cases hj:j=i
   ·subst hj
    rw [hi] at e1;cases e1
    rw [yp aJ] at e2
    cases e2
    exact ⟨u,r,.inl ⟨hk,by simp⟩⟩
   ·rw [yB (yO hj)] at e2
    obtain ⟨u',r',q⟩:=hl j y v' e1 e2 e3
    refine ⟨u',r',?_⟩
    rcases q with ⟨k,e⟩|⟨k,c,e,z⟩
    ·refine .inl ⟨k,?_⟩
     have:y≠x:=λe=>hj (CN hN e1 (e▸hi))
     simp [this,e]
    ·exact .inr ⟨k,c,e,z.sameBut hs (cne y c e)⟩
  ·obtain ⟨w',z⟩:=I.cell y c e
   exact ⟨w',z.sameBut hs (cne y c e)⟩
  ·obtain ⟨e,n,ne,nf,d⟩:=I.pin p hp
   exact ⟨(hs.2 p.1 ne).trans e,n,ne,nf,d⟩
 ·have vO:X.fn x=true:=by
   rcases hf with z|z
   ·exact z
   ·rw [z] at hk;cases hk
  obtain ⟨c,hc⟩:=I.ok.has x (.inl hk)
  obtain ⟨w',z⟩:=I.cell x c hc
  refine wpAny_storeName_cell I.ok.kind hk hc z (λh' dv hs=>?_)
  obtain ⟨oc,CP,CQ⟩:=id z
  refine h { s with heap:=h' } ⟨I.ok,I.os,I.bare,⟨λb o e n hb hx=>?_,λb o e n hb hx=>?_,I.base.free,λb o e hx=>?_,I.base.tups,I.base.frzs,I.base.tbls⟩,⟨m,hn.sameBut hs (yO (cne x c hc)),λj y v' e1 e2 e3=>?_⟩,λy c' e=>?_,I.free,I.freeC,λp hp=>?_,tracked ⟨oc,CP,I.freeC x c hc⟩ hs,by simpa using I.len⟩ ⟨c,hs,.inr hc⟩
  ·exact (hs.2 b (yN (jM (yn e) (I.ok.cab x c vO hc)))).trans (I.base.keep b o e n hb hx)
  ·obtain ⟨sl,e1⟩:=I.base.slot b o e n hb hx
   exact ⟨sl,(hs.2 b (yN (jM (yn e) (I.ok.cab x c vO hc)))).trans e1⟩
  ·obtain ⟨o',e1⟩:=I.base.there b o e hx
   exact ⟨o',(hs.2 b (yN (jM (yn e) (I.ok.cab x c vO hc)))).trans e1⟩
  ·by_cases hj:j=i
   ·subst hj
    rw [hi] at e1;cases e1
    rw [yp aJ] at e2
    cases e2
    exact ⟨u,r,.inr ⟨.inl hk,c,hc,dv⟩⟩
   ·rw [yB (yO hj)] at e2
    obtain ⟨u',r',q⟩:=hl j y v' e1 e2 e3
    refine ⟨u',r',?_⟩
    rcases q with q|⟨k,c',e,z'⟩
    ·exact .inl q
    ·refine .inr ⟨k,c',e,z'.sameBut hs ?_⟩
     rintro rfl
     exact hj (CN hN e1 (I.ok.inj _ _ _ e hc▸hi))
  ·by_cases oo:c'=c
   ·subst oo;exact ⟨_,dv⟩
   ·obtain ⟨w2,z2⟩:=I.cell y c' e
    exact ⟨w2,z2.sameBut hs oo⟩
  ·obtain ⟨e,n,ne,nf,d⟩:=I.pin p hp
   refine ⟨(hs.2 p.1 ?_).trans e,n,ne,nf,d⟩
   intro q
   rw [q,CP] at e
   have q':oc=p.2:=Option.some.inj e
   exact d w' (by rw [<-q'];exact CQ)
def sk {M:Model}{A:Around}{E:Aa}{i:Nat}{x:Str}{v:V}{u:Value}{Q:Unit->Shared->Prop}(I:Inv X pins σ H s) (hN:X.N.Nodup) (hi:X.N[i]?=some x) (hx:Loc X.env.scope x) (r:RelV v u)
  (h:∀s',Inv X pins (σ.set i (some v)) H s'->Q () s') (hf:X.fn x=true\/X.env.scope.names.lookup x=some .local:=by first|exact .inl rfl|exact .inr rfl|assumption):wpAny M A (storeName X.env x u) Q E s :=
 K9 I hN hi hx r (λs' I' _=>h s' I') hf
def Inv.call' {s':Shared}{ch:Af}(I:Inv X pins σ H s) (ho:s'.os=s.os) (u:Un (dw X.stack) ch H H' s.heap s'.heap) (hok:cK X.prog X.w H' s'.heap) (hg:AllBare s'.gens)
  (iB:∀b∈ch,(b∈X.ex\/X.s₀.heap.objs.size<=b)/\b≠X.env.locals/\(∀x c,X.env.cells.lookup x=some c->c≠b)/\∀p∈X.pn++pins,p.1≠b):Inv X pins σ H' s':=by
 obtain ⟨h',g',d',t',o'⟩:=s'
 have e:o'=s.os:=ho
 subst e
 exact I.call (g':=g') (t':=t') (d':=d') u hok hg iB
end
abbrev XK:=Value->Option Addr->Hp->Prop
abbrev St:=List (Option V)
abbrev VK:=V->Hp->Prop
abbrev TE:=St->Hp->VK->Prop
abbrev TT:=St->Hp->(Bool->Hp->Prop)->Prop
abbrev TA:=St->Hp->(List V->Hp->Prop)->Prop
structure Ends where
 nx:St->Hp->Prop
 rt:VK
 bk:St->Hp->Prop:=λ_ _=>False
 ct:St->Hp->Prop:=λ_ _=>False
abbrev TS:=Ends->St->Hp->Prop
def EP (X:Cx) (pins:Ac) (σ:St) (Q:VK) (u:Value) (s':Shared):Prop:=∃v H',Inv X pins σ H' s'/\RelV v u/\Q v H'
def TP (X:Cx) (pins:Ac) (σ:St) (Q:Bool->Hp->Prop) (b:Bool) (s':Shared):Prop:=∃H',Inv X pins σ H' s'/\Q b H'
def AP (X:Cx) (pins:Ac) (σ:St) (Q:List V->Hp->Prop) (us:Ag) (s':Shared):Prop:=∃vs H',Inv X pins σ H' s'/\Vals vs us/\Q vs H'
def SP (X:Cx) (pins:Ac) (D:Ends) (f:Flow) (s':Shared):Prop :=
 match f with
 |.next=>∃aj H',Inv X pins aj H' s'/\D.nx aj H'
 |.brk=>∃aj H',Inv X pins aj H' s'/\D.bk aj H'
 |.cont=>∃aj H',Inv X pins aj H' s'/\D.ct aj H'
 |.ret u=>∃v aj H',Inv X pins aj H' s'/\RelV v u/\D.rt v H'
def PE (X:Cx) (e:Expr) (t:TE):Prop :=
 ∀(pins:Ac) (s:Shared) (σ:St) (H:Hp) (Q:VK),Inv X pins σ H s->t σ H Q->wpAny (model X.prog X.w) X.A (eval e X.env) (EP X pins σ Q) X.xe s
def PT (X:Cx) (e:Expr) (t:TT):Prop :=
 ∀(pins:Ac) (s:Shared) (σ:St) (H:Hp) (Q:Bool->Hp->Prop),Inv X pins σ H s->t σ H Q->wpAny (model X.prog X.w) X.A (isTrue e X.env (eval e X.env)) (TP X pins σ Q) X.xe s
def PW (X:Cx) (e:Expr) (t:TT):Prop :=
 ∀(whole:Sem Value) (pins:Ac) (s:Shared) (σ:St) (H:Hp) (Q:Bool->Hp->Prop),Inv X pins σ H s->t σ H Q->wpAny (model X.prog X.w) X.A (isTrue e X.env whole) (TP X pins σ Q) X.xe s
def PW.pt {X:Cx}{e:Expr}{t:TT}(h:PW X e t):PT X e t:=h _
def PA (X:Cx) (es:List Expr) (t:TA):Prop :=
 ∀(pos:Pos) (pins:Ac) (s:Shared) (σ:St) (H:Hp) (Q:List V->Hp->Prop),Inv X pins σ H s->t σ H Q->wpAny (model X.prog X.w) X.A (spliced (backTo pos (starEach es X.env))) (AP X pins σ Q) X.xe s
def PS (X:Cx) (st:Stmt) (t:TS):Prop :=
 ∀(pins:Ac) (s:Shared) (σ:St) (H:Hp) (D:Ends),Inv X pins σ H s->t D σ H->wpAny (model X.prog X.w) X.A (exec st X.env) (SP X pins D) X.xe s
def cU (X:Cx) (st:List Stmt) (t:TS):Prop :=
 ∀(pins:Ac) (s:Shared) (σ:St) (H:Hp) (D:Ends),Inv X pins σ H s->t D σ H->wpAny (model X.prog X.w) X.A (execs st X.env) (SP X pins D) X.xe s
def a0 {α:Type}{t:Sem α}{Q Q':α->Shared->Prop}{M:Model}{A:Around}{E:Aa}{s:Shared}(h:wpAny M A t Q E s) (hQ:∀a s,Q a s->Q' a s):wpAny M A t Q' E s:=ju h hQ λ_ _ x=>x
section
variable {X:Cx}
def vP (i:Nat):TE:=fun σ H Q=>∃v,σ[i]?=some (some v)/\Q v H
def tC (v:V):TE:=λ_ H Q=>Q v H
def Lb {i:Nat} {x:Str} {pos:Pos} (hN:X.N[i]?=some x) (hv:sj X.env.scope x) (hd:(x==("__debug__" : Str))=false:=by decide) (gf:(x==("__classdict__" : Str))=false:=by decide):PE X (.Name x pos) (vP i):=by
 intro pins s σ H Q I h
 obtain ⟨v,e,h⟩:=h
 obtain ⟨m,hn,hl⟩:=I.loc
 obtain ⟨u,r,l⟩:=hl i x v hN e hv
 have fin:EP X pins σ Q u s:=⟨v,H,I,r,h⟩
 rcases l with ⟨hk,hm⟩|⟨hk,c,hc,eO⟩
 ·exact wpAny_Name (wpAny_loadName_local I.ok.kind hk hn hm fin) hd
 ·rcases hk with hk|hk
  ·exact wpAny_Name (wpAny_loadName_cell I.ok.kind hk hc eO fin) hd
  ·exact wpAny_Name (wpAny_loadName_free I.ok.kind hk hc eO fin gf) hd
def Lc {i j pos}:PE X (.Constant (.int i) j pos) (tC (.int i)):=λ_ _ _ H _ I h=>wpAny_Constant_int ⟨.int i,H,I.tok _,⟨_,rfl⟩,h⟩
def Ld {b j pos}:PE X (.Constant (.bool b) j pos) (tC (.bl b)):=λ_ _ _ H _ I h=>Constant_bool ⟨.bl b,H,I,rfl,h⟩
def Le {j pos}:PE X (.Constant .none j pos) (tC .non):=λ_ _ _ H _ I h=>Constant_none ⟨.non,H,I,rfl,h⟩
def Lf {x j pos}:PE X (.Constant (.str x) j pos) (tC (.str x)):=λ_ _ _ H _ I h=>Calls.Constant_str ⟨.str x,H,I.tok _,⟨_,rfl⟩,h⟩
def Gl (X:Cx) (x:Str):Prop:=X.env.kindOf x=some .globalImplicit
def vQ {E:Aa}{pins:Ac}{s:Shared}{σ:St}{H:Hp}{x:Str}{u:Value}{pos:Pos}{Q:Aa}(I:Inv X pins σ H s) (hg:Gl X x) (hm:X.mg x=some u) (h:Q u s)
  (hd:(x==("__debug__" : Str))=false:=by decide):wpAny (model X.prog X.w) X.A (eval (.Name x pos) X.env) Q E s :=
 Calls.Name_function_global I.ok.kind hg (Calls.loadGlobal_global (by rw [I.ok.glob];exact I.mod.glob.keeps I.bk) hm h) hd
def iD {E:Aa}{pins:Ac}{s:Shared}{σ:St}{H:Hp}{x:Str}{u:Value}{pos:Pos}{Q:Aa}(I:Inv X pins σ H s) (hg:Gl X x) (hm:X.mg x=none) (hv:bootBuiltins x=some u) (h:Q u s)
  (hn:x ≠ "__name__" := by decide) (hd:(x==("__debug__" : Str))=false:=by decide):wpAny (model X.prog X.w) X.A (eval (.Name x pos) X.env) Q E s:=by
 obtain ⟨mb,h1,h2⟩:=I.mod.blt
 exact Calls.Name_function_global I.ok.kind hg (Calls.loadGlobal_builtin (by rw [I.ok.glob];exact I.mod.glob.keeps I.bk) hm (by rw [I.ok.blt];exact h1.keeps I.bk) ((h2 x hn).trans hv) h) hd
def vR {x:Str} {v:V} {u:Value} {pos:Pos} (hg:Gl X x) (hm:X.mg x=some u) (r:RelV v u) (hd:(x==("__debug__" : Str))=false:=by decide):PE X (.Name x pos) (tC v) :=
 λ_ _ _ H _ I h=>vQ I hg hm ⟨v,H,I,r,h⟩ hd
def Lg {x:Str} {v:V} {u:Value} {pos:Pos} (hg:Gl X x) (hm:X.mg x=none) (hv:bootBuiltins x=some u) (r:RelV v u) (hn:x ≠ "__name__" := by decide) (hd:(x==("__debug__" : Str))=false:=by decide):PE X (.Name x pos) (tC v) :=
 λ_ _ _ H _ I h=>iD I hg hm hv ⟨v,H,I,r,h⟩ hn hd
variable {a b:Expr} {ta tb:TE} {pos:Pos}
def tB (t:TE):TT:=fun σ H Q=>t σ H λx H1=>∃c,x=.bl c/\Q c H1
def Lh {e:Expr}{t:TE}(h:PE X e t) (he:∀whole,isTrue e X.env whole=(do let v <-whole;standAt e.pos;holding [v] (truthy v)):=by intro _;rfl):PT X e (tB t):=by
 intro pins s σ H Q I hw
 refine isTrue_plain (a0 (h pins s σ H _ I hw) λv s1 ⟨x,H1,I1,r1,q1⟩=>?_) (he _)
 obtain ⟨d,rfl,q⟩:=q1
 cases r1
 exact j_ ⟨H1,I1,q⟩
variable {tA sr:TT} {rest:List Expr}
def Li (t u:TT):TT:=fun σ H Q=>t σ H λc H1=>if c=true then u σ H1 Q else Q false H1
def Lj (t u:TT):TT:=fun σ H Q=>t σ H λc H1=>if c=true then Q true H1 else u σ H1 Q
def Lk (t:TT):TT:=fun σ H Q=>t σ H λc H1=>Q (!c) H1
def Ll (ha:PT X a tA):PW X (.BoolOp .And [a] pos) tA:=by
 intro wh pins s σ H Q I h
 refine isTrue_and (a0 (ha pins s σ H Q I h) λc s1 e=>?_)
 cases c with
 |true=>exact isTrue_and_nil e
 |false=>exact e
def Lm (ha:PT X a tA):PW X (.BoolOp .Or [a] pos) tA:=by
 intro wh pins s σ H Q I h
 refine isTrue_or (a0 (ha pins s σ H Q I h) λc s1 e=>?_)
 cases c with
 |false=>exact isTrue_or_nil e
 |true=>exact e
def Ln (ha:PT X a tA) (hb:PW X (.BoolOp .And (b::rest) pos) sr):PW X (.BoolOp .And (a::b::rest) pos) (Li tA sr):=by
 intro wh pins s σ H Q I h
 refine isTrue_and (a0 (ha pins s σ H _ I h) λc s1 ⟨H1,I1,q1⟩=>?_)
 cases c with
 |true=>exact hb wh pins s1 σ H1 Q I1 q1
 |false=>exact ⟨H1,I1,q1⟩
def Lo (ha:PT X a tA) (hb:PW X (.BoolOp .Or (b::rest) pos) sr):PW X (.BoolOp .Or (a::b::rest) pos) (Lj tA sr):=by
 intro wh pins s σ H Q I h
 refine isTrue_or (a0 (ha pins s σ H _ I h) λc s1 ⟨H1,I1,q1⟩=>?_)
 cases c with
 |true=>exact ⟨H1,I1,q1⟩
 |false=>exact hb wh pins s1 σ H1 Q I1 q1
def Lp (ha:PT X a tA):PT X (.UnaryOp .Not a pos) (Lk tA):=by
 intro pins s σ H Q I h
 exact isTrue_not (ha pins s σ H (λc H1=>Q (!c) H1) I h)
def Ls (ta tb:TE):TE:=fun σ H Q=>ta σ H λx H1=>∃c,x=.bl c/\if c=true then tb σ H1 Q else Q (.bl false) H1
def Lu {op}{t:TE}(h:PE X a t):PE X (.BoolOp op [a] pos) t:=λpins s σ H Q I hw=>BoolOp_one (h pins s σ H Q I hw)
def Lv (ha:PE X a ta) (hb:PE X (.BoolOp .And (b::rest) pos) tb):PE X (.BoolOp .And (a::b::rest) pos) (Ls ta tb):=by
 intro pins s σ H Q I h
 refine BoolOp_and (a0 (ha pins s σ H _ I h) λv s1 ⟨x,H1,I1,r1,q1⟩=>?_)
 obtain ⟨c,rfl,q1⟩:=q1
 cases r1
 refine j_ ?_
 cases c with
 |true=>exact hb pins s1 σ H1 Q I1 q1
 |false=>exact ⟨.bl false,H1,I1,rfl,q1⟩
end
def bE (K:PySem.W.Frag) (H:Hp) (a:Addr) (xs:List V):Prop :=
 Rd H a (.lst xs) \/
  ∃(o:Obj) (its:Array Value) (n:Nat),K.lookup a=some o/\o.cls=.type "list" /\ o.dict=none/\o.data=.seq its n/\its.size<=sizeLine/\Vals xs its.toList
def bD (K:PySem.W.Frag) (H:Hp) (a:Addr) (xs:List V):Prop :=
 Rd H a (.tup xs) \/
  ∃(o:Obj) (its:Array Value) (n:Nat),K.lookup a=some o/\o.cls=.type "tuple" /\ o.data=.seq its n/\its.size<=sizeLine/\Vals xs its.toList
def CS:Value->Option V
 |.none=>some .non
 |.bool b=>some (.bl b)
 |.int i _=>some (.int i)
 |.str x _=>some (.str x)
 |.bytes b _=>some (.byt b)
 |.float b _=>some (.flt b)
 |.ref a=>some (.ref a)
 |.type n=>some (.ty n)
 |_=>none
def RelV.abs {x:V}{u:Value}(r:RelV x u):CS u=some x:=by
 cases x with
 |non=>cases r;rfl
 |bl _=>cases r;rfl
 |int _=>obtain ⟨t,rfl⟩:=r;rfl
 |str _=>obtain ⟨t,rfl⟩:=r;rfl
 |byt _=>obtain ⟨t,rfl⟩:=r;rfl
 |flt _=>obtain ⟨t,rfl⟩:=r;rfl
 |ref _=>cases r;rfl
 |ty _=>cases r;rfl
theorem RelV.inj {x y:V}{u:Value}(r:RelV x u) (q:RelV y u):x=y:=Option.some.inj (r.abs.symm.trans q.abs)
theorem Vals.inj:∀{xs ys:List V}{us:Ag},Vals xs us->Vals ys us->xs=ys
 |_,_,_,.nil,.nil=>rfl
 |_,_,_,.cons r t,.cons r' t'=>by rw [r.inj r',Vals.inj t t']
section
variable {X:Cx} {pins:Ac} {σ:St} {H:Hp} {s:Shared} {a:Addr} {xs ys:List V}
def bE.of {K:PySem.W.Frag}(h:H a=some (.lst xs)):bE K H a xs:=.inl (.inl h)
def bD.of {K:PySem.W.Frag}(h:H a=some (.tup xs)):bD K H a xs:=.inl (.inl h)
def Inv.list (I:Inv X pins σ H s) (h:bE X.K H a xs):∃its:Ag,Vals xs its/\PlainL s.heap a its.toArray/\xs.length<=sizeLine:=by
 rcases h with h|⟨o,its,n,hk,hc,hd,hs,hz,r⟩
 ·obtain ⟨z,its,n,r,e⟩:=h.ok I.hok
  exact ⟨its,r,⟨_,n,e,rfl,rfl,rfl⟩,z⟩
 ·refine ⟨its.toList,r,⟨o,n,I.kIn a o hk,hc,hd,by simpa using hs⟩,?_⟩
  have e:=r.length
  simp only [Array.length_toList] at e
  omega
def Inv.tuple (I:Inv X pins σ H s) (h:bD X.K H a xs):∃its:Ag,Vals xs its/\IsTup s.heap a its.toArray/\xs.length<=sizeLine:=by
 rcases h with h|⟨o,its,n,hk,hc,hs,hz,r⟩
 ·obtain ⟨z,its,r,p⟩:=h.ok I.hok
  exact ⟨its,r,p,z⟩
 ·refine ⟨its.toList,r,⟨o,I.kIn a o hk,hc,n,by simpa using hs⟩,?_⟩
  have e:=r.length
  simp only [Array.length_toList] at e
  omega
def Inv.list_inj (I:Inv X pins σ H s) (h:bE X.K H a xs) (h':bE X.K H a ys):xs=ys:=by
 obtain ⟨its,r,⟨o,n,e,_,_,d⟩,_⟩:=I.list h
 obtain ⟨its',r',⟨o',n',e',_,_,d'⟩,_⟩:=I.list h'
 rw [e] at e';cases e'
 rw [d] at d'
 injection d' with d1 _
 have:its=its':=by simpa using congrArg Array.toList d1
 subst this
 exact r.inj r'
def Inv.tuple_inj (I:Inv X pins σ H s) (h:bD X.K H a xs) (h':bD X.K H a ys):xs=ys:=by
 obtain ⟨its,r,⟨o,e,_,n,d⟩,_⟩:=I.tuple h
 obtain ⟨its',r',⟨o',e',_,n',d'⟩,_⟩:=I.tuple h'
 rw [e] at e';cases e'
 rw [d] at d'
 injection d' with d1 _
 have:its=its':=by simpa using congrArg Array.toList d1
 subst this
 exact r.inj r'
end
abbrev Cx.wish (X:Cx) (E:Aa):Cx:={ X with xe:=E }
abbrev Cx.nox (X:Cx):Cx:=X.wish λ_ _=>False
theorem Cx.Ok.wish {X:Cx}(ok:X.Ok) (E:Aa):(X.wish E).Ok :=
 ⟨ok.mod,ok.kind,ok.glob,ok.blt,ok.above,ok.inj,ok.has,ok.cab,ok.hd,ok.frames,ok.stk,ok.exf,ok.bs,ok.bsz,ok.noex,ok.exfs,ok.funs,ok.frf⟩
def Cx.Ok.unwish {X:Cx}{E:Aa}(ok:(X.wish E).Ok):X.Ok :=
 ⟨ok.mod,ok.kind,ok.glob,ok.blt,ok.above,ok.inj,ok.has,ok.cab,ok.hd,ok.frames,ok.stk,ok.exf,ok.bs,ok.bsz,ok.noex,ok.exfs,ok.funs,ok.frf⟩
section
variable {X:Cx} {pins:Ac} {σ:St} {H:Hp} {s:Shared} {E:Aa}
theorem Inv.wish (I:Inv X pins σ H s) (E:Aa):Inv (X.wish E) pins σ H s:=⟨I.ok.wish E,I.os,I.bare,I.base,I.loc,I.cell,I.free,I.freeC,I.pin,I.hok,I.len⟩
theorem Inv.unwish (I:Inv (X.wish E) pins σ H s):Inv X pins σ H s:=⟨I.ok.unwish,I.os,I.bare,I.base,I.loc,I.cell,I.free,I.freeC,I.pin,I.hok,I.len⟩
theorem SP.unwish {D:Ends}{f:Flow}{s':Shared}(h:SP (X.wish E) pins D f s'):SP X pins D f s':=by
 cases f with
 |next=>obtain ⟨aj,H',I,q⟩:=h;exact ⟨aj,H',I.unwish,q⟩
 |brk=>obtain ⟨aj,H',I,q⟩:=h;exact ⟨aj,H',I.unwish,q⟩
 |cont=>obtain ⟨aj,H',I,q⟩:=h;exact ⟨aj,H',I.unwish,q⟩
 |ret u=>obtain ⟨v,aj,H',I,r,q⟩:=h;exact ⟨v,aj,H',I.unwish,r,q⟩
theorem PE.nox {e:Expr}{t:TE}(h:PE X.nox e t):PE X e t:=λpins s σ H Q I hw =>
 ju (h pins s σ H Q (I.wish _) hw) (λ_ _ ⟨v,H',I',r,q⟩=>⟨v,H',I'.unwish,r,q⟩) λ_ _ z=>z.elim
theorem PT.nox {e:Expr}{t:TT}(h:PT X.nox e t):PT X e t:=λpins s σ H Q I hw =>
 ju (h pins s σ H Q (I.wish _) hw) (λ_ _ ⟨H',I',q⟩=>⟨H',I'.unwish,q⟩) λ_ _ z=>z.elim
theorem cU.nox {st:List Stmt}{t:TS}(h:cU X.nox st t):cU X st t:=λpins s σ H D I hw =>
 ju (h pins s σ H D (I.wish _) hw) (λ_ _ q=>q.unwish) λ_ _ z=>z.elim
end
section
variable {X:Cx} {st:Stmt} {rest:List Stmt} {t u:TS} {e:Expr} {te:TE} {pos:Pos}
def Lx:TS:=λD σ H=>D.nx σ H
def Ly (t u:TS):TS:=λD σ H=>t { D with nx:=u D } σ H
def Lz:cU X [] Lx:=λ_ _ σ H _ I h=>wpAny_execs_nil ⟨σ,H,I,h⟩
def LA (h1:PS X st t) (h2:cU X rest u):cU X (st::rest) (Ly t u):=by
 intro pins s σ H D I h
 refine wpAny_execs_cons (a0 (h1 pins s σ H { D with nx:=u D } I h) λf s1 q=>?_)
 cases f with
 |next =>
  obtain ⟨aj,H',I',q⟩:=q
  exact h2 pins s1 aj H' D I' q
 |ret v=>exact q
 |brk=>exact q
 |cont=>exact q
def LB (h1:PS X st t):cU X [st] t:=by
 intro pins s σ H D I h
 refine wpAny_execs_cons (a0 (h1 pins s σ H D I h) λf s1 q=>?_)
 cases f with
 |next=>exact wpAny_execs_nil q
 |ret v=>exact q
 |brk=>exact q
 |cont=>exact q
def Inv.quiet {pins:Ac}{σ:St}{H:Hp}{s:Shared}(I:Inv X pins σ H s):interactive X.env=false:=by simp [interactive,I.ok.kind]
def LC (te:TE):TS:=λD σ H=>te σ H λ_ H1=>D.nx σ H1
def LD (he:PE X e te) (hs:swapsWith e none pos.line X.env=pure false:=by rfl):PS X (.Expr e pos) (LC te):=by
 intro pins s σ H D I h
 exact wpAny_Expr_any (a0 (he pins s σ H _ I h) λv s1 ⟨x,H1,I1,r1,q1⟩=>⟨σ,H1,I1,q1⟩) I.quiet hs
def LF (te:TE):TS:=λD σ H=>te σ H D.rt
def LG (he:PE X e te):PS X (.Return (some e) pos) (LF te):=by
 intro pins s σ H D I h
 exact wpAny_Return_some (a0 (he pins s σ H _ I h) λv s1 ⟨x,H1,I1,r1,q1⟩=>⟨x,σ,H1,I1,r1,q1⟩)
def LH (c:TT) (t u:TS):TS:=λD σ H=>c σ H λb H1=>if b=true then t D σ H1 else u D σ H1
def LI {c:Expr}{a b:List Stmt}{tc:TT}(hc:PT X c tc) (ha:cU X a t) (hb:cU X b u):PS X (.If c a b pos) (LH tc t u):=by
 intro pins s σ H D I h
 refine wpAny_If (a0 (hc pins s σ H _ I h) λd s1 ⟨H1,I1,q1⟩=>?_)
 cases d with
 |true=>exact ha pins s1 σ H1 D I1 q1
 |false=>exact hb pins s1 σ H1 D I1 q1
def CU:TS:=λ_ _ _=>False
def LJ:PS X st CU:=λ_ _ _ _ _ _ h=>h.elim
def LK {eU:List Stmt}:cU X eU CU:=λ_ _ _ _ _ _ h=>h.elim
end
abbrev TG:=V->St->Hp->(St->Hp->Prop)->Prop
abbrev mN:=List V->St->Hp->(St->Hp->Prop)->Prop
def PG (X:Cx) (target:Expr) (t:TG):Prop :=
 ∀(pins:Ac) (s:Shared) (σ:St) (H:Hp) (v:V) (u:Value) (Q:St->Hp->Prop),Inv X pins σ H s->RelV v u->t v σ H Q ->
  wpAny (model X.prog X.w) X.A (assign target X.env u) (λ_ s'=>∃aj H',Inv X pins aj H' s'/\Q aj H') X.xe s
def su (X:Cx) (ts:List Expr) (t:mN):Prop :=
 ∀(pins:Ac) (s:Shared) (σ:St) (H:Hp) (vs:List V) (us:Ag) (Q:St->Hp->Prop),Inv X pins σ H s->Vals vs us->t vs σ H Q ->
  wpAny (model X.prog X.w) X.A (assignInOrder ((assignEach ts X.env).map (·.2)) us) (λ_ s'=>∃aj H',Inv X pins aj H' s'/\Q aj H') X.xe s
abbrev pX:=V->V->V->Hp->(Hp->Prop)->Prop
def vw (X:Cx) (t:pX):Prop :=
 ∀(pins:Ac) (s:Shared) (σ:St) (H:Hp) (o i v:V) (ov iv u:Value) (Q:Hp->Prop),Inv X pins σ H s->RelV o ov->RelV i iv->RelV v u->t o i v H Q ->
  wpAny (model X.prog X.w) X.A (setItem ov iv u) (λ_ s'=>∃H',Inv X pins σ H' s'/\Q H') X.xe s
abbrev sv:=V->V->Hp->VK->Prop
def vS (X:Cx) (op:Operator) (t:sv):Prop :=
 ∀(pins:Ac) (s:Shared) (σ:St) (H:Hp) (x y:V) (v u:Value) (Q:VK),Inv X pins σ H s->RelV x v->RelV y u->t x y H Q ->
  wpAny (model X.prog X.w) X.A (inplaceOp op v u) (EP X pins σ Q) X.xe s
section
variable {X:Cx} {pos:Pos}
def wE (i:Nat):TG:=λv σ H Q=>Q (σ.set i (some v)) H
def iE {i:Nat}{x:Str}(hN:X.N.Nodup) (hi:X.N[i]?=some x) (hx:Loc X.env.scope x) (hf:X.fn x=true\/X.env.scope.names.lookup x=some .local:=by first|exact .inl rfl|exact .inr rfl|assumption):PG X (.Name x pos) (wE i):=by
 intro pins s σ H v u Q I r h
 exact wpAny_assign_Name (sk I hN hi hx r (λs' I'=>⟨_,H,I',h⟩) hf)
def vT:mN:=λvs σ H Q=>vs=[]/\Q σ H
def pY (t:TG) (u:mN):mN:=λvs σ H Q=>∃v r,vs=v::r/\t v σ H λaj H'=>u r aj H' Q
def vU:su X [] vT:=by
 intro pins s σ H vs us Q I r h
 obtain ⟨e,h⟩:=h
 subst e
 cases r
 exact assignInOrder_nil ⟨σ,H,I,h⟩
def oy {e:Expr}{es:List Expr}{t:TG}{u:mN}(h1:PG X e t) (h2:su X es u)
  (hs:(assignEach (e::es) X.env).map (·.2)=assign e X.env::(assignEach es X.env).map (·.2):=by rfl):su X (e::es) (pY t u):=by
 intro pins s σ H vs us Q I r h
 obtain ⟨v,vr,e1,h⟩:=h
 subst e1
 cases r with
 |cons r rr =>
  rw [hs]
  refine assignInOrder_cons (a0 (h1 pins s σ H _ _ _ I r h) λ_ s1 ⟨ax,H1,I1,q1⟩=>?_)
  exact h2 pins s1 ax H1 _ _ Q I1 rr q1
def vV (K:PySem.W.Frag) (n:Nat) (t:mN):TG:=λv σ H Q=>∃a xs,v=.ref a/\bD K H a xs/\xs.length=n/\t xs σ H Q
def vW {es:List Expr}{k:Nat}{t:mN}{n:Nat}(hc:X.calm=true) (h:su X es t)
  (hn:(assignEach es X.env).length=n:=by rfl) (cL:(assignEach es X.env).findIdx? (·.1)=none:=by rfl):PG X (.Tuple es k pos) (vV X.K n t):=by
 intro pins s σ H v u Q I r hw
 obtain ⟨a,xs,e1,hq,hl,hw⟩:=hw
 subst e1
 cases r
 obtain ⟨its,rv,ht,hz⟩:=I.tuple hq
 refine assign_Tuple_tuple (I.ok.hd hc) ht (by simp [hn,<-hl,rv.length]) cL λh' hx=>?_
 have I1:Inv X pins σ H { s with heap:=h' }:=I.kept (t':=s.toks) λb o e=>hx b o (yN (yn e)) e
 exact h pins _ σ H xs _ Q I1 (by simpa using rv) hw
def LM (to ti:TE) (t:pX):TG:=λv σ H Q=>to σ H λo H1=>ti σ H1 λi H2=>t o i v H2 λH3=>Q σ H3
def LO {o i:Expr}{to ti:TE}{t:pX}(ho:PE X o to) (hi:PE X i ti) (hs:vw X t)
  (ha:∀v,assign (.Subscript o i pos) X.env v=(do
   let ov <-holding [v] (eval o X.env)
   let iv <-holding [v,ov] (eval i X.env)
   standAt pos
   holding [v,ov,iv] (setItem ov iv v)
   release [v,ov,iv] []):=by intro _;rfl):PG X (.Subscript o i pos) (LM to ti t):=by
 intro pins s σ H v u Q I r h
 rw [ha]
 refine zB (wv (a0 (ho pins s σ H _ I h) λov s1 ⟨x,H1,I1,r1,q1⟩=>?_))
 refine zB (wv (a0 (hi pins s1 σ H1 _ I1 q1) λiv s2 ⟨y,H2,I2,r2,q2⟩=>?_))
 refine zB (wpAny_standAt (zB (wv (a0 (hs pins s2 σ H2 x y v ov iv u _ I2 r1 r2 r q2) λ_ s3 ⟨H3,I3,q3⟩=>?_))))
 exact wpAny_release ⟨σ,H3,I3,q3⟩
def CV (te:TE) (g:TG):TS:=λD σ H=>te σ H λx H1=>g x σ H1 D.nx
def LQ {tg e:Expr}{te:TE}{g:TG}(he:PE X e te) (hg:PG X tg g) (hs:swapsWithSole [tg] e pos.line X.env=pure false:=by rfl) (hw:swappedStores [tg] e X.env=pure none:=by rfl)
  (h1:(assignEach [tg] X.env).map (·.2)=[assign tg X.env]:=by rfl):PS X (.Assign [tg] e pos) (CV te g):=by
 intro pins s σ H D I h
 refine wpAny_Assign_stores (a0 (he pins s σ H _ I h) λv s1 ⟨x,H1,I1,r1,q1⟩=>?_) hs hw
 rw [h1]
 exact a0 (hg pins s1 σ H1 x v _ I1 r1 q1) λ_ s2 q=>q
def LR {i:Nat}{x:Str}{e:Expr}{te:TE}{pos':Pos}(hN:X.N.Nodup) (hi:X.N[i]?=some x) (hx:Loc X.env.scope x) (he:PE X e te) (hs:swapsWith e (some (.Name x pos')) pos.line X.env=pure false:=by rfl) (hf:X.fn x=true\/X.env.scope.names.lookup x=some .local:=by first|exact .inl rfl|exact .inr rfl|assumption) :
  PS X (.Assign [.Name x pos'] e pos) (CV te (wE i)):=by
 intro pins s σ H D I h
 refine wpAny_Assign_Name (a0 (he pins s σ H _ I h) λv s1 ⟨y,H1,I1,r1,q1⟩=>?_) hs
 exact sk I1 hN hi hx r1 (λs2 I2=>⟨_,H1,I2,q1⟩) hf
def LS (i:Nat) (te:TE) (ti:sv):TS:=λD σ H=>∃x,σ[i]?=some (some x)/\te σ H λy H1=>ti x y H1 λz H2=>D.nx (σ.set i (some z)) H2
def LU {i:Nat}{x:Str}{e:Expr}{te:TE}{op:Operator}{ti:sv}{pos':Pos}(hN:X.N.Nodup) (hi:X.N[i]?=some x) (hx:Loc X.env.scope x) (he:PE X e te) (ho:vS X op ti) (hf:X.fn x=true\/X.env.scope.names.lookup x=some .local:=by first|exact .inl rfl|exact .inr rfl|assumption) :
  PS X (.AugAssign (.Name x pos') op e pos) (LS i te ti):=by
 intro pins s σ H D I h
 obtain ⟨v,e1,h⟩:=h
 obtain ⟨m,hn,hl⟩:=I.loc
 have LV:sj X.env.scope x:=by rcases hx with k|k;exact .inl k;exact .inr (.inl k)
 obtain ⟨u,r,l⟩:=hl i x v hi e1 LV
 refine wpAny_AugAssign_Name ?_
 have go:wpAny (model X.prog X.w) X.A (eval e X.env) (λw ag=>wpAny (model X.prog X.w) X.A (inplaceOp op u w) (λr aL=>wpAny (model X.prog X.w) X.A (storeName X.env x r) (λ_=>SP X pins D .next) X.xe aL) X.xe ag) X.xe s:=by
  refine a0 (he pins s σ H _ I h) λw s1 ⟨y,H1,I1,r1,q1⟩=>?_
  refine a0 (ho pins s1 σ H1 v y u w _ I1 r r1 q1) λz s2 ⟨zv,H2,I2,r2,q2⟩=>?_
  exact sk I2 hN hi hx r2 (λs3 I3=>⟨_,H2,I3,q2⟩) hf
 rcases l with ⟨hk,hm⟩|⟨hk,c,hc,eO⟩
 ·exact wpAny_loadName_local I.ok.kind hk hn hm go
 ·rcases hk with hk|hk
  ·exact wpAny_loadName_cell I.ok.kind hk hc eO go
  ·rcases hx with k|k
   ·have:X.env.scope.names.lookup x=some .free:=hk
    rw [k] at this;cases this
   ·have:X.env.scope.names.lookup x=some .free:=hk
    rw [k] at this;cases this
def LW (f:Int->Int->Int):sv:=λx y H Q=>∃i j,x=.int i/\y=.int j/\Q (.int (f i j)) H
def LX:vS X .Add (LW λi j=>i+j):=by
 intro pins s σ H x y v u Q I r1 r2 h
 obtain ⟨i,j,e1,e2,q⟩:=h
 subst e1;subst e2
 obtain ⟨t,rfl⟩:=r1
 obtain ⟨t',rfl⟩:=r2
 exact iadd_int ⟨.int _,H,I.tok _,⟨_,rfl⟩,q⟩
def LY (c:TT) (tb:TS):TS:=λD σ H=>∃W:Nat->St->Hp->Prop,(∃m,W m σ H)/\∀m σ H,W m σ H ->
 c σ H λb H1=>if b=true then ∃N:St->Hp->Prop,(∀aj H',N aj H'->∃m',m'<m/\W m' aj H')/\tb { D with nx:=N,ct:=N,bk:=D.nx } σ H1 else D.nx σ H1
def LZ {c:Expr}{body:List Stmt}{tc:TT}{tb:TS}(hp:PassesOwn (model X.prog X.w) X.A X.env X.xe) (hc:PT X c tc) (hb:cU X body tb):PS X (.While c body [] pos) (LY tc tb):=by
 intro pins s σ H D I h
 obtain ⟨W,⟨m0,w0⟩,turn⟩:=h
 refine wpAny_While (codeAny_whileLoop (λn s'=>∃aj H',Inv X pins aj H' s'/\W n aj H') ?_ m0 ⟨σ,H,I,w0⟩)
 rintro n s1 ⟨ax,H1,I1,w1⟩
 refine wpAny_passesOwn hp (a0 (hc pins s1 ax H1 _ I1 (turn n ax H1 w1)) λb s2 ⟨H2,I2,q2⟩=>?_)
 cases b with
 |true =>
  obtain ⟨N,hN,q2⟩:=q2
  rw [zx rfl]
  refine wpAny_passesOwn hp (a0 (hb pins s2 ax H2 _ I2 q2) λf s3 q3=>?_)
  cases f with
  |next =>
   obtain ⟨az,H3,I3,n3⟩:=q3
   obtain ⟨m',hm,w3⟩:=hN az H3 n3
   exact ⟨m',hm,az,H3,I3,w3⟩
  |cont =>
   obtain ⟨az,H3,I3,n3⟩:=q3
   obtain ⟨m',hm,w3⟩:=hN az H3 n3
   exact ⟨m',hm,az,H3,I3,w3⟩
  |brk=>exact q3
  |ret v=>exact q3
 |false =>
  rw [zK Bool.false_ne_true]
  exact wpAny_execs_nil ⟨ax,H2,I2,q2⟩
end
structure It where
 go:Nat->Hp->Prop
 yld:Nat->Hp->V->Hp->Prop
 stop:Nat->Hp->Prop
def dy (X:Cx) (pins:Ac) (H:Hp) (b:Addr):Prop :=
 H b=none/\b≠X.env.locals/\b∉X.fs/\(b∈X.ex\/X.s₀.heap.objs.size<=b)/\(∀x c,X.env.cells.lookup x=some c->c≠b)/\∀p∈X.pn++pins,p.1≠b
def Inv.fpOk {X:Cx}{pins:Ac}{σ:St}{H H':Hp}{s:Shared}{b:Addr}(I:Inv X pins σ H s) (hb:s.heap.objs.size<=b) (hn:H' b=none):dy X pins H' b:=by
 refine ⟨hn,Nat.ne_of_gt (jM I.lt hb),I.nofs hb,.inr (jv I.sz hb),λx c e z=>?_,λp hp z=>?_⟩
 ·obtain ⟨v,q⟩:=I.cell x c e
  exact absurd (jM q.lt (by rw [z];exact hb)) (Nat.lt_irrefl _)
 ·exact absurd (jM (yn (I.pin p hp).1) (by rw [z];exact hb)) (Nat.lt_irrefl _)
structure Turn (P:Program) (w:World) (K:PySem.W.Frag) (tg:Expr) (J:It) (fp:Af) (it:Addr) (tn:Nat->Heap->Prop):Prop where
 mem:it∈fp
 obj:∀i h,tn i h->∀b∈fp,∃o,h.get? b=some o/\∀v,o.data ≠ .cell v
 keep:∀i h h',tn i h->(∀b∈fp,∀o,h.get? b=some o->h'.get? b=some o)->tn i h'
 item:∀(X:Cx),X.prog=P->X.w=w->X.K=K->X.calm=true->∀(i:Nat) (pins:Ac) (s:Shared) (σ:St) (H:Hp) (E:Aa),Inv X pins σ H s->(∀b∈fp,dy X pins H b)->tn i s.heap->J.go i H ->
  wpAny (model P w) X.A (pyNext (.ref it)) (λr s1=>∃u,r=some u /\
   wpAny (model P w) X.A (letOwnedTupleGo tg (.ref it) u) (λ_ s2=>∃x H',Inv X pins σ H' s2/\RelV x u/\J.yld i H x H'/\tn (i+1) s2.heap/\∀b∈fp,H' b=none) E s1) E s
 done:∀(X:Cx),X.prog=P->X.w=w->X.K=K->X.calm=true->∀(i:Nat) (pins:Ac) (s:Shared) (σ:St) (H:Hp) (E:Aa),Inv X pins σ H s->(∀b∈fp,dy X pins H b)->tn i s.heap->J.stop i H ->
  wpAny (model P w) X.A (pyNext (.ref it)) (λr s1=>r=none/\Inv X pins σ H s1) E s
 self:∀(A:Around) (i:Nat) (s:Shared) (Q:Aa) (E:Aa),tn i s.heap->Q (.ref it) s->wpAny (model P w) A (pyIter (.ref it)) Q E s
abbrev TI:=St->Hp->(It->Hp->Prop)->Prop
def CW (X:Cx) (pins:Ac) (σ:St) (tg:Expr) (R:It->Hp->Prop) (sy:Value) (s2:Shared):Prop :=
 ∃(it:Addr) (fp:Af) (tn:Nat->Heap->Prop) (J:It) (H':Hp),sy=.ref it/\Inv X pins σ H' s2/\Turn X.prog X.w X.K tg J fp it tn/\tn 0 s2.heap/\(∀b∈fp,dy X pins H' b)/\R J H'
def PI (X:Cx) (tg iter:Expr) (wi:TI):Prop :=
 ∀(pins:Ac) (s:Shared) (σ:St) (H:Hp) (R:It->Hp->Prop),Inv X pins σ H s->wi σ H R ->
  wpAny (model X.prog X.w) X.A (eval iter X.env) (λv s1=>wpAny (model X.prog X.w) X.A (pyIter v) (CW X pins σ tg R) X.xe s1) X.xe s
def sA {M:Model}{A:Around}{E:Aa}{s:Shared}{tg:Expr}{it:Addr}{u:Value}{o:Obj}{n:String}{vs:Array Value}{Q:Unit->Shared->Prop}(ho:s.heap.get? it=some o) (hc:o.cls=.type n) (hd:o.data=.fields vs)
  (hn:["enumerate", "zip", "dict_itemiterator", "dict_reverseitemiterator", "odict_iterator", "itertools.zip_longest", "itertools.pairwise"].contains n=false) (hQ:Q () s):wpAny M A (letOwnedTupleGo tg (.ref it) u) Q E s:=by
 unfold letOwnedTupleGo
 cases tg<;>first
  |exact yb hQ
  | (cases u<;>first
    |exact yb hQ
    | (refine zB (wpAny_load ho ?_)
       rw [hc,hd]
       show wpAny M A (if (["enumerate", "zip", "dict_itemiterator", "dict_reverseitemiterator", "odict_iterator", "itertools.zip_longest", "itertools.pairwise"].contains n&&vs[0]?==some (rawInt _))=true then _ else _) Q E s
       rw [zK (by intro h;rw [hn,Bool.false_and] at h;cases h)]
       exact yb hQ))
def sC (K:PySem.W.Frag) (a:Addr):It :=
 ⟨λi H=>∃xs x,bE K H a xs/\xs[i]?=some x,λi H x H'=>H'=H/\∀xs,bE K H a xs->xs[i]?=some x,λi H=>∃xs,bE K H a xs/\xs.length<=i⟩
def oz (K:PySem.W.Frag) (a:Addr):It :=
 ⟨λi H=>∃xs x,bD K H a xs/\xs[i]?=some x,λi H x H'=>H'=H/\∀xs,bD K H a xs->xs[i]?=some x,λi H=>∃xs,bD K H a xs/\xs.length<=i⟩
def sD (lo:Int) (n:Nat):It:=⟨λi _=>i<n,λi H x H'=>H'=H/\x=.int (lo+i),λi _=>n<=i⟩
def L4 {P:Program}{w:World}{K:PySem.W.Frag}{tg:Expr}(a it:Addr):Turn P w K tg (sC K a) [it] it (λi h=>h.IsListIter it a i) where
 mem:=by simp
 obj:=λi h st b hb=>by
  have e:b=it:=by simpa using hb
  subst e
  obtain ⟨o,e,c,d⟩:=st
  exact ⟨o,e,λv z=>by rw [d] at z;cases z⟩
 keep:=λi h h' st k=>st.at λo e=>k it (by simp) o e
 item:=by
  intro X hP hw hK hc i pins s σ H E I hf st hg
  subst hP hw hK
  obtain ⟨xs,x,hq,hx⟩:=hg
  obtain ⟨its,rv,p,hz⟩:=I.list hq
  obtain ⟨u,hu,ru⟩:=rv.get hx
  obtain ⟨f0,f1,f2,f3,f4,f5⟩:=hf it (by simp)
  refine wpAny_pyNext_list_item st p.isList (x:=u) (by simpa using hu) λh' bH sb=>?_
  have I1:Inv X pins σ H { s with heap:=h' }:=I.turned (t':=s.toks) (λb o hb e=>(sb.2 b hb).trans e) f0 f1 f3 f4 f5
  obtain ⟨o,e,c,d⟩:=id bH
  exact ⟨u,rfl,sA (s:={ s with heap:=h' }) e c d (by decide) ⟨x,H,I1,ru,⟨rfl,λys hy=>by rw [I.list_inj hy hq];exact hx⟩,bH,λb hb=>(hf b hb).1⟩⟩
 done:=by
  intro X hP hw hK hc i pins s σ H E I hf st hg
  subst hP hw hK
  obtain ⟨xs,hq,hx⟩:=hg
  obtain ⟨its,rv,p,hz⟩:=I.list hq
  obtain ⟨f0,f1,f2,f3,f4,f5⟩:=hf it (by simp)
  have hl:=rv.length
  exact wpAny_pyNext_list_end (I.ok.hd hc) st p.isList (by simp;omega) λh' eb=>⟨rfl,I.turned (t':=s.toks) (λb o hb e=>eb b o hb e) f0 f1 f3 f4 f5⟩
 self:=λ_ _ _ _ _ st h=>wpAny_pyIter_listiter st h
def L5 {P:Program}{w:World}{K:PySem.W.Frag}{tg:Expr}(a it:Addr):Turn P w K tg (oz K a) [it] it (λi h=>h.IsTupleIter it a i) where
 mem:=by simp
 obj:=λi h st b hb=>by
  have e:b=it:=by simpa using hb
  subst e
  obtain ⟨o,e,c,d⟩:=st
  exact ⟨o,e,λv z=>by rw [d] at z;cases z⟩
 keep:=λi h h' st k=>st.at λo e=>k it (by simp) o e
 item:=by
  intro X hP hw hK hc i pins s σ H E I hf st hg
  subst hP hw hK
  obtain ⟨xs,x,hq,hx⟩:=hg
  obtain ⟨its,rv,p,hz⟩:=I.tuple hq
  obtain ⟨u,hu,ru⟩:=rv.get hx
  obtain ⟨f0,f1,f2,f3,f4,f5⟩:=hf it (by simp)
  refine wpAny_pyNext_tuple_item st (show s.heap.IsTuple a its.toArray from p) (x:=u) (by simpa using hu) λh' bH sb=>?_
  have I1:Inv X pins σ H { s with heap:=h' }:=I.turned (t':=s.toks) (λb o hb e=>(sb.2 b hb).trans e) f0 f1 f3 f4 f5
  obtain ⟨o,e,c,d⟩:=id bH
  exact ⟨u,rfl,sA (s:={ s with heap:=h' }) e c d (by decide) ⟨x,H,I1,ru,⟨rfl,λys hy=>by rw [I.tuple_inj hy hq];exact hx⟩,bH,λb hb=>(hf b hb).1⟩⟩
 done:=by
  intro X hP hw hK hc i pins s σ H E I hf st hg
  subst hP hw hK
  obtain ⟨xs,hq,hx⟩:=hg
  obtain ⟨its,rv,p,hz⟩:=I.tuple hq
  obtain ⟨f0,f1,f2,f3,f4,f5⟩:=hf it (by simp)
  have hl:=rv.length
  exact wpAny_pyNext_tuple_end (I.ok.hd hc) st (show s.heap.IsTuple a its.toArray from p) (by simp;omega) λh' eb=>⟨rfl,I.turned (t':=s.toks) (λb o hb e=>eb b o hb e) f0 f1 f3 f4 f5⟩
 self:=λ_ _ _ _ _ st h=>wpAny_pyIter_tupleiter st h
def L6 {P:Program}{w:World}{K:PySem.W.Frag}{tg:Expr}(it:Addr) (lo:Int) (n:Nat):Turn P w K tg (sD lo n) [it] it (λi h=>IsRangeIter h it (lo+(i:Nat)*1) ((n:Int)-(i:Nat)) 1) where
 mem:=by simp
 obj:=λi h st b hb=>by
  have e:b=it:=by simpa using hb
  subst e
  exact ⟨_,st,λv z=>by
   have z':Data.fields _=Data.cell v:=z
   cases z'⟩
 keep:=λi h h' st k=>k it (by simp) _ st
 item:=by
  intro X hP hw hK hc i pins s σ H E I hf st hg
  subst hP hw hK
  obtain ⟨f0,f1,f2,f3,f4,f5⟩:=hf it (by simp)
  have W:=Walks.range (prog:=X.prog) (w:=X.w) (I.ok.hd hc) it lo 1 n
  refine W.item i s _ _ hg st λv h' tk hv bH kk=>?_
  obtain ⟨t,rfl⟩:=hv
  have I1:Inv X pins σ H { s with heap:=h',toks:=tk }:=I.turned (λb o hb e=>kk b o (by simpa using hb) e) f0 f1 f3 f4 f5
  refine ⟨_,rfl,sA (s:={ s with heap:=h',toks:=tk }) (n := "range_iterator") bH rfl rfl (by decide) ⟨.int (lo+i),H,I1,⟨t,?_⟩,⟨rfl,rfl⟩,bH,λb hb=>(hf b hb).1⟩⟩
  rw [Int.mul_one]
 done:=by
  intro X hP hw hK hc i pins s σ H E I hf st hg
  subst hP hw hK
  obtain ⟨f0,f1,f2,f3,f4,f5⟩:=hf it (by simp)
  exact wpAny_pyNext_range_end (I.ok.hd hc) st (by have:n<=i:=hg;omega) λh' eb=>⟨rfl,I.turned (t':=s.toks) (λb o hb e=>eb b o hb e) f0 f1 f3 f4 f5⟩
 self:=λ_ _ _ _ _ st h=>wpAny_pyIter_rangeiter st h
section
variable {X:Cx} {tg:Expr}
def L7 {pins:Ac}{σ:St}{H:Hp}{s:Shared}{R:It->Hp->Prop}{E:Aa}{lo hi:Int}{t u v:Tok}{tk:Nat}(I:Inv X pins σ H s) (h1 : -(2 ^ 62)<=lo) (h2:lo<2 ^ 62) (h3 : -(2 ^ 62)<=hi) (h4:hi<2 ^ 62)
  (q:R (sD lo (hi-lo).toNat) H):wpAny (model X.prog X.w) X.A (pyIter (.ref s.heap.objs.size)) (CW X pins σ tg R) E { s with heap:=s.heap.push { cls:=.type "range", data:=.fields #[.int lo t,.int hi u,.int 1 v] },toks:=tk }:=by
 refine wpAny_pyIter_range (IsRange.new ..) (small_one h1 h2 h3 h4) ?_
 have I1:Inv X pins σ H { s with heap:=s.heap.push { cls:=.type "range", data:=.fields #[.int lo t,.int hi u,.int 1 v] },toks:=tk }:=I.kept λb o e=>yk _ e
 refine ⟨(s.heap.push { cls:=.type "range", data:=.fields #[.int lo t,.int hi u,.int 1 v] }).objs.size,[(s.heap.push { cls:=.type "range", data:=.fields #[.int lo t,.int hi u,.int 1 v] }).objs.size],_,_,H,rfl,
  I1.kept (t':=tk) λb o e=>yk _ e,L6 _ lo (hi-lo).toNat,?_,λb hb=>?_,q⟩
 ·have e1:lo+((0:Nat):Int)*1=lo:=by simp
  have e2:(((hi-lo).toNat:Nat):Int)-((0:Nat):Int)=Builtin.Range.rangeSize lo hi 1:=by rw [rangeSize_one];split<;>omega
  show IsRangeIter _ _ (lo+((0:Nat):Int)*1) ((((hi-lo).toNat:Nat):Int)-((0:Nat):Int)) 1
  rw [e1,e2]
  exact yY _ rfl
 ·have e:b=(s.heap.push { cls:=.type "range", data:=.fields #[.int lo t,.int hi u,.int 1 v] }).objs.size:=by simpa using hb
  subst e
  exact I1.fpOk (yf _) (I1.hok.fresh (yf _))
def dz (ta:TA):TI:=fun σ H R=>ta σ H λvs H1=>∃j:Int,vs=[.int j] /\ -(2 ^ 62)<=j/\j<2 ^ 62/\R (sD 0 j.toNat) H1
def L8 {a:Expr} {ta:TA} {p pos:Pos} (hg:Gl X "range") (hm:X.mg "range" = none) (ha:PA X [a] ta) (hs:starEach [a] X.env=[(false,eval a X.env)]:=by rfl):PI X tg (.Call (.Name "range" p) [a] [] pos) (dz ta):=by
 intro pins s σ H R I h
 refine Call_ (iD I hg hm boot_range (PyProof.Rows.callWith_type1 (a0 (ha pos pins s σ H _ I h) λus s1 ⟨vs,H1,I1,r1,q1⟩=>?_) hs rfl))
 obtain ⟨j,e,q1,q2,q⟩:=q1
 subst e
 cases r1 with
 |cons r rr =>
  cases rr
  obtain ⟨t,rfl⟩:=r
  exact call_range_1 (L7 I1 (by omega) (by omega) q1 q2 (by simpa using q))
def L9 (wi:TI) (g:TG) (tb:TS):TS:=λD σ H=>wi σ H λJ H1=>∃W:Nat->Nat->St->Hp->Prop,(∃m,W 0 m σ H1)/\∀i m σ H,W i m σ H ->
 (J.stop i H/\D.nx σ H)\/(J.go i H/\∃N:St->Hp->Prop,(∀aj H',N aj H'->∃m',m'<m/\W (i+1) m' aj H')/\∀x H',J.yld i H x H'->g x σ H' λaG H2=>tb { D with nx:=N,ct:=N,bk:=D.nx } aG H2)
def gL (fp:Af) (h:Heap):Ac:=fp.filterMap λb=>(h.get? b).map λo=>(b,o)
def pZ {fp:Af}{h:Heap}{b:Addr}{o:Obj}(hb:b∈fp) (e:h.get? b=some o):(b,o)∈gL fp h:=List.mem_filterMap.mpr ⟨b,hb,by rw [e];rfl⟩
def L_ {fp:Af}{h:Heap}{p:Addr×Obj}(hp:p∈gL fp h):p.1∈fp/\h.get? p.1=some p.2:=by
 obtain ⟨b,hb,e⟩:=List.mem_filterMap.mp hp
 cases q:h.get? b with
 |none=>rw [q] at e;cases e
 |some o =>
  rw [q] at e
  have e':(b,o)=p:=Option.some.inj e
  subst e'
  exact ⟨hb,q⟩
def Inv.pinned {pins:Ac}{σ:St}{H:Hp}{s:Shared}{fp:Af}(I:Inv X pins σ H s) (hf:∀b∈fp,dy X pins H b) (ho:∀b∈fp,∃o,s.heap.get? b=some o/\∀v,o.data ≠ .cell v):Inv X (pins++gL fp s.heap) σ H s :=
 I.pins_of λp hp=>(iu.mp hp).elim (λz=>I.pin p (jd _ z)) λz=>by
  obtain ⟨hb,e⟩:=L_ z
  obtain ⟨f0,f1,f2,_⟩:=hf p.1 hb
  obtain ⟨o,e',d⟩:=ho p.1 hb
  rw [e] at e';cases e'
  exact ⟨e,f0,f1,f2,d⟩
def Inv.unpinned {pins pl:Ac}{σ:St}{H:Hp}{s:Shared}(I:Inv X (pins++pl) σ H s):Inv X pins σ H s:=I.pins_of λp hp=>I.pin p (jd _ (og _ hp))
def CY {iter:Expr}{body:List Stmt}{wi:TI}{g:TG}{tb:TS}{pos:Pos}(hp:PassesOwn (model X.prog X.w) X.A X.env X.xe) (hc:X.calm=true) (hi:PI X tg iter wi) (hg:PG X tg g) (hb:cU X body tb)
  (hs:∀x,foldedSetIterable iter X.env x=pure x:=by intro _;rfl):PS X (.For tg iter body [] pos) (L9 wi g tb):=by
 intro pins s σ H D I h
 refine wpAny_For (a0 (hi pins s σ H _ I h) λv s1 h1=>a0 h1 λsy s2 h2=>?_) hs
 obtain ⟨it,fp,tn,J,H2,e,I2,T,aQ,f2,W,⟨m0,w0⟩,turn⟩:=h2
 subst e
 have stat:∀{H':Hp},(∀b∈fp,H' b=none)->∀b∈fp,dy X pins H' b:=λhn b hb=>⟨hn b hb,(f2 b hb).2⟩
 refine codeAny_forLoop_any (λn s'=>∃i aj H',Inv X pins aj H' s'/\tn i s'.heap/\(∀b∈fp,H' b=none)/\W i n aj H') ?_ m0 ⟨0,σ,H2,I2,aQ,λb hb=>(f2 b hb).1,w0⟩
 rintro n s3 ⟨i,az,H3,I3,bq,lF,w3⟩
 rcases turn i n az H3 w3 with ⟨stop,qn⟩|⟨go,N,hN,step⟩
 ·refine wpAny_passesOwn hp (a0 (T.done X rfl rfl rfl hc i pins s3 az H3 X.xe I3 (stat lF) bq stop) λr s4 ⟨hr,I4⟩=>?_)
  subst hr
  exact wpAny_execs_nil ⟨az,H3,I4,qn⟩
 ·refine wpAny_passesOwn hp (a0 (T.item X rfl rfl rfl hc i pins s3 az H3 X.xe I3 (stat lF) bq go) λr s4 ⟨u,hr,h4⟩=>?_)
  subst hr
  refine wpAny_passesOwn hp (a0 h4 λ_ s5 ⟨x,H5,I5,r5,y5,d7,p5⟩=>?_)
  have p6:=I5.pinned (stat p5) (T.obj _ _ d7)
  refine wpAny_passesOwn hp (a0 (hg _ s5 az H5 x u _ p6 r5 (step x H5 y5)) λ_ s6 ⟨aH,H6,I6,q6⟩=>?_)
  refine wpAny_passesOwn hp (a0 (hb _ s6 aH H6 _ I6 q6) λf s7 q7=>?_)
  have again:∀{ay:St} {H7:Hp},Inv X (pins++gL fp s5.heap) ay H7 s7->N ay H7->∃m,m<n/\∃i aj H',Inv X pins aj H' s7/\tn i s7.heap/\(∀b∈fp,H' b=none)/\W i m aj H':=λ{ay H7} I7 n7=>by
   obtain ⟨m',hm,w7⟩:=hN ay H7 n7
   refine ⟨m',hm,i+1,ay,H7,I7.unpinned,T.keep _ _ _ d7 λb hb o e=>(I7.pin (b,o) (jd _ (jd _ (pZ hb e)))).1,λb hb=>?_,w7⟩
   obtain ⟨o,e,d⟩:=T.obj _ _ d7 b hb
   exact (I7.pin (b,o) (jd _ (jd _ (pZ hb e)))).2.1
  cases f with
  |next=>obtain ⟨ay,H7,I7,n7⟩:=q7;exact again I7 n7
  |cont=>obtain ⟨ay,H7,I7,n7⟩:=q7;exact again I7 n7
  |brk=>obtain ⟨ay,H7,I7,q7⟩:=q7;exact ⟨ay,H7,I7.unpinned,q7⟩
  |ret v=>obtain ⟨x7,ay,H7,I7,r7,q7⟩:=q7;exact ⟨x7,ay,H7,I7.unpinned,r7,q7⟩
end
def eV {K:PySem.W.Frag}{a:Addr}{xs:List V}{g:TG}{tb:TS}{D:Ends}{σ:St}{H:Hp}(Pv:Nat->St->Hp->Prop) (h0:Pv 0 σ H) (hl:∀i σ H,i<=xs.length->Pv i σ H->bD K H a xs)
  (hs:∀i x σ H,xs[i]?=some x->Pv i σ H->g x σ H λaG H2=>tb { D with nx:=Pv (i+1),ct:=Pv (i+1),bk:=D.nx } aG H2) (hd:∀σ H,Pv xs.length σ H->D.nx σ H) :
  ∃W:Nat->Nat->St->Hp->Prop,(∃m,W 0 m σ H)/\∀i m σ H,W i m σ H ->
   ((oz K a).stop i H/\D.nx σ H)\/((oz K a).go i H/\∃N:St->Hp->Prop,(∀aj H',N aj H'->∃m',m'<m/\W (i+1) m' aj H')/\∀x H',(oz K a).yld i H x H'->g x σ H' λaG H2=>tb { D with nx:=N,ct:=N,bk:=D.nx } aG H2):=by
 refine ⟨λi m σ H=>m=xs.length-i/\i<=xs.length/\Pv i σ H,⟨xs.length,by simp,jw _,h0⟩,?_⟩
 rintro i m σ H ⟨rfl,hi,p⟩
 have q:=hl i σ H hi p
 by_cases bO:i<xs.length
 ·refine .inr ⟨⟨xs,xs[i],q,by simp [bO]⟩,Pv (i+1),λaj H' p'=>⟨xs.length-(i+1),by omega,rfl,bO,p'⟩,λx H' y=>?_⟩
  obtain ⟨e,y⟩:=y
  subst e
  exact hs i x σ _ (y xs q) p
 ·have e:i=xs.length:=by omega
  subst e
  exact .inl ⟨⟨xs,q,yf _⟩,hd σ H p⟩
abbrev R2:=V->V->Hp->VK->Prop
def bz (X:Cx) (f:Value->Value->Sem Value) (r:R2):Prop :=
 ∀(pins:Ac) (s:Shared) (σ:St) (H:Hp) (x y:V) (v u:Value) (Q:VK),Inv X pins σ H s->RelV x v->RelV y u->r x y H Q ->
  wpAny (model X.prog X.w) X.A (f v u) (EP X pins σ Q) X.xe s
def p7 (X:Cx) (f:Value->Sem Value) (r:V->Hp->VK->Prop):Prop :=
 ∀(pins:Ac) (s:Shared) (σ:St) (H:Hp) (x:V) (v:Value) (Q:VK),Inv X pins σ H s->RelV x v->r x H Q ->
  wpAny (model X.prog X.w) X.A (f v) (EP X pins σ Q) X.xe s
def cv (X:Cx) (f:Value) (r:List V->Hp->VK->Prop):Prop :=
 ∀(pins:Ac) (s:Shared) (σ:St) (H:Hp) (xs:List V) (us:Ag) (Q:VK),Inv X pins σ H s->Vals xs us->r xs H Q ->
  wpAny (model X.prog X.w) X.A (call f us) (EP X pins σ Q) X.xe s
def p9 (r:R2) (ta tb:TE):TE:=fun σ H Q=>ta σ H λx H1=>tb σ H1 λy H2=>r x y H2 Q
def Ma (r:V->Hp->VK->Prop) (ta:TE):TE:=fun σ H Q=>ta σ H λx H1=>r x H1 Q
def rI (C:Int->Int->Prop) (g:Int->Int->V):R2:=λx y H Q=>∃i j,x=.int i/\y=.int j/\C i j/\Q (g i j) H
def wO (g:Int->Int->V):R2:=λx y H Q=>∃i j,x=.int i/\y=.int j/\Q (g i j) H
def rU (g:Int->V):V->Hp->VK->Prop:=λx H Q=>∃i,x=.int i/\Q (g i) H
section
variable {X:Cx} {a b c:Expr} {ta tb tc:TE} {pos:Pos}
def p_ (ha:PE X a ta) (hb:PE X b tb) {pins:Ac}{s:Shared}{σ:St}{H:Hp}{R:V->V->Hp->Prop}(I:Inv X pins σ H s)
  (h:ta σ H λx H1=>tb σ H1 λy H2=>R x y H2) {Q:Aa} {f:Value->Value->Sem Value}
  (hf:∀v u s2 x y H2,Inv X pins σ H2 s2->RelV x v->RelV y u->R x y H2->wpAny (model X.prog X.w) X.A (f v u) Q X.xe s2) :
  wpAny (model X.prog X.w) X.A (eval a X.env) (λv am=>wpAny (model X.prog X.w) X.A (eval b X.env) (λu ag=>wpAny (model X.prog X.w) X.A (f v u) Q X.xe ag) X.xe am) X.xe s:=by
 refine a0 (ha pins s σ H _ I h) λv s1 ⟨x,H1,I1,r1,q1⟩=>?_
 refine a0 (hb pins s1 σ H1 _ I1 q1) λu s2 ⟨y,H2,I2,r2,q2⟩=>?_
 exact hf v u s2 x y H2 I2 r1 r2 q2
def Mb {op:Operator}{r:R2}(ho:bz X (binaryOp op) r) (ha:PE X a ta) (hb:PE X b tb):PE X (.BinOp a op b pos) (p9 r ta tb):=by
 intro pins s σ H Q I h
 exact wpAny_BinOp (p_ ha hb I h λv u s2 x y H2 I2 rx ry q=>ho pins s2 σ H2 x y v u Q I2 rx ry q)
def Mc {op:UnaryOp}{r:V->Hp->VK->Prop}(ho:p7 X (unaryOp op) r) (ha:PE X a ta):PE X (.UnaryOp op a pos) (Ma r ta):=by
 intro pins s σ H Q I h
 exact UnaryOp_ (a0 (ha pins s σ H _ I h) λv s1 ⟨x,H1,I1,r1,q1⟩=>ho pins s1 σ H1 x v Q I1 r1 q1)
def opI {f:Value->Value->Sem Value}{C:Int->Int->Prop}{g:Int->Int->Int}
  (rule:∀(i j:Int) (t u:Tok) (s:Shared) (Q:Aa) (E:Aa),C i j->Q (.int (g i j) s.toks) { s with toks:=s.toks+1 }->wpAny (model X.prog X.w) X.A (f (.int i t) (.int j u)) Q E s) :
  bz X f (rI C λi j=>.int (g i j)):=by
 intro pins s σ H x y v u Q I rx ry h
 obtain ⟨i,j,rfl,rfl,hc,q⟩:=h
 obtain ⟨t,rfl⟩:=rx
 obtain ⟨t',rfl⟩:=ry
 exact rule i j t t' s _ _ hc ⟨.int (g i j),H,I.tok _,⟨_,rfl⟩,q⟩
def sE {f:Value->Value->Sem Value}{g:Int->Int->Int}
  (rule:∀(i j:Int) (t u:Tok) (s:Shared) (Q:Aa) (E:Aa),Q (.int (g i j) s.toks) { s with toks:=s.toks+1 }->wpAny (model X.prog X.w) X.A (f (.int i t) (.int j u)) Q E s) :
  bz X f (wO λi j=>.int (g i j)):=by
 intro pins s σ H x y v u Q I rx ry h
 obtain ⟨i,j,rfl,rfl,q⟩:=h
 obtain ⟨t,rfl⟩:=rx
 obtain ⟨t',rfl⟩:=ry
 exact rule i j t t' s _ _ ⟨.int (g i j),H,I.tok _,⟨_,rfl⟩,q⟩
def vX {f:Value->Value->Sem Value}{g:Int->Int->Bool}
  (rule:∀(i j:Int) (t u:Tok) (s:Shared) (Q:Aa) (E:Aa),Q (.bool (g i j)) s->wpAny (model X.prog X.w) X.A (f (.int i t) (.int j u)) Q E s) :
  bz X f (wO λi j=>.bl (g i j)):=by
 intro pins s σ H x y v u Q I rx ry h
 obtain ⟨i,j,rfl,rfl,q⟩:=h
 obtain ⟨t,rfl⟩:=rx
 obtain ⟨t',rfl⟩:=ry
 exact rule i j t t' s _ _ ⟨.bl (g i j),H,I,rfl,q⟩
def vx (i j:Int):Prop:=0<=j/\j<=1000000/\i.natAbs<2 ^ 64
def nY (i j:Int):Prop:=(-(2 ^ 64)<i/\i<2 ^ 64)\/(-(2 ^ 64)<j/\j<2 ^ 64)
def nY.ok {i j:Int}(h:nY i j):IntMulOk i j:=by
 rcases h with ⟨h1,h2⟩|⟨h1,h2⟩
 ·exact .of_left (intBits_le_64 h1 h2)
 ·exact .of_right (intBits_le_64 h1 h2)
def Md (k:Nat):(0:Int)<=2 ^ k:=by
 rw [two_pow_cast]
 exact Int.natCast_nonneg _
def Me:bz X (binaryOp .Add) (wO λi j=>.int (i+j)):=sE λ_ _ _ _ _ _ _ q=>add_int q
def Mf:bz X (binaryOp .Sub) (wO λi j=>.int (i-j)):=sE λ_ _ _ _ _ _ _ q=>sub_int q
def Mh:bz X (binaryOp .Mult) (rI nY λi j=>.int (i*j)):=opI λ_ _ _ _ _ _ _ hc q=>mul_int q hc.ok
def Mj:bz X (binaryOp .Mod) (rI (λ_ j=>j≠0) λi j=>.int (i.fmod j)):=opI λ_ _ _ _ _ _ _ hc q=>mod_int' hc q
def Ml:bz X (binaryOp .Pow) (rI vx λi j=>.int (i ^ j.toNat)):=opI λ_ _ _ _ _ _ _ hc q=>pow_int_small hc.1 hc.2.1 hc.2.2 q
def Mm:bz X (binaryOp .LShift) (rI vx λi j=>.int (i*2 ^ j.toNat)):=opI λ_ _ _ _ _ _ _ hc q=>lshift_int_small hc.1 hc.2.1 hc.2.2 q
def Mn:bz X (binaryOp .RShift) (rI (λ_ j=>0<=j) λi j=>.int (i/2 ^ j.toNat)):=opI λi j _ _ _ _ _ hc q =>
 rshift_int hc (by rw [Int.fdiv_eq_ediv_of_nonneg i (Md _)];exact q)
def Mp:bz X (binaryOp .BitAnd) (wO λi j=>.int (Builtin.bitAnd i j)):=sE λ_ _ _ _ _ _ _ q=>and_int q
def Mq:bz X (binaryOp .BitOr) (wO λi j=>.int (Builtin.bitOr i j)):=sE λ_ _ _ _ _ _ _ q=>or_int q
def Mr {f:Value->Sem Value}{g:Int->Int}
  (rule:∀(i:Int) (t:Tok) (s:Shared) (Q:Aa) (E:Aa),Q (.int (g i) s.toks) { s with toks:=s.toks+1 }->wpAny (model X.prog X.w) X.A (f (.int i t)) Q E s) :
  p7 X f (rU λi=>.int (g i)):=by
 intro pins s σ H x v Q I rx h
 obtain ⟨i,rfl,q⟩:=h
 obtain ⟨t,rfl⟩:=rx
 exact rule i t s _ _ ⟨.int (g i),H,I.tok _,⟨_,rfl⟩,q⟩
def Ms:p7 X (unaryOp .USub) (rU λi=>.int (-i)):=Mr λ_ _ _ _ _ q=>neg_int q
def CZ {pins:Ac}{σ:St}{H:Hp}{s:Shared}{Q:VK}{k k':Bool}(I:Inv X pins σ H s) (q:Q (.bl k) H) (e:k=k'):EP X pins σ Q (.bool k') s:=by
 subst e
 exact ⟨.bl k,H,I,rfl,q⟩
def Mt:bz X (compareOp .Lt) (wO λi j=>.bl (decide (i<j))):=vX λ_ _ _ _ _ _ _ q=>lt_int q
def Mu:bz X (compareOp .LtE) (wO λi j=>.bl (decide (i<=j))):=vX λ_ _ _ _ _ _ _ q=>le_int q
def Mv:bz X (compareOp .Gt) (wO λi j=>.bl (decide (j<i))):=vX λ_ _ _ _ _ _ _ q=>gt_int q
def Mw:bz X (compareOp .In) (λx y H Q=>∃i j,x=.str i/\y=.str j/\Q (.bl (!(Builtin.Str.occurrences j i 0 j.length 1).isEmpty)) H):=by
 intro pins s σ H x y v u Q I rx ry h
 obtain ⟨i,j,rfl,rfl,q⟩:=h
 obtain ⟨t,rfl⟩:=rx
 obtain ⟨t',rfl⟩:=ry
 exact in_str (CZ I q rfl)
def Mx:bz X (compareOp .IsNot) (λx y H Q=>y=.non/\Q (.bl (!decide (x=.non))) H):=by
 intro pins s σ H x y v u Q I rx ry h
 obtain ⟨rfl,q⟩:=h
 cases ry
 refine isnot_none_gen (CZ I q ?_)
 cases x<;>first
  | (cases rx;rfl)
  | (obtain ⟨t,rfl⟩:=rx;rfl)
def bz.or {f:Value->Value->Sem Value}{r r':R2}(h:bz X f r) (h':bz X f r'):bz X f (λx y H Q=>r x y H Q\/r' x y H Q):=by
 intro pins s σ H x y v u Q I rx ry q
 rcases q with q|q
 ·exact h pins s σ H x y v u Q I rx ry q
 ·exact h' pins s σ H x y v u Q I rx ry q
def nZ (b:Expr) {op:CmpOp}(h:op ≠ .In:=by decide) (h2:op ≠ .NotIn:=by decide):behindInMarks op b=false:=by
 have e1:(op==CmpOp.In)=false:=by cases op<;>first|rfl|exact absurd rfl h
 have e2:(op==CmpOp.NotIn)=false:=by cases op<;>first|rfl|exact absurd rfl h2
 cases b<;>simp [behindInMarks,e1,e2]
def My {op:CmpOp}{r:R2}(ho:bz X (compareOp op) r) (ha:PE X a ta) (hb:PE X b tb) (hm:behindInMarks op b=false):PE X (.Compare a [op] [b] pos) (p9 r ta tb):=by
 intro pins s σ H Q I h
 exact wpAny_Compare1 (p_ ha hb I h λv u s2 x y H2 I2 rx ry q=>ho pins s2 σ H2 x y v u Q I2 rx ry q) hm
def C5 (t:TE):TT:=fun σ H Q=>t σ H λx H'=>∃k,x=.bl k/\Q k H'
def C6 {op:CmpOp}{r:R2}(ho:bz X (compareOp op) r) (ha:PE X a ta) (hb:PE X b tb) (hm:behindInMarks op b=false):PT X (.Compare a [op] [b] pos) (C5 (p9 r ta tb)):=by
 intro pins s σ H Q I h
 refine wpAny_isTrue_Compare1 (a0 (ha pins s σ H _ I h) λv s1 ⟨x,H1,I1,r1,q1⟩=>a0 (hb pins s1 σ H1 _ I1 q1) λu s2 ⟨y,H2,I2,r2,q2⟩ =>
  a0 (ho pins s2 σ H2 x y v u _ I2 r1 r2 q2) λc s3 ⟨z,H3,I3,r3,k,e,q3⟩=>?_) hm
 subst e
 cases r3
 exact j_ ⟨H3,I3,q3⟩
def C7 (r r':R2) (ta tb tc:TE):TE:=fun σ H Q=>ta σ H λx H1=>tb σ H1 λy H2=>r x y H2 λz H3=>∃k,z=.bl k /\
 (if k=true then tc σ H3 λw' H4=>r' y w' H4 Q else Q (.bl false) H3)
def Mz {op fh:CmpOp}{r r':R2}(ho:bz X (compareOp op) r) (ho':bz X (compareOp fh) r') (ha:PE X a ta) (hb:PE X b tb) (hc:PE X c tc)
  (hm:lastMarks [op,fh] [b,c]=false:=by with_unfolding_all rfl):PT X (.Compare a [op,fh] [b,c] pos) (C5 (C7 r r' ta tb tc)):=by
 intro pins s σ H Q I h
 refine isTrue_chain (a0 (ha pins s σ H _ I h) λv s1 ⟨x,H1,I1,r1,q1⟩=>test_link (a0 (hb pins s1 σ H1 _ I1 q1) λu s2 ⟨y,H2,I2,r2,q2⟩ =>
  a0 (ho pins s2 σ H2 x y v u _ I2 r1 r2 q2) λd s3 ⟨z,H3,I3,r3,k,e,q3⟩=>?_)) hm
 subst e
 cases r3
 refine j_ ?_
 cases k with
 |false =>
  obtain ⟨k',e',q'⟩:=q3
  cases e'
  exact ite_ff ⟨H3,I3,q'⟩
 |true =>
  refine ite_tt (test_last (a0 (hc pins s3 σ H3 _ I3 q3) λw' s4 ⟨z',H4,I4,r4,q4⟩=>a0 (ho' pins s4 σ H4 y z' u w' _ I4 r2 r4 q4) λd' s5 ⟨z2,H5,I5,r5,k2,e2,q5⟩=>?_))
  subst e2
  cases r5
  exact j_ ⟨H5,I5,q5⟩
def qc:(sizeLine:Nat)<2 ^ 63:=by rw [sizeLine_eq];decide
def MB:bz X (binaryOp .Add) (λx y H Q=>∃i j,x=.str i/\y=.str j/\i.length+j.length<=sizeLine/\Q (.str (i++j)) H):=by
 intro pins s σ H x y v u Q I rx ry h
 obtain ⟨i,j,rfl,rfl,hz,q⟩:=h
 obtain ⟨t,rfl⟩:=rx
 obtain ⟨t',rfl⟩:=ry
 exact add_str (λt' tk=>⟨.str (i++j),H,I.tok _,⟨_,rfl⟩,q⟩) hz
def lG {x:V}{us:Ag}(r:Vals [x] us):∃u,us=[u]/\RelV x u:=by
 cases r with
 |cons r1 r2=>cases r2;exact ⟨_,rfl,r1⟩
def vY {x y:V}{us:Ag}(r:Vals [x,y] us):∃u w',us=[u,w']/\RelV x u/\RelV y w':=by
 cases r with
 |cons r1 r2 =>
  cases r2 with
  |cons r3 r4=>cases r4;exact ⟨_,_,rfl,r1,r3⟩
def MC:cv X (.type "str") (λxs H Q=>∃i,xs=[.int i]/\i.natAbs.log2<1920/\Q (.str (toString i)) H):=by
 intro pins s σ H xs us Q I r h
 obtain ⟨i,rfl,hz,q⟩:=h
 obtain ⟨u,rfl,t,rfl⟩:=lG r
 exact PySem.P.str_of_int hz ⟨.str _,H,I.tok _,⟨_,rfl⟩,q⟩
def C_ (K:PySem.W.Frag) (x:V) (H:Hp) (n:Nat):Prop :=
 match x with
 |.str y=>y.length<=sizeLine/\n=y.length
 |.byt y=>y.size<=sizeLine/\n=y.size
 |.ref p=>(∃xs,bE K H p xs/\n=xs.length)\/∃xs,bD K H p xs/\n=xs.length
 |_=>False
def MD:cv X (.builtin "len") (λxs H Q=>∃x n,xs=[x]/\C_ X.K x H n/\Q (.int n) H):=by
 intro pins s σ H xs us Q I r h
 obtain ⟨x,n,rfl,e,q⟩:=h
 obtain ⟨u,rfl,rx⟩:=lG r
 have hl:=qc
 have hs:sizeLine=16777216:=sizeLine_eq
 cases x with
 |str y =>
  obtain ⟨t,rfl⟩:=rx
  obtain ⟨hy,e'⟩:y.length<=sizeLine/\n=y.length:=e
  subst e'
  exact len_str (by omega) ⟨.int _,H,I.tok _,⟨_,rfl⟩,q⟩
 |byt y =>
  obtain ⟨t,rfl⟩:=rx
  obtain ⟨hy,e'⟩:y.size<=sizeLine/\n=y.size:=e
  subst e'
  exact PySem.W.len_bytes (by omega) ⟨.int _,H,I.tok _,⟨_,rfl⟩,q⟩
 |ref p =>
  cases rx
  have e':(∃xs,bE X.K H p xs/\n=xs.length)\/∃xs,bD X.K H p xs/\n=xs.length:=e
  rcases e' with ⟨xs,hx,e'⟩|⟨xs,hx,e'⟩
  ·subst e'
   obtain ⟨its,r',pl,hz⟩:=I.list hx
   have hlen:=r'.length
   exact Calls.call_len_list pl.isList (by simp only [yV];omega) ⟨.int xs.length,H,I.tok _,⟨_,by simp only [yV];rw [hlen]⟩,q⟩
  ·subst e'
   obtain ⟨its,r',pl,hz⟩:=I.tuple hx
   have hlen:=r'.length
   exact len_tuple pl (by simp only [yV];omega) ⟨.int xs.length,H,I.tok _,⟨_,by simp only [yV];rw [hlen]⟩,q⟩
 |_=>exact (show False from e).elim
end
structure gP (h:Heap) (x dx C:Addr) (mA:Ab):Prop where
 obj:h.get? x=some (PySem.W.instObj C dx)
 ns:h.Ns1 dx mA
 ne:dx≠x
def Dc {h:Heap}{dx:Addr}{mA:Ab}(n:h.Ns1 dx mA):∃od,h.get? dx=some od/\∀name,PySem.W.lookIn name od=some (mA name):=by
 obtain ⟨o,es,ep,ho,hd,hk,_,hm⟩:=n
 refine ⟨o,ho,λname=>?_⟩
 have e:=hm name
 unfold nsFind findBy at e
 rw [<-Array.find?_toList] at e
 unfold PySem.W.lookIn
 rw [hd]
 dsimp only
 split
 ·rename_i y q
  rw [q] at e
  exact congrArg some e
 ·rename_i q
  rw [q] at e
  have a:es.toList.any (·.refKey)=false:=by
   rw [List.any_eq_false]
   intro y hy
   obtain ⟨z,t,n6⟩:=hk y (Array.mem_toList_iff.mp hy)
   simp [DictEntry.refKey,n6]
  have a':¬es.toList.any (·.refKey)=true:=by rw [a];exact Bool.false_ne_true
  rw [zK a']
  exact congrArg some e
def gP.look {h:Heap}{x dx C:Addr}{mA:Ab}(I:gP h x dx C mA):∃od,PySem.W.InstAt h x (PySem.W.instObj C dx) C (some od)/\∀name,PySem.W.lookIn name od=some (mA name) :=
 let ⟨od,ho,hl⟩:=Dc I.ns
 ⟨od,⟨I.obj,rfl,rfl,ho⟩,hl⟩
section
variable {prog:Program} {w:World} {A:Around} {E:Aa} {s:Shared} {K:PySem.W.Frag} {x dx C f:Addr} {mA:Ab} {name:Str} {v:Value}
def MF {expr:Bool}{Q:Aa}(X:K.In s.heap) (I:gP s.heap x dx C mA) (hg:PySem.W.plainGet K C name=true) (hh:PySem.W.hasDictIn K C=true)
  (ha:PySem.W.findIn K (.ref C) name=some none) (hv:mA name=some v) (sF:PySem.W.handedIn v=true) (h:Q v { s with toks:=s.toks+1 }) :
  wpAny (model prog w) A (getAttr (.ref x) name expr) Q E s:=by
 obtain ⟨od,J,hl⟩:=I.look
 exact PySem.W.get_value X J (PySem.W.plainGet_of hg).1 (PySem.W.findObj_own hh ha rfl (by rw [hl,hv])) sF h
def MH {pl:Sem Bool}{Q:Value×List Value->Shared->Prop}(X:K.In s.heap) (I:gP s.heap x dx C mA) (hg:PySem.W.plainGet K C name=true)
  (hf:PySem.W.findIn K (.ref C) name=some (some (.ref f))) (ht:PySem.W.isFn K (.ref f)=true) (hv:mA name=none) (h:Q (.ref f,[.ref x]) s) :
  wpAny (model prog w) A (getMethod (.ref x) name pl) Q E s:=by
 obtain ⟨od,J,hl⟩:=I.look
 exact PySem.W.method_fn X J (PySem.W.plainGet_of hg).1 (PySem.W.plainGet_of hg).2 hf (beq_iff_eq.mp ht) (by show (PySem.W.lookIn name od).map (·.isSome)=some false;rw [hl,hv];rfl) h
def MJ {ns:Ae}{Q:Unit->Shared->Prop}(X:K.In s.heap) (I:gP s.heap x dx C mA)
  (hs:PySem.W.findIn K (.ref C) "__setattr__" = some (some (.builtin "object.__setattr__"))) (hp:PySem.W.plainOver K C=true) (ht:PySem.W.takerIn K C name=some none) (hh:PySem.W.hasDictIn K C=true)
  (hw:PySem.Within mA ns) (hsz:ns.length<=sizeLine)
  (h:∀h',gP h' x dx C (λy=>if y=name then some v else mA y)->Heap.SameBut dx s.heap h'->Q () { s with heap:=h',toks:=s.toks+2 }) :
  wpAny (model prog w) A (setAttr (.ref x) name v) Q E s:=by
 obtain ⟨od,J,hl⟩:=I.look
 refine PySem.W.set_plain X J hs (PySem.W.osa_open (s:={ s with toks:=s.toks+1 }) (r:=none) X J hp ht λb=>?_)
 obtain ⟨cd,hc,fg⟩:=PySem.W.any_some hh
 have hx:s.heap.get? x=some ⟨.ref C,some dx,.plain,#[]⟩:=I.obj
 refine zB (yb (zB (zB (wpAny_loadPart hx (zB (PySem.W.Looks.here (s:={ s with toks:=s.toks+1 }) (PySem.W.looks_clsIn X hc) ?_))))))
 rw [fg]
 refine yb (a:=some dx) (zB (yb (zB ?_)))
 refine wpAny_nsSet1 (s:={ s with toks:=s.toks+1 }) I.ns λh' gF gG=>?_
 obtain ⟨oD,Y6,Y7,MK,ML,MM⟩:=gF.count (PySem.Within.cons name v hw)
 refine zB (wpAny_lookBehind MK (by rw [ML];exact pastItsLine_dict (jv MM (by rw [wf];omega))) ?_)
 exact yb (h _ ⟨(gG.2 _ (yO I.ne)).trans I.obj,gF,I.ne⟩ gG)
def MP {R:Result->Shared->Prop}{vs:Ag}{kw:List (Str×Value)}(X:K.In s.heap) (hm:PySem.W.makesIn K C=true)
  (hi:PySem.W.findIn K (.ref C) "__init__" = some (some (.ref f))) (hf:PySem.W.typeIn K (.ref f)=some (.type "function"))
  (h:codeAny (model prog w) (A.under (.builtin "type.__call__" ⟨.ref C::vs,kw⟩)) (.call (.ref f) ⟨.ref (s.heap.objs.size+1)::vs,kw⟩) (PySem.W.InitBack (s.heap.objs.size+1) R)
   { s with heap:=(s.heap.push PySem.W.emptyDict).push (PySem.W.instObj C s.heap.objs.size) }) :
  codeAny (model prog w) A (.call (.ref C) ⟨vs,kw⟩) R s:=by
 obtain ⟨hh,g,d,t,os⟩:=s
 exact PySem.W.make_core (PySem.W.makes_of X hm) (PySem.W.looks_findIn X hi) (λself=>PySem.W.bind_fn X self hf) (.inl rfl) h
end
def cT (f:Str) (v:V):List (Str×V)->List (Str×V)
 |[]=>[(f,v)]
 | (g,x)::r=>if g=f then (g,v)::r else (g,x)::cT f v r
theorem Dd (f g:Str) (v:V):∀fs:List (Str×V),(cT f v fs).lookup g=if g=f then some v else fs.lookup g
 |[]=>by
  show List.lookup g [(f,v)]=_
  by_cases h:g=f
  ·have hb:(g==f)=true:=beq_iff_eq.mpr h
   simp only [List.lookup,hb,zx h]
  ·have hb:(g==f)=false:=beq_eq_false_iff_ne.mpr h
   simp only [List.lookup,hb,zK h]
 | (k,x)::r=>by
  have ih:=Dd f g v r
  rw [show cT f v ((k,x)::r)=(if k=f then (k,v)::r else (k,x)::cT f v r) from rfl]
  by_cases hk:k=f
  ·rw [zx hk]
   by_cases h:g=k
   ·have hb:(g==k)=true:=beq_iff_eq.mpr h
    simp only [List.lookup,hb,zx (h.trans hk)]
   ·have hb:(g==k)=false:=beq_eq_false_iff_ne.mpr h
    simp only [List.lookup,hb,zK (λe:g=f=>h (e.trans hk.symm))]
  ·rw [zK hk]
   by_cases h:g=k
   ·have hb:(g==k)=true:=beq_iff_eq.mpr h
    simp only [List.lookup,hb,zK (λe:g=f=>hk (h.symm.trans e))]
   ·have hb:(g==k)=false:=beq_eq_false_iff_ne.mpr h
    simp only [List.lookup,hb]
    exact ih
theorem vZ (f:Str) (v:V):∀fs:List (Str×V),f∈(cT f v fs).map (·.1)/\∀g,g∈fs.map (·.1)->g∈(cT f v fs).map (·.1)
 |[]=>⟨by simp [cT],λg h=>by simp at h⟩
 | (k,x)::r=>by
  obtain ⟨i1,i2⟩:=vZ f v r
  rw [show cT f v ((k,x)::r)=(if k=f then (k,v)::r else (k,x)::cT f v r) from rfl]
  by_cases hk:k=f
  ·rw [zx hk]
   subst hk
   exact ⟨by simp,λg h=>by simpa using h⟩
  ·rw [zK hk]
   refine ⟨?_,λg h=>?_⟩
   ·rw [yG]
    exact jH _ i1
   ·rw [yG] at h ⊢
    rcases yI.mp h with e|e
    ·exact yI.mpr (.inl e)
    ·exact jH _ (i2 g e)
theorem De (f:Str) (v:V):∀fs:List (Str×V),(cT f v fs).length<=fs.length+1
 |[]=>by simp [cT]
 | (k,x)::r=>by
  have ih:=De f v r
  rw [show cT f v ((k,x)::r)=(if k=f then (k,v)::r else (k,x)::cT f v r) from rfl]
  by_cases hk:k=f
  ·rw [zx hk,wf,wf];omega
  ·rw [zK hk,wf,wf];omega
def cZ.some_of {v:V}{o:Option Value}(r:cZ (some v) o):∃u,o=some u/\RelV v u:=by
 cases o with
 |none=>exact (show False from r).elim
 |some u=>exact ⟨u,rfl,r⟩
def cZ.none_of {o:Option Value}(r:cZ none o):o=none:=by
 cases o with
 |none=>rfl
 |some u=>exact (show False from r).elim
def Df {v:V}{u:Value}(r:RelV v u):PySem.W.handedIn u=true:=by
 cases v with
 |non=>cases (show u=Value.none from r);rfl
 |bl b=>cases (show u=Value.bool b from r);rfl
 |int i=>obtain ⟨t,e⟩:=(show ∃t,u=Value.int i t from r);cases e;rfl
 |str x=>obtain ⟨t,e⟩:=(show ∃t,u=Value.str x t from r);cases e;rfl
 |byt b=>obtain ⟨t,e⟩:=(show ∃t,u=Value.bytes b t from r);cases e;rfl
 |flt b=>obtain ⟨t,e⟩:=(show ∃t,u=Value.float b t from r);cases e;rfl
 |ref a=>cases (show u=Value.ref a from r);rfl
 |ty n=>cases (show u=Value.type n from r);rfl
section
variable {P:Program} {w:World} {H:Hp} {h:Heap} {a C dx:Addr} {fs:List (Str×V)}
def sG (hok:cK P w H h) (e:H a=some (.ins C dx fs)):∃mA,gP h a dx C mA/\(∀f,cZ (fs.lookup f) (mA f))/\PySem.Within mA (fs.map (·.1))/\fs.length<=1000/\H dx=some (.own a):=by
 obtain ⟨d,z,ne,ob,mA,n,r,q⟩:=(show bo P w H h a (.ins C dx fs) from hok a _ e)
 exact ⟨mA,⟨ob,n,ne⟩,r,q,z,d⟩
end
structure fK (K:PySem.W.Frag) (C:Addr):Prop where
 pg:PySem.W.plainGet K C Str.empty=true
 hd:PySem.W.hasDictIn K C=true
 po:PySem.W.plainOver K C=true
 sa:PySem.W.findIn K (.ref C) "__setattr__" = some (some (.builtin "object.__setattr__"))
def fK.get {K:PySem.W.Frag}{C:Addr}(c:fK K C) (f:Str):PySem.W.plainGet K C f=true:=c.pg
def dO (K:PySem.W.Frag) (C:Addr) (f:Str):Prop:=PySem.W.findIn K (.ref C) f=some none
def dO.taker {K:PySem.W.Frag}{C:Addr}{f:Str}(n:dO K C f):PySem.W.takerIn K C f=some none:=by
 unfold PySem.W.takerIn
 rw [show PySem.W.findIn K (.ref C) f=some none from n]
 rfl
structure Y8 (K:PySem.W.Frag) (C:Addr) (f:Str) (v:V) (u:Value):Prop where
 at_:PySem.W.findIn K (.ref C) f=some (some u)
 rel:RelV v u
 get:PySem.W.specialIn K u "__get__" = some none
 cp:PySem.W.copiedNames.contains f=false
structure Meth (K:PySem.W.Frag) (C:Addr) (m:Str) (f:Addr):Prop where
 at_:PySem.W.findIn K (.ref C) m=some (some (.ref f))
 fn:PySem.W.isFn K (.ref f)=true
 kp:PySem.W.keepIn K (.ref f)=true
section
variable {X:Cx} {pins:Ac} {σ:St} {H:Hp} {s:Shared} {a C dx:Addr} {fs:List (Str×V)} {f:Str} {v:V} {A:Around} {E:Aa}
def MQ {b:Bool}{Q:Aa}(I:Inv X pins σ H s) (e:H a=some (.ins C dx fs)) (c:fK X.K C) (n:dO X.K C f) (l:fs.lookup f=some v)
  (h:∀u s',Inv X pins σ H s'->RelV v u->Q u s'):wpAny (model X.prog X.w) A (getAttr (.ref a) f b) Q E s:=by
 obtain ⟨mA,O,r,_,_,_⟩:=sG I.hok e
 obtain ⟨u,hu,ru⟩:=cZ.some_of (v:=v) (o:=mA f) (by rw [<-l];exact r f)
 exact MF I.kIn O (c.get f) c.hd n hu (Df ru) (h u _ (I.tok _) ru)
def Dg {m:Str}{g:Addr}{pl:Sem Bool}{Q:Value×List Value->Shared->Prop}(I:Inv X pins σ H s) (e:H a=some (.ins C dx fs)) (c:fK X.K C) (k:Meth X.K C m g) (l:fs.lookup m=none)
  (h:Q (.ref g,[.ref a]) s):wpAny (model X.prog X.w) A (getMethod (.ref a) m pl) Q E s:=by
 obtain ⟨mA,O,r,_,_,_⟩:=sG I.hok e
 have hn:mA m=none:=cZ.none_of (by rw [<-l];exact r m)
 exact MH I.kIn O (c.get m) k.at_ k.fn hn h
def MR {y:V}{u:Value}{Q:Unit->Shared->Prop}(I:Inv X pins σ H s) (e:H a=some (.ins C dx fs)) (c:fK X.K C) (n:dO X.K C f) (hl:fs.length<1000) (ry:RelV y u)
  (h:∀s',Inv X pins σ (upd H a (.ins C dx (cT f y fs))) s'->Q () s'):wpAny (model X.prog X.w) A (setAttr (.ref a) f u) Q E s:=by
 obtain ⟨mA,O,r,wi,_,ho⟩:=sG I.hok e
 have hz:(fs.map (·.1)).length<=sizeLine:=by rw [jx,sizeLine_eq];omega
 refine MJ I.kIn O c.sa c.po n.taker c.hd wi hz λh' O' sb=>h _ ?_
 have hd:∃o,h'.get? dx=some o:=let ⟨o,_,_,e',_⟩:=O'.ns;⟨o,e'⟩
 refine I.write (x:=a) (e:=dx) (by rw [e];exact True.intro) (.inr ho) (λb q hb z=>(sb.2 b hb).trans z) hd ?_
 refine ⟨by rw [yo O.ne];exact ho,?_,O.ne,O'.obj,_,O'.ns,λg=>?_,λg hg=>?_⟩
 ·have:=De f y fs;omega
 ·show cZ ((cT f y fs).lookup g) (if g=f then some u else mA g)
  rw [Dd]
  by_cases q:g=f
  ·rw [zx q,zx q];exact ry
  ·rw [zK q,zK q];exact r g
 ·by_cases q:g=f
  ·rw [q];exact (vZ f y fs).1
  ·refine (vZ f y fs).2 g (wi g λz=>hg ?_)
   show (if g=f then some u else mA g)=none
   rw [zK q];exact z
def Inv.made (I:Inv X pins σ H s):Inv X pins σ (upd (upd H s.heap.objs.size (.own (s.heap.objs.size+1))) (s.heap.objs.size+1) (.ins C s.heap.objs.size []))
  { s with heap:=(s.heap.push PySem.W.emptyDict).push (PySem.W.instObj C s.heap.objs.size) }:=by
 have e1:(s.heap.push PySem.W.emptyDict).get? s.heap.objs.size=some PySem.W.emptyDict:=yY s.heap rfl
 have e2:((s.heap.push PySem.W.emptyDict).push (PySem.W.instObj C s.heap.objs.size)).get? (s.heap.objs.size+1)=some (PySem.W.instObj C s.heap.objs.size):=by
  have:=yY (s.heap.push PySem.W.emptyDict) (o:=PySem.W.instObj C s.heap.objs.size) rfl
  rwa [Heap.size_push] at this
 have e3:(s.heap.push PySem.W.emptyDict).Ns s.heap.objs.size (λ_=>none):=⟨PySem.W.emptyDict,#[],_,e1,rfl,(λe he=>absurd he (by simp)),λ_=>rfl⟩
 have I1:=I.laid (a:=s.heap.objs.size) (o:=.own (s.heap.objs.size+1)) (h':=s.heap.push PySem.W.emptyDict) (t':=s.toks) (λb u q=>yk _ q) (yf _) ⟨_,e1⟩
 refine I1.laid (a:=s.heap.objs.size+1) (o:=.ins C s.heap.objs.size []) (t':=s.toks) (λb u q=>yk _ q) (Nat.le_of_eq (Heap.size_push _ _)) ?_
 have ne:s.heap.objs.size≠s.heap.objs.size+1:=yN (wg _)
 refine ⟨by rw [yo ne,yZ],jw _,ne,e2,λ_=>none,(Heap.Ns1.of_empty e3).at λo q=>yk _ q,λ_=>True.intro,λy hy=>absurd rfl hy⟩
def MU {prog:Program}{w:World}{env:Env}{e:Expr}{f:Str}{pos:Pos}{s:Shared}{Q:Aa}(hb:attributeBase e f env (eval e env)=eval e env)
  (h:wpAny (model prog w) A (eval e env) (λo am=>wpAny (model prog w) A (getAttr o f true) Q E am) E s):wpAny (model prog w) A (eval (.Attribute e f pos) env) Q E s :=
 Attribute_any_ h (by rw [arm_eval_Attribute,hb])
end
def sFld (K:PySem.W.Frag) (ta tv:TE) (f:Str):TS:=λD σ H=>tv σ H λy H1=>ta σ H1 λx H2=>∃a C dx fs,x=.ref a/\H2 a=some (.ins C dx fs)/\fK K C/\dO K C f/\fs.length<1000 /\
 D.nx σ (upd H2 a (.ins C dx (cT f y fs)))
section
variable {X:Cx} {o value:Expr} {f:Str} {pos pos':Pos} {ta tv:TE}
def MV (ha:PE X o ta) (hv:PE X value tv) (hs:swapsWith value (some (.Attribute o f pos')) pos.line X.env=pure false):PS X (.Assign [.Attribute o f pos'] value pos) (sFld X.K ta tv f):=by
 intro pins s σ H D I h
 refine plainObj_wpAny_Assign_Attribute (a0 (hv pins s σ H _ I h) λu s1 ⟨y,H1,I1,ry,q⟩=>a0 (ha pins s1 σ H1 _ I1 q) λov s2 gg=>?_) hs
 obtain ⟨x,H2,I2,rx,a,C,dx,fs,ex,ea,c,n,l,q2⟩:=gg
 subst ex
 obtain rfl:ov=Value.ref a:=rx
 exact MR I2 ea c n l ry λs3 I3=>⟨σ,_,I3,q2⟩
end
section
variable {X:Cx} {pins:Ac} {σ:St} {H:Hp} {s:Shared} {A:Around} {E:Aa} {Q:Aa} {c:Value} {b:Bool}
inductive dA (K:PySem.W.Frag) (H:Hp):V->Value->Prop where
 |non:dA K H .non (.type "NoneType")
 |bl (x:Bool):dA K H (.bl x) (.type "bool")
 |int (i:Int):dA K H (.int i) (.type "int")
 |str (x:Str):dA K H (.str x) (.type "str")
 |flt (x:UInt64):dA K H (.flt x) (.type "float")
 |lst {a:Addr} {xs:List V} (e:H a=some (.lst xs)):dA K H (.ref a) (.type "list")
 |frz {a:Addr} {o:Obj} {xs:List V} (e:H a=some (.frz o (.lst xs))):dA K H (.ref a) (.type "list")
 |tup {a:Addr} {xs:List V} (e:H a=some (.tup xs)):dA K H (.ref a) (.type "tuple")
 |dK {a:Addr} {kvs:List (Key×V)} (e:H a=some (.dK kvs)):dA K H (.ref a) (.type "dict")
 |dT {a:Addr} {kvs:List (List Key×V)} (e:H a=some (.dT kvs)):dA K H (.ref a) (.type "dict")
 | ins {a C dx:Addr} {fs:List (Str×V)} (e:H a=some (.ins C dx fs)) (cl:fK K C) (ha:PySem.W.findIn K (.ref C) "__class__" = some (some (.builtin "object.__class__")))
   (hn:PySem.W.specialIn K (.builtin "object.__class__") "__get__" = some (some (.builtin "getset_descriptor.__get__"))) (Di:PySem.W.takesIn K (.builtin "object.__class__")=some true)
   (hm:PySem.W.mroIn K C (.type "object")=some true):dA K H (.ref a) (.ref C)
def Dj {x:V}{u t:Value}(I:Inv X pins σ H s) (rx:RelV x u) (ty:dA X.K H x t) (e:PySem.W.kitOne X.K t c=some b) (h:∀tk,Q (.bool b) { s with toks:=tk }) :
  wpAny (model X.prog X.w) A (call (.builtin "isinstance") [u,c]) Q E s:=by
 cases ty with
 |non=>cases (show u=Value.none from rx);exact PySem.W.kia_one PySem.W.kitx_none I.kIn True.intro e (λz=>nomatch z) h
 |bl y=>cases (show u=Value.bool y from rx);exact PySem.W.kia_one PySem.W.kitx_bool I.kIn True.intro e (λz=>nomatch z) h
 |int i=>obtain ⟨t,q⟩:=(show ∃t,u=Value.int i t from rx);cases q;exact PySem.W.kia_one PySem.W.kitx_int I.kIn True.intro e (λz=>nomatch z) h
 |str y=>obtain ⟨t,q⟩:=(show ∃t,u=Value.str y t from rx);cases q;exact PySem.W.kia_one PySem.W.kitx_str I.kIn True.intro e (λz=>nomatch z) h
 |flt y=>obtain ⟨t,q⟩:=(show ∃t,u=Value.float y t from rx);cases q;exact PySem.W.kia_one PySem.W.kitx_float I.kIn True.intro e (λz=>nomatch z) h
 |@lst a xs ea =>
  cases (show u=Value.ref a from rx)
  obtain ⟨_,_,n,_,h1⟩:=(show bo X.prog X.w H s.heap a (.lst xs) from I.hok a _ ea)
  exact PySem.W.kia_one PySem.W.kitx_list I.kIn ⟨_,h1,rfl⟩ e (λz=>nomatch z) h
 |@frz a ob xs ea =>
  cases (show u=Value.ref a from rx)
  obtain ⟨_,_,_,n,_,h1⟩:=(show bo X.prog X.w H s.heap a (.frz ob (.lst xs)) from I.hok a _ ea)
  exact PySem.W.kia_one PySem.W.kitx_list I.kIn ⟨_,h1,rfl⟩ e (λz=>nomatch z) h
 |@tup a xs ea =>
  cases (show u=Value.ref a from rx)
  obtain ⟨_,_,_,p⟩:=(show bo X.prog X.w H s.heap a (.tup xs) from I.hok a _ ea)
  obtain ⟨o,h1,h2,_⟩:=p
  exact PySem.W.kia_one PySem.W.kitx_tuple I.kIn ⟨o,h1,h2⟩ e (λz=>nomatch z) h
 |@dK a kvs ea =>
  cases (show u=Value.ref a from rx)
  obtain ⟨_,_,vs,_,p⟩:=(show bo X.prog X.w H s.heap a (.dK kvs) from I.hok a _ ea)
  obtain ⟨o,es,ep,h1,h2,_⟩:=p
  exact PySem.W.kia_one PySem.W.kitx_dict I.kIn ⟨o,h1,h2.1⟩ e (λz=>nomatch z) h
 |@dT a kvs ea =>
  cases (show u=Value.ref a from rx)
  obtain ⟨_,_,xs,_,o,es,ep,h1,h2,_⟩:=(show bo X.prog X.w H s.heap a (.dT kvs) from I.hok a _ ea)
  exact PySem.W.kia_one PySem.W.kitx_dict I.kIn ⟨o,h1,h2.1⟩ e (λz=>nomatch z) h
 |@ins a C dx fs ea cl ha hn Di hm =>
  cases (show u=Value.ref a from rx)
  obtain ⟨mA,O,_⟩:=sG I.hok ea
  obtain ⟨od,J,_⟩:=O.look
  exact PySem.W.kia_one (PySem.W.kitx_own (cl.get _) cl.hd ha hn Di hm) I.kIn J e (λz=>nomatch z) h
end
structure br (k:Nat) (A:Around):Prop where
 hd:A.handled=none
 dp:A.depth+3*k+5<recursionLimit
 un:A.units+16*k+200<cLine
def br.mono {j k:Nat}{A:Around}(r:br k A) (h:j<=k):br j A:=⟨r.hd,by have:=r.dp;omega,by have:=r.un;omega⟩
theorem br.deeper {k:Nat}{A:Around}(r:br (k+1) A) (env:Env):br k (A.deeper env) :=
 ⟨r.hd,by have:=r.dp;show A.depth+1+3*k+5<_;omega,by have:=r.un;show A.units+3+16*k+200<_;omega⟩
theorem br.in1 {k:Nat}{A:Around}(r:br (k+1) A):br k A.in1 :=
 ⟨r.hd,by have:=r.dp;show A.depth+3*k+5<_;omega,by have:=r.un;show A.units+1+16*k+200<_;omega⟩
def MX {A:Around} {C:Addr} {us:Ag} {kw:List (Str×Value)}:(A.under (.builtin "type.__call__" ⟨.ref C::us,kw⟩)).depth=A.depth+1:=by
 first|rfl|simp [Around.under,Code.weight,Code.isCreation,Code.isGuard,Code.isCaller,Code.frames,Code.isFrame,guardIds]
def MY {A:Around} {C:Addr} {us:Ag} {kw:List (Str×Value)}:(A.under (.builtin "type.__call__" ⟨.ref C::us,kw⟩)).units=A.units+1:=by
 first|rfl|simp [Around.under,Code.cUnits,Code.frames,Code.isFrame]
def br.make {k:Nat} {A:Around} (r:br (k+1) A) (C:Addr) (us:Ag) (kw:List (Str×Value)):br k (A.under (.builtin "type.__call__" ⟨.ref C::us,kw⟩)) :=
 ⟨r.hd,by have:=r.dp;rw [MX];omega,by have:=r.un;rw [MY];omega⟩
theorem br.depth {k:Nat}{A:Around}(r:br k A):A.depth<recursionLimit:=by have:=r.dp;omega
theorem br.units {k:Nat}{A:Around}(r:br k A):A.units+64<cLine:=by have:=r.un;omega
def Dk:TA:=λ_ H Q=>Q [] H
def MZ (ta:TE) (tr:TA):TA:=fun σ H Q=>ta σ H λx H1=>tr σ H1 λxs H2=>Q (x::xs) H2
section
variable {X:Cx} {e:Expr} {es:List Expr} {te:TE} {t:TA} {pos:Pos}
def qd:PA X [] Dk:=λ_ _ _ _ H Q I h=>Calls.spliced_nil ⟨[],H,I,.nil,h⟩
def qe (ha:PE X e te) (hr:PA X es t) (hs:starEach (e::es) X.env=(false,eval e X.env)::starEach es X.env:=by rfl):PA X (e::es) (MZ te t):=by
 intro pos pins s σ H Q I h
 rw [hs]
 show wpAny _ _ (spliced ((false,eval e X.env)::backTo pos (starEach es X.env))) _ _ s
 refine Calls.spliced_cons (a0 (ha pins s σ H _ I h) λu s1 ⟨x,H1,I1,r1,q1⟩=>?_)
 exact a0 (hr pos pins s1 σ H1 _ I1 q1) λus s2 ⟨xs,H2,I2,r2,q2⟩=>⟨x::xs,H2,I2,.cons r1 r2,q2⟩
def M_ (t:TA):TE:=fun σ H Q=>t σ H λxs H1=>xs.length<=sizeLine/\∀p,H1 p=none->Q (.ref p) (upd H1 p (.tup xs))
def Na (t:TA):TE:=fun σ H Q=>t σ H λxs H1=>xs.length<=sizeLine/\∀p,H1 p=none->Q (.ref p) (upd H1 p (.lst xs))
def Nb {x1}(h:PA X es t):PE X (.Tuple es x1 pos) (M_ t):=by
 intro pins s σ H Q I hq
 refine wpAny_Tuple_spliced (a0 (h pos pins s σ H _ I hq) λus s1 ⟨xs,H1,I1,r,z,q⟩=>⟨by rw [<-r.length];exact z,?_⟩)
 have hf:H1 s1.heap.objs.size=none:=I1.hok.fresh (yf _)
 refine ⟨.ref s1.heap.objs.size,upd H1 s1.heap.objs.size (.tup xs),I1.laid (t':=s1.toks) (λb u e=>yk _ e) (yf _) ?_,rfl,q _ hf⟩
 exact ⟨z,us,r,⟨_,yY _ rfl,rfl,_,rfl⟩⟩
def Nc (h:PA X es t):PE X (.List es pos) (Na t):=by
 intro pins s σ H Q I hq
 refine wpAny_List_spliced (a0 (h pos pins s σ H _ I hq) λus s1 ⟨xs,H1,I1,r,z,q⟩=>⟨by rw [<-r.length];exact z,?_⟩)
 have hf:H1 s1.heap.objs.size=none:=I1.hok.fresh (yf _)
 refine ⟨.ref s1.heap.objs.size,upd H1 s1.heap.objs.size (.lst xs),I1.laid (t':=s1.toks) (λb u e=>yk _ e) (yf _) ?_,rfl,q _ hf⟩
 exact ⟨z,us,0,r,yY _ rfl⟩
end
abbrev Sp:=List V->Hp->VK->XK->Prop
abbrev eG:=List Env->Hp->Shared->XK->Aa
structure fC (P:Program) (w:World) (K:PySem.W.Frag) (mg:Ab) (base:Heap) (A:Around) (outer:List Env) (s:Shared) (H:Hp):Prop where
 frames:A.frames=some outer
 mod:Mod K mg base
 bs:∀b o,base.get? b=some o->s.heap.get? b=some o/\H b=none
 bsz:base.objs.size<=s.heap.objs.size
 funs:s.heap.FunFrames base outer
 frf:∀b∈dw outer,H b=none
 hok:cK P w H s.heap
 bare:AllBare s.gens
def CE (outer:List Env) (P:Program) (w:World) (H:Hp) (s:Shared) (Q:VK) (u:Value) (s':Shared):Prop :=
 ∃v H',s'.os=s.os/\AllBare s'.gens/\Un (dw outer) [] H H' s.heap s'.heap/\cK P w H' s'.heap/\RelV v u/\Q v H'
def CR (CX:eG) (outer:List Env) (P:Program) (w:World) (H:Hp) (s:Shared) (Q:VK) (E:XK) (r:Result) (s':Shared):Prop :=
 match r with
 |.ok (.ret u)=>CE outer P w H s Q u s'
 |.ok _=>False
 |.error e=>CX outer H s E e s'
structure bU (P:Program) (w:World) (K:PySem.W.Frag) (mg:Ab) (base:Heap) (CX:eG) (k:Nat) (f:Addr) (fd:FuncData) (ps:Ae) (sp:Sp):Prop where
 len:∀vs H Q E,sp vs H Q E->vs.length=ps.length
 run:∀(A:Around) (outer:List Env) (s:Shared) (H:Hp) (args:Args) (us:Ag) (vs:List V) (Q:VK) (E:XK),br k A->fC P w K mg base A outer s H->BindsTo s fd args (ps.zip us)->Vals vs us->sp vs H Q E ->
  codeAny (model P w) A (.call (.ref f) args) (CR CX outer P w H s Q E) s
theorem bU.mono {P:Program}{w:World}{K:PySem.W.Frag}{mg:Ab}{base:Heap}{CX:eG}{j k:Nat}{f:Addr}{fd:FuncData}{ps:Ae}{sp:Sp}(F:bU P w K mg base CX j f fd ps sp) (h:j<=k) :
  bU P w K mg base CX k f fd ps sp:=⟨F.len,λA outer s H args us vs Q E hr=>F.run A outer s H args us vs Q E (hr.mono h)⟩
def bU.imp {P:Program}{w:World}{K:PySem.W.Frag}{mg:Ab}{base:Heap}{CX:eG}{k:Nat}{f:Addr}{fd:FuncData}{ps:Ae}{sp Dl:Sp}(F:bU P w K mg base CX k f fd ps sp)
  (h:∀vs H Q E,Dl vs H Q E->sp vs H Q E):bU P w K mg base CX k f fd ps Dl :=
 ⟨λvs H Q E q=>F.len vs H Q E (h _ _ _ _ q),λA outer s H args us vs Q E hr he hb hv hs=>F.run A outer s H args us vs Q E hr he hb hv (h _ _ _ _ hs)⟩
def fC.make {P:Program}{w:World}{K:PySem.W.Frag}{mg:Ab}{base:Heap}{A:Around}{outer:List Env}{s:Shared}{H:Hp}(e:fC P w K mg base A outer s H) (C:Addr) (us:Ag) (kw:List (Str×Value)) :
  fC P w K mg base (A.under (.builtin "type.__call__" ⟨.ref C::us,kw⟩)) outer s H:=⟨by first|exact e.frames|(simpa [Around.under,Code.envs,Code.isFrame,pushEnvs] using e.frames),e.mod,e.bs,e.bsz,e.funs,e.frf,e.hok,e.bare⟩
theorem fC.in1 {P:Program}{w:World}{K:PySem.W.Frag}{mg:Ab}{base:Heap}{A:Around}{outer:List Env}{s:Shared}{H:Hp}(e:fC P w K mg base A outer s H) :
  fC P w K mg base A.in1 outer s H:=⟨e.frames,e.mod,e.bs,e.bsz,e.funs,e.frf,e.hok,e.bare⟩
section
variable {X:Cx} {pins:Ac} {σ:St} {H:Hp} {s s':Shared}
def Inv.env0 (I:Inv X pins σ H s):fC X.prog X.w X.K X.mg X.base X.A X.stack s H :=
 ⟨I.ok.frames,I.ok.mod,I.bs,jv I.ok.bsz I.sz,I.stack,I.stkFree,I.hok,I.bare⟩
def Inv.after {Q:VK}{u:Value}(I:Inv X pins σ H s) (h:CE X.stack X.prog X.w H s Q u s'):EP X pins σ Q u s':=by
 obtain ⟨v,H',os,bare,un,hok,r,q⟩:=h
 obtain ⟨hh,g,d,t,Nd⟩:=s'
 obtain rfl:Nd=s.os:=os
 exact ⟨v,H',I.call (h':=hh) (g':=g) (d':=d) (t':=t) (ch:=[]) un hok bare (λb z=>absurd z (by simp)),r,q⟩
end
def Nf (sp:Sp) (fj:List V) (E:XK) (t:TA):TE:=fun σ H Q=>t σ H λvs H1=>sp (vs++fj) H1 Q E
def Ng (C:Addr) (sp:Sp) (fj:List V) (E:XK) (t:TA):TE:=fun σ H Q=>t σ H λvs H1=>∀x dx,H1 x=none->H1 dx=none->dx≠x ->
 sp (.ref x::(vs++fj)) (upd (upd H1 dx (.own x)) x (.ins C dx [])) (λv H2=>v=.non/\Q (.ref x) H2) E
def Binds (K:PySem.W.Frag) (fd:FuncData) (ps:Ae) (ds:Ag):Prop :=
 ∀(s:Shared) (us:Ag),K.In s.heap->(us++ds).length=ps.length->BindsTo s fd ⟨us,[]⟩ (ps.zip (us++ds))
def Binds.all {K:PySem.W.Frag}{fd:FuncData}{ps:Ae}(h:∀us:Ag,us.length=ps.length->bindArgs fd ⟨us,[]⟩=pure (ps.zip us)):Binds K fd ps []:=λs us _ hl=>by
 rw [List.append_nil] at hl ⊢
 exact .of_eq (h us hl)
def Passes (CX:eG) (X:Cx) (E:XK):Prop:=∀(pins:Ac) (σ:St) (H:Hp) (s:Shared) (e:Value) (s':Shared),Inv X pins σ H s->CX X.stack H s E e s'->X.xe e s'
section
variable {X:Cx} {CX:eG} {k:Nat} {f C:Addr} {fd:FuncData} {ps:Ae} {sp:Sp} {fj:List V} {ds:Ag} {E:XK} {x:Str} {p pos:Pos} {e:Expr} {es:List Expr} {t:TA}
def sH {pins:Ac}{σ:St}{H:Hp}{s:Shared}{Q:VK}{us:Ag}{vs:List V}(F:bU X.prog X.w X.K X.mg X.base CX k f fd ps sp) (hr:br k X.A) (hb:Binds X.K fd ps ds) (hd:Vals fj ds) (hx:Passes CX X E)
  (I:Inv X pins σ H s) (r:Vals vs us) (h:sp (vs++fj) H Q E):wpAny (model X.prog X.w) X.A (call (.ref f) us) (EP X pins σ Q) X.xe s:=by
 have r2:Vals (vs++fj) (us++ds):=r.append hd
 have hl:(us++ds).length=ps.length:=by rw [<-r2.length];exact F.len _ _ _ _ h
 refine wpAny_call (codeAny_mono (F.run X.A X.stack s H ⟨us,[]⟩ (us++ds) (vs++fj) Q E hr I.env0 (hb s us I.kIn hl) r2 h) λr s' hq=>?_)
 cases r with
 |error e=>exact hx pins σ H s e s' I hq
 |ok fl =>
  cases fl with
  |ret u=>exact I.after hq
  |next=>exact hq.elim
  |brk=>exact hq.elim
  |cont=>exact hq.elim
def Nh (F:bU X.prog X.w X.K X.mg X.base CX k f fd ps sp) (hr:br k X.A) (hg:Gl X x) (hm:X.mg x=some (.ref f)) (hk:PySem.W.keepIn X.K (.ref f)=true) (hb:Binds X.K fd ps ds) (hd:Vals fj ds) (hx:Passes CX X E)
  (ha:PA X (e::es) t) (eX:(x==("__debug__" : Str))=false:=by decide) (he:starEach (e::es) X.env=(false,eval e X.env)::starEach es X.env:=by rfl) (bX:(backTo pos (starEach es X.env)).any (·.1)=false:=by rfl) :
  PE X (.Call (.Name x p) (e::es) [] pos) (Nf sp fj E t):=by
 intro pins s σ H Q I h
 refine wpAny_Call_Name_kw (vQ I hg hm ?_ eX)
 refine PySem.W.callWith_K (h₀:=X.base) I.ok.mod.kin hk (a0 (ha pos pins s σ H _ I h) λus s1 ⟨vs,H1,I1,r,q⟩=>⟨I1.kIn,?_⟩) he bX
 exact sH F hr hb hd hx I1 r q
structure Mk (K:PySem.W.Frag) (C f:Addr):Prop where
 makes:PySem.W.makesIn K C=true
 init:PySem.W.findIn K (.ref C) "__init__" = some (some (.ref f))
 fn:PySem.W.isFn K (.ref f)=true
 kp:PySem.W.keepIn K (.ref C)=true
def Ni {pins:Ac}{σ:St}{H:Hp}{s:Shared}{Q:VK}{us:Ag}{vs:List V}(M:Mk X.K C f) (F:bU X.prog X.w X.K X.mg X.base CX k f fd ps sp) (hr:br (k+1) X.A) (hb:Binds X.K fd ps ds) (hd:Vals fj ds)
  (hx:Passes CX X E) (I:Inv X pins σ H s) (r:Vals vs us)
  (h:∀x dx,H x=none->H dx=none->dx≠x->sp (.ref x::(vs++fj)) (upd (upd H dx (.own x)) x (.ins C dx [])) (λv H2=>v=.non/\Q (.ref x) H2) E) :
  wpAny (model X.prog X.w) X.A (call (.ref C) us) (EP X pins σ Q) X.xe s:=by
 have hq:=h (s.heap.objs.size+1) s.heap.objs.size (I.hok.fresh (Nat.le_succ _)) (I.hok.fresh (yf _)) (yN (wg _))
 have I2:=Inv.made (C:=C) I
 have r2:Vals (V.ref (s.heap.objs.size+1)::(vs++fj)) (Value.ref (s.heap.objs.size+1)::(us++ds)):=.cons rfl (r.append hd)
 have hl:(Value.ref (s.heap.objs.size+1)::us++ds).length=ps.length:=by
  have e:=r2.length
  rw [F.len _ _ _ _ hq] at e
  exact e.symm
 refine wpAny_call (MP (f:=f) I.kIn M.makes M.init (beq_iff_eq.mp M.fn) (codeAny_mono (F.run _ X.stack _ _ ⟨Value.ref (s.heap.objs.size+1)::us,[]⟩ (Value.ref (s.heap.objs.size+1)::(us++ds)) _ _ E (hr.make C us [])
  (I2.env0.make C us []) (hb _ (Value.ref (s.heap.objs.size+1)::us) I2.kIn hl) r2 hq) λr s' hq'=>?_))
 cases r with
 |error e=>exact hx pins σ _ _ e s' I2 hq'
 |ok fl =>
  cases fl with
  |ret u =>
   obtain ⟨v,H',I3,rv,ev,q3⟩:=I2.after hq'
   subst ev
   exact ⟨rv,⟨V.ref (s.heap.objs.size+1),H',I3,rfl,q3⟩⟩
  |next=>exact hq'.elim
  |brk=>exact hq'.elim
  |cont=>exact hq'.elim
def Nj (M:Mk X.K C f) (F:bU X.prog X.w X.K X.mg X.base CX k f fd ps sp) (hr:br (k+1) X.A) (hg:Gl X x) (hm:X.mg x=some (.ref C)) (hb:Binds X.K fd ps ds) (hd:Vals fj ds) (hx:Passes CX X E)
  (ha:PA X (e::es) t) (eX:(x==("__debug__" : Str))=false:=by decide) (he:starEach (e::es) X.env=(false,eval e X.env)::starEach es X.env:=by rfl) (bX:(backTo pos (starEach es X.env)).any (·.1)=false:=by rfl) :
  PE X (.Call (.Name x p) (e::es) [] pos) (Ng C sp fj E t):=by
 intro pins s σ H Q I h
 refine wpAny_Call_Name_kw (vQ I hg hm ?_ eX)
 refine PySem.W.callWith_K (h₀:=X.base) I.ok.mod.kin M.kp (a0 (ha pos pins s σ H _ I h) λus s1 ⟨vs,H1,I1,r,q⟩=>⟨I1.kIn,?_⟩) he bX
 exact Ni M F hr hb hd hx I1 r q
end
section
variable {fd:FuncData} {ps ks:Ae}
structure KO (K:PySem.W.Frag) (fd:FuncData) (ps ks:Ae) (g:List Value->List Value->Ag) (gV:List V->List V->List V):Prop where
 to:∀(s:Shared) (us ws:Ag),K.In s.heap->(g us ws).length=ps.length->BindsTo s fd ⟨us,ks.zip ws⟩ (ps.zip (g us ws))
 rel:∀{vs:List V} {us:Ag} {zs:List V} {ws:Ag},Vals vs us->Vals zs ws->Vals (gV vs zs) (g us ws)
end
structure af (N P:Ae) (sc:Scope):Prop where
 kind:sc.kind=.function
 co:sc.isCoroutine=false
 gen:sc.isGenerator=false
 nd:N.Nodup
 pre:N.take P.length=P
 par:∀x∈P,sc.names.lookup x=some .local\/sc.names.lookup x=some .cell
 nofree:∀y∈sc.names,y.2 ≠ .free
theorem Dm {kindOf:Str->Option NameKind}{x:Str}:∀{binds:List (Str×Value)}{m:Ab},(∀v,(x,v)∉binds)->bindL kindOf binds m x=m x
 |[],_,_=>rfl
 | (n,v)::r,m,h=>by
  unfold bindL
  rw [Dm λw hw=>h w (jH _ hw)]
  split
  ·have:x≠n:=by rintro rfl;exact h v jf
   simp [this]
  ·rfl
theorem Dp {kindOf:Str->Option NameKind}{x:Str}:∀{binds:List (Str×Value)}{m:Ab},(∀v,(x,v)∉binds)->bindC kindOf binds m x=m x
 |[],_,_=>rfl
 | (n,v)::r,m,h=>by
  unfold bindC
  rw [Dp λw hw=>h w (jH _ hw)]
  split
  ·rfl
  ·have:x≠n:=by rintro rfl;exact h v jf
   simp [this]
theorem Dq {kindOf:Str->Option NameKind}{x:Str}{v:Value}:∀{P:Ae}{vs:Ag}{i:Nat}{m:Ab},P.Nodup->P[i]?=some x->vs[i]?=some v->kindOf x=some .local ->
  bindL kindOf (P.zip vs) m x=some v
 |[],_,_,_,_,h,_,_=>by simp at h
 |_::_,[],_,_,_,_,h,_=>by simp at h
 |p::P,w::vs,0,m,nd,h1,h2,hk=>by
  simp at h1 h2;subst h1;subst h2
  show bindL kindOf ((p,w)::P.zip vs) m p=_
  unfold bindL
  rw [Dm λv hv=>(jU.mp nd).1 (List.of_mem_zip hv).1,zx hk]
  simp
 |p::P,w::vs,i+1,m,nd,h1,h2,hk=>by
  show bindL kindOf ((p,w)::P.zip vs) m x=_
  unfold bindL
  exact Dq (i:=i) (jU.mp nd).2 (by simpa using h1) (by simpa using h2) hk
theorem Dr {kindOf:Str->Option NameKind}{x:Str}{v:Value}:∀{P:Ae}{vs:Ag}{i:Nat}{m:Ab},P.Nodup->P[i]?=some x->vs[i]?=some v->kindOf x≠some .local ->
  bindC kindOf (P.zip vs) m x=some v
 |[],_,_,_,_,h,_,_=>by simp at h
 |_::_,[],_,_,_,_,h,_=>by simp at h
 |p::P,w::vs,0,m,nd,h1,h2,hk=>by
  simp at h1 h2;subst h1;subst h2
  show bindC kindOf ((p,w)::P.zip vs) m p=_
  unfold bindC
  rw [Dp λv hv=>(jU.mp nd).1 (List.of_mem_zip hv).1,zK hk]
  simp
 |p::P,w::vs,i+1,m,nd,h1,h2,hk=>by
  show bindC kindOf ((p,w)::P.zip vs) m x=_
  unfold bindC
  exact Dr (i:=i) (jU.mp nd).2 (by simpa using h1) (by simpa using h2) hk
def start (N:Ae) (vs:List V):St:=vs.map some++List.replicate (N.length-vs.length) none
def dY (CX:eG) (P:Program) (w:World) (K:PySem.W.Frag) (mg:Ab) (base:Heap) (N:Ae) (qual:Str) (scope:Scope) (f:Addr) (cd:Value) (A:Around) (outer:List Env) (s:Shared) (H:Hp) (E:XK):Cx where
 prog:=P
 w:=w
 K:=K
 mg:=mg
 base:=base
 A:=A.deeper (envOfC qual scope s.heap.objs.size f cd)
 N:=N
 s₀:=s
 H₀:=H
 env:=envOfC qual scope s.heap.objs.size f cd
 outer:=outer
 stack:=envOfC qual scope s.heap.objs.size f cd::outer
 ex:=[]
 calm:=true
 fn:=λ_=>true
 pn:=[]
 xe:=λe s'=>wpAny (model P w) (A.deeper (envOfC qual scope s.heap.objs.size f cd)) (leaving (envOfC qual scope s.heap.objs.size f cd) e) (λ_ v9=>CX outer H s E e v9) (λe' v9=>CX outer H s E e' v9) s'
def Ds {sc:Scope}{n:Nat}{x:Str}(h:sc.names.lookup x=some .cell):∃c,(cellsFrom n sc.names []).lookup x=some c:=by
 have q:=PySem.W.cellsFrom_some sc.names n [] (.inl h)
 exact Option.isSome_iff_exists.mp q
def Nk {CX:eG}{P:Program}{w:World}{K:PySem.W.Frag}{mg:Ab}{base:Heap}{N ps:Ae}{qual:Str}{scope:Scope}{f:Addr}{cd:Value}{A:Around}{outer:List Env}{s s1:Shared}{H:Hp}{E:XK}{us:Ag}{vs:List V}
  (S:af N ps scope) (hd:A.handled=none) (e0:fC P w K mg base A outer s H) (hl:vs.length=ps.length) (r:Vals vs us)
  (x:InCallC s s.heap.objs.size (bindL (envOfC qual scope s.heap.objs.size f cd).kindOf (ps.zip us) λ_=>none) (cellsFrom (s.heap.objs.size+1) scope.names []) (bindC (envOfC qual scope s.heap.objs.size f cd).kindOf (ps.zip us) λ_=>none) s1) :
  Inv (dY CX P w K mg base N qual scope f cd A outer s H E) [] (start N vs) H s1:=by
 have bX:ps.length<=N.length:=by have:=congrArg List.length S.pre;rw [List.length_take] at this;omega
 obtain ⟨h1,tk,rfl,hk⟩:=x.done
 have qf:∀b:Addr,b∉(dY CX P w K mg base N qual scope f cd A outer s H E).ex:=λb z=>absurd (show b∈([]:Af) from z) (by simp)
 refine ⟨⟨e0.mod,S.kind,rfl,rfl,yf _,λy z c h1 h2=>?_,λy hy=>?_,λy c _ h=>?_,λ_=>hd,Around.frames_deeper e0.frames,.inr ⟨rfl,rfl⟩,λb z=>absurd z (qf b),e0.bs,e0.bsz,λb _ _=>qf b,λb z=>absurd z (qf b),e0.funs,e0.frf⟩,
  rfl,e0.bare,Un.kept hk,⟨_,x.toInCall.ns,λi y v h1 h2 h3=>?_⟩,λy c h=>⟨_,x.cell y c h⟩,e0.hok.fresh (yf _),λy c h=>?_,λp hp=>absurd (show p∈([]:Ac) from hp) (by simp),e0.hok.kept hk,?_⟩
 ·exact name_of_addr x.apart (PySem.mem_of_lookup h1) (PySem.mem_of_lookup h2)
 ·have hy:scope.names.lookup y=some .cell\/scope.names.lookup y=some .free:=hy
  rcases hy with hy|hy
  ·exact Ds hy
  ·exact absurd rfl (S.nofree _ (PySem.mem_of_lookup hy))
 ·exact Nat.le_of_lt (x.above y c (PySem.mem_of_lookup h))
 ·have hi:i<vs.length:=by
   unfold start at h2
   by_cases hi:i<vs.length
   ·exact hi
   ·rw [iw (by simpa using hi)] at h2
    rw [List.getElem?_replicate] at h2
    split at h2<;>cases h2
  have ha:vs[i]?=some v:=by
   unfold start at h2
   rw [kh (by simpa using hi),jo] at h2
   cases e:vs[i]? with
   |none=>rw [e] at h2;cases h2
   |some a=>rw [e] at h2;cases h2;rfl
  obtain ⟨u,hu,rv⟩:=r.get ha
  have hp:ps[i]?=some y:=by
   rw [<-S.pre,List.getElem?_take_of_lt (by omega)];exact h1
  have Dt:ps.Nodup:=by rw [<-S.pre];exact S.nd.sublist (List.take_sublist _ _)
  refine ⟨u,rv,?_⟩
  rcases S.par y (iq hp) with k|k
  ·exact .inl ⟨k,Dq Dt hp hu k⟩
  ·obtain ⟨c,e⟩:=Ds (n:=s.heap.objs.size+1) k
   refine .inr ⟨.inl k,c,e,?_⟩
   have q:=x.cell y c e
   rw [Dr Dt hp hu (by show scope.names.lookup y≠_;rw [k];decide)] at q
   exact q
 ·exact e0.hok.fresh (Nat.le_of_lt (x.above y c (PySem.mem_of_lookup h)))
 ·unfold start
  show _=N.length
  rw [ww,jx,List.length_replicate]
  omega
def Du {CX:eG}{P:Program}{w:World}{K:PySem.W.Frag}{mg:Ab}{base:Heap}{k:Nat}{f:Addr}{name qual:Str}{params:Arguments}{body:List Stmt}{scope:Scope}{dV kV doc pm bh ct oc:Value}{an od:Option Addr}
  {fL:Array (Option Value)} {N ps:Ae} {sp:Sp} (lk:K.lookup f=some ⟨oc,od,.func (PySem.W.fnOf name qual params body scope dV kV doc pm an bh ct),fL⟩) (gf:PySem.W.codeIn K bh qual=true) (S:af N ps scope)
  (len:∀vs H Q E,sp vs H Q E->vs.length=ps.length)
  (fG:∀(A:Around) (outer:List Env) (s:Shared) (H:Hp) (vs:List V) (Q:VK) (E:XK),br k (A.deeper (envOfC qual scope s.heap.objs.size f bh))->sp vs H Q E ->
   ∃t,cU (dY CX P w K mg base N qual scope f bh A outer s H E) body t/\t { nx:=λ_ H'=>Q .non H',rt:=Q } (start N vs) H) :
  bU P w K mg base CX (k+1) f (PySem.W.fnOf name qual params body scope dV kV doc pm an bh ct) ps sp:=by
 refine ⟨len,λA outer s H args us vs Q E hr e0 hb r iF=>?_⟩
 have hl:=len _ _ _ _ iF
 have KX:K.In s.heap:=e0.mod.kin.keeps λb o e=>(e0.bs b o e).1
 have lim:s.heap.NoLimit:=e0.mod.nolimit.keeps λb o e=>(e0.bs b o e).1
 have v_:∀y∈ps.zip us,scope.names.lookup y.1=some .local\/(scope.names.lookup y.1=some .cell/\((cellsFrom (s.heap.objs.size+1) scope.names []).lookup y.1).isSome=true):=λ⟨n,v⟩ hy=>by
  rcases S.par n (List.of_mem_zip hy).1 with q|q
  ·exact .inl q
  ·exact .inr ⟨q,PySem.W.cellsFrom_some _ _ _ (.inl q)⟩
 refine codeAny_call_function hr.depth (KX _ _ lk) rfl S.co S.gen rfl (PySem.W.codeRec_of KX gf) (hb _ _ _ _ ?_)
 refine wpAny_newFunctionEnv_cells S.kind v_ λenv he s1 x=>?_
 subst he
 refine ⟨lim.keeps x.toInCall.keep,codeAny_func ?_⟩
 obtain ⟨t,ht,hq⟩:=fG A outer s H vs Q E (hr.deeper _) iF
 have I:Inv (dY CX P w K mg base N qual scope f bh A outer s H E) [] (start N vs) H s1:=Nk S hr.hd e0 hl r x
 refine ju (ht [] s1 (start N vs) H _ I hq) (λfl s' hs=>?_) λe s' hs=>hs
 have fin:∀{aj:St} {H':Hp} {v:V} {u:Value},Inv (dY CX P w K mg base N qual scope f bh A outer s H E) [] aj H' s'->RelV v u->Q v H'->CE outer P w H s Q u s' :=
  λ{aj H' v u} J rv q=>⟨v,H',J.os,J.bare,J.base,J.hok,rv,q⟩
 cases fl with
 |ret u =>
  obtain ⟨v,aj,H',J,rv,q⟩:=hs
  exact fin J rv q
 |next =>
  obtain ⟨aj,H',J,q⟩:=hs
  exact fin (v:=V.non) (u:=Value.none) J rfl q
 |brk =>
  obtain ⟨_,_,_,q⟩:=hs
  exact q.elim
 |cont =>
  obtain ⟨_,_,_,q⟩:=hs
  exact q.elim
section
variable {X:Cx} {x:Str} {p pos:Pos} {e:Expr} {es:List Expr} {t:TA} {id T:String} {r:List V->Hp->VK->Prop}
def Dv (r:List V->Hp->VK->Prop) (t:TA):TE:=fun σ H Q=>t σ H λvs H1=>r vs H1 Q
def Nl (hc:cv X (.builtin id) r) (hg:Gl X x) (hm:X.mg x=none) (hv:bootBuiltins x=some (.builtin id)) (ha:PA X (e::es) t) (hn:x ≠ "__name__" := by decide) (eX:(x==("__debug__" : Str))=false:=by decide)
  (he:starEach (e::es) X.env=(false,eval e X.env)::starEach es X.env:=by rfl) (bX:(backTo pos (starEach es X.env)).any (·.1)=false:=by rfl):PE X (.Call (.Name x p) (e::es) [] pos) (Dv r t):=by
 intro pins s σ H Q I h
 refine wpAny_Call_Name_kw (iD I hg hm hv ?_ hn eX)
 exact PyProof.Rows.callWith_builtin1 (a0 (ha pos pins s σ H _ I h) λus s1 ⟨vs,H1,I1,r1,q1⟩=>hc pins s1 σ H1 vs us Q I1 r1 q1) he bX
def Nm (hc:cv X (.type T) r) (hg:Gl X x) (hm:X.mg x=none) (hv:bootBuiltins x=some (.type T)) (ha:PA X (e::es) t) (hn:x ≠ "__name__" := by decide) (eX:(x==("__debug__" : Str))=false:=by decide)
  (he:starEach (e::es) X.env=(false,eval e X.env)::starEach es X.env:=by rfl) (bX:(backTo pos (starEach es X.env)).any (·.1)=false:=by rfl):PE X (.Call (.Name x p) (e::es) [] pos) (Dv r t):=by
 intro pins s σ H Q I h
 refine wpAny_Call_Name_kw (iD I hg hm hv ?_ hn eX)
 exact PyProof.Rows.callWith_type1 (a0 (ha pos pins s σ H _ I h) λus s1 ⟨vs,H1,I1,r1,q1⟩=>hc pins s1 σ H1 vs us Q I1 r1 q1) he bX
end
end L2
namespace HT
open PySem PyProof.Rows
section
open PySem.SeqAt
open PySem.AutoSeq1 (wpAny_loadPart')
open PySem.MeetsSeq PySem.MeetsSeq2 PySem.MeetsSeq3
end
section
variable {prog:Program} {w:World} {A:Around} {E:Aa} {s:Shared}
def cat_tup {t b:Addr}{vs ws:Ag}{Q:Aa}(ht:IsTup s.heap t vs.toArray) (hb:IsTup s.heap b ws.toArray) (hv:vs≠[])
  (h1:ws=[]->Q (.ref t) s) (h2:ws≠[]->Q (.ref s.heap.objs.size) { s with heap:=s.heap.push { cls:=.type "tuple", data:=.seq (vs++ws).toArray } })
  (hsz:vs.length+ws.length<=sizeLine):wpAny (model prog w) A (binaryOp .Add (.ref t) (.ref b)) Q E s:=by
 obtain ⟨⟨cls,dd,data,sl⟩,ho,hc,n,hd⟩:=id ht
 obtain ⟨⟨vy,mO,data2,gQ⟩,ho2,gR,n2,hd2⟩:=id hb
 simp only at hc hd gR hd2
 subst hc hd gR hd2
 have e:vs.toArray++ws.toArray=(vs++ws).toArray:=by simp
 by_cases hw:ws=[]
 ·exact concat_meets ⟨_,ho,rfl⟩ ⟨_,ho2,rfl⟩ noFill_tuple_add seq_tuple_add PySem.F.slot_tuple_add PySem.F.entry_tuple_add (PySem.F.args_tuple_add_2 _ _)
   (tuple_addW1 t b vs.toArray ws.toArray n n2 dd mO sl gQ (by simpa using hv) (by simp [hw])) ⟨ho,ho2,h1 hw⟩
 ·refine concat_meets ⟨_,ho,rfl⟩ ⟨_,ho2,rfl⟩ noFill_tuple_add seq_tuple_add PySem.F.slot_tuple_add PySem.F.entry_tuple_add (PySem.F.args_tuple_add_2 _ _)
   (tuple_addW2 t b vs.toArray ws.toArray n n2 dd mO sl gQ (by simpa using hv) (by simpa using hw) (by rw [yV,yV];exact hsz)) ⟨ho,ho2,?_⟩
  rw [e]
  exact h2 hw
end
end HT
namespace L2
open PySem PySem.Spec PyProof.Rows
abbrev TO:=St->Hp->(Option Int->Hp->Prop)->Prop
def PO (X:Cx) (e:Option Expr) (t:TO):Prop :=
 ∀(pins:Ac) (s:Shared) (σ:St) (H:Hp) (Q:Option Int->Hp->Prop),Inv X pins σ H s->t σ H Q ->
  wpAny (model X.prog X.w) X.A (evalPart e X.env) (λu s'=>∃o H',Inv X pins σ H' s'/\IsPart u o/\Q o H') X.xe s
def Nn:TO:=λ_ H Q=>Q none H
def Np (t:TE):TO:=fun σ H Q=>t σ H λx H1=>∃i,x=.int i/\Q (some i) H1
section
variable {X:Cx} {e:Expr} {te:TE} {lo hi:Option Expr} {tl th:TO} {pos p2:Pos}
def Nq:PO X none Nn:=by
 intro pins s σ H Q I h
 rw [evalPart_none]
 exact yb ⟨none,H,I,.none,h⟩
def Nr (h:PE X e te):PO X (some e) (Np te):=by
 intro pins s σ H Q I hw
 rw [evalPart_some]
 refine a0 (h pins s σ H _ I hw) λu s1 ⟨x,H1,I1,r1,q1⟩=>?_
 obtain ⟨i,rfl,q⟩:=q1
 obtain ⟨t,rfl⟩:=r1
 exact ⟨some i,H1,I1,.int i t,q⟩
def Dw (X:Cx) (r:V->Option Int->Option Int->Hp->VK->Prop):Prop :=
 ∀(pins:Ac) (s:Shared) (σ:St) (H:Hp) (x:V) (v vl vu:Value) (lo hi:Option Int) (sl:Addr) (Q:VK),Inv X pins σ H s->RelV x v->s.heap.IsSliceOf sl vl vu .none->IsPart vl lo->IsPart vu hi->r x lo hi H Q ->
  ∃T id,typeLookup (.type T) "__getitem__" = pure (some (.builtin id))/\s.TypeIs v T/\wpAny (model X.prog X.w) X.A (getItem v (.ref sl)) (EP X pins σ Q) X.xe s
def Nt (r:V->Option Int->Option Int->Hp->VK->Prop) (te:TE) (tl th:TO):TE:=fun σ H Q=>te σ H λx H1=>tl σ H1 λl H2=>th σ H2 λu H3=>r x l u H3 Q
def Nu {r:V->Option Int->Option Int->Hp->VK->Prop}(hr:Dw X r) (he:PE X e te) (hl:PO X lo tl) (hu:PO X hi th):PE X (.Subscript e (.Slice lo hi none p2) pos) (Nt r te tl th):=by
 intro pins s σ H Q I h
 refine Subscript_ (a0 (he pins s σ H _ I h) λv s1 ⟨x,H1,I1,r1,q1⟩=>?_)
 refine wpAny_Slice (a0 (hl pins s1 σ H1 _ I1 q1) λvl s2 ⟨l,H2,I2,pl,q2⟩=>a0 (hu pins s2 σ H2 _ I2 q2) λvu s3 ⟨u,H3,I3,pu,q3⟩=>?_)
 rw [evalPart_none]
 refine yb ?_
 have I4:Inv X pins σ H3 { s3 with heap:=s3.heap.push { cls:=.type "slice", data:=.fields #[vl,vu,.none] } }:=I3.kept (t':=s3.toks) λb ob q=>yk _ q
 obtain ⟨T,id,hT,ht,hg⟩:=hr pins { s3 with heap:=s3.heap.push { cls:=.type "slice", data:=.fields #[vl,vu,.none] } } σ H3 x v vl vu l u s3.heap.objs.size Q I4 r1 (Heap.IsSliceOf.new ..) pl pu q3
 show wpAny (model X.prog X.w) X.A (subscriptTail e (.Slice lo hi none p2) v (.ref s3.heap.objs.size)) (EP X pins σ Q) X.xe { s3 with heap:=s3.heap.push { cls:=.type "slice", data:=.fields #[vl,vu,.none] } }
 exact tail_any (ops:=[.ref s3.heap.objs.size,v]) ht hT hg (by with_unfolding_all rfl)
def Nv (K:PySem.W.Frag):R2:=λx y H Q=>∃a b xs ys,x=.ref a/\y=.ref b/\bD K H a xs/\bD K H b ys/\xs≠[]/\xs.length+ys.length<=sizeLine /\
 (ys=[]->Q (.ref a) H)/\(ys≠[]->∀p,H p=none->Q (.ref p) (upd H p (.tup (xs++ys))))
def Vals.nil_iff {xs:List V}{us:Ag}(r:Vals xs us):us=[]↔xs=[]:=by
 cases r with
 |nil=>simp
 |cons _ _=>simp
def Nw:bz X (binaryOp .Add) (Nv X.K):=by
 intro pins s σ H x y v u Q I rx ry h
 obtain ⟨a,b,xs,ys,rfl,rfl,ha,hb,hx,hz,q1,q2⟩:=h
 cases rx
 cases ry
 obtain ⟨its,r1,p1,_⟩:=I.tuple ha
 obtain ⟨a_,r2,p2,_⟩:=I.tuple hb
 refine HT.cat_tup p1 p2 (λz=>hx (r1.nil_iff.mp z)) (λz=>⟨.ref a,H,I,rfl,q1 (r2.nil_iff.mp z)⟩) (λz=>?_) (by rw [<-r1.length,<-r2.length];exact hz)
 refine ⟨.ref s.heap.objs.size,_,I.laid (t':=s.toks) (o:=.tup (xs++ys)) (λb ob q=>yk _ q) (yf _) ?_,rfl,q2 (λw=>z (r2.nil_iff.mpr w)) _ (I.hok.fresh (yf _))⟩
 exact ⟨by rw [ww];exact hz,_,r1.append r2,IsTup.new _ _⟩
end
def fH (n:Nat) (i:Int):Option Nat:=if 0<=i then (if i<n then some i.toNat else none) else if -(n:Int)<=i then some (i+n).toNat else none
def dB {α:Type}(xs:List α) (i:Int):Option α:=(fH xs.length i).bind λj=>xs[j]?
def Dx {n:Nat}{i:Int}{j:Nat}(h:fH n i=some j):seqIndex? i n=some j/\j<n /\ -(n:Int)<=i/\i<n:=by
 unfold fH at h
 by_cases h0:0<=i
 ·rw [zx h0] at h
  by_cases h1:i<n
  ·rw [zx h1] at h
   have e:i.toNat=j:=Option.some.inj h
   exact ⟨by rw [seqIndex_of h0 h1,e],by omega,by omega,h1⟩
  ·rw [zK h1] at h;cases h
 ·rw [zK h0] at h
  by_cases h1 : -(n:Int)<=i
  ·rw [zx h1] at h
   have e:(i+n).toNat=j:=Option.some.inj h
   exact ⟨by rw [seqIndex_neg (by omega) h1,e],by omega,h1,by omega⟩
  ·rw [zK h1] at h;cases h
def b0 {α:Type}{xs:List α}{i:Int}{v:α}(h:dB xs i=some v):∃j,seqIndex? i xs.length=some j/\xs[j]?=some v/\j<xs.length /\ -(xs.length:Int)<=i/\i<xs.length:=by
 unfold dB at h
 cases e:fH xs.length i with
 |none=>rw [e] at h;cases h
 |some j =>
  rw [e] at h
  obtain ⟨h1,h2,h3,h4⟩:=Dx e
  exact ⟨j,h1,h,h2,h3,h4⟩
def fM (b:Expr):Prop:=∀o i,subscripted b false o i=operate [o,i] (getItem o i)
def fN (X:Cx) (r:R2):Prop :=
 ∀(value slice:Expr) (pins:Ac) (s:Shared) (σ:St) (H:Hp) (x y:V) (v u:Value) (Q:VK),Inv X pins σ H s->RelV x v->RelV y u->r x y H Q ->
  subscripted slice false v u=operate [v,u] (getItem v u)->wpAny (model X.prog X.w) X.A (subscriptTail value slice v u) (EP X pins σ Q) X.xe s
def Dy (X:Cx) (id:String) (r:V->List V->Hp->VK->Prop):Prop :=
 ∀(pins:Ac) (s:Shared) (σ:St) (H:Hp) (x:V) (xs:List V) (v:Value) (us:Ag) (Q:VK),Inv X pins σ H s->RelV x v->Vals xs us->r x xs H Q ->
  wpAny (model X.prog X.w) X.A (call (.builtin id) (v::us)) (EP X pins σ Q) X.xe s
section
variable {X:Cx} {a b:Expr} {ta tb:TE} {pos:Pos}
def fN.or {r r':R2}(h:fN X r) (h':fN X r'):fN X (λx y H Q=>r x y H Q\/r' x y H Q):=by
 intro value slice pins s σ H x y v u Q I rx ry q hs
 rcases q with q|q
 ·exact h value slice pins s σ H x y v u Q I rx ry q hs
 ·exact h' value slice pins s σ H x y v u Q I rx ry q hs
def Dz {r:R2}(hr:fN X r) (ha:PE X a ta) (hb:PE X b tb) (hs:fM b):PE X (.Subscript a b pos) (p9 r ta tb):=by
 intro pins s σ H Q I h
 exact Subscript_ (p_ ha hb I h λv u s2 x y H2 I2 rx ry q=>hr a b pins s2 σ H2 x y v u Q I2 rx ry q (hs _ _))
def DA (K:PySem.W.Frag):R2:=λx y H Q=>∃p xs i v,x=.ref p/\y=.int i/\bE K H p xs/\dB xs i=some v/\Q v H
def DB (K:PySem.W.Frag):R2:=λx y H Q=>∃p xs i v,x=.ref p/\y=.int i/\bD K H p xs/\dB xs i=some v/\Q v H
def DC:R2:=λx y H Q=>∃z i c,x=.str z/\y=.int i/\z.length<=sizeLine/\dB z.cps.toList i=some c/\Q (.str ⟨#[c]⟩) H
def Nx:fN X (DA X.K):=by
 intro value slice pins s σ H x y v u Q I rx ry h hs
 obtain ⟨p,xs,i,z,rfl,rfl,hq,he,q⟩:=h
 cases rx
 obtain ⟨t,rfl⟩:=ry
 obtain ⟨its,r,pl,hz⟩:=I.list hq
 obtain ⟨j,h1,h2,h3,h4,h5⟩:=b0 he
 obtain ⟨w,ew,dm⟩:=r.get h2
 have hl:=r.length
 have hn:=qc
 have fin:EP X pins σ Q w s:=⟨z,H,I,dm,q⟩
 by_cases h0:0<=i
 ·have hj:i.toNat=j:=by
   rw [seqIndex_of h0 h5] at h1
   exact Option.some.inj h1
  exact item_listR pl.isList h0 (by omega) (by rw [hj];simpa using ew) fin hs
 ·have hj:(i+(its.toArray.size:Int)).toNat=j:=by
   rw [seqIndex_neg (by omega) h4] at h1
   rw [yV,<-hl]
   exact Option.some.inj h1
  exact subscriptTail_builtinR (x:=w) pl.isList.typeIs slot_list_getitem.lookup
   (wpAny_getItem_list_neg (Q:=λr s'=>r=w/\EP X pins σ Q r s') pl.isList (by omega) (by rw [yV]<;>omega) (by omega) (by rw [hj];simpa using ew) ⟨rfl,fin⟩) hs
def Ny:fN X (DB X.K):=by
 intro value slice pins s σ H x y v u Q I rx ry h hs
 obtain ⟨p,xs,i,z,rfl,rfl,hq,he,q⟩:=h
 cases rx
 obtain ⟨t,rfl⟩:=ry
 obtain ⟨its,r,pl,hz⟩:=I.tuple hq
 obtain ⟨j,h1,h2,h3,h4,h5⟩:=b0 he
 obtain ⟨w,ew,dm⟩:=r.get h2
 have hl:=r.length
 have hn:=qc
 have fin:EP X pins σ Q w s:=⟨z,H,I,dm,q⟩
 exact subscriptTail_builtinR (x:=w) pl.typeIs slot_tuple_getitem.lookup
  (getItem_tuple (j:=j) (Q:=λr s'=>r=w/\EP X pins σ Q r s') pl (by omega) (by omega) (by rw [yV,<-hl];exact h1) (by simpa using ew) ⟨rfl,fin⟩) hs
def Nz:fN X DC:=by
 intro value slice pins s σ H x y v u Q I rx ry h hs
 obtain ⟨z,i,c,rfl,rfl,hz,he,q⟩:=h
 obtain ⟨t,rfl⟩:=rx
 obtain ⟨t',rfl⟩:=ry
 obtain ⟨j,h1,h2,h3,h4,h5⟩:=b0 he
 have hl:z.cps.toList.length=z.length:=by simp [Str.length]
 rw [hl] at h1 h4 h5
 have hn:=qc
 exact tail_any (typeIs_str s z t) slot_str_getitem.lookup (getItem_str (c:=c) (by
  have e1:decide (i < -(2 ^ 63:Int))=false:=jp (by omega)
  have e2:decide (i>=2 ^ 63)=false:=jp (by omega)
  rw [e1,e2,Bool.or_false]) (by rw [h1];simpa using h2) ⟨.str ⟨#[c]⟩,H,I.tok _,⟨_,rfl⟩,q⟩) hs
def NA (K:PySem.W.Frag):R2:=λx y H Q=>DA K x y H Q\/DB K x y H Q\/DC x y H Q
def NB:fN X (NA X.K):=Nx.or (Ny.or Nz)
def NC (its:Ag) (n j:Nat) (u:Value):Obj.mapSeq (·.setIfInBounds j u) { cls:=.type "list", data:=.seq its.toArray n }={ cls:=.type "list", data:=.seq (its.set j u).toArray n }:=by
 simp [Obj.mapSeq]
theorem Inv.lst {pins:Ac}{σ:St}{H:Hp}{s:Shared}{p:Addr}{xs:List V}(I:Inv X pins σ H s) (h:H p=some (.lst xs)) :
  ∃(its:Ag) (n:Nat),Vals xs its/\s.heap.get? p=some { cls:=.type "list", data:=.seq its.toArray n }/\xs.length<=sizeLine:=by
 obtain ⟨z,its,n,r,e⟩:=I.hok p _ h
 exact ⟨its,n,r,e,z⟩
def Inv.lstUpd {pins:Ac}{σ:St}{H:Hp}{s:Shared}{p:Addr}{xs ys:List V}{its its':Ag}{n n':Nat}{f:Obj->Obj}(I:Inv X pins σ H s) (h:H p=some (.lst xs))
  (ho:s.heap.get? p=some { cls:=.type "list", data:=.seq its.toArray n }) (hf:f { cls:=.type "list", data:=.seq its.toArray n }={ cls:=.type "list", data:=.seq its'.toArray n' }) (r:Vals ys its') (hz:ys.length<=sizeLine) (t:Nat) :
  Inv X pins σ (upd H p (.lst ys)) { s with heap:=s.heap.update p f,toks:=t }:=by
 have e:(s.heap.update p f).get? p=some { cls:=.type "list", data:=.seq its'.toArray n' }:=by
  rw [Heap.get?_update_self f ho (by rw [hf]<;>rfl),hf]
 refine I.write (x:=p) (e:=p) (by rw [h];trivial) (.inl rfl) (λb u hb q=>(wK _ _ (yO hb)).trans q) ⟨_,e⟩ ?_
 exact ⟨hz,its',n',r,e⟩
def ND:V->V->V->Hp->(Hp->Prop)->Prop:=λo i v H Q=>∃p xs k j,o=.ref p/\i=.int k/\H p=some (.lst xs)/\fH xs.length k=some j/\Q (upd H p (.lst (xs.set j v)))
def NG:vw X ND:=by
 intro pins s σ H o i v ov iv u Q I ro ri rv h
 obtain ⟨p,xs,k,j,rfl,rfl,hp,hj,q⟩:=h
 cases ro
 obtain ⟨t,rfl⟩:=ri
 obtain ⟨its,n,r,ho,hz⟩:=I.lst hp
 obtain ⟨h1,h2,h3,h4⟩:=Dx hj
 have hl:=r.length
 have hn:=qc
 have I':Inv X pins σ (upd H p (.lst (xs.set j v))) { s with heap:=s.heap.update p (Obj.mapSeq (·.setIfInBounds j u)) } :=
  I.lstUpd hp ho (NC its n j u) (r.set rv j) (by rw [List.length_set];exact hz) s.toks
 by_cases h0:0<=k
 ·have hk:k.toNat=j:=by
   rw [seqIndex_of h0 h4] at h1
   exact Option.some.inj h1
  exact PySem.W.ki_setAt ho h0 (by omega) (by rw [yV,<-hl];exact h4) (by rw [hk];exact ⟨_,I',q⟩)
 ·have hk:(k+(its.toArray.size:Int)).toNat=j:=by
   rw [seqIndex_neg (by omega) h3] at h1
   rw [yV,<-hl]
   exact Option.some.inj h1
  exact PySem.W.ki_setBack ho (by omega) (by rw [yV,<-hl];exact h3) (by omega) (by rw [hk];exact ⟨_,I',q⟩)
def zod:bz X (compareOp .NotIn) (λx y H Q=>∃i j,x=.str i/\y=.str j/\Q (.bl (!(!(Builtin.Str.occurrences j i 0 j.length 1).isEmpty))) H):=by
 intro pins s σ H x y v u Q I rx ry h
 obtain ⟨i,j,rfl,rfl,q⟩:=h
 obtain ⟨t,rfl⟩:=rx
 obtain ⟨t',rfl⟩:=ry
 exact notIn_str ⟨.bl _,H,I,rfl,q⟩
def cv.or {f:Value}{r r':List V->Hp->VK->Prop}(h:cv X f r) (h':cv X f r'):cv X f (λxs H Q=>r xs H Q\/r' xs H Q):=by
 intro pins s σ H xs us Q I rs q
 rcases q with q|q
 ·exact h pins s σ H xs us Q I rs q
 ·exact h' pins s σ H xs us Q I rs q
def NH:cv X (.type "list") (λxs H Q=>∃p ys,xs=[.ref p]/\(bE X.K H p ys\/bD X.K H p ys)/\∀l,H l=none->Q (.ref l) (upd H l (.lst ys))):=by
 intro pins s σ H xs us Q I r h
 obtain ⟨p,ys,rfl,hq,q⟩:=h
 obtain ⟨u,rfl,rx⟩:=lG r
 cases rx
 have fin:∀(its:Ag),Vals ys its->ys.length<=sizeLine->∀(h':Heap) (c':Nat),(∀b o',s.heap.get? b=some o'->h'.get? b=some o') ->
   h'.get? s.heap.objs.size=some { cls:=.type "list", dict:=none,data:=.seq its.toArray c',slots:=#[] }->EP X pins σ Q (.ref s.heap.objs.size) { s with heap:=h' }:=λits r' hz h' c' kp e =>
  ⟨.ref s.heap.objs.size,_,I.laid (t':=s.toks) kp (yf _) (show bo X.prog X.w _ h' _ (.lst ys) from ⟨hz,its,c',r',e⟩),rfl,q _ (I.hok.fresh (yf _))⟩
 rcases hq with hq|hq
 ·obtain ⟨its,r',pl,hz⟩:=I.list hq
  have hlen:=r'.length
  obtain ⟨o,ho,hc,n,hd⟩:=pl.isList
  exact call_list_seq p (.inl rfl) ho hc hd (λh' c' kp e=>fin its r' hz h' c' kp e) (by simp only [yV]<;>omega)
 ·obtain ⟨its,r',pl,hz⟩:=I.tuple hq
  have hlen:=r'.length
  obtain ⟨o,ho,hc,n,hd⟩:=pl
  exact call_list_seq p (.inr rfl) ho hc hd (λh' c' kp e=>fin its r' hz h' c' kp e) (by simp only [yV]<;>omega)
def NI:cv X (.type "tuple") (λxs H Q=>∃p ys,xs=[.ref p]/\((bE X.K H p ys/\∀l,H l=none->Q (.ref l) (upd H l (.tup ys)))\/(bD X.K H p ys/\Q (.ref p) H))):=by
 intro pins s σ H xs us Q I r h
 obtain ⟨p,ys,rfl,h⟩:=h
 obtain ⟨u,rfl,rx⟩:=lG r
 cases rx
 rcases h with ⟨hq,q⟩|⟨hq,q⟩
 ·obtain ⟨its,r',pl,hz⟩:=I.list hq
  have hlen:=r'.length
  refine call_tuple_list pl.isList (λh' kp=>?_) (by simp only [yV]<;>omega)
  have I1:Inv X pins σ H { s with heap:=h' }:=I.kept (t':=s.toks) kp
  have I2:Inv X pins σ (upd H h'.objs.size (.tup ys)) { s with heap:=h'.push { cls:=.type "tuple", data:=.seq its.toArray } } :=
   I1.laid (t':=s.toks) (λb o e=>yk _ e) (yf _) (show bo X.prog X.w _ _ _ (.tup ys) from ⟨hz,its,r',IsTup.new _ _⟩)
  exact ⟨.ref h'.objs.size,_,I2,rfl,q _ (I1.hok.fresh (yf _))⟩
 ·obtain ⟨its,r',pl,hz⟩:=I.tuple hq
  exact call_tuple_same pl ⟨.ref p,H,I,rfl,q⟩
def DD (K:PySem.W.Frag) (T:String) (x:V) (H:Hp):Prop:=match x with
 |.str _=>T = "str"
 |.int _=>T = "int"
 | .ref p=>(T = "list" /\ ∃xs,bE K H p xs)\/(T = "tuple" /\ ∃o,K.lookup p=some o/\o.cls=.type "tuple" /\ o.dict=none) \/
   (T = "dict" /\ ((∃kvs,H p=some (.dK kvs))\/∃kvs,H p=some (.dT kvs)))\/(T = "set" /\ ∃S n,H p=some (.set S n))
 |_=>False
def w_ {pins:Ac}{σ:St}{H:Hp}{s:Shared}{T:String}{x:V}{v:Value}(I:Inv X pins σ H s) (r:RelV x v) (ty:DD X.K T x H) :
  s.TypeIs v T/\∀a,v=.ref a->∃ob,s.heap.get? a=some ob/\ob.dict=none:=by
 cases x with
 |str z =>
  obtain ⟨t,rfl⟩:=r
  cases (show T = "str" from ty)
  exact ⟨typeIs_str s z t,λ_ e=>nomatch e⟩
 |int i =>
  obtain ⟨t,rfl⟩:=r
  cases (show T = "int" from ty)
  exact ⟨typeIs_int s i t,λ_ e=>nomatch e⟩
 |ref p =>
  cases r
  rcases ty with ⟨rfl,xs,hq⟩|⟨rfl,o,hk,hc,hd⟩|⟨rfl,hk⟩|⟨rfl,S,n,hk⟩
  ·obtain ⟨its,_,pl,_⟩:=I.list hq
   refine ⟨pl.isList.typeIs,λa e=>?_⟩
   cases e
   obtain ⟨o,n,e,c,hd,_⟩:=pl
   exact ⟨o,e,hd⟩
  ·refine ⟨⟨o,I.kIn p o hk,hc⟩,λa e=>?_⟩
   cases e
   exact ⟨o,I.kIn _ o hk,hd⟩
  ·have z:∃o,s.heap.get? p=some o/\o.ExactDict:=by
    rcases hk with ⟨kvs,hk⟩|⟨kvs,hk⟩
    ·obtain ⟨_,_,_,_,o,_,_,e,ex,_⟩:=I.hok p _ hk
     exact ⟨o,e,ex⟩
    ·obtain ⟨_,_,_,_,o,_,_,e,ex,_⟩:=I.hok p _ hk
     exact ⟨o,e,ex⟩
   obtain ⟨o,e,ex⟩:=z
   refine ⟨⟨o,e,ex.1⟩,λa e2=>?_⟩
   cases e2
   exact ⟨o,e,ex.2.1⟩
  ·obtain ⟨o,_,_,_,e,ex,_⟩:=I.hok p _ hk
   refine ⟨⟨o,e,ex.1⟩,λa e2=>?_⟩
   cases e2
   exact ⟨o,e,ex.2.1⟩
 |_=>exact ty.elim
def NJ (K:PySem.W.Frag) (T:String) (r:V->List V->Hp->VK->Prop) (to:TE) (t:TA):TE:=fun σ H Q=>to σ H λx H1=>DD K T x H1/\t σ H1 λxs H2=>r x xs H2 Q
variable {o e:Expr} {es:List Expr} {to:TE} {t:TA} {name:Str} {apos bg:Pos} {T id:String} {r:V->List V->Hp->VK->Prop}
def sI (pa:PlainAttrs T) (slot:Slot T name id) (oA:typeOf (.builtin id)=pure (.type "method_descriptor")) (hm:Dy X id r) (ho:PE X o to) (ha:PA X (e::es) t)
  (c7:attributeBase o name X.env (eval o X.env)=eval o X.env:=by rfl)
  (fO:((backTo bg (starEach (e::es) X.env)).all (λx=>!x.1)&&(backToKw bg (keywordEach [] X.env)).all (λx=>x.1.isSome)
   && decide ((e::es).length+([]:List Keyword).length+(if ([]:List Keyword).isEmpty then 0 else 1)<30))=true:=by rfl)
  (c_:(apos.endLine==bg.line)=true:=by rfl) (hs:starEach (e::es) X.env=(false,eval e X.env)::starEach es X.env:=by rfl) (sJ:(backTo bg (starEach es X.env)).any (·.1)=false:=by rfl) :
  PE X (.Call (.Attribute o name apos) (e::es) [] bg) (NJ X.K T r to t):=by
 intro pins s σ H Q I h
 refine wpAny_Call_method_late c7 fO c_ rfl (a0 (ho pins s σ H _ I h) λv s1 ⟨x,H1,I1,r1,ty,q1⟩=>?_)
 obtain ⟨h1,h2⟩:=w_ I1 r1 ty
 refine ⟨T,id,pa,slot,oA,h1,h2,?_⟩
 have hA:=ha bg pins s1 σ H1 _ I1 q1
 rw [hs] at hA ⊢
 refine Calls.callWith_builtin (by show (false||(backTo bg (starEach es X.env)).any (·.1))=false;rw [sJ]<;>rfl) (Calls.evalArgs_plain ?_)
 exact a0 hA λus s2 ⟨vs,H2,I2,r2,q2⟩=>hm pins s2 σ H2 x vs v us Q I2 r1 r2 q2
end
def xb (X:Cx) (id:String) (r:V->List V->Hp->VK->Prop):Prop :=
 ∀(pins:Ac) (s:Shared) (σ:St) (H:Hp) (x:V) (xs:List V) (v:Value) (us:Ag) (Q:VK),Inv X pins σ H s->RelV x v->Vals xs us->r x xs H Q ->
  wpAny (model X.prog X.w) X.A (call (.builtin id) (v::us)) (EP X pins σ Q) X.xe s
def Vals.one:∀{x:V}{us:Ag},Vals [x] us->∃u,us=[u]/\RelV x u
 |_,_,.cons r .nil=>⟨_,rfl,r⟩
theorem Vals.eraseIdx:∀{xs:List V}{us:Ag}(i:Nat),Vals xs us->Vals (xs.eraseIdx i) (us.eraseIdx i)
 |_,_,_,.nil=>.nil
 |_,_,0,.cons _ t=>t
 |_,_,i+1,.cons r t=>.cons r (Vals.eraseIdx i t)
theorem Vals.reverse {xs:List V}{us:Ag}(h:Vals xs us):Vals xs.reverse us.reverse:=by
 induction h with
 |nil=>exact .nil
 |cons r t ih=>rw [List.reverse_cons,List.reverse_cons];exact Vals.append ih (.cons r .nil)
theorem DE {α:Type}:∀(l:List α) (i:Nat),(l.eraseIdx i).length<=l.length
 |[],_=>yf _
 |_::_,0=>Nat.le_succ _
 |_::r,i+1=>Nat.succ_le_succ (DE r i)
section
variable {X:Cx} {pins:Ac} {σ:St} {H:Hp} {s:Shared} {l:Addr} {xs ys:List V}
def Inv.lset {its its':Ag}{n:Nat}{f:Array Value->Array Value}{t':Nat}(I:Inv X pins σ H s) (hH:H l=some (.lst xs))
  (e:s.heap.get? l=some { cls:=.type "list", data:=.seq its.toArray n }) (hf:f its.toArray=its'.toArray) (hv:Vals ys its') (hz:ys.length<=sizeLine) :
  Inv X pins σ (upd H l (.lst ys)) { s with heap:=s.heap.update l (Obj.mapSeq f),toks:=t' }:=by
 have q:=PySem.IsL.update e f
 rw [hf] at q
 refine I.write (x:=l) (e:=l) (by rw [hH];exact trivial) (.inl rfl) (λb' u hb hu=>(wK s.heap (Obj.mapSeq f) (yO hb)).trans hu) ⟨_,q⟩ ?_
 exact ⟨hz,its',_,hv,q⟩
def Inv.lnew {its:Ag}{t':Nat}(I:Inv X pins σ H s) (hv:Vals ys its) (hz:ys.length<=sizeLine) :
  Inv X pins σ (upd H s.heap.objs.size (.lst ys)) { s with heap:=s.heap.push { cls:=.type "list", data:=.seq its.toArray },toks:=t' } :=
 I.laid (λ_ _ q=>yk _ q) (yf _) ⟨hz,its,0,hv,yY _ rfl⟩
theorem Inv.fresh (I:Inv X pins σ H s):H s.heap.objs.size=none:=I.hok.fresh (yf _)
def Inv.lstM (I:Inv X pins σ H s) (hH:H l=some (.lst xs)):xs.length<=sizeLine/\∃(its:Ag) (n:Nat),Vals xs its/\xs.length=its.length/\s.heap.get? l=some { cls:=.type "list", data:=.seq its.toArray n }:=by
 obtain ⟨z,its,n,r,e⟩:=I.hok l _ hH
 exact ⟨z,its,n,r,r.length,e⟩
def oB {n:Nat}(h:n<=sizeLine):Builtin.List.listTooLong n=false:=by
 unfold Builtin.List.listTooLong
 exact jp (by omega)
end
section
variable {X:Cx}
def NK:V->List V->Hp->VK->Prop:=λx vs H Q=>∃l xs y,x=.ref l/\vs=[y]/\H l=some (.lst xs)/\xs.length<sizeLine/\Q .non (upd H l (.lst (xs++[y])))
def zoi:xb X "list.append" NK:=by
 intro pins s σ H x vs v us Q I rx rv h
 obtain ⟨l,xs,y,rfl,rfl,hH,hz,q⟩:=h
 cases rx
 obtain ⟨u,rfl,ru⟩:=rv.one
 obtain ⟨z,its,n,r,hl,e⟩:=I.lstM hH
 refine call_meets F.slot_list_append ⟨_,e,rfl⟩ F.entry_list_append (F.args_list_append_2 _ _) (PySem.list_append l its.toArray n u (by rw [yV];omega)) ⟨e,?_⟩
 refine ⟨.non,_,I.lset (its':=its++[u]) hH e (by simp) (r.append (.cons ru .nil)) ?_,rfl,q⟩
 rw [ww,vK]
 omega
def NL:V->List V->Hp->VK->Prop:=λx vs H Q=>∃l b xs zs,x=.ref l/\vs=[.ref b]/\H l=some (.lst xs)/\H b=some (.lst zs)/\xs.length+zs.length<=sizeLine/\Q .non (upd H l (.lst (xs++zs)))
def zok:xb X "list.extend" NL:=by
 intro pins s σ H x vs v us Q I rx rv h
 obtain ⟨l,b,xs,zs,rfl,rfl,hH,hB,hz,q⟩:=h
 cases rx
 obtain ⟨u,rfl,ru⟩:=rv.one
 cases ru
 obtain ⟨z,its,n,r,hl,e⟩:=I.lstM hH
 obtain ⟨z2,a_,n2,r2,hl2,e2⟩:=I.lstM hB
 have hsz:its.toArray.size+a_.toArray.size<=sizeLine:=by rw [yV,yV];omega
 have xf:¬(!its.toArray.isEmpty&&Builtin.List.listTooLong (its.toArray.size+a_.toArray.size))=true:=by
  rw [oB hsz,Bool.and_false]
  exact Bool.false_ne_true
 refine call_meets F.slot_list_extend ⟨_,e,rfl⟩ F.entry_list_extend (F.args_list_extend_2 _ _)
  (AutoSeq1.list_extend_list_list_0 l its.toArray n b a_.toArray n2 xf (by rw [yV];omega) (by omega)) ⟨e,e2,?_⟩
 refine ⟨.non,_,I.lset (its':=its++a_) hH e (by simp) (r.append r2) ?_,rfl,q⟩
 rw [ww]
 omega
def NM:V->List V->Hp->VK->Prop:=λx vs H Q=>∃l xs i k y,x=.ref l/\vs=[.int i]/\H l=some (.lst xs) /\ -(2 ^ 63)<=i/\i<2 ^ 63/\seqIndex? i xs.length=some k/\xs[k]?=some y/\Q y (upd H l (.lst (xs.eraseIdx k)))
def NN:xb X "list.pop" NM:=by
 intro pins s σ H x vs v us Q I rx rv h
 obtain ⟨l,xs,i,k,y,rfl,rfl,hH,h1,h2,hk,hy,q⟩:=h
 cases rx
 obtain ⟨u,rfl,ru⟩:=rv.one
 obtain ⟨t,rfl⟩:=ru
 obtain ⟨z,its,n,r,hl,e⟩:=I.lstM hH
 obtain ⟨w,hw,dm⟩:=r.get hy
 refine call_meets F.slot_list_pop ⟨_,e,rfl⟩ F.entry_list_pop (F.args_list_pop_2 _ _)
  (MeetsSeq.list_pop_at l its.toArray n i t k w (fitsIndex_both h1 h2) (by rw [yV,<-hl];exact hk) (by rw [<-Array.getElem?_toList];exact hw) (by rw [yV];omega)) ⟨e,?_⟩
 refine ⟨y,_,I.lset (its':=its.eraseIdx k) hH e ?_ (r.eraseIdx k) ?_,dm,q⟩
 ·show its.toArray.eraseIdxIfInBounds k=(its.eraseIdx k).toArray
  rw [List.eraseIdxIfInBounds_toArray]
 ·have:=DE xs k
  omega
def NP:R2:=λx y H Q=>∃l b xs zs,x=.ref l/\y=.ref b/\H l=some (.lst xs)/\H b=some (.lst zs)/\xs.length+zs.length<=sizeLine/\∀p,H p=none->Q (.ref p) (upd H p (.lst (xs++zs)))
def NQ:bz X (binaryOp .Add) NP:=by
 intro pins s σ H x y v u Q I rx ry h
 obtain ⟨l,b,xs,zs,rfl,rfl,hH,hB,hz,q⟩:=h
 cases rx
 cases ry
 obtain ⟨z,its,n,r,hl,e⟩:=I.lstM hH
 obtain ⟨z2,a_,n2,r2,hl2,e2⟩:=I.lstM hB
 refine PySem.P.add_list e e2 ?_ (by rw [yV,yV];omega)
 have ea:its.toArray++a_.toArray=(its++a_).toArray:=by simp
 rw [ea]
 exact ⟨.ref _,_,I.lnew (t':=s.toks) (r.append r2) (by rw [ww];omega),rfl,q _ I.fresh⟩
end
end L2
namespace Att
open PySem PySem.W PySem.Calls PyProof.Rows
def NR {P:Params}{h:Heap}:∀(ns:List Int) (vs:Ag),WellAll P h vs (ns.map WData.int)->IntsAre vs ns:=by
 intro ns
 induction ns with
 |nil =>
  intro vs w
  rw [List.map_nil] at w
  cases w
  exact .nil
 |cons n ns ih =>
  intro vs w
  rw [yG] at w
  cases w with
  |cons a b =>
   cases a
   exact .cons _ _ (ih _ b)
def NS {l:OpenLaw}{n:Nat}(hn:l.most=some n) {P:Params}{h:Heap}{args:List WData}{vals:Ag}
  (lH:l.row.toRowW.claim.pre args=true) (hwl:WellAll P h vals args) :
  ∃a vs ns,vals=[Value.ref a]/\args=[WData.list (ns.map WData.int)]/\h.get? a=some { cls:=.type "list", data:=.seq vs.toArray }/\IntsAre vs ns/\ns.length<=n:=by
 have NT:WShape.hasAll [] args [.list .int]=true:=(pre_splitW lH).1
 have hc:l.pre.holds [] { args:=args }=true:=(pre_splitW lH).2
 obtain ⟨d,r,rfl,h1,h2⟩:=hasAllW_cons NT
 obtain rfl:=hasAllW_nil h2
 obtain ⟨xs,rfl,h3⟩:=hasW_list h1
 obtain ⟨ns,rfl⟩:=items_int h3
 have hlen:ns.length<=n:=by
  unfold OpenLaw.pre at hc
  have h4:(WTm.not (.lt (.lit (.int (n:Int))) (.len (.arg 0)))).holds [] { args:=[.list (ns.map .int)] }=true:=by
   have h4:=(holds_andW hc).1
   rw [hn] at h4
   exact h4
  have h5:=condW_of h4 (w_not (w_lt w_lit (w_len_list (w_arg rfl))))
  rw [jx] at h5
  refine Nat.le_of_not_lt λq=>?_
  have q':(n:Int)<((ns.length:Nat):Int):=by omega
  first
   | (rw [jV q'] at h5;exact absurd h5 (by decide))
   | (simp at h5;omega)
 cases hwl with
 |cons w1 w2 =>
  cases w2
  cases w1 with
  |list ho gT=>exact ⟨_,_,ns,rfl,rfl,ho,NR ns _ gT,hlen⟩
def NU (l:OpenLaw) (args:List WData):l.row.toRowW.claim.post args (.bool true) args=true :=
 postW_of (r:=l.row.toRowW) (X:=(true==true))
  (show WShape.has [] (.bool true) .bool=true by first|rfl|decide|simp [WShape.has,WShape.arms,WShape.armsAll])
  (show (WTm.eq .res (.lit (.bool true))).value [] { args:=args,res:=some (.bool true),after:=args }=some (.bool (true==true)) from w_eq_bool (w_res rfl) w_lit) rfl
def attach_call {l:OpenLaw}{n:Nat}{q:Program}{loose:Ae}{XP:(Ab)->Heap->Prop}{YP:World->Heap->Prop}{d:DefRec}
  (hn:l.most=some n) (qg:d.params.defaults=[])
  (call:∀(w:World) (s₀ am:Shared) (mg mb:Ab) (fa:Addr) (o:Obj) (pm cd doc:Value) (a:Addr) (vs:Ag) (ns:List Int),
   Ground q loose [] XP w s₀ mg mb am.heap->YP w am.heap ->
   am.heap.get? fa=some o->o.data=.func (docDef d.name d.params d.body d.scope pm cd doc)->am.heap.CodeRec cd d.name->mg d.name=some (.ref fa) ->
   am.heap.get? a=some { cls:=.type "list", data:=.seq vs.toArray }->IntsAre vs ns->ns.length<=n->am.gens=#[] ->
   codeAny (model l.prog w) callerA (.call (.ref fa) ⟨[.ref a],[]⟩) (λr s'=>r=.ok (.ret (.bool true))/\OldK am.heap s'.heap/\s'.os=am.os/\AllBare s'.gens) am) :
  WalkO q loose XP YP l.row.toRowW d [] (λf vs=>PySem.call f vs):=by
 intro w s₀ am mg mb G Y fa o pm cd doc dV kV ho hd gf hD hmg hg args vals as lH hlay hrd hwl hlo
 obtain rfl:dV=.none:=Dflts.none hD qg
 obtain rfl:kV=.none:=Dflts.noKw hD
 obtain ⟨a,vs,ns,rfl,rfl,qh,hints,hlen⟩:=NS hn lH hwl
 refine enter_call (codeAny_mono (call w s₀ am mg mb fa o pm cd doc a vs ns G Y ho (fd_plain hd) gf hmg qh hints hlen hg) λr s' hq=>?_)
 obtain ⟨rfl,h2,h3,h4⟩:=hq
 exact ⟨.inl ⟨.bool true,.bool true,[],rfl,λ_=>rfl,.bool true,NU l _,λ_=>⟨List.Pairwise.nil,λ_ hm=>(nomatch hm)⟩⟩,h2,h3,h4⟩
end Att
namespace L2
open PySem PySem.Spec PyProof.Rows
theorem DF:∀{vs:Ag}{ns:List Int},IntsAre vs ns->Vals (ns.map V.int) vs
 |_,_,.nil=>.nil
 |_,_,.cons n t h=>.cons ⟨t,rfl⟩ (DF h)
def Only (H:Hp):Prop:=∀b,H b=none\/∃o xs,H b=some (.frz o (.lst xs))
def NV {P:Program}{w:World}{K:PySem.W.Frag}{mg mb:Ab}{CX:eG}{k:Nat}{fa a:Addr}{fd:FuncData}{x:Str}{sp:Sp}{am:Shared}{vs:Ag}{ns:List Int}
  (KX:K.In am.heap) (DG:am.heap.Ns mainGlobals mg) (hb:am.heap.Ns builtinsNs mb) (qi:∀x:Str,x ≠ "__name__" -> mb x=bootBuiltins x) (vz:am.heap.NoLimit) (hg:am.gens=#[])
  (ha:am.heap.get? a=some { cls:=.type "list", data:=.seq vs.toArray }) (hi:IntsAre vs ns) (hl:ns.length<=sizeLine) (hr:br k callerA)
  (F:∀base:Heap,K.In base->base.Ns mainGlobals mg->bU P w K mg base CX k fa fd [x] sp) (xg:∀(s:Shared) (u:Value),BindsTo s fd ⟨[u],[]⟩ [(x,u)])
  (iF:∀H:Hp,Only H->bE K H a (ns.map V.int)->sp [.ref a] H (λv _=>v=.bl true) λ_ _ _=>False)
  (xh:∀H e s',CX [] H am (λ_ _ _=>False) e s'->False) :
  codeAny (model P w) callerA (.call (.ref fa) ⟨[.ref a],[]⟩) (λr s'=>r=.ok (.ret (.bool true))/\OldK am.heap s'.heap/\s'.os=am.os/\AllBare s'.gens) am:=by
 have rv:=DF hi
 have DH:=hi.length
 have core:∀H:Hp,Only H->bE K H a (ns.map V.int)->cK P w H am.heap->(∀b,H b≠none->b=a)->(H a≠none->K.lookup a=none) ->
   codeAny (model P w) callerA (.call (.ref fa) ⟨[.ref a],[]⟩) (λr s'=>r=.ok (.ret (.bool true))/\OldK am.heap s'.heap/\s'.os=am.os/\AllBare s'.gens) am:=by
  intro H hO hS hok hA hK
  have lI:∀{b:Addr} {o:Obj},am.heap.get? b=some o->H b=none->(fJ am.heap H).get? b=some o:=λe n=>K6 e n
  have qf:∀{b:Addr} {o:Obj} {es:Array DictEntry} {ep:Nat},am.heap.get? b=some o->o.data=.dict es ep->H b=none:=λ{b o es ep} e d=>by
   cases q:H b with
   |none=>rfl
   |some u =>
    have e':b=a:=hA b (by rw [q];simp)
    subst e'
    rw [ha] at e;cases e
    have d':Data.seq vs.toArray _=Data.dict es ep:=d
    cases d'
  have sL:∀{b:Addr} {m:Ab},am.heap.Ns b m->(fJ am.heap H).Ns b m:=λ{b m} ⟨o,es,ep,e,d,r⟩=>⟨o,es,ep,lI e (qf e d),d,r⟩
  have DI:K.In (fJ am.heap H):=λb o e=>lI (KX b o e) (by
   cases q:H b with
   |none=>rfl
   |some u =>
    have e':b=a:=hA b (by rw [q];simp)
    subst e'
    rw [hK (by rw [q];simp)] at e;cases e)
  have hM:Mod K mg (fJ am.heap H):=⟨DI,sL DG,⟨mb,sL hb,qi⟩,let ⟨mc,h1,h2⟩:=vz;⟨mc,sL h1,h2⟩⟩
  have e0:fC P w K mg (fJ am.heap H) callerA [] am H:=⟨rfl,hM,λb o e=>K7 e,Nat.le_of_eq (K5 _ _),trivial,λb hb=>absurd (show b∈([]:Af) from hb) (by simp),hok,.of_eq hg⟩
  refine codeAny_mono ((F _ DI (sL DG)).run callerA [] am H ⟨[.ref a],[]⟩ [.ref a] [.ref a] _ _ hr e0 (xg am (.ref a)) (.cons rfl .nil) (iF H hO hS)) λr s' h=>?_
  cases r with
  |error e=>exact (xh H e s' h).elim
  |ok fl =>
   cases fl with
   |next=>exact h.elim
   |brk=>exact h.elim
   |cont=>exact h.elim
   |ret u =>
    obtain ⟨v,H',os,bare,un,DJ,r',q⟩:=h
    have q':v=.bl true:=q
    subst q'
    obtain rfl:u=Value.bool true:=r'
    refine ⟨rfl,OldK.of_keep λb o e=>?_,os,bare⟩
    cases q:H b with
    |none=>exact un.keep b o e q (by intro z;exact absurd (show b∈([]:Af) from z) (by simp)) (by simp)
    |some u =>
     rcases hO b with z|⟨ob,xs,z⟩
     ·rw [q] at z;cases z
     ·have z2:=un.frzs b ob _ z
      obtain ⟨e1,_⟩:=hok b _ z
      obtain ⟨e2,_⟩:=DJ b _ z2
      rw [e] at e1;cases e1
      exact e2
 cases hk:K.lookup a with
 |some o =>
  have e:=KX a o hk
  rw [ha] at e
  cases e
  refine core (λ_=>none) (λ_=>.inl rfl) (.inr ⟨_,vs.toArray,_,hk,rfl,rfl,rfl,by rw [yV,DH];exact hl,by simpa using rv⟩) (λb u z=>by have z':(none:Option HO)=some u:=z;cases z') (λb z=>absurd rfl z) λz=>absurd rfl z
 |none =>
  refine core (λb=>if b=a then some (.frz { cls:=.type "list", data:=.seq vs.toArray } (.lst (ns.map V.int))) else none) (λb=>?_) (.inl (.inr ⟨{ cls:=.type "list", data:=.seq vs.toArray },zx rfl⟩)) (λb u z=>?_) (λb z=>?_) λ_=>hk
  ·by_cases hb:b=a
   ·exact .inr ⟨_,_,zx hb⟩
   ·exact .inl (zK hb)
  ·by_cases hb:b=a
   ·have z':=(zx hb).symm.trans z
    cases z'
    subst hb
    exact ⟨ha,by rw [jx];exact hl,vs,_,rv,ha⟩
   ·have z':=(zK hb).symm.trans z
    cases z'
  ·by_cases hb:b=a
   ·exact hb
   ·exact absurd (zK hb) z
abbrev KOf {K:PySem.W.Frag}{h:Heap}(_:K.In h):PySem.W.Frag:=K
def zot {l:PySem.W.OpenLaw}{n k:Nat}{q:Program}{loose:Ae}{XP:(Ab)->Heap->Prop}{YP:World->Heap->Prop}{d:DefRec}{K:Params->PySem.W.Frag}{CX:World->eG}{sp:World->Sp}{x:Str}
  (hn:l.most=some n) (gF:n<=sizeLine) (qg:d.params.defaults=[]) (hr:br k callerA)
  (hY:∀(w:World) (h:Heap),YP w h->(K w.params).In h)
  (F:∀(w:World) (mg:Ab) (fa:Addr) (h:Heap),(K w.params).In h->h.Ns mainGlobals mg->mg d.name=some (.ref fa) ->
   ∃fd:FuncData,(∀(s:Shared) (u:Value),BindsTo s fd ⟨[u],[]⟩ [(x,u)]) /\
    ∀base:Heap,(K w.params).In base->base.Ns mainGlobals mg->bU l.prog w (K w.params) mg base (CX w) k fa fd [x] (sp w))
  (iF:∀(w:World) (H:Hp) (a:Addr) (ns:List Int),ns.length<=n->Only H->bE (K w.params) H a (ns.map V.int)->sp w [.ref a] H (λv _=>v=.bl true) λ_ _ _=>False)
  (xh:∀(w:World) (H:Hp) (s:Shared) (e:Value) (s':Shared),CX w [] H s (λ_ _ _=>False) e s'->False) :
  PySem.W.WalkO q loose XP YP l.row.toRowW d [] (λf vs=>PySem.call f vs):=by
 refine Att.attach_call hn qg λw s₀ am mg mb fa o pm cd doc a vs ns G Y ho hd gf hmg qh hints hlen hg=>?_
 have KX:=hY w _ Y
 obtain ⟨fd,hb,hF⟩:=F w mg fa _ KX G.T.g hmg
 exact NV KX G.T.g G.T.b G.T.builtins G.T.nolimit hg qh hints (jv hlen gF) hr hF hb (λH hO hS=>iF w H a ns hlen hO hS) λH e s'=>xh w H am e s'
def inClass (s:Stmt) (j:Nat):Stmt:=match s with
 |.ClassDef _ _ _ body _ _ _ _ _ _ _=>body.getD j (.Pass ⟨0,0,0,0⟩)
 |_=>.Pass ⟨0,0,0,0⟩
def wP (s:Stmt):Arguments:=match s with
 |.FunctionDef _ a _ _ _ _ _ _ _ _=>a
 |_=>{ posonlyargs:=[],args:=[],vararg:=none,kwonlyargs:=[],kw_defaults:=[],kwarg:=none,defaults:=[] }
def jJ (s:Stmt):List Stmt:=match s with
 |.FunctionDef _ _ b _ _ _ _ _ _ _=>b
 |_=>[]
def zL (s:Stmt):Scope:=match s with
 |.FunctionDef _ _ _ _ _ _ sc _ _ _=>sc
 |_=>{ kind:=.function,names:=[],isGenerator:=false,isCoroutine:=false }
abbrev DK:eG:=λ_ _ _ _ _ _=>False
abbrev E0:XK:=λ_ _ _=>False
structure eI (K:PySem.W.Frag) (x qual:Str) (st:Stmt) (f:Addr) (fd:FuncData):Prop where
 ex:∃(oc:Value) (od:Option Addr) (kV doc pm:Value) (an:Option Addr) (bh ct:Value) (fL:Array (Option Value)),
  fd=PySem.W.fnOf x qual (wP st) (jJ st) (zL st) .none kV doc pm an bh ct/\K.lookup f=some ⟨oc,od,.func fd,fL⟩/\PySem.W.codeIn K bh qual=true
 kp:PySem.W.keepIn K (.ref f)=true
section
variable {P:Program} {w:World} {K:PySem.W.Frag} {mg:Ab} {base:Heap}
def eI.ok {x qual:Str}{st:Stmt}{f:Addr}{fd:FuncData}{N ps:Ae}{k:Nat}{sp:Sp}(F:eI K x qual st f fd) (S:af N ps (zL st)) (len:∀vs H Q E,sp vs H Q E->vs.length=ps.length)
  (fG:∀(bh:Value) (A:Around) (outer:List Env) (s:Shared) (H:Hp) (vs:List V) (Q:VK) (E:XK),br k (A.deeper (envOfC qual (zL st) s.heap.objs.size f bh))->sp vs H Q E ->
   ∃t,cU (dY DK P w K mg base N qual (zL st) f bh A outer s H E).nox (jJ st) t/\t { nx:=λ_ H'=>Q .non H',rt:=Q } (start N vs) H):bU P w K mg base DK (k+1) f fd ps sp:=by
 obtain ⟨oc,od,kV,doc,pm,an,bh,ct,fL,rfl,lk,gf⟩:=F.ex
 refine Du lk gf S len λA outer s H vs Q E hr iF=>?_
 obtain ⟨t,h,q⟩:=fG bh A outer s H vs Q E hr iF
 exact ⟨t,h.nox,q⟩
def eI.binds {x qual:Str}{st:Stmt}{f:Addr}{fd:FuncData}{ps:Ae}(F:eI K x qual st f fd)
  (h:∀(kV doc pm:Value) (an:Option Addr) (bh ct:Value) (us:Ag),us.length=ps.length->bindArgs (PySem.W.fnOf x qual (wP st) (jJ st) (zL st) .none kV doc pm an bh ct) ⟨us,[]⟩=pure (ps.zip us)):Binds K fd ps []:=by
 obtain ⟨oc,od,kV,doc,pm,an,bh,ct,fL,rfl,lk,gf⟩:=F.ex
 exact .all (h kV doc pm an bh ct)
def oE {x qual:Str}{st:Stmt}{f:Addr}{oc:Value}{od an:Option Addr}{fL:Array (Option Value)}{kV doc pm bh ct:Value}(l:K.lookup f=some ⟨oc,od,.func (PySem.W.fnOf x qual (wP st) (jJ st) (zL st) .none kV doc pm an bh ct),fL⟩)
  (c:PySem.W.codeIn K bh qual=true) (k:PySem.W.keepIn K (.ref f)=true):eI K x qual st f (PySem.W.fnOf x qual (wP st) (jJ st) (zL st) .none kV doc pm an bh ct):=⟨⟨oc,od,kV,doc,pm,an,bh,ct,fL,rfl,l,c⟩,k⟩
end
def fD (H H':Hp):Prop:=∀b o,H b=some o->H' b=some o
def fD.refl (H:Hp):fD H H:=λ_ _ h=>h
def fD.trans {H H1 H2:Hp}(a:fD H H1) (b:fD H1 H2):fD H H2:=λc o h=>b c o (a c o h)
def fD.free {H H':Hp}(e:fD H H') {l:Addr}(h:H' l=Option.none):H l=Option.none:=by
 cases q:H l with
 |none=>rfl
 |some o =>
  rw [e l o q] at h
  cases h
def fD.seq {K:PySem.W.Frag}{H H':Hp}{a:Addr}{xs:List V}(e:fD H H') (h:bE K H a xs):bE K H' a xs:=by
 rcases h with (h|⟨o,h⟩)|h
 ·exact .inl (.inl (e _ _ h))
 ·exact .inl (.inr ⟨o,e _ _ h⟩)
 ·exact .inr h
end L2
set_option maxHeartbeats 4000000
namespace L2
open PySem PySem.Spec PyProof.Rows
def DL {l z D b:Nat}(h1:l<z) (h2:z=D) (h3:D<=b) (h4:b=l):False:=by omega
def mP {b D C:Nat}(h1:b<D) (h2:C=D+1) (h3:b=C):False:=by omega
def DM {b e d:Nat}(h1:b<e) (h2:e<=d) (h3:d<=b):False:=by omega
def DN {b D p:Nat}(h1:b<D) (h2:p=D) (h3:p=b):False:=by omega
theorem xi (env:Env):∀(l:List (Str×NameKind)) (acc:List (Str×Addr)),(∀p∈l,p.2=.free->∃c,env.cells.lookup p.1=some c) ->
  ∃cl,(forIn l acc (λ(x:Str×NameKind) (cs:List (Str×Addr))=>if (x.snd==NameKind.free)=true then do
            let a <-cellOf env x.fst
            pure (ForInStep.yield ((x.fst,a)::cs))
      else pure (ForInStep.yield cs)):Sem (List (Str×Addr)))=pure cl /\
   (∀y c,(y,c)∈cl->(y,c)∈acc\/(env.cells.lookup y=some c/\(y,NameKind.free)∈l))/\(∀p∈acc,p∈cl)/\(∀y,(y,NameKind.free)∈l->∃c,(y,c)∈cl)
 |[],acc,_=>⟨acc,rfl,λ_ _ h=>.inl h,λ_ h=>h,λ_ h=>nomatch h⟩
 | (n,k)::r,acc,gT=>by
  by_cases hk:k=.free
  ·subst hk
   obtain ⟨c,hc⟩:=gT (n,.free) jf rfl
   obtain ⟨cl,e,h1,h2,h3⟩:=xi env r ((n,c)::acc) λp hp=>gT p (jH _ hp)
   refine ⟨cl,?_,λy d hy=>?_,λp hp=>h2 p (jH _ hp),λy hy=>?_⟩
   ·rw [List.forIn_cons]
    simp only [beq_self_eq_true,if_true]
    have:cellOf env n=pure c:=by unfold cellOf;rw [hc]
    rw [this]
    exact e
   ·rcases h1 y d hy with q|q
    ·rcases yI.mp q with q|q
     ·cases q
      exact .inr ⟨hc,jf⟩
     ·exact .inl q
    ·exact .inr ⟨q.1,jH _ q.2⟩
   ·rcases yI.mp hy with q|q
    ·cases q
     exact ⟨c,h2 _ jf⟩
    ·exact h3 y q
  ·obtain ⟨cl,e,h1,h2,h3⟩:=xi env r acc λp hp=>gT p (jH _ hp)
   refine ⟨cl,?_,λy d hy=>?_,h2,λy hy=>?_⟩
   ·rw [List.forIn_cons]
    have:(k==NameKind.free)=false:=by simpa using hk
    simp only [this,Bool.false_eq_true,if_false]
    exact e
   ·rcases h1 y d hy with q|q
    ·exact .inl q
    ·exact .inr ⟨q.1,jH _ q.2⟩
   ·rcases yI.mp hy with q|q
    ·cases q
     exact absurd rfl hk
    ·exact h3 y q
theorem DO {β:Type}{y:Str}:∀{l:List (Str×β)}{c:β},(y,c)∈l->∃d,l.lookup y=some d
 | (n,b)::r,c,h=>by
  rw [jy]
  cases e:y==n with
  |true=>exact ⟨b,rfl⟩
  |false =>
   rcases yI.mp h with q|q
   ·cases q
    simp at e
   ·exact DO q
def DP (env:Env) (scope:Scope) (gT:∀p∈scope.names,p.2=.free->∃c,env.cells.lookup p.1=some c) :
  ∃cl,closureFor scope env=pure cl/\(∀y c,cl.lookup y=some c->env.cells.lookup y=some c)/\(∀y,(y,NameKind.free)∈scope.names->∃c,cl.lookup y=some c):=by
 obtain ⟨cl,e,h1,_,h3⟩:=xi env scope.names [] gT
 refine ⟨cl,?_,λy c hy=>?_,λy hy=>?_⟩
 ·simp only [closureFor]
  rw [e]
  rfl
 ·rcases h1 y c (PySem.mem_of_lookup hy) with z|z
  ·cases z
  ·exact z.1
 ·obtain ⟨c,hc⟩:=h3 y hy
  exact DO hc
structure dP (sc scope:Scope) (x:Str):Prop where
 kind:scope.kind=.function
 ncell:∀y∈scope.names,y.2 ≠ .cell
 names:∀y∈scope.names,y.2=.local->scope.names.lookup y.1=some .local/\(y.1=x\/y.1 = ".0")
 hx:scope.names.lookup x=some .local
 free:∀y∈scope.names,y.2=.free->sc.names.lookup y.1=some .cell
def lJ (X:Cx) (M:Ae) (scope:Scope) (cl:List (Str×Addr)) (x:Str) (C:Addr) (ag:Shared) (ai:Hp) (fp:Af) (E:Aa):Cx :=
 { X with N:=x::M,s₀:=ag,H₀:=ai,env:=compEnvC scope cl C X.env,outer:=X.stack,ex:=fp,fn:=λ_=>false,pn:=[],xe:=E }
def Hid (scope:Scope) (M N:Ae):Prop:=M.length=N.length/\∀p∈M.zip N,p.1=p.2\/p.1∉scope.names.map Prod.fst
def Hid.refl {scope:Scope}{N:Ae}:Hid scope N N:=⟨rfl,λp hp=>.inl (by
 obtain ⟨i,hi,e⟩:=List.getElem_of_mem hp
 rw [List.getElem_zip] at e
 rw [<-e])⟩
def Hid.get {scope:Scope}{M N:Ae}(h:Hid scope M N) {i:Nat}{y:Str}(e:M[i]?=some y):N[i]?=some y\/y∉scope.names.map Prod.fst:=by
 obtain ⟨hi,ei⟩:=yt.mp e
 have hj:i<N.length:=h.1▸hi
 have hm:(M[i],N[i])∈M.zip N:=iq (i:=i) (by rw [List.getElem?_zip_eq_some];exact ⟨yr hi,yr hj⟩)
 rcases h.2 _ hm with q|q
 ·exact .inl (by rw [yr hj,<-ei];exact congrArg some q.symm)
 ·exact .inr (by rw [<-ei];exact q)
def DQ (X:Cx) (scope:Scope) (cl:List (Str×Addr)) (x:Str) (C:Addr) (ag:Shared) (ai:Hp) (fp:Af) (E:Aa):Cx :=
 { X with N:=x::X.N,s₀:=ag,H₀:=ai,env:=compEnvC scope cl C X.env,outer:=X.stack,ex:=fp,fn:=λ_=>false,pn:=[],xe:=E }
section
variable {X:Cx} {scope:Scope} {x:Str}
def lK {env:Env}{y:Str}{k:NameKind}(h:(relabel scope env).names.lookup y=some k):∃k0,(y,k0)∈scope.names/\((k0=.free/\env.kindOf y=some .cell/\k=.cell)\/(k=k0/\¬(k0=.free/\env.scope.kind=.function/\env.kindOf y=some .cell))):=by
 have hm:=PySem.mem_of_lookup h
 obtain ⟨⟨n,k0⟩,hn,e⟩:=jI.mp hm
 by_cases hc:(k0==NameKind.free&&env.scope.kind == .function&&env.kindOf n==some .cell)=true
 ·have e':(n,NameKind.cell)=(y,k):=by rw [<-e];simp only [hc,if_true]
  cases e'
  simp only [lE,beq_iff_eq] at hc
  exact ⟨_,hn,.inl ⟨hc.1.1,hc.2,rfl⟩⟩
 ·have e':(n,k0)=(y,k):=by rw [<-e];simp only [hc,if_false];rfl
  cases e'
  refine ⟨_,hn,.inr ⟨rfl,λ⟨a,b,c⟩=>hc ?_⟩⟩
  simp [a,b,c]
def DR (S:dP X.env.scope scope x) {y:Str} (h:(relabel scope X.env).names.lookup y=some .local):y=x\/y = ".0" := by
 obtain ⟨k0,hm,⟨_,_,e⟩|⟨e,_⟩⟩:=lK h
 ·cases e
 ·subst e
  exact (S.names _ hm rfl).2
def xj (S:dP X.env.scope scope x) (hk:X.env.scope.kind=.function) {y:Str}(h:(relabel scope X.env).names.lookup y=some .cell\/(relabel scope X.env).names.lookup y=some .free):(y,NameKind.free)∈scope.names:=by
 rcases h with h|h
 ·obtain ⟨k0,hm,⟨e,_,_⟩|⟨e,_⟩⟩:=lK h
  ·subst e;exact hm
  ·subst e;exact absurd rfl (S.ncell _ hm)
 ·obtain ⟨k0,hm,⟨_,_,e⟩|⟨e,n⟩⟩:=lK h
  ·cases e
  ·subst e
   exact hm
end
def NW {P:Program}{wd:World}{B:Around}{Z:Result->Shared->Prop}{u0:Shared}{el tg iter:Expr}{sc:Scope}{ps:Pos}{iv ac:Value}{ev:Env}(J0:Nat->Shared->Prop)
  (turn:∀k u,J0 k u->wpAny (model P wd) B (pyNext iv) (λr u1=>match r with|none=>Z (.ok .next) u1|some v=>wpAny (model P wd) B (letOwnedTupleGo tg iv v) (λ_ u2 =>
   wpAny (model P wd) B (assign tg ev v) (λ_ u3=>wpAny (model P wd) B (eval el ev) (λy u4=>wpAny (model P wd) B (call (.builtin "list.append") [ac,y]) (λ_ u5=>∃m,m<k/\J0 m u5)
    (notedBy (model P wd) B ev λe u=>Z (.error e) u) u4) (notedBy (model P wd) B ev λe u=>Z (.error e) u) u3) (notedBy (model P wd) B ev λe u=>Z (.error e) u) u2) (notedBy (model P wd) B ev λe u=>Z (.error e) u) u1)
   (notedBy (model P wd) B ev λe u=>Z (.error e) u) u)
  (k0:Nat) (kr:J0 k0 u0):codeAny (model P wd) B (.compLoop (.ListComp el [⟨tg,iter,[],0⟩] sc ps) 0 iv ac ev) Z u0:=by
 refine codeAny_loop rfl J0 (λk u hJ=>wpAny_noted (E:=λe u=>Z (.error e) u) (env:=ev) (m:=compTurn (.ListComp el [⟨tg,iter,[],0⟩] sc ps) 0 iv ac ev) ?_) k0 kr
 rw [compTurn_list1]
 have one:=turn k u hJ
 refine zB (wpAny_standAt (zB (ju one (λr u1 q1=>?_) λ_ _ z=>z)))
 cases r with
 |none=>exact yb q1
 |some v =>
  refine zB (ju q1 (λ_ u2 q2=>zB (ju q2 (λ_ u3 q3=>?_) λ_ _ z=>z)) λ_ _ z=>z)
  exact zB (zB (ju q3 (λy u4 q4=>zB (ju q4 (λ_ u5 q5=>yb (yb ⟨rfl,q5⟩)) λ_ _ z=>z)) λ_ _ z=>z))
def mQ (J:It) (te:TE) (σ:St) (Q:VK) (H1:Hp):Prop:=∃W:Nat->Nat->List V->Hp->Prop,(∃m,W 0 m [] H1)/\∀i m ys H,W i m ys H ->
 (J.stop i H/\ys.length<=sizeLine/\∀l,H l=none->Q (.ref l) (upd H l (.lst ys))) \/
 (J.go i H/\ys.length<=sizeLine/\∀z H',J.yld i H z H'->te (some z::σ) H' λy H2=>∃m',m'<m/\W (i+1) m' (ys++[y]) H2)
def DS (wi:TI) (te:TE):TE:=fun σ H Q=>wi σ H λJ H1=>mQ J te σ Q H1
end L2
namespace L2
open PySem PySem.Spec PyProof.Rows PySem.W
structure dQ (sc scope:Scope) (xs:Ae):Prop where
 kind:scope.kind=.function
 ncell:∀y∈scope.names,y.2 ≠ .cell
 names:∀y∈scope.names,y.2=.local->scope.names.lookup y.1=some .local/\(y.1∈xs\/y.1 = ".0")
 free:∀y∈scope.names,y.2=.free->sc.names.lookup y.1=some .cell
def fq (X:Cx) (scope:Scope) (cl:List (Str×Addr)) (xs:Ae) (C:Addr) (ag:Shared) (ai:Hp) (fp:Af) (E:Aa):Cx :=
 { X with N:=xs++X.N,s₀:=ag,H₀:=ai,env:=compEnvC scope cl C X.env,outer:=X.stack,ex:=fp,fn:=λ_=>false,pn:=[],xe:=E }
def gw (X:Cx) (M:Ae) (scope:Scope) (cl:List (Str×Addr)) (xs:Ae) (C:Addr) (ag:Shared) (ai:Hp) (fp:Af) (E:Aa):Cx :=
 { X with N:=xs++M,s₀:=ag,H₀:=ai,env:=compEnvC scope cl C X.env,outer:=X.stack,ex:=fp,fn:=λ_=>false,pn:=[],xe:=E }
section
variable {X:Cx} {scope:Scope} {xs:Ae}
def DT (S:dQ X.env.scope scope xs) {y:Str} (h:(relabel scope X.env).names.lookup y=some .local):y∈xs\/y = ".0" := by
 obtain ⟨k0,hm,⟨_,_,e⟩|⟨e,_⟩⟩:=lK h
 ·cases e
 ·subst e
  exact (S.names _ hm rfl).2
def xk (S:dQ X.env.scope scope xs) (hk:X.env.scope.kind=.function) {y:Str}(h:(relabel scope X.env).names.lookup y=some .cell\/(relabel scope X.env).names.lookup y=some .free):(y,NameKind.free)∈scope.names:=by
 rcases h with h|h
 ·obtain ⟨k0,hm,⟨e,_,_⟩|⟨e,_⟩⟩:=lK h
  ·subst e;exact hm
  ·subst e;exact absurd rfl (S.ncell _ hm)
 ·obtain ⟨k0,hm,⟨_,_,e⟩|⟨e,n⟩⟩:=lK h
  ·cases e
  ·subst e
   exact hm
end
def ku (X:Cx) (ifs:List Expr) (t:TT):Prop:=∀(pins:Ac) (s:Shared) (σ:St) (H:Hp) (Q:Bool->Hp->Prop),Inv X pins σ H s->t σ H Q ->
 wpAny (model X.prog X.w) X.A (forIn ifs true λc r=>if r=true then do let ok <-isTrue c X.env (eval c X.env);pure (ForInStep.yield ok) else pure (ForInStep.yield r)) (TP X pins σ Q) X.xe s
def oF:TT:=λ_ H Q=>Q true H
def DU {X:Cx}:ku X [] oF:=λpins s σ H Q I h=>wpAny_tests_nil ⟨H,I,h⟩
def DV {X:Cx}{c:Expr}{t:TT}(h:PT X c t):ku X [c] t:=λpins s σ H Q I q=>wpAny_tests_one (h pins s σ H Q I q)
theorem ku.nox {X:Cx}{ifs:List Expr}{t:TT}(h:ku X.nox ifs t):ku X ifs t:=λpins s σ H Q I hw =>
 ju (h pins s σ H Q (I.wish _) hw) (λb s' ⟨H',I',q⟩=>⟨H',I'.unwish,q⟩) λ_ _ z=>z.elim
def NX {P:Program}{wd:World}{B:Around}{Z:Result->Shared->Prop}{u0:Shared}{el tg iter:Expr}{ifs:List Expr}{sc:Scope}{ps:Pos}{iv ac:Value}{ev:Env}(J0:Nat->Shared->Prop)
  (turn:∀k u,J0 k u->wpAny (model P wd) B (pyNext iv) (λr u1=>match r with|none=>Z (.ok .next) u1|some v=>wpAny (model P wd) B (letOwnedTupleGo tg iv v) (λ_ u2 =>
   wpAny (model P wd) B (assign tg ev v) (λ_ u3=>wpAny (model P wd) B (forIn ifs true λc r=>if r=true then do let ok <-isTrue c ev (eval c ev);pure (ForInStep.yield ok) else pure (ForInStep.yield r)) (λok u4 =>
    if ok=true then wpAny (model P wd) B (eval el ev) (λy u5=>wpAny (model P wd) B (call (.builtin "list.append") [ac,y]) (λ_ u6=>∃m,m<k/\J0 m u6)
    (notedBy (model P wd) B ev λe u=>Z (.error e) u) u5) (notedBy (model P wd) B ev λe u=>Z (.error e) u) u4 else ∃m,m<k/\J0 m u4) (notedBy (model P wd) B ev λe u=>Z (.error e) u) u3) (notedBy (model P wd) B ev λe u=>Z (.error e) u) u2) (notedBy (model P wd) B ev λe u=>Z (.error e) u) u1)
   (notedBy (model P wd) B ev λe u=>Z (.error e) u) u)
  (k0:Nat) (kr:J0 k0 u0):codeAny (model P wd) B (.compLoop (.ListComp el [⟨tg,iter,ifs,0⟩] sc ps) 0 iv ac ev) Z u0:=by
 refine codeAny_loop rfl J0 (λk u hJ=>wpAny_noted (E:=λe u=>Z (.error e) u) (env:=ev) (m:=compTurn (.ListComp el [⟨tg,iter,ifs,0⟩] sc ps) 0 iv ac ev) ?_) k0 kr
 rw [compTurn_list]
 have one:=turn k u hJ
 refine zB (wpAny_standAt (zB (ju one (λr u1 q1=>?_) λ_ _ z=>z)))
 cases r with
 |none=>exact yb q1
 |some v =>
  refine zB (ju q1 (λ_ u2 q2=>zB (ju q2 (λ_ u3 q3=>zB (ju q3 (λok u4 q4=>?_) λ_ _ z=>z)) λ_ _ z=>z)) λ_ _ z=>z)
  cases ok with
  |true=>exact zB (zB (ju q4 (λy u4 q4=>zB (ju q4 (λ_ u5 q5=>yb (yb ⟨rfl,q5⟩)) λ_ _ z=>z)) λ_ _ z=>z))
  |false=>exact zB (yb (yb ⟨rfl,q4⟩))
def ky (J:It) (gt:TG) (tt:TT) (te:TE) (n:Nat) (σ:St) (Q:VK) (H1:Hp):Prop:=∃W:Nat->Nat->List V->Hp->Prop,(∃m,W 0 m [] H1)/\∀i m ys H,W i m ys H ->
 (J.stop i H/\ys.length<=sizeLine/\∀l,H l=none->Q (.ref l) (upd H l (.lst ys))) \/
 (J.go i H/\ys.length<=sizeLine/\∀z H',J.yld i H z H'->gt z (List.replicate n none++σ) H' λax H1=>∃own:St,ax=own++σ/\own.length=n/\tt ax H1 λb H2 =>
  if b=true then te ax H2 λy H3=>∃m',m'<m/\W (i+1) m' (ys++[y]) H3 else ∃m',m'<m/\W (i+1) m' ys H2)
def xl (wi:TI) (gt:TG) (tt:TT) (te:TE) (n:Nat):TE:=fun σ H Q=>wi σ H λJ H1=>ky J gt tt te n σ Q H1
def DW {X:Cx} {elt iter tg:Expr} {ifs:List Expr} {xs:Ae} {pos:Pos} {scope:Scope} {wi:TI} {gt:TG} {tt:TT} {te:TE} {M:Ae} (hc:X.calm=true) (S:dQ X.env.scope scope xs) (eN:Hid scope M X.N) (dc:((".0" : Str)::(xs++M)).Nodup)
  (hi:PI X tg iter wi) (xm:∀cl C ag ai fp E,PG (gw X M scope cl xs C ag ai fp E) tg gt) (mR:∀cl C ag ai fp,ku (gw X M scope cl xs C ag ai fp (λ_ _=>False)) ifs tt) (he:∀cl C ag ai fp,PE (gw X M scope cl xs C ag ai fp (λ_ _=>False)) elt te)
  (hs:∀v,foldedSetIterable iter X.env v=pure v:=by intro _;rfl):PE X (.ListComp elt [⟨tg,iter,ifs,0⟩] scope pos) (xl wi gt tt te xs.length):=by
 intro pins s σ H Q I h
 have hN:(xs++M).Nodup:=(jU.mp dc).2
 have xn:(".0" : Str)∉M:=λz=>(jU.mp dc).1 (jd _ z)
 obtain ⟨cl,mS,dC,lL⟩:=DP X.env scope λp hp hf=>I.ok.has p.1 (.inl (S.free p hp hf))
 have mT:X.env.scope.kind=.function:=I.ok.kind
 rw [eval_ListComp]
 refine wpAny_comprehension_free (use:=none) rfl hs mS S.kind (λy hy hl=>(S.names y hy hl).1) ?_
 refine a0 (hi pins s σ H _ I h) λv s1 h1=>a0 h1 λsy ag h2=>?_
 obtain ⟨it,fp,tn,J,H2,e,I2,T,aQ,f2,W,⟨m0,w0⟩,turn⟩:=h2
 subst e
 refine pS (wpAny_newFunctionEnv S.ncell (by intro y hy;simp at hy) (λaA aD aB=>?_) S.kind)
 dsimp only at aD aB ⊢
 generalize hH2:ag.heap.push { cls:=.type "list", dict:=none,data:=.seq ([]:Ag).toArray }=G2 at aD aB ⊢
 have hC:G2.objs.size=ag.heap.objs.size+1:=by rw [<-hH2,Heap.size_push]
 have iG:ag.heap.objs.size≠G2.objs.size:=by rw [hC];exact yN (wg _)
 have DX:ag.heap.objs.size<=G2.objs.size:=by rw [hC];exact Nat.le_succ _
 have old:∀b o,ag.heap.get? b=some o->aA.get? b=some o:=λb o e=>by
  have hb:b≠G2.objs.size:=by rw [hC];exact yN (Nat.lt_succ_of_lt (yn e))
  exact aB.extBut b o hb (yk _ (hH2▸yk _ e))
 have eA:aA.get? ag.heap.objs.size=some { cls:=.type "list", data:=.seq (#[]:Array Value) 0 }:=aB.extBut _ _ iG (yk _ (hH2▸yY _ rfl))
 generalize hD:ag.heap.objs.size=D at *
 generalize hCC:G2.objs.size=C at *
 have fw:∀{b:Nat} {o:Obj},ag.heap.get? b=some o->b<D:=λe=>by rw [<-hD];exact yn e
 have nofr:∀b,D<=b->b∉dw X.stack:=λb hb z=>by
  rcases yI.mp (I2.stkSub b z) with q|q
  ·exact DL I2.lt hD hb q
  ·exact I2.nofs (by rw [hD];exact hb) q
 let E':Aa:=notedBy (model X.prog X.w) X.A (compEnvC scope cl C X.env) λe s'=>compPost (model X.prog X.w) X.A X.xe none (EP X pins σ Q) (.ref D) C (.error e) s'
 let Y:Cx:=gw X M scope cl xs C ag H2 fp E'
 have d8:∀b∈fp,dy X pins H2 b:=f2
 have mV:Y.Ok:=by
  refine ⟨I2.ok.mod,S.kind,I2.ok.glob,I2.ok.blt,(by show ag.heap.objs.size<=C;omega),λy z c h1 h2=>?_,λy hy=>?_,λy c hf=>?_,I2.ok.hd,I2.ok.frames,.inl rfl,λb hb=>?_,I2.bs,jv I2.ok.bsz I2.sz,λb o hb hx=>?_,λb hb hx=>?_,I2.stack,I2.stkFree⟩
  ·exact I2.ok.inj y z c (dC y c h1) (dC z c h2)
  ·exact lL y (xk S mT hy)
  ·cases hf
  ·refine ⟨λz=>?_,λy c hy=>(d8 b hb).2.2.2.2.1 y c (dC y c hy)⟩
   obtain ⟨o,ho,_⟩:=T.obj 0 _ aQ b hb
   exact mP (fw ho) hC z
  ·rcases (d8 b hx).2.2.2.1 with z|z
   ·exact I2.ok.noex b o hb z
   ·exact DM (yn hb) I2.ok.bsz z
  ·rcases yI.mp (I2.stkSub b hx) with q|q
   ·exact (d8 b hb).2.1 q
   ·exact (d8 b hb).2.2.1 q
 have gg:∀{s':Shared} {H':Hp} {o:Obj},s'.heap.get? D=some o->H' D=none->(∀v,o.data ≠ .cell v)->∀p∈[(D,o)],s'.heap.get? p.1=some p.2/\H' p.1=none/\p.1≠Y.env.locals/\p.1∉Y.fs/\∀v,p.2.data ≠ .cell v:=λ{s' H' o} e1 e2 e3 p hp=>by
  have ep:p=(D,o):=by simpa using hp
  subst ep
  exact ⟨e1,e2,iG,nofr D (yf _),e3⟩
 have I0:Inv Y [(D,{ cls:=.type "list", data:=.seq (#[]:Array Value) 0 })] (List.replicate xs.length none++σ) H2 { ag with heap:=aA,toks:=ag.toks+([]:List (Str×Value)).length }:=by
  have fresh:∀b,D<=b->H2 b=none:=λb hb=>I2.hok.fresh (by rw [hD];exact hb)
  refine ⟨mV,rfl,I2.bare,Un.kept old,⟨_,aD,λi y v e1 e2 e3=>?_⟩,λy c hy=>?_,fresh C (by omega),λy c hy=>I2.freeC y c (dC y c hy),λp hp=>gg eA (fresh D (yf _)) (λv z=>by cases z) p hp,I2.hok.kept old,?_⟩
  ·by_cases bO:i<xs.length
   ·rw [kh (by simpa using bO),List.getElem?_replicate] at e2
    simp [bO] at e2
   ·obtain ⟨j,rfl⟩:∃j,i=xs.length+j:=⟨i-xs.length,by omega⟩
    have qj:M[j]?=some y:=by
     have:(xs++M)[xs.length+j]?=some y:=e1
     rw [iw (by omega)] at this
     simpa using this
    have xo:X.N[j]?=some y:=by
     rcases eN.get qj with q|q
     ·exact q
     ·refine absurd ?_ q
      rcases e3 with e3|e3|e3<;>(obtain ⟨k0,hm,_⟩:=lK e3;exact jI.mpr ⟨_,hm,rfl⟩)
    have xq:σ[j]?=some (some v):=by
     rw [iw (by simp)] at e2
     simpa using e2
    have lP:¬(y∈xs\/y = ".0"):=λz=>by
     have hm:=iq qj
     rcases z with z|z
     ·exact (List.nodup_append.mp hN).2.2 y z y hm rfl
     ·rw [z] at hm
      exact xn hm
    have fP:(y,NameKind.free)∈scope.names:=by
     rcases e3 with e3|e3|e3
     ·exact absurd (DT S e3) lP
     ·exact xk S mT (.inl e3)
     ·exact xk S mT (.inr e3)
    have qk:X.env.scope.names.lookup y=some .cell:=S.free _ fP rfl
    obtain ⟨m,hn,hl⟩:=I2.loc
    obtain ⟨u,r,l⟩:=hl j y v xo xq (.inr (.inl qk))
    refine ⟨u,r,?_⟩
    rcases l with ⟨hk,_⟩|⟨_,c,oo,eO⟩
    ·have:X.env.kindOf y=some .cell:=qk
     rw [this] at hk;cases hk
    ·obtain ⟨c',dv⟩:=lL y fP
     have:=dC y c' dv
     rw [oo] at this
     cases this
     refine .inr ⟨?_,c,dv,?_⟩
     ·rcases e3 with e3|e3|e3
      ·exact absurd (DT S e3) lP
      ·exact .inl e3
      ·exact .inr e3
     ·obtain ⟨o,ho,hd⟩:=eO
      exact ⟨o,old c o ho,hd⟩
  ·obtain ⟨v,o,ho,hd⟩:=I2.cell y c (dC y c hy)
   exact ⟨v,o,old c o ho,hd⟩
  ·show (List.replicate xs.length none++σ).length=(xs++M).length
   simp [I2.len,eN.1]
 have mW:∀{pl:Ac} {H':Hp},(∀p∈pl,p.1=D)->(∀b∈fp,H' b=none)->∀b∈fp,dy Y pl H' b:=λ{pl H'} bX hn b hb=>by
  obtain ⟨o,ho,_⟩:=T.obj 0 _ aQ b hb
  refine ⟨hn b hb,λz=>?_,?_,.inl hb,(mV.exf b hb).2,λp hp z=>?_⟩
  ·exact mP (fw ho) hC z
  ·exact mV.exfs b hb
  ·have oG:p∈pl:=by simpa [Y,gw] using hp
   exact DN (fw ho) (bX p oG) z
 have loop:codeAny (model X.prog X.w) X.A (.compLoop (.ListComp elt [⟨tg,iter,ifs,0⟩] scope pos) 0 (.ref it) (.ref D) (compEnvC scope cl C X.env))
   (compPost (model X.prog X.w) X.A X.xe none (EP X pins σ Q) (.ref D) C) { ag with heap:=aA,toks:=ag.toks+([]:List (Str×Value)).length }:=by
  refine NX (λn s'=>∃i ys H' its k,Inv Y [(D,{ cls:=.type "list", data:=.seq (its:Ag).toArray k })] (List.replicate xs.length none++σ) H' s'/\Vals ys its/\tn i s'.heap/\(∀b∈fp,H' b=none)/\W i n ys H') ?_ m0
   ⟨0,[],H2,[],0,I0,.nil,T.keep 0 _ _ aQ (λb hb o e=>old b o e),λb hb=>(d8 b hb).1,w0⟩
  rintro n s3 ⟨i,ys,H3,its,k,I3,rv,bq,lF,w3⟩
  have gW:∀{o:Obj},∀p∈[(D,o)],p.1=D:=λ{o} p hp=>by
   have ep:p=(D,o):=by simpa using hp
   rw [ep]
  obtain ⟨gD,nD,_,_,_⟩:=I3.pin (D,_) (jd _ jf)
  rcases turn i n ys H3 w3 with ⟨stop,hz,q⟩|⟨go,hz,step⟩
  ·refine a0 (T.done Y rfl rfl rfl hc i _ s3 _ H3 E' I3 (mW gW lF) bq stop) λr s4 ⟨hr,I4⟩=>?_
   subst hr
   obtain ⟨xr,mX,_,_,_⟩:=I4.pin (D,_) (jd _ jf)
   obtain ⟨m4,xt,_⟩:=id I4.loc
   refine ⟨m4,xt,λh' d9=>?_⟩
   refine ⟨.ref D,upd H3 D (.lst ys),?_,rfl,q D mX⟩
   have iC:∀{b:Addr} {u:HO},H3 b=some u->b≠C:=λe z=>by
    have:H3 C=none:=I4.free
    rw [z,this] at e;cases e
   refine I2.call' (s':={ s4 with heap:=h' }) (ch:=fp) (H':=upd H3 D (.lst ys)) I4.os ?_ ?_ I4.bare λb hb=>⟨(d8 b hb).2.2.2.1,(d8 b hb).2.1,(d8 b hb).2.2.2.2.1,(d8 b hb).2.2.2.2.2⟩
   ·have B:=I4.base
    have mY:∀{b:Nat} {o:Obj},ag.heap.get? b=some o->b≠C:=λe z=>mP (fw e) hC z
    have mZ:∀{b:Addr} {u:HO},H3 b=some u->b≠D:=λe z=>by rw [z,mX] at e;cases e
    refine ⟨λb o e nn hb hx=>(d9.2 b (mY e)).trans (B.keep b o e nn hb hx),λb o e nn hb hx=>?_,λb o e nn hx=>?_,λb o e hx=>?_,λb xs e=>?_,λb o u e=>?_,λb ps e=>?_⟩
    ·obtain ⟨sl,z⟩:=B.slot b o e nn hb hx
     exact ⟨sl,(d9.2 b (mY e)).trans z⟩
    ·have xv:b≠D:=yN (fw e)
     rw [yo xv]
     exact B.free b o e nn hx
    ·obtain ⟨o',z⟩:=B.there b o e hx
     exact ⟨o',(d9.2 b (mY e)).trans z⟩
    ·have z:=B.tups b xs e
     rw [yo (mZ z)];exact z
    ·have z:=B.frzs b o u e
     rw [yo (mZ z)];exact z
    ·obtain ⟨more,z⟩:=B.tbls b ps e
     exact ⟨more,by rw [yo (mZ z)];exact z⟩
   ·intro a o e
    by_cases ha:a=D
    ·subst ha
     rw [yZ] at e
     cases e
     exact ⟨hz,its,k,rv,(d9.2 _ iG).trans xr⟩
    ·rw [yo ha] at e
     have fQ:∀b u,H3 b=some u->(upd H3 D (.lst ys)) b=some u:=λb u z=>by
      have hb:b≠D:=λw=>by rw [w,mX] at z;cases z
      rw [yo hb];exact z
     refine (I4.hok a o e).stay (λb u hb z=>(d9.2 b ?_).trans z) (λb z=>fQ b _ z) λb xs z=>fQ b _ z
     rcases hb with hb|hb
     ·rw [hb];exact iC e
     ·exact iC hb
  ·refine a0 (T.item Y rfl rfl rfl hc i _ s3 _ H3 E' I3 (mW gW lF) bq go) λr s4 ⟨u,hr,h4⟩=>?_
   subst hr
   refine a0 h4 λ_ s5 ⟨z,H5,I5,r5,y5,d7,p5⟩=>?_
   have p6:=I5.pinned (mW gW p5) (T.obj _ _ d7)
   have gX:PG Y tg gt:=xm cl C ag H2 fp E'
   have xw:PE Y elt te:=PE.nox (X:=Y) (he cl C ag H2 fp)
   have NY:ku Y ifs tt:=ku.nox (X:=Y) (mR cl C ag H2 fp)
   refine a0 (gX _ s5 (List.replicate xs.length none++σ) H5 z u _ p6 r5 (step z _ y5)) λ_ s6 ⟨aH,H6,I6,own,e1,e2,q6⟩=>?_
   subst e1
   have wk:∀(j:Nat) v,(List.replicate xs.length none++σ)[j]?=some (some v)->(own++σ)[j]?=some (some v):=λj v e=>by
    by_cases bO:j<xs.length
    ·rw [kh (by simpa using bO),List.getElem?_replicate] at e
     simp [bO] at e
    ·rw [iw (by simp;omega)] at e
     rw [iw (by omega),e2]
     simpa using e
   have wl:(List.replicate xs.length none++σ).length=(own++σ).length:=by simp [e2]
   refine a0 (NY _ s6 _ _ _ I6 q6) λb s7 ⟨H7,I7,q7⟩=>?_
   cases b with
   |true =>
    refine a0 (xw _ s7 _ _ _ I7 q7) λuy s7 ⟨y,H7,I7,ry,m',hm,w7⟩=>?_
    obtain ⟨qm,m9,_,_,_⟩:=I7.pin (D,_) (jd _ (og _ jf))
    refine wpAny_list_append_plain ⟨k,qm⟩ (λh' bX d9=>?_) (by rw [yV,<-rv.length];exact hz)
    obtain ⟨k',qo⟩:=bX
    have I8:Inv Y [] (own++σ) H7 { s7 with heap:=h' }:=(I7.pins_of (pins':=[]) (λp hp=>nomatch hp)).turned (it:=D) (t':=s7.toks) (λb o hb e=>(d9.2 b hb).trans e) m9 iG
     (.inr (by show ag.heap.objs.size<=D;omega)) (λa c hy xx=>by
      obtain ⟨v',o',ho',_⟩:=I2.cell a c (dC a c hy)
      exact yN (fw ho') xx) (λp hp=>by simp [Y,gw] at hp)
    have I9:Inv Y [] (List.replicate xs.length none++σ) H7 { s7 with heap:=h' }:=I8.weak wl wk
    have eY:∀b∈fp,∃o,s5.heap.get? b=some o/\s7.heap.get? b=some o/\H7 b=none:=λb hb=>by
     obtain ⟨o,e,_⟩:=T.obj _ _ d7 b hb
     have q:=I7.pin (b,o) (jd _ (jd _ (pZ hb e)))
     exact ⟨o,e,q.1,q.2.1⟩
    have xy:∀b∈fp,b≠D:=λb hb=>by
     obtain ⟨o,ho,_⟩:=T.obj 0 _ aQ b hb
     exact yN (fw ho)
    have eT:its.toArray.push uy=(its++[uy]).toArray:=by simp
    rw [eT] at qo
    refine ⟨m',hm,i+1,ys++[y],H7,its++[uy],k',I9.pins_of (gg qo m9 λv e=>by cases e),rv.append (.cons ry .nil),T.keep (i+1) _ _ d7 λb hb o e=>?_,λb hb=>?_,w7⟩
    ·obtain ⟨o',e1,e2,_⟩:=eY b hb
     rw [e] at e1
     cases e1
     exact (d9.2 b (xy b hb)).trans e2
    ·obtain ⟨_,_,_,q⟩:=eY b hb
     exact q
   |false =>
    obtain ⟨m',hm,w7⟩:=q7
    obtain ⟨qm,m9,_,_,_⟩:=I7.pin (D,_) (jd _ (og _ jf))
    have I9:Inv Y [] (List.replicate xs.length none++σ) H7 s7:=(I7.pins_of (pins':=[]) (λp hp=>nomatch hp)).weak wl wk
    have eY:∀b∈fp,∃o,s5.heap.get? b=some o/\s7.heap.get? b=some o/\H7 b=none:=λb hb=>by
     obtain ⟨o,e,_⟩:=T.obj _ _ d7 b hb
     have q:=I7.pin (b,o) (jd _ (jd _ (pZ hb e)))
     exact ⟨o,e,q.1,q.2.1⟩
    refine ⟨m',hm,i+1,ys,H7,its,k,I9.pins_of (gg qm m9 λv e=>by cases e),rv,T.keep (i+1) _ _ d7 λb hb o e=>?_,λb hb=>?_,w7⟩
    ·obtain ⟨o',e1,e2,_⟩:=eY b hb
     rw [e] at e1
     cases e1
     exact e2
    ·obtain ⟨_,_,_,q⟩:=eY b hb
     exact q
 exact codeAny_compStart_list loop (T.self X.A 0 _ _ _ (T.keep 0 _ _ aQ (λb hb o e=>old b o e)) loop)
def xA {X:Cx} {elt iter tg:Expr} {ifs:List Expr} {xs:Ae} {pos:Pos} {scope:Scope} {wi:TI} {gt:TG} {tt:TT} {te:TE} {N:Ae} (hc:X.calm=true) (S:dQ X.env.scope scope xs) (eN:X.N=N) (dc:((".0" : Str)::(xs++N)).Nodup)
  (hi:PI X tg iter wi) (xm:∀cl C ag ai fp E,PG (fq X scope cl xs C ag ai fp E) tg gt) (mR:∀cl C ag ai fp,ku (fq X scope cl xs C ag ai fp (λ_ _=>False)) ifs tt) (he:∀cl C ag ai fp,PE (fq X scope cl xs C ag ai fp (λ_ _=>False)) elt te)
  (hs:∀v,foldedSetIterable iter X.env v=pure v:=by intro _;rfl):PE X (.ListComp elt [⟨tg,iter,ifs,0⟩] scope pos) (xl wi gt tt te xs.length) :=
 DW (M:=X.N) hc S Hid.refl (by rw [eN];exact dc) hi xm mR he hs
def NZ {X:Cx} {elt iter:Expr} {x:Str} {px pos:Pos} {scope:Scope} {wi:TI} {te:TE} {M:Ae} (hc:X.calm=true) (S:dP X.env.scope scope x) (eN:Hid scope M X.N) (dc:((".0" : Str)::x::M).Nodup)
  (hi:PI X (.Name x px) iter wi) (he:∀cl C ag ai fp,PE (lJ X M scope cl x C ag ai fp (λ_ _=>False)) elt te)
  (hs:∀v,foldedSetIterable iter X.env v=pure v:=by intro _;rfl):PE X (.ListComp elt [⟨.Name x px,iter,[],0⟩] scope pos) (DS wi te):=by
 have hN:([x]++M).Nodup:=(jU.mp dc).2
 have S':dQ X.env.scope scope [x]:=⟨S.kind,S.ncell,λy hy h=>⟨(S.names y hy h).1,(S.names y hy h).2.imp (λe=>by rw [e];exact List.mem_singleton_self _) id⟩,S.free⟩
 have gX:∀cl C ag ai fp E,PG (gw X M scope cl [x] C ag ai fp E) (.Name x px) (wE 0):=λcl C ag ai fp E=>iE (X:=gw X M scope cl [x] C ag ai fp E) (i:=0) hN rfl (.inl (wc S.hx)) (.inr (wc S.hx))
 have e:∀σ Q,(λJ H1=>mQ J te σ Q H1)=λJ H1=>ky J (wE 0) oF te 1 σ Q H1:=fun σ Q=>by
  funext J H1
  exact propext (exists_congr λW=>and_congr Iff.rfl (forall_congr' λi=>forall_congr' λm=>forall_congr' λys=>forall_congr' λH=>imp_congr Iff.rfl (or_congr Iff.rfl (and_congr Iff.rfl (and_congr Iff.rfl (forall_congr' λz=>forall_congr' λH'=>imp_congr Iff.rfl
   ⟨λh=>⟨[some z],rfl,rfl,h⟩,λ⟨_,_,_,h⟩=>h⟩))))))
 intro pins s σ H Q I h
 refine DW (te:=te) (tt:=oF) hc S' eN dc hi gX (λcl C ag ai fp=>DU) (λcl C ag ai fp=>he cl C ag ai fp) hs pins s σ H Q I ?_
 show wi σ H λJ H1=>ky J (wE 0) oF te 1 σ Q H1
 rw [<-e]
 exact h
end L2
namespace L2
open PySem PySem.Spec PyProof.Rows
def xB (z:Str):It:=⟨λi _=>i<z.cps.size,λi H v H'=>H'=H/\∃c,z.cps[i]?=some c/\v=.str ⟨#[c]⟩,λi _=>z.cps.size<=i⟩
def DY {P:Program} {w:World} {K:PySem.W.Frag} {tg:Expr} (z:Str) (t:Tok) (it:Addr) (ty:String) (oA:ty = "str_ascii_iterator" \/ ty = "str_iterator"):Turn P w K tg (xB z) [it] it (λi h=>h.IsStrIter it ty z t i) where
 mem:=by simp
 obj:=λi h st b hb=>by
  have e:b=it:=by simpa using hb
  subst e
  obtain ⟨o,e,c,d⟩:=st
  exact ⟨o,e,λv z=>by rw [d] at z;cases z⟩
 keep:=λi h h' st k=>by
  obtain ⟨o,e,r⟩:=st
  exact ⟨o,k it (by simp) o e,r⟩
 item:=by
  intro X hP hw hK hc i pins s σ H E I hf st hg
  subst hP hw hK
  obtain ⟨f0,f1,f2,f3,f4,f5⟩:=hf it (by simp)
  have W:Walks X.prog X.w X.A it [it] [it] z.cps.size (SignAt z) (λi h=>h.IsStrIter it ty z t i):=by
   rcases oA with e|e
   ·rw [e];exact Walks.strAscii (I.ok.hd hc) it z t
   ·rw [e];exact Walks.strWide (I.ok.hd hc) it z t
  refine W.item i s _ _ hg st λv h' tk hv bH kk=>?_
  obtain ⟨c,u,N0,rfl⟩:=hv
  have I1:Inv X pins σ H { s with heap:=h',toks:=tk }:=I.turned (λb o hb e=>kk b o (by simpa using hb) e) f0 f1 f3 f4 f5
  obtain ⟨o,e,cc,d⟩:=id bH
  exact ⟨_,rfl,sA (s:={ s with heap:=h',toks:=tk }) e cc d (by rcases oA with e|e<;>rw [e]<;>decide) ⟨.str ⟨#[c]⟩,H,I1,⟨u,rfl⟩,⟨rfl,c,N0,rfl⟩,bH,λb hb=>(hf b hb).1⟩⟩
 done:=by
  intro X hP hw hK hc i pins s σ H E I hf st hg
  subst hP hw hK
  obtain ⟨f0,f1,f2,f3,f4,f5⟩:=hf it (by simp)
  have hn:z.cps[i]?=none:=by
   have N1:z.cps.size<=i:=hg
   simpa using N1
  rcases oA with e|e
  ·rw [e] at st
   exact wpAny_pyNext_ascii_end (I.ok.hd hc) st hn λh' eb=>⟨rfl,I.turned (t':=s.toks) (λb o hb e=>eb b o hb e) f0 f1 f3 f4 f5⟩
  ·rw [e] at st
   exact wpAny_pyNext_wide_end (I.ok.hd hc) st hn λh' eb=>⟨rfl,I.turned (t':=s.toks) (λb o hb e=>eb b o hb e) f0 f1 f3 f4 f5⟩
 self:=λA i s Q E st h=>by
  rcases oA with e|e
  ·rw [e] at st;exact wpAny_pyIter_striter_ascii st h
  ·rw [e] at st;exact wpAny_pyIter_striter_wide st h
section
variable {X:Cx}
def N2:Dw X (λx lo hi H Q=>∃z,x=.str z/\z.length<=sizeLine/\Q (.str (Txt.slice z lo hi)) H):=by
 intro pins s σ H x v vl vu lo hi sl Q I rx hs pl pu h
 obtain ⟨z,rfl,hz,q⟩:=h
 obtain ⟨t,rfl⟩:=rx
 refine ⟨"str", _,F.slot_str_getitem.lookup,typeIs_str _ _ _,?_⟩
 have fin:∀t' k,EP X pins σ Q (.str (Txt.slice z lo hi) t') { s with toks:=k }:=λt' k=>⟨.str _,H,I.tok _,⟨_,rfl⟩,q⟩
 cases pl with
 |none =>
  cases pu with
  |none=>exact wpAny_getItem_str_slice (l:=none) (u:=none) (st:=none) hs rfl (post_val_or_str ⟨jv (Txt.slice_le z _ _) hz,fin⟩)
  |int j uj=>exact wpAny_getItem_str_slice (l:=none) (u:=some (j,uj)) (st:=none) hs rfl (post_val_or_str ⟨jv (Txt.slice_le z _ _) hz,fin⟩)
 |int i ui =>
  cases pu with
  |none=>exact wpAny_getItem_str_slice (l:=some (i,ui)) (u:=none) (st:=none) hs rfl (post_val_or_str ⟨jv (Txt.slice_le z _ _) hz,fin⟩)
  |int j uj=>exact wpAny_getItem_str_slice (l:=some (i,ui)) (u:=some (j,uj)) (st:=none) hs rfl (post_val_or_str ⟨jv (Txt.slice_le z _ _) hz,fin⟩)
theorem dD:∀{ys:Ae}{us:Ag},Vals (ys.map V.str) us->StrsAre us ys
 |[],us,r=>by rw [List.map_nil] at r;cases r;exact .nil
 |y::ys,us,r=>by
  rw [yG] at r
  cases r with
  |cons r1 r2 =>
   obtain ⟨t,e⟩:=r1
   subst e
   exact .cons y t (dD r2)
def N3:Dy X "str.join" (λx xs H Q=>∃(z:Str) (a:Addr) (ys:Ae),x=.str z/\xs=[.ref a]/\bE X.K H a (ys.map V.str)/\(ys.map (·.length)).sum+ys.length*z.length<=16777216/\Q (.str (Txt.join z ys)) H):=by
 intro pins s σ H x xs v us Q I rx r h
 obtain ⟨z,a,ys,rfl,rfl,hl,hz,q⟩:=h
 obtain ⟨t,rfl⟩:=rx
 obtain ⟨u,rfl,ru⟩:=lG r
 cases ru
 obtain ⟨its,rv,pl,_⟩:=I.list hl
 exact join_list pl.isList (by simpa using dD rv) hz λt' k=>⟨.str _,H,I.tok _,⟨_,rfl⟩,q⟩
def gY:cv X (.builtin "isinstance") (λxs H Q=>∃x n t b,xs=[x,.ty n]/\dA X.K H x t/\PySem.W.kitOne X.K t (.type n)=some b/\Q (.bl b) H):=by
 intro pins s σ H xs us Q I r h
 obtain ⟨x,n,t,b,rfl,ty,e,q⟩:=h
 obtain ⟨u,w',rfl,ru,dm⟩:=vY r
 have e2:w'=Value.type n:=dm
 subst e2
 exact Dj I ru ty e λtk=>⟨.bl b,H,I.tok _,rfl,q⟩
def N4:bz X (compareOp .In) (λx y H Q=>∃(c:Nat) (z:Str),x=.str ⟨#[c]⟩/\y=.str z/\Q (.bl (decide (c∈z.cps.toList))) H):=by
 intro pins s σ H x y v u Q I rx ry h
 obtain ⟨c,z,rfl,rfl,q⟩:=h
 refine Mw pins s σ H _ _ v u Q I rx ry ⟨_,_,rfl,rfl,?_⟩
 rw [StrLaws.found_one]
 exact q
end
section
variable {κ:Type} [DecidableEq κ]
def dF (kvs:List (κ×V)) (k:κ):Option V:=(kvs.find? λkv=>decide (kv.1=k)).map (·.2)
def putK (kvs:List (κ×V)) (k:κ) (v:V):List (κ×V) :=
 if (kvs.any λkv=>decide (kv.1=k))=true then kvs.map (λkv=>if kv.1=k then (kv.1,v) else kv) else kvs++[(k,v)]
def qp (kvs:List (κ×V)) (k:κ):List (κ×V):=kvs.filter λkv=>decide (kv.1≠k)
def sO {p:κ×V}{r:List (κ×V)}{k:κ}(e:p.1=k):dF (p::r) k=some p.2:=by simp [dF,List.find?_cons,e]
def sP {p:κ×V}{r:List (κ×V)}{k:κ}(e:¬p.1=k):dF (p::r) k=dF r k:=by simp [dF,List.find?_cons,e]
theorem DZ (k:κ):∀kvs:List (κ×V),(kvs.any λkv=>decide (kv.1=k))=(dF kvs k).isSome
 |[]=>rfl
 |p::r=>by
  rw [List.any_cons]
  by_cases e:p.1=k
  ·simp only [sO e,jV e,Bool.true_or,Option.isSome_some]
  ·rw [sP e,jp e,Bool.false_or];exact DZ k r
def D4 (kvs:List (κ×V)) (k:κ) (v:V):(putK kvs k v).length<=kvs.length+1:=by
 unfold putK
 split
 ·rw [jx];omega
 ·rw [ww,wf,List.length_nil];omega
def cZ.isSome_eq {o:Option V}{u:Option Value}(r:cZ o u):o.isSome=u.isSome:=by
 cases o with
 | none=>cases u with
  |none=>rfl
  |some _=>exact (show False from r).elim
 | some _=>cases u with
  |none=>exact (show False from r).elim
  |some _=>rfl
def KV.val {kvs:List (κ×V)}{vs:List (κ×Value)}(r:KV kvs vs) (k:κ):cZ (dF kvs k) (valueAt vs k):=by
 unfold KV at r
 induction r with
 |nil=>exact True.intro
 |@cons p q ps qs h t ih =>
  obtain ⟨h1,h2⟩:=h
  by_cases e:p.1=k
  ·have e':q.1=k:=h1.symm.trans e
   have b:valueAt (q::qs) k=some q.2:=by simp [valueAt,List.find?_cons,e']
   rw [sO e,b];exact h2
  ·have e':¬q.1=k:=λz=>e (h1.trans z)
   have b:valueAt (q::qs) k=valueAt qs k:=by simp [valueAt,List.find?_cons,e']
   rw [sP e,b];exact ih
theorem KV.any {kvs:List (κ×V)}{vs:List (κ×Value)}(r:KV kvs vs) (k:κ):(kvs.any λkv=>decide (kv.1=k))=vs.any λkv=>decide (kv.1=k):=by
 unfold KV at r
 induction r with
 |nil=>rfl
 |cons h t ih=>rw [List.any_cons,List.any_cons,ih,h.1]
def KV.repl {kvs:List (κ×V)}{vs:List (κ×Value)}(r:KV kvs vs) (k:κ) {y:V}{u:Value}(ry:RelV y u) :
  KV (kvs.map λkv=>if kv.1=k then (kv.1,y) else kv) (vs.map λkv=>if kv.1=k then (kv.1,u) else kv):=by
 unfold KV at r ⊢
 induction r with
 |nil=>exact .nil
 |@cons p q ps qs h t ih =>
  rw [yG,yG]
  refine .cons ?_ ih
  obtain ⟨h1,h2⟩:=h
  by_cases e:p.1=k
  ·rw [zx e,zx (h1.symm.trans e)];exact ⟨h1,ry⟩
  ·rw [zK e,zK (λz=>e (h1.trans z))];exact ⟨h1,h2⟩
def KV.put {kvs:List (κ×V)}{vs:List (κ×Value)}(r:KV kvs vs) (k:κ) {y:V}{u:Value}(ry:RelV y u):KV (putK kvs k y) (stored vs k u):=by
 unfold putK stored
 rw [r.any k]
 by_cases e:(vs.any λkv=>decide (kv.1=k))=true
 ·rw [zx e,zx e];exact r.repl k ry
 ·rw [zK e,zK e];exact Paired.snoc r ⟨rfl,ry⟩
def KV.drop {kvs:List (κ×V)}{vs:List (κ×Value)}(r:KV kvs vs) (k:κ):KV (qp kvs k) (without vs k):=by
 unfold KV at r ⊢
 unfold qp without
 induction r with
 |nil=>exact .nil
 |@cons p q ps qs h t ih =>
  obtain ⟨h1,h2⟩:=h
  rw [List.filter_cons,List.filter_cons]
  by_cases e:p.1=k
  ·have a:¬decide (p.1≠k)=true:=by simp [e]
   have b:¬decide (q.1≠k)=true:=by simp [h1.symm.trans e]
   rw [zK a,zK b];exact ih
  ·have e':¬q.1=k:=λz=>e (h1.trans z)
   have a:decide (p.1≠k)=true:=by simp [e]
   have b:decide (q.1≠k)=true:=by simp [e']
   rw [zx a,zx b];exact .cons ⟨h1,h2⟩ ih
def KV.keys {kvs:List (κ×V)}{vs:List (κ×Value)}(r:KV kvs vs):kvs.map (·.1)=vs.map (·.1):=by
 unfold KV at r
 induction r with
 |nil=>rfl
 |cons h t ih=>rw [yG,yG,ih,h.1]
theorem KV.length {kvs:List (κ×V)}{vs:List (κ×Value)}(r:KV kvs vs):kvs.length=vs.length:=Paired.length r
end
def qq {P:Program}{w:World}{k:Key}{u:Value}(r:RelV (kV k) u):(bb P w).is k u=true:=by
 cases k with
 |inl i=>obtain ⟨t,e⟩:=(show ∃t,u=Value.int i t from r);subst e;exact K0 P w i t
 |inr x=>obtain ⟨t,e⟩:=(show ∃t,u=Value.str x t from r);subst e;exact K1 P w x t
theorem xC {P:Program}{w:World}:∀{ks:List Key}{us:Ag},Vals (ks.map kV) us->ItemsAre (bb P w) ks us
 |[],_,r=>by rw [List.map_nil] at r;cases r;exact .nil
 |k::ks,_,r=>by
  rw [yG] at r
  cases r with
  |cons h t=>exact .cons (qq h) (xC t)
abbrev KT (H:Hp):List (List Key×V)->List (List Key×Addr×Value)->Prop:=Paired λp q=>p.1=q.1/\H q.2.1=some (.tup (p.1.map kV))/\RelV p.2 q.2.2
def KT.val {H:Hp}{kvs:List (List Key×V)}{xs:List (List Key×Addr×Value)}(r:KT H kvs xs) (k:List Key):cZ (dF kvs k) ((atKey xs k).map (·.2)):=by
 induction r with
 |nil=>exact True.intro
 |@cons p q ps qs h t ih =>
  obtain ⟨h1,_,h2⟩:=h
  by_cases e:p.1=k
  ·have e':q.1=k:=h1.symm.trans e
   have b:atKey (q::qs) k=some q.2:=by simp [atKey,List.find?_cons,e']
   rw [sO e,b];exact h2
  ·have e':¬q.1=k:=λz=>e (h1.trans z)
   have b:atKey (q::qs) k=atKey qs k:=by simp [atKey,List.find?_cons,e']
   rw [sP e,b];exact ih
def KT.repl {H:Hp}{kvs:List (List Key×V)}{xs:List (List Key×Addr×Value)}(r:KT H kvs xs) (k:List Key) {y:V}{u:Value}(ry:RelV y u) :
  KT H (kvs.map λkv=>if kv.1=k then (kv.1,y) else kv) (xs.map (putAt k u)):=by
 induction r with
 |nil=>exact .nil
 |@cons p q ps qs h t ih =>
  rw [yG,yG]
  refine .cons ?_ ih
  obtain ⟨h1,h2,h3⟩:=h
  unfold putAt
  by_cases e:p.1=k
  ·rw [zx e,zx (h1.symm.trans e)];exact ⟨h1,h2,ry⟩
  ·rw [zK e,zK (λz=>e (h1.trans z))];exact ⟨h1,h2,h3⟩
def KT.put {H:Hp}{kvs:List (List Key×V)}{xs:List (List Key×Addr×Value)}(r:KT H kvs xs) (k:List Key) {b:Addr}{y:V}{u:Value}(hb:H b=some (.tup (k.map kV))) (ry:RelV y u) :
  KT H (putK kvs k y) (storedH xs k b u):=by
 have e:(kvs.any λkv=>decide (kv.1=k))=(atKey xs k).isSome:=by
  rw [DZ,(r.val k).isSome_eq,Option.isSome_map]
 unfold putK storedH
 rw [e]
 by_cases q:(atKey xs k).isSome=true
 ·rw [zx q,zx q];exact r.repl k ry
 ·rw [zK q,zK q];exact Paired.snoc r ⟨rfl,hb,ry⟩
def KT.keeps {H H':Hp}{kvs:List (List Key×V)}{xs:List (List Key×Addr×Value)}(r:KT H kvs xs) (ht:∀b ys,H b=some (.tup ys)->H' b=some (.tup ys)):KT H' kvs xs :=
 Paired.mapP r λ_ _ z=>⟨z.1,ht _ _ z.2.1,z.2.2⟩
section
variable {P:Program} {w:World} {H:Hp} {h:Heap} {a:Addr}
def D5 {u:HO}(ok:cK P w H h) (e:Rd H a u):bo P w H h a u:=e.ok ok
def jW {kvs:List (Key×V)}(ok:cK P w H h) (e:Rd H a (.dK kvs)):kvs.length<=sizeLine/\(a==sysModules)=false/\∃vs,KV kvs vs/\h.DictOf (bb P w) a vs :=
 show bo P w H h a (.dK kvs) from D5 ok e
def xD {kvs:List (Key×V)}(ok:cK P w H h) (e:H a=some (.dK kvs)):kvs.length<=sizeLine/\(a==sysModules)=false/\∃vs,KV kvs vs/\h.DictOf (bb P w) a vs:=jW ok (.inl e)
def qr {ks:List Key}(ok:cK P w H h) (e:H a=some (.tup (ks.map kV))):(tupleKind (bb P w)).is h ks a:=by
 obtain ⟨_,its,r,o,h1,h2,n,h3⟩:=(show bo P w H h a (.tup (ks.map kV)) from ok a _ e)
 exact ⟨o,its.toArray,n,h1,h2,h3,by simpa using xC r⟩
def qt {kvs:List (List Key×V)}(ok:cK P w H h) (e:Rd H a (.dT kvs)):kvs.length<=sizeLine/\(a==sysModules)=false /\
  ∃xs,KT H kvs xs/\h.DictOfH (tupleKind (bb P w)) a xs:=by
 obtain ⟨z,y,xs,r,o,es,ep,h1,h2,h3,h4,h5⟩:=(show bo P w H h a (.dT kvs) from D5 ok e)
 refine ⟨z,y,xs,r,o,es,ep,h1,h2,h3,h4,λx hx=>?_,h5⟩
 have all:∀{l:List (List Key×V)} {m:List (List Key×Addr×Value)},KT H l m->∀x∈m,(tupleKind (bb P w)).is h x.1 x.2.1:=by
  intro l m q
  induction q with
  |nil=>intro x hx;exact nomatch hx
  |@cons p q ps qs hq t ih =>
   intro x hx
   rcases yI.mp hx with e|hx
   ·subst e
    exact qr ok (by rw [<-hq.1];exact hq.2.1)
   ·exact ih x hx
 exact all r x hx
def N5 {kvs:List (List Key×V)}(ok:cK P w H h) (e:H a=some (.dT kvs)):kvs.length<=sizeLine/\(a==sysModules)=false /\
  ∃xs,KT H kvs xs/\h.DictOfH (tupleKind (bb P w)) a xs:=qt ok (.inl e)
end
def eD (H:Hp) (a:Addr) (y:V) (r:Option V):Prop :=
 (∃kvs k,Rd H a (.dK kvs)/\y=kV k/\r=dF kvs k)\/∃kvs k b,Rd H a (.dT kvs)/\y=.ref b/\H b=some (.tup (k.map kV))/\r=dF kvs k
def fE (H:Hp) (a:Addr) (y v:V) (H':Hp):Prop :=
 (∃kvs k,H a=some (.dK kvs)/\y=kV k/\kvs.length<sizeLine/\H'=upd H a (.dK (putK kvs k v))) \/
 ∃kvs k b,H a=some (.dT kvs)/\y=.ref b/\H b=some (.tup (k.map kV))/\kvs.length<sizeLine/\H'=upd H a (.dT (putK kvs k v))
theorem eD.k {H:Hp}{a:Addr}{kvs:List (Key×V)}{k:Key}(e:H a=some (.dK kvs)):eD H a (kV k) (dF kvs k):=.inl ⟨kvs,k,.inl e,rfl,rfl⟩
def eD.t {H:Hp}{a b:Addr}{kvs:List (List Key×V)}{k:List Key}(e:H a=some (.dT kvs)) (eb:H b=some (.tup (k.map kV))):eD H a (.ref b) (dF kvs k):=.inr ⟨kvs,k,b,.inl e,rfl,eb,rfl⟩
theorem fE.k {H:Hp}{a:Addr}{kvs:List (Key×V)}{k:Key}{v:V}(e:H a=some (.dK kvs)) (hl:kvs.length<sizeLine):fE H a (kV k) v (upd H a (.dK (putK kvs k v))):=.inl ⟨kvs,k,e,rfl,hl,rfl⟩
def fE.t {H:Hp}{a b:Addr}{kvs:List (List Key×V)}{k:List Key}{v:V}(e:H a=some (.dT kvs)) (eb:H b=some (.tup (k.map kV))) (hl:kvs.length<sizeLine) :
  fE H a (.ref b) v (upd H a (.dT (putK kvs k v))):=.inr ⟨kvs,k,b,e,rfl,eb,hl,rfl⟩
section
variable {X:Cx} {pins:Ac} {σ:St} {H:Hp} {s:Shared} {a:Addr} {y v:V} {u r:Value} {o:Option V} {A:Around} {E:Aa}
def Inv.big (I:Inv X pins σ H s):sysModules<s.heap.objs.size:=by
 have h:mainGlobals<s.heap.objs.size:=(I.mod.glob.keeps I.bk).lt
 exact Nat.lt_trans (by decide) h
def N6 {Q:Aa}(hu:A.units+1<cLine) (I:Inv X pins σ H s) (g:eD H a y (some v)) (ry:RelV y u) (h:∀w' s',Inv X pins σ H s'->RelV v w'->Q w' s') :
  wpAny (model X.prog X.w) A (getItem (.ref a) u) Q E s:=by
 rcases g with ⟨kvs,k,e,ey,l⟩|⟨kvs,k,b,e,ey,eb,l⟩
 ·subst ey
  obtain ⟨z,hd,vs,rel,dd⟩:=jW I.hok e
  obtain ⟨w',hw,dm⟩:=cZ.some_of (v:=v) (o:=valueAt vs k) (by rw [l];exact rel.val k)
  exact wpAny_getItem_of (qq ry) dd.mapOf hw (h w' _ (I.tok _) dm)
 ·subst ey
  cases (show u=Value.ref b from ry)
  obtain ⟨z,hd,xs,rel,dd⟩:=qt I.hok e
  obtain ⟨w',hw,dm⟩:=cZ.some_of (v:=v) (o:=(atKey xs k).map (·.2)) (by rw [l];exact rel.val k)
  obtain ⟨p,hp,ng⟩:=Option.map_eq_some_iff.mp hw
  refine wpAny_getItem_heap (tupleKind_room_in1 hu) (qr I.hok eb) dd hp ?_
  rw [ng]
  exact h w' _ (I.tok _) dm
def N7 {Q:Aa}(hu:A.units+1<cLine) (I:Inv X pins σ H s) (g:eD H a y o) (ry:RelV y u) (h:∀s',Inv X pins σ H s'->Q (.bool o.isSome) s') :
  wpAny (model X.prog X.w) A (compareOp .In u (.ref a)) Q E s:=by
 rcases g with ⟨kvs,k,e,ey,l⟩|⟨kvs,k,b,e,ey,eb,l⟩
 ·subst ey
  obtain ⟨z,hd,vs,rel,dd⟩:=jW I.hok e
  refine wpAny_in_of (qq ry) hd dd.mapOf ?_
  rw [<-(rel.val k).isSome_eq,<-l]
  exact h _ (I.tok _)
 ·subst ey
  cases (show u=Value.ref b from ry)
  obtain ⟨z,hd,xs,rel,dd⟩:=qt I.hok e
  refine wpAny_in_heap (tupleKind_room_in1 hu) (qr I.hok eb) hd dd ?_
  have q:=(rel.val k).isSome_eq
  rw [Option.isSome_map] at q
  rw [<-q,<-l]
  exact h _ (I.tok _)
def N8 {Q:Aa}(hu:A.units+1<cLine) (I:Inv X pins σ H s) (g:eD H a y o) (ry:RelV y u) (h:∀s',Inv X pins σ H s'->Q (.bool (!o.isSome)) s') :
  wpAny (model X.prog X.w) A (compareOp .NotIn u (.ref a)) Q E s:=by
 rcases g with ⟨kvs,k,e,ey,l⟩|⟨kvs,k,b,e,ey,eb,l⟩
 ·subst ey
  obtain ⟨z,hd,vs,rel,dd⟩:=jW I.hok e
  refine wpAny_notIn_of (qq ry) hd dd.mapOf ?_
  rw [<-(rel.val k).isSome_eq,<-l]
  exact h _ (I.tok _)
 ·subst ey
  cases (show u=Value.ref b from ry)
  obtain ⟨z,hd,xs,rel,dd⟩:=qt I.hok e
  refine wpAny_notIn_heap (tupleKind_room_in1 hu) (qr I.hok eb) hd dd ?_
  have q:=(rel.val k).isSome_eq
  rw [Option.isSome_map] at q
  rw [<-q,<-l]
  exact h _ (I.tok _)
def xE {h':Heap}{t':Nat}{ob:HO}(I:Inv X pins σ H s) (mu:pU (H a)) (hs:Heap.SameBut a s.heap h') (he:∃q,h'.get? a=some q) (new:bo X.prog X.w (upd H a ob) h' a ob) :
  Inv X pins σ (upd H a ob) { s with heap:=h',toks:=t' } :=
 I.write (x:=a) (e:=a) mu (.inl rfl) (λb q hb z=>(hs.2 b hb).trans z) he new
def D6 {P:Program}{w:World}{H':Hp}{h':Heap}{kvs:List (Key×V)}{vs:List (Key×Value)}(z:kvs.length<=sizeLine) (hd:(a==sysModules)=false) (rel:KV kvs vs) (dd:h'.DictOf (bb P w) a vs) :
  bo P w H' h' a (.dK kvs):=⟨z,hd,vs,rel,dd⟩
def D7 {H':Hp}{Q:Unit->Shared->Prop}(hu:A.units+1<cLine) (I:Inv X pins σ H s) (g:fE H a y v H') (ry:RelV y u) (rv:RelV v r) (h:∀s',Inv X pins σ H' s'->Q () s') :
  wpAny (model X.prog X.w) A (setItem (.ref a) u r) Q E s:=by
 rcases g with ⟨kvs,k,e,ey,l,eH⟩|⟨kvs,k,b,e,ey,eb,l,eH⟩
 ·subst ey eH
  obtain ⟨z,hd,vs,rel,dd⟩:=xD I.hok e
  have hz:vs.length<=sizeLine:=by rw [<-rel.length];exact z
  have hl:(putK kvs k v).length<=sizeLine:=by have:=D4 kvs k v;omega
  refine wpAny_setItem_pairs (hsz:=hz) (qq ry) dd λh' ni hs=>h _ ?_
  have he:∃q,h'.get? a=some q:=let ⟨q,_,_,hq,_⟩:=ni;⟨q,hq⟩
  exact xE I (by rw [e];exact True.intro) hs he (D6 hl hd (rel.put k rv) ni)
 ·subst ey eH
  cases (show u=Value.ref b from ry)
  obtain ⟨z,hd,xs,rel,dd⟩:=N5 I.hok e
  have hz:xs.length<=sizeLine:=by rw [<-Paired.length rel];exact z
  have hl:(putK kvs k v).length<=sizeLine:=by have:=D4 kvs k v;omega
  refine wpAny_setItem_heap (hsz:=hz) (tupleKind_room_in1 hu) (qr I.hok eb) dd λh' ni hs=>h _ ?_
  obtain ⟨q,es,ep,hq,h2,h3,h4,_,h5⟩:=ni
  refine xE I (by rw [e];exact True.intro) hs ⟨q,hq⟩ ⟨hl,hd,_,(rel.put k eb rv).keeps λc ys ec=>?_,q,es,ep,hq,h2,h3,h4,h5⟩
  rw [yo (K3 ec e (λz=>nomatch z))]
  exact ec
end
section
variable {X:Cx} {pins:Ac} {σ:St} {H:Hp} {s:Shared} {a:Addr} {kvs:List (Key×V)} {A:Around} {E:Aa}
def N9 {Q:Aa} (I:Inv X pins σ H s) (e:Rd H a (.dK kvs)) (h:∀t s',Inv X pins σ H s'->Q (.int kvs.length t) s'):wpAny (model X.prog X.w) A (call (.builtin "len") [.ref a]) Q E s:=by
 obtain ⟨z,hd,vs,rel,dd⟩:=jW I.hok e
 refine call_len_dict hd dd (by rw [<-rel.length];rw [sizeLine_eq] at z;omega) ?_
 rw [<-rel.length]
 exact h _ _ (I.tok _)
end
def N_ {X:Cx} {pins:Ac} {σ:St} {H:Hp} {s:Shared} {a:Addr} {y:V} {o:Option V} (I:Inv X pins σ H s) (g:eD H a y o):s.TypeIs (.ref a) "dict" := by
 rcases g with ⟨kvs,k,e,_,_⟩|⟨kvs,k,b,e,_,_,_⟩
 ·obtain ⟨_,_,vs,_,dd⟩:=jW I.hok e
  exact dd.typeIs
 ·obtain ⟨_,_,xs,_,dd⟩:=qt I.hok e
  exact dd.typeIs
def Oc (td ty tv:TE):TS:=λD σ H=>tv σ H λv H1=>td σ H1 λx H2=>ty σ H2 λy H3=>∃a H4,x=.ref a/\fE H3 a y v H4/\D.nx σ H4
section
variable {X:Cx} {o i value:Expr} {pos pos':Pos} {td ty tv:TE}
def Od (hu:X.A.units+1<cLine) (ho:PE X o td) (hi:PE X i ty) (hv:PE X value tv) (hs:swapsWith value (some (.Subscript o i pos')) pos.line X.env=pure false) :
  PS X (.Assign [.Subscript o i pos'] value pos) (Oc td ty tv):=by
 intro pins s σ H D I h
 refine wpAny_Assign_Subscript (a0 (hv pins s σ H _ I h) λr s1 ⟨v,H1,I1,rv,q1⟩=>a0 (ho pins s1 σ H1 _ I1 q1) λu s2 ⟨x,H2,I2,rx,q2⟩=>a0 (hi pins s2 σ H2 _ I2 q2) λiv s3 gg=>?_) hs
 obtain ⟨y,H3,I3,ry,a,H4,ex,g,q3⟩:=gg
 subst ex
 obtain rfl:u=Value.ref a:=rx
 exact D7 hu I3 g ry rv λs4 I4=>⟨σ,H4,I4,q3⟩
end
def Oe {P:Program} {w:World} {H:Hp} (h:Heap) (hb:sysModules<h.objs.size):bo P w H (h.push { cls:=.type "dict", data:=.dict #[] }) h.objs.size (.dK []) :=
 ⟨jw _,beq_eq_false_iff_ne.mpr (yO (yN hb)),[],.nil,Heap.DictOf.new h⟩
def Of:TE:=λ_ H Q=>∀p,H p=none->Q (.ref p) (upd H p (.dK []))
section
variable {X:Cx} {pos:Pos}
def Og:PE X (.Dict [] [] pos) Of:=λpins s σ H Q I h =>
 wpAny_Dict_empty ⟨.ref s.heap.objs.size,_,I.laid (a:=s.heap.objs.size) (o:=.dK []) (t':=s.toks) (λ_ _ q=>yk _ q) (yf _) (Oe s.heap I.big),rfl,h _ (I.hok.fresh (yf _))⟩
end
structure M1 (X:Cx) (o:Expr) (m:Str) (apos:Pos) (e:Expr) (bg:Pos):Prop where
 base:attributeBase o m X.env (eval o X.env)=eval o X.env
 few:((backTo bg (starEach [e] X.env)).all (λx=>!x.1)&&(backToKw bg (keywordEach [] X.env)).all (λx=>x.1.isSome)
  && decide (([e]:List Expr).length+([]:List Keyword).length+(if ([]:List Keyword).isEmpty then 0 else 1)<30))=true
 line:(apos.endLine==bg.line)=true
 trees:backTo bg (starEach [e] X.env)=[(false,eval e X.env)]
structure M2 (X:Cx) (o:Expr) (m:Str) (apos:Pos) (e f:Expr) (bg:Pos):Prop where
 base:attributeBase o m X.env (eval o X.env)=eval o X.env
 few:((backTo bg (starEach [e,f] X.env)).all (λx=>!x.1)&&(backToKw bg (keywordEach [] X.env)).all (λx=>x.1.isSome)
  && decide (([e,f]:List Expr).length+([]:List Keyword).length+(if ([]:List Keyword).isEmpty then 0 else 1)<30))=true
 line:(apos.endLine==bg.line)=true
 trees:backTo bg (starEach [e,f] X.env)=[(false,eval e X.env),(false,eval f X.env)]
def XO (h:Heap) (a:Addr) (C:Value) (d:Option Addr) (head:Value):Prop :=
 ∃oe vs,h.get? a=some oe/\oe.cls=C/\oe.dict=d/\oe.data=.fields vs/\vs.size=6/\vs[1]?=some head
def TB (h:Heap) (T:Addr) (fl:Value):Prop:=∃oT ts,h.get? T=some oT/\oT.data=.fields ts/\ts[3]?=some fl
def Oh (o:Obj) (f):(o.mapFields f).dict=o.dict:=by
 obtain ⟨c,d,dt,sl⟩:=o
 cases dt<;>rfl
def XO.keeps {h h':Heap}{a:Addr}{C:Value}{d:Option Addr}{head:Value}(x:XO h a C d head) (k:∀o,h.get? a=some o->h'.get? a=some o):XO h' a C d head:=by
 obtain ⟨oe,vs,e,r⟩:=x
 exact ⟨oe,vs,k _ e,r⟩
def TB.keeps {h h':Heap}{T:Addr}{fl:Value}(x:TB h T fl) (k:∀o,h.get? T=some o->h'.get? T=some o):TB h' T fl:=by
 obtain ⟨oT,ts,e,r⟩:=x
 exact ⟨oT,ts,k _ e,r⟩
def XO.set1 {h:Heap}{a:Addr}{C:Value}{d:Option Addr}{head:Value}(x:XO h a C d head) (u:Value):XO (h.update a (Obj.mapFields (·.setIfInBounds 1 u))) a C d u:=by
 obtain ⟨oe,vs,e,hc,oH,hd,hz,h1⟩:=x
 have fg:=Obj.data_mapFields hd (·.setIfInBounds 1 u)
 refine ⟨_,_,Heap.get?_update_self _ e (Obj.isFreed_of_fields fg),(Obj.cls_mapFields _ _).trans hc,(Oh _ _).trans oH,fg,?_,?_⟩
 ·rw [Array.size_setIfInBounds];exact hz
 ·have:1<vs.size:=by omega
  simp [this]
def TB.set3 {h:Heap}{T:Addr}{fl:Value}(x:TB h T fl) (u:Value):TB (h.update T (Obj.mapFields (·.setIfInBounds 3 u))) T u:=by
 obtain ⟨oT,ts,e,hd,h3⟩:=x
 have fg:=Obj.data_mapFields hd (·.setIfInBounds 3 u)
 refine ⟨_,_,Heap.get?_update_self _ e (Obj.isFreed_of_fields fg),fg,?_⟩
 have:3<ts.size:=(Array.getElem?_eq_some_iff.mp h3).1
 simp [this]
section
variable {M:Model} {A:Around} {E:Aa} {s:Shared} {base:Heap} {env:Env} {outer:List Env} {L a:Addr} {C:Value} {d:Option Addr} {head:Value} {Q:Unit->Shared->Prop}
def D8 {b2:Bool}(fP:A.frames=some (env::outer)) (hl:s.heap.FunFrames base (env::outer)) (hf:env.frame=some L) (x:XO s.heap a C d head)
  (h:∀h' T,s.heap.objs.size<=T->XO h' a C d (.ref T)->TB h' T (rawInt L)->(∀b o,b≠a->b∉dw (env::outer)->s.heap.get? b=some o->h'.get? b=some o) ->
   (∀b o,b≠a->b∈dw (env::outer)->s.heap.get? b=some o->∃sl,h'.get? b=some { o with slots:=sl })->Q () { s with heap:=h' }) :
  wpAny M A (do let fr <-frameOf env;let pl <-entryPlaceOf L b2;let tb <-EntryCells.newEntry head fr .none (rawInt L) .none pl;setField (.ref a) 1 tb) Q E s:=by
 obtain ⟨oe,vs,e,hc,oH,hd,hz,h1⟩:=id x
 have aN:a∉dw (env::outer):=λhm=>by
  obtain ⟨_,o,ho,nf⟩:=hl.mem hm
  rw [e] at ho
  cases ho
  exact nf vs hd
 refine zB (wpAny_frameOf_fun fP hl hf λg1 sQ=>zB (wpAny_entryPlaceOf λpl D9=>?_))
 unfold EntryCells.newEntry newFields
 refine zB (pS ?_ (D9.sizeOk5 _ _ _ _ _))
 have x1:XO g1 a C d head:=⟨oe,vs,(sQ.2.1 a aN).trans e,hc,oH,hd,hz,h1⟩
 generalize oI:({ cls:=.type "traceback", dict:=none,data:=.fields ([head,.ref L,.none,rawInt L,.none]++(if pl.isEmpty then List.replicate 6 Value.none else pl)).toArray }:Obj)=ob
 have x2:XO (g1.push ob) a C d head:=x1.keeps λo q=>yk _ q
 obtain ⟨Y_,gH,e2,_,_,hd2,Za,_⟩:=id x2
 refine wpAny_setField e2 hd2 (by omega) ?_
 have aT:g1.objs.size≠a:=λz=>by
  obtain ⟨_,_,q,_⟩:=x1
  have:=yn q
  rw [<-z] at this
  exact Nat.lt_irrefl _ this
 have D_:s.heap.objs.size<=g1.objs.size:=Nat.le_of_eq sQ.1.symm
 refine h _ g1.objs.size D_ (x2.set1 _) ?_ (λb o nb nf q=>?_) (λb o nb nf q=>?_)
 ·have t0:TB (g1.push ob) g1.objs.size (rawInt L):=by
   refine ⟨ob,_,yY _ (by rw [<-oI];rfl),by rw [<-oI],?_⟩
   rcases D9 with rfl|⟨_,_,_,_,_,_,_,rfl⟩<;>simp
  exact t0.keeps λo q=>(wK _ _ (yO aT)).trans q
 ·exact (wK _ _ (yO nb)).trans (yk _ ((sQ.2.1 b nf).trans q))
 ·obtain ⟨sl,z⟩:=sQ.2.2 b o q
  exact ⟨sl,(wK _ _ (yO nb)).trans (yk _ z)⟩
def Oi (fP:A.frames=some (env::outer)) (hl:s.heap.FunFrames base (env::outer)) (hf:env.frame=some L) (x:XO s.heap a C d head)
  (ht:head=.none\/∃T0,head=.ref T0/\T0≠a/\TB s.heap T0 .none)
  (h:∀h' T,s.heap.objs.size<=T->XO h' a C d (.ref T)->TB h' T (rawInt L)->(∀b o,b≠a->.ref b≠head->b∉dw (env::outer)->s.heap.get? b=some o->h'.get? b=some o) ->
   (∀b o,b∈dw (env::outer)->s.heap.get? b=some o->∃sl,h'.get? b=some { o with slots:=sl })->Q () { s with heap:=h' }) :
  wpAny M A (noteFrame (.ref a) env) Q E s:=by
 obtain ⟨oe,vs,e,hc,oH,hd,hz,h1⟩:=id x
 have aN:a∉dw (env::outer):=λhm=>by
  obtain ⟨_,o,ho,nf⟩:=hl.mem hm
  rw [e] at ho
  cases ho
  exact nf vs hd
 unfold noteFrame
 simp only [hf]
 refine zB (jG e hd h1 ?_)
 rcases ht with rfl|⟨T0,rfl,nT,t0⟩
 ·rw [zK (by decide)]
  exact D8 fP hl hf x λh' T k1 k2 k3 k4 k5=>h h' T k1 k2 k3 (λb o nb _ nf q=>k4 b o nb nf q) λb o hb q=>k5 b o (λz=>aN (z▸hb)) hb q
 ·obtain ⟨oT,ts,eT,hdT,h3⟩:=id t0
  have TN:T0∉dw (env::outer):=λhm=>by
   obtain ⟨_,o,ho,nf⟩:=hl.mem hm
   rw [eT] at ho
   cases ho
   exact nf ts hdT
  rw [zx (show (Value.ref T0 != Value.none)=true from by simp)]
  refine zB (jG eT hdT h3 ?_)
  rw [zK (show ¬((Value.none==rawInt L)=true) from by simp [rawInt])]
  refine zB (wpAny_setField eT hdT (Array.getElem?_eq_some_iff.mp h3).1 ?_)
  have oth:∀b,b≠T0->(s.heap.update T0 (Obj.mapFields (·.setIfInBounds 3 Value.none))).get? b=s.heap.get? b:=λb hb=>wK _ _ (yO hb)
  refine D8 (s:={ s with heap:=s.heap.update T0 (Obj.mapFields (·.setIfInBounds 3 Value.none)) }) fP (hl.of_keeps λb o hb nf=>⟨o,(oth b λq=>?_).trans hb,rfl⟩) hf (x.keeps λo q=>(oth a (yO nT)).trans q) λh' T k1 k2 k3 k4 k5 =>
   h h' T (by simpa using k1) k2 k3 (λb o nb nh nf q=>k4 b o nb nf ((oth b λz=>nh (by rw [z])).trans q)) λb o hb q=>k5 b o (λz=>aN (z▸hb)) hb ((oth b λz=>TN (z▸hb)).trans q)
  rw [q,eT] at hb
  cases hb
  exact nf ts hdT
def Oj {T:Addr}{fl:Value}(x:XO s.heap a C d (.ref T)) (t:TB s.heap T fl) (ne:T≠a)
  (h:∀h',XO h' a C d (.ref T)->TB h' T .none->(∀b o,b≠T->s.heap.get? b=some o->h'.get? b=some o)->h'.objs.size=s.heap.objs.size->Q () { s with heap:=h' }):wpAny M A (setFlight (.ref a) none) Q E s:=by
 obtain ⟨oe,vs,e,_,_,hd,_,h1⟩:=id x
 obtain ⟨oT,ts,eT,hdT,h3⟩:=id t
 unfold setFlight
 refine zB (jG e hd h1 ?_)
 rw [zx (show (Value.ref T != Value.none)=true from by simp)]
 refine wpAny_setField eT hdT (Array.getElem?_eq_some_iff.mp h3).1 ?_
 exact h _ (x.keeps λo q=>(wK _ _ ne).trans q) (t.set3 _) (λb o nb q=>(wK _ _ (yO nb)).trans q) (by simp)
end
def bV (X:Cx) (pins:Ac) (H:Hp) (b:Addr):Prop :=
 H b=none/\X.s₀.heap.objs.size<=b/\b≠X.env.locals/\(∀x c,X.env.cells.lookup x=some c->c≠b)/\∀p∈X.pn++pins,p.1≠b
def bV.new {X:Cx}{pins:Ac}{σ:St}{H H':Hp}{s:Shared}{b:Addr}(I:Inv X pins σ H s) (hb:s.heap.objs.size<=b) (hn:H' b=none):bV X pins H' b:=by
 obtain ⟨f0,f1,f2,f3,f4,f5⟩:=I.fpOk (H':=H') hb hn
 exact ⟨hn,jv I.sz hb,f1,f4,f5⟩
def sR (X:Cx) (pins:Ac) (H:Hp) (h:Heap) (a C:Addr) (d:Option Addr):Prop :=
 ∃head,XO h a (.ref C) d head/\bV X pins H a/\(head=.none\/∃T,head=.ref T/\T≠a/\TB h T .none/\bV X pins H T)
def Throws (X:Cx) (E:XK):Prop:=∀(pins:Ac) (σ:St) (H:Hp) (s:Shared) (a C:Addr) (d:Option Addr),Inv X pins σ H s->sR X pins H s.heap a C d->E (.ref C) d H->X.xe (.ref a) s
def cV (P:Program) (w:World):eG:=λouter H s E e s'=>∃(a C T:Addr) (d:Option Addr) (H':Hp),e=.ref a/\s'.os=s.os/\AllBare s'.gens/\Un (dw outer) [] H H' s.heap s'.heap/\cK P w H' s'.heap /\
 XO s'.heap a (.ref C) d (.ref T)/\T≠a/\TB s'.heap T .none/\(s.heap.objs.size<=a/\H' a=none)/\(s.heap.objs.size<=T/\H' T=none)/\E (.ref C) d H'
def Ol {X:Cx}{E:XK}(t:Throws X E):Passes (cV X.prog X.w) X E:=by
 rintro pins σ H s e s' I ⟨a,C,T,d,H',rfl,os,bare,un,hok,x,ne,tb,⟨a1,a2⟩,⟨t1,t2⟩,q⟩
 have I':Inv X pins σ H' s':=I.call' (ch:=[]) os un hok bare λb z=>absurd z (by simp)
 exact t pins σ H' s' a C d I' ⟨_,x,bV.new I a1 a2,.inr ⟨T,rfl,ne,tb,bV.new I t1 t2⟩⟩ q
def gZ (a:Addr):Value->Af
 |.ref T0=>[a,T0]
 |_=>[a]
def Ea (a:Addr) (v:Value):a∈gZ a v:=by cases v<;>simp [gZ]
def Eb (a T0:Addr):T0∈gZ a (.ref T0):=by simp [gZ]
section
variable {X:Cx} {pins:Ac} {σ:St} {H:Hp} {s:Shared} {a C:Addr} {d:Option Addr} {A:Around} {E:Aa} {Q:Unit->Shared->Prop}
def Om (I:Inv X pins σ H s) (fP:A.frames=some X.stack) (cL:X.stack=X.env::X.outer) (hf:X.env.frame=some X.env.locals) (F:sR X pins H s.heap a C d)
  (h:∀s' T,Inv X pins σ H s'->XO s'.heap a (.ref C) d (.ref T)->T≠a->TB s'.heap T (rawInt X.env.locals)->bV X pins H a->bV X pins H T->Q () s'):wpAny (model X.prog X.w) A (noteFrame (.ref a) X.env) Q E s:=by
 obtain ⟨head,x,oa,ht⟩:=F
 have hl:s.heap.FunFrames X.base (X.env::X.outer):=cL▸I.stack
 have Ec:A.frames=some (X.env::X.outer):=fP.trans (congrArg some cL)
 have Ed:dw (X.env::X.outer)=X.env.locals::X.fs:=by
  unfold dw
  rw [List.filterMap_cons,hf]
  rfl
 have ko:∀b∈X.env.locals::X.fs,H b=none:=λb hb=>I.stkFree b (by rw [cL,Ed];exact hb)
 have xF:∀b u,H b=some u->Value.ref b≠head:=λb u e z=>by
  rcases ht with rfl|⟨T0,rfl,_,_,r⟩
  ·cases z
  ·cases z
   rw [r.1] at e
   cases e
 refine Oi Ec hl hf x (ht.imp id λ⟨T0,e1,e2,e3,_⟩=>⟨T0,e1,e2,e3⟩) λh' T k1 k2 k3 k4 k5=>?_
 rw [Ed] at k4 k5
 have oT:bV X pins H T:=bV.new I k1 (I.hok.fresh k1)
 have neT:T≠a:=λz=>by
  obtain ⟨_,_,e,_⟩:=x
  have:=yn e
  rw [<-z] at this
  exact Nat.lt_irrefl _ (jM this k1)
 refine h { s with heap:=h' } T ?_ k2 neT k3 oa oT
 refine I.step (g':=s.gens) (t':=s.toks) (d':=s.drawn) (ch:=gZ a head) (λb hb=>?_) (λb o n1 n2 n3 e n=>k4 b o (λz=>n3 ?_) (λz=>n3 ?_) (λz=>(yI.mp z).elim n1 n2) e)
  (λb o n1 n2 n3 e n=>k5 b o (jH _ n2) e) (λ_ _ _ _ n=>n) (λb o n3 e=>?_) (λ_ _ e=>e) (λ_ _ _ e=>e) (λb ps e=>⟨#[],by rw [e];simp⟩) (λm hm=>?_) (λb u e=>?_) I.bare
 ·have own:bV X pins H b:=by
   rcases ht with rfl|⟨T0,rfl,_,_,r⟩
   ·have z:b=a:=by simpa [gZ] using hb
    rw [z];exact oa
   ·have z:b=a\/b=T0:=by simpa [gZ] using hb
    rcases z with z|z
    ·rw [z];exact oa
    ·rw [z];exact r
  exact ⟨.inr own.2.1,own.2.2.1,own.2.2.2.1,own.2.2.2.2⟩
 ·rw [z]
  exact Ea a head
 ·rw [<-z]
  exact Eb a b
 ·by_cases hb:b∈X.env.locals::X.fs
  ·obtain ⟨sl,z⟩:=k5 b o hb e
   exact ⟨_,z⟩
  ·exact ⟨o,k4 b o (λz=>n3 (by rw [z];exact Ea a head)) (λz=>n3 (by rw [<-z];exact Eb a b)) hb e⟩
 ·obtain ⟨o,es,ep,ho,r⟩:=hm
  obtain ⟨sl,z⟩:=k5 _ o jf ho
  exact ⟨_,es,ep,z,r⟩
 ·refine (I.hok b u e).stay (λc v hc q=>?_) (λ_ q=>q) λ_ _ q=>q
  have tr:∃u',H c=some u':=by
   rcases hc with z|z
   ·exact ⟨u,by rw [z];exact e⟩
   ·exact ⟨_,z⟩
  obtain ⟨u',eu⟩:=tr
  exact k4 c v (λz=>by rw [z,oa.1] at eu;cases eu) (xF c u' eu) (λz=>by rw [ko c z] at eu;cases eu) q
def Oo {T:Addr}{fl:Value}(I:Inv X pins σ H s) (x:XO s.heap a (.ref C) d (.ref T)) (ne:T≠a) (tb:TB s.heap T fl) (oa:bV X pins H a) (oT:bV X pins H T)
  (h:∀s',Inv X pins σ H s'->XO s'.heap a (.ref C) d (.ref T)->TB s'.heap T .none->Q () s'):wpAny (model X.prog X.w) A (setFlight (.ref a) none) Q E s:=by
 refine Oj x tb ne λh' k1 k2 k3 _=>h { s with heap:=h' } ?_ k1 k2
 exact I.turned (t':=s.toks) (it:=T) (λb o nb e=>k3 b o nb e) oT.1 oT.2.2.1 (.inr oT.2.1) oT.2.2.2.1 oT.2.2.2.2
end
section
variable {P:Program} {w:World} {K:PySem.W.Frag} {mg:Ab} {base:Heap}
def eI.okX {x qual:Str}{st:Stmt}{f:Addr}{fd:FuncData}{N ps:Ae}{k:Nat}{sp:Sp}(F:eI K x qual st f fd) (S:af N ps (zL st)) (len:∀vs H Q E,sp vs H Q E->vs.length=ps.length)
  (fG:∀(bh:Value) (A:Around) (outer:List Env) (s:Shared) (H:Hp) (vs:List V) (Q:VK) (E:XK),br k (A.deeper (envOfC qual (zL st) s.heap.objs.size f bh))->sp vs H Q E ->
   ∃t,cU (dY (cV P w) P w K mg base N qual (zL st) f bh A outer s H E) (jJ st) t/\t { nx:=λ_ H'=>Q .non H',rt:=Q } (start N vs) H):bU P w K mg base (cV P w) (k+1) f fd ps sp:=by
 obtain ⟨oc,od,kV,doc,pm,an,bh,ct,fL,rfl,lk,gf⟩:=F.ex
 exact Du lk gf S len λA outer s H vs Q E hr iF=>fG bh A outer s H vs Q E hr iF
end
end L2
namespace L2
open PySem PySem.Spec PyProof.Rows PySem.W PySem.Builtin PySem.Builtin.ObjectAttr
def lQ:List Value->Bool
 |[.type a,.type b,.type c,.type d]=>a == "ValueError" && b == "Exception" && c == "BaseException" && d == "object"
 |.ref _::r=>lQ r
 |_=>false
def sS (K:Frag) (C:Addr):Bool:=(clsIn K C).any λcd=>lQ cd.mro
def sV (C t:Addr) (d:Option Addr) (a:Addr):HO:=.ext λ_ _ h=>h.get? a=some { cls:=.ref C,dict:=d,data:=.fields #[.ref t,.none,.none,.none,.bool false,.none] }
structure nj (K:PySem.W.Frag) (C:Addr) (f:Str):Prop where
 sa:PySem.W.findIn K (.ref C) "__setattr__" = some (some (.builtin "object.__setattr__"))
 line:sS K C=true
 no:PySem.W.takerIn K C f=some none
 hd:PySem.W.hasDictIn K C=true
def Ot (K:PySem.W.Frag) (ta tv:TE) (f:Str):TS:=λD σ H=>tv σ H λy H1=>ta σ H1 λx H2=>∃a C t,x=.ref a/\H2 a=some (sV C t none a)/\nj K C f /\
 ∀d,H2 d=none->D.nx σ (upd (upd H2 d (.xd [(f,y)])) a (sV C t (some d) a))
abbrev n8:Ag:=[.type "ValueError", .type "Exception", .type "BaseException", .type "object"]
structure Ee (K:Frag) (C:Addr):Prop where
 ob:∃nm q N bs bm i_ sn sub ab col dd k0 k1 k2 k3 k5,K.lookup C=some (excClassObj nm q C N bs bm i_ sn sub ab col dd k0 k1 k2 k3 k5 "ValueError.__new__")/\tailIn K n8 bm=true/\nsOkIn K N=true
 kp:keepIn K (.ref C)=true
structure vA (K:Frag) (C f:Addr):Prop where
 ob:∃nm q N bs bm i_ sn sub ab col dd k0 k1 k2 k3 k5,K.lookup C=some (excClassObj nm q C N bs bm i_ sn sub ab col dd k0 k1 k2 k3 k5 "ValueError.__new__")/\tailIn K n8 bm=true/\nsOkIn K N=true/\nsIn K N "__init__" = some (some (.ref f))
 fn:isFn K (.ref f)=true
 kp:keepIn K (.ref C)=true
def del (H:Hp) (a:Addr):Hp:=λb=>if b=a then none else H b
def Ou {H:Hp}{a:Addr}:del H a a=none:=zx rfl
def oJ {H:Hp}{a b:Addr}(h:b≠a):del H a b=H b:=zK h
def Inv.drop {X:Cx}{pins:Ac}{σ:St}{H:Hp}{s:Shared}{a:Addr}{φ:Program->World->Heap->Prop}(I:Inv X pins σ H s) (ha:H a=some (.ext φ)):Inv X pins σ (del H a) s:=by
 have ne:∀b u,H b=some u->(∀φ,u ≠ .ext φ)->b≠a:=λb u e n z=>by
  rw [z,ha] at e
  cases e
  exact n _ rfl
 have t:Inv X pins σ (del H a) { s with heap:=s.heap,toks:=s.toks }:=I.un ⟨λb o e _ _ _=>e,λb o e _ _ _=>⟨o.slots,e⟩,λb o e n _=>?_,λb o e _=>⟨o,e⟩,λb xs e=>?_,λb o u e=>?_,λb ps e=>?_⟩ λb u e=>?_
 ·exact t
 ·unfold del
  split<;>first|rfl|exact n
 ·rw [oJ (ne b _ e λ_ z=>by cases z)];exact e
 ·rw [oJ (ne b _ e λ_ z=>by cases z)];exact e
 ·exact ⟨#[],by rw [oJ (ne b _ e λ_ z=>by cases z),e];simp⟩
 ·have z:b≠a:=λz=>by rw [z,Ou] at e;cases e
  rw [oJ z] at e
  refine (I.hok b u e).stay (λ_ _ _ q=>q) (λc q=>?_) λc xs q=>?_
  ·rw [oJ (ne c _ q λ_ z=>by cases z)];exact q
  ·rw [oJ (ne c _ q λ_ z=>by cases z)];exact q
section
variable {f C:Addr}
def Ov (C:Addr) (f:Str):Sp:=λvs H Q _=>∃a t y,vs=[.ref a,y]/\H a=some (sV C t none a)/\∀d,H d=none->Q .non (upd (upd H d (.xd [(f,y)])) a (sV C t (some d) a))
end
def XP (X:Cx) (pins:Ac) (σ:St) (E:XK) (u:Value) (s':Shared):Prop:=∃(a C:Addr) (d:Option Addr) (H':Hp),u=.ref a/\Inv X pins σ H' s'/\sR X pins H' s'.heap a C d/\E (.ref C) d H'
abbrev TX:=St->Hp->VK->XK->Prop
def kA (C:Addr) (d:Option Addr) (a:Addr):HO:=.ext λ_ _ h=>∃T:Addr,XO h a (.ref C) d (.ref T)
section
variable {X:Cx} {pins:Ac} {σ:St} {H:Hp} {s:Shared} {a C d:Addr} {fs:List (Str×V)}
def Ow (I:Inv X pins σ H s) (ha:H a=some (kA C (some d) a)) (hd:H d=some (.xd fs)):∃ox od,InstAt s.heap a ox C (some od)/\∀n,∃o,lookIn n od=some o/\cZ (fs.lookup n) o:=by
 obtain ⟨T,oe,vs,e,hc,oH,xG,_⟩:=(show bo X.prog X.w H s.heap a (kA C (some d) a) from I.hok a _ ha).1
 obtain ⟨mA,hn,r⟩:=(show bo X.prog X.w H s.heap d (.xd fs) from I.hok d _ hd)
 obtain ⟨od,ho,hl⟩:=Dc hn
 refine ⟨oe,od,⟨e,hc,by unfold notCls;rw [xG],by rw [oH];exact ho⟩,λn=>⟨mA n,hl n,r n⟩⟩
end
def Ox (X:Cx) (CX:eG) (k:Nat) (f:Addr) (sp:Sp):Prop:=∃fd ps,bU X.prog X.w X.K X.mg X.base CX k f fd ps sp/\keepIn X.K (.ref f)=true/\Binds X.K fd ps []
def Oy (X:Cx) (CX:eG) (k:Nat) (E:XK) (tf:TE) (t:TA):TE:=fun σ H Q=>tf σ H λv H0=>∃f sp,v=.ref f/\Ox X CX k f sp/\t σ H0 λvs H1=>sp vs H1 Q E
def Oz {X:Cx}{CX:eG}{k:Nat}{E:XK}{x:Str}{p pos:Pos}{e:Expr}{es:List Expr}{tf:TE}{t:TA}(hf:PE X (.Name x p) tf) (hr:br k X.A) (hx:Passes CX X E) (ha:PA X (e::es) t)
  (he:starEach (e::es) X.env=(false,eval e X.env)::starEach es X.env:=by rfl) (bX:(backTo pos (starEach es X.env)).any (·.1)=false:=by rfl):PE X (.Call (.Name x p) (e::es) [] pos) (Oy X CX k E tf t):=by
 intro pins s σ H Q I h
 refine wpAny_Call_Name_kw (a0 (hf pins s σ H _ I h) λu s1 gg=>?_)
 obtain ⟨v,H0,I0,rv,f,sp,ev,⟨fd,ps,F,hk,hb⟩,q⟩:=gg
 subst ev
 obtain rfl:u=Value.ref f:=rv
 refine PySem.W.callWith_K (h₀:=X.base) I.ok.mod.kin hk (a0 (ha pos pins s1 σ H0 _ I0 q) λus s2 ⟨vs,H1,I1,r,q1⟩=>⟨I1.kIn,?_⟩) he bX
 exact sH F hr hb .nil hx I1 r (by rw [List.append_nil];exact q1)
end L2
namespace L2
open PySem PySem.Spec PyProof.Rows PySem.W
def xH (X:Cx) (pins:Ac) (H:Hp) (h:Heap) (a C:Addr) (d:Option Addr):Prop :=
 ∃T,XO h a (.ref C) d (.ref T)/\T≠a/\TB h T (rawInt X.env.locals)/\bV X pins H a/\bV X pins H T
def xI (X:Cx) (pins:Ac) (H:Hp) (h:Heap) (a C:Addr) (d:Option Addr):Prop:=sR X pins H h a C d\/xH X pins H h a C d
def wy (X:Cx) (E:XK):Prop:=∀(pins:Ac) (σ:St) (H:Hp) (s:Shared) (a C:Addr) (d:Option Addr),Inv X pins σ H s->xI X pins H s.heap a C d->E (.ref C) d H->X.xe (.ref a) s
def wy.one {X:Cx}{E:XK}(t:wy X E):Throws X E:=λpins σ H s a C d I F q=>t pins σ H s a C d I (.inl F) q
def XA (X:Cx) (Er:XK) (e:Value) (s:Shared):Prop:=∃(pins:Ac) (σ:St) (H:Hp) (a C:Addr) (d:Option Addr),e=.ref a/\Inv X pins σ H s/\xI X pins H s.heap a C d/\Er (.ref C) d H
section
variable {X:Cx} {pins:Ac} {σ:St} {H:Hp} {s:Shared} {a C:Addr} {d:Option Addr} {A:Around} {E:Aa} {Q:Unit->Shared->Prop} {Er:XK}
def zN:wy (X.wish (XA X Er)) Er:=λpins σ H s a C d I F q=>⟨pins,σ,H,a,C,d,rfl,I.unwish,F,q⟩
def Ef (I:Inv X pins σ H s) (fP:A.frames=some X.stack) (cL:X.stack=X.env::X.outer) (hf:X.env.frame=some X.env.locals) (F:xI X pins H s.heap a C d)
  (h:∀s' T,Inv X pins σ H s'->XO s'.heap a (.ref C) d (.ref T)->T≠a->TB s'.heap T (rawInt X.env.locals)->bV X pins H a->bV X pins H T->Q () s'):wpAny (model X.prog X.w) A (noteFrame (.ref a) X.env) Q E s:=by
 rcases F with F|⟨T,x,ne,tb,oa,oT⟩
 ·exact Om I fP cL hf F h
 ·obtain ⟨oe,vs,e,_,_,hd,_,h1⟩:=id x
  obtain ⟨ot,ts,et,xG,h3⟩:=id tb
  unfold noteFrame
  simp only [hf]
  refine zB (jG e hd h1 ?_)
  rw [zx (show (Value.ref T != Value.none)=true by simp)]
  refine zB (jG et xG h3 ?_)
  rw [zx (by simp)]
  exact yb (h s T I x ne tb oa oT)
def OA {T f:Addr}{fl:Value}(x:XO s.heap a (.ref C) d (.ref T)) (t:TB s.heap T fl) (ne:T≠a)
  (h:∀h',XO h' a (.ref C) d (.ref T)->TB h' T (rawInt f)->(∀b o,b≠T->s.heap.get? b=some o->h'.get? b=some o)->Q () { s with heap:=h' }) {M:Model}:wpAny M A (setFlight (.ref a) (some f)) Q E s:=by
 obtain ⟨oe,vs,e,_,_,hd,_,h1⟩:=id x
 obtain ⟨oT,ts,eT,hdT,h3⟩:=id t
 unfold setFlight
 refine zB (jG e hd h1 ?_)
 rw [zx (show (Value.ref T != Value.none)=true by simp)]
 refine wpAny_setField eT hdT (Array.getElem?_eq_some_iff.mp h3).1 ?_
 exact h _ (x.keeps λo q=>(wK _ _ ne).trans q) (t.set3 _) λb o nb q=>(wK _ _ (yO nb)).trans q
def jq (cL:X.stack=X.env::X.outer) (hf:X.env.frame=some X.env.locals):PassesOwn (model X.prog X.w) X.A X.env (XA X Er):=by
 rintro e s ⟨pins,σ,H,a,C,d,rfl,I,F,q⟩
 unfold notedBy
 refine Ef I I.ok.frames cL hf F λs2 T I2 x2 ne OB oa oT=>?_
 unfold cameBackBy
 obtain ⟨oe,vs,e2,_,_,hd,_,h1⟩:=id x2
 refine zB (jG e2 hd h1 ?_)
 rw [zK (show ¬((Value.ref T==Value.none)=true) by simp),hf]
 refine OA x2 OB ne λh' x3 xJ k3=>⟨pins,σ,H,a,C,d,rfl,?_,.inr ⟨T,x3,ne,xJ,oa,oT⟩,q⟩
 exact I2.turned (t':=s2.toks) (it:=T) (λb o nb e=>k3 b o nb e) oT.1 oT.2.2.1 (.inr oT.2.1) oT.2.2.2.1 oT.2.2.2.2
def cU.throwing {st:List Stmt}{t:TS}(h:cU (X.wish (XA X Er)) st t) (ht:wy X Er):cU X st t:=λpins s σ H D I hw =>
 ju (h pins s σ H D (I.wish _) hw) (λ_ _ q=>q.unwish) λe s' ⟨pins,σ,H,a,C,d,ee,I1,F,q⟩=>ee▸ht pins σ H s' a C d I1 F q
def qu (t:wy X Er):Passes (cV X.prog X.w) X Er:=Ol t.one
end
def OC {P:Program}{w:World}{K:PySem.W.Frag}{mg:Ab}{base:Heap}{N:Ae}{qual:Str}{scope:Scope}{f:Addr}{cd:Value}{A:Around}{outer:List Env}{s:Shared}{H:Hp}{E:XK} :
  wy (dY (cV P w) P w K mg base N qual scope f cd A outer s H E) E:=by
 intro pins σ H1 s1 a C d I F q
 show wpAny (model P w) (A.deeper (envOfC qual scope s.heap.objs.size f cd)) (leaving (envOfC qual scope s.heap.objs.size f cd) (.ref a)) _ _ s1
 unfold leaving
 refine zB (Ef I I.ok.frames rfl rfl F λs2 T I2 x ne tb oa oT=>Oo I2 x ne tb oa oT λs3 I3 x3 xJ=>?_)
 exact ⟨a,C,T,d,H1,rfl,I3.os,I3.bare,I3.base,I3.hok,x3,ne,xJ,⟨oa.2.1,oa.1⟩,⟨oT.2.1,oT.1⟩,q⟩
section
variable {P:Program} {w:World} {K:PySem.W.Frag} {mg:Ab} {base:Heap}
def eI.okT {x qual:Str}{st:Stmt}{f:Addr}{fd:FuncData}{N ps:Ae}{k:Nat}{sp:Sp}(F:eI K x qual st f fd) (S:af N ps (zL st)) (len:∀vs H Q E,sp vs H Q E->vs.length=ps.length)
  (fG:∀(bh:Value) (A:Around) (outer:List Env) (s:Shared) (H:Hp) (vs:List V) (Q:VK) (E:XK),br k (A.deeper (envOfC qual (zL st) s.heap.objs.size f bh))->sp vs H Q E ->
   ∃t,cU ((dY (cV P w) P w K mg base N qual (zL st) f bh A outer s H E).wish (XA (dY (cV P w) P w K mg base N qual (zL st) f bh A outer s H E) E)) (jJ st) t/\t { nx:=λ_ H'=>Q .non H',rt:=Q } (start N vs) H):bU P w K mg base (cV P w) (k+1) f fd ps sp :=
 eI.okX F S len λbh A outer s H vs Q E hr hs=>let ⟨t,h1,h2⟩:=fG bh A outer s H vs Q E hr hs;⟨t,cU.throwing h1 OC,h2⟩
end
end L2
namespace L2
open PySem PySem.Spec PyProof.Rows PySem.W PySem.Builtin PySem.Builtin.ObjectAttr
section
variable {prog:Program} {w:World} {A:Around} {E:Aa} {K:Frag} {x C:Addr} {s:Shared} {ox:Obj} {od:Option Obj} {name:Str} {tk:Tok}
structure lR (K:Frag) (C:Addr):Prop where
 ga:findIn K (.ref C) "__getattribute__" = some (some (.builtin "BaseException.__getattribute__"))
 hk:findIn K (.ref C) "__getattr__" = some none
 hB:mroIn K C (.type "BaseException")=some true
def OD {fill expr:Bool}{Q:Aa}(X:K.In s.heap) (I:InstAt s.heap x ox C od) (G:lR K C)
  (h:wpAny (model prog w) A.in1 (Builtin.«object.__getattribute__» ⟨[.ref x,.str name tk],[]⟩) (λfin s'=>∃v,fin=.done (.ret v)/\handedIn v=true/\Q v s') (λ_ _=>False) s) :
  wpAny (model prog w) A (getAttrBy (.ref x) (.str name tk) fill expr) Q E s:=by
 have L0:=I.type (M:=model prog w)
 have L1:=looks_findIn (M:=model prog w) X G.ga
 have L2:=looks_findIn (M:=model prog w) X G.hk
 have OE:Looks (model prog w) s.heap (isInstance (.ref x) (.type "BaseException")) true:=I.type.andThen (looks_mroIn X G.hB)
 unfold getAttrBy
 refine wv (zB (L0.here (zB (L1.here ?_))))
 dsimp only
 rw [zK (show ¬((onTheHeap (Value.ref C)&&Value.builtin "BaseException.__getattribute__" == Value.builtin "object.__getattribute__")=true) by
  rw [show (Value.builtin "BaseException.__getattribute__" == Value.builtin "object.__getattribute__")=false by decide +kernel,Bool.and_false];exact Bool.false_ne_true)]
 unfold getAttrByItsOwn hookBefore
 rw [zx (show onTheHeap (Value.ref C)=true from rfl)]
 refine zB (L2.here (zB (wpAny_attempt (wv ?_))))
 unfold callGetattribute
 rw [zK (show ¬((expr&&onTheHeap (Value.builtin "BaseException.__getattribute__"))=true) by cases expr<;>exact Bool.false_ne_true)]
 unfold boundAndCalled
 refine zB (wpAny_of_eq (PySem.F.excAttr_ValueError.ga.bind (.ref x)) ?_)
 refine wpAny_call (codeAny_call_builtin PySem.F.excAttr_ValueError.ga.plain PySem.F.entry_bexc_ga (@check_slot (model prog w) _ _ s "BaseException.__getattribute__" "BaseException" "__getattribute__" (.ref x) [.str name tk] [] _ (by decide +kernel) (by decide +kernel) OE (PySem.F.args_bexc_ga (.ref x) (.str name tk)) ?_))
 refine ju h (λfin s' ⟨v,ef,hv,q⟩=>?_) λ_ _ z=>z.elim
 subst ef
 show wpAny _ _ (handedOut v) _ _ _
 rw [handedOut_of hv]
 exact yb q
def OG {v:Value}{Q:Fin->Shared->Prop}(X:K.In s.heap) (I:InstAt s.heap x ox C od) (hf:findObj K C od name=some (.value v)) (h:Q (.done (.ret v)) s) :
  wpAny (model prog w) A (Builtin.«object.__getattribute__» ⟨[.ref x,.str name tk],[]⟩) Q E s:=by
 have L0:=I.type (M:=model prog w)
 have L1:=looks_find (M:=model prog w) X I hf
 exact zB (yb (zB (yb (zB (L0.here (zB (L1.here (yb h))))))))
end
structure qv (K:Frag) (C:Addr):Prop where
 g:lR K C
 hd:hasDictIn K C=true
 ha:findIn K (.ref C) "__class__" = some (some (.builtin "object.__class__"))
 hn:specialIn K (.builtin "object.__class__") "__get__" = some (some (.builtin "getset_descriptor.__get__"))
 tk:takesIn K (.builtin "object.__class__")=some true
 hm:mroIn K C (.type "object")=some true
section
variable {X:Cx} {pins:Ac} {σ:St} {H:Hp} {s:Shared} {a C d:Addr} {fs:List (Str×V)} {A:Around} {E:Aa}
def OH {b:Bool}{f:Str}{v:V}{Q:Aa}(I:Inv X pins σ H s) (ha:H a=some (kA C (some d) a)) (hd:H d=some (.xd fs)) (g:lR X.K C) (hh:hasDictIn X.K C=true) (no:findIn X.K (.ref C) f=some none) (l:fs.lookup f=some v)
  (h:∀u s',Inv X pins σ H s'->RelV v u->Q u s'):wpAny (model X.prog X.w) A (getAttr (.ref a) f b) Q E s:=by
 obtain ⟨ox,od,J,hl⟩:=Ow I ha hd
 obtain ⟨o,ho,r⟩:=hl f
 rw [l] at r
 obtain ⟨u,rfl,ru⟩:=cZ.some_of (v:=v) (o:=o) r
 unfold getAttr
 refine zB (wpAny_mkText ?_)
 exact OD (s:={ s with toks:=s.toks+1 }) I.kIn J g (OG (s:={ s with toks:=s.toks+1 }) I.kIn J (findObj_own hh no rfl ho) ⟨u,rfl,Df ru,h u _ (I.tok _) ru⟩)
end
end L2
namespace L2
open PySem PySem.Spec PyProof.Rows PySem.W
structure nk (prog:Program) (w:World) (it src:Addr) (xs:Array Value) (St:Nat->Heap->Prop):Prop where
 at_:∀{k h h'},St k h->(∀o,h.get? it=some o->h'.get? it=some o)->(∀o,h.get? src=some o->h'.get? src=some o)->St k h'
 lt:∀{k h},St k h->it<h.objs.size
 item:∀{A:Around} {E:Aa} {s:Shared} {k:Nat} {x:Value} {Q:Aa},St k s.heap->xs[k]?=some x->(∀h',St (k+1) h'->Heap.SameBut it s.heap h'->Q x { s with heap:=h' }) ->
  wpAny (model prog w) A (Builtin.SmallTypes.nextOf (.ref it)) Q E s
 stop:∀{A:Around} {E:Aa} {s:Shared} {k:Nat} {Q:Aa},A.handled=none->St k s.heap->xs[k]?=none ->
  (∀h' e,Heap.ExtBut it s.heap h'->(∃o,h'.get? e=some o/\o.cls=.type "StopIteration")->E (.ref e) { s with heap:=h' })->wpAny (model prog w) A (Builtin.SmallTypes.nextOf (.ref it)) Q E s
def qw (it t:Addr) (xs:Array Value) (k:Nat) (h:Heap):Prop:=IsTupIter h it t k/\IsTup h t xs
def kB {prog:Program}{w:World}{it t:Addr}{xs:Array Value}(ne:t≠it):nk prog w it t xs (qw it t xs) where
 at_:=λ{k h h'} q k1 k2=>by
  obtain ⟨⟨o,ho,r⟩,⟨o',ho',r'⟩⟩:=q
  exact ⟨⟨o,k1 o ho,r⟩,⟨o',k2 o' ho',r'⟩⟩
 lt:=λq=>let ⟨⟨_,ho,_⟩,_⟩:=q;yn ho
 item:=λ{A E s k x Q} q hx hQ=>by
  obtain ⟨hit,ht⟩:=q
  obtain ⟨o,ho,hc,hd⟩:=id hit
  obtain ⟨ol,xK,_,nl,xM⟩:=id ht
  unfold Builtin.SmallTypes.nextOf
  refine zB (wpAny_callSpecial?_slot (name:=Str.ofString "__next__") hit.typeIs slot_tupleiter_next (wJ slot_tupleiter_next hit.typeIs entry_tupleiter_next ?_ (args_tupleiter_next _)))
  change wpAny _ _ (field (.ref it) 0 >>= _) _ _ s
  refine zB (jG ho hd (x:=.ref t) rfl ?_)
  rw [zK (by simp)]
  change wpAny _ _ (field (.ref it) 1 >>= _) _ _ s
  refine zB (jG ho hd (x:=.int k 0) rfl ?_)
  change wpAny _ _ (seqItems? (.ref t) >>= _) _ _ s
  refine zB (wpAny_seqItems xK xM ?_)
  simp only [hx,Int.toNat_natCast]
  have fl:=Obj.data_mapFields hd (·.setIfInBounds 1 (rawInt (k+1)))
  refine zB (wpAny_setField ho hd (by simp) (yb ⟨x,rfl,yb (hQ _ ⟨⟨_,Heap.get?_update_self _ ho (Obj.isFreed_of_fields fl),(Obj.cls_mapFields ..).trans hc,?_⟩,?_⟩ (Heap.SameBut.update ..))⟩))
  ·rw [fl];simp [rawInt]
  ·exact ht.extBut (Heap.SameBut.update ..).extBut ne
 stop:=λ{A E s k Q} hh q hx hE=>by
  obtain ⟨hit,ht⟩:=q
  obtain ⟨o,ho,hc,hd⟩:=id hit
  obtain ⟨ol,xK,_,nl,xM⟩:=id ht
  unfold Builtin.SmallTypes.nextOf
  refine zB (wpAny_callSpecial?_slot (name:=Str.ofString "__next__") hit.typeIs slot_tupleiter_next (wJ slot_tupleiter_next hit.typeIs entry_tupleiter_next ?_ (args_tupleiter_next _)))
  change wpAny _ _ (field (.ref it) 0 >>= _) _ _ s
  refine zB (jG ho hd (x:=.ref t) rfl ?_)
  rw [zK (by simp)]
  change wpAny _ _ (field (.ref it) 1 >>= _) _ _ s
  refine zB (jG ho hd (x:=.int k 0) rfl ?_)
  change wpAny _ _ (seqItems? (.ref t) >>= _) _ _ s
  refine zB (wpAny_seqItems xK xM ?_)
  simp only [hx,Int.toNat_natCast]
  refine zB (wpAny_rule (zB (wpAny_setField ho hd (by simp) ?_)))
  change wpAny _ _ (newExc (.type "StopIteration") [] >>= _) _ _ _
  refine zB ?_
  simp only [newExc,newTuple]
  refine zB (pS (zB (m:=firstArgMember _ _) (wpAny_of_eq (a:=Value.none) (by first|rfl|(simp only [firstArgMember];rfl)) (pS ?_ (by size_fits)))) (by size_fits))
  simp only [raiseNew]
  refine zB (wpAny_handled ?_)
  first|rw [show A.in1.handled=none from hh]|rw [hh]
  exact zB (yb (wpAny_throw (hE _ _ (((Heap.SameBut.update ..).extBut.push _).push _) ⟨_,yY _ rfl,rfl⟩)))
section
variable {prog:Program} {w:World} {A:Around} {E:Aa} {s:Shared} {z TI TO i1 i2 t1 t2:Addr} {k:Nat} {xs ys:Array Value} {x y a b:Value} {S1 S2:Nat->Heap->Prop}
def nk.by_same (S:nk prog w i1 t1 xs S1) {h h':Heap}{c:Addr}(q:S1 k h) (hs:Heap.SameBut c h h') (n1:i1≠c) (n2:t1≠c):S1 k h' :=
 S.at_ q (λo e=>hs.extBut _ _ n1 e) λo e=>hs.extBut _ _ n2 e
def OI {Q:Aa}(D:ZipApart z TI TO i1 i2 t1 t2) (U1:nk prog w i1 t1 xs S1) (U2:nk prog w i2 t2 ys S2) (hz:IsZip s.heap z TI TO .none) (gh:IsPair s.heap TI (.ref i1) (.ref i2)) (fy:IsPair s.heap TO a b)
  (q1:S1 k s.heap) (q2:S2 k s.heap) (hx:xs[k]?=some x) (hy:ys[k]?=some y)
  (hQ:∀h',IsZip h' z TI TO (rawInt s.heap.objs.size)->IsPair h' TO x y->S1 (k+1) h'->S2 (k+1) h'->IsPair h' s.heap.objs.size x y ->
   (∀c o,c≠z->c≠TO->c≠i1->c≠i2->s.heap.get? c=some o->h'.get? c=some o)->Q (.ref s.heap.objs.size) { s with heap:=h' }) :
  wpAny (model prog w) A (Builtin.«zip.__next__» ⟨[.ref z],[]⟩) (λfin s'=>∃v,fin=.done (.ret v)/\Q v s') E s:=by
 change wpAny _ _ (field (.ref z) 2 >>= _) _ _ _
 refine zB (jG hz rfl (x:=.bool false) rfl ?_)
 change wpAny _ _ (field (.ref z) 3 >>= _) _ _ _
 refine zB (jG hz rfl (x:=.ref TI) rfl (zB (wpAny_seqItems gh rfl ?_)))
 change wpAny _ _ (Builtin.SmallTypes.ownedTupleIsFree (.ref z) >>= _) _ _ _
 refine zB ?_
 unfold Builtin.SmallTypes.ownedTupleIsFree
 refine zB (jG hz rfl (x:=.none) rfl (yb ?_))
 rw [zx rfl]
 refine zB (wpAny_rule (zB (jG hz rfl (x:=.ref TO) rfl (zB (wpAny_setField_rec hz (by simp) λh1 z1 e1=>?_)))))
 replace z1:IsZip h1 z TI TO .ellipsis:=z1
 refine zB ?_
 simp only [List.zipIdx_cons,List.zipIdx_nil,List.forIn_cons,List.forIn_nil]
 refine zB (zB (wpAny_onRaise ?_))
 change wpAny _ _ (Builtin.SmallTypes.nextOf (.ref i1) >>= _) _ _ _
 refine zB (U1.item (U1.by_same q1 e1 D.i1z D.l1z) hx λh2 p2 e2=>yb ?_)
 have o2:IsPair h2 TO a b:=e2.extBut _ _ D.TOi1 (e1.extBut _ _ D.TOz fy)
 refine zB (wpAny_seqItems o2 rfl (zB (wpAny_updateSeq_pair o2 λh3 o3 e3=>?_)))
 replace o3:IsPair h3 TO x b:=o3
 refine zB (wpAny_letGo (yb (zB (zB (wpAny_onRaise ?_)))))
 change wpAny _ _ (Builtin.SmallTypes.nextOf (.ref i2) >>= _) _ _ _
 have r3:S2 k h3:=U2.by_same (U2.by_same (U2.by_same q2 e1 D.i2z D.l2z) e2 D.i12.symm D.l2i1) e3 D.TOi2.symm D.l2TO
 refine zB (U2.item r3 hy λh4 p4 e4=>yb ?_)
 have o4:IsPair h4 TO x b:=e4.extBut _ _ D.TOi2 o3
 refine zB (wpAny_seqItems o4 rfl (zB (wpAny_updateSeq_pair o4 λh5 o5 e5=>?_)))
 replace o5:IsPair h5 TO x y:=o5
 refine zB (wpAny_letGo (yb (yb (zB (wpAny_seqItems o5 rfl (zB (wpAny_newTuple ?_)))))))
 have sz:h5.objs.size=s.heap.objs.size:=by rw [e5.1,e4.1,e3.1,e2.1,e1.1]
 have z5:IsZip h5 z TI TO .ellipsis:=e5.extBut _ _ D.TOz.symm (e4.extBut _ _ D.i2z.symm (e3.extBut _ _ D.TOz.symm (e2.extBut _ _ D.i1z.symm z1)))
 have k5:∀c o,c≠z->c≠TO->c≠i1->c≠i2->s.heap.get? c=some o->h5.get? c=some o:=λc o c1 c2 c3 c4 e=>e5.extBut _ _ c2 (e4.extBut _ _ c4 (e3.extBut _ _ c2 (e2.extBut _ _ c3 (e1.extBut _ _ c1 e))))
 have f1:S1 (k+1) h5:=U1.by_same (U1.by_same (U1.by_same p2 e3 D.TOi1.symm D.l1TO) e4 D.i12 D.l1i2) e5 D.TOi1.symm D.l1TO
 have f2:S2 (k+1) h5:=U2.by_same p4 e5 D.TOi2.symm D.l2TO
 change wpAny _ _ (Builtin.SmallTypes.ownedTupleHandOut (.ref z) (.ref h5.objs.size) >>= _) _ _ _
 refine zB ?_
 unfold Builtin.SmallTypes.ownedTupleHandOut
 have z6:IsZip (h5.push { cls:=.type "tuple", data:=.seq #[x,y] }) z TI TO .ellipsis:=yk _ z5
 refine zB (wpAny_setField_rec z6 (by simp) λh7 z7 e7=>?_)
 replace z7:IsZip h7 z TI TO (rawInt h5.objs.size):=z7
 refine wpAny_setField_rec z7 (by simp) λh8 z8 e8=>?_
 replace z8:IsZip h8 z TI TO (rawInt h5.objs.size):=z8
 have up:∀c o,c≠z->h5.get? c=some o->h8.get? c=some o:=λc o c1 e=>e8.extBut _ _ c1 (e7.extBut _ _ c1 (yk _ e))
 have nz:h5.objs.size≠z:=Nat.ne_of_gt (yn z5)
 have pT:IsPair h8 h5.objs.size x y:=e8.extBut _ _ nz (e7.extBut _ _ nz (yY _ rfl))
 rw [sz] at z8 pT
 refine yb ⟨_,rfl,?_⟩
 change Q (.ref h5.objs.size) _
 rw [sz]
 exact hQ h8 z8 (up _ _ D.TOz o5) (U1.at_ f1 (λo e=>up _ o D.i1z e) λo e=>up _ o D.l1z e) (U2.at_ f2 (λo e=>up _ o D.i2z e) λo e=>up _ o D.l2z e) pT λc o c1 c2 c3 c4 e=>up c o c1 (k5 c o c1 c2 c3 c4 e)
def OJ {Q:Fin->Shared->Prop}(hh:A.handled=none) (D:ZipApart z TI TO i1 i2 t1 t2) (U1:nk prog w i1 t1 xs S1) (U2:nk prog w i2 t2 ys S2) (hz:IsZip s.heap z TI TO .none) (gh:IsPair s.heap TI (.ref i1) (.ref i2)) (fy:IsPair s.heap TO a b)
  (q1:S1 k s.heap) (q2:S2 k s.heap) (he:xs[k]?=none\/ys[k]?=none)
  (hE:∀h' e,(∀c o,c≠z->c≠TO->c≠i1->c≠i2->s.heap.get? c=some o->h'.get? c=some o)->(∃o,h'.get? e=some o/\o.cls=.type "StopIteration")->E (.ref e) { s with heap:=h' }) :
  wpAny (model prog w) A (Builtin.«zip.__next__» ⟨[.ref z],[]⟩) Q E s:=by
 change wpAny _ _ (field (.ref z) 2 >>= _) _ _ _
 refine zB (jG hz rfl (x:=.bool false) rfl ?_)
 change wpAny _ _ (field (.ref z) 3 >>= _) _ _ _
 refine zB (jG hz rfl (x:=.ref TI) rfl (zB (wpAny_seqItems gh rfl ?_)))
 change wpAny _ _ (Builtin.SmallTypes.ownedTupleIsFree (.ref z) >>= _) _ _ _
 refine zB ?_
 unfold Builtin.SmallTypes.ownedTupleIsFree
 refine zB (jG hz rfl (x:=.none) rfl (yb ?_))
 rw [zx rfl]
 refine zB (wpAny_rule (zB (jG hz rfl (x:=.ref TO) rfl (zB (wpAny_setField_rec hz (by simp) λh1 z1 e1=>?_)))))
 replace z1:IsZip h1 z TI TO .ellipsis:=z1
 refine zB ?_
 simp only [List.zipIdx_cons,List.zipIdx_nil,List.forIn_cons,List.forIn_nil]
 refine zB (zB (wpAny_onRaise ?_))
 change wpAny _ _ (Builtin.SmallTypes.nextOf (.ref i1) >>= _) _ _ _
 have p1:=U1.by_same q1 e1 D.i1z D.l1z
 have Eg:∀{h:Heap} {e:Addr} {oe:Obj},IsZip h z TI TO .ellipsis->h.get? e=some oe->oe.cls=.type "StopIteration" -> e≠z:=λiz ho hc x=>by
  rw [x,iz] at ho
  cases ho
  simp at hc
 cases hx:xs[k]? with
 |none =>
  refine zB (U1.stop hh p1 hx λh2 e e2 ⟨oe,qx,qy⟩=>?_)
  have z2:IsZip h2 z TI TO .ellipsis:=e2 _ _ D.i1z.symm z1
  exact wpAny_setField_rec z2 (by simp) λh3 _ e3=>hE h3 e (λc o c1 _ c3 _ x=>e3.extBut _ _ c1 (e2 _ _ c3 (e1.extBut _ _ c1 x))) ⟨oe,e3.extBut _ _ (Eg z2 qx qy) qx,qy⟩
 |some x =>
  have hy:ys[k]?=none:=by
   rcases he with h|h
   ·rw [hx] at h;cases h
   ·exact h
  refine zB (U1.item p1 hx λh2 p2 e2=>yb ?_)
  have o2:IsPair h2 TO a b:=e2.extBut _ _ D.TOi1 (e1.extBut _ _ D.TOz fy)
  refine zB (wpAny_seqItems o2 rfl (zB (wpAny_updateSeq_pair o2 λh3 o3 e3=>?_)))
  refine zB (wpAny_letGo (yb (zB (zB (wpAny_onRaise ?_)))))
  change wpAny _ _ (Builtin.SmallTypes.nextOf (.ref i2) >>= _) _ _ _
  have r3:S2 k h3:=U2.by_same (U2.by_same (U2.by_same q2 e1 D.i2z D.l2z) e2 D.i12.symm D.l2i1) e3 D.TOi2.symm D.l2TO
  refine zB (U2.stop hh r3 hy λh4 e e4 ⟨oe,qx,qy⟩=>?_)
  have z4:IsZip h4 z TI TO .ellipsis:=e4 _ _ D.i2z.symm (e3.extBut _ _ D.TOz.symm (e2.extBut _ _ D.i1z.symm z1))
  exact wpAny_setField_rec z4 (by simp) λh5 _ e5=>hE h5 e (λc o c1 c2 c3 c4 x=>e5.extBut _ _ c1 (e4 _ _ c4 (e3.extBut _ _ c2 (e2.extBut _ _ c3 (e1.extBut _ _ c1 x))))) ⟨oe,e5.extBut _ _ (Eg z4 qx qy) qx,qy⟩
end
section
variable {X:Cx} {pins:Ac} {σ:St} {H:Hp} {s:Shared} {h':Heap}
def Inv.turnL {ch:Af}{t':Nat}(I:Inv X pins σ H s) (hc:∀b∈ch,dy X pins H b) (k:∀b o,b∉ch->s.heap.get? b=some o->h'.get? b=some o):Inv X pins σ H { s with heap:=h',toks:=t' }:=by
 have gO:∀b u,H b=some u->b∉ch:=λb u e z=>by rw [(hc b z).1] at e;cases e
 refine I.step (g':=s.gens) (d':=s.drawn) (ch:=ch) (λb hb=>?_) (λb o _ _ nb e _=>k b o nb e) (λb o _ _ nb e _=>⟨o.slots,k b o nb e⟩) (λ_ _ _ _ n=>n)
  (λb o nb e=>⟨o,k b o nb e⟩) (λ_ _ e=>e) (λ_ _ _ e=>e) (λb ps e=>⟨#[],by rw [e];simp⟩) (λm hm=>?_) (λb u e=>?_) I.bare
 ·obtain ⟨_,f1,_,f3,f4,f5⟩:=hc b hb
  exact ⟨f3,f1,f4,f5⟩
 ·obtain ⟨o,es,ep,ho,r⟩:=hm
  exact ⟨o,es,ep,k _ o (λz=>(hc _ z).2.1 rfl) ho,r⟩
 ·refine (I.hok b u e).stay (λc v dv q=>k c v ?_ q) (λ_ q=>q) λ_ _ q=>q
  rcases dv with z|z
  ·rw [z];exact gO b u e
  ·exact gO c _ z
def Inv.turnN {ch:Af}{T:Addr}{o:HO}{t':Nat}(I:Inv X pins σ H s) (hc:∀b∈ch,dy X pins H b) (k:∀b o,b∉ch->s.heap.get? b=some o->h'.get? b=some o) (hT:s.heap.objs.size<=T)
  (new:bo X.prog X.w (upd H T o) h' T o):Inv X pins σ (upd H T o) { s with heap:=h',toks:=t' }:=by
 have fT:H T=none:=I.hok.fresh hT
 have gO:∀b u,H b=some u->b∉ch:=λb u e z=>by rw [(hc b z).1] at e;cases e
 have nT:∀b u,H b=some u->b≠T:=λb u e z=>by rw [z,fT] at e;cases e
 refine I.step (g':=s.gens) (d':=s.drawn) (ch:=ch) (λb hb=>?_) (λb o _ _ nb e _=>k b o nb e) (λb o _ _ nb e _=>⟨o.slots,k b o nb e⟩) (λb u _ e n=>?_)
  (λb o nb e=>⟨o,k b o nb e⟩) (λb xs e=>?_) (λb u v e=>?_) (λb ps e=>⟨#[],?_⟩) (λm hm=>?_) (λb u e=>?_) I.bare
 ·obtain ⟨_,f1,_,f3,f4,f5⟩:=hc b hb
  exact ⟨f3,f1,f4,f5⟩
 ·rw [yo (yN (jM (yn e) hT))];exact n
 ·rw [yo (nT b _ e)];exact e
 ·rw [yo (nT b _ e)];exact e
 ·rw [yo (nT b _ e),e];simp
 ·obtain ⟨o,es,ep,ho,r⟩:=hm
  exact ⟨o,es,ep,k _ o (λz=>(hc _ z).2.1 rfl) ho,r⟩
 ·by_cases z:b=T
  ·rw [z] at e ⊢
   rw [yZ] at e
   cases e
   exact new
  ·rw [yo z] at e
   refine (I.hok b u e).stay (λc v dv q=>k c v ?_ q) (λc q=>by rw [yo (nT c _ q)];exact q) λc xs q=>by rw [yo (nT c _ q)];exact q
   rcases dv with z|z
   ·rw [z];exact gO b u e
   ·exact gO c _ z
end
def xN (K:Frag) (a b:Addr):It :=
 ⟨λi H=>∃xs ys x y,bD K H a xs/\bD K H b ys/\xs[i]?=some x/\ys[i]?=some y,
  λi H v H'=>∃T x y,H T=none/\v=.ref T/\H'=upd H T (.tup [x,y])/\(∀xs,bD K H a xs->xs[i]?=some x)/\∀ys,bD K H b ys->ys[i]?=some y,
  λi H=>∃xs ys,bD K H a xs/\bD K H b ys/\(xs.length<=i\/ys.length<=i)⟩
def Eh (z TI TO i1 i2 a b:Addr) (k:Nat) (h:Heap):Prop:=IsZip h z TI TO .none/\IsPair h TI (.ref i1) (.ref i2)/\(∃u v,IsPair h TO u v)/\IsTupIter h i1 a k/\IsTupIter h i2 b k
def oK {X:Cx}{pins:Ac}{σ:St}{H:Hp}{s:Shared}{a c:Addr}{xs:List V}(I:Inv X pins σ H s) (hf:dy X pins H c) (hq:bD X.K H a xs):a≠c:=by
 rintro rfl
 rcases hq with q|⟨o,its,n,hl,_⟩
 ·rcases q with q|⟨ob,q⟩<;>(rw [hf.1] at q;cases q)
 ·have e:=I.ok.mod.kin _ _ hl
  rcases hf.2.2.2.1 with z|z
  ·exact I.ok.noex _ _ e z
  ·exact absurd (jM (yn (I.ok.bs _ _ e).1) z) (Nat.lt_irrefl _)
structure Ei (z TI TO i1 i2:Addr):Prop where
 TIz:TI≠z
 TOz:TO≠z
 i1z:i1≠z
 i2z:i2≠z
 TITO:TI≠TO
 TIi1:TI≠i1
 TIi2:TI≠i2
 TOi1:TO≠i1
 TOi2:TO≠i2
 i12:i1≠i2
def OK {P:Program}{w:World}{K:Frag}{elts:List Expr}{kt:Nat}{pos:Pos}{z TI TO i1 i2 a b:Addr}(V5:Ei z TI TO i1 i2):Turn P w K (.Tuple elts kt pos) (xN K a b) [z,TI,TO,i1,i2] z (Eh z TI TO i1 i2 a b) where
 mem:=by simp
 obj:=λi h st c hc=>by
  obtain ⟨hz,gh,⟨u,v,fy⟩,⟨o1,e1,_,d1⟩,⟨o2,e2,_,d2⟩⟩:=st
  simp only [yI,List.not_mem_nil,kg] at hc
  rcases hc with q|q|q|q|q<;>rw [q]
  ·exact ⟨_,hz,λv z=>by cases z⟩
  ·exact ⟨_,gh,λv z=>by cases z⟩
  ·exact ⟨_,fy,λv z=>by cases z⟩
  ·exact ⟨_,e1,λv z=>by rw [d1] at z;cases z⟩
  ·exact ⟨_,e2,λv z=>by rw [d2] at z;cases z⟩
 keep:=λi h h' st k=>by
  obtain ⟨hz,gh,⟨u,v,fy⟩,⟨o1,e1,r1⟩,⟨o2,e2,r2⟩⟩:=st
  exact ⟨k z (by simp) _ hz,k TI (by simp) _ gh,⟨u,v,k TO (by simp) _ fy⟩,⟨o1,k i1 (by simp) _ e1,r1⟩,⟨o2,k i2 (by simp) _ e2,r2⟩⟩
 item:=by
  intro X hP hw hK hc i pins s σ H E I hf st hg
  subst hP hw hK
  obtain ⟨xs,ys,x,y,lS,kC,hx,hy⟩:=hg
  obtain ⟨hz,gh,⟨u0,v0,fy⟩,oM,qz⟩:=st
  obtain ⟨vB,xO,p1,_⟩:=I.tuple lS
  obtain ⟨a_,xP,p2,_⟩:=I.tuple kC
  obtain ⟨u,hu,ru⟩:=xO.get hx
  obtain ⟨v,hv,rv⟩:=xP.get hy
  have n1:∀c∈[z,TI,TO,i1,i2],a≠c:=λc h=>oK I (hf c h) lS
  have n2:∀c∈[z,TI,TO,i1,i2],b≠c:=λc h=>oK I (hf c h) kC
  have D:ZipApart z TI TO i1 i2 a b:=⟨V5.TIz,V5.TOz,V5.i1z,V5.i2z,V5.TITO,V5.TIi1,V5.TIi2,V5.TOi1,V5.TOi2,V5.i12,n1 z (by simp),n1 TO (by simp),n1 i1 (by simp),n1 i2 (by simp),n2 z (by simp),n2 TO (by simp),n2 i1 (by simp),n2 i2 (by simp)⟩
  have hT:s.TypeIs (.ref z) "zip" := ⟨_,hz,rfl⟩
  unfold pyNext
  refine zB (wpAny_attempt (wpAny_callSpecial?_slot (name:=Str.ofString "__next__") hT F.slot_zip_next (wJ F.slot_zip_next hT F.entry_zip_next
   (OI D (kB D.l1i1) (kB D.l2i2) hz gh fy ⟨oM,p1⟩ ⟨qz,p2⟩ (by simpa using hu) (by simpa using hv) λh1 z1 o1 f1 f2 pT kk=>yb ⟨_,rfl,?_⟩) (F.args_zip_next_1 _))))
  refine wpAny_letOwnedTupleGo_zip (s:={ s with heap:=h1 }) z1 λh2 z2 e2=>?_
  have fr:H s.heap.objs.size=none:=I.hok.fresh (yf _)
  have up:∀c o,c≠z->h1.get? c=some o->h2.get? c=some o:=λc o n e=>e2.extBut _ _ n e
  have nz:s.heap.objs.size≠z:=Nat.ne_of_gt (yn hz)
  have k2:∀c o,c∉[z,TI,TO,i1,i2]->s.heap.get? c=some o->h2.get? c=some o:=λc o nc e =>
   up c o (λq=>nc (by simp [q])) (kk c o (λq=>nc (by simp [q])) (λq=>nc (by simp [q])) (λq=>nc (by simp [q])) (λq=>nc (by simp [q])) e)
  refine ⟨.ref s.heap.objs.size,upd H s.heap.objs.size (.tup [x,y]),?_,rfl,⟨s.heap.objs.size,x,y,fr,rfl,rfl,λdG h'=>by rw [I.tuple_inj h' lS];exact hx,λgi h'=>by rw [I.tuple_inj h' kC];exact hy⟩,?_,λc dv=>?_⟩
  ·exact Inv.turnN (s:=s) (h':=h2) (t':=s.toks) I hf k2 (yf _) ⟨show 2<=sizeLine by decide,[u,v],.cons ru (.cons rv .nil),_,up _ _ nz pT,rfl,_,rfl⟩
  ·exact ⟨z2,up _ _ D.TIz (kk _ _ D.TIz D.TITO D.TIi1 D.TIi2 gh),⟨_,_,up _ _ D.TOz o1⟩,(let ⟨o,e,r⟩:=f1.1;⟨o,up _ _ D.i1z e,r⟩),(let ⟨o,e,r⟩:=f2.1;⟨o,up _ _ D.i2z e,r⟩)⟩
  ·have q:c≠s.heap.objs.size:=by
    have lt:∃o,s.heap.get? c=some o:=by
     simp only [yI,List.not_mem_nil,kg] at dv
     rcases dv with q|q|q|q|q<;>rw [q]
     ·exact ⟨_,hz⟩
     ·exact ⟨_,gh⟩
     ·exact ⟨_,fy⟩
     ·exact let ⟨o,e,_⟩:=oM;⟨o,e⟩
     ·exact let ⟨o,e,_⟩:=qz;⟨o,e⟩
    obtain ⟨o,e⟩:=lt
    exact yN (yn e)
   rw [yo q]
   exact (hf c dv).1
 done:=by
  intro X hP hw hK hc i pins s σ H E I hf st hg
  subst hP hw hK
  obtain ⟨xs,ys,lS,kC,hx⟩:=hg
  obtain ⟨hz,gh,⟨u0,v0,fy⟩,oM,qz⟩:=st
  obtain ⟨vB,xO,p1,_⟩:=I.tuple lS
  obtain ⟨a_,xP,p2,_⟩:=I.tuple kC
  have l1:=xO.length
  have l2:=xP.length
  have n1:∀c∈[z,TI,TO,i1,i2],a≠c:=λc h=>oK I (hf c h) lS
  have n2:∀c∈[z,TI,TO,i1,i2],b≠c:=λc h=>oK I (hf c h) kC
  have D:ZipApart z TI TO i1 i2 a b:=⟨V5.TIz,V5.TOz,V5.i1z,V5.i2z,V5.TITO,V5.TIi1,V5.TIi2,V5.TOi1,V5.TOi2,V5.i12,n1 z (by simp),n1 TO (by simp),n1 i1 (by simp),n1 i2 (by simp),n2 z (by simp),n2 TO (by simp),n2 i1 (by simp),n2 i2 (by simp)⟩
  have hT:s.TypeIs (.ref z) "zip" := ⟨_,hz,rfl⟩
  unfold pyNext
  refine zB (wpAny_attempt (wpAny_callSpecial?_slot (name:=Str.ofString "__next__") hT F.slot_zip_next (wJ F.slot_zip_next hT F.entry_zip_next
   (OJ (I.ok.hd hc) D (kB D.l1i1) (kB D.l2i2) hz gh fy ⟨oM,p1⟩ ⟨qz,p2⟩ (hx.imp (λh=>by simp;omega) λh=>by simp;omega) λh1 e kk he=>?_) (F.args_zip_next_1 _))))
  obtain ⟨o,ho,OL⟩:=he
  refine zB (wpAny_isInstance (T := "StopIteration") (b:=true) ⟨o,ho,OL⟩ isSubtype_stop ?_)
  exact yb ⟨rfl,Inv.turnL (t':=s.toks) I hf λc o nc e=>kk c o (λq=>nc (by simp [q])) (λq=>nc (by simp [q])) (λq=>nc (by simp [q])) (λq=>nc (by simp [q])) e⟩
 self:=λ_ _ _ _ _ st h=>wpAny_pyIter_zip st.1 h
abbrev sW (h:Heap) (a:Addr):Heap:=h.push { cls:=.type "tuple_iterator", data:=.fields #[.ref a,.int 0 0] }
abbrev sX (h:Heap) (a b:Addr):Heap:=(sW h a).push { cls:=.type "tuple_iterator", data:=.fields #[.ref b,.int 0 0] }
abbrev sY (h:Heap) (a b:Addr):Heap:=(sX h a b).push { cls:=.type "tuple", data:=.seq #[.ref h.objs.size,.ref (sW h a).objs.size] }
abbrev sZ (h:Heap) (a b:Addr):Heap:=(sY h a b).push { cls:=.type "tuple", data:=.seq #[.none,.none] }
abbrev kD (h:Heap) (a b:Addr):Heap:=(sZ h a b).push { cls:=.type "zip", data:=.fields #[.none,.bool false,.bool false,.ref (sX h a b).objs.size,.ref (sY h a b).objs.size] }
def OM (a b:Addr) (xs ys:Array Value) :
  Meets (Builtin.«zip.__new__» ⟨[.type "zip", .ref a,.ref b],[]⟩) (λ_ R s=>IsTup s.heap a xs/\IsTup s.heap b ys/\R (.ok (.ret (.ref (sZ s.heap a b).objs.size))) { s with heap:=kD s.heap a b }) :=
 .of_wp λprog w A R s h=>by
  obtain ⟨hp,g,d,tk,os⟩:=s
  obtain ⟨h1,h2,h⟩:=h
  have Ej:=sub_zip
  have H1:IsTup (Shared.heap ⟨hp,g,d,tk,os⟩) a xs:=h1
  have H2:IsTup (Shared.heap ⟨hp.push { cls:=.type "tuple_iterator", data:=.fields #[.ref a,.int 0 0] },g,d,tk,os⟩) b ys:=h2.push _
  wp_walk using iter_tuple H1,iter_tuple H2
  exact ⟨_,rfl,h⟩
section
variable {prog:Program} {w:World} {A:Around} {E:Aa} {s:Shared}
def OO {a b:Addr}{xs ys:Array Value}{Q:Aa}(h1:IsTup s.heap a xs) (h2:IsTup s.heap b ys)
  (h:Eh (s.heap.objs.size+4) (s.heap.objs.size+2) (s.heap.objs.size+3) s.heap.objs.size (s.heap.objs.size+1) a b 0 (kD s.heap a b)->Q (.ref (s.heap.objs.size+4)) { s with heap:=kD s.heap a b }) :
  wpAny (model prog w) A (call (.type "zip") [.ref a,.ref b]) Q E s:=by
 refine callType_new F.called_zip (by decide) (F.typeCall_zip_2 _ _) (F.newCall_zip_2 _ _) (λobj=>F.args_object_init_3 obj _ _) F.entry_zip_new (OM a b xs ys) ⟨h1,h2,?_⟩
 have z1:(sW s.heap a).objs.size=s.heap.objs.size+1:=Heap.size_push ..
 have z2:(sX s.heap a b).objs.size=s.heap.objs.size+2:=by rw [Heap.size_push,z1]
 have z3:(sY s.heap a b).objs.size=s.heap.objs.size+3:=by rw [Heap.size_push,z2]
 have z4:(sZ s.heap a b).objs.size=s.heap.objs.size+4:=by rw [Heap.size_push,z3]
 have g5:(kD s.heap a b).get? (sZ s.heap a b).objs.size=some _:=yY _ rfl
 have g4:(kD s.heap a b).get? (sY s.heap a b).objs.size=some _:=yk _ (yY _ rfl)
 have g3:(kD s.heap a b).get? (sX s.heap a b).objs.size=some _:=yk _ (yk _ (yY _ rfl))
 have g2:(kD s.heap a b).get? (sW s.heap a).objs.size=some _:=yk _ (yk _ (yk _ (yY _ rfl)))
 have g1:(kD s.heap a b).get? s.heap.objs.size=some _:=yk _ (yk _ (yk _ (yk _ (yY _ rfl))))
 show _/\_
 rw [z2,z3,z4] at g5
 rw [z1,z2] at g3
 rw [z3] at g4
 rw [z1] at g2
 rw [z4]
 exact ⟨⟨_,g5,rfl⟩,h ⟨g5,g3,⟨_,_,g4⟩,⟨_,g1,rfl,rfl⟩,⟨_,g2,rfl,rfl⟩⟩⟩
end
def OQ:bootBuiltins "zip" = some (.type "zip"):=by decide +kernel
def OR (K:Frag) (ta:TA):TI:=fun σ H R=>ta σ H λvs H1=>∃a b,vs=[.ref a,.ref b]/\(∃xs,bD K H1 a xs)/\(∃ys,bD K H1 b ys)/\R (xN K a b) H1
def OS {X:Cx} {elts:List Expr} {kt:Nat} {tp:Pos} {x y:Expr} {ta:TA} {p pos:Pos} (hg:Gl X "zip") (hm:X.mg "zip" = none) (ha:PA X [x,y] ta) (hs:starEach [x,y] X.env=[(false,eval x X.env),(false,eval y X.env)]:=by rfl) (gG:starEach [y] X.env=[(false,eval y X.env)]:=by rfl) :
  PI X (.Tuple elts kt tp) (.Call (.Name "zip" p) [x,y] [] pos) (OR X.K ta):=by
 intro pins s σ H R I h
 refine Call_ (iD I hg hm OQ (PyProof.Rows.callWith_type1 (a0 (ha pos pins s σ H _ I h) λus s1 ⟨vs,H1,I1,r1,q1⟩=>?_) (by rw [hs,gG]) (by rw [gG];rfl)))
 obtain ⟨a,b,e,⟨xs,lS⟩,⟨ys,kC⟩,q⟩:=q1
 subst e
 obtain ⟨u,v,rfl,ru,rv⟩:=vY r1
 obtain rfl:u=Value.ref a:=ru
 obtain rfl:v=Value.ref b:=rv
 obtain ⟨vB,_,p1,_⟩:=I1.tuple lS
 obtain ⟨a_,_,p2,_⟩:=I1.tuple kC
 refine OO p1 p2 λst=>wpAny_pyIter_zip st.1 ?_
 have kk:∀c o,s1.heap.get? c=some o->(kD s1.heap a b).get? c=some o:=λc o e=>yk _ (yk _ (yk _ (yk _ (yk _ e))))
 refine ⟨_,[s1.heap.objs.size+4,s1.heap.objs.size+2,s1.heap.objs.size+3,s1.heap.objs.size,s1.heap.objs.size+1],_,_,H1,rfl,I1.kept (t':=s1.toks) kk,OK ?_,st,λc hc=>?_,q⟩
 ·have ne:∀(n i j:Nat),i≠j->n+i≠n+j:=λn i j h z=>h (Nat.add_left_cancel z)
  have tj:∀(n i:Nat),i≠0->n+i≠n:=λn i h z=>h (by omega)
  exact ⟨ne _ 2 4 (by decide),ne _ 3 4 (by decide),(tj _ 4 (by decide)).symm,ne _ 1 4 (by decide),ne _ 2 3 (by decide),tj _ 2 (by decide),ne _ 2 1 (by decide),tj _ 3 (by decide),ne _ 3 1 (by decide),(tj _ 1 (by decide)).symm⟩
 ·have le:s1.heap.objs.size<=c:=by
   simp only [yI,List.not_mem_nil,kg] at hc
   rcases hc with q|q|q|q|q<;>rw [q]<;>first|exact yf _|exact Nat.le_add_right _ _
  exact I1.fpOk le (I1.hok.fresh le)
structure KD (X:Cx) (a:Addr):Prop where
 ob:∃es n,X.K.lookup a=some ⟨.type "dict", none,.dict es n,#[]⟩/\KeysLit X.w.params es.toList
 no:(a==sysModules)=false
section
variable {X:Cx}
def OT:fN X (λx y H Q=>∃a z u v,x=.ref a/\y=.str z/\KD X a/\nsIn X.K a z=some (some u)/\RelV v u/\Q v H):=by
 intro a b pins s σ H x y v u Q I rx ry h hs
 obtain ⟨p,z,u',v',rfl,rfl,⟨⟨es,n,hl,hk⟩,_⟩,e,rv,q⟩:=h
 obtain rfl:v=Value.ref p:=rx
 obtain ⟨t,rfl⟩:=ry
 obtain ⟨m,F⟩:=I.fr
 exact topItem_K F I.ok.mod.kin hl hk e ⟨v',H,I.tok _,rv,q⟩ hs
def OU:bz X (compareOp .NotIn) (λx y H Q=>∃a z r,x=.str z/\y=.ref a/\KD X a/\nsIn X.K a z=some r/\Q (.bl (!r.isSome)) H):=by
 intro pins s σ H x y v u Q I rx ry h
 obtain ⟨p,z,r,rfl,rfl,⟨⟨es,n,hl,hk⟩,no⟩,e,q⟩:=h
 obtain rfl:u=Value.ref p:=ry
 obtain ⟨t,rfl⟩:=rx
 refine wpAny_notIn_of (strKind_is X.prog X.w z t) no (mapOf_K (prog:=X.prog) I.kIn hl hk) ?_
 rw [find_K hl e]
 exact ⟨.bl (!r.isSome),H,I.tok _,rfl,q⟩
end
end L2
namespace Mi
open PySem L2 PySem.W
inductive PV where
 |non|bl (b:Bool)|int (i:Int)|str (x:Str)|ty (n:String)
 |tup (xs:List PV)|frl (xs:List PV)|ref (n:Nat)|fn (x:Str)|kd (ks:Ae) (xs:List PV)|exo (c:Str) (ks:Ae) (xs:List PV)
inductive SO where
 |lst (xs:List PV)|dic (ks:Ae) (xs:List PV)|ins (c:Str) (ks:Ae) (xs:List PV)|fdi (ks:Ae) (xs:List PV)|dit (ks:List (List Key)) (xs:List PV)
abbrev aa:=List SO
inductive Res (α:Type) where
 |ok (a:α) (st:aa)|err (c:Str) (ks:Ae) (xs:List PV) (st:aa)|stuck
abbrev Mo (α:Type):=aa->Res α
noncomputable def Res.bind {α β:Type}:Res α->(α->Mo β)->Res β
 |.ok a st,f=>f a st
 |.err c ks xs st,_=>.err c ks xs st
 |.stuck,_=>.stuck
abbrev zf:=List (Option PV)
def OV (K:Frag) (a:Addr) (ks:Ae) (us:Ag):Prop:=∀z,nsIn K a z=some ((ks.zip us).lookup z)
def kE (K:Frag) (H:Hp) (a:Addr) (vs:List V):Prop :=
 (∃o,H a=some (.frz o (.lst vs)))\/∃(o:Obj) (its:Array Value) (n:Nat),K.lookup a=some o/\o.cls=.type "list" /\ o.dict=none/\o.data=.seq its n/\its.size<=sizeLine/\Vals vs its.toList
def kE.sq {K:Frag}{H:Hp}{a:Addr}{vs:List V}(h:kE K H a vs):bE K H a vs:=by
 rcases h with ⟨o,h⟩|h
 ·exact .inl (.inr ⟨o,h⟩)
 ·exact .inr h
section
variable (K:Frag) (mg:Ab)
mutual
def R (ρ:Af) (H:Hp):PV->V->Prop
 |.non,v=>v=.non
 |.bl b,v=>v=.bl b
 |.int i,v=>v=.int i
 |.str x,v=>v=.str x
 |.ty n,v=>v=.ty n
 |.tup xs,v=>∃a vs,v=.ref a/\bD K H a vs/\Rs ρ H xs vs
 |.frl xs,v=>∃a vs,v=.ref a/\kE K H a vs/\Rs ρ H xs vs
 |.ref n,v=>∃a,v=.ref a/\ρ[n]?=some a
 |.fn x,v=>∃f,v=.ref f/\mg x=some (.ref f)
 |.kd ks xs,v=>∃a us vs,v=.ref a/\OV K a ks us/\Vals vs us/\Rs ρ H xs vs
 |.exo c ks xs,v=>∃a C,v=.ref a/\mg c=some (.ref C)/\((ks=[]/\H a=some (kA C none a))\/∃d vs,H a=some (kA C (some d) a)/\H d=some (.xd (ks.zip vs))/\Rs ρ H xs vs/\ks.length=vs.length)
def Rs (ρ:Af) (H:Hp):List PV->List V->Prop
 |[],vs=>vs=[]
 |x::xs,vs=>∃v r,vs=v::r/\R ρ H x v/\Rs ρ H xs r
end
def dE (a:Addr) (its:List (List Key×Addr×Value)):HO:=.ext λP w h=>its.length<=sizeLine/\(a==sysModules)=false /\
 ∃o es ep,h.get? a=some o/\o.ExactDict/\o.data=.dict es ep/\es.toList=its.map (entryOfKey (tupleKind (bb P w)))/\(its.map (·.1)).Nodup
def iH (ρ:Af) (H:Hp):SO->Addr->Prop
 |.lst xs,a=>∃vs,H a=some (.lst vs)/\Rs K mg ρ H xs vs
 |.dic ks xs,a=>∃vs,H a=some (.dK ((ks.map Sum.inr).zip vs))/\Rs K mg ρ H xs vs/\ks.length=vs.length
 |.ins c ks xs,a=>∃C dx vs,mg c=some (.ref C)/\H a=some (.ins C dx (ks.zip vs))/\Rs K mg ρ H xs vs/\ks.length=vs.length
 |.fdi ks xs,a=>∃o vs,H a=some (.frz o (.dK ((ks.map Sum.inr).zip vs)))/\Rs K mg ρ H xs vs/\ks.length=vs.length
 |.dit ks xs,a=>∃its vs,H a=some (dE a its)/\its.map (·.1)=ks/\(∀x,x∈its->bD K H x.2.1 (x.1.map kV))/\Vals vs (its.map (·.2.2))/\Rs K mg ρ H xs vs
structure bu (ρ:Af) (H:Hp) (st:aa):Prop where
 len:ρ.length=st.length
 nd:ρ.Nodup
 at_:∀(n:Nat) so,st[n]?=some so->∃a,ρ[n]?=some a/\iH K mg ρ H so a
def Still (φ:Program->World->Heap->Prop):Prop:=∀P w,∃h:Heap,φ P w h/\∀b o es ep,h.get? b=some o->o.data ≠ .dict es ep
open Classical in
def tm:HO->Bool
 |.tup _=>true
 |.frz _ _=>true
 |.xd _=>true
 |.ext φ=>decide (Still φ)
 |_=>false
structure Ext (ρ:Af) (H:Hp) (al:Af) (H':Hp):Prop where
 pre:∃δ,al=ρ++δ
 imm:∀a o,H a=some o->tm o=true->H' a=some o
def Ek {C:Addr}{d:Option Addr}{a:Addr}:tm (kA C d a)=true:=by
 have st:Still λ_ _ h=>∃T:Addr,XO h a (.ref C) d (.ref T):=λP w=>by
  have g:∀b,(Heap.mk (Array.replicate (a+1) { cls:=.ref C,dict:=d,data:=.fields #[.none,.ref 0,.none,.none,.none,.none] }) {}).get? b=if b<a+1 then some { cls:=.ref C,dict:=d,data:=.fields #[.none,.ref 0,.none,.none,.none,.none] } else none:=by
   intro b
   unfold Heap.get?
   by_cases hb:b<a+1
   ·simp [Array.getElem?_replicate,hb]
   ·simp [Array.getElem?_replicate,hb]
  refine ⟨_,⟨0,_,_,(g a).trans (zx (wg a)),rfl,rfl,rfl,rfl,rfl⟩,λb o es ep e=>?_⟩
  rw [g b] at e
  split at e
  ·cases e;intro z;cases z
  ·cases e
 exact @decide_eq_true _ (Classical.propDecidable _) st
def OW (P:Program) (w:World) {a:Addr}{its:List (List Key×Addr×Value)}:tm (dE a its)=false:=by
 refine @decide_eq_false _ (Classical.propDecidable _) λst=>?_
 obtain ⟨h,⟨_,_,o,es,ep,e,_,d,_⟩,n⟩:=st P w
 exact n _ _ _ _ e d
def XR (ρ:Af) (H:Hp) (c:Str) (ks:Ae) (xs:List PV) (Cv:Value) (d:Option Addr):Prop :=
 ∃C,Cv=.ref C/\mg c=some (.ref C)/\((ks=[]/\d=none)\/∃dd vs,d=some dd/\H dd=some (.xd (ks.zip vs))/\Rs K mg ρ H xs vs/\ks.length=vs.length)
def Out {α:Type}(ρ:Af) (H:Hp) (r:Res α) (good:List Addr->Hp->α->aa->Prop) (E:XK):Prop :=
 match r with
 |.ok x st=>∀al H',Ext ρ H al H'->bu K mg al H' st->good al H' x st
 |.err c ks xs st=>∀al H' C d,Ext ρ H al H'->bu K mg al H' st->XR K mg al H' c ks xs C d->E C d H'
 |.stuck=>False
structure bJ (ρ:Af) (H:Hp) (env:zf) (σ:St):Prop where
 len:env.length=σ.length
 at_:∀(i:Nat) x,env[i]?=some (some x)->∃v,σ[i]?=some (some v)/\R K mg ρ H x v
def gV (Q:VK):List Addr->Hp->PV->aa->Prop:=fun ρ H x _=>∀v,R K mg ρ H x v->Q v H
def OX (Q:List V->Hp->Prop):List Addr->Hp->List PV->aa->Prop:=fun ρ H x _=>∀v,Rs K mg ρ H x v->Q v H
def gB (Q:Bool->Hp->Prop):List Addr->Hp->Bool->aa->Prop:=λ_ H x _=>Q x H
inductive Fl where
 |nx (env:zf)|rt (x:PV)|bk (env:zf)|ct (env:zf)
abbrev Ah:=List (List Key)
abbrev Ai:=zf->Mo (List PV)
abbrev Aj:=zf->Mo PV
abbrev Ak:=zf->Mo Fl
abbrev Al:=zf->Mo Bool
abbrev An:=List PV->Mo PV
abbrev Ao:=PV->PV->Mo PV
abbrev Aq:=List PV
abbrev Ar:=Option PV
def gS (D:Ends):List Addr->Hp->Fl->aa->Prop:=fun ρ H x _ =>
 match x with
 |.nx env=>∀σ,bJ K mg ρ H env σ->D.nx σ H
 |.rt x=>∀v,R K mg ρ H x v->D.rt v H
 |.bk env=>∀σ,bJ K mg ρ H env σ->D.bk σ H
 |.ct env=>∀σ,bJ K mg ρ H env σ->D.ct σ H
end
section
variable {K:Frag} {mg:Ab} {ρ ah aq:Af} {H H1 H2:Hp}
def Ext.refl:Ext ρ H ρ H:=⟨⟨[],by simp⟩,λ_ _ h _=>h⟩
def Ext.trans (a:Ext ρ H ah H1) (b:Ext ah H1 aq H2):Ext ρ H aq H2:=by
 obtain ⟨⟨d,hd⟩,i⟩:=a
 obtain ⟨⟨d',fg⟩,i'⟩:=b
 exact ⟨⟨d++d',by rw [fg,hd,wM]⟩,λa o h m=>i' a o (i a o h m) m⟩
def Ext.get (a:Ext ρ H ah H1) {n:Nat}{p:Addr}(h:ρ[n]?=some p):ah[n]?=some p:=by
 obtain ⟨⟨d,hd⟩,_⟩:=a
 rw [hd,kh (yt.mp h).1]
 exact h
def Ext.sqT (e:Ext ρ H ah H1) {a:Addr}{xs:List V}(h:bD K H a xs):bD K H1 a xs:=by
 rcases h with (h|⟨o,h⟩)|h
 ·exact .inl (.inl (e.imm _ _ h rfl))
 ·exact .inl (.inr ⟨o,e.imm _ _ h rfl⟩)
 ·exact .inr h
def Ext.frl (e:Ext ρ H ah H1) {a:Addr}{xs:List V}(h:kE K H a xs):kE K H1 a xs:=by
 rcases h with ⟨o,h⟩|h
 ·exact .inl ⟨o,e.imm _ _ h rfl⟩
 ·exact .inr h
mutual
theorem R.ext (e:Ext ρ H ah H1):∀(x:PV) {v:V},R K mg ρ H x v->R K mg ah H1 x v
 |.non,_,h=>h
 |.bl _,_,h=>h
 |.int _,_,h=>h
 |.str _,_,h=>h
 |.ty _,_,h=>h
 |.tup xs,_,h=>by
  obtain ⟨a,vs,h1,h2,h3⟩:=h
  exact ⟨a,vs,h1,e.sqT h2,Rs.ext e xs h3⟩
 |.frl xs,_,h=>by
  obtain ⟨a,vs,h1,h2,h3⟩:=h
  exact ⟨a,vs,h1,e.frl h2,Rs.ext e xs h3⟩
 |.ref n,_,h=>by
  obtain ⟨a,h1,h2⟩:=h
  exact ⟨a,h1,e.get h2⟩
 |.fn _,_,h=>h
 |.kd ks xs,_,h=>by
  obtain ⟨a,us,vs,h1,h2,h4,h3⟩:=h
  exact ⟨a,us,vs,h1,h2,h4,Rs.ext e xs h3⟩
 |.exo c ks xs,_,h=>by
  obtain ⟨a,C,h1,h2,⟨h3,h4⟩|⟨d,vs,h3,h4,h5,h6⟩⟩:=h
  ·exact ⟨a,C,h1,h2,.inl ⟨h3,e.imm _ _ h4 Ek⟩⟩
  ·exact ⟨a,C,h1,h2,.inr ⟨d,vs,e.imm _ _ h3 Ek,e.imm _ _ h4 rfl,Rs.ext e xs h5,h6⟩⟩
theorem Rs.ext (e:Ext ρ H ah H1):∀(xs:Aq) {vs:List V},Rs K mg ρ H xs vs->Rs K mg ah H1 xs vs
 |[],_,h=>h
 |x::xs,_,h=>by
  obtain ⟨v,r,h1,h2,h3⟩:=h
  exact ⟨v,r,h1,R.ext e x h2,Rs.ext e xs h3⟩
end
theorem bJ.ext (e:Ext ρ H ah H1) {env:zf}{σ:St}(h:bJ K mg ρ H env σ):bJ K mg ah H1 env σ :=
 ⟨h.len,λi x hx=>let ⟨v,a,b⟩:=h.at_ i x hx;⟨v,a,R.ext e x b⟩⟩
theorem Rs.len:∀{xs:Aq}{vs:List V},Rs K mg ρ H xs vs->xs.length=vs.length
 |[],_,h=>by cases h;rfl
 |x::xs,_,h=>by
  obtain ⟨v,r,rfl,_,h3⟩:=h
  simp [Rs.len h3]
theorem Rs.get:∀{xs:Aq}{vs:List V}{i:Nat}{x:PV},Rs K mg ρ H xs vs->xs[i]?=some x->∃v,vs[i]?=some v/\R K mg ρ H x v
 |[],_,_,_,_,e=>by simp at e
 |x::xs,_,0,_,h,e=>by
  obtain ⟨v,r,rfl,h2,h3⟩:=h
  simp at e
  subst e
  exact ⟨v,by simp,h2⟩
 |x::xs,_,i+1,y,h,e=>by
  obtain ⟨v,r,rfl,h2,h3⟩:=h
  simp at e
  obtain ⟨v',h4,h5⟩:=Rs.get h3 e
  exact ⟨v',by simpa using h4,h5⟩
theorem Rs.append:∀{xs ys:Aq}{vs ws:List V},Rs K mg ρ H xs vs->Rs K mg ρ H ys ws->Rs K mg ρ H (xs++ys) (vs++ws)
 |[],_,_,_,h,h'=>by cases h;exact h'
 |x::xs,_,_,_,h,h'=>by
  obtain ⟨v,r,rfl,h2,h3⟩:=h
  exact ⟨v,r++_,rfl,h2,Rs.append h3 h'⟩
theorem Rs.take:∀{xs:Aq}{vs:List V}(n:Nat),Rs K mg ρ H xs vs->Rs K mg ρ H (xs.take n) (vs.take n)
 |[],_,n,h=>by cases h;simp [Rs]
 |x::xs,_,0,h=>by simp [Rs]
 |x::xs,_,n+1,h=>by
  obtain ⟨v,r,rfl,h2,h3⟩:=h
  exact ⟨v,_,rfl,h2,Rs.take n h3⟩
theorem Rs.drop:∀{xs:Aq}{vs:List V}(n:Nat),Rs K mg ρ H xs vs->Rs K mg ρ H (xs.drop n) (vs.drop n)
 |[],_,n,h=>by cases h;simp [Rs]
 |x::xs,_,0,h=>h
 |x::xs,_,n+1,h=>by
  obtain ⟨v,r,rfl,h2,h3⟩:=h
  exact Rs.drop n h3
theorem Rs.set:∀{xs:Aq}{vs:List V}{x:PV}{v:V}(i:Nat),Rs K mg ρ H xs vs->R K mg ρ H x v->Rs K mg ρ H (xs.set i x) (vs.set i v)
 |[],_,_,_,i,h,_=>by cases h;simp [Rs]
 |x::xs,_,_,_,0,h,q=>by
  obtain ⟨v,r,rfl,h2,h3⟩:=h
  exact ⟨_,_,rfl,q,h3⟩
 |x::xs,_,_,_,i+1,h,q=>by
  obtain ⟨v,r,rfl,h2,h3⟩:=h
  exact ⟨_,_,rfl,h2,Rs.set i h3 q⟩
theorem bJ.set {env:zf}{σ:St}{x:PV}{v:V}(h:bJ K mg ρ H env σ) (i:Nat) (r:R K mg ρ H x v):bJ K mg ρ H (env.set i (some x)) (σ.set i (some v)):=by
 refine ⟨by simp [h.len],λj y hy=>?_⟩
 rw [List.getElem?_set] at hy ⊢
 by_cases d_:i=j
 ·subst d_
  by_cases hl:i<env.length
  ·rw [zx rfl,zx hl] at hy
   rw [zx rfl,zx (by rw [<-h.len];exact hl)]
   cases hy
   exact ⟨v,rfl,r⟩
  ·rw [zx rfl,zK hl] at hy
   cases hy
 ·rw [zK d_] at hy ⊢
  exact h.at_ j y hy
def bJ.cons {env:zf}{σ:St}{x:PV}{v:V}(h:bJ K mg ρ H env σ) (r:R K mg ρ H x v):bJ K mg ρ H (some x::env) (some v::σ):=by
 refine ⟨by simp [h.len],λj y hy=>?_⟩
 cases j with
 |zero=>simp at hy;subst hy;exact ⟨v,by simp,r⟩
 |succ j=>simp at hy;simpa using h.at_ j y hy
def bu.addr {st:aa}{n:Nat}{so:SO}(s:bu K mg ρ H st) (e:st[n]?=some so) {a:Addr}(ha:ρ[n]?=some a):iH K mg ρ H so a:=by
 obtain ⟨b,hb,h⟩:=s.at_ n so e
 rw [ha] at hb
 cases hb
 exact h
theorem iH.some {so:SO}{a:Addr}(h:iH K mg ρ H so a):∃o,H a=some o/\True:=by
 cases so with
 |lst xs=>obtain ⟨vs,h,_⟩:=h;exact ⟨_,h,trivial⟩
 |dic ks xs=>obtain ⟨vs,h,_⟩:=h;exact ⟨_,h,trivial⟩
 |ins c ks xs=>obtain ⟨C,dx,vs,_,h,_⟩:=h;exact ⟨_,h,trivial⟩
 |fdi ks xs=>obtain ⟨o,vs,h,_⟩:=h;exact ⟨_,h,trivial⟩
 |dit ks xs=>obtain ⟨its,vs,h,_⟩:=h;exact ⟨_,h,trivial⟩
def bu.in_ {st:aa}{n:Nat}{a:Addr}(s:bu K mg ρ H st) (h:ρ[n]?=some a):∃so,st[n]?=some so/\iH K mg ρ H so a:=by
 have hl:n<st.length:=by rw [<-s.len];exact (yt.mp h).1
 refine ⟨st[n],by simp [hl],s.addr (by simp [hl]) h⟩
def iH.ext' {so:SO}{a:Addr}(e:Ext ρ H ah H1) (h:iH K mg ρ H so a) (k:H1 a=H a):iH K mg ah H1 so a:=by
 cases so with
 |lst xs=>obtain ⟨vs,h1,h2⟩:=h;exact ⟨vs,by rw [k];exact h1,Rs.ext e xs h2⟩
 |dic ks xs=>obtain ⟨vs,h1,h2,h3⟩:=h;exact ⟨vs,by rw [k];exact h1,Rs.ext e xs h2,h3⟩
 |ins c ks xs=>obtain ⟨C,dx,vs,h0,h1,h2,h3⟩:=h;exact ⟨C,dx,vs,h0,by rw [k];exact h1,Rs.ext e xs h2,h3⟩
 |fdi ks xs=>obtain ⟨o,vs,h1,h2,h3⟩:=h;exact ⟨o,vs,by rw [k];exact h1,Rs.ext e xs h2,h3⟩
 |dit ks xs=>obtain ⟨its,vs,h1,h2,h3,h4,h5⟩:=h;exact ⟨its,vs,by rw [k];exact h1,h2,λx hx=>e.sqT (h3 x hx),h4,Rs.ext e xs h5⟩
def Ext.new {p:Addr}{o:HO}(hp:H p=none):Ext ρ H ρ (upd H p o) :=
 ⟨⟨[],by simp⟩,λa o' h _=>by rw [yo (iA h hp)];exact h⟩
theorem bu.new {st:aa}{p:Addr}{o:HO}(s:bu K mg ρ H st) (hp:H p=none):bu K mg ρ (upd H p o) st :=
 ⟨s.len,s.nd,λn so e=>by
  obtain ⟨a,ha,h⟩:=s.at_ n so e
  obtain ⟨o',ho,_⟩:=h.some
  exact ⟨a,ha,h.ext' (Ext.new hp) (yo (iA ho hp))⟩⟩
def Ext.push {p:Addr}{o:HO}(hp:H p=none):Ext ρ H (ρ++[p]) (upd H p o) :=
 ⟨⟨[p],rfl⟩,λa o' h _=>by rw [yo (iA h hp)];exact h⟩
theorem bu.push {st:aa}{p:Addr}{o:HO}{so:SO}(s:bu K mg ρ H st) (hp:H p=none) (n:iH K mg (ρ++[p]) (upd H p o) so p):bu K mg (ρ++[p]) (upd H p o) (st++[so]):=by
 refine ⟨by simp [s.len],?_,λi oN e=>?_⟩
 ·refine List.nodup_append.mpr ⟨s.nd,by simp,λa ha b hb=>?_⟩
  obtain rfl:b=p:=by simpa using hb
  obtain ⟨n,hn⟩:=List.getElem?_of_mem ha
  obtain ⟨oN,_,h⟩:=s.in_ hn
  obtain ⟨o',ho,_⟩:=h.some
  exact iA ho hp
 ·by_cases hi:i<st.length
  ·rw [kh hi] at e
   obtain ⟨a,ha,h⟩:=s.at_ i oN e
   obtain ⟨o',ho,_⟩:=h.some
   exact ⟨a,(Ext.push (o:=o) hp).get ha,h.ext' (Ext.push hp) (yo (iA ho hp))⟩
  ·rw [iw (by omega)] at e
   have xQ:i=st.length:=by
    have:=(yt.mp e).1
    simp at this
    omega
   subst xQ
   simp at e
   subst e
   exact ⟨p,by rw [<-s.len];simp,n⟩
def Ext.write {a:Addr}{o o':HO}(ha:H a=some o) (hi:tm o=false):Ext ρ H ρ (upd H a o') :=
 ⟨⟨[],by simp⟩,λb u h m=>by
  rw [yo]
  ·exact h
  ·intro z;subst z;rw [ha] at h;cases h;rw [hi] at m;cases m⟩
def bu.write {st:aa}{n:Nat}{a:Addr}{o':HO}{so:SO}(s:bu K mg ρ H st) (hn:ρ[n]?=some a) (ew:Ext ρ H ρ (upd H a o')) (h:iH K mg ρ (upd H a o') so a):bu K mg ρ (upd H a o') (st.set n so):=by
 refine ⟨by simp [s.len],s.nd,λi oN e=>?_⟩
 rw [List.getElem?_set] at e
 by_cases d_:n=i
 ·subst d_
  rw [zx rfl] at e
  split at e
  ·cases e;exact ⟨a,hn,h⟩
  ·cases e
 ·rw [zK d_] at e
  obtain ⟨b,hb,q⟩:=s.at_ i oN e
  have ne:b≠a:=by
   intro z
   subst z
   obtain ⟨h1,h2⟩:=yt.mp hn
   obtain ⟨h3,h4⟩:=yt.mp hb
   have pw:=List.pairwise_iff_getElem.mp s.nd
   rcases Nat.lt_trichotomy n i with c|c|c
   ·exact pw n i h1 h3 c (h2.trans h4.symm)
   ·exact d_ c
   ·exact pw i n h3 h1 c (h4.trans h2.symm)
  exact ⟨b,hb,q.ext' ew (yo ne)⟩
section
variable {α β:Type} {E:XK} {good:List Addr->Hp->α->aa->Prop}
def Out.ext {r:Res α}(h:Out K mg ρ H r good E) (e:Ext ρ H ah H1):Out K mg ah H1 r good E:=by
 cases r with
 |ok x st=>exact λal H' e' s=>h al H' (e.trans e') s
 |err c ks xs st=>exact λal H' C d e' s x=>h al H' C d (e.trans e') s x
 |stuck=>exact h
def Out.mono {r:Res α}{eZ:List Addr->Hp->α->aa->Prop}(h:Out K mg ρ H r good E) (g:∀al H' x st,Ext ρ H al H'->bu K mg al H' st->good al H' x st->eZ al H' x st):Out K mg ρ H r eZ E:=by
 cases r with
 |ok x st=>exact λal H' e' s=>g al H' x st e' s (h al H' e' s)
 |err c ks xs st=>exact h
 |stuck=>exact h
theorem Out.bind {r:Res β}{f:β->Mo α}(h:Out K mg ρ H (r.bind f) good E):Out K mg ρ H r (λal H' x st=>Out K mg al H' (f x st) good E) E:=by
 cases r with
 |ok x st=>exact λal H' e' s=>Out.ext h e'
 |err c ks xs st=>exact h
 |stuck=>exact h
def Out.then {r:Res β}{f:β->Mo α}{eZ:List Addr->Hp->β->aa->Prop}(h:Out K mg ρ H (r.bind f) good E) (g:∀al H' x st,Ext ρ H al H'->bu K mg al H' st->Out K mg al H' (f x st) good E->eZ al H' x st):Out K mg ρ H r eZ E:=h.bind.mono g
def Out.now {x:α}{st:aa}(h:Out K mg ρ H (.ok x st) good E) (s:bu K mg ρ H st):good ρ H x st:=h ρ H Ext.refl s
end
end
end Mi
namespace Mi
open PySem L2 PySem.W PySem.Spec
abbrev lim:Nat:=1000000
def y0 {n:Nat}(h:n<=lim):n<=sizeLine:=by rw [sizeLine_eq];show n<=16777216;exact jv h (by decide)
section
variable (K:Frag) (mg:Ab)
def tM (Er:XK) (f:Aj):TE:=fun σ H Q=>∃env st ρ,bJ K mg ρ H env σ/\bu K mg ρ H st/\Out K mg ρ H (f env st) (gV K mg Q) Er
def oO (Er:XK) (f:Al):TT:=fun σ H Q=>∃env st ρ,bJ K mg ρ H env σ/\bu K mg ρ H st/\Out K mg ρ H (f env st) (gB Q) Er
def OY (Er:XK) (f:Ai):TA:=fun σ H Q=>∃env st ρ,bJ K mg ρ H env σ/\bu K mg ρ H st/\Out K mg ρ H (f env st) (OX K mg Q) Er
def sM (Er:XK) (f:Ak):TS:=λD σ H=>∃env st ρ,bJ K mg ρ H env σ/\bu K mg ρ H st/\Out K mg ρ H (f env st) (gS K mg D) Er
end
def ME (X:Cx) (Er:XK) (e:Expr) (f:Aj):Prop:=PE X e (tM X.K X.mg Er f)
def MT (X:Cx) (Er:XK) (e:Expr) (f:Al):Prop:=PT X e (oO X.K X.mg Er f)
def MW (X:Cx) (Er:XK) (e:Expr) (f:Al):Prop:=PW X e (oO X.K X.mg Er f)
def MA (X:Cx) (Er:XK) (e:List Expr) (f:Ai):Prop:=PA X e (OY X.K X.mg Er f)
def MS (X:Cx) (Er:XK) (e:Stmt) (f:Ak):Prop:=PS X e (sM X.K X.mg Er f)
def fR (X:Cx) (Er:XK) (e:List Stmt) (f:Ak):Prop:=cU X e (sM X.K X.mg Er f)
section
variable {X:Cx} {Er:XK} {e a b c:Expr} {es:List Expr} {pos:Pos} {t t':TE}
def PE.weak (h:PE X e t) (w:∀σ H Q,t' σ H Q->t σ H Q):PE X e t':=λpins s σ H Q I q=>h pins s σ H Q I (w σ H Q q)
def PT.weak {t t':TT}(h:PT X e t) (w:∀σ H Q,t' σ H Q->t σ H Q):PT X e t':=λpins s σ H Q I q=>h pins s σ H Q I (w σ H Q q)
def PW.weak {t t':TT}(h:PW X e t) (w:∀σ H Q,t' σ H Q->t σ H Q):PW X e t':=λwh pins s σ H Q I q=>h wh pins s σ H Q I (w σ H Q q)
def PA.weak {t t':TA}(h:PA X es t) (w:∀σ H Q,t' σ H Q->t σ H Q):PA X es t':=λpos pins s σ H Q I q=>h pos pins s σ H Q I (w σ H Q q)
def PS.weak {st:Stmt}{t t':TS}(h:PS X st t) (w:∀D σ H,t' D σ H->t D σ H):PS X st t':=λpins s σ H D I q=>h pins s σ H D I (w D σ H q)
def cU.weak {st:List Stmt}{t t':TS}(h:cU X st t) (w:∀D σ H,t' D σ H->t D σ H):cU X st t':=λpins s σ H D I q=>h pins s σ H D I (w D σ H q)
def zc (i:Nat):Aj:=λenv st=>match env[i]? with
 |some (some x)=>.ok x st
 |_=>.stuck
def mC (x:PV):Aj:=λ_ st=>.ok x st
def zg (i:Nat) {x:Str} {pos:Pos} (hN:X.N[i]?=some x:=by rfl) (hv:sj X.env.scope x:=by first|exact Or.inl rfl|exact Or.inr (Or.inl rfl)|exact Or.inr (Or.inr rfl)) (hd:(x==("__debug__" : Str))=false:=by decide)
  (gf:(x==("__classdict__" : Str))=false:=by decide):ME X Er (.Name x pos) (zc i):=PE.weak (Lb hN hv hd gf) fun σ H Q ⟨env,st,ρ,re,rs,h⟩=>by
 unfold zc at h
 split at h
 ·rename_i x' hx
  obtain ⟨v,h1,h2⟩:=re.at_ i x' hx
  exact ⟨v,h1,h.now rs v h2⟩
 ·exact h.elim
def oP {x:PV}{v:V}(hp:PE X e (tC v)) (hr:∀ρ H,R X.K X.mg ρ H x v):ME X Er e (mC x):=PE.weak hp fun σ H Q ⟨env,st,ρ,re,rs,h⟩=>h.now rs v (hr ρ H)
def zA {i:Int}{j}:ME X Er (.Constant (.int i) j pos) (mC (.int i)):=oP Lc λ_ _=>rfl
def zM {x:Str}{j}:ME X Er (.Constant (.str x) j pos) (mC (.str x)):=oP Lf λ_ _=>rfl
def zdm {b:Bool}{j}:ME X Er (.Constant (.bool b) j pos) (mC (.bl b)):=oP Ld λ_ _=>rfl
def wF {j}:ME X Er (.Constant .none j pos) (mC .non):=oP Le λ_ _=>rfl
def OZ {x:Str} {p:PV} {v:V} {u:Value} (hm:X.mg x=some u) (r:RelV v u) (hr:∀ρ H,R X.K X.mg ρ H p v) (hg:Gl X x:=by rfl) (hd:(x==("__debug__" : Str))=false:=by decide):ME X Er (.Name x pos) (mC p):=oP (vR hg hm r hd) hr
def eJ (K:Frag) (mg:Ab) (r:R2) (op:Ao):Prop:=∀ρ H st x y v w (Q:VK) (E:XK),bu K mg ρ H st->R K mg ρ H x v->R K mg ρ H y w->Out K mg ρ H (op x y st) (gV K mg Q) E->r v w H Q
def zk (op:Ao) (fa fb:Aj):Aj:=λenv st=>(fa env st).bind λx ae=>(fb env ae).bind λy aQ=>op x y aQ
variable {fa fb fc:Aj}
def tq {r:R2}{op:Ao}{K:Frag}{mg:Ab}(hm:eJ K mg r op) {σ:St}{H:Hp}{Q:VK}(h:tM K mg Er (zk op fa fb) σ H Q):p9 r (tM K mg Er fa) (tM K mg Er fb) σ H Q:=by
 obtain ⟨env,st,ρ,re,rs,h⟩:=h
 exact ⟨env,st,ρ,re,rs,h.then λah H1 x ae e1 s1 h1 v rv=>⟨env,ae,ah,re.ext e1,s1,h1.then λaq H2 y aQ e2 s2 h2 w rw=>hm aq H2 aQ x y v w Q Er s2 (R.ext e2 x rv) rw h2⟩⟩
def O0 {o:Operator}{r:R2}{op:Ao}(ho:bz X (binaryOp o) r) (hm:eJ X.K X.mg r op) (ha:ME X Er a fa) (hb:ME X Er b fb):ME X Er (.BinOp a o b pos) (zk op fa fb) :=
 PE.weak (Mb ho ha hb) fun σ H Q h=>tq hm h
def O4 {o:CmpOp}{r:R2}{op:Ao}(ho:bz X (compareOp o) r) (hm:eJ X.K X.mg r op) (ha:ME X Er a fa) (hb:ME X Er b fb) (hk:behindInMarks o b=false):ME X Er (.Compare a [o] [b] pos) (zk op fa fb) :=
 PE.weak (My ho ha hb hk) fun σ H Q h=>tq hm h
def kF:PV->Mo Bool
 |.bl b,st=>.ok b st
 |_,_=>.stuck
def mB (f:Aj):Al:=λenv st=>(f env st).bind kF
def O5 {K:Frag}{mg:Ab}{ρ:Af}{H:Hp}{x:PV}{st:aa}{Q:Bool->Hp->Prop}(s:bu K mg ρ H st) (h:Out K mg ρ H (kF x st) (gB Q) Er) {v:V}(r:R K mg ρ H x v):∃k,v=.bl k/\Q k H:=by
 unfold kF at h
 split at h
 ·cases r;exact ⟨_,rfl,h.now s⟩
 ·exact h.elim
def El {α:Type}{K:Frag}{mg:Ab}{ρ:Af}{H:Hp}{x:PV}{st:aa}{f:Bool->Mo α}{good:List Addr->Hp->α->aa->Prop}(h:Out K mg ρ H ((kF x st).bind f) good Er):∃k,x=.bl k/\Out K mg ρ H (f k st) good Er:=by
 cases x with
 |bl k=>exact ⟨k,rfl,h⟩
 |_=>exact h.elim
def tu {f:Aj}{K:Frag}{mg:Ab}{σ:St}{H:Hp}{Q:Bool->Hp->Prop}(h:oO K mg Er (mB f) σ H Q):tM K mg Er f σ H λx H1=>∃c,x=.bl c/\Q c H1:=by
 obtain ⟨env,st,ρ,re,rs,h⟩:=h
 exact ⟨env,st,ρ,re,rs,h.then λah H1 x ae e1 s1 h1 v rv=>O5 s1 h1 rv⟩
def O6 {o:CmpOp}{r:R2}{op:Ao}(ho:bz X (compareOp o) r) (hm:eJ X.K X.mg r op) (ha:ME X Er a fa) (hb:ME X Er b fb) (hk:behindInMarks o b=false):MT X Er (.Compare a [o] [b] pos) (mB (zk op fa fb)) :=
 PT.weak (C6 ho ha hb hk) fun σ H Q h=>tq hm (tu h)
def j5 (h:ME X Er e fa) (he:∀whole,isTrue e X.env whole=(do let v <-whole;standAt e.pos;holding [v] (truthy v)):=by intro _;rfl):MT X Er e (mB fa) :=
 PT.weak (Lh h he) fun σ H Q h=>tu h
def tD (op fh:Ao) (fa fb fc:Aj):Aj:=λenv st=>(fa env st).bind λx ae=>(fb env ae).bind λy aQ=>(op x y aQ).bind λk bq=>(kF k bq).bind λb eL =>
 if b=true then (fc env eL).bind λz d7=>fh y z d7 else .ok (.bl false) eL
def O7 {r r':R2}{op fh:Ao}{K:Frag}{mg:Ab}(hm:eJ K mg r op) (hm':eJ K mg r' fh) {σ:St}{H:Hp}{Q:VK}(h:tM K mg Er (tD op fh fa fb fc) σ H Q):C7 r r' (tM K mg Er fa) (tM K mg Er fb) (tM K mg Er fc) σ H Q:=by
 obtain ⟨env,st,ρ,re,rs,h⟩:=h
 refine ⟨env,st,ρ,re,rs,h.then λah H1 x ae e1 s1 h1 v rv=>⟨env,ae,ah,re.ext e1,s1,h1.then λaq H2 y aQ e2 s2 h2 w rw=>?_⟩⟩
 refine hm aq H2 aQ x y v w _ Er s2 (R.ext e2 x rv) rw (h2.then λao H3 z bq e3 s3 h3 u ru=>?_)
 obtain ⟨b,rfl,h4⟩:=El h3
 cases ru
 refine ⟨b,rfl,?_⟩
 cases b with
 |true=>exact ⟨env,bq,ao,((re.ext e1).ext e2).ext e3,s3,Out.then (f:=λz d7=>fh y z d7) h4 λaR H5 z d7 e5 s5 h5 w' dm=>hm' aR H5 d7 y z w w' Q Er s5 (R.ext e5 y (R.ext e3 y rw)) dm h5⟩
 |false=>exact Out.now (x:=PV.bl false) h4 s3 _ rfl
def O8 {o o':CmpOp}{r r':R2}{op fh:Ao}(ho:bz X (compareOp o) r) (hm:eJ X.K X.mg r op) (ho':bz X (compareOp o') r') (hm':eJ X.K X.mg r' fh) (ha:ME X Er a fa) (hb:ME X Er b fb) (hc:ME X Er c fc)
  (hk:lastMarks [o,o'] [b,c]=false:=by with_unfolding_all rfl):MT X Er (.Compare a [o,o'] [b,c] pos) (mB (tD op fh fa fb fc)):=PT.weak (Mz ho ho' ha hb hc hk) fun σ H Q h=>O7 hm hm' (tu h)
def Em (K:Frag) (mg:Ab) (r:V->Hp->VK->Prop) (op:PV->Mo PV):Prop:=∀ρ H st x v (Q:VK) (E:XK),bu K mg ρ H st->R K mg ρ H x v->Out K mg ρ H (op x st) (gV K mg Q) E->r v H Q
def yc (op:PV->Mo PV) (fa:Aj):Aj:=λenv st=>(fa env st).bind op
def O9 {o:UnaryOp}{r:V->Hp->VK->Prop}{op:PV->Mo PV}(ho:p7 X (unaryOp o) r) (hm:Em X.K X.mg r op) (ha:ME X Er a fa):ME X Er (.UnaryOp o a pos) (yc op fa) :=
 PE.weak (Mc ho ha) fun σ H Q ⟨env,st,ρ,re,rs,h⟩=>⟨env,st,ρ,re,rs,h.then λah H1 x ae e1 s1 h1 v rv=>hm ah H1 ae x v Q Er s1 rv h1⟩
variable {ga gb:Al} {rest:List Expr}
def jN (ga gb:Al):Al:=λenv st=>(ga env st).bind λc ae=>if c=true then gb env ae else .ok false ae
def oQ (ga gb:Al):Al:=λenv st=>(ga env st).bind λc ae=>if c=true then .ok true ae else gb env ae
def kG (ga:Al):Al:=λenv st=>(ga env st).bind λc ae=>.ok (!c) ae
def zcp (ha:MT X Er a ga):MW X Er (.BoolOp .And [a] pos) ga:=Ll ha
def zpn (ha:MT X Er a ga):MW X Er (.BoolOp .Or [a] pos) ga:=Lm ha
def zbJ (ha:MT X Er a ga) (hb:MW X Er (.BoolOp .And (b::rest) pos) gb):MW X Er (.BoolOp .And (a::b::rest) pos) (jN ga gb) :=
 PW.weak (Ln ha hb) fun σ H Q ⟨env,st,ρ,re,rs,h⟩=>⟨env,st,ρ,re,rs,h.then λah H1 k ae e1 s1 h1=>by
  cases k with
  |true=>exact ⟨env,ae,ah,re.ext e1,s1,h1⟩
  |false=>exact h1.now s1⟩
def zpo (ha:MT X Er a ga) (hb:MW X Er (.BoolOp .Or (b::rest) pos) gb):MW X Er (.BoolOp .Or (a::b::rest) pos) (oQ ga gb) :=
 PW.weak (Lo ha hb) fun σ H Q ⟨env,st,ρ,re,rs,h⟩=>⟨env,st,ρ,re,rs,h.then λah H1 k ae e1 s1 h1=>by
  cases k with
  |false=>exact ⟨env,ae,ah,re.ext e1,s1,h1⟩
  |true=>exact h1.now s1⟩
def zbK {op:BoolOp}(h:MW X Er (.BoolOp op es pos) ga):MT X Er (.BoolOp op es pos) ga:=PW.pt h
def ze5 (ha:MT X Er a ga):MT X Er (.UnaryOp .Not a pos) (kG ga):=PT.weak (Lp ha) fun σ H Q ⟨env,st,ρ,re,rs,h⟩=>⟨env,st,ρ,re,rs,h.then λah H1 k ae e1 s1 h1=>h1.now s1⟩
def nq (fa fb:Aj):Aj:=λenv st=>(fa env st).bind λx ae=>(kF x ae).bind λc aQ=>if c=true then fb env aQ else .ok (.bl false) aQ
def zpp {op}(h:ME X Er a fa):ME X Er (.BoolOp op [a] pos) fa:=Lu h
def zpq (ha:ME X Er a fa) (hb:ME X Er (.BoolOp .And (b::rest) pos) fb):ME X Er (.BoolOp .And (a::b::rest) pos) (nq fa fb) :=
 PE.weak (Lv ha hb) fun σ H Q ⟨env,st,ρ,re,rs,h⟩=>⟨env,st,ρ,re,rs,h.then λah H1 x ae e1 s1 h1 v rv=>by
  obtain ⟨k,rfl,h1⟩:=El h1
  cases rv
  refine ⟨k,rfl,?_⟩
  cases k with
  |true=>exact ⟨env,ae,ah,re.ext e1,s1,h1⟩
  |false=>exact Out.now (x:=PV.bl false) h1 s1 _ rfl⟩
def zj:Ai:=λ_ st=>.ok [] st
def zd (f:Aj) (fs:Ai):Ai:=λenv st=>(f env st).bind λx ae=>(fs env ae).bind λxs aQ=>.ok (x::xs) aQ
variable {fs:Ai}
def zm:MA X Er [] zj:=PA.weak qd fun σ H Q ⟨env,st,ρ,re,rs,h⟩=>h.now rs [] rfl
def En (ha:ME X Er e fa) (hr:MA X Er es fs) (hs:starEach (e::es) X.env=(false,eval e X.env)::starEach es X.env:=by rfl):MA X Er (e::es) (zd fa fs) :=
 PA.weak (qe ha hr hs) fun σ H Q ⟨env,st,ρ,re,rs,h⟩=>⟨env,st,ρ,re,rs,h.then λah H1 x ae e1 s1 h1 v rv=>⟨env,ae,ah,re.ext e1,s1,h1.then λaq H2 xs aQ e2 s2 h2 vs xR =>
  h2.now s2 (v::vs) ⟨v,vs,rfl,R.ext e2 x rv,xR⟩⟩⟩
def zI (fs:Ai):Aj:=λenv st=>(fs env st).bind λxs ae=>if xs.length<=lim then .ok (.tup xs) ae else .stuck
def jg (fs:Ai):Aj:=λenv st=>(fs env st).bind λxs ae=>if xs.length<=lim then .ok (.ref ae.length) (ae++[.lst xs]) else .stuck
def R.tup_of {K:Frag}{mg:Ab}{ρ:Af}{H:Hp}{xs:Aq}{vs:List V}{p:Addr}(r:Rs K mg ρ H xs vs) (hp:H p=none):R K mg ρ (upd H p (.tup vs)) (.tup xs) (.ref p) :=
 ⟨p,vs,rfl,bD.of yZ,Rs.ext (Ext.new hp) xs r⟩
def zS {x1}(h:MA X Er es fs):ME X Er (.Tuple es x1 pos) (zI fs) :=
 PE.weak (Nb h) fun σ H Q ⟨env,st,ρ,re,rs,h⟩=>⟨env,st,ρ,re,rs,h.then λah H1 xs ae e1 s1 h1 vs rv=>by
  split at h1
  ·rename_i hl
   exact ⟨by rw [<-rv.len];exact y0 hl,λp hp=>h1 ah _ (Ext.new hp) (s1.new hp) _ (R.tup_of rv hp)⟩
  ·exact h1.elim⟩
def Out.newList {K:Frag}{mg:Ab}{ρ:Af}{H:Hp}{st:aa}{xs:Aq}{vs:List V}{p:Addr}{Q:VK}(h:Out K mg ρ H (.ok (.ref st.length) (st++[.lst xs])) (gV K mg Q) Er) (s:bu K mg ρ H st) (r:Rs K mg ρ H xs vs) (hp:H p=none):Q (.ref p) (upd H p (.lst vs)) :=
 h (ρ++[p]) _ (Ext.push hp) (s.push hp ⟨vs,yZ,Rs.ext (Ext.push hp) xs r⟩) _ ⟨p,rfl,by rw [<-s.len];simp⟩
def jz (h:MA X Er es fs):ME X Er (.List es pos) (jg fs) :=
 PE.weak (Nc h) fun σ H Q ⟨env,st,ρ,re,rs,h⟩=>⟨env,st,ρ,re,rs,h.then λah H1 xs ae e1 s1 h1 vs rv=>by
  split at h1
  ·rename_i hl
   exact ⟨by rw [<-rv.len];exact y0 hl,λp hp=>Out.newList h1 s1 rv hp⟩
  ·exact h1.elim⟩
def O_ {r:R2}{op:Ao}(ho:fN X r) (hm:eJ X.K X.mg r op) (ha:ME X Er a fa) (hb:ME X Er b fb) (hs:fM b:=by exact λ_ _=>rfl):ME X Er (.Subscript a b pos) (zk op fa fb) :=
 PE.weak (Dz ho ha hb hs) fun σ H Q h=>tq hm h
end
end Mi
namespace HT
open PySem PySem.Spec PyProof.Rows
section
variable {prog:Program} {w:World} {A:Around} {E:Aa} {s:Shared}
def cat_tup0 {t b:Addr}{ws:Ag}{Q:Aa}(ht:IsTup s.heap t #[]) (hb:IsTup s.heap b ws.toArray) (h1:Q (.ref b) s):wpAny (model prog w) A (binaryOp .Add (.ref t) (.ref b)) Q E s:=by
 obtain ⟨⟨cls,dd,data,sl⟩,ho,hc,n,hd⟩:=id ht
 obtain ⟨⟨vy,mO,data2,gQ⟩,ho2,gR,n2,hd2⟩:=id hb
 simp only at hc hd gR hd2
 subst hc hd gR hd2
 exact concat_meets ⟨_,ho,rfl⟩ ⟨_,ho2,rfl⟩ noFill_tuple_add seq_tuple_add PySem.F.slot_tuple_add PySem.F.entry_tuple_add (PySem.F.args_tuple_add_2 _ _)
   (tuple_addW0 t b #[] ws.toArray n n2 dd mO sl gQ (by simp)) ⟨ho,ho2,h1⟩
end
end HT
namespace Mi
open PySem L2 PySem.W PySem.Spec
section
variable {X:Cx} {Er:XK} {K:Frag} {mg:Ab}
def dn (X:Cx) (o:Operator) (op:Ao):Prop:=∃r,bz X (binaryOp o) r/\eJ X.K X.mg r op
def cf (X:Cx) (o:CmpOp) (op:Ao):Prop:=∃r,bz X (compareOp o) r/\eJ X.K X.mg r op
def lU (X:Cx) (op:Ao):Prop:=∃r,fN X r/\eJ X.K X.mg r op
def vC (X:Cx) (o:UnaryOp) (op:PV->Mo PV):Prop:=∃r,p7 X (unaryOp o) r/\Em X.K X.mg r op
variable {a b c e:Expr} {pos:Pos} {fa fb fc:Aj}
def yg {o:Operator}{op:Ao}(h:dn X o op) (ha:ME X Er a fa) (hb:ME X Er b fb):ME X Er (.BinOp a o b pos) (zk op fa fb):=let ⟨_,h1,h2⟩:=h;O0 h1 h2 ha hb
def Eo {o:CmpOp}{op:Ao}(h:cf X o op) (ha:ME X Er a fa) (hb:ME X Er b fb) (hk:behindInMarks o b=false:=by first|exact nZ _|with_unfolding_all rfl):ME X Er (.Compare a [o] [b] pos) (zk op fa fb):=let ⟨_,h1,h2⟩:=h;O4 h1 h2 ha hb hk
def yw {o:CmpOp}{op:Ao}(h:cf X o op) (ha:ME X Er a fa) (hb:ME X Er b fb) (hk:behindInMarks o b=false:=by first|exact nZ _|with_unfolding_all rfl):MT X Er (.Compare a [o] [b] pos) (mB (zk op fa fb)):=let ⟨_,h1,h2⟩:=h;O6 h1 h2 ha hb hk
def Pa {o o':CmpOp}{op fh:Ao}(h:cf X o op) (h':cf X o' fh) (ha:ME X Er a fa) (hb:ME X Er b fb) (hc:ME X Er c fc)
  (hk:lastMarks [o,o'] [b,c]=false:=by with_unfolding_all rfl):MT X Er (.Compare a [o,o'] [b,c] pos) (mB (tD op fh fa fb fc)):=let ⟨_,h1,h2⟩:=h;let ⟨_,h3,h4⟩:=h';O8 h1 h2 h3 h4 ha hb hc hk
def zG {op:Ao}(h:lU X op) (ha:ME X Er a fa) (hb:ME X Er b fb) (hs:fM b:=by exact λ_ _=>rfl):ME X Er (.Subscript a b pos) (zk op fa fb):=let ⟨_,h1,h2⟩:=h;O_ h1 h2 ha hb hs
def Pb {o:UnaryOp}{op:PV->Mo PV}(h:vC X o op) (ha:ME X Er a fa):ME X Er (.UnaryOp o a pos) (yc op fa):=let ⟨_,h1,h2⟩:=h;O9 h1 h2 ha
def Out.ifp {α:Type}{ρ:Af}{H:Hp}{p:Prop} [Decidable p] {r:Res α}{good:List Addr->Hp->α->aa->Prop}(h:Out K mg ρ H (if p then r else .stuck) good Er):p/\Out K mg ρ H r good Er:=by
 split at h
 ·rename_i hp;exact ⟨hp,h⟩
 ·exact h.elim
def yl {α:Type}(st:aa) (n:Nat) (k:List PV->Res α):Res α:=match st[n]? with
 |some (.lst xs)=>k xs
 |_=>.stuck
def yW {α:Type}(st:aa) (n:Nat) (k:List Str->List PV->Res α):Res α:=match st[n]? with
 |some (.dic ks xs)=>k ks xs
 |_=>.stuck
def jh {α:Type}(st:aa) (n:Nat) (k:Str->List Str->List PV->Res α):Res α:=match st[n]? with
 |some (.ins c ks xs)=>k c ks xs
 |_=>.stuck
def jX {α:Type}{ρ:Af}{H:Hp}{st:aa}{n:Nat}{k:List PV->Res α}{good:List Addr->Hp->α->aa->Prop}(h:Out K mg ρ H (yl st n k) good Er):∃xs,st[n]?=some (.lst xs)/\Out K mg ρ H (k xs) good Er:=by
 unfold yl at h
 split at h
 ·rename_i xs e;exact ⟨xs,e,h⟩
 ·exact h.elim
def tE {α:Type}{ρ:Af}{H:Hp}{st:aa}{n:Nat}{k:List Str->List PV->Res α}{good:List Addr->Hp->α->aa->Prop}(h:Out K mg ρ H (yW st n k) good Er):∃ks xs,st[n]?=some (.dic ks xs)/\Out K mg ρ H (k ks xs) good Er:=by
 unfold yW at h
 split at h
 ·rename_i ks xs e;exact ⟨ks,xs,e,h⟩
 ·exact h.elim
def Ep {α:Type}{ρ:Af}{H:Hp}{st:aa}{n:Nat}{k:Str->List Str->List PV->Res α}{good:List Addr->Hp->α->aa->Prop}(h:Out K mg ρ H (jh st n k) good Er):∃c ks xs,st[n]?=some (.ins c ks xs)/\Out K mg ρ H (k c ks xs) good Er:=by
 unfold jh at h
 split at h
 ·rename_i c ks xs e;exact ⟨c,ks,xs,e,h⟩
 ·exact h.elim
def opI (C:Int->Int->Bool) (g:Int->Int->Int):Ao
 |.int i,.int j,st=>if C i j=true then .ok (.int (g i j)) st else .stuck
 |_,_,_=>.stuck
def kH {C:Int->Int->Bool}{g:Int->Int->Int}{P:Int->Int->Prop}(hC:∀i j,C i j=true->P i j):eJ K mg (rI P λi j=>.int (g i j)) (opI C g):=by
 intro ρ H st x y v w Q E s rx ry h
 cases x with
 |int i =>
  cases y with
  |int j =>
   cases rx;cases ry
   obtain ⟨c,h⟩:=Out.ifp h
   exact ⟨i,j,rfl,rfl,hC i j c,h.now s _ rfl⟩
  |_=>exact h.elim
 |_=>exact h.elim
abbrev c0:Int->Int->Bool:=λ_ _=>true
def xS {g:Int->Int->V}{f:Value->Value->Sem Value}(h:bz X f (wO g)):bz X f (rI (λ_ _=>True) g):=λpins s σ H x y v u Q I rx ry ⟨i,j,h1,h2,_,q⟩=>h pins s σ H x y v u Q I rx ry ⟨i,j,h1,h2,q⟩
abbrev qA:=opI c0 λi j=>i-j
abbrev lV:Int->Int->Bool:=λi j=>(decide (-(2 ^ 64)<i)&&decide (i<2 ^ 64))||(decide (-(2 ^ 64)<j)&&decide (j<2 ^ 64))
abbrev Es:=opI lV λi j=>i*j
abbrev gy:Int->Int->Bool:=λi j=>decide (0<=j)&&decide (j<=1000000)&&decide (i.natAbs<2 ^ 64)
abbrev tF:=opI gy λi j=>i ^ j.toNat
abbrev Et:Int->Int->Bool:=λ_ j=>decide (j≠0)
def wQ (i j:Int):Int:=if 0<j then i%j else i.fmod j
abbrev ja:=opI Et wQ
abbrev xT:Int->Int->Bool:=λ_ j=>decide (j≠0)&&decide (j.natAbs<2 ^ 200)
def wj (i j:Int):Int:=if 0<j then i/j else i.fdiv j
abbrev iI:=opI xT wj
def Pc (i j:Int):wQ i j=i.fmod j:=by
 unfold wQ;split
 ·rename_i h;rw [Int.fmod_eq_emod_of_nonneg _ (by omega)]
 ·rfl
def Pd (i j:Int):wj i j=i.fdiv j:=by
 unfold wj;split
 ·rename_i h;rw [Int.fdiv_eq_ediv_of_nonneg _ (by omega)]
 ·rfl
def ze7:dn X .Sub qA:=⟨_,xS Mf,kH λ_ _ _=>trivial⟩
def Pe:dn X .Mult Es:=⟨_,Mh,kH λi j h=>by simpa [lV,nY] using h⟩
def zhX:dn X .Pow tF:=⟨_,Ml,kH λi j h=>by simp [gy] at h;exact ⟨h.1.1,h.1.2,h.2⟩⟩
def wR:dn X .Mod ja:=⟨_,Mj,by
 have h:(λi j=>V.int (i.fmod j))=λi j=>V.int (wQ i j):=by funext i j;rw [Pc]
 rw [h];exact kH λi j h=>by simpa [Et] using h⟩
def Pf {y:Int}(h:y.natAbs<2 ^ 200):y.natAbs.log2<9000:=by
 by_cases h0:y.natAbs=0
 ·rw [h0];decide
 ·have:=(Nat.log2_lt h0).mpr h
  omega
def Pg:bz X (binaryOp .FloorDiv) (rI (λ_ j=>j≠0/\j.natAbs<2 ^ 200) λi j=>.int (i.fdiv j)):=L2.opI λ_ _ _ _ _ _ _ hc q=>PyProof.Rows.floordiv_int hc.1 q (.inl (PyProof.noPylong_of_log2 (Pf hc.2)))
def zcr:dn X .FloorDiv iI:=⟨_,Pg,by
 have h:(λi j=>V.int (i.fdiv j))=λi j=>V.int (wj i j):=by funext i j;rw [Pd]
 rw [h];exact kH λi j h=>by simpa [xT] using h⟩
def xU:PV->Mo PV
 |.int i,st=>.ok (.int (-i)) st
 |_,_=>.stuck
def Ph:vC X .USub xU:=⟨_,Ms,by
 intro ρ H st x v Q E s rx h
 cases x with
 |int i=>cases rx;exact ⟨i,rfl,Out.now (x:=PV.int (-i)) h s _ rfl⟩
 |_=>exact h.elim⟩
def yh:Ao
 |.int i,.int j,st=>.ok (.int (i+j)) st
 |.str x,.str y,st=>if x.length+y.length<=lim then .ok (.str (x++y)) st else .stuck
 |.tup xs,.tup ys,st=>if xs.length+ys.length<=lim then .ok (.tup (xs++ys)) st else .stuck
 |.ref n,.ref m,st=>yl st n λxs=>yl st m λys=>if xs.length+ys.length<=lim then .ok (.ref st.length) (st++[.lst (xs++ys)]) else .stuck
 |_,_,_=>.stuck
def Pj (K:Frag):R2:=λx y H Q=>∃a b ys,x=.ref a/\y=.ref b/\bD K H a []/\bD K H b ys/\Q (.ref b) H
def Pk:bz X (binaryOp .Add) (Pj X.K):=by
 intro pins s σ H x y v u Q I rx ry h
 obtain ⟨a,b,ys,rfl,rfl,h1,h2,q⟩:=h
 cases rx;cases ry
 obtain ⟨i1,r1,p1,_⟩:=I.tuple h1
 obtain ⟨i2,r2,p2,_⟩:=I.tuple h2
 cases r1
 exact HT.cat_tup0 p1 p2 ⟨.ref b,H,I,rfl,q⟩
def yR:dn X .Add yh:=⟨_,Me.or (MB.or (Pk.or (Nw.or NQ))),by
 intro ρ H st x y v w Q E s rx ry h
 cases x with
 |int i =>
  cases y with
  |int j=>cases rx;cases ry;exact .inl ⟨i,j,rfl,rfl,Out.now (x:=PV.int (i+j)) h s _ rfl⟩
  |_=>exact h.elim
 |str i =>
  cases y with
  |str j =>
   cases rx;cases ry
   obtain ⟨c,h⟩:=Out.ifp h
   exact .inr (.inl ⟨i,j,rfl,rfl,y0 c,h.now s _ rfl⟩)
  |_=>exact h.elim
 |tup xs =>
  cases y with
  |tup ys =>
   obtain ⟨p,vs,rfl,h1,h2⟩:=rx
   obtain ⟨q,ws,rfl,h3,h4⟩:=ry
   obtain ⟨c,h⟩:=Out.ifp h
   cases xs with
   |nil =>
    cases h2
    exact .inr (.inr (.inl ⟨p,q,ws,rfl,rfl,h1,h3,h.now s _ ⟨q,ws,rfl,h3,h4⟩⟩))
   |cons x0 qB =>
    refine .inr (.inr (.inr (.inl ⟨p,q,vs,ws,rfl,rfl,h1,h3,?_,?_,λe=>?_,λ_ l hl=>?_⟩)))
    ·obtain ⟨v0,r0,e0,_⟩:=h2;rw [e0];simp
    ·rw [<-h2.len,<-h4.len];exact y0 c
    ·subst e
     have:ys=[]:=by have:=h4.len;simpa using this
     subst this
     exact h.now s _ ⟨p,vs,rfl,h1,by simpa using h2⟩
    ·exact h ρ _ (Ext.new hl) (s.new hl) _ (R.tup_of (h2.append h4) hl)
  |_=>exact h.elim
 |ref n =>
  cases y with
  |ref m =>
   obtain ⟨p,rfl,hp⟩:=rx
   obtain ⟨q,rfl,hq⟩:=ry
   obtain ⟨xs,e1,h⟩:=jX h
   obtain ⟨ys,e2,h⟩:=jX h
   obtain ⟨c,h⟩:=Out.ifp h
   obtain ⟨vs,h1,h2⟩:=s.addr e1 hp
   obtain ⟨ws,h3,h4⟩:=s.addr e2 hq
   exact .inr (.inr (.inr (.inr ⟨p,q,vs,ws,rfl,rfl,h1,h3,by rw [<-h2.len,<-h4.len];exact y0 c,λl hl=>Out.newList h s (h2.append h4) hl⟩)))
  |_=>exact h.elim
 |_=>exact h.elim⟩
def tG (g:Int->Int->Bool):Ao
 |.int i,.int j,st=>.ok (.bl (g i j)) st
 |_,_,_=>.stuck
def xV {g:Int->Int->Bool}:eJ K mg (wO λi j=>.bl (g i j)) (tG g):=by
 intro ρ H st x y v w Q E s rx ry h
 cases x with
 |int i =>
  cases y with
  |int j=>cases rx;cases ry;exact ⟨i,j,rfl,rfl,Out.now (x:=PV.bl (g i j)) h s _ rfl⟩
  |_=>exact h.elim
 |_=>exact h.elim
abbrev wS:=tG λi j=>decide (i<j)
abbrev oLe:=tG λi j=>decide (i<=j)
abbrev tI:=tG λi j=>decide (j<i)
def zcs:cf X .Lt wS:=⟨_,Mt,xV⟩
def Pl:cf X .LtE oLe:=⟨_,Mu,xV⟩
def zpD:cf X .Gt tI:=⟨_,Mv,xV⟩
def gj:PV->Bool
 |.non=>true
 |_=>false
def Eu:Ao
 |x,.non,st=>.ok (.bl (!gj x)) st
 |_,_,_=>.stuck
def Pm {ρ:Af}{H:Hp}{x:PV}{v:V}(r:R K mg ρ H x v):decide (v=.non)=gj x:=by
 cases x with
 |non=>cases r;rfl
 |bl _=>cases r;rfl
 |int _=>cases r;rfl
 |str _=>cases r;rfl
 |ty _=>cases r;rfl
 |tup _=>obtain ⟨_,_,rfl,_⟩:=r;rfl
 |frl _=>obtain ⟨_,_,rfl,_⟩:=r;rfl
 |ref _=>obtain ⟨_,rfl,_⟩:=r;rfl
 |fn _=>obtain ⟨_,rfl,_⟩:=r;rfl
 |kd _ _=>obtain ⟨_,_,_,rfl,_⟩:=r;rfl
 |exo _ _ _=>obtain ⟨_,_,rfl,_⟩:=r;rfl
def Pn:cf X .IsNot Eu:=⟨_,Mx,by
 intro ρ H st x y v w Q E s rx ry h
 cases y with
 |non=>cases ry;exact ⟨rfl,by rw [Pm rx];exact Out.now (x:=PV.bl (!gj x)) h s _ rfl⟩
 |_=>exact h.elim⟩
def xW {ρ:Af}{H:Hp}{xs:Aq}{vs:List V}{i:Int}{x:PV}(r:Rs K mg ρ H xs vs) (h:dB xs i=some x):∃v,dB vs i=some v/\R K mg ρ H x v:=by
 unfold dB at h ⊢
 rw [<-r.len]
 cases hj:fH xs.length i with
 |none=>rw [hj] at h;cases h
 |some j =>
  rw [hj] at h
  obtain ⟨v,h1,h2⟩:=r.get (show xs[j]?=some x from h)
  exact ⟨v,h1,h2⟩
def cD:Option PV->Mo PV
 |some x,st=>.ok x st
 |none,_=>.stuck
def xX:Ao
 |.tup xs,.int i,st=>cD (dB xs i) st
 |.frl xs,.int i,st=>cD (dB xs i) st
 |.str z,.int i,st=>if z.length<=lim then cD ((dB z.cps.toList i).map λc=>.str ⟨#[c]⟩) st else .stuck
 |.ref n,.int i,st=>yl st n λxs=>cD (dB xs i) st
 |_,_,_=>.stuck
def lW {ρ:Af}{H:Hp}{o:Ar}{st:aa}{good}(h:Out K mg ρ H (cD o st) good Er):∃x,o=some x/\Out K mg ρ H (.ok x st) good Er:=by
 cases o with
 |some x=>exact ⟨x,rfl,h⟩
 |none=>exact h.elim
def Po:lU X xX:=⟨_,NB,by
 intro ρ H st x y v w Q E s rx ry h
 cases x with
 |tup xs =>
  cases y with
  |int i =>
   cases ry
   obtain ⟨p,vs,rfl,h1,h2⟩:=rx
   obtain ⟨x,e,h⟩:=lW h
   obtain ⟨v,h3,h4⟩:=xW h2 e
   exact .inr (.inl ⟨p,vs,i,v,rfl,rfl,h1,h3,h.now s _ h4⟩)
  |_=>exact h.elim
 |frl xs =>
  cases y with
  |int i =>
   cases ry
   obtain ⟨p,vs,rfl,h1,h2⟩:=rx
   obtain ⟨x,e,h⟩:=lW h
   obtain ⟨v,h3,h4⟩:=xW h2 e
   exact .inl ⟨p,vs,i,v,rfl,rfl,h1.sq,h3,h.now s _ h4⟩
  |_=>exact h.elim
 |str z =>
  cases y with
  |int i =>
   cases ry;cases rx
   obtain ⟨c,h⟩:=Out.ifp h
   obtain ⟨x,e,h⟩:=lW h
   cases hc:dB z.cps.toList i with
   |none=>rw [hc] at e;cases e
   |some k =>
    rw [hc] at e
    cases e
    exact .inr (.inr ⟨z,i,k,rfl,rfl,y0 c,hc,h.now s _ rfl⟩)
  |_=>exact h.elim
 |ref n =>
  cases y with
  |int i =>
   cases ry
   obtain ⟨p,rfl,hp⟩:=rx
   obtain ⟨xs,e1,h⟩:=jX h
   obtain ⟨vs,h1,h2⟩:=s.addr e1 hp
   obtain ⟨x,e,h⟩:=lW h
   obtain ⟨v,h3,h4⟩:=xW h2 e
   exact .inl ⟨p,vs,i,v,rfl,rfl,bE.of h1,h3,h.now s _ h4⟩
  |_=>exact h.elim
 |_=>exact h.elim⟩
end
mutual
def plain:PV->Bool
 |.non=>true
 |.bl _=>true
 |.int _=>true
 |.str _=>true
 |.tup xs=>cg xs
 |_=>false
def cg:List PV->Bool
 |[]=>true
 |x::xs=>plain x&&cg xs
end
mutual
def dep:PV->Nat
 |.tup xs=>eE xs+1
 |_=>0
def eE:List PV->Nat
 |[]=>0
 |x::xs=>max (dep x) (eE xs)
end
mutual
def bY:PV->PV->Bool
 |.non,.non=>true
 |.bl a,.bl b=>a==b
 |.bl a,.int b=>(if a then 1 else 0)==b
 |.int a,.bl b=>a==(if b then 1 else 0)
 |.int a,.int b=>a==b
 |.str a,.str b=>a==b
 |.tup xs,.tup ys=>gz xs ys
 |_,_=>false
def gz:List PV->List PV->Bool
 |[],[]=>true
 |x::xs,y::ys=>bY x y&&gz xs ys
 |_,_=>false
end
section
variable {X:Cx} {K:Frag} {mg:Ab} {ρ:Af} {pins:Ac} {σ:L2.St} {H:Hp} {s:Shared}
mutual
theorem Ew (I:Inv X pins σ H s):∀(x y:PV) {v:V},plain x=true->plain y=true->R X.K mg ρ H x v->R X.K mg ρ H y v->bY x y=true
 |.non,y,v,_,py,rx,ry=>by
  cases rx
  cases y with
  |non=>rfl
  |tup ys=>obtain ⟨_,_,e,_⟩:=ry;cases e
  |bl _=>cases ry
  |int _=>cases ry
  |str _=>cases ry
  |_=>cases py
 |.bl a,y,v,_,py,rx,ry=>by
  cases rx
  cases y with
  |bl b=>cases ry;simp [bY]
  |tup ys=>obtain ⟨_,_,e,_⟩:=ry;cases e
  |non=>cases ry
  |int _=>cases ry
  |str _=>cases ry
  |_=>cases py
 |.int a,y,v,_,py,rx,ry=>by
  cases rx
  cases y with
  |int b=>cases ry;simp [bY]
  |tup ys=>obtain ⟨_,_,e,_⟩:=ry;cases e
  |non=>cases ry
  |bl _=>cases ry
  |str _=>cases ry
  |_=>cases py
 |.str a,y,v,_,py,rx,ry=>by
  cases rx
  cases y with
  |str b=>cases ry;simp [bY]
  |tup ys=>obtain ⟨_,_,e,_⟩:=ry;cases e
  |non=>cases ry
  |bl _=>cases ry
  |int _=>cases ry
  |_=>cases py
 |.tup xs,y,v,px,py,rx,ry=>by
  obtain ⟨a,vs,rfl,h1,h2⟩:=rx
  cases y with
  |tup ys =>
   obtain ⟨b,ws,e,h3,h4⟩:=ry
   cases e
   have:=I.tuple_inj h1 h3
   subst this
   exact lX I xs ys px py h2 h4
  |non=>cases ry
  |bl _=>cases ry
  |int _=>cases ry
  |str _=>cases ry
  |_=>cases py
 |.ty _,_,_,px,_,_,_=>by cases px
 |.frl _,_,_,px,_,_,_=>by cases px
 |.ref _,_,_,px,_,_,_=>by cases px
 |.fn _,_,_,px,_,_,_=>by cases px
 |.kd _ _,_,_,px,_,_,_=>by cases px
 |.exo _ _ _,_,_,px,_,_,_=>by cases px
theorem lX (I:Inv X pins σ H s):∀(xs ys:Aq) {vs:List V},cg xs=true->cg ys=true->Rs X.K mg ρ H xs vs->Rs X.K mg ρ H ys vs->gz xs ys=true
 |[],ys,vs,_,py,rx,ry=>by
  cases rx
  cases ys with
  |nil=>rfl
  |cons y ys=>obtain ⟨_,_,e,_⟩:=ry;cases e
 |x::xs,ys,vs,px,py,rx,ry=>by
  obtain ⟨v,r,rfl,h1,h2⟩:=rx
  cases ys with
  |nil=>cases ry
  |cons y ys =>
   obtain ⟨v',r',e,h3,h4⟩:=ry
   cases e
   simp only [cg,lE] at px py
   simp only [gz,lE]
   exact ⟨Ew I x y px.1 py.1 h1 h3,lX I xs ys px.2 py.2 h2 h4⟩
end
def fS (xs ys:Aq) (j:Nat):Bool:=match xs[j]?,ys[j]? with
 |some x,some y=>bY x y
 |_,_=>true
theorem Ex:∀(xs ys:Aq),((List.range (min xs.length ys.length)).all (fS xs ys)&&xs.length==ys.length)=gz xs ys
 |[],[]=>rfl
 |[],y::ys=>by simp [gz]
 |x::xs,[]=>by simp [gz]
 |x::xs,y::ys=>by
  have ih:=Ex xs ys
  have e1:min (x::xs).length (y::ys).length=min xs.length ys.length+1:=by simp only [wf];omega
  have e2:((x::xs).length==(y::ys).length)=(xs.length==ys.length):=by
   rw [Bool.eq_iff_iff];simp
  rw [e1,e2,List.range_succ_eq_map,List.all_cons,List.all_map]
  have e3:(fS (x::xs) (y::ys)∘Nat.succ)=fS xs ys:=by
   funext j
   simp [fS]
  rw [e3,Bool.and_assoc,ih]
  simp [gz,fS]
theorem xY:∀{xs:Aq}{i:Nat}{x:PV},xs[i]?=some x->dep x<=eE xs
 |[],_,_,e=>by simp at e
 |y::xs,0,x,e=>by simp at e;subst e;simp only [eE];omega
 |y::xs,i+1,x,e=>by
  simp at e
  have:=xY e
  simp only [eE];omega
theorem tJ:∀{xs:Aq}{i:Nat}{x:PV},cg xs=true->xs[i]?=some x->plain x=true
 |[],_,_,_,e=>by simp at e
 |y::xs,0,x,p,e=>by simp at e;subst e;simp only [cg,lE] at p;exact p.1
 |y::xs,i+1,x,p,e=>by
  simp at e
  simp only [cg,lE] at p
  exact tJ p.2 e
def tK (A:Around):A.in1.units=A.units+1:=rfl
def xZ (I:Inv X pins σ H s):∀(n:Nat) (x y:PV) {v w:V}{u u':Value}(A:Around),dep x<=n->plain x=true->plain y=true->R X.K mg ρ H x v->R X.K mg ρ H y w->RelV v u->RelV w u'->A.units+n<cLine ->
  SeqAt.EqAt A s u u' (bY x y)/\SeqAt.RcAt A s u u' (bY x y)/\SeqAt.RcNeAt A s u u' (!bY x y):=by
 intro n
 induction n with
 |zero =>
  intro x y v w u u' A hd px py rx ry rv rw hu
  cases x with
  |tup xs=>simp only [dep] at hd;omega
  |non =>
   cases rx;cases rv
   cases y with
   |non=>cases ry;cases rw;exact ⟨.same _,.none_none,.none_none⟩
   |bl b=>cases ry;cases rw;exact ⟨.none_bool b,.none_bool b,.none_bool b⟩
   |int b=>cases ry;obtain ⟨t,rfl⟩:=rw;exact ⟨.none_int b t,.none_int b t,.none_int b t⟩
   |str b=>cases ry;obtain ⟨t,rfl⟩:=rw;exact ⟨.none_str b t,.none_str b t,.none_str b t⟩
   |tup ys =>
    obtain ⟨p,ws,rfl,h1,h2⟩:=ry
    cases rw
    obtain ⟨its,_,pl,_⟩:=I.tuple h1
    exact ⟨.none_tuple pl (by omega),.none_tuple pl (by omega),.none_tuple pl (by omega)⟩
   |_=>cases py
  |bl a =>
   cases rx;cases rv
   cases y with
   |non=>cases ry;cases rw;exact ⟨.bool_none a,.bool_none a,.bool_none a⟩
   |bl b=>cases ry;cases rw;exact ⟨.bool_bool a b,.bool_bool a b,.bool_bool a b⟩
   |int b=>cases ry;obtain ⟨t,rfl⟩:=rw;exact ⟨.bool_int a b t,.bool_int a b t,.bool_int a b t⟩
   |str b=>cases ry;obtain ⟨t,rfl⟩:=rw;exact ⟨.bool_str a b t,.bool_str a b t,.bool_str a b t⟩
   |tup ys =>
    obtain ⟨p,ws,rfl,h1,h2⟩:=ry
    cases rw
    obtain ⟨its,_,pl,_⟩:=I.tuple h1
    exact ⟨.bool_tuple a pl (by omega),.bool_tuple a pl (by omega),.bool_tuple a pl (by omega)⟩
   |_=>cases py
  |int a =>
   cases rx;obtain ⟨t0,rfl⟩:=rv
   cases y with
   |non=>cases ry;cases rw;exact ⟨.int_none a t0,.int_none a t0,.int_none a t0⟩
   |bl b=>cases ry;cases rw;exact ⟨.int_bool a t0 b,.int_bool a t0 b,.int_bool a t0 b⟩
   |int b=>cases ry;obtain ⟨t,rfl⟩:=rw;exact ⟨.int_int a t0 b t,.int_int a t0 b t,.int_int a t0 b t⟩
   |str b=>cases ry;obtain ⟨t,rfl⟩:=rw;exact ⟨.int_str a t0 b t,.int_str a t0 b t,.int_str a t0 b t⟩
   |tup ys =>
    obtain ⟨p,ws,rfl,h1,h2⟩:=ry
    cases rw
    obtain ⟨its,_,pl,_⟩:=I.tuple h1
    exact ⟨.int_tuple a t0 pl (by omega),.int_tuple a t0 pl (by omega),.int_tuple a t0 pl (by omega)⟩
   |_=>cases py
  |str a =>
   cases rx;obtain ⟨t0,rfl⟩:=rv
   cases y with
   |non=>cases ry;cases rw;exact ⟨.str_none a t0,.str_none a t0,.str_none a t0⟩
   |bl b=>cases ry;cases rw;exact ⟨.str_bool a t0 b,.str_bool a t0 b,.str_bool a t0 b⟩
   |int b=>cases ry;obtain ⟨t,rfl⟩:=rw;exact ⟨.str_int a t0 b t,.str_int a t0 b t,.str_int a t0 b t⟩
   |str b=>cases ry;obtain ⟨t,rfl⟩:=rw;exact ⟨.str_str a t0 b t,.str_str a t0 b t,.str_str a t0 b t⟩
   |tup ys =>
    obtain ⟨p,ws,rfl,h1,h2⟩:=ry
    cases rw
    obtain ⟨its,_,pl,_⟩:=I.tuple h1
    exact ⟨.str_tuple a t0 pl (by omega),.str_tuple a t0 pl (by omega),.str_tuple a t0 pl (by omega)⟩
   |_=>cases py
  |_=>cases px
 |succ n ih =>
  intro x y v w u u' A hd px py rx ry rv rw hu
  cases x with
  |tup xs =>
   obtain ⟨a,vs,rfl,h1,h2⟩:=id rx
   cases rv
   obtain ⟨its,r1,p1,_⟩:=I.tuple h1
   cases y with
   |non=>cases ry;cases rw;exact ⟨.tuple_none p1 (by omega),.tuple_none p1 (by omega),.tuple_none p1 (by omega)⟩
   |bl b=>cases ry;cases rw;exact ⟨.tuple_bool b p1 (by omega),.tuple_bool b p1 (by omega),.tuple_bool b p1 (by omega)⟩
   |int b=>cases ry;obtain ⟨t,rfl⟩:=rw;exact ⟨.tuple_int b t p1 (by omega),.tuple_int b t p1 (by omega),.tuple_int b t p1 (by omega)⟩
   |str b=>cases ry;obtain ⟨t,rfl⟩:=rw;exact ⟨.tuple_str b t p1 (by omega),.tuple_str b t p1 (by omega),.tuple_str b t p1 (by omega)⟩
   |tup ys =>
    obtain ⟨b,ws,rfl,h3,h4⟩:=id ry
    cases rw
    obtain ⟨a_,r2,p2,_⟩:=I.tuple h3
    have l1:=h2.len
    have l2:=h4.len
    have l3:=r1.length
    have l4:=r2.length
    have item:∀j (g1:j<its.toArray.size) (g2:j<a_.toArray.size),SeqAt.EqAt A.in1 s its.toArray[j] a_.toArray[j] (fS xs ys j):=λj g1 g2=>by
     have k1:j<xs.length:=by rw [l1,l3];simpa using g1
     have k2:j<ys.length:=by rw [l2,l4];simpa using g2
     obtain ⟨v1,e1,x6⟩:=h2.get (yr k1)
     obtain ⟨v2,e2,x_⟩:=h4.get (yr k2)
     obtain ⟨u1,f1,y_⟩:=r1.get e1
     obtain ⟨u2,f2,z_⟩:=r2.get e2
     have w1:its.toArray[j]=u1:=by
      obtain ⟨_,z⟩:=yt.mp f1
      simpa using z
     have w2:a_.toArray[j]=u2:=by
      obtain ⟨_,z⟩:=yt.mp f2
      simpa using z
     have ej:fS xs ys j=bY xs[j] ys[j]:=by
      unfold fS
      rw [yr k1,yr k2]
     rw [w1,w2,ej]
     have Zb:=xY (yr k1)
     simp only [dep] at hd
     exact (ih xs[j] ys[j] A.in1 (by omega) (tJ px (yr k1)) (tJ py (yr k2)) x6 x_ y_ z_ (by rw [tK];omega)).1
    have vD:((List.range (min its.toArray.size a_.toArray.size)).all (fS xs ys)&&its.toArray.size==a_.toArray.size)=bY (.tup xs) (.tup ys):=by
     have e:=Ex xs ys
     rw [l1,l2,l3,l4] at e
     simpa [bY] using e
    have rc:SeqAt.RcAt A s (.ref a) (.ref b) (bY (.tup xs) (.tup ys)):=by
     rw [<-vD]
     exact SeqAt.RcAt.tuples (show s.heap.IsTuple a its.toArray from p1) (show s.heap.IsTuple b a_.toArray from p2) (by omega) item
    refine ⟨?_,rc,?_⟩
    ·by_cases fz:a=b
     ·subst fz
      rw [Ew I (.tup xs) (.tup ys) px py rx ry]
      exact .same _
     ·exact .of_refs fz rc
    ·rw [<-vD]
     exact SeqAt.RcNeAt.tuples (show s.heap.IsTuple a its.toArray from p1) (show s.heap.IsTuple b a_.toArray from p2) (by omega) item
   |_=>cases py
  |non=>exact ih _ y A (jw _) px py rx ry rv rw (by omega)
  |bl a=>exact ih _ y A (jw _) px py rx ry rv rw (by omega)
  |int a=>exact ih _ y A (jw _) px py rx ry rv rw (by omega)
  |str a=>exact ih _ y A (jw _) px py rx ry rv rw (by omega)
  |_=>cases px
def yx:Ao:=λx y st=>if plain x=true/\plain y=true/\dep x<=150 then .ok (.bl (bY x y)) st else .stuck
def jY:Ao:=λx y st=>if plain x=true/\plain y=true/\dep x<=150 then .ok (.bl (!bY x y)) st else .stuck
def Ey (K:Frag) (mg:Ab) (f:Bool->Bool):R2:=λv w H Q=>∃ρ x y,plain x=true/\plain y=true/\dep x<=150/\R K mg ρ H x v/\R K mg ρ H y w/\Q (.bl (f (bY x y))) H
def Pp (hu:X.A.units+200<cLine):bz X (compareOp .Eq) (Ey X.K X.mg id):=by
 intro pins s σ H x y v u Q I rx ry h
 obtain ⟨ρ,a,b,pa,pb,hd,ra,rb,q⟩:=h
 exact PySem.EqBoolInt.of_rc (xZ I 150 a b X.A hd pa pb ra rb rx ry (by omega)).2.1 ⟨.bl _,H,I,rfl,q⟩
def Pq (hu:X.A.units+200<cLine):bz X (compareOp .NotEq) (Ey X.K X.mg not):=by
 intro pins s σ H x y v u Q I rx ry h
 obtain ⟨ρ,a,b,pa,pb,hd,ra,rb,q⟩:=h
 exact PySem.EqBoolInt.of_rcne (xZ I 150 a b X.A hd pa pb ra rb rx ry (by omega)).2.2 ⟨.bl _,H,I,rfl,q⟩
def jr (hu:X.A.units+200<cLine):cf X .Eq yx:=⟨_,Pp hu,fun ρ H st x y v w Q E s rx ry h=>by
 obtain ⟨⟨p1,p2,p3⟩,h⟩:=Out.ifp h
 exact ⟨ρ,x,y,p1,p2,p3,rx,ry,h.now s _ rfl⟩⟩
def zct (hu:X.A.units+200<cLine):cf X .NotEq jY:=⟨_,Pq hu,fun ρ H st x y v w Q E s rx ry h=>by
 obtain ⟨⟨p1,p2,p3⟩,h⟩:=Out.ifp h
 exact ⟨ρ,x,y,p1,p2,p3,rx,ry,h.now s _ rfl⟩⟩
end
section
variable {X:Cx} {Er:XK} {K:Frag} {mg:Ab} {b c e:Expr} {es:List Expr} {pos:Pos} {fa:Aj} {fs:Ai}
def Pr (K:Frag) (mg:Ab) (Er:XK) (f:zf->Mo (Option Int)):TO:=fun σ H Q=>∃env st ρ,bJ K mg ρ H env σ/\bu K mg ρ H st/\Out K mg ρ H (f env st) (λ_ H' o _=>Q o H') Er
def MO (X:Cx) (Er:XK) (e:Option Expr) (f:zf->Mo (Option Int)):Prop:=PO X e (Pr X.K X.mg Er f)
def kI:zf->Mo (Option Int):=λ_ st=>.ok none st
def As:PV->Mo (Option Int)
 |.int i,st=>.ok (some i) st
 |_,_=>.stuck
def g8 (f:Aj):zf->Mo (Option Int):=λenv st=>(f env st).bind As
def PO.weak {o:Option Expr}{t t':TO}(h:PO X o t) (w:∀σ H Q,t' σ H Q->t σ H Q):PO X o t':=λpins s σ H Q I q=>h pins s σ H Q I (w σ H Q q)
def zh3:MO X Er none kI:=PO.weak Nq fun σ H Q ⟨env,st,ρ,re,rs,h⟩=>h.now rs
def zh4 (h:ME X Er e fa):MO X Er (some e) (g8 fa):=PO.weak (Nr h) fun σ H Q ⟨env,st,ρ,re,rs,h⟩=>⟨env,st,ρ,re,rs,h.then λah H1 x ae e1 s1 h1 v rv=>by
 cases x with
 |int i=>cases rv;exact ⟨i,rfl,Out.now (x:=some i) h1 s1⟩
 |_=>exact h1.elim⟩
def Ax (K:Frag) (mg:Ab) (r:List V->Hp->VK->Prop) (op:An):Prop:=∀ρ H st xs vs (Q:VK) (E:XK),bu K mg ρ H st->Rs K mg ρ H xs vs->Out K mg ρ H (op xs st) (gV K mg Q) E->r vs H Q
def dH (X:Cx) (f:Value) (op:An):Prop:=∃r,cv X f r/\Ax X.K X.mg r op
def zt (op:An) (fs:Ai):Aj:=λenv st=>(fs env st).bind op
def jA {x:Str} {id:String} {op:An} {p:Pos} (h:dH X (.builtin id) op) (hm:X.mg x=none) (hv:bootBuiltins x=some (.builtin id)) (ha:MA X Er (e::es) fs) (hg:Gl X x:=by rfl) (hn:x ≠ "__name__" := by decide) (eX:(x==("__debug__" : Str))=false:=by decide)
  (he:starEach (e::es) X.env=(false,eval e X.env)::starEach es X.env:=by rfl) (bX:(backTo pos (starEach es X.env)).any (·.1)=false:=by rfl):ME X Er (.Call (.Name x p) (e::es) [] pos) (zt op fs):=by
 obtain ⟨r,h1,h2⟩:=h
 exact PE.weak (Nl h1 hg hm hv ha hn eX he bX) fun σ H Q ⟨env,st,ρ,re,rs,h⟩=>⟨env,st,ρ,re,rs,h.then λah H1 xs ae e1 s1 k vs rv=>h2 ah H1 ae xs vs Q Er s1 rv k⟩
def yX {x:Str} {T:String} {op:An} {p:Pos} (h:dH X (.type T) op) (hm:X.mg x=none) (hv:bootBuiltins x=some (.type T)) (ha:MA X Er (e::es) fs) (hg:Gl X x:=by rfl) (hn:x ≠ "__name__" := by decide) (eX:(x==("__debug__" : Str))=false:=by decide)
  (he:starEach (e::es) X.env=(false,eval e X.env)::starEach es X.env:=by rfl) (bX:(backTo pos (starEach es X.env)).any (·.1)=false:=by rfl):ME X Er (.Call (.Name x p) (e::es) [] pos) (zt op fs):=by
 obtain ⟨r,h1,h2⟩:=h
 exact PE.weak (Nm h1 hg hm hv ha hn eX he bX) fun σ H Q ⟨env,st,ρ,re,rs,h⟩=>⟨env,st,ρ,re,rs,h.then λah H1 xs ae e1 s1 k vs rv=>h2 ah H1 ae xs vs Q Er s1 rv k⟩
def qC {x:Str} {n:String} (hm:X.mg x=none) (hv:bootBuiltins x=some (.type n)) (hg:Gl X x:=by rfl) (hn:x ≠ "__name__" := by decide) (hd:(x==("__debug__" : Str))=false:=by decide):ME X Er (.Name x pos) (mC (.ty n)) :=
 oP (Lg (v:=.ty n) hg hm hv rfl hn hd) λ_ _=>rfl
def Rs.one {ρ:Af}{H:Hp}{x:PV}{vs:List V}(r:Rs K mg ρ H [x] vs):∃v,vs=[v]/\R K mg ρ H x v:=by
 obtain ⟨v,r',rfl,h,h'⟩:=r
 cases h'
 exact ⟨v,rfl,h⟩
def Rs.two {ρ:Af}{H:Hp}{x y:PV}{vs:List V}(r:Rs K mg ρ H [x,y] vs):∃v w,vs=[v,w]/\R K mg ρ H x v/\R K mg ρ H y w:=by
 obtain ⟨v,r',rfl,h,h'⟩:=r
 obtain ⟨w,rfl,h2⟩:=Rs.one h'
 exact ⟨v,w,rfl,h,h2⟩
def oR:An
 |[.tup xs],st=>.ok (.int xs.length) st
 |[.frl xs],st=>.ok (.int xs.length) st
 |[.str z],st=>if z.length<=lim then .ok (.int z.length) st else .stuck
 |[.ref n],st=>yl st n λxs=>.ok (.int xs.length) st
 |_,_=>.stuck
def Pt:dH X (.builtin "len") oR:=⟨_,MD,fun ρ H st xs vs Q E s r h=>by
 match xs,r,h with
 |[.tup ys],r,h =>
  obtain ⟨v,rfl,p,ws,rfl,h1,h2⟩:=Rs.one r
  exact ⟨_,ws.length,rfl,.inr ⟨ws,h1,rfl⟩,by rw [<-h2.len];exact Out.now (x:=PV.int ys.length) h s _ rfl⟩
 |[.frl ys],r,h =>
  obtain ⟨v,rfl,p,ws,rfl,h1,h2⟩:=Rs.one r
  exact ⟨_,ws.length,rfl,.inl ⟨ws,h1.sq,rfl⟩,by rw [<-h2.len];exact Out.now (x:=PV.int ys.length) h s _ rfl⟩
 |[.str z],r,h =>
  obtain ⟨v,rfl,rfl⟩:=Rs.one r
  obtain ⟨c,h⟩:=Out.ifp h
  exact ⟨_,z.length,rfl,⟨y0 c,rfl⟩,h.now s _ rfl⟩
 |[.ref n],r,h =>
  obtain ⟨v,rfl,p,rfl,hp⟩:=Rs.one r
  obtain ⟨ys,e,h⟩:=jX h
  obtain ⟨ws,h1,h2⟩:=s.addr e hp
  exact ⟨_,ws.length,rfl,.inl ⟨ws,bE.of h1,rfl⟩,by rw [<-h2.len];exact h.now s _ rfl⟩
 |[],r,h=>exact h.elim
 |[.non],r,h=>exact h.elim
 |[.bl _],r,h=>exact h.elim
 |[.int _],r,h=>exact h.elim
 |[.ty _],r,h=>exact h.elim
 |[.fn _],r,h=>exact h.elim
 |[.kd _ _],r,h=>exact h.elim
 |[.exo _ _ _],r,h=>exact h.elim
 |x::y::r',r,h=>cases x<;>exact h.elim⟩
def tL:An
 |[.tup xs],st=>.ok (.ref st.length) (st++[.lst xs])
 |[.frl xs],st=>.ok (.ref st.length) (st++[.lst xs])
 |[.ref n],st=>yl st n λxs=>.ok (.ref st.length) (st++[.lst xs])
 |_,_=>.stuck
def Pu:dH X (.type "list") tL:=⟨_,NH,fun ρ H st xs vs Q E s r h=>by
 match xs,r,h with
 |[.tup ys],r,h =>
  obtain ⟨v,rfl,p,ws,rfl,h1,h2⟩:=Rs.one r
  exact ⟨p,ws,rfl,.inr h1,λl hl=>Out.newList (xs:=ys) h s h2 hl⟩
 |[.frl ys],r,h =>
  obtain ⟨v,rfl,p,ws,rfl,h1,h2⟩:=Rs.one r
  exact ⟨p,ws,rfl,.inl h1.sq,λl hl=>Out.newList (xs:=ys) h s h2 hl⟩
 |[.ref n],r,h =>
  obtain ⟨v,rfl,p,rfl,hp⟩:=Rs.one r
  obtain ⟨ys,e,h⟩:=jX h
  obtain ⟨ws,h1,h2⟩:=s.addr e hp
  exact ⟨p,ws,rfl,.inl (bE.of h1),λl hl=>Out.newList (xs:=ys) h s h2 hl⟩
 |[],r,h=>exact h.elim
 |[.non],r,h=>exact h.elim
 |[.bl _],r,h=>exact h.elim
 |[.int _],r,h=>exact h.elim
 |[.str _],r,h=>exact h.elim
 |[.ty _],r,h=>exact h.elim
 |[.fn _],r,h=>exact h.elim
 |[.kd _ _],r,h=>exact h.elim
 |[.exo _ _ _],r,h=>exact h.elim
 |x::y::r',r,h=>cases x<;>exact h.elim⟩
def ji:An
 |[.tup xs],st=>.ok (.tup xs) st
 |[.frl xs],st=>.ok (.tup xs) st
 |[.ref n],st=>yl st n λxs=>.ok (.tup xs) st
 |_,_=>.stuck
def jO:dH X (.type "tuple") ji:=⟨_,NI,fun ρ H st xs vs Q E s r h=>by
 match xs,r,h with
 |[.tup ys],r,h =>
  obtain ⟨v,rfl,p,ws,rfl,h1,h2⟩:=Rs.one r
  exact ⟨p,ws,rfl,.inr ⟨h1,Out.now (x:=PV.tup ys) h s _ ⟨p,ws,rfl,h1,h2⟩⟩⟩
 |[.frl ys],r,h =>
  obtain ⟨v,rfl,p,ws,rfl,h1,h2⟩:=Rs.one r
  exact ⟨p,ws,rfl,.inl ⟨h1.sq,λl hl=>h ρ _ (Ext.new hl) (s.new hl) _ (R.tup_of h2 hl)⟩⟩
 |[.ref n],r,h =>
  obtain ⟨v,rfl,p,rfl,hp⟩:=Rs.one r
  obtain ⟨ys,e,h⟩:=jX h
  obtain ⟨ws,h1,h2⟩:=s.addr e hp
  exact ⟨p,ws,rfl,.inl ⟨bE.of h1,λl hl=>h ρ _ (Ext.new hl) (s.new hl) _ (R.tup_of h2 hl)⟩⟩
 |[],r,h=>exact h.elim
 |[.non],r,h=>exact h.elim
 |[.bl _],r,h=>exact h.elim
 |[.int _],r,h=>exact h.elim
 |[.str _],r,h=>exact h.elim
 |[.ty _],r,h=>exact h.elim
 |[.fn _],r,h=>exact h.elim
 |[.kd _ _],r,h=>exact h.elim
 |[.exo _ _ _],r,h=>exact h.elim
 |x::y::r',r,h=>cases x<;>exact h.elim⟩
def tN (T n:String):Option Bool :=
 if T = "int" then (if n = "int" then some true else if n = "bool" \/ n = "str" \/ n = "tuple" \/ n = "dict" \/ n = "list" then some false else none)
 else if T = "bool" then (if n = "int" \/ n = "bool" then some true else if n = "str" \/ n = "tuple" \/ n = "dict" \/ n = "list" then some false else none)
 else if T = "str" then (if n = "str" then some true else if n = "int" \/ n = "bool" \/ n = "tuple" \/ n = "dict" \/ n = "list" then some false else none)
 else if T = "tuple" then (if n = "tuple" then some true else if n = "int" \/ n = "bool" \/ n = "str" \/ n = "dict" \/ n = "list" then some false else none)
 else if T = "list" then (if n = "list" then some true else if n = "int" \/ n = "bool" \/ n = "str" \/ n = "dict" \/ n = "tuple" then some false else none)
 else if T = "dict" then (if n = "dict" then some true else if n = "int" \/ n = "bool" \/ n = "str" \/ n = "list" \/ n = "tuple" then some false else none)
 else if T = "NoneType" then (if n = "int" \/ n = "bool" \/ n = "str" \/ n = "list" \/ n = "tuple" \/ n = "dict" then some false else none)
 else none
def Pw (K:Frag) {T n:String}{b:Bool}(h:tN T n=some b):PySem.W.kitOne K (.type T) (.type n)=some b:=by
 unfold tN at h
 split at h
 ·rename_i e;subst e
  split at h
  ·rename_i e;subst e;cases h;first|rfl|kernel_rfl
  ·split at h
   ·rename_i e;cases h;rcases e with e|e|e|e|e<;>subst e<;>first|rfl|kernel_rfl
   ·cases h
 ·split at h
  ·rename_i e;subst e
   split at h
   ·rename_i e;cases h;rcases e with e|e<;>subst e<;>first|rfl|kernel_rfl
   ·split at h
    ·rename_i e;cases h;rcases e with e|e|e|e<;>subst e<;>first|rfl|kernel_rfl
    ·cases h
  ·split at h
   ·rename_i e;subst e
    split at h
    ·rename_i e;subst e;cases h;first|rfl|kernel_rfl
    ·split at h
     ·rename_i e;cases h;rcases e with e|e|e|e|e<;>subst e<;>first|rfl|kernel_rfl
     ·cases h
   ·split at h
    ·rename_i e;subst e
     split at h
     ·rename_i e;subst e;cases h;first|rfl|kernel_rfl
     ·split at h
      ·rename_i e;cases h;rcases e with e|e|e|e|e<;>subst e<;>first|rfl|kernel_rfl
      ·cases h
    ·split at h
     ·rename_i e;subst e
      split at h
      ·rename_i e;subst e;cases h;first|rfl|kernel_rfl
      ·split at h
       ·rename_i e;cases h;rcases e with e|e|e|e|e<;>subst e<;>first|rfl|kernel_rfl
       ·cases h
     ·split at h
      ·rename_i e;subst e
       split at h
       ·rename_i e;subst e;cases h;first|rfl|kernel_rfl
       ·split at h
        ·rename_i e;cases h;rcases e with e|e|e|e|e<;>subst e<;>first|rfl|kernel_rfl
        ·cases h
      ·split at h
       ·rename_i e;subst e
        split at h
        ·rename_i e;cases h;rcases e with e|e|e|e|e|e<;>subst e<;>first|rfl|kernel_rfl
        ·cases h
       ·cases h
end
def iJ (K:Frag) (mg:Ab) (m:An):Sp:=λvs H Q E=>∃xs st ρ,Rs K mg ρ H xs vs/\bu K mg ρ H st/\Out K mg ρ H (m xs st) (gV K mg Q) E
section
variable (P:Program) (w:World) (K:Frag) (mg:Ab) (base:Heap)
def bG (x:Str) (k:Nat) (m:An):Prop:=∃f fd ps,mg x=some (.ref f)/\keepIn K (.ref f)=true/\Binds K fd ps []/\bU P w K mg base (cV P w) k f fd ps (iJ K mg m)
def cm (c name:Str) (k:Nat) (m:An):Prop:=∃C f fd ps,mg c=some (.ref C)/\fK K C/\Meth K C name f/\Binds K fd ps []/\bU P w K mg base (cV P w) k f fd ps (iJ K mg m)
def kJ (c:Str) (k:Nat) (m:An):Prop:=∃C f fd ps,mg c=some (.ref C)/\Mk K C f/\Binds K fd ps []/\bU P w K mg base (cV P w) k f fd ps (iJ K mg m)
def Px (c fld:Str):Prop:=∃C f fd,mg c=some (.ref C)/\vA K C f/\bU P w K mg base (cV P w) 1 f fd ["self", fld] (Ov C fld)/\Binds K fd ["self", fld] []
end
section
variable {X:Cx} {Er:XK} {K:Frag} {mg:Ab} {a b c e o:Expr} {es:List Expr} {pos p apos:Pos} {fa fo:Aj} {fs:Ai} {k:Nat} {x:Str} {m:An}
def zV (C:bG X.prog X.w X.K X.mg X.base x k m) (hr:br k X.A) (ht:wy X Er) (ha:MA X Er (e::es) fs) (hg:Gl X x:=by rfl) (eX:(x==("__debug__" : Str))=false:=by decide)
  (he:starEach (e::es) X.env=(false,eval e X.env)::starEach es X.env:=by rfl) (bX:(backTo pos (starEach es X.env)).any (·.1)=false:=by rfl):ME X Er (.Call (.Name x p) (e::es) [] pos) (zt m fs):=by
 obtain ⟨f,fd,ps,hm,hk,hb,F⟩:=C
 exact PE.weak (Nh F hr hg hm hk hb .nil (qu ht) ha eX he bX) fun σ H Q ⟨env,st,ρ,re,rs,h⟩=>⟨env,st,ρ,re,rs,h.then λah H1 xs ae e1 s1 k vs rv=>by
  show iJ X.K X.mg m (vs++[]) H1 Q Er
  rw [List.append_nil]
  exact ⟨xs,ae,ah,rv,s1,k⟩⟩
def tO (tab:Str->Option (An)) (ff:Aj) (fs:Ai):Aj:=λenv st=>(ff env st).bind λf ae=>match f with
 | .fn x=>match tab x with
  |some m=>(fs env ae).bind m
  |none=>.stuck
 |_=>.stuck
def Py {tab:Str->Option (An)}{ff:Aj}(ht:∀y m,tab y=some m->bG X.prog X.w X.K X.mg X.base y k m) (hf:ME X Er (.Name x p) ff) (hr:br k X.A) (hT:wy X Er) (ha:MA X Er (e::es) fs)
  (he:starEach (e::es) X.env=(false,eval e X.env)::starEach es X.env:=by rfl) (bX:(backTo pos (starEach es X.env)).any (·.1)=false:=by rfl):ME X Er (.Call (.Name x p) (e::es) [] pos) (tO tab ff fs) :=
 PE.weak (Oz (CX:=cV X.prog X.w) hf hr (qu hT) ha he bX) fun σ H Q ⟨env,st,ρ,re,rs,h⟩=>⟨env,st,ρ,re,rs,h.then λah H1 f ae e1 s1 h1 v rv=>by
  cases f with
  |fn y =>
   cases hy:tab y with
   |none=>simp only [hy] at h1;exact h1.elim
   |some m =>
    simp only [hy] at h1
    obtain ⟨f,rfl,hm⟩:=rv
    obtain ⟨f',fd,ps,hm',hk,hb,F⟩:=ht y m hy
    rw [hm] at hm'
    cases hm'
    exact ⟨f,_,rfl,⟨fd,ps,F,hk,hb⟩,env,ae,ah,re.ext e1,s1,Out.then h1 λaq H2 xs aQ e2 s2 h2 vs xR=>⟨xs,aQ,aq,xR,s2,h2⟩⟩
  |_=>exact h1.elim⟩
theorem oS {ρ:Af}{H:Hp}{f:Str}:∀{ks:Ae}{xs:Aq}{vs:List V}{x:PV},Rs K mg ρ H xs vs->(ks.zip xs).lookup f=some x->∃v,(ks.zip vs).lookup f=some v/\R K mg ρ H x v
 |[],_,_,_,_,h=>by simp at h
 |k::ks,[],_,_,_,h=>by simp at h
 |k::ks,y::xs,_,x,r,h=>by
  obtain ⟨v,r',rfl,h1,h2⟩:=r
  simp only [List.zip_cons_cons,jy] at h ⊢
  split at h
  ·cases h;exact ⟨v,rfl,h1⟩
  ·exact oS h2 h
theorem tP {f:Str}{β:Type}:∀{ks:Ae}{vs:List β},f∉ks->(ks.zip vs).lookup f=none
 |[],_,_=>by simp
 |k::ks,[],_=>by simp
 |k::ks,v::vs,h=>by
  simp only [yI,not_or] at h
  simp only [List.zip_cons_cons,jy]
  have:(f==k)=false:=by simpa using h.1
  rw [this]
  exact tP h.2
def Ez (X:Cx) (name:Str) (k:Nat) (E:XK) (ta:TE) (t:TA):TE:=fun σ H Q=>ta σ H λx H1=>∃a C dx fs f fd ps sp,x=.ref a/\H1 a=some (.ins C dx fs)/\fs.lookup name=none/\fK X.K C/\Meth X.K C name f/\Binds X.K fd ps []/\bU X.prog X.w X.K X.mg X.base (cV X.prog X.w) k f fd ps sp /\
 t σ H1 λvs H2=>sp (x::vs) H2 Q E
def Pz {pl:Sem Bool}{name:Str}{ta:TE}{t:TA}{E:XK}(he:PE X o ta) (hr:br k X.A) (hx:Passes (cV X.prog X.w) X E) (ha:PA X (e::es) t)
  (cL:starEach (e::es) X.env=(false,eval e X.env)::starEach es X.env:=by rfl) (bX:(backTo pos (starEach es X.env)).any (·.1)=false:=by rfl)
  (ht:eval (.Call (.Attribute o name apos) (e::es) [] pos) X.env=(do
   let ov <-eval o X.env
   standAt apos.atName
   let (f,first) <-holding [ov] (getMethod ov name pl)
   callWith pos f first (backTo pos (starEach (e::es) X.env)) (backToKw pos (keywordEach [] X.env))):=by rfl) :
  PE X (.Call (.Attribute o name apos) (e::es) [] pos) (Ez X name k E ta t):=by
 intro pins s σ H Q I h
 refine PySem.W.methodCall_KW (pl:=pl) (a0 (he pins s σ H _ I h) λu s1 gg=>?_) ht
 obtain ⟨x,H1,I1,rx,a,C,dx,fs,f,fd,ps,sp,ex,ea,l,c,hm,hb,F,q⟩:=gg
 subst ex
 obtain rfl:u=Value.ref a:=rx
 refine Dg I1 ea c hm l ?_
 refine PySem.W.callWith_K (first:=[.ref a]) (h₀:=X.base) I.ok.mod.kin hm.kp (a0 (ha pos pins s1 σ H1 _ I1 q) λus s2 ⟨vs,H2,I2,r,q2⟩=>⟨I2.kIn,?_⟩) cL bX
 exact sH (us:=.ref a::us) (vs:=.ref a::vs) F hr hb .nil hx I2 (.cons rfl r) (by rw [List.append_nil];exact q2)
def PB {pl:Sem Bool}{name:Str}{ta:TE}{E:XK}(he:PE X o ta) (hr:br k X.A) (hx:Passes (cV X.prog X.w) X E)
  (ht:eval (.Call (.Attribute o name apos) [] [] pos) X.env=(do
   let ov <-eval o X.env
   standAt apos.atName
   let (f,first) <-holding [ov] (getMethod ov name pl)
   callWith pos f first (backTo pos (starEach [] X.env)) (backToKw pos (keywordEach [] X.env))):=by rfl) :
  PE X (.Call (.Attribute o name apos) [] [] pos) (Ez X name k E ta Dk):=by
 intro pins s σ H Q I h
 refine PySem.W.methodCall_KW (pl:=pl) (a0 (he pins s σ H _ I h) λu s1 gg=>?_) ht
 obtain ⟨x,H1,I1,rx,a,C,dx,fs,f,fd,ps,sp,ex,ea,l,c,hm,hb,F,q⟩:=gg
 subst ex
 obtain rfl:u=Value.ref a:=rx
 refine Dg I1 ea c hm l ?_
 exact PySem.W.callWith_K0 (first:=[.ref a]) I1.kIn hm.kp (sH (us:=[.ref a]) (vs:=[.ref a]) F hr hb .nil hx I1 (.cons rfl .nil) (by rw [List.append_nil];exact q))
def n9 (name:Str) (tab:Str->Option (An)) (o:PV) (st:aa) (k:Nat->(An)->Res PV):Res PV:=match o with
 | .ref n=>jh st n λc ks _=>if name∈ks then .stuck else match tab c with
  |some m=>k n m
  |none=>.stuck
 |_=>.stuck
def yF (name:Str) (tab:Str->Option (An)) (fo:Aj) (fs:Ai):Aj:=λenv st=>(fo env st).bind λo ae=>n9 name tab o ae λn m=>(fs env ae).bind λys aQ=>m (.ref n::ys) aQ
def EA {name:Str}{tab:Str->Option (An)}{o:PV}{st:aa}{kk:Nat->(An)->Res PV}{ρ:Af}{H:Hp}{good}(h:Out K mg ρ H (n9 name tab o st kk) good Er) :
  ∃n c ks xs m,o=.ref n/\st[n]?=some (.ins c ks xs)/\name∉ks/\tab c=some m/\Out K mg ρ H (kk n m) good Er:=by
 cases o with
 |ref n =>
  obtain ⟨c,ks,xs,e,h⟩:=Ep h
  split at h
  ·exact h.elim
  ·rename_i hn
   cases hc:tab c with
   |none=>rw [hc] at h;exact h.elim
   |some m=>rw [hc] at h;exact ⟨n,c,ks,xs,m,rfl,e,hn,hc,h⟩
 |_=>exact h.elim
def j3 {pl:Sem Bool}{name:Str}{tab:Str->Option (An)}(hT:∀c m,tab c=some m->cm X.prog X.w X.K X.mg X.base c name k m) (ho:ME X Er o fo) (hr:br k X.A) (ht:wy X Er) (ha:MA X Er (e::es) fs)
  (cL:starEach (e::es) X.env=(false,eval e X.env)::starEach es X.env:=by rfl) (bX:(backTo pos (starEach es X.env)).any (·.1)=false:=by rfl)
  (Ay:eval (.Call (.Attribute o name apos) (e::es) [] pos) X.env=(do
   let ov <-eval o X.env
   standAt apos.atName
   let (f,first) <-holding [ov] (getMethod ov name pl)
   callWith pos f first (backTo pos (starEach (e::es) X.env)) (backToKw pos (keywordEach [] X.env))):=by rfl) :
  ME X Er (.Call (.Attribute o name apos) (e::es) [] pos) (yF name tab fo fs) :=
 PE.weak (Pz (pl:=pl) ho hr (qu ht) ha cL bX Ay) fun σ H Q ⟨env,st,ρ,re,rs,h⟩=>⟨env,st,ρ,re,rs,h.then λah H1 x ae e1 s1 h1 v rv=>by
  obtain ⟨n,c,ks,xs,m,rfl,hn,hk,hc,h1⟩:=EA h1
  obtain ⟨C,f,fd,ps,hC,cl,hm,hb,F⟩:=hT c m hc
  obtain ⟨p,rfl,hp⟩:=rv
  obtain ⟨C',dx,vs,hC',hH,hR,hl⟩:=s1.addr hn hp
  rw [hC] at hC'
  cases hC'
  exact ⟨p,C,dx,_,f,fd,ps,_,rfl,hH,tP hk,cl,hm,hb,F,env,ae,ah,re.ext e1,s1,Out.then h1 λaq H2 ys aQ e2 s2 h2 ws rws=>⟨.ref n::ys,aQ,aq,⟨_,_,rfl,⟨p,rfl,e2.get hp⟩,rws⟩,s2,h2⟩⟩⟩
def EB {pl:Sem Bool}{name:Str}{tab:Str->Option (An)}(hT:∀c m,tab c=some m->cm X.prog X.w X.K X.mg X.base c name k m) (ho:ME X Er o fo) (hr:br k X.A) (ht:wy X Er)
  (Ay:eval (.Call (.Attribute o name apos) [] [] pos) X.env=(do
   let ov <-eval o X.env
   standAt apos.atName
   let (f,first) <-holding [ov] (getMethod ov name pl)
   callWith pos f first (backTo pos (starEach [] X.env)) (backToKw pos (keywordEach [] X.env))):=by rfl) :
  ME X Er (.Call (.Attribute o name apos) [] [] pos) (yF name tab fo zj) :=
 PE.weak (PB (pl:=pl) ho hr (qu ht) Ay) fun σ H Q ⟨env,st,ρ,re,rs,h⟩=>⟨env,st,ρ,re,rs,h.then λah H1 x ae e1 s1 h1 v rv=>by
  obtain ⟨n,c,ks,xs,m,rfl,hn,hk,hc,h1⟩:=EA h1
  obtain ⟨C,f,fd,ps,hC,cl,hm,hb,F⟩:=hT c m hc
  obtain ⟨p,rfl,hp⟩:=rv
  obtain ⟨C',dx,vs,hC',hH,hR,hl⟩:=s1.addr hn hp
  rw [hC] at hC'
  cases hC'
  exact ⟨p,C,dx,_,f,fd,ps,_,rfl,hH,tP hk,cl,hm,hb,F,⟨[.ref n],ae,ah,⟨_,_,rfl,⟨p,rfl,hp⟩,rfl⟩,s1,h1⟩⟩⟩
def bZ (c:Str) (m:An) (ys:Aq):Mo PV:=λst=>(m (.ref st.length::ys) (st++[.ins c [] []])).bind λr aQ=>if gj r=true then .ok (.ref st.length) aQ else .stuck
def PC {x:PV}(h:gj x=true):x=.non:=by cases x<;>first|rfl|cases h
def PD {cn:Str}{C f:Addr}{ρ:Af}{H:Hp}{st:aa}{ys:Aq}{vs:List V}{Q:VK}(hC:mg cn=some (.ref C)) (s:bu K mg ρ H st) (r:Rs K mg ρ H ys vs) (h:Out K mg ρ H (bZ cn m ys st) (gV K mg Q) Er) :
  ∀x dx,H x=none->H dx=none->dx≠x->iJ K mg m (.ref x::vs) (upd (upd H dx (.own x)) x (.ins C dx [])) (λv H2=>v=.non/\Q (.ref x) H2) Er:=λx dx hx tQ ne=>by
 have tS:upd H dx (.own x) x=none:=by rw [yo (yO ne)];exact hx
 have s1:=s.new (o:=.own x) tQ
 have e1:Ext ρ H ρ (upd H dx (.own x)):=Ext.new tQ
 have e2:Ext ρ H (ρ++[x]) (upd (upd H dx (.own x)) x (.ins C dx [])):=e1.trans (Ext.push tS)
 have s2:bu K mg (ρ++[x]) (upd (upd H dx (.own x)) x (.ins C dx [])) (st++[.ins cn [] []]):=s1.push tS ⟨C,dx,[],hC,yZ,rfl,rfl⟩
 have gx:(ρ++[x])[st.length]?=some x:=by rw [<-s.len];simp
 refine ⟨.ref st.length::ys,_,ρ++[x],⟨_,_,rfl,⟨x,rfl,gx⟩,Rs.ext e2 ys r⟩,s2,Out.then (Out.ext h e2) λao H3 r3 bq e3 s3 h3 v rv=>?_⟩
 obtain ⟨hn,h3⟩:=Out.ifp h3
 obtain rfl:=PC hn
 exact ⟨rv,h3.now s3 _ ⟨x,rfl,e3.get gx⟩⟩
def fV {cn:Str} (C:kJ X.prog X.w X.K X.mg X.base cn k m) (hr:br (k+1) X.A) (ht:wy X Er) (ha:MA X Er (e::es) fs) (hg:Gl X cn:=by rfl) (eX:(cn==("__debug__" : Str))=false:=by decide)
  (he:starEach (e::es) X.env=(false,eval e X.env)::starEach es X.env:=by rfl) (bX:(backTo pos (starEach es X.env)).any (·.1)=false:=by rfl):ME X Er (.Call (.Name cn p) (e::es) [] pos) (zt (bZ cn m) fs):=by
 obtain ⟨C,f,fd,ps,hm,M,hb,F⟩:=C
 exact PE.weak (Nj M F hr hg hm hb .nil (qu ht) ha eX he bX) fun σ H Q ⟨env,st,ρ,re,rs,h⟩=>⟨env,st,ρ,re,rs,h.then λah H1 xs ae e1 s1 k vs rv x dx hx tQ ne=>by
  rw [List.append_nil]
  exact PD (f:=f) hm s1 rv k x dx hx tQ ne⟩
def aX (f:Str) (ins exc:Str->Bool):PV->Mo PV
 |.ref n,st=>jh st n λc ks xs=>if ins c=true then cD ((ks.zip xs).lookup f) st else .stuck
 |.exo c ks xs,st=>if exc c=true then cD ((ks.zip xs).lookup f) st else .stuck
 |_,_=>.stuck
structure FldF (K:Frag) (mg:Ab) (f:Str) (ins exc:Str->Bool):Prop where
 i:∀c,ins c=true->∃C,mg c=some (.ref C)/\fK K C/\dO K C f
 x:∀c,exc c=true->∃C,mg c=some (.ref C)/\lR K C/\hasDictIn K C=true/\findIn K (.ref C) f=some none
def PF (K:Frag) (ta:TE) (f:Str):TE:=fun σ H Q=>ta σ H λx H1=>(∃a C dx fs v,x=.ref a/\H1 a=some (.ins C dx fs)/\fK K C/\dO K C f/\fs.lookup f=some v/\Q v H1) \/
 ∃a C d fs v,x=.ref a/\H1 a=some (kA C (some d) a)/\H1 d=some (.xd fs)/\lR K C/\hasDictIn K C=true/\findIn K (.ref C) f=some none/\fs.lookup f=some v/\Q v H1
def PH {f:Str}{ta:TE}(he:PE X e ta) (hb:attributeBase e f X.env (eval e X.env)=eval e X.env):PE X (.Attribute e f pos) (PF X.K ta f):=by
 intro pins s σ H Q I h
 refine MU hb (a0 (he pins s σ H _ I h) λu s1 ⟨x,H1,I1,rx,h1⟩=>?_)
 rcases h1 with ⟨a,C,dx,fs,v,ex,ea,c,n,l,q⟩|⟨a,C,dx,fs,v,ex,ea,ed,g,hh,no,l,q⟩
 ·subst ex
  obtain rfl:u=Value.ref a:=rx
  exact MQ I1 ea c n l λu' s2 I2 ru=>⟨v,H1,I2,ru,q⟩
 ·subst ex
  obtain rfl:u=Value.ref a:=rx
  exact OH I1 ea ed g hh no l λu' s2 I2 ru=>⟨v,H1,I2,ru,q⟩
def yP {f:Str}{ins exc:Str->Bool}(F:FldF X.K X.mg f ins exc) (he:ME X Er e fa) (hb:attributeBase e f X.env (eval e X.env)=eval e X.env:=by rfl):ME X Er (.Attribute e f pos) (yc (aX f ins exc) fa) :=
 PE.weak (PH he hb) fun σ H Q ⟨env,st,ρ,re,rs,h⟩=>⟨env,st,ρ,re,rs,h.then λah H1 x ae e1 s1 h1 v rv=>by
  cases x with
  |ref n =>
   obtain ⟨c,ks,xs,hn,h1⟩:=Ep h1
   obtain ⟨hc,h1⟩:=Out.ifp h1
   obtain ⟨y,hy,h1⟩:=lW h1
   obtain ⟨p,rfl,hp⟩:=rv
   obtain ⟨C',dx,vs,hC',hH,hR,hl⟩:=s1.addr hn hp
   obtain ⟨C,hC,cl,na⟩:=F.i c hc
   rw [hC] at hC'
   cases hC'
   obtain ⟨v,hv,rv⟩:=oS hR hy
   exact .inl ⟨p,_,dx,_,v,rfl,hH,cl,na,hv,h1.now s1 _ rv⟩
  |exo c ks xs =>
   obtain ⟨hc,h1⟩:=Out.ifp h1
   obtain ⟨y,hy,h1⟩:=lW h1
   obtain ⟨a,C',rfl,hC',⟨hk,_⟩|⟨d,vs,hH,hd,hR,hl⟩⟩:=rv
   ·rw [hk] at hy;cases hy
   obtain ⟨C,hC,g,hh,no⟩:=F.x c hc
   rw [hC] at hC'
   cases hC'
   obtain ⟨v,hv,rv⟩:=oS hR hy
   exact .inr ⟨a,_,d,_,v,rfl,hH,hd,g,hh,no,hv,h1.now s1 _ rv⟩
  |_=>exact h1.elim⟩
def qD (o:Option Bool):Mo PV:=λst=>match o with
 |some b=>.ok (.bl b) st
 |none=>.stuck
def PJ {ρ:Af}{H:Hp}{o:Option Bool}{st:aa}{good}(h:Out K mg ρ H (qD o st) good Er):∃b,o=some b/\Out K mg ρ H (.ok (.bl b) st) good Er:=by
 cases o with
 |some x=>exact ⟨x,rfl,h⟩
 |none=>exact h.elim
structure IsT where
 isx:Str->Bool
 sub:Str->Str->Option Bool
 subT:Str->String->Option Bool
 tyC:String->Str->Option Bool
structure EC (K:Frag) (C:Addr):Prop where
 cl:fK K C
 ha:findIn K (.ref C) "__class__" = some (some (.builtin "object.__class__"))
 hn:specialIn K (.builtin "object.__class__") "__get__" = some (some (.builtin "getset_descriptor.__get__"))
 tk:takesIn K (.builtin "object.__class__")=some true
 hm:mroIn K C (.type "object")=some true
structure Zc (K:Frag) (mg:Ab) (t:IsT):Prop where
 s:∀c B b,t.sub c B=some b->∃C D,mg c=some (.ref C)/\mg B=some (.ref D)/\kitOne K (.ref C) (.ref D)=some b
 tt:∀c n b,t.subT c n=some b->∃C,mg c=some (.ref C)/\kitOne K (.ref C) (.type n)=some b
 u:∀T B b,t.tyC T B=some b->∃D,mg B=some (.ref D)/\kitOne K (.type T) (.ref D)=some b
 x:∀c C,t.isx c=true->mg c=some (.ref C)->((∃B b,t.sub c B=some b)\/∃n b,t.subT c n=some b)->qv K C
 i:∀c C,t.isx c=false->mg c=some (.ref C)->((∃B b,t.sub c B=some b)\/∃n b,t.subT c n=some b)->EC K C
inductive tT (K:Frag) (H:Hp):V->Value->Prop where
 |of {v:V} {t:Value} (h:dA K H v t):tT K H v t
 |tup {a:Addr} {vs:List V} (h:bD K H a vs):tT K H (.ref a) (.type "tuple")
 |exc {a C d:Addr} {fs:List (Str×V)} (ha:H a=some (kA C (some d) a)) (hd:H d=some (.xd fs)) (k:qv K C):tT K H (.ref a) (.ref C)
 |exc0 {a C:Addr} (ha:H a=some (kA C none a)) (k:qv K C):tT K H (.ref a) (.ref C)
end
section
variable {X:Cx} {Er:XK} {K:Frag} {mg:Ab} {a c e o:Expr} {st:Stmt} {eU:List Stmt} {pos p pos':Pos} {fa fo:Aj} {k:Nat} {x:Str} {m:An}
variable {g g' gb:Ak} {ga:Al}
theorem Out.fl {ρ:Af}{H:Hp}{st:aa}{D:Ends}{fl:Fl}{E:XK}(h:Out K mg ρ H (.ok fl st) (gS K mg D) E) (s:bu K mg ρ H st):gS K mg D ρ H fl st:=h.now s
def yi:Ak:=λenv st=>.ok (.nx env) st
def gM (g:Ak):Fl->Mo Fl
 |.nx env,st=>g env st
 |fl,st=>.ok fl st
def zw (g g':Ak):Ak:=λenv st=>(g env st).bind (gM g')
def yv:fR X Er [] yi:=cU.weak Lz λD σ H ⟨env,st,ρ,re,rs,h⟩=>h.now rs σ re
def zC (h1:MS X Er st g) (h2:fR X Er eU g'):fR X Er (st::eU) (zw g g') :=
 cU.weak (LA h1 h2) λD σ H ⟨env,st,ρ,re,rs,h⟩=>⟨env,st,ρ,re,rs,h.then λah H1 fl ae e1 s1 h1=>by
  cases fl with
  |nx cQ=>exact λax PK=>⟨cQ,ae,ah,PK,s1,h1⟩
  |rt v=>exact Out.fl (D:=D) (fl:=.rt v) (E:=Er) h1 s1
  |bk cQ=>exact Out.fl (D:=D) (fl:=.bk cQ) (E:=Er) h1 s1
  |ct cQ=>exact Out.fl (D:=D) (fl:=.ct cQ) (E:=Er) h1 s1⟩
def zE (h1:MS X Er st g):fR X Er [st] g:=LB h1
def zO (i:Nat) (f:Aj):Ak:=λenv st=>(f env st).bind λx ae=>.ok (.nx (env.set i (some x))) ae
def zW (i:Nat) {x:Str}(he:ME X Er e fa) (hN:X.N.Nodup) (hi:X.N[i]?=some x:=by rfl) (hx:Loc X.env.scope x:=by first|exact Or.inl rfl|exact Or.inr rfl) (hs:swapsWith e (some (.Name x pos')) pos.line X.env=pure false:=by rfl)
  (hf:X.fn x=true\/X.env.scope.names.lookup x=some .local:=by first|exact .inl rfl|exact .inr rfl|assumption):MS X Er (.Assign [.Name x pos'] e pos) (zO i fa) :=
 PS.weak (LR hN hi hx he hs hf) λD σ H ⟨env,st,ρ,re,rs,h⟩=>⟨env,st,ρ,re,rs,h.then λah H1 x ae e1 s1 h1 v rv=>h1.now s1 _ ((re.ext e1).set i rv)⟩
def yH (f:Aj):Ak:=λenv st=>(f env st).bind λ_ ae=>.ok (.nx env) ae
def jP (he:ME X Er e fa) (hs:swapsWith e none pos.line X.env=pure false:=by rfl):MS X Er (.Expr e pos) (yH fa) :=
 PS.weak (LD he hs) λD σ H ⟨env,st,ρ,re,rs,h⟩=>⟨env,st,ρ,re,rs,h.then λah H1 x ae e1 s1 h1 v rv=>h1.now s1 _ (re.ext e1)⟩
def z0 (f:Aj):Ak:=λenv st=>(f env st).bind λx ae=>.ok (.rt x) ae
def ya (he:ME X Er e fa):MS X Er (.Return (some e) pos) (z0 fa) :=
 PS.weak (LG he) λD σ H ⟨env,st,ρ,re,rs,h⟩=>⟨env,st,ρ,re,rs,h.then λah H1 x ae e1 s1 h1 v rv=>h1.now s1 _ rv⟩
def yd (t:Al) (g g':Ak):Ak:=λenv st=>(t env st).bind λc ae=>if c=true then g env ae else g' env ae
def yu {A B:List Stmt}(hc:MT X Er c ga) (ha:fR X Er A g) (hb:fR X Er B g'):MS X Er (.If c A B pos) (yd ga g g') :=
 PS.weak (LI hc ha hb) λD σ H ⟨env,st,ρ,re,rs,h⟩=>⟨env,st,ρ,re,rs,h.then λah H1 k ae e1 s1 h1=>by
  cases k with
  |true=>exact ⟨env,ae,ah,re.ext e1,s1,h1⟩
  |false=>exact ⟨env,ae,ah,re.ext e1,s1,h1⟩⟩
def dU:Ao
 |.int i,.int j,st=>.ok (.int (i+j)) st
 |_,_,_=>.stuck
def wT (i:Nat) (op:Ao) (f:Aj):Ak:=λenv st=>(zc i env st).bind λx cW=>(f env cW).bind λy ae=>(op x y ae).bind λz aQ=>.ok (.nx (env.set i (some z))) aQ
def vE (X:Cx) (o:Operator) (op:Ao):Prop:=∃r,vS X o r/\eJ X.K X.mg r op
def Az:vE X .Add dU:=⟨_,LX,by
 intro ρ H st x y v w Q E s rx ry h
 cases x with
 |int i =>
  cases y with
  |int j=>cases rx;cases ry;exact ⟨i,j,rfl,rfl,Out.now (x:=PV.int (i+j)) h s _ rfl⟩
  |_=>exact h.elim
 |_=>exact h.elim⟩
def AA (i:Nat) {x:Str}{o:Operator}{op:Ao}(ho:vE X o op) (he:ME X Er e fa) (hN:X.N.Nodup) (hi:X.N[i]?=some x:=by rfl) (hx:Loc X.env.scope x:=by first|exact Or.inl rfl|exact Or.inr rfl)
  (hf:X.fn x=true\/X.env.scope.names.lookup x=some .local:=by first|exact .inl rfl|exact .inr rfl|assumption):MS X Er (.AugAssign (.Name x pos') o e pos) (wT i op fa):=by
 obtain ⟨r,h1,h2⟩:=ho
 refine PS.weak (LU hN hi hx he h1 hf) λD σ H ⟨env,st,ρ,re,rs,h⟩=>?_
 unfold wT zc at h
 cases hx:env[i]? with
 |none=>simp only [hx] at h;exact h.elim
 |some q =>
  cases q with
  |none=>simp only [hx] at h;exact h.elim
  |some x0 =>
   simp only [hx] at h
   obtain ⟨v,hv,rv⟩:=re.at_ i x0 hx
   exact ⟨v,hv,env,st,ρ,re,rs,Out.then (f:=λy ae=>(op x0 y ae).bind λz aQ=>Res.ok (Fl.nx (env.set i (some z))) aQ) (good:=gS X.K X.mg D) h λah H1 y ae e1 s1 k1 w rw=>h2 ah H1 ae x0 y v w _ Er s1 (R.ext e1 x0 rv) rw (k1.then λaq H2 z aQ e2 s2 k2 u ru=>k2.now s2 _ (((re.ext e1).ext e2).set i ru))⟩
def putK (f:Str) (x:PV):List Str->List PV->List Str×List PV
 |k::ks,y::ys=>if k=f then (k::ks,x::ys) else (k::(putK f x ks ys).1,y::(putK f x ks ys).2)
 |_,_=>([f],[x])
theorem ED {ρ:Af}{H:Hp}{f:Str}{x:PV}{v:V}(r:R K mg ρ H x v):∀{ks:Ae}{xs:Aq}{vs:List V},ks.length=vs.length->Rs K mg ρ H xs vs->∃ws,cT f v (ks.zip vs)=(putK f x ks xs).1.zip ws/\Rs K mg ρ H (putK f x ks xs).2 ws/\(putK f x ks xs).1.length=ws.length
 |[],xs,vs,hl,h=>by
  have:vs=[]:=by cases vs with|nil=>rfl|cons=>simp at hl
  subst this
  have:xs=[]:=by cases xs with|nil=>rfl|cons=>obtain ⟨_,_,e,_⟩:=h;cases e
  subst this
  exact ⟨[v],rfl,⟨v,[],rfl,r,rfl⟩,rfl⟩
 |k::ks,xs,vs,hl,h=>by
  cases vs with
  |nil=>simp at hl
  |cons v0 vs =>
   cases xs with
   |nil=>cases h
   |cons y ys =>
    obtain ⟨Zd,r',e,h1,h2⟩:=h
    cases e
    simp only [putK,List.zip_cons_cons,cT]
    by_cases hk:k=f
    ·rw [zx hk,zx hk]
     exact ⟨v::vs,rfl,⟨v,vs,rfl,r,h2⟩,by simpa using hl⟩
    ·rw [zK hk,zK hk]
     obtain ⟨ws,e1,e2,e3⟩:=ED r (by simpa using hl) h2
     exact ⟨v0::ws,by rw [e1];rfl,⟨v0,ws,rfl,h1,e2⟩,by simp [e3]⟩
def putAt (f:Str) (ins:Str->Bool) (x:PV):PV->Mo Unit
 |.ref n,st=>jh st n λc ks xs=>if ins c=true/\ks.length<1000 then .ok () (st.set n (.ins c (putK f x ks xs).1 (putK f x ks xs).2)) else .stuck
 |_,_=>.stuck
def sFld (f:Str) (ins:Str->Bool) (fo fv:Aj):Ak:=λenv st=>(fv env st).bind λx ae=>(fo env ae).bind λo aQ=>(putAt f ins x o aQ).bind λ_ bq=>.ok (.nx env) bq
def wz {f:Str}{ins exc:Str->Bool}(F:FldF X.K X.mg f ins exc) (ho:ME X Er o fo) (he:ME X Er e fa) (hs:swapsWith e (some (.Attribute o f pos')) pos.line X.env=pure false:=by rfl):MS X Er (.Assign [.Attribute o f pos'] e pos) (sFld f ins fo fa) :=
 PS.weak (MV ho he hs) λD σ H ⟨env,st,ρ,re,rs,h⟩=>⟨env,st,ρ,re,rs,h.then λah H1 x ae e1 s1 h1 v rv=>⟨env,ae,ah,re.ext e1,s1,h1.then λaq H2 y aQ e2 s2 h2 w rw=>by
  cases y with
  |ref n =>
   cases hn:aQ[n]? with
   |none=>simp only [putAt,jh,hn] at h2;exact h2.elim
   |some so =>
    cases so with
    |lst _=>simp only [putAt,jh,hn] at h2;exact h2.elim
    |dic _ _=>simp only [putAt,jh,hn] at h2;exact h2.elim
    |fdi _ _=>simp only [putAt,jh,hn] at h2;exact h2.elim
    |dit _ _=>simp only [putAt,jh,hn] at h2;exact h2.elim
    |ins c ks xs =>
     simp only [putAt,jh,hn] at h2
     by_cases hc:ins c=true/\ks.length<1000
     ·rw [zx hc] at h2
      obtain ⟨p,rfl,hp⟩:=rw
      obtain ⟨C',dx,vs,hC',hH,hR,hl⟩:=s2.addr hn hp
      obtain ⟨C,hC,cl,na⟩:=F.i c hc.1
      rw [hC] at hC'
      cases hC'
      obtain ⟨ws,k1,k2,k3⟩:=ED (f:=f) (R.ext e2 x rv) hl hR
      refine ⟨p,_,dx,_,rfl,hH,cl,na,?_,?_⟩
      ·rw [List.length_zip,<-hl];have:=hc.2;omega
      ·have ew:Ext aq H2 aq (upd H2 p (.ins C' dx (cT f v (ks.zip vs)))):=Ext.write hH rfl
       exact h2 aq _ ew (s2.write hp ew ⟨_,dx,ws,hC,by rw [yZ,k1],Rs.ext ew _ k2,k3⟩) σ (((re.ext e1).ext e2).ext ew)
     ·rw [zK hc] at h2;exact h2.elim
  |_=>exact h2.elim⟩⟩
def MG (X:Cx) (Er:XK) (e:Expr) (g:PV->zf->Option zf):Prop:=PG X e λv σ H Q=>∃x env cE ρ,R X.K X.mg ρ H x v/\bJ X.K X.mg ρ H env σ/\g x env=some cE/\∀aj,bJ X.K X.mg ρ H cE aj->Q aj H
def PG.weak {t t':TG}(h:PG X e t) (w:∀v σ H Q,t' v σ H Q->t v σ H Q):PG X e t':=λpins s σ H v u Q I r q=>h pins s σ H v u Q I r (w v σ H Q q)
def gN (i:Nat):PV->zf->Option zf:=λx env=>some (env.set i (some x))
def wA (i:Nat) {x:Str}(hN:X.N.Nodup) (hi:X.N[i]?=some x:=by rfl) (hx:Loc X.env.scope x:=by first|exact Or.inl rfl|exact Or.inr rfl) (hf:X.fn x=true\/X.env.scope.names.lookup x=some .local:=by first|exact .inl rfl|exact .inr rfl|assumption):MG X Er (.Name x pos) (gN i) :=
 PG.weak (iE hN hi hx hf) λv σ H Q ⟨x,env,cE,ρ,rx,re,hg,q⟩=>by
  cases hg
  exact q _ (re.set i rx)
def g2 (i j:Nat):PV->zf->Option zf
 |.tup [x,y],env=>some ((env.set i (some x)).set j (some y))
 |_,_=>none
def PL {i j:Nat}{x:PV}{env cE:zf}(h:g2 i j x env=some cE):∃y z,x=.tup [y,z]/\cE=(env.set i (some y)).set j (some z):=by
 unfold g2 at h
 split at h
 ·cases h;exact ⟨_,_,rfl,rfl⟩
 ·cases h
def qE (i j:Nat) {x y:Str}{kt:Nat}{px py:Pos}(hc:X.calm=true) (hN:X.N.Nodup) (hi:X.N[i]?=some x:=by rfl) (hj:X.N[j]?=some y:=by rfl) (hx:Loc X.env.scope x:=by first|exact Or.inl rfl|exact Or.inr rfl) (hy:Loc X.env.scope y:=by first|exact Or.inl rfl|exact Or.inr rfl)
  (hf:X.fn x=true\/X.env.scope.names.lookup x=some .local:=by first|exact .inl rfl|exact .inr rfl|assumption) (PN:X.fn y=true\/X.env.scope.names.lookup y=some .local:=by first|exact .inl rfl|exact .inr rfl|assumption):MG X Er (.Tuple [.Name x px,.Name y py] kt pos) (g2 i j) :=
 PG.weak (vW (n:=2) hc (oy (iE hN hi hx hf) (oy (iE hN hj hy PN) vU))) λv σ H Q ⟨x,env,cE,ρ,rx,re,hg,q⟩=>by
  obtain ⟨y,z,rfl,rfl⟩:=PL hg
  obtain ⟨a,vs,rfl,h1,h2⟩:=rx
  obtain ⟨u,w,rfl,r1,r2⟩:=Rs.two h2
  exact ⟨a,_,rfl,h1,rfl,u,[w],rfl,w,[],rfl,rfl,q _ ((re.set i r1).set j r2)⟩
def g3 (i j k:Nat):PV->zf->Option zf
 |.tup [x,y,z],env=>some (((env.set i (some x)).set j (some y)).set k (some z))
 |_,_=>none
inductive Sq where
 |im (xs:Aq)|rf (n:Nat)
def Walk (K:Frag) (mg:Ab) (J:It) (ρ:Af) (H:Hp):Sq->Prop
 | .im xs=>(∀i al H',Ext ρ H al H'->i<xs.length->J.go i H')/\(∀i al H',Ext ρ H al H'->xs.length<=i->J.stop i H') /\
  ∀i al H' st v H2,Ext ρ H al H'->bu K mg al H' st->i<xs.length->J.yld i H' v H2->∃x,xs[i]?=some x/\Ext al H' al H2/\bu K mg al H2 st/\R K mg al H2 x v
 |.rf n=>∃a,ρ[n]?=some a/\J=sC K a
def MI (X:Cx) (Er:XK) (tg iter:Expr) (src:zf->Mo Sq):Prop:=PI X tg iter fun σ H R=>∃env st ρ,bJ X.K X.mg ρ H env σ/\bu X.K X.mg ρ H st/\Out X.K X.mg ρ H (src env st) (λal H' q bH=>∀J,Walk X.K X.mg J al H' q->R J H') Er
def forL (g:PV->zf->Option zf) (body:Ak):List PV->Ak
 |[],env,st=>.ok (.nx env) st
 | x::xs,env,st=>match g x env with
  |none=>.stuck
  | some cQ=>(body cQ st).bind λfl aQ=>match fl with
   |.nx e=>forL g body xs e aQ
   |.ct e=>forL g body xs e aQ
   |.bk e=>.ok (.nx e) aQ
   |.rt v=>.ok (.rt v) aQ
def forR (g:PV->zf->Option zf) (body:Ak) (n:Nat):Nat->Nat->Ak
 |0,_,_,_=>.stuck
 | m+1,i,env,st=>yl st n λxs=>match xs[i]? with
  |none=>.ok (.nx env) st
  | some x=>match g x env with
   |none=>.stuck
   | some cQ=>(body cQ st).bind λfl aQ=>match fl with
    |.nx e=>forR g body n m (i+1) e aQ
    |.ct e=>forR g body n m (i+1) e aQ
    |.bk e=>.ok (.nx e) aQ
    |.rt v=>.ok (.rt v) aQ
def qF (g:PV->zf->Option zf) (body:Ak):Sq->Ak
 |.im xs=>forL g body xs
 |.rf n=>forR g body n (lim+1) 0
def yS (src:zf->Mo Sq) (g:PV->zf->Option zf) (body:Ak):Ak:=λenv st=>(src env st).bind λq ae=>qF g body q env ae
def j6 {tg iter:Expr}{src:zf->Mo Sq}{gt:PV->zf->Option zf}(hp:PassesOwn (model X.prog X.w) X.A X.env X.xe) (hc:X.calm=true) (hi:MI X Er tg iter src) (hg:MG X Er tg gt) (hb:fR X Er eU gb)
  (hs:∀x,foldedSetIterable iter X.env x=pure x:=by intro _;rfl):MS X Er (.For tg iter eU [] pos) (yS src gt gb) :=
 PS.weak (CY hp hc hi hg hb hs) λD σ H ⟨env,st,ρ,re,rs,h⟩=>⟨env,st,ρ,re,rs,h.then λau H0 q cW e0 s0 h0 J wk=>by
  cases q with
  |im xs =>
   obtain ⟨w1,w2,w3⟩:=wk
   refine ⟨λi m σ H=>m=xs.length-i/\i<=xs.length/\∃env st ρ,bJ X.K X.mg ρ H env σ/\bu X.K X.mg ρ H st/\Ext au H0 ρ H/\Out X.K X.mg ρ H (forL gt gb (xs.drop i) env st) (gS X.K X.mg D) Er,⟨xs.length,by simp,jw _,env,cW,au,re.ext e0,s0,Ext.refl,h0⟩,?_⟩
   rintro i m σ H ⟨rfl,hi,env,st,ρ,re,rs,ex,h⟩
   by_cases bO:i<xs.length
   ·refine .inr ⟨w1 i ρ H ex bO,_,λaj H' p'=>⟨xs.length-(i+1),by omega,rfl,bO,p'⟩,λv H' y=>?_⟩
    obtain ⟨x,hx,cz,s2,rx⟩:=w3 i ρ H st v H' ex rs bO y
    have hd:xs.drop i=x::xs.drop (i+1):=by
     rw [we bO]
     have:=(yt.mp hx).2
     rw [this]
    rw [hd] at h
    cases hgx:gt x env with
    |none=>simp only [forL,hgx] at h;exact h.elim
    |some cQ =>
     simp only [forL,hgx] at h
     refine ⟨x,env,cQ,ρ,rx,re.ext cz,hgx,λax r1=>⟨cQ,st,ρ,r1,s2,Out.then (Out.ext h cz) λao H3 fl bq e3 s3 h3=>?_⟩⟩
     cases fl with
     |nx e=>exact λaF r4=>⟨e,bq,ao,r4,s3,(ex.trans cz).trans e3,h3⟩
     |ct e=>exact λaF r4=>⟨e,bq,ao,r4,s3,(ex.trans cz).trans e3,h3⟩
     |bk e=>exact Out.fl (D:=D) (fl:=.nx e) (E:=Er) h3 s3
     |rt v=>exact Out.fl (D:=D) (fl:=.rt v) (E:=Er) h3 s3
   ·have e:i=xs.length:=by omega
    subst e
    rw [List.drop_length] at h
    exact .inl ⟨w2 _ ρ H ex (yf _),Out.now (x:=Fl.nx env) h rs σ re⟩
  |rf n =>
   obtain ⟨a,ha,rfl⟩:=wk
   refine ⟨λi m σ H=>∃env st ρ,bJ X.K X.mg ρ H env σ/\bu X.K X.mg ρ H st/\ρ[n]?=some a/\Out X.K X.mg ρ H (forR gt gb n m i env st) (gS X.K X.mg D) Er,⟨lim+1,env,cW,au,re.ext e0,s0,ha,h0⟩,?_⟩
   rintro i m σ H ⟨env,st,ρ,re,rs,ha,h⟩
   cases m with
   |zero=>exact h.elim
   |succ m =>
    obtain ⟨xs,hn,h⟩:=jX h
    obtain ⟨vs,hH,hR⟩:=rs.addr hn ha
    cases hx:xs[i]? with
    |none =>
     simp only [hx] at h
     have:vs.length<=i:=by rw [<-hR.len];exact oj.mp hx
     exact .inl ⟨⟨vs,bE.of hH,this⟩,Out.now (x:=Fl.nx env) h rs σ re⟩
    |some x =>
     simp only [hx] at h
     obtain ⟨v,hv,rv⟩:=hR.get hx
     refine .inr ⟨⟨vs,v,bE.of hH,hv⟩,_,λaj H' p'=>⟨m,wg m,p'⟩,λv' H' y=>?_⟩
     obtain ⟨e1,y⟩:=y
     subst e1
     have e2:=y vs (bE.of hH)
     rw [hv] at e2
     cases e2
     cases hgx:gt x env with
     |none=>simp only [hgx] at h;exact h.elim
     |some cQ =>
      simp only [hgx] at h
      refine ⟨x,env,cQ,ρ,rv,re,hgx,λax r1=>⟨cQ,st,ρ,r1,rs,Out.then h λao H3 fl bq e3 s3 h3=>?_⟩⟩
      cases fl with
      |nx e=>exact λaF r4=>⟨e,bq,ao,r4,s3,e3.get ha,h3⟩
      |ct e=>exact λaF r4=>⟨e,bq,ao,r4,s3,e3.get ha,h3⟩
      |bk e=>exact Out.fl (D:=D) (fl:=.nx e) (E:=Er) h3 s3
      |rt v=>exact Out.fl (D:=D) (fl:=.rt v) (E:=Er) h3 s3⟩
end
section
variable {X:Cx} {Er:XK} {K:Frag} {mg:Ab} {a b c e o tg:Expr} {st:Stmt} {eU:List Stmt} {pos p apos:Pos} {fa fb fo:Aj} {fs:Ai} {k:Nat} {x:Str} {m:An}
variable {g gb:Ak} {ga:Al}
def PI.weak {t t':TI}(h:PI X tg e t) (w:∀σ H Q,t' σ H Q->t σ H Q):PI X tg e t':=λpins s σ H Q I q=>h pins s σ H Q I (w σ H Q q)
def PQ (K:Frag) (tl:TE):TI:=fun σ H R=>tl σ H λx H1=>(∃a,x=.ref a/\(∃xs,bE K H1 a xs)/\R (sC K a) H1)\/(∃a,x=.ref a/\(∃xs,bD K H1 a xs)/\R (oz K a) H1)\/∃z,x=.str z/\R (xB z) H1
def PR {l:Expr}{tl:TE}(hl:PE X l tl):PI X tg l (PQ X.K tl):=by
 intro pins s σ H R I h
 refine a0 (hl pins s σ H _ I h) λv s1 ⟨x,H1,I1,r1,q1⟩=>?_
 have fin:∀b∈[s1.heap.objs.size],dy X pins H1 b:=λb hb=>by
  have e:b=s1.heap.objs.size:=by simpa using hb
  subst e
  exact I1.fpOk (yf _) (I1.hok.fresh (yf _))
 rcases q1 with ⟨a,e,⟨xs,hq⟩,q⟩|⟨a,e,⟨xs,hq⟩,q⟩|⟨z,rfl,q⟩
 ·subst e
  cases r1
  obtain ⟨its,rv,p,hz⟩:=I1.list hq
  exact wpAny_pyIter_list p.isList ⟨s1.heap.objs.size,[s1.heap.objs.size],_,_,H1,rfl,I1.kept (t':=s1.toks) (λb o e=>yk _ e),L4 a _,⟨_,yY _ rfl,rfl,rfl⟩,fin,q⟩
 ·subst e
  cases r1
  obtain ⟨its,rv,p,hz⟩:=I1.tuple hq
  exact wpAny_pyIter_tuple (show s1.heap.IsTuple a its.toArray from p) ⟨s1.heap.objs.size,[s1.heap.objs.size],_,_,H1,rfl,I1.kept (t':=s1.toks) (λb o e=>yk _ e),L5 a _,⟨_,yY _ rfl,rfl,rfl⟩,fin,q⟩
 ·obtain ⟨t,rfl⟩:=r1
  cases ha:z.cps.all (·<128) with
  |false=>exact wpAny_pyIter_wide ha ⟨s1.heap.objs.size,[s1.heap.objs.size],_,_,H1,rfl,I1.kept (t':=s1.toks) (λb o e=>yk _ e),DY z t _ "str_iterator" (.inr rfl),⟨_,yY _ rfl,rfl,rfl⟩,fin,q⟩
  |true=>exact wpAny_pyIter_ascii ha ⟨s1.heap.objs.size,[s1.heap.objs.size],_,_,H1,rfl,I1.kept (t':=s1.toks) (λb o e=>yk _ e),DY z t _ "str_ascii_iterator" (.inl rfl),⟨_,yY _ rfl,rfl,rfl⟩,fin,q⟩
def PU {ρ:Af}{H:Hp}{a:Addr}{xs:Aq}{vs:List V}(h:bD K H a vs) (r:Rs K mg ρ H xs vs):Walk K mg (oz K a) ρ H (.im xs):=by
 refine ⟨λi al H' e hi=>?_,λi al H' e hi=>⟨vs,e.sqT h,by rw [<-r.len];exact hi⟩,λi al H' st v H2 e s hi y=>?_⟩
 ·obtain ⟨v,hv,_⟩:=r.get (yr hi)
  exact ⟨vs,v,e.sqT h,hv⟩
 ·obtain ⟨e1,y⟩:=y
  subst e1
  obtain ⟨v',hv,rv⟩:=r.get (yr hi)
  have:=y vs (e.sqT h)
  rw [hv] at this
  cases this
  exact ⟨_,yr hi,Ext.refl,s,R.ext e _ rv⟩
def PX {ρ:Af}{H:Hp}{a:Addr}{xs:Aq}{vs:List V}(h:kE K H a vs) (r:Rs K mg ρ H xs vs):Walk K mg (sC K a) ρ H (.im xs):=by
 have hs:∀{al H'},Ext ρ H al H'->bE K H' a vs:=λe=>(e.frl h).sq
 refine ⟨λi al H' e hi=>?_,λi al H' e hi=>⟨vs,hs e,by rw [<-r.len];exact hi⟩,λi al H' st v H2 e s hi y=>?_⟩
 ·obtain ⟨v,hv,_⟩:=r.get (yr hi)
  exact ⟨vs,v,hs e,hv⟩
 ·obtain ⟨e1,y⟩:=y
  subst e1
  obtain ⟨v',hv,rv⟩:=r.get (yr hi)
  have:=y vs (hs e)
  rw [hv] at this
  cases this
  exact ⟨_,yr hi,Ext.refl,s,R.ext e _ rv⟩
def signs (z:Str):Aq:=z.cps.toList.map λc=>.str ⟨#[c]⟩
def PY {ρ:Af}{H:Hp}(z:Str):Walk K mg (xB z) ρ H (.im (signs z)):=by
 have hl:(signs z).length=z.cps.size:=by simp [signs]
 refine ⟨λi al H' e hi=>by rw [hl] at hi;exact hi,λi al H' e hi=>by rw [hl] at hi;exact hi,λi al H' st v H2 e s hi y=>?_⟩
 obtain ⟨e1,c,hc,e2⟩:=y
 subst e1 e2
 refine ⟨.str ⟨#[c]⟩,?_,Ext.refl,s,rfl⟩
 simp [signs,hc]
def nums (lo:Int) (n:Nat):Aq:=(List.range n).map λi=>.int (lo+(i:Nat))
def PZ {ρ:Af}{H:Hp}(lo:Int) (n:Nat):Walk K mg (sD lo n) ρ H (.im (nums lo n)):=by
 have hl:(nums lo n).length=n:=by simp [nums]
 refine ⟨λi al H' e hi=>by rw [hl] at hi;exact hi,λi al H' e hi=>by rw [hl] at hi;exact hi,λi al H' st v H2 e s hi y=>?_⟩
 obtain ⟨e1,e2⟩:=y
 subst e1 e2
 rw [hl] at hi
 exact ⟨.int (lo+i),by simp [nums,hi],Ext.refl,s,rfl⟩
def kK:PV->Mo Sq
 |.tup xs,st=>.ok (.im xs) st
 |.frl xs,st=>.ok (.im xs) st
 |.str z,st=>.ok (.im (signs z)) st
 |.ref n,st=>yl st n λ_=>.ok (.rf n) st
 |_,_=>.stuck
def yJ (f:Aj):zf->Mo Sq:=λenv st=>(f env st).bind kK
def js (h:ME X Er e fa):MI X Er tg e (yJ fa):=PI.weak (PR h) fun σ H Q ⟨env,st,ρ,re,rs,h⟩=>⟨env,st,ρ,re,rs,h.then λah H1 x ae e1 s1 h1 v rv=>by
 cases x with
 |tup xs =>
  obtain ⟨a,vs,rfl,k1,k2⟩:=rv
  exact .inr (.inl ⟨a,rfl,⟨vs,k1⟩,Out.now (x:=Sq.im xs) h1 s1 _ (PU k1 k2)⟩)
 |frl xs =>
  obtain ⟨a,vs,rfl,k1,k2⟩:=rv
  exact .inl ⟨a,rfl,⟨vs,k1.sq⟩,Out.now (x:=Sq.im xs) h1 s1 _ (PX k1 k2)⟩
 |str z =>
  cases rv
  exact .inr (.inr ⟨z,rfl,Out.now (x:=Sq.im (signs z)) h1 s1 _ (PY z)⟩)
 |ref n =>
  obtain ⟨a,rfl,ha⟩:=rv
  obtain ⟨xs,hn,h1⟩:=jX h1
  obtain ⟨vs,k1,k2⟩:=s1.addr hn ha
  exact .inl ⟨a,rfl,⟨vs,bE.of k1⟩,h1.now s1 _ ⟨a,ha,rfl⟩⟩
 |_=>exact h1.elim⟩
abbrev cR (j:Int):Bool:=decide (-(2 ^ 62)<=j)&&decide (j<2 ^ 62)
def lY:List PV->Mo Sq
 |[.int j],st=>if cR j=true then .ok (.im (nums 0 j.toNat)) st else .stuck
 |_,_=>.stuck
def P0 {ρ:Af}{H:Hp}{xs:Aq}{st:aa}{good:List Addr->Hp->Sq->aa->Prop}(h:Out K mg ρ H (lY xs st) good Er):∃j,xs=[.int j] /\ -(2 ^ 62)<=j/\j<2 ^ 62/\Out K mg ρ H (.ok (.im (nums 0 j.toNat)) st) good Er:=by
 unfold lY at h
 split at h
 ·obtain ⟨c,h⟩:=Out.ifp h
  simp [cR] at c
  exact ⟨_,rfl,c.1,c.2,h⟩
 ·exact h.elim
def dz (fs:Ai):zf->Mo Sq:=λenv st=>(fs env st).bind lY
def P4 {a:Expr} (hm:X.mg "range" = none) (ha:MA X Er [a] fs) (hg:Gl X "range" := by rfl) (hs:starEach [a] X.env=[(false,eval a X.env)]:=by rfl):MI X Er tg (.Call (.Name "range" p) [a] [] pos) (dz fs) :=
 PI.weak (L8 hg hm ha hs) fun σ H Q ⟨env,st,ρ,re,rs,h⟩=>⟨env,st,ρ,re,rs,h.then λah H1 xs ae e1 s1 h1 vs rv=>by
  obtain ⟨j,rfl,c1,c2,h1⟩:=P0 h1
  obtain ⟨v,rfl,rfl⟩:=Rs.one rv
  exact ⟨j,rfl,c1,c2,h1.now s1 _ (PZ 0 j.toNat)⟩⟩
def jQ (xs ys:Aq):Aq:=(xs.zip ys).map λq=>.tup [q.1,q.2]
def tU:List PV->Mo Sq
 |[.tup xs,.tup ys],st=>.ok (.im (jQ xs ys)) st
 |_,_=>.stuck
def P5 {ρ:Af}{H:Hp}{xs:Aq}{st:aa}{good:List Addr->Hp->Sq->aa->Prop}(h:Out K mg ρ H (tU xs st) good Er):∃ys zs,xs=[.tup ys,.tup zs]/\Out K mg ρ H (.ok (.im (jQ ys zs)) st) good Er:=by
 unfold tU at h
 split at h
 ·exact ⟨_,_,rfl,h⟩
 ·exact h.elim
def P6 {ρ:Af}{H:Hp}{a b:Addr}{xs ys:Aq}{vs ws:List V}(h:bD K H a vs) (r:Rs K mg ρ H xs vs) (h':bD K H b ws) (r':Rs K mg ρ H ys ws):Walk K mg (xN K a b) ρ H (.im (jQ xs ys)):=by
 have hl:(jQ xs ys).length=min xs.length ys.length:=by simp [jQ]
 have l1:=r.len
 have l2:=r'.len
 refine ⟨λi al H' e hi=>?_,λi al H' e hi=>⟨vs,ws,e.sqT h,e.sqT h',by rw [hl] at hi;omega⟩,λi al H' st v H2 e s hi y=>?_⟩
 ·rw [hl] at hi
  obtain ⟨v,hv,_⟩:=r.get (yr (show i<xs.length by omega))
  obtain ⟨w,hw,_⟩:=r'.get (yr (show i<ys.length by omega))
  exact ⟨vs,ws,v,w,e.sqT h,e.sqT h',hv,hw⟩
 ·rw [hl] at hi
  obtain ⟨T,v',w',hT,rfl,rfl,y1,y2⟩:=y
  have k1:i<xs.length:=by omega
  have k2:i<ys.length:=by omega
  obtain ⟨v,hv,rv⟩:=r.get (yr k1)
  obtain ⟨w,hw,dm⟩:=r'.get (yr k2)
  have q1:=y1 vs (e.sqT h)
  have q2:=y2 ws (e.sqT h')
  rw [hv] at q1
  rw [hw] at q2
  cases q1;cases q2
  refine ⟨.tup [xs[i],ys[i]],?_,Ext.new hT,s.new hT,R.tup_of ⟨_,[_],rfl,R.ext e _ rv,_,[],rfl,R.ext e _ dm,rfl⟩ hT⟩
  rw [jQ,jo,yr (by simp;omega)]
  simp
def oU (fs:Ai):zf->Mo Sq:=λenv st=>(fs env st).bind tU
def P7 {elts:List Expr} {kt:Nat} {tp:Pos} {x y:Expr} (hm:X.mg "zip" = none) (ha:MA X Er [x,y] fs) (hg:Gl X "zip" := by rfl) (hs:starEach [x,y] X.env=[(false,eval x X.env),(false,eval y X.env)]:=by rfl) (gG:starEach [y] X.env=[(false,eval y X.env)]:=by rfl) :
  MI X Er (.Tuple elts kt tp) (.Call (.Name "zip" p) [x,y] [] pos) (oU fs) :=
 PI.weak (OS hg hm ha hs gG) fun σ H Q ⟨env,st,ρ,re,rs,h⟩=>⟨env,st,ρ,re,rs,h.then λah H1 xs ae e1 s1 h1 vs rv=>by
  obtain ⟨ys,zs,rfl,h1⟩:=P5 h1
  obtain ⟨v,w,rfl,⟨a,us,rfl,k1,k2⟩,⟨b,ws,rfl,k3,k4⟩⟩:=Rs.two rv
  exact ⟨a,b,rfl,⟨us,k1⟩,⟨ws,k3⟩,h1.now s1 _ (P6 k1 k2 k3 k4)⟩⟩
def cA (t:Al) (b:Ak):Nat->Ak
 |0,_,_=>.stuck
 | n+1,env,st=>(t env st).bind λc ae=>if c=true then (b env ae).bind λfl aQ=>match fl with
   |.nx e=>cA t b n e aQ
   |.ct e=>cA t b n e aQ
   |.bk e=>.ok (.nx e) aQ
   |.rt v=>.ok (.rt v) aQ
  else .ok (.nx env) ae
def tV (t:Al) (b:Ak):Ak:=cA t b lim
def P8 (hp:PassesOwn (model X.prog X.w) X.A X.env X.xe) (hc:MT X Er c ga) (hb:fR X Er eU gb):MS X Er (.While c eU [] pos) (tV ga gb) :=
 PS.weak (LZ hp hc hb) λD σ H ⟨env,st,ρ,re,rs,h⟩=>by
  refine ⟨λm σ H=>∃env st ρ,bJ X.K X.mg ρ H env σ/\bu X.K X.mg ρ H st/\Out X.K X.mg ρ H (cA ga gb m env st) (gS X.K X.mg D) Er,⟨lim,env,st,ρ,re,rs,h⟩,?_⟩
  rintro m σ H ⟨env,st,ρ,re,rs,h⟩
  cases m with
  |zero=>exact h.elim
  |succ m =>
   refine ⟨env,st,ρ,re,rs,Out.then h λah H1 k ae e1 s1 h1=>?_⟩
   cases k with
   |true =>
    change (if true=true then _ else D.nx σ H1)
    rw [zx rfl]
    refine ⟨_,λaj H' p'=>⟨m,wg m,p'⟩,env,ae,ah,re.ext e1,s1,Out.then h1 λao H3 fl bq e3 s3 h3=>?_⟩
    cases fl with
    |nx e=>exact λaF r4=>⟨e,bq,ao,r4,s3,h3⟩
    |ct e=>exact λaF r4=>⟨e,bq,ao,r4,s3,h3⟩
    |bk e=>exact Out.fl (D:=D) (fl:=.nx e) (E:=Er) h3 s3
    |rt v=>exact Out.fl (D:=D) (fl:=.rt v) (E:=Er) h3 s3
   |false =>
    have z:D.nx σ H1:=Out.fl (D:=D) (fl:=.nx env) (E:=Er) h1 s1 σ (re.ext e1)
    exact z
def de {α:Type}:Res α->Res α
 |.err _ _ _ _=>.stuck
 |r=>r
def wU {α β:Type}{ρ:Af}{H:Hp}{r:Res β}{f:β->Mo α}{good:List Addr->Hp->α->aa->Prop}{eZ:List Addr->Hp->β->aa->Prop}{E E':XK}(h:Out K mg ρ H ((de r).bind f) good E) (g:∀al H' x st,Ext ρ H al H'->bu K mg al H' st->Out K mg al H' (f x st) good E->eZ al H' x st):Out K mg ρ H r eZ E':=by
 cases r with
 |ok x st=>exact λal H' e s=>g al H' x st e s (Out.ext h e)
 |err=>exact h.elim
 |stuck=>exact h.elim
def fW (ks:Ae) (ps:Aq):PV->Mo PV
 |.str z,st=>cD ((ks.zip ps).lookup z) st
 |_,_=>.stuck
def KdF (X:Cx) (name:Str) (ks:Ae) (ps:Aq) (full:Bool):Prop:=∃O,X.mg name=some (.ref O)/\KD X O/\(∀z q,(ks.zip ps).lookup z=some q->∃u v,nsIn X.K O z=some (some u)/\RelV v u/\∀ρ H,R X.K X.mg ρ H q v)/\(full=true->∀z,(ks.zip ps).lookup z=none->nsIn X.K O z=some none)
def zfk {name:Str} {ks:Ae} {ps:Aq} {full:Bool} (F:KdF X name ks ps full) (hb:ME X Er b fb) (hs:fM b:=by exact λ_ _=>rfl) (hg:Gl X name:=by rfl) (hd:(name==("__debug__" : Str))=false:=by decide):ME X Er (.Subscript (.Name name p) b pos) (yc (fW ks ps) fb):=by
 obtain ⟨O,hm,kd,hl,_⟩:=F
 refine PE.weak (Dz OT (vR (v:=.ref O) hg hm rfl hd) hb hs) fun σ H Q ⟨env,st,ρ,re,rs,h⟩=>⟨env,st,ρ,re,rs,h.then λah H1 x ae e1 s1 h1 v rv=>?_⟩
 cases x with
 |str z =>
  cases rv
  obtain ⟨q,hq,h1⟩:=lW h1
  obtain ⟨u,v,h2,h3,h4⟩:=hl z q hq
  exact ⟨O,z,u,v,rfl,rfl,kd,h2,h3,h1.now s1 _ (h4 _ _)⟩
 |_=>exact h1.elim
def lZ (neg:Bool) (ks:Ae) (ps:Aq) (full:Bool):PV->Mo PV
 |.str z,st=>if ((ks.zip ps).lookup z).isSome=true\/full=true then .ok (.bl (neg.xor ((ks.zip ps).lookup z).isSome)) st else .stuck
 |_,_=>.stuck
def P9 {name:Str}{ks:Ae}{ps:Aq}{full:Bool}{O:Addr}(hl:∀z q,(ks.zip ps).lookup z=some q->∃u v,nsIn X.K O z=some (some u)/\RelV v u/\∀ρ H,R X.K X.mg ρ H q v) (hf:full=true->∀z,(ks.zip ps).lookup z=none->nsIn X.K O z=some none) {z:Str}(h:((ks.zip ps).lookup z).isSome=true\/full=true):∃r,nsIn X.K O z=some r/\r.isSome=((ks.zip ps).lookup z).isSome:=by
 cases hq:(ks.zip ps).lookup z with
 |some q=>obtain ⟨u,v,h2,_⟩:=hl z q hq;exact ⟨_,h2,rfl⟩
 |none =>
  rw [hq] at h
  rcases h with h|h
  ·cases h
  ·exact ⟨none,hf h z hq,rfl⟩
def zp6 {name:Str} {ks:Ae} {ps:Aq} {full:Bool} (F:KdF X name ks ps full) (ha:ME X Er a fa) (hg:Gl X name:=by rfl) (hd:(name==("__debug__" : Str))=false:=by decide) (hk:behindInMarks .NotIn (.Name name p)=false:=by with_unfolding_all rfl):MT X Er (.Compare a [.NotIn] [.Name name p] pos) (mB (yc (lZ true ks ps full) fa)):=by
 obtain ⟨O,hm,kd,hl,hf⟩:=F
 refine PT.weak (C6 OU ha (vR (v:=.ref O) hg hm rfl hd) hk) fun σ H Q h=>?_
 obtain ⟨env,st,ρ,re,rs,h⟩:=tu h
 refine ⟨env,st,ρ,re,rs,h.then λah H1 x ae e1 s1 h1 v rv=>?_⟩
 cases x with
 |str z =>
  cases rv
  obtain ⟨q,h1⟩:=Out.ifp h1
  obtain ⟨r,h2,h3⟩:=P9 (name:=name) hl hf q
  have:=Out.now h1 s1 _ rfl
  exact ⟨O,z,r,rfl,rfl,kd,h2,by rw [h3];simpa using this⟩
 |_=>exact h1.elim
def yM:Ao
 |.ref n,y,st=>yl st n λxs=>if xs.length<lim then .ok .non (st.set n (.lst (xs++[y]))) else .stuck
 |_,_,_=>.stuck
def tX:Ao
 |.ref n,.ref k,st=>yl st n λxs=>yl st k λys=>if xs.length+ys.length<=lim then .ok .non (st.set n (.lst (xs++ys))) else .stuck
 |_,_,_=>.stuck
def R.refL {ρ:Af}{H:Hp}{st:aa}{n:Nat}{xs:Aq}{v:V}(s:bu K mg ρ H st) (r:R K mg ρ H (.ref n) v) (h:st[n]?=some (.lst xs)):∃a vs,v=.ref a/\ρ[n]?=some a/\H a=some (.lst vs)/\Rs K mg ρ H xs vs:=by
 obtain ⟨a,rfl,ha⟩:=r
 obtain ⟨vs,h1,h2⟩:=s.addr h ha
 exact ⟨a,vs,rfl,ha,h1,h2⟩
def l6:PV->Mo PV
 |.ref n,st=>yl st n λ_=>.ok (.ref n) st
 |_,_=>.stuck
def yC (op:Ao) (fo fv:Aj):Aj:=λenv st=>(fo env st).bind λo ae=>(l6 o ae).bind λo ae=>(fv env ae).bind λy aQ=>op o y aQ
def AB {α:Type}{ρ:Af}{H:Hp}{x:PV}{st:aa}{f:PV->Mo α}{good:List Addr->Hp->α->aa->Prop}(h:Out K mg ρ H ((l6 x st).bind f) good Er):∃n xs,x=.ref n/\st[n]?=some (.lst xs)/\Out K mg ρ H (f (.ref n) st) good Er:=by
 cases x with
 |ref n =>
  unfold l6 yl at h
  cases hn:st[n]? with
  |none=>simp only [hn] at h;exact h.elim
  |some so =>
   cases so with
   |lst xs=>simp only [hn] at h;exact ⟨n,xs,rfl,hn,h⟩
   |_=>simp only [hn] at h;exact h.elim
 |_=>exact h.elim
def j7 {bg:Pos} (ho:ME X Er o fo) (he:ME X Er e fa) (c7:attributeBase o "append" X.env (eval o X.env)=eval o X.env:=by rfl)
  (fO:((backTo bg (starEach [e] X.env)).all (λx=>!x.1)&&(backToKw bg (keywordEach [] X.env)).all (λx=>x.1.isSome)&&decide ([e].length+([]:List Keyword).length+(if ([]:List Keyword).isEmpty then 0 else 1)<30))=true:=by rfl)
  (c_:(apos.endLine==bg.line)=true:=by rfl) (hs:starEach [e] X.env=(false,eval e X.env)::starEach [] X.env:=by rfl) (bX:(backTo bg (starEach [] X.env)).any (·.1)=false:=by rfl):ME X Er (.Call (.Attribute o "append" apos) [e] [] bg) (yC yM fo fa) :=
 PE.weak (sI PySem.F.plainAttrs_list PySem.F.slot_list_append PySem.F.type_list_append zoi ho (qe he qd hs) c7 fO c_ hs bX) fun σ H Q ⟨env,st,ρ,re,rs,h⟩=>⟨env,st,ρ,re,rs,h.then λah H1 x ae e1 s1 h1 v rv=>by
  obtain ⟨n,xs,rfl,hn,h1⟩:=AB h1
  obtain ⟨p,vs,rfl,hp,k1,k2⟩:=R.refL s1 rv hn
  refine ⟨.inl ⟨rfl,vs,bE.of k1⟩,env,ae,ah,re.ext e1,s1,h1.then λaq H2 y aQ e2 s2 h2 w rw=>?_⟩
  obtain ⟨nu,gF,h2⟩:=jX h2
  obtain ⟨c,h2⟩:=Out.ifp h2
  obtain ⟨p',gH,e3,ng,k3,k4⟩:=R.refL s2 (R.ext e2 _ rv) gF
  cases e3
  have ew:Ext aq H2 aq (upd H2 p (.lst (gH++[w]))):=Ext.write k3 rfl
  refine ⟨p,gH,w,rfl,rfl,k3,?_,h2 aq _ ew (s2.write ng ew ⟨gH++[w],yZ,Rs.ext ew _ (k4.append ⟨w,[],rfl,rw,rfl⟩)⟩) _ rfl⟩
  rw [<-k4.len,sizeLine_eq];have:nu.length<1000000:=c;omega⟩
def zp7 {bg:Pos} (ho:ME X Er o fo) (he:ME X Er e fa) (c7:attributeBase o "extend" X.env (eval o X.env)=eval o X.env:=by rfl)
  (fO:((backTo bg (starEach [e] X.env)).all (λx=>!x.1)&&(backToKw bg (keywordEach [] X.env)).all (λx=>x.1.isSome)&&decide ([e].length+([]:List Keyword).length+(if ([]:List Keyword).isEmpty then 0 else 1)<30))=true:=by rfl)
  (c_:(apos.endLine==bg.line)=true:=by rfl) (hs:starEach [e] X.env=(false,eval e X.env)::starEach [] X.env:=by rfl) (bX:(backTo bg (starEach [] X.env)).any (·.1)=false:=by rfl):ME X Er (.Call (.Attribute o "extend" apos) [e] [] bg) (yC tX fo fa) :=
 PE.weak (sI PySem.F.plainAttrs_list PySem.F.slot_list_extend PySem.F.type_list_extend zok ho (qe he qd hs) c7 fO c_ hs bX) fun σ H Q ⟨env,st,ρ,re,rs,h⟩=>⟨env,st,ρ,re,rs,h.then λah H1 x ae e1 s1 h1 v rv=>by
  obtain ⟨n,xs,rfl,hn,h1⟩:=AB h1
  obtain ⟨p,vs,rfl,hp,k1,k2⟩:=R.refL s1 rv hn
  refine ⟨.inl ⟨rfl,vs,bE.of k1⟩,env,ae,ah,re.ext e1,s1,h1.then λaq H2 y aQ e2 s2 h2 w rw=>?_⟩
  cases y with
  |ref m =>
   obtain ⟨nu,gF,h2⟩:=jX h2
   obtain ⟨Ze,P_,h2⟩:=jX h2
   obtain ⟨c,h2⟩:=Out.ifp h2
   obtain ⟨p',gH,e3,ng,k3,k4⟩:=R.refL s2 (R.ext e2 _ rv) gF
   cases e3
   obtain ⟨q,AD,rfl,kC,k5,k6⟩:=R.refL s2 rw P_
   have ew:Ext aq H2 aq (upd H2 p (.lst (gH++AD))):=Ext.write k3 rfl
   exact ⟨p,q,gH,AD,rfl,rfl,k3,k5,by rw [<-k4.len,<-k6.len];exact y0 c,h2 aq _ ew (s2.write ng ew ⟨gH++AD,yZ,Rs.ext ew _ (k4.append k6)⟩) _ rfl⟩
  |_=>exact h2.elim⟩
end
def endOf:Fl->Mo PV
 |.rt v,st=>.ok v st
 |.nx _,st=>.ok .non st
 |_,_=>.stuck
def zX (np nN:Nat) (g:Ak):An:=λxs st=>if xs.length=np then (g (xs.map some++List.replicate (nN-np) none) st).bind endOf else .stuck
section
variable {P:Program} {w:World} {K:Frag} {mg:Ab} {base:Heap}
abbrev tY (P:Program) (w:World) (K:Frag) (mg:Ab) (base:Heap) (N:Ae) (qual:Str) (scope:Scope) (f:Addr) (cd:Value) (A:Around) (outer:List Env) (s:Shared) (H:Hp) (E:XK):Cx :=
 (dY (cV P w) P w K mg base N qual scope f cd A outer s H E).wish (XA (dY (cV P w) P w K mg base N qual scope f cd A outer s H E) E)
def Qa {N:Ae}{np:Nat}{ρ:Af}{H:Hp}{xs:Aq}{vs:List V}(r:Rs K mg ρ H xs vs) (h:xs.length=np):bJ K mg ρ H (xs.map some++List.replicate (N.length-np) none) (L2.start N vs):=by
 have hl:=r.len
 refine ⟨by simp [L2.start,<-hl,h],λi x hx=>?_⟩
 by_cases hi:i<xs.length
 ·rw [kh (by simpa using hi)] at hx
  simp only [jo] at hx
  cases hq:xs[i]? with
  |none=>rw [hq] at hx;cases hx
  |some y =>
   rw [hq] at hx
   cases hx
   obtain ⟨v,hv,rv⟩:=r.get hq
   refine ⟨v,?_,rv⟩
   unfold L2.start
   rw [kh (by simp;omega)]
   simp [hv]
 ·rw [iw (by simpa using hi)] at hx
  rw [List.getElem?_replicate] at hx
  split at hx<;>cases hx
def tZ {x qual:Str}{sm:Stmt}{f:Addr}{fd:FuncData}{N ps:Ae}{k:Nat}{g:Ak}(F:eI K x qual sm f fd) (S:af N ps (zL sm))
  (hb:∀(bh:Value) (A:Around) (outer:List Env) (s:Shared) (H:Hp) (E:XK),br k (A.deeper (PyProof.Rows.envOfC qual (zL sm) s.heap.objs.size f bh))->fR (tY P w K mg base N qual (zL sm) f bh A outer s H E) E (jJ sm) g) :
  bU P w K mg base (cV P w) (k+1) f fd ps (iJ K mg (zX ps.length N.length g)):=by
 refine F.okT S (λvs H Q E h=>?_) λbh A outer s H vs Q E hr h=>⟨_,hb bh A outer s H E hr,?_⟩
 ·obtain ⟨xs,st,ρ,r,_,h⟩:=h
  obtain ⟨hl,_⟩:=Out.ifp h
  rw [<-r.len];exact hl
 ·obtain ⟨xs,st,ρ,r,rs,h⟩:=h
  obtain ⟨hl,h⟩:=Out.ifp h
  refine ⟨_,st,ρ,Qa r hl,rs,h.then λah H1 fl ae e1 s1 h1=>?_⟩
  cases fl with
  |rt v=>exact λu ru=>Out.now (x:=v) h1 s1 u ru
  |nx e=>exact λaj _=>Out.now (x:=PV.non) h1 s1 _ rfl
  |_=>exact h1.elim
def Qb {x:Str}{f:Addr}{fd:FuncData}{ps:Ae}{k:Nat}{m:An}{sm:Stmt}{qual nm:Str}(hm:mg x=some (.ref f)) (F:eI K nm qual sm f fd) (hb:Binds K fd ps []) (h:bU P w K mg base (cV P w) k f fd ps (iJ K mg m)):bG P w K mg base x k m:=⟨f,fd,ps,hm,F.kp,hb,h⟩
end
section
variable {X:Cx} {Er:XK} {P:Program} {w:World} {K:Frag} {mg:Ab} {base:Heap} {pos:Pos} {x:Str} {st:Stmt}
def zq {k:Nat}{A:Around}(hr:br k A):A.units+200<cLine:=by have:=hr.un;omega
def yK:Ak:=λ_ _=>.stuck
def yT:MS X Er st yK:=PS.weak LJ λD σ H ⟨env,st,ρ,re,rs,h⟩=>h
def Qc {n:Int} (h:∃t,X.mg x=some (.int n t)) (hg:Gl X x:=by rfl) (hd:(x==("__debug__" : Str))=false:=by decide):ME X Er (.Name x pos) (mC (.int n)):=let ⟨t,h⟩:=h;OZ (v:=.int n) h ⟨t,rfl⟩ (λ_ _=>rfl) hg hd
def FnF (K:Frag) (mg:Ab) (x:Str) (sm:Stmt) (ps:Ae):Prop:=∃f fd,mg x=some (.ref f)/\eI K x x sm f fd/\Binds K fd ps []
def MtF (K:Frag) (mg:Ab) (c name qual:Str) (sm:Stmt) (ps:Ae):Prop:=∃C f fd,mg c=some (.ref C)/\fK K C/\Meth K C name f/\eI K name qual sm f fd/\Binds K fd ps []
def NwF (K:Frag) (mg:Ab) (c qual:Str) (sm:Stmt) (ps:Ae):Prop:=∃C f fd,mg c=some (.ref C)/\Mk K C f/\eI K "__init__" qual sm f fd/\Binds K fd ps []
def EE (K:Frag) (mg:Ab) (c fld qual:Str) (sm:Stmt):Prop:=∃C f fd,mg c=some (.ref C)/\vA K C f/\nj K C fld/\eI K "__init__" qual sm f fd/\Binds K fd ["self", fld] []
def FnF.ok {sm:Stmt}{N ps:Ae}{k:Nat}{g:Ak}(h:FnF K mg x sm ps) (S:af N ps (zL sm))
  (hb:∀(f:Addr) (bh:Value) (A:Around) (outer:List Env) (s:Shared) (H:Hp) (E:XK),br k (A.deeper (PyProof.Rows.envOfC x (zL sm) s.heap.objs.size f bh))->fR (tY P w K mg base N x (zL sm) f bh A outer s H E) E (jJ sm) g) :
  bG P w K mg base x (k+1) (zX ps.length N.length g):=by
 obtain ⟨f,fd,hm,F,b⟩:=h
 exact Qb hm F b (tZ F S (hb f))
def MtF.ok {c name qual:Str}{sm:Stmt}{N ps:Ae}{k:Nat}{g:Ak}(h:MtF K mg c name qual sm ps) (S:af N ps (zL sm))
  (hb:∀(f:Addr) (bh:Value) (A:Around) (outer:List Env) (s:Shared) (H:Hp) (E:XK),br k (A.deeper (PyProof.Rows.envOfC qual (zL sm) s.heap.objs.size f bh))->fR (tY P w K mg base N qual (zL sm) f bh A outer s H E) E (jJ sm) g) :
  cm P w K mg base c name (k+1) (zX ps.length N.length g):=by
 obtain ⟨C,f,fd,hm,cl,mt,F,b⟩:=h
 exact ⟨C,f,fd,ps,hm,cl,mt,b,tZ F S (hb f)⟩
def NwF.ok {c qual:Str}{sm:Stmt}{N ps:Ae}{k:Nat}{g:Ak}(h:NwF K mg c qual sm ps) (S:af N ps (zL sm))
  (hb:∀(f:Addr) (bh:Value) (A:Around) (outer:List Env) (s:Shared) (H:Hp) (E:XK),br k (A.deeper (PyProof.Rows.envOfC qual (zL sm) s.heap.objs.size f bh))->fR (tY P w K mg base N qual (zL sm) f bh A outer s H E) E (jJ sm) g) :
  kJ P w K mg base c (k+1) (zX ps.length N.length g):=by
 obtain ⟨C,f,fd,hm,mk,F,b⟩:=h
 exact ⟨C,f,fd,ps,hm,mk,b,tZ F S (hb f)⟩
def EE.ok {c fld qual:Str} {sm:Stmt} (h:EE K mg c fld qual sm) (S:af ["self", fld] ["self", fld] (zL sm))
  (hb:∀(C f:Addr) (bh:Value) (A:Around) (outer:List Env) (s:Shared) (H:Hp) (E:XK),nj K C fld->cU (dY (cV P w) P w K mg base ["self", fld] qual (zL sm) f bh A outer s H E) (jJ sm) (Ot K (vP 0) (vP 1) fld)) :
  Px P w K mg base c fld:=by
 obtain ⟨C,f,fd,hm,M,xc,F,b⟩:=h
 refine ⟨C,f,fd,hm,M,F.okX S (λvs H Q E h=>?_) (λbh A outer s H vs Q E hr h=>⟨_,hb C f bh A outer s H E xc,?_⟩),b⟩
 ·obtain ⟨a,t,y,rfl,_⟩:=h;rfl
 ·obtain ⟨a,t,y,rfl,ha,q⟩:=h
  exact ⟨y,rfl,.ref a,rfl,a,C,t,rfl,ha,xc,λd hd=>q d hd⟩
def t_ {p:Addr} {oc:Value} {od:Option Addr} {its:Array Value} {n:Nat} {sl:Array (Option Value)} {xs:Aq} {vs:List V} (hl:K.lookup p=some ⟨oc,od,.seq its n,sl⟩) (hc:oc=.type "tuple") (hz:its.size<=1000) (hv:Vals vs its.toList) (hr:∀ρ H,Rs K mg ρ H xs vs):∀ρ H,R K mg ρ H (.tup xs) (.ref p) :=
 fun ρ H=>⟨p,vs,rfl,.inr ⟨_,its,n,hl,hc,rfl,by rw [sizeLine_eq];omega,hv⟩,hr ρ H⟩
def wm:bootBuiltins "len" = some (.builtin "len"):=by decide +kernel
def Qd:bootBuiltins "isinstance" = some (.builtin "isinstance"):=by decide +kernel
def EF:bootBuiltins "str" = some (.type "str"):=by decide +kernel
def jB:bootBuiltins "tuple" = some (.type "tuple"):=by decide +kernel
def AE:bootBuiltins "dict" = some (.type "dict"):=by decide +kernel
def AF:bootBuiltins "list" = some (.type "list"):=by decide +kernel
end
theorem bG.mono {P:Program}{w:World}{K:Frag}{mg:Ab}{base:Heap}{x:Str}{j k:Nat}{m:An}(h:bG P w K mg base x j m) (AG:j<=k):bG P w K mg base x k m:=by
 obtain ⟨f,fd,ps,h1,h2,h3,h4⟩:=h
 exact ⟨f,fd,ps,h1,h2,h3,h4.mono AG⟩
theorem cm.mono {P:Program}{w:World}{K:Frag}{mg:Ab}{base:Heap}{c x:Str}{j k:Nat}{m:An}(h:cm P w K mg base c x j m) (AG:j<=k):cm P w K mg base c x k m:=by
 obtain ⟨C,f,fd,ps,h1,h2,h3,h4,h5⟩:=h
 exact ⟨C,f,fd,ps,h1,h2,h3,h4,h5.mono AG⟩
def kL (K:Frag):Sp:=λvs H Q _=>∃(a:Addr) (ns:List Int),vs=[.ref a]/\bE K H a (ns.map V.int)/\Only H/\ns.length<=63/\∀H',Q (.bl true) H'
theorem EG {K:Frag}{mg:Ab}{ρ:Af}{H:Hp}:∀ns:List Int,Rs K mg ρ H (ns.map PV.int) (ns.map V.int)
 |[]=>rfl
 |n::ns=>⟨_,_,rfl,rfl,EG ns⟩
def Qe {K:Frag}{H:Hp}{a:Addr}{vs:List V}(h:bE K H a vs) (o:Only H):kE K H a vs:=by
 rcases h with (h|⟨ob,h⟩)|h
 ·rcases o a with z|⟨ob,xs,z⟩
  ·rw [h] at z;cases z
  ·rw [h] at z;cases z
 ·exact .inl ⟨ob,h⟩
 ·exact .inr h
def Qf {P:Program}{w:World}{K:Frag}{mg:Ab}{base:Heap}{k:Nat}{f:Addr}{fd:FuncData}{ps:Ae}{m:An}(F:bU P w K mg base (cV P w) k f fd ps (iJ K mg m)) (h:∀ns:List Int,ns.length<=63->∃st,m [.frl (ns.map PV.int)] []=.ok (.bl true) st):bU P w K mg base (cV P w) k f fd ps (kL K) :=
 F.imp λvs H Q E ⟨a,ns,e,hs,ho,hl,q⟩=>by
  subst e
  obtain ⟨st,hm⟩:=h ns hl
  refine ⟨[.frl (ns.map PV.int)],[],[],⟨_,[],rfl,⟨a,_,rfl,Qe hs ho,EG ns⟩,rfl⟩,⟨rfl,List.nodup_nil,λn so e=>by simp at e⟩,?_⟩
  rw [hm]
  intro al H' _ _ v rv
  cases rv
  exact q H'
def walkM {l:PySem.W.OpenLaw}{k:Nat}{x:Str}{q:Program}{loose:Ae}{XP:(Ab)->Heap->Prop}{YP:World->Heap->Prop}{d:DefRec}{K:Params->PySem.W.Frag}(hn:l.most=some 63) (qg:d.params.defaults=[]) (hr:br k callerA)
  (hY:∀(w:World) (h:Heap),YP w h->(K w.params).In h)
  (F:∀(w:World) (mg:Ab) (fa:Addr) (h:Heap),(K w.params).In h->h.Ns mainGlobals mg->mg d.name=some (.ref fa) ->
   ∃fd:FuncData,(∀(s:Shared) (u:Value),BindsTo s fd ⟨[u],[]⟩ [(x,u)])/\∀base:Heap,(K w.params).In base->base.Ns mainGlobals mg->bU l.prog w (K w.params) mg base (cV l.prog w) k fa fd [x] (kL (K w.params))) :
  PySem.W.WalkO q loose XP YP l.row.toRowW d [] (λf vs=>PySem.call f vs) :=
 L2.zot (n:=63) (k:=k) (x:=x) (CX:=λw=>cV l.prog w) (sp:=λw=>kL (K w.params)) hn (by decide) qg hr hY F (λ_ _ a ns hl ho hS=>⟨a,ns,rfl,hS,ho,hl,λ_=>rfl⟩) λw H s e s' g=>by obtain ⟨_,_,_,_,_,_,_,_,_,_,_,_,_,_,_,z⟩:=g;exact z
section
variable {α β:Type} {env:zf} {st ae:aa} {fa fb fo fv:Aj} {fs:Ai} {ga gb:Al} {g g':Ak} {op:Ao} {o1:PV->Mo PV} {m:An}
@[simp] def zJ (a:α) (f:α->Mo β):(Res.ok a st).bind f=f a st:=(rfl)
@[simp] def Zf (f:α->Mo β):(Res.stuck:Res α).bind f=.stuck:=(rfl)
@[simp] def Zg (p:Prop) [Decidable p] (a b:Res α) (f:α->Mo β):(if p then a else b).bind f=if p then a.bind f else b.bind f:=by split<;>rfl
@[simp] def Qg (i:Nat):zc i env st=(match env[i]? with|some (some x)=>.ok x st|_=>.stuck):=(rfl)
@[simp] def Zh (x:PV):mC x env st=.ok x st:=(rfl)
@[simp] def Qh:zk op fa fb env st=(fa env st).bind λx ae=>(fb env ae).bind λy aQ=>op x y aQ:=(rfl)
@[simp] def Qi:yc o1 fa env st=(fa env st).bind o1:=(rfl)
@[simp] def Qj:mB fa env st=(fa env st).bind kF:=(rfl)
@[simp] def AH (b:Bool):kF (.bl b) st=.ok b st:=(rfl)
@[simp] def EH:jN ga gb env st=(ga env st).bind λc ae=>if c=true then gb env ae else .ok false ae:=(rfl)
@[simp] def EI:oQ ga gb env st=(ga env st).bind λc ae=>if c=true then .ok true ae else gb env ae:=(rfl)
@[simp] def Qk:kG ga env st=(ga env st).bind λc ae=>.ok (!c) ae:=(rfl)
@[simp] def EJ:nq fa fb env st=(fa env st).bind λx ae=>(kF x ae).bind λc aQ=>if c=true then fb env aQ else .ok (.bl false) aQ:=(rfl)
@[simp] def Zi:zj env st=.ok [] st:=(rfl)
@[simp] def Ql:zd fa fs env st=(fa env st).bind λx ae=>(fs env ae).bind λxs aQ=>.ok (x::xs) aQ:=(rfl)
@[simp] def Qm:zI fs env st=(fs env st).bind λxs ae=>if xs.length<=lim then .ok (.tup xs) ae else .stuck:=(rfl)
@[simp] def Qn:jg fs env st=(fs env st).bind λxs ae=>if xs.length<=lim then .ok (.ref ae.length) (ae++[.lst xs]) else .stuck:=(rfl)
@[simp] def Qo:g8 fa env st=(fa env st).bind As:=(rfl)
@[simp] def Qp (i:Int):As (.int i) st=.ok (some i) st:=(rfl)
@[simp] def Qq:zt m fs env st=(fs env st).bind m:=(rfl)
@[simp] def Zj (C:Int->Int->Bool) (f:Int->Int->Int) (i j:Int):opI C f (.int i) (.int j) st=if C i j=true then .ok (.int (f i j)) st else .stuck:=(rfl)
@[simp] def Qr (x y:Str):yh (.str x) (.str y) st=if x.length+y.length<=lim then .ok (.str (x++y)) st else .stuck:=(rfl)
@[simp] def Zk (x:PV):cD (some x) st=.ok x st:=(rfl)
@[simp] def Qs (n:Nat):oR [.ref n] st=yl st n λxs=>.ok (.int xs.length) st:=(rfl)
@[simp] def Zl (x y:PV):yx x y st=if plain x=true/\plain y=true/\dep x<=150 then .ok (.bl (bY x y)) st else .stuck:=(rfl)
@[simp] def Zm (x y:PV):jY x y st=if plain x=true/\plain y=true/\dep x<=150 then .ok (.bl (!bY x y)) st else .stuck:=(rfl)
@[simp] def Qt:yi env st=.ok (.nx env) st:=(rfl)
@[simp] def EK:zw g g' env st=(g env st).bind (gM g'):=(rfl)
@[simp] def Qu:gM g (.nx env) st=g env st:=(rfl)
@[simp] def Qv (x:PV):gM g (.rt x) st=.ok (.rt x) st:=(rfl)
@[simp] def Qw (i:Nat):zO i fa env st=(fa env st).bind λx ae=>.ok (.nx (env.set i (some x))) ae:=(rfl)
@[simp] def Qx:yH fa env st=(fa env st).bind λ_ ae=>.ok (.nx env) ae:=(rfl)
@[simp] def Qy:z0 fa env st=(fa env st).bind λx ae=>.ok (.rt x) ae:=(rfl)
@[simp] def EL:yd ga g g' env st=(ga env st).bind λc ae=>if c=true then g env ae else g' env ae:=(rfl)
@[simp] def Qz (i j:Nat) (x y:PV):g2 i j (.tup [x,y]) env=some ((env.set i (some x)).set j (some y)):=(rfl)
@[simp] def QA (x:PV):endOf (.rt x) st=.ok x st:=(rfl)
@[simp] def Zn (e:zf):endOf (.nx e) st=.ok .non st:=(rfl)
@[simp] def iK:yJ fa env st=(fa env st).bind kK:=(rfl)
@[simp] def ua (n:Nat):kK (.ref n) st=yl st n λ_=>.ok (.rf n) st:=(rfl)
@[simp] def QB:oU fs env st=(fs env st).bind tU:=(rfl)
@[simp] def nv (src:zf->Mo Sq) (gt:PV->zf->Option zf):yS src gt g env st=(src env st).bind λq ae=>qF gt g q env ae:=(rfl)
@[simp] def EM (gt:PV->zf->Option zf) (xs:Aq):qF gt g (.im xs) env st=forL gt g xs env st:=(rfl)
@[simp] def Zo (gt:PV->zf->Option zf):forL gt g [] env st=.ok (.nx env) st:=(rfl)
@[simp] def Zp (x:PV) (xs:Aq):cg (x::xs)=(Mi.plain x&&cg xs):=(rfl)
@[simp] def Zq (x:PV) (xs:Aq):eE (x::xs)=max (dep x) (eE xs):=(rfl)
@[simp] def kM (a:α):de (Res.ok a st)=.ok a st:=(rfl)
@[simp] def Zr:gj .non=true:=(rfl)
def ym {n:Nat}{xs:Aq}(h:st[n]?=some (.lst xs)) (k:List PV->Res α):yl st n k=k xs:=by unfold yl;rw [h]
def AI {n:Nat}{c:Str}{ks:Ae}{xs:Aq}(h:st[n]?=some (.ins c ks xs)) (k:Str->List Str->List PV->Res α):jh st n k=k c ks xs:=by unfold jh;rw [h]
@[simp] def EN (f:Str) (i x:Str->Bool) (n:Nat):aX f i x (.ref n) st=jh st n λc ks xs=>if i c=true then cD ((ks.zip xs).lookup f) st else .stuck:=(rfl)
@[simp] def Zs (ks:Ae) (ps:Aq) (z:Str):fW ks ps (.str z) st=cD ((ks.zip ps).lookup z) st:=(rfl)
@[simp] def QC (tab:Str->Option (An)):tO tab fa fs env st=(fa env st).bind λf ae=>match f with | .fn x=>(match tab x with|some m=>(fs env ae).bind m|none=>.stuck)|_=>.stuck:=(rfl)
@[simp] def QD (f:Str) (i:Str->Bool):Mi.sFld f i fo fv env st=(fv env st).bind λx ae=>(fo env ae).bind λo aQ=>(putAt f i x o aQ).bind λ_ bq=>.ok (.nx env) bq:=(rfl)
@[simp] def QE:yC op fo fv env st=(fo env st).bind λo ae=>(l6 o ae).bind λo ae=>(fv env ae).bind λy aQ=>op o y aQ:=(rfl)
@[simp] def QF (n:Nat):l6 (.ref n) st=yl st n λ_=>.ok (.ref n) st:=(rfl)
@[simp] def EO (a b:String):(Str.ofString a=Str.ofString b)↔a=b:=by
 constructor
 ·intro h
  rw [Str.ofString_eq_byList] at h
  have h1:(a.toList.map Char.toNat)=(b.toList.map Char.toNat):=by
   have:=congrArg (λz=>z.cps.toList) h
   simpa [Str.ofStringByList] using this
  apply String.ext_iff.mpr
  exact (List.map_inj_right (λc d e=>Char.toNat_inj.mp e)).mp h1
 ·intro h;rw [h]
@[simp] def Zt (a b:String):(Str.ofString a==Str.ofString b)=(a==b):=by
 rw [Bool.eq_iff_iff];simp
def ER (n:Nat):cA ga g (n+1) env st=(ga env st).bind λc ae=>if c=true then (g env ae).bind λfl aQ=>match fl with
   |.nx e=>cA ga g n e aQ
   |.ct e=>cA ga g n e aQ
   |.bk e=>.ok (.nx e) aQ
   |.rt v=>.ok (.rt v) aQ
  else .ok (.nx env) ae:=rfl
@[simp] def Zu:lim=1000000:=(rfl)
@[simp] def Zv (f:Str) (i:Str->Bool) (x:PV) (n:Nat):Mi.putAt f i x (.ref n) st=jh st n λc ks xs=>if i c=true/\ks.length<1000 then .ok () (st.set n (.ins c (putK f x ks xs).1 (putK f x ks xs).2)) else .stuck:=(rfl)
end
section
variable {K:Frag} {mg:Ab} {h:Heap} {x:Str} {f C:Addr} {oc:Value} {od an:Option Addr} {fL:Array (Option Value)} {kV doc pm bh ct:Value} {sm:Stmt} {ps:Ae}
def zcx (X:K.In h) (G:h.Ns mainGlobals mg) (a:nsIn K mainGlobals x=some (some (.ref f))) (l:K.lookup f=some ⟨oc,od,.func (fnOf x x (wP sm) (jJ sm) (zL sm) .none kV doc pm an bh ct),fL⟩) (c:codeIn K bh x=true) (k:keepIn K (.ref f)=true)
  (b:∀(kV doc pm:Value) (an:Option Addr) (bh ct:Value) (us:Ag),us.length=ps.length->bindArgs (fnOf x x (wP sm) (jJ sm) (zL sm) .none kV doc pm an bh ct) ⟨us,[]⟩=pure (ps.zip us)):FnF K mg x sm ps :=
 ⟨f,_,mg_of X G a,oE l c k,(oE l c k).binds b⟩
def zdE {c name qual:Str} (X:K.In h) (G:h.Ns mainGlobals mg) (aC:nsIn K mainGlobals c=some (some (.ref C))) (pg:plainGet K C Str.empty=true) (hd:hasDictIn K C=true) (po:plainOver K C=true) (sa:findIn K (.ref C) "__setattr__" = some (some (.builtin "object.__setattr__")))
  (a:findIn K (.ref C) name=some (some (.ref f))) (i:isFn K (.ref f)=true) (l:K.lookup f=some ⟨oc,od,.func (fnOf name qual (wP sm) (jJ sm) (zL sm) .none kV doc pm an bh ct),fL⟩) (cd:codeIn K bh qual=true) (k:keepIn K (.ref f)=true)
  (b:∀(kV doc pm:Value) (an:Option Addr) (bh ct:Value) (us:Ag),us.length=ps.length->bindArgs (fnOf name qual (wP sm) (jJ sm) (zL sm) .none kV doc pm an bh ct) ⟨us,[]⟩=pure (ps.zip us)):MtF K mg c name qual sm ps :=
 ⟨C,f,_,mg_of X G aC,⟨pg,hd,po,sa⟩,⟨a,i,k⟩,oE l cd k,(oE l cd k).binds b⟩
def zfq {c qual:Str}(X:K.In h) (G:h.Ns mainGlobals mg) (aC:nsIn K mainGlobals c=some (some (.ref C))) (mk:makesIn K C=true) (kc:keepIn K (.ref C)=true)
  (a:findIn K (.ref C) "__init__" = some (some (.ref f))) (i:isFn K (.ref f)=true) (l:K.lookup f=some ⟨oc,od,.func (fnOf "__init__" qual (wP sm) (jJ sm) (zL sm) .none kV doc pm an bh ct),fL⟩) (cd:codeIn K bh qual=true) (k:keepIn K (.ref f)=true)
  (b:∀(kV doc pm:Value) (an:Option Addr) (bh ct:Value) (us:Ag),us.length=ps.length->bindArgs (fnOf "__init__" qual (wP sm) (jJ sm) (zL sm) .none kV doc pm an bh ct) ⟨us,[]⟩=pure (ps.zip us)):NwF K mg c qual sm ps :=
 ⟨C,f,_,mg_of X G aC,⟨mk,a,i,kc⟩,oE l cd k,(oE l cd k).binds b⟩
def zqC {c fld:Str} (X:K.In h) (G:h.Ns mainGlobals mg) (aC:nsIn K mainGlobals c=some (some (.ref C))) (pg:plainGet K C Str.empty=true) (hd:hasDictIn K C=true) (po:plainOver K C=true) (sa:findIn K (.ref C) "__setattr__" = some (some (.builtin "object.__setattr__"))) (na:findIn K (.ref C) fld=some none) :
  ∃C,mg c=some (.ref C)/\fK K C/\dO K C fld:=⟨C,mg_of X G aC,⟨pg,hd,po,sa⟩,na⟩
def zqD {α:Type}{P:α->Prop}:∀p∈([]:List α),P p:=λ_ h=>nomatch h
def all_cons {α:Type}{P:α->Prop}{a:α}{l:List α}(h:P a) (t:∀p∈l,P p):∀p∈a::l,P p:=λp hp=>by
 rcases yI.mp hp with rfl|hp
 ·exact h
 ·exact t p hp
theorem ES {α β:Type} [BEq α] [LawfulBEq α] {a:α}{b:β}:∀{l:List (α×β)},l.lookup a=some b->(a,b)∈l
 |[],h=>by simp at h
 | (c,d)::l,h=>by
  rw [jy] at h
  split at h
  ·rename_i e;cases h;rw [eq_of_beq e];simp
  ·exact jH _ (ES h)
def zij {O t t2:Addr} {wd k1 k2 y:Str} {u1 u2:Tok} {n n2:Nat} {AJ:Option Addr} {sl gQ:Array (Option Value)} (X:K.In h) (G:h.Ns mainGlobals mg) (e:nsIn K O wd=some (some (.ref t))) (l1:K.lookup t=some ⟨.type "tuple", od,.seq #[.ref t2,.ref f] n,sl⟩)
  (l2:K.lookup t2=some ⟨.type "tuple", AJ,.seq #[.str k1 u1,.str k2 u2] n2,gQ⟩) (a:nsIn K mainGlobals y=some (some (.ref f))):∃u v,nsIn K O wd=some (some u)/\RelV v u/\∀ρ H,R K mg ρ H (.tup [.tup [.str k1,.str k2],.fn y]) v:=by
 refine ⟨_,.ref t,e,rfl,t_ (xs:=[.tup [.str k1,.str k2],.fn y]) (vs:=[.ref t2,.ref f]) l1 rfl (by simp) (.cons rfl (.cons rfl .nil)) fun ρ H=>?_⟩
 exact ⟨_,_,rfl,t_ (xs:=[.str k1,.str k2]) (vs:=[.str k1,.str k2]) l2 rfl (by simp) (.cons ⟨_,rfl⟩ (.cons ⟨_,rfl⟩ .nil)) (fun ρ H=>⟨_,_,rfl,rfl,_,_,rfl,rfl,rfl⟩) ρ H,_,_,rfl,⟨f,rfl,mg_of X G a⟩,rfl⟩
def zqE {w:World} {name:Str} {O:Addr} {es:Array DictEntry} {n:Nat} {ks:Ae} {qs:Aq} (X:K.In h) (G:h.Ns mainGlobals mg) (aO:nsIn K mainGlobals name=some (some (.ref O))) (lO:K.lookup O=some ⟨.type "dict", none,.dict es n,#[]⟩) (hk:KeysLit w.params es.toList) (no:(O==sysModules)=false)
  (hi:∀p∈ks.zip qs,∃u v,nsIn K O p.1=some (some u)/\RelV v u/\∀ρ H,R K mg ρ H p.2 v):∀Y:Cx,Y.K=K->Y.mg=mg->Y.w=w->KdF Y name ks qs false:=λY e1 e2 e3=>by
 refine ⟨O,by rw [e2];exact mg_of X G aO,⟨⟨es,n,by rw [e1];exact lO,by rw [e3];exact hk⟩,no⟩,λz q hz=>?_,λz=>nomatch z⟩
 rw [e1,e2]
 exact hi _ (ES hz)
end
def zqF {P:Program}{w:World}{K:Frag}{mg:Ab}{x y:Str}{sm:Stmt}{fa:Addr}{k:Nat}{m:An}(h:FnF K mg x sm [y]) (hmg:mg x=some (.ref fa))
  (hb:∀(kV doc pm:Value) (an:Option Addr) (bh ct:Value) (u:Value),bindArgs (fnOf x x (wP sm) (jJ sm) (zL sm) .none kV doc pm an bh ct) ⟨[u],[]⟩=pure [(y,u)])
  (hok:∀(f:Addr) (fd:FuncData),eI K x x sm f fd->∀base:Heap,bU P w K mg base (cV P w) k f fd [y] (iJ K mg m)) (hp:∀ns:List Int,ns.length<=63->∃st,m [.frl (ns.map PV.int)] []=.ok (.bl true) st) :
  ∃fd:FuncData,(∀(s:Shared) (u:Value),BindsTo s fd ⟨[u],[]⟩ [(y,u)])/\∀base:Heap,K.In base->base.Ns mainGlobals mg->bU P w K mg base (cV P w) k fa fd [y] (kL K):=by
 obtain ⟨f,fd,hm,F,_⟩:=h
 rw [hmg] at hm
 cases hm
 refine ⟨fd,λs u=>?_,λbase _ _=>Qf (hok fa fd F base) hp⟩
 obtain ⟨oc,od,kV,doc,pm,an,bh,ct,fL,rfl,_⟩:=F.ex
 exact .of_eq (hb kV doc pm an bh ct u)
def zqG {K:Frag}{mg:Ab}{h:Heap}{x:Str}{i:Int}{t:Tok}(X:K.In h) (G:h.Ns mainGlobals mg) (a:nsIn K mainGlobals x=some (some (.int i t))):∃t,mg x=some (.int i t):=⟨t,mg_of X G a⟩
def zqH {K:Frag}{mg:Ab}{h:Heap}{x:Str}(X:K.In h) (G:h.Ns mainGlobals mg) (a:nsIn K mainGlobals x=some none):mg x=none:=mg_none_of X G a
section
variable {X:Cx} {Er:XK} {K:Frag} {mg:Ab} {a e o:Expr} {pos pos':Pos} {fo:Aj}
abbrev kz (ks:Ae) (vs:List V):List (Key×V):=(ks.map Sum.inr).zip vs
theorem AK {z:Str}:∀{ks:Ae}{vs:List V},dF (kz ks vs) (Sum.inr z)=(ks.zip vs).lookup z
 |[],_=>by simp [kz,dF]
 |k::ks,[]=>by simp [kz,dF]
 |k::ks,v::vs=>by
  have ih:=AK (z:=z) (ks:=ks) (vs:=vs)
  by_cases h:k=z
  ·subst h
   rw [show kz (k::ks) (v::vs)=(Sum.inr k,v)::kz ks vs from rfl,sO rfl]
   simp [jy]
  ·rw [show kz (k::ks) (v::vs)=(Sum.inr k,v)::kz ks vs from rfl,sP (by simpa using h),ih]
   have:(z==k)=false:=by simpa using λq=>h q.symm
   simp [jy,this]
theorem ET {z:Str}:∀{ks:Ae}{vs:List V},ks.length=vs.length->((kz ks vs).any λkv=>decide (kv.1=Sum.inr z))=ks.contains z
 |[],_,_=>by simp [kz]
 |k::ks,[],h=>by simp at h
 |k::ks,v::vs,h=>by
  have ih:=ET (z:=z) (ks:=ks) (vs:=vs) (by simpa using h)
  rw [show kz (k::ks) (v::vs)=(Sum.inr k,v)::kz ks vs from rfl,List.any_cons,ih,List.contains_cons]
  congr 1
  by_cases hz:k=z
  ·subst hz;simp
  ·have:(z==k)=false:=by simpa using λq=>hz q.symm
   simp [hz,this]
def repl {α:Type}(z:Str) (x:α):List Str->List α->List α
 |k::ks,y::ys=>(if k=z then x else y)::repl z x ks ys
 |_,ys=>ys
def jK (z:Str) (x:PV) (ks:Ae) (xs:Aq):List Str×List PV:=if ks.contains z=true then (ks,repl z x ks xs) else (ks++[z],xs++[x])
theorem EU {z:Str}{v:V}:∀{ks:Ae}{vs:List V},(kz ks vs).map (λkv=>if kv.1=Sum.inr z then (kv.1,v) else kv)=kz ks (repl z v ks vs)
 |[],_=>by simp [kz]
 |k::ks,[]=>by simp [kz,repl]
 |k::ks,w::vs=>by
  rw [show kz (k::ks) (w::vs)=(Sum.inr k,w)::kz ks vs from rfl,yG,EU,show repl z v (k::ks) (w::vs)=(if k=z then v else w)::repl z v ks vs from rfl,show ∀u us,kz (k::ks) (u::us)=(Sum.inr k,u)::kz ks us from λ_ _=>rfl]
  by_cases h:k=z
  ·subst h;simp
  ·rw [zK (by simpa using h),zK h]
theorem EV {ρ:Af}{H:Hp}{z:Str}{x:PV}{v:V}(r:R K mg ρ H x v):∀{ks:Ae}{xs:Aq}{vs:List V},Rs K mg ρ H xs vs->Rs K mg ρ H (repl z x ks xs) (repl z v ks vs)
 |[],xs,vs,h=>by cases xs<;>cases vs<;>exact h
 |k::ks,[],vs,h=>by cases h;exact rfl
 |k::ks,y::ys,vs,h=>by
  obtain ⟨w,ws,rfl,h1,h2⟩:=h
  refine ⟨_,_,rfl,?_,EV r h2⟩
  split
  ·exact r
  ·exact h1
theorem EW {α:Type}{z:Str}{x:α}:∀{ks:Ae}{xs:List α},(repl z x ks xs).length=xs.length
 |[],xs=>by cases xs<;>rfl
 |k::ks,[]=>rfl
 |k::ks,y::ys=>by simp [repl,EW (ks:=ks)]
def EX {ρ:Af}{H:Hp}{z:Str}{x:PV}{v:V}(r:R K mg ρ H x v) {ks:Ae}{xs:Aq}{vs:List V}(hl:ks.length=vs.length) (h:Rs K mg ρ H xs vs):∃ws,L2.putK (kz ks vs) (Sum.inr z) v=kz (jK z x ks xs).1 ws/\Rs K mg ρ H (jK z x ks xs).2 ws/\(jK z x ks xs).1.length=ws.length:=by
 unfold L2.putK jK
 rw [ET hl]
 by_cases hc:ks.contains z=true
 ·rw [zx hc,zx hc]
  exact ⟨repl z v ks vs,EU,EV r h,by rw [EW];exact hl⟩
 ·rw [zK hc,zK hc]
  refine ⟨vs++[v],?_,h.append ⟨v,[],rfl,r,rfl⟩,by simp [hl]⟩
  show _=(List.map Sum.inr (ks++[z])).zip (vs++[v])
  rw [wL,List.zip_append (by simpa using hl)]
  rfl
def iL:Aj:=λ_ st=>.ok (.ref st.length) (st++[.dic [] []])
def zaW:ME X Er (.Dict [] [] pos) iL:=PE.weak Og fun σ H Q ⟨env,st,ρ,re,rs,h⟩=>λq hq =>
 h (ρ++[q]) _ (Ext.push hq) (rs.push hq ⟨[],yZ,rfl,rfl⟩) _ ⟨q,rfl,by rw [<-rs.len];simp⟩
def QG:Ao
 |.ref n,.str z,st=>yW st n λks xs=>cD ((ks.zip xs).lookup z) st
 |_,_,_=>.stuck
def zp:Ao
 |.ref n,.str z,st=>QG (.ref n) (.str z) st
 |x,y,st=>xX x y st
def QH:R2:=λx y H Q=>∃a v,x=.ref a/\eD H a y (some v)/\Q v H
def QI (hu:X.A.units+1<cLine):fN X QH:=by
 intro value slice pins s σ H x y v u Q I rx ry h hs
 obtain ⟨a,w,rfl,g,q⟩:=h
 obtain rfl:v=Value.ref a:=rx
 exact PyProof.Rows.tail_any (N_ I g) PySem.F.slot_dict_getitem.lookup (N6 hu I g ry λw' s' I' dm=>⟨w,H,I',dm,q⟩) hs
def R.refD {ρ:Af}{H:Hp}{st:aa}{n:Nat}{ks:Ae}{xs:Aq}{v:V}(s:bu K mg ρ H st) (r:R K mg ρ H (.ref n) v) (h:st[n]?=some (.dic ks xs)):∃a vs,v=.ref a/\ρ[n]?=some a/\H a=some (.dK (kz ks vs))/\Rs K mg ρ H xs vs/\ks.length=vs.length:=by
 obtain ⟨a,rfl,ha⟩:=r
 obtain ⟨vs,h1,h2,h3⟩:=s.addr h ha
 exact ⟨a,vs,rfl,ha,h1,h2,h3⟩
def EY {H:Hp}{a:Addr}{ks:Ae}{vs:List V}{z:Str}(h:H a=some (.dK (kz ks vs))):eD H a (.str z) ((ks.zip vs).lookup z):=by
 have g:=eD.k (k:=Sum.inr z) h
 rw [AK] at g
 exact g
def zH (hu:X.A.units+200<cLine):lU X zp:=by
 obtain ⟨r,h1,h2⟩:=Po (X:=X)
 refine ⟨_,h1.or (QI (by omega)),fun ρ H st x y v w Q E s rx ry h=>?_⟩
 by_cases hx:∃n z,x=.ref n/\y=.str z
 ·obtain ⟨n,z,rfl,rfl⟩:=hx
  obtain ⟨ks,xs,e,h⟩:=tE (show Out X.K X.mg ρ H (yW st n λks xs=>cD ((ks.zip xs).lookup z) st) (gV X.K X.mg Q) E from h)
  obtain ⟨q,hq,h⟩:=lW h
  obtain ⟨a,vs,rfl,_,k1,k2,_⟩:=R.refD s rx e
  cases ry
  obtain ⟨v,hv,rv⟩:=oS k2 hq
  refine .inr ⟨a,v,rfl,?_,h.now s _ rv⟩
  have g:=EY (z:=z) k1
  rw [hv] at g
  exact g
 ·refine .inl (h2 ρ H st x y v w Q E s rx ry ?_)
  have:zp x y st=xX x y st:=by
   unfold zp
   split
   ·rename_i n z;exact absurd ⟨n,z,rfl,rfl⟩ hx
   ·rfl
  rw [this] at h
  exact h
def wB (z x:PV):PV->Mo Unit
 | .ref n,st=>match z with
  |.str z=>yW st n λks xs=>if ks.length<lim then .ok () (st.set n (.dic (jK z x ks xs).1 (jK z x ks xs).2)) else .stuck
  |_=>.stuck
 |_,_=>.stuck
def je (fo fi fv:Aj):Ak:=λenv st=>(fv env st).bind λx ae=>(fo env ae).bind λo aQ=>(fi env aQ).bind λz bq=>(wB z x o bq).bind λ_ eL=>.ok (.nx env) eL
def wV {i value:Expr}{fi fv:Aj}(hu:X.A.units+200<cLine) (ho:ME X Er o fo) (hi:ME X Er i fi) (hv:ME X Er value fv) (hs:swapsWith value (some (.Subscript o i pos')) pos.line X.env=pure false:=by rfl):MS X Er (.Assign [.Subscript o i pos'] value pos) (je fo fi fv) :=
 PS.weak (Od (by omega) ho hi hv hs) λD σ H ⟨env,st,ρ,re,rs,h⟩=>⟨env,st,ρ,re,rs,h.then λah H1 x ae e1 s1 h1 v rv=>⟨env,ae,ah,re.ext e1,s1,h1.then λaq H2 y aQ e2 s2 h2 w rw=>⟨env,aQ,aq,(re.ext e1).ext e2,s2,h2.then λao H3 zz bq e3 s3 h3 u ru=>by
  cases y with
  |ref n =>
   cases zz with
   |str z =>
    cases hn:bq[n]? with
    |none=>simp only [wB,yW,hn] at h3;exact h3.elim
    |some so =>
     cases so with
     |lst _=>simp only [wB,yW,hn] at h3;exact h3.elim
     |ins _ _ _=>simp only [wB,yW,hn] at h3;exact h3.elim
     |fdi _ _=>simp only [wB,yW,hn] at h3;exact h3.elim
     |dit _ _=>simp only [wB,yW,hn] at h3;exact h3.elim
     |dic ks xs =>
      simp only [wB,yW,hn] at h3
      by_cases hc:ks.length<lim
      ·rw [zx hc] at h3
       obtain ⟨a,vs,e4,ha,k1,k2,k3⟩:=R.refD s3 (R.ext e3 _ rw) hn
       subst e4
       cases ru
       obtain ⟨ws,q1,q2,q3⟩:=EX (z:=z) (R.ext e3 x (R.ext e2 x rv)) k3 k2
       have hlen:(kz ks vs).length<sizeLine:=by
        have:(kz ks vs).length=ks.length:=by simp [kz,k3]
        rw [this,sizeLine_eq]
        have:ks.length<1000000:=hc
        omega
       have g:=fE.k (k:=Sum.inr z) (v:=v) k1 hlen
       have ew:Ext ao H3 ao (upd H3 a (.dK (L2.putK (kz ks vs) (Sum.inr z) v))):=Ext.write k1 rfl
       refine ⟨a,_,rfl,g,h3 ao _ ew (s3.write ha ew ⟨ws,by rw [yZ,q1],Rs.ext ew _ q2,q3⟩) σ ((((re.ext e1).ext e2).ext e3).ext ew)⟩
      ·rw [zK hc] at h3;exact h3.elim
   |_=>exact h3.elim
  |_=>exact h3.elim⟩⟩⟩
end
open Classical in
def dZ (K:Frag) (mg:Ab) (ρ:Af) (H:Hp) (ys:Aq) (x:PV) (u:Value):Bool:=decide (∃y v,y∈ys/\R K mg ρ H y v/\RelV v u/\bY y x=true)
section
variable {X:Cx} {K:Frag} {mg:Ab} {ρ:Af} {pins:Ac} {σ:L2.St} {H:Hp} {s:Shared}
def okIn (x:PV) (ys:Aq):Prop:=Mi.plain x=true/\cg ys=true/\eE ys<=150
instance (x:PV) (ys:Aq):Decidable (okIn x ys):=by unfold okIn;infer_instance
theorem Rs.mem:∀{xs:Aq}{vs:List V}{us:Ag}{u:Value},Rs K mg ρ H xs vs->Vals vs us->u∈us->∃y v,y∈xs/\R K mg ρ H y v/\RelV v u
 |[],_,_,_,h,hv,hu=>by cases h;cases hv;cases hu
 |x::xs,_,_,u,h,hv,hu=>by
  obtain ⟨v,r,rfl,h1,h2⟩:=h
  cases hv with
  |cons r1 r2 =>
   rcases yI.mp hu with rfl|hu
   ·exact ⟨x,v,by simp,h1,r1⟩
   ·obtain ⟨y,w,q1,q2,q3⟩:=Rs.mem h2 r2 hu
    exact ⟨y,w,by simp [q1],q2,q3⟩
theorem Rs.mem':∀{xs:Aq}{vs:List V}{us:Ag}{y:PV},Rs K mg ρ H xs vs->Vals vs us->y∈xs->∃u v,u∈us/\R K mg ρ H y v/\RelV v u
 |[],_,_,_,_,_,hy=>by cases hy
 |x::xs,_,_,y,h,hv,hy=>by
  obtain ⟨v,r,rfl,h1,h2⟩:=h
  cases hv with
  |cons r1 r2 =>
   rcases yI.mp hy with rfl|hy
   ·exact ⟨_,v,by simp,h1,r1⟩
   ·obtain ⟨u,w,q1,q2,q3⟩:=Rs.mem' h2 r2 hy
    exact ⟨u,w,by simp [q1],q2,q3⟩
def QJ {ys:Aq}{y:PV}(h:cg ys=true) (hy:y∈ys):Mi.plain y=true:=by
 obtain ⟨i,hi⟩:=List.getElem?_of_mem hy
 exact tJ h hi
def QK {ys:Aq}{y:PV}(hy:y∈ys):dep y<=eE ys:=by
 obtain ⟨i,hi⟩:=List.getElem?_of_mem hy
 exact xY hi
open Classical in
def uc (I:Inv X pins σ H s) {A:Around}(hu:A.units+200<cLine) {ys:Aq}{vs:List V}{us:Ag}{x:PV}{w:V}{v:Value}(ok:okIn x ys) (ry:Rs X.K mg ρ H ys vs) (rv:Vals vs us) (rx:R X.K mg ρ H x w) (rw:RelV w v) :
  (∀u∈us,SeqAt.EqAt A.in1 s u v (dZ X.K mg ρ H ys x u))/\us.any (dZ X.K mg ρ H ys x)=ys.any λy=>bY y x:=by
 obtain ⟨px,py,hd⟩:=ok
 have one:∀y v' u,y∈ys->R X.K mg ρ H y v'->RelV v' u->SeqAt.EqAt A.in1 s u v (bY y x):=λy v' u hy r1 r2 =>
  (xZ I 150 y x A.in1 (jv (QK hy) hd) (QJ py hy) px r1 rx r2 rw (by rw [tK];omega)).1
 refine ⟨λu EZ=>?_,?_⟩
 ·obtain ⟨y,v',q1,q2,q3⟩:=Rs.mem ry rv EZ
  by_cases h:∃y v,y∈ys/\R X.K mg ρ H y v/\RelV v u/\bY y x=true
  ·have e:dZ X.K mg ρ H ys x u=true:=by simpa [dZ] using h
   obtain ⟨y2,v2,z1,z2,z3,z4⟩:=h
   rw [e,<-z4]
   exact one y2 v2 u z1 z2 z3
  ·have e:dZ X.K mg ρ H ys x u=false:=by unfold dZ;exact jp h
   rw [e]
   have:bY y x=false:=by
    cases hq:bY y x with
    |false=>rfl
    |true=>exact absurd ⟨y,v',q1,q2,q3,hq⟩ h
   rw [<-this]
   exact one y v' u q1 q2 q3
 ·rw [Bool.eq_iff_iff]
  simp only [List.any_eq_true]
  constructor
  ·rintro ⟨u,EZ,he⟩
   have h:∃y v,y∈ys/\R X.K mg ρ H y v/\RelV v u/\bY y x=true:=by unfold dZ at he;exact of_decide_eq_true he
   obtain ⟨y,v',z1,_,_,z4⟩:=h
   exact ⟨y,z1,z4⟩
  ·rintro ⟨y,hy,he⟩
   obtain ⟨u,v',q1,q2,q3⟩:=Rs.mem' ry rv hy
   exact ⟨u,q1,by unfold dZ;exact jV ⟨y,v',hy,q2,q3,he⟩⟩
def yq (neg:Bool):Ao
 |x,.tup ys,st=>if okIn x ys then .ok (.bl (neg.xor (ys.any λy=>bY y x))) st else .stuck
 |x,.frl ys,st=>if okIn x ys then .ok (.bl (neg.xor (ys.any λy=>bY y x))) st else .stuck
 | x,.ref n,st=>match st[n]?,x with
  |some (.lst ys),x=>if okIn x ys then .ok (.bl (neg.xor (ys.any λy=>bY y x))) st else .stuck
  |some (.dic ks xs),.str z=>.ok (.bl (neg.xor ((ks.zip xs).lookup z).isSome)) st
  |_,_=>.stuck
 |.str ⟨⟨[c]⟩⟩,.str z,st=>.ok (.bl (neg.xor (decide (c∈z.cps.toList)))) st
 |_,_,_=>.stuck
def AL (K:Frag) (mg:Ab) (neg:Bool):R2:=λv w H Q =>
 (∃ρ x ys vs p,okIn x ys/\w=.ref p/\(bE K H p vs\/bD K H p vs)/\Rs K mg ρ H ys vs/\R K mg ρ H x v/\Q (.bl (neg.xor (ys.any λy=>bY y x))) H) \/
 (∃p o,w=.ref p/\eD H p v o/\Q (.bl (neg.xor o.isSome)) H)\/∃(c:Nat) (z:Str),v=.str ⟨#[c]⟩/\w=.str z/\Q (.bl (neg.xor (decide (c∈z.cps.toList)))) H
def QL (hu:X.A.units+200<cLine):bz X (compareOp .In) (AL X.K X.mg false):=by
 intro pins s σ H x y v u Q I rx ry h
 rcases h with ⟨ρ,a,ys,vs,p,ok,rfl,hq,qG,ra,q⟩|⟨p,o,rfl,g,q⟩|⟨c,z,rfl,rfl,q⟩
 ·obtain rfl:u=Value.ref p:=ry
  rcases hq with hq|hq
  ·obtain ⟨its,r,pl,_⟩:=I.list hq
   obtain ⟨f1,f2⟩:=uc I hu ok qG r ra rx
   refine SeqAt.in_listAt (dZ X.K X.mg ρ H ys a) pl.isList (λw hw=>f1 w (by simpa using hw)) ⟨.bl _,H,I,rfl,?_⟩
   rw [show its.toArray.any (dZ X.K X.mg ρ H ys a)=its.any (dZ X.K X.mg ρ H ys a) by simp,f2]
   simpa using q
  ·obtain ⟨its,r,pl,_⟩:=I.tuple hq
   obtain ⟨f1,f2⟩:=uc I hu ok qG r ra rx
   refine SeqAt.in_tupleAt (dZ X.K X.mg ρ H ys a) pl (λw hw=>f1 w (by simpa using hw)) ⟨.bl _,H,I,rfl,?_⟩
   rw [show its.toArray.any (dZ X.K X.mg ρ H ys a)=its.any (dZ X.K X.mg ρ H ys a) by simp,f2]
   simpa using q
 ·obtain rfl:u=Value.ref p:=ry
  exact N7 (by omega) I g rx λs' I'=>⟨.bl o.isSome,H,I',rfl,by simpa using q⟩
 ·exact N4 pins s σ H _ _ v u Q I rx ry ⟨c,z,rfl,rfl,by simpa using q⟩
def QM (hu:X.A.units+200<cLine):bz X (compareOp .NotIn) (AL X.K X.mg true):=by
 intro pins s σ H x y v u Q I rx ry h
 rcases h with ⟨ρ,a,ys,vs,p,ok,rfl,hq,qG,ra,q⟩|⟨p,o,rfl,g,q⟩|⟨c,z,rfl,rfl,q⟩
 ·obtain rfl:u=Value.ref p:=ry
  rcases hq with hq|hq
  ·obtain ⟨its,r,pl,_⟩:=I.list hq
   obtain ⟨f1,f2⟩:=uc I hu ok qG r ra rx
   refine SeqAt.notIn_listAt (dZ X.K X.mg ρ H ys a) pl.isList (λw hw=>f1 w (by simpa using hw)) ⟨.bl _,H,I,rfl,?_⟩
   rw [show its.toArray.any (dZ X.K X.mg ρ H ys a)=its.any (dZ X.K X.mg ρ H ys a) by simp,f2]
   simpa using q
  ·obtain ⟨its,r,pl,_⟩:=I.tuple hq
   obtain ⟨f1,f2⟩:=uc I hu ok qG r ra rx
   refine SeqAt.notIn_tupleAt (dZ X.K X.mg ρ H ys a) pl (λw hw=>f1 w (by simpa using hw)) ⟨.bl _,H,I,rfl,?_⟩
   rw [show its.toArray.any (dZ X.K X.mg ρ H ys a)=its.any (dZ X.K X.mg ρ H ys a) by simp,f2]
   simpa using q
 ·obtain rfl:u=Value.ref p:=ry
  exact N8 (by omega) I g rx λs' I'=>⟨.bl (!o.isSome),H,I',rfl,by simpa using q⟩
 ·refine L2.zod pins s σ H _ _ v u Q I rx ry ⟨_,_,rfl,rfl,?_⟩
  rw [StrLaws.found_one]
  simpa using q
def E_ {neg:Bool}:eJ K mg (AL K mg neg) (yq neg):=by
 intro ρ H st x y v w Q E s rx ry h
 cases y with
 |tup ys =>
  obtain ⟨p,vs,rfl,k1,k2⟩:=ry
  obtain ⟨ok,h⟩:=Out.ifp (show Out K mg ρ H (if okIn x ys then .ok (.bl (neg.xor (ys.any λy=>bY y x))) st else .stuck) (gV K mg Q) E from by cases x<;>exact h)
  exact .inl ⟨ρ,x,ys,vs,p,ok,rfl,.inr k1,k2,rx,h.now s _ rfl⟩
 |frl ys =>
  obtain ⟨p,vs,rfl,k1,k2⟩:=ry
  obtain ⟨ok,h⟩:=Out.ifp (show Out K mg ρ H (if okIn x ys then .ok (.bl (neg.xor (ys.any λy=>bY y x))) st else .stuck) (gV K mg Q) E from by cases x<;>exact h)
  exact .inl ⟨ρ,x,ys,vs,p,ok,rfl,.inl k1.sq,k2,rx,h.now s _ rfl⟩
 |ref n =>
  cases hn:st[n]? with
  |none=>exfalso;cases x<;>(simp only [yq,hn] at h;exact h)
  |some so =>
   cases so with
   |lst ys =>
    obtain ⟨p,vs,rfl,_,k1,k2⟩:=R.refL s ry hn
    obtain ⟨ok,h⟩:=Out.ifp (show Out K mg ρ H (if okIn x ys then .ok (.bl (neg.xor (ys.any λy=>bY y x))) st else .stuck) (gV K mg Q) E from by cases x<;>(simp only [yq,hn] at h;exact h))
    exact .inl ⟨ρ,x,ys,vs,p,ok,rfl,.inl (bE.of k1),k2,rx,h.now s _ rfl⟩
   |dic ks xs =>
    obtain ⟨p,vs,rfl,_,k1,k2,k3⟩:=R.refD s ry hn
    cases x with
    |str z =>
     simp only [yq,hn] at h
     cases rx
     refine .inr (.inl ⟨p,_,rfl,EY k1,?_⟩)
     have e:((ks.zip vs).lookup z).isSome=((ks.zip xs).lookup z).isSome:=by
      cases hq:(ks.zip xs).lookup z with
      |some q=>obtain ⟨v,hv,_⟩:=oS k2 hq;rw [hv];rfl
      |none =>
       have:z∉ks:=by
        intro hz
        obtain ⟨i,hi⟩:=List.getElem?_of_mem hz
        have hl:i<xs.length:=by rw [k2.len,<-k3];exact (yt.mp hi).1
        have:=List.lookup_eq_none_iff.mp hq (z,xs[i]) (List.mem_iff_getElem?.mpr ⟨i,by simp [List.getElem?_zip_eq_some,hi,hl]⟩)
        simp at this
       rw [tP this];rfl
     rw [e]
     exact h.now s _ rfl
    |_=>simp only [yq,hn] at h;exact h.elim
   |ins c ks xs=>exfalso;cases x<;>(simp only [yq,hn] at h;exact h)
   |fdi ks xs=>exfalso;cases x<;>(simp only [yq,hn] at h;exact h)
   |dit ks xs=>exfalso;cases x<;>(simp only [yq,hn] at h;exact h)
 |str z =>
  cases x with
  |str q =>
   obtain ⟨⟨l⟩⟩:=q
   match l,rx,h with
   |[c],rx,h=>cases rx;cases ry;exact .inr (.inr ⟨c,z,rfl,rfl,Out.now (x:=PV.bl _) h s _ rfl⟩)
   |[],rx,h=>exact h.elim
   |_::_::_,rx,h=>exact h.elim
  |_=>exact h.elim
 |non=>exfalso;cases x<;>exact h
 |bl _=>exfalso;cases x<;>exact h
 |int _=>exfalso;cases x<;>exact h
 |ty _=>exfalso;cases x<;>exact h
 |fn _=>exfalso;cases x<;>exact h
 |kd _ _=>exfalso;cases x<;>exact h
 |exo _ _ _=>exfalso;cases x<;>exact h
def zcy (hu:X.A.units+200<cLine):cf X .In (yq false):=⟨_,QL hu,E_⟩
def zbO (hu:X.A.units+200<cLine):cf X .NotIn (yq true):=⟨_,QM hu,E_⟩
abbrev AQ:=opI c0 λi j=>Builtin.bitAnd i j
abbrev nA:=opI c0 λi j=>Builtin.bitOr i j
abbrev AR:=opI gy λi j=>i*2 ^ j.toNat
abbrev qH:Int->Int->Bool:=λ_ j=>decide (0<=j)
abbrev AU:=opI qH λi j=>i/2 ^ j.toNat
def zqP:dn X .BitAnd AQ:=⟨_,xS Mp,kH λ_ _ _=>trivial⟩
def zfw:dn X .BitOr nA:=⟨_,xS Mq,kH λ_ _ _=>trivial⟩
def zqQ:dn X .LShift AR:=⟨_,Mm,kH λi j h=>by simp [gy] at h;exact ⟨h.1.1,h.1.2,h.2⟩⟩
def zqR:dn X .RShift AU:=⟨_,Mn,kH λi j h=>by simpa [qH] using h⟩
end
section
variable {X:Cx} {Er:XK} {pos:Pos}
abbrev XN:XK:=λ_ _ _=>False
def zaE:wy X XN:=λ_ _ _ _ _ _ _ _ _ q=>q.elim
def dq (fe:Aj) (env:zf):List PV->An
 |[],ys,st=>.ok (.ref st.length) (st++[.lst ys])
 |x::xs,ys,st=>(de (fe (some x::env) st)).bind λy ae=>dq fe env xs (ys++[y]) ae
def fI (fe:Aj) (env:zf) (n:Nat):Nat->Nat->An
 |0,_,_,_=>.stuck
 | m+1,i,ys,st=>yl st n λxs=>match xs[i]? with
  |none=>.ok (.ref st.length) (st++[.lst ys])
  |some x=>(de (fe (some x::env) st)).bind λy ae=>fI fe env n m (i+1) (ys++[y]) ae
def gk (fe:Aj) (env:zf):Sq->Mo PV
 |.im xs,st=>if xs.length<=lim then dq fe env xs [] st else .stuck
 |.rf n,st=>fI fe env n (lim+1) 0 [] st
def jk (src:zf->Mo Sq) (fe:Aj):Aj:=λenv st=>(src env st).bind λq ae=>gk fe env q ae
theorem Rs.snoc {K:Frag}{mg:Ab}{ρ:Af}{H:Hp}{x:PV}{v:V}(r:R K mg ρ H x v):∀{xs:Aq}{vs:List V},Rs K mg ρ H xs vs->Rs K mg ρ H (xs++[x]) (vs++[v])
 |[],_,h=>by cases h;exact ⟨v,[],rfl,r,rfl⟩
 |y::xs,_,h=>by
  obtain ⟨w,q,rfl,h1,h2⟩:=h
  exact ⟨w,q++[v],rfl,h1,Rs.snoc r h2⟩
def Fb {elt iter:Expr} {x:Str} {px:Pos} {scope:Scope} {src:zf->Mo Sq} {fe:Aj} {M:Ae} (hc:X.calm=true) (S:dP X.env.scope scope x) (eN:Hid scope M X.N) (dc:((".0" : Str)::x::M).Nodup)
  (hi:MI X Er (.Name x px) iter src) (he:∀cl C ag ai fp,ME (lJ X M scope cl x C ag ai fp (λ_ _=>False)) XN elt fe)
  (hs:∀v,foldedSetIterable iter X.env v=pure v:=by intro _;rfl):ME X Er (.ListComp elt [⟨.Name x px,iter,[],0⟩] scope pos) (jk src fe) :=
 PE.weak (NZ (te:=tM X.K X.mg XN fe) hc S eN dc hi (λcl C ag ai fp=>he cl C ag ai fp) hs) fun σ H Q ⟨env,st,ρ,re,rs,h⟩=>⟨env,st,ρ,re,rs,h.then λau H0 q cW e0 s0 h0 J wk=>by
  cases q with
  |im xs =>
   obtain ⟨hl,h0⟩:=Out.ifp h0
   obtain ⟨w1,w2,w3⟩:=wk
   refine ⟨λi m ys H=>m=xs.length-i/\i<=xs.length/\ys.length=i/\∃ps st ρ,Rs X.K X.mg ρ H ps ys/\bu X.K X.mg ρ H st/\Ext au H0 ρ H/\Out X.K X.mg ρ H (dq fe env (xs.drop i) ps st) (gV X.K X.mg Q) Er,⟨xs.length,by simp,jw _,rfl,[],cW,au,rfl,s0,Ext.refl,h0⟩,?_⟩
   rintro i m ys H ⟨rfl,hi,hy,ps,st,ρ,dh,rs,ex,h⟩
   by_cases bO:i<xs.length
   ·refine .inr ⟨w1 i ρ H ex bO,y0 (by omega),λv H' y=>?_⟩
    obtain ⟨x,hx,cz,s2,rx⟩:=w3 i ρ H st v H' ex rs bO y
    have hd:xs.drop i=x::xs.drop (i+1):=by
     rw [we bO]
     have:=(yt.mp hx).2
     rw [this]
    rw [hd] at h
    simp only [dq] at h
    refine ⟨some x::env,st,ρ,(re.ext (e0.trans (ex.trans cz))).cons rx,s2,wU (Out.ext h cz) λao H3 y bq e3 s3 h3 v ry=>⟨xs.length-(i+1),by omega,rfl,bO,by simp [hy],ps++[y],bq,ao,Rs.snoc ry (Rs.ext (cz.trans e3) ps dh),s3,(ex.trans cz).trans e3,h3⟩⟩
   ·have e:i=xs.length:=by omega
    subst e
    rw [List.drop_length] at h
    exact .inl ⟨w2 _ ρ H ex (yf _),y0 (by omega),λl hl=>Out.newList h rs dh hl⟩
  |rf n =>
   obtain ⟨a,ha,rfl⟩:=wk
   refine ⟨λi m ys H=>m+i=lim+1/\ys.length=i/\∃ps st ρ,Rs X.K X.mg ρ H ps ys/\bu X.K X.mg ρ H st/\Ext au H0 ρ H/\ρ[n]?=some a/\Out X.K X.mg ρ H (fI fe env n m i ps st) (gV X.K X.mg Q) Er,⟨lim+1,rfl,rfl,[],cW,au,rfl,s0,Ext.refl,ha,h0⟩,?_⟩
   rintro i m ys H ⟨hm,hy,ps,st,ρ,dh,rs,ex,ha,h⟩
   cases m with
   |zero=>exact h.elim
   |succ m =>
    obtain ⟨xs,hn,h⟩:=jX h
    obtain ⟨vs,hH,hR⟩:=rs.addr hn ha
    cases hx:xs[i]? with
    |none =>
     simp only [hx] at h
     have:vs.length<=i:=by rw [<-hR.len];exact oj.mp hx
     exact .inl ⟨⟨vs,bE.of hH,this⟩,y0 (by omega),λl hl=>Out.newList h rs dh hl⟩
    |some x =>
     simp only [hx] at h
     obtain ⟨v,hv,rv⟩:=hR.get hx
     refine .inr ⟨⟨vs,v,bE.of hH,hv⟩,y0 (by omega),λv' H' y=>?_⟩
     obtain ⟨e1,y⟩:=y
     subst e1
     have e2:=y vs (bE.of hH)
     rw [hv] at e2
     cases e2
     exact ⟨some x::env,st,ρ,(re.ext (e0.trans ex)).cons rv,rs,wU h λao H3 y bq e3 s3 h3 v ry=>⟨m,wg m,by omega,by simp [hy],ps++[y],bq,ao,Rs.snoc ry (Rs.ext e3 ps dh),s3,ex.trans e3,e3.get ha,h3⟩⟩⟩
def nB {elt iter:Expr} {x:Str} {px:Pos} {scope:Scope} {src:zf->Mo Sq} {fe:Aj} {N:Ae} (hc:X.calm=true) (S:dP X.env.scope scope x) (eN:X.N=N) (dc:((".0" : Str)::x::N).Nodup)
  (hi:MI X Er (.Name x px) iter src) (he:∀cl C ag ai fp,ME (DQ X scope cl x C ag ai fp (λ_ _=>False)) XN elt fe)
  (hs:∀v,foldedSetIterable iter X.env v=pure v:=by intro _;rfl):ME X Er (.ListComp elt [⟨.Name x px,iter,[],0⟩] scope pos) (jk src fe) :=
 Fb hc S Hid.refl (eN▸dc) hi he hs
end
section
variable {env:Env} {es:List Expr} {pos:Pos}
abbrev Fc (e:Expr) (es:List Expr) (env:Env):Prop:=starEach (e::es) env=(false,eval e env)::starEach es env
def QN {c j}:Fc (.Constant c j pos) es env:=(rfl)
end
end Mi
namespace L2
open PySem PySem.Spec PyProof.Rows PySem.W
abbrev ZB (h:Heap) (z TI TO T:Addr) (f:Bool):Prop:=h.get? z=some { cls:=.type "zip", dict:=none,data:=.fields #[rawInt T,.bool f,.bool false,.ref TI,.ref TO],slots:=#[] }
structure ZS (z TI TO i1 i2 a b:Addr) (xs ys:Array Value) (k:Nat) (h:Heap):Prop where
 zi:(IsZip h z TI TO .none/\∃u v,IsPair h TO u v)\/∃T f o,ZB h z TI TO T f/\h.get? T=some o
 ti:IsPair h TI (.ref i1) (.ref i2)
 s1:qw i1 a xs k h
 s2:qw i2 b ys k h
section
variable {s:Shared} {z TI TO i1 i2 a b:Addr} {k:Nat} {xs ys:Array Value}
def ZS.type (st:ZS z TI TO i1 i2 a b xs ys k s.heap):s.TypeIs (.ref z) "zip" := by
 rcases st.zi with ⟨hz,_⟩|⟨T,f,o,hz,_⟩<;>exact ⟨_,hz,rfl⟩
end
structure Ap (d z TI TO i1 i2 a b:Addr):Prop where
 z:d≠z
 TI:d≠TI
 TO:d≠TO
 i1:d≠i1
 i2:d≠i2
 a:d≠a
 b:d≠b
section
variable {z TI TO i1 i2 a b d:Addr} {xs ys:Array Value}
def ZS.keep {k:Nat}{h h':Heap}(st:ZS z TI TO i1 i2 a b xs ys k h) (P:Ap d z TI TO i1 i2 a b) (hs:Heap.SameBut d h h') (hd:∃o,h'.get? d=some o):ZS z TI TO i1 i2 a b xs ys k h':=by
 have up:∀c o,c≠d->h.get? c=some o->h'.get? c=some o:=λc o n e=>hs.extBut _ _ n e
 obtain ⟨⟨⟨o1,g1,r1⟩,⟨p1,e1,t1⟩⟩,⟨⟨o2,g2,r2⟩,⟨p2,e2,t2⟩⟩⟩:=And.intro st.s1 st.s2
 refine ⟨?_,up _ _ P.TI.symm st.ti,⟨⟨o1,up _ _ P.i1.symm g1,r1⟩,⟨p1,up _ _ P.a.symm e1,t1⟩⟩,⟨⟨o2,up _ _ P.i2.symm g2,r2⟩,⟨p2,up _ _ P.b.symm e2,t2⟩⟩⟩
 rcases st.zi with ⟨hz,u,v,fy⟩|⟨T,f,o,hz,hT⟩
 ·exact .inl ⟨up _ _ P.z.symm hz,u,v,up _ _ P.TO.symm fy⟩
 ·by_cases e:T=d
  ·obtain ⟨o',ho'⟩:=hd
   exact .inr ⟨T,f,o',up _ _ P.z.symm hz,by rw [e];exact ho'⟩
  ·exact .inr ⟨T,f,o,up _ _ P.z.symm hz,up _ _ e hT⟩
end
section
variable {z TI TO i1 i2 a b:Addr} {xs ys:Array Value}
def ZS.push {k:Nat}{h h':Heap}(st:ZS z TI TO i1 i2 a b xs ys k h) (up:∀c o,h.get? c=some o->h'.get? c=some o):ZS z TI TO i1 i2 a b xs ys k h':=by
 obtain ⟨⟨⟨o1,g1,r1⟩,⟨p1,e1,t1⟩⟩,⟨⟨o2,g2,r2⟩,⟨p2,e2,t2⟩⟩⟩:=And.intro st.s1 st.s2
 refine ⟨?_,up _ _ st.ti,⟨⟨o1,up _ _ g1,r1⟩,⟨p1,up _ _ e1,t1⟩⟩,⟨⟨o2,up _ _ g2,r2⟩,⟨p2,up _ _ e2,t2⟩⟩⟩
 rcases st.zi with ⟨hz,u,v,fy⟩|⟨T,f,o,hz,hT⟩
 ·exact .inl ⟨up _ _ hz,u,v,up _ _ fy⟩
 ·exact .inr ⟨T,f,o,up _ _ hz,up _ _ hT⟩
end
end L2
namespace Mi
open PySem L2 PySem.W PySem.Spec
section
variable {K:Frag} {mg:Ab} {e:Expr}
def strsOf:List PV->Option (Ae)
 |[]=>some []
 |.str z::r=>(strsOf r).map (z::·)
 |_::_=>none
theorem Fd {ρ:Af}{H:Hp}:∀{xs:Aq}{zs:Ae}{vs:List V},strsOf xs=some zs->Rs K mg ρ H xs vs->vs=(zs.map Sum.inr:List Key).map kV
 |[],zs,vs,e,h=>by cases e;cases h;rfl
 |.str z::r,zs,vs,e,h=>by
  simp only [strsOf,Option.map_eq_some_iff] at e
  obtain ⟨zr,e1,rfl⟩:=e
  obtain ⟨v,r',rfl,h1,h2⟩:=h
  cases h1
  rw [Fd e1 h2]
  rfl
 |.non::_,_,_,e,_=>by cases e
 |.bl _::_,_,_,e,_=>by cases e
 |.int _::_,_,_,e,_=>by cases e
 |.ty _::_,_,_,e,_=>by cases e
 |.tup _::_,_,_,e,_=>by cases e
 |.frl _::_,_,_,e,_=>by cases e
 |.ref _::_,_,_,e,_=>by cases e
 |.fn _::_,_,_,e,_=>by cases e
 |.kd _ _::_,_,_,e,_=>by cases e
 |.exo _ _ _::_,_,_,e,_=>by cases e
end
end Mi
namespace L2
open PySem PySem.Spec PyProof.Rows PySem.W
def Fe (K:Frag) (a:Addr):It :=
 ⟨λi H=>∃xs x,bE K H a xs/\xs[i]?=some x,
  λi H v H'=>∃T x,H T=none/\v=.ref T/\H'=upd H T (.tup [.int i,x])/\∀xs,bE K H a xs->xs[i]?=some x,
  λi H=>∃xs,bE K H a xs/\xs.length<=i⟩
def QO (e it a:Addr) (k:Nat) (h:Heap):Prop:=(∃old,IsEnum h e it k old)/\h.IsListIter it a k
def QP {X:Cx}{pins:Ac}{σ:St}{H:Hp}{s:Shared}{a c:Addr}{xs:List V}(I:Inv X pins σ H s) (hf:dy X pins H c) (hq:bE X.K H a xs):a≠c:=by
 rintro rfl
 rcases hq with q|⟨o,its,n,hl,_⟩
 ·rcases q with q|⟨ob,q⟩<;>(rw [hf.1] at q;cases q)
 ·have e:=I.ok.mod.kin _ _ hl
  rcases hf.2.2.2.1 with z|z
  ·exact I.ok.noex _ _ e z
  ·exact absurd (jM (yn (I.ok.bs _ _ e).1) z) (Nat.lt_irrefl _)
def QQ {P:Program}{w:World}{K:Frag}{elts:List Expr}{kt:Nat}{pos:Pos}{e it a:Addr}(ne:e≠it):Turn P w K (.Tuple elts kt pos) (Fe K a) [e,it] e (QO e it a) where
 mem:=by simp
 obj:=λi h st c hc=>by
  obtain ⟨⟨old,he⟩,⟨o1,e1,_,d1⟩⟩:=st
  simp only [yI,List.not_mem_nil,kg] at hc
  rcases hc with q|q<;>rw [q]
  ·exact ⟨_,he,λv z=>by cases z⟩
  ·exact ⟨_,e1,λv z=>by rw [d1] at z;cases z⟩
 keep:=λi h h' st k=>by
  obtain ⟨⟨old,he⟩,⟨o1,e1,r1⟩⟩:=st
  exact ⟨⟨old,k e (by simp) _ he⟩,⟨o1,k it (by simp) _ e1,r1⟩⟩
 item:=by
  intro X hP hw hK hc i pins s σ H E I hf st hg
  subst hP hw hK
  obtain ⟨xs,x,hq,hx⟩:=hg
  obtain ⟨⟨old,he⟩,hit⟩:=st
  obtain ⟨its,rv,p,hz⟩:=I.list hq
  obtain ⟨u,hu,ru⟩:=rv.get hx
  have n1:∀c∈[e,it],a≠c:=λc h=>QP I (hf c h) hq
  refine wpAny_pyNext_enum_item he hit p.isList (x:=u) (by simpa using hu) ne λh1 eo qI pT hsz kk=>⟨_,rfl,?_⟩
  refine wpAny_letOwnedTupleGo_enum (s:={ s with heap:=h1,toks:=s.toks+1 }) eo λh2 e2 sb=>?_
  have fr:H s.heap.objs.size=none:=I.hok.fresh (yf _)
  have up:∀c o,c≠e->h1.get? c=some o->h2.get? c=some o:=λc o n q=>sb.extBut _ _ n q
  have nz:s.heap.objs.size≠e:=Nat.ne_of_gt (yn he)
  have k2:∀c o,c∉[e,it]->s.heap.get? c=some o->h2.get? c=some o:=λc o nc q=>up c o (λz=>nc (by simp [z])) (kk c o (λz=>nc (by simp [z])) (λz=>nc (by simp [z])) q)
  refine ⟨.ref s.heap.objs.size,upd H s.heap.objs.size (.tup [.int i,x]),?_,rfl,⟨s.heap.objs.size,x,fr,rfl,rfl,λys hy=>by rw [I.list_inj hy hq];exact hx⟩,?_,λc dv=>?_⟩
  ·exact Inv.turnN (s:=s) (h':=h2) (t':=s.toks+1) I hf k2 (yf _) ⟨show 2<=sizeLine by decide,[.int i s.toks,u],.cons ⟨_,rfl⟩ (.cons ru .nil),_,up _ _ nz pT,rfl,_,rfl⟩
  ·refine ⟨⟨u,by rw [show ((i+1:Nat):Int)=(i:Int)+1 from rfl];exact e2⟩,let ⟨o,q,r⟩:=qI;⟨o,up _ _ ne.symm q,r⟩⟩
  ·have lt:∃o,s.heap.get? c=some o:=by
    simp only [yI,List.not_mem_nil,kg] at dv
    rcases dv with q|q<;>rw [q]
    ·exact ⟨_,he⟩
    ·exact let ⟨o,q,_⟩:=hit;⟨o,q⟩
   obtain ⟨o,q⟩:=lt
   have z:c≠s.heap.objs.size:=yN (yn q)
   rw [yo z]
   exact (hf c dv).1
 done:=by
  intro X hP hw hK hc i pins s σ H E I hf st hg
  subst hP hw hK
  obtain ⟨xs,hq,hx⟩:=hg
  obtain ⟨⟨old,he⟩,hit⟩:=st
  obtain ⟨its,rv,p,hz⟩:=I.list hq
  have hl:=rv.length
  refine wpAny_pyNext_enum_end (I.ok.hd hc) he hit p.isList (by simp;omega) λh' eb=>⟨rfl,?_⟩
  exact Inv.turnL (ch:=[e,it]) (t':=s.toks) I hf λc o nc q=>eb c o (λz=>nc (by simp [z])) q
 self:=λ_ _ _ _ _ st h=>by
  obtain ⟨⟨old,he⟩,_⟩:=st
  exact wpAny_pyIter_enum he h
def Ff:bootBuiltins "enumerate" = some (.type "enumerate"):=by decide +kernel
def QR (K:Frag) (ta:TA):TI:=fun σ H R=>ta σ H λvs H1=>∃a,vs=[.ref a]/\(∃xs,bE K H1 a xs)/\R (Fe K a) H1
def QS {X:Cx} {elts:List Expr} {kt:Nat} {tp:Pos} {x:Expr} {ta:TA} {p pos:Pos} (hg:Gl X "enumerate") (hm:X.mg "enumerate" = none) (ha:PA X [x] ta) (hs:starEach [x] X.env=[(false,eval x X.env)]:=by rfl) :
  PI X (.Tuple elts kt tp) (.Call (.Name "enumerate" p) [x] [] pos) (QR X.K ta):=by
 intro pins s σ H R I h
 refine Call_ (iD I hg hm Ff (PyProof.Rows.callWith_type1 (a0 (ha pos pins s σ H _ I h) λus s1 ⟨vs,H1,I1,r1,q1⟩=>?_) hs rfl))
 obtain ⟨a,e,⟨xs,hq⟩,q⟩:=q1
 subst e
 obtain ⟨u,rfl,ru⟩:=r1.one
 obtain rfl:u=Value.ref a:=ru
 obtain ⟨its,_,p1,_⟩:=I1.list hq
 refine call_enumerate_list p1.isList λh' he hit hsz kk=>wpAny_pyIter_enum he ?_
 have ne:∀(n:Nat),n+1≠n:=λn z=>by omega
 refine ⟨_,[s1.heap.objs.size+1,s1.heap.objs.size],_,_,H1,rfl,I1.kept (t':=s1.toks) kk,QQ (ne _),⟨⟨_,he⟩,hit⟩,λc hc=>?_,q⟩
 have le:s1.heap.objs.size<=c:=by
  simp only [yI,List.not_mem_nil,kg] at hc
  rcases hc with q|q<;>rw [q]<;>first|exact yf _|exact Nat.le_add_right _ _
 exact I1.fpOk le (I1.hok.fresh le)
end L2
namespace Mi
open PySem L2 PySem.W PySem.Spec
section
variable {X:Cx} {Er:XK} {pos:Pos} {eU:List Stmt} {gb:Ak} {fs:Ai}
def dR (g:PV->zf->Option zf) (body:Ak) (n:Nat):Nat->Nat->Ak
 |0,_,_,_=>.stuck
 | m+1,i,env,st=>yl st n λxs=>match xs[i]? with
  |none=>.ok (.nx env) st
  | some x=>match g (.tup [.int i,x]) env with
   |none=>.stuck
   | some cQ=>(body cQ st).bind λfl aQ=>match fl with
    |.nx e=>dR g body n m (i+1) e aQ
    |.ct e=>dR g body n m (i+1) e aQ
    |.bk e=>.ok (.nx e) aQ
    |.rt v=>.ok (.rt v) aQ
def qJ:List PV->Mo Nat
 |[.ref n],st=>yl st n λ_=>.ok n st
 |_,_=>.stuck
def QT {α:Type}{K:Frag}{mg:Ab}{ρ:Af}{H:Hp}{vs:Aq}{st:aa}{f:Nat->Mo α}{good:List Addr->Hp->α->aa->Prop}(h:Out K mg ρ H ((qJ vs st).bind f) good Er):∃n xs,vs=[.ref n]/\st[n]?=some (.lst xs)/\Out K mg ρ H (f n st) good Er:=by
 unfold qJ at h
 split at h
 ·rename_i n
  unfold yl at h
  cases hn:st[n]? with
  |none=>simp only [hn] at h;exact h.elim
  |some so =>
   cases so with
   |lst xs=>simp only [hn] at h;exact ⟨n,xs,rfl,hn,h⟩
   |_=>simp only [hn] at h;exact h.elim
 ·exact h.elim
def l7 (fs:Ai) (g:PV->zf->Option zf) (body:Ak):Ak:=λenv st=>(fs env st).bind λvs ae=>(qJ vs ae).bind λn ae=>dR g body n (lim+1) 0 env ae
def QV {elts:List Expr} {kt:Nat} {tp p ip:Pos} {x:Expr} {gt:PV->zf->Option zf} (hp:PassesOwn (model X.prog X.w) X.A X.env X.xe) (hc:X.calm=true) (hm:X.mg "enumerate" = none) (ha:MA X Er [x] fs) (hg:MG X Er (.Tuple elts kt tp) gt) (hb:fR X Er eU gb)
  (nC:Gl X "enumerate" := by rfl) (cL:starEach [x] X.env=[(false,eval x X.env)]:=by rfl) (hs:∀v,foldedSetIterable (.Call (.Name "enumerate" p) [x] [] ip) X.env v=pure v:=by intro _;rfl) :
  MS X Er (.For (.Tuple elts kt tp) (.Call (.Name "enumerate" p) [x] [] ip) eU [] pos) (l7 fs gt gb) :=
 PS.weak (CY hp hc (QS nC hm ha cL) hg hb hs) λD σ H ⟨env,st,ρ,re,rs,h⟩=>⟨env,st,ρ,re,rs,h.then λau H0 vs cW e0 s0 h0 us ru=>by
  obtain ⟨n,qB,rfl,QW,h0⟩:=QT h0
  obtain ⟨v,rfl,rv⟩:=ru.one
  obtain ⟨a,rfl,ha⟩:=rv
  obtain ⟨ud,QX,Fg⟩:=s0.addr QW ha
  refine ⟨a,rfl,⟨_,bE.of QX⟩,?_⟩
  refine ⟨λi m σ H=>∃env st ρ,bJ X.K X.mg ρ H env σ/\bu X.K X.mg ρ H st/\ρ[n]?=some a/\Out X.K X.mg ρ H (dR gt gb n m i env st) (gS X.K X.mg D) Er,⟨lim+1,env,cW,au,re.ext e0,s0,ha,h0⟩,?_⟩
  rintro i m σ H ⟨env,st,ρ,re,rs,ha,h⟩
  cases m with
  |zero=>exact h.elim
  |succ m =>
   obtain ⟨xs,hn,h⟩:=jX h
   obtain ⟨vs,hH,hR⟩:=rs.addr hn ha
   cases hx:xs[i]? with
   |none =>
    simp only [hx] at h
    have:vs.length<=i:=by rw [<-hR.len];exact oj.mp hx
    exact .inl ⟨⟨vs,bE.of hH,this⟩,Out.now (x:=Fl.nx env) h rs σ re⟩
   |some x =>
    simp only [hx] at h
    obtain ⟨v,hv,rv⟩:=hR.get hx
    refine .inr ⟨⟨vs,v,bE.of hH,hv⟩,_,λaj H' p'=>⟨m,wg m,p'⟩,λv' H' y=>?_⟩
    obtain ⟨T,x',hT,rfl,rfl,y⟩:=y
    have e2:=y vs (bE.of hH)
    rw [hv] at e2
    cases e2
    have ex:Ext ρ H ρ (upd H T (.tup [.int i,v])):=Ext.new hT
    cases hgx:gt (.tup [.int i,x]) env with
    |none=>simp only [hgx] at h;exact h.elim
    |some cQ =>
     simp only [hgx] at h
     refine ⟨.tup [.int i,x],env,cQ,ρ,⟨T,[.int i,v],rfl,.inl (.inl yZ),_,_,rfl,rfl,_,_,rfl,R.ext ex x rv,rfl⟩,re.ext ex,hgx,λax r1=>⟨cQ,st,ρ,r1,rs.new hT,Out.then (Out.ext h ex) λao H3 fl bq e3 s3 h3=>?_⟩⟩
     cases fl with
     |nx e=>exact λaF r4=>⟨e,bq,ao,r4,s3,e3.get ha,h3⟩
     |ct e=>exact λaF r4=>⟨e,bq,ao,r4,s3,e3.get ha,h3⟩
     |bk e=>exact Out.fl (D:=D) (fl:=.nx e) (E:=Er) h3 s3
     |rt v=>exact Out.fl (D:=D) (fl:=.rt v) (E:=Er) h3 s3⟩
end
end Mi
namespace L2
open PySem PySem.Spec PyProof.Rows PySem.W
def e6 (z:Str) (n:Int):Str:=if n<1 then Str.empty else if (n==1||z.length==0)=true then z else ⟨(List.replicate n.toNat z.cps).foldl (·++·) #[]⟩
theorem Fi (c:Array Nat):∀(k:Nat) (a:Array Nat),((List.replicate k c).foldl (·++·) a).size=a.size+k*c.size
 |0,a=>by simp
 |k+1,a=>by
  rw [List.replicate_succ,List.foldl_cons,Fi c k,Array.size_append,Nat.succ_mul]
  omega
def QY (z:Str) (n:Int):(e6 z n).length=n.toNat*z.length:=by
 unfold e6
 split
 ·rename_i h
  have:n.toNat=0:=by omega
  rw [this,Nat.zero_mul];rfl
 ·rename_i h
  split
  ·rename_i h2
   simp only [Bool.or_eq_true,beq_iff_eq] at h2
   rcases h2 with h2|h2
   ·subst h2;simp
   ·rw [h2];simp
  ·show ((List.replicate n.toNat z.cps).foldl (·++·) #[]).size=_
   rw [Fi]
   show 0+n.toNat*z.cps.size=_
   rw [Nat.zero_add];rfl
def Fj:R2:=λx y H Q=>∃z n,x=.str z/\y=.int n/\(0<=n/\n<=1000/\z.length<=1000)/\Q (.str (e6 z n)) H
def QZ {X:Cx}:bz X (binaryOp .Mult) Fj:=by
 intro pins s σ H x y v u Q I rx ry h
 obtain ⟨z,n,rfl,rfl,⟨h0,h1,h2⟩,q⟩:=h
 obtain ⟨t,rfl⟩:=rx
 obtain ⟨t',rfl⟩:=ry
 have hb:n.toNat*z.length<=1000000:=by
  have:n.toNat<=1000:=by omega
  calc n.toNat*z.length<=1000*1000:=Nat.mul_le_mul this h2
   _=1000000:=rfl
 have hsz:=sizeLine_eq
 refine PySem.P.mul_str (by rw [jp (by omega),jp (by omega)];rfl) (λha _=>?_) (λ_ _=>?_) ?_
 ·have:(2 ^ 63-1:Int)/n>=1000:=by
   rw [ge_iff_le,Int.le_ediv_iff_mul_le (by omega)]
   omega
  omega
 ·show decide _=false
  rw [decide_eq_false_iff_not]
  have:z.length*n.toNat<=1000000:=by rw [Nat.mul_comm];exact hb
  rw [sizeLine_eq];omega
 ·by_cases c1:n<1
  ·rw [zx c1]
   have e:e6 z n=Str.empty:=by unfold e6;rw [zx c1]
   rw [e] at q
   exact ⟨by decide,.str Str.empty,H,I.tok _,⟨_,rfl⟩,q⟩
  ·rw [zK c1]
   by_cases c2:(n==1||z.length==0)=true
   ·rw [zx c2]
    have e:e6 z n=z:=by unfold e6;rw [zK c1,zx c2]
    rw [e] at q
    exact ⟨.str z,H,I,⟨_,rfl⟩,q⟩
   ·rw [zK c2]
    have e:e6 z n=⟨(List.replicate n.toNat z.cps).foldl (·++·) #[]⟩:=by unfold e6;rw [zK c1,zK c2]
    have hl:=QY z n
    rw [e] at q hl
    exact ⟨by rw [hl,sizeLine_eq];omega,.str _,H,I.tok _,⟨_,rfl⟩,q⟩
end L2
namespace Mi
open PySem L2 PySem.W PySem.Spec
section
variable {X:Cx} {K:Frag} {mg:Ab} {Er:XK} {e:Expr} {es:List Expr}
def wG:Ao
 |.int i,.int j,st=>Es (.int i) (.int j) st
 |.str z,.int n,st=>if 0<=n/\n<=1000/\z.length<=1000 then .ok (.str (e6 z n)) st else .stuck
 |_,_,_=>.stuck
def zdG:dn X .Mult wG:=by
 obtain ⟨r,h1,h2⟩:=Pe (X:=X)
 refine ⟨λx y H Q=>r x y H Q\/Fj x y H Q,h1.or QZ,fun ρ H st x y v w Q E s rx ry h=>?_⟩
 cases x with
 |int i =>
  cases y with
  |int j=>exact .inl (h2 ρ H st (.int i) (.int j) v w Q E s rx ry h)
  |_=>exact h.elim
 |str z =>
  cases y with
  |int n =>
   obtain ⟨c,h⟩:=Out.ifp h
   cases rx;cases ry
   exact .inr ⟨z,n,rfl,rfl,c,Out.now (x:=PV.str (e6 z n)) h s _ rfl⟩
  |_=>exact h.elim
 |_=>exact h.elim
def jR:An
 |[.int i],st=>if i.natAbs.log2<1920 then .ok (.str (toString i)) st else .stuck
 |_,_=>.stuck
def Q0:dH X (.type "str") jR:=⟨_,MC,fun ρ H st xs vs Q E s r h=>by
 unfold jR at h
 split at h
 ·rename_i i
  obtain ⟨c,h⟩:=Out.ifp h
  obtain ⟨v,rfl,rfl⟩:=r.one
  exact ⟨i,rfl,c,Out.now (x:=PV.str (toString i)) h s _ rfl⟩
 ·exact h.elim⟩
theorem Rs.reverse {ρ:Af}{H:Hp}:∀{xs:Aq}{vs:List V},Rs K mg ρ H xs vs->Rs K mg ρ H xs.reverse vs.reverse
 |[],_,h=>by cases h;rfl
 |x::xs,_,h=>by
  obtain ⟨v,r,rfl,h1,h2⟩:=h
  rw [List.reverse_cons,List.reverse_cons]
  exact (Rs.reverse h2).append ⟨v,[],rfl,h1,rfl⟩
def qK:List Expr->Option (Ae)
 |[]=>some []
 |.Constant (.str z) _ _::r=>(qK r).map (z::·)
 |_::_=>none
def AV (zs:Ae):Ai:=λ_ st=>.ok (zs.map PV.str) st
def ziy:∀{es:List Expr}{zs:Ae},qK es=some zs->MA X Er es (AV zs):=by
 intro es
 induction es with
 |nil=>intro zs h;cases h;exact zm
 |cons e r ih =>
  intro zs h
  cases e with
  |Constant c j p =>
   cases c with
   |str z =>
    simp only [qK,Option.map_eq_some_iff] at h
    obtain ⟨zr,h1,rfl⟩:=h
    exact En zM (ih h1) QN
   |_=>cases h
  |_=>cases h
end
section
variable {env:zf} {st:aa} {fe:Aj} {fs:Ai} {g:Ak} {src:zf->Mo Sq}
@[simp] def Q1 (xs:Aq) (i:Int):zp (.tup xs) (.int i) st=cD (dB xs i) st:=(rfl)
@[simp] def Q3 (z:Str) (i:Int):zp (.str z) (.int i) st=if z.length<=lim then cD ((dB z.cps.toList i).map λc=>.str ⟨#[c]⟩) st else .stuck:=(rfl)
@[simp] def l8:jk src fe env st=(src env st).bind λq ae=>gk fe env q ae:=(rfl)
@[simp] def oV (xs:Aq):gk fe env (.im xs) st=if xs.length<=lim then dq fe env xs [] st else .stuck:=(rfl)
@[simp] def AW:dz fs env st=(fs env st).bind lY:=(rfl)
@[simp] def Q8 (j:Int):lY [.int j] st=if cR j=true then .ok (.im (nums 0 j.toNat)) st else .stuck:=(rfl)
@[simp] def Fn (gt:PV->zf->Option zf):l7 fs gt g env st=(fs env st).bind λvs ae=>(qJ vs ae).bind λn ae=>dR gt g n (lim+1) 0 env ae:=(rfl)
@[simp] def Zw (n:Nat):qJ [.ref n] st=yl st n λ_=>.ok n st:=(rfl)
@[simp] def Q9 (i:Int):jR [.int i] st=if i.natAbs.log2<1920 then .ok (.str (toString i)) st else .stuck:=(rfl)
@[simp] def Q_ (i j:Int):wG (.int i) (.int j) st=if lV i j=true then .ok (.int (i*j)) st else .stuck:=(rfl)
@[simp] def Ra (neg:Bool) (x:PV) (ys:Aq):yq neg x (.tup ys) st=if okIn x ys then .ok (.bl (neg.xor (ys.any λy=>bY y x))) st else .stuck:=by unfold yq;cases x<;>rfl
@[simp] def jC (n:Nat):ji [.ref n] st=yl st n λxs=>.ok (.tup xs) st:=(rfl)
@[simp] def Rb (n:Nat) (y:PV):yM (.ref n) y st=yl st n λxs=>if xs.length<lim then .ok .non (st.set n (.lst (xs++[y]))) else .stuck:=(rfl)
end
def Pre (a b:aa):Prop:=∃d,b=a++d
def Pre.refl (st:aa):Pre st st:=⟨[],by simp⟩
def Pre.trans {a b c:aa}(h:Pre a b) (h':Pre b c):Pre a c:=by obtain ⟨d,rfl⟩:=h;obtain ⟨d',rfl⟩:=h';exact ⟨d++d',by simp⟩
def Pre.of (st d:aa):Pre st (st++d):=⟨d,rfl⟩
def Pre.get {a b:aa}(h:Pre a b) {n:Nat}{so:SO}(e:a[n]?=some so):b[n]?=some so:=by
 obtain ⟨d,rfl⟩:=h
 rw [kh (yt.mp e).1]
 exact e
def ye (st:aa) (so:SO):(st++[so])[st.length]?=some so:=by simp
theorem Fo {fe:Aj}{env:zf}{f:PV->PV}{st:aa}:∀(xs:Aq),(∀x∈xs,fe (some x::env) st=.ok (f x) st)->∀(ys:Aq),dq fe env xs ys st=.ok (.ref st.length) (st++[.lst (ys++xs.map f)])
 |[],_,ys=>by simp [dq]
 |x::xs,h,ys=>by
  simp only [dq,h x (jf ..),kM,zJ]
  rw [Fo xs (λx' tS=>h x' (jH _ tS))]
  simp
section
variable {X:Cx} {Er:XK}
inductive qL (X:Cx) (Er:XK):List (Option Expr)->List Expr->List Str->List (Aj)->Prop
 |nil:qL X Er [] [] [] []
 |cons {z:Str} {j} {p:Pos} {v:Expr} {f:Aj} {ks:List (Option Expr)} {vs:List Expr} {zs:Ae} {fs:List (Aj)} (hv:ME X Er v f) (hr:qL X Er ks vs zs fs):qL X Er (some (.Constant (.str z) j p)::ks) (v::vs) (z::zs) (f::fs)
def qL.len {ks:List (Option Expr)}{vs:List Expr}{zs:Ae}{fs:List (Aj)}(h:qL X Er ks vs zs fs):ks.length=vs.length/\zs.length=fs.length/\ks.length=zs.length/\ks.all (·.isSome)=true:=by
 induction h with
 |nil=>exact ⟨rfl,rfl,rfl,rfl⟩
 |cons hv hr ih=>exact ⟨by simp [ih.1],by simp [ih.2.1],by simp [ih.2.2.1],by simpa using ih.2.2.2⟩
end
section
variable {X:Cx}
def Rc:bz X (compareOp .IsNot) (λx y H Q=>∃a b,x=.bl a/\y=.bl b/\Q (.bl (!(a==b))) H):=by
 intro pins s σ H x y v u Q I rx ry h
 obtain ⟨a,b,rfl,rfl,q⟩:=h
 cases rx;cases ry
 exact PyProof.Rows.isnot_bool ⟨.bl (!(a==b)),H,I,rfl,q⟩
def wn:Ao
 |.bl a,.bl b,st=>.ok (.bl (!(a==b))) st
 |x,y,st=>Eu x y st
def zbl:cf X .IsNot wn:=by
 obtain ⟨r,h1,h2⟩:=Pn (X:=X)
 refine ⟨λx y H Q=>r x y H Q\/_,h1.or Rc,fun ρ H st x y v w Q E s rx ry h=>?_⟩
 unfold wn at h
 split at h
 ·rename_i a b
  cases rx;cases ry
  exact .inr ⟨_,_,rfl,rfl,Out.now (x:=PV.bl (!(a==b))) h s _ rfl⟩
 ·exact .inl (h2 ρ H st _ _ v w Q E s rx ry h)
end
def di (f:PV->PV->Option Bool):List PV->List PV->Option Bool
 |[],[]=>some true
 | x::xs,y::ys=>match f x y,di f xs ys with
  |some a,some b=>some (a&&b)
  |_,_=>none
 |_,_=>some false
def dI (f:PV->PV->Option Bool) (cq:Ae) (dG:Aq):List Str->List PV->Option Bool
 | k::ks,x::xs=>match (cq.zip dG).lookup k with
  |none=>some false
  | some y=>match f x y,dI f cq dG ks xs with
   |some a,some b=>some (a&&b)
   |_,_=>none
 |_,_=>some true
theorem Fp {f:PV->PV->Option Bool}:∀{xs ys:Aq}{b:Bool},di f xs ys=some b->∃e:Nat->Bool,(∀j x y,xs[j]?=some x->ys[j]?=some y->f x y=some (e j))/\((List.range (min xs.length ys.length)).all e&&xs.length==ys.length)=b
 |[],[],b,h=>by cases h;exact ⟨λ_=>true,λj x y h=>by simp at h,by simp⟩
 |[],y::ys,b,h=>by cases h;exact ⟨λ_=>true,λj x y h=>by simp at h,by simp⟩
 |x::xs,[],b,h=>by cases h;exact ⟨λ_=>true,λj x y _ h=>by simp at h,by simp⟩
 |x::xs,y::ys,b,h=>by
  simp only [di] at h
  cases hf:f x y with
  |none=>rw [hf] at h;cases h
  |some a =>
   cases hr:di f xs ys with
   |none=>rw [hf,hr] at h;cases h
   |some c =>
    rw [hf,hr] at h
    cases h
    obtain ⟨e,h1,h2⟩:=Fp hr
    refine ⟨λj=>match j with|0=>a|j+1=>e j,λj u v hu hv=>?_,?_⟩
    ·cases j with
     |zero=>simp at hu hv;subst hu;subst hv;exact hf
     |succ j=>simp at hu hv;exact h1 j u v hu hv
    ·have e1:min (x::xs).length (y::ys).length=min xs.length ys.length+1:=by simp only [wf];omega
     have e2:((x::xs).length==(y::ys).length)=(xs.length==ys.length):=by
      rw [Bool.eq_iff_iff];simp
     rw [e1,e2,List.range_succ_eq_map,List.all_cons,List.all_map,<-h2,Bool.and_assoc]
     rfl
section
variable {K:Frag} {mg:Ab} {ρ:Af} {H:Hp}
def Rf {ρ:Af}(nd:ρ.Nodup) {n m:Nat}{a:Addr}(h:ρ[n]?=some a) (h':ρ[m]?=some a):n=m:=by
 obtain ⟨h1,h2⟩:=yt.mp h
 obtain ⟨h3,h4⟩:=yt.mp h'
 have pw:=List.pairwise_iff_getElem.mp nd
 rcases Nat.lt_trichotomy n m with c|c|c
 ·exact absurd (h2.trans h4.symm) (pw n m h1 h3 c)
 ·exact c
 ·exact absurd (h4.trans h2.symm) (pw m n h3 h1 c)
theorem Fq {f:PV->PV->Option Bool}(hf:∀x y v b,f x y=some b->R K mg ρ H x v->R K mg ρ H y v->b=true):∀{xs ys:Aq}{vs:List V}{b:Bool},di f xs ys=some b->Rs K mg ρ H xs vs->Rs K mg ρ H ys vs->b=true
 |[],[],vs,b,h,_,_=>by cases h;rfl
 |[],y::ys,vs,b,h,rx,ry=>by cases rx;obtain ⟨_,_,e,_⟩:=ry;cases e
 |x::xs,[],vs,b,h,rx,ry=>by cases ry;obtain ⟨_,_,e,_⟩:=rx;cases e
 |x::xs,y::ys,vs,b,h,rx,ry=>by
  obtain ⟨v,r,rfl,r1,r2⟩:=rx
  obtain ⟨v',r',e,r3,r4⟩:=ry
  cases e
  simp only [di] at h
  cases h1:f x y with
  |none=>rw [h1] at h;cases h
  |some a =>
   cases h2:di f xs ys with
   |none=>rw [h1,h2] at h;cases h
   |some c =>
    rw [h1,h2] at h
    cases h
    rw [hf x y v a h1 r1 r3,Fq hf h2 r2 r4]
    rfl
theorem Ft {f:PV->PV->Option Bool}(hf:∀x v b,f x x=some b->R K mg ρ H x v->b=true) {cX:Ae}{qB:Aq}:∀{ks:Ae}{xs:Aq}{vs:List V}{b:Bool},(∀k x,(k,x)∈ks.zip xs->(cX.zip qB).lookup k=some x)->dI f cX qB ks xs=some b->Rs K mg ρ H xs vs->b=true
 |[],xs,vs,b,_,h,_=>by cases xs<;>(cases h;rfl)
 |k::ks,[],vs,b,_,h,_=>by cases h;rfl
 |k::ks,x::xs,vs,b,hm,h,rx=>by
  obtain ⟨v,r,rfl,r1,r2⟩:=rx
  simp only [dI] at h
  rw [hm k x (by simp)] at h
  simp only at h
  cases h1:f x x with
  |none=>rw [h1] at h;cases h
  |some a =>
   cases h2:dI f cX qB ks xs with
   |none=>rw [h1,h2] at h;cases h
   |some c =>
    rw [h1,h2] at h
    cases h
    rw [hf x v a h1 r1,Ft hf (λk' x' h'=>hm k' x' (by simp [h'])) h2 r2]
    rfl
theorem Fu:∀{ks:Ae}{xs:Aq},ks.Nodup->∀k x,(k,x)∈ks.zip xs->(ks.zip xs).lookup k=some x
 |[],_,_,k,x,h=>by simp at h
 |_::_,[],_,k,x,h=>by simp at h
 |k0::ks,x0::xs,nd,k,x,h=>by
  rw [jU] at nd
  rw [List.zip_cons_cons] at h ⊢
  rcases yI.mp h with e|h'
  ·cases e;simp [jy]
  ·have hk:k∈ks:=(List.of_mem_zip h').1
   have ne:(k==k0)=false:=by
    simp only [beq_eq_false_iff_ne]
    intro e;subst e;exact nd.1 hk
   rw [jy,ne]
   exact Fu nd.2 k x h'
end
def fA (P:Program) (W:World) (A:Around) (s:Shared) (u u':Value) (b:Bool):Prop:=∀(E:Aa) (Q:Bool->Shared->Prop),Q b s->wpAny (model P W) A (eqBool u u') Q E s
def df (P:Program) (W:World) (A:Around) (s:Shared) (u u':Value) (b:Bool):Prop:=∀(E Q:Aa),Q (.bool b) s->wpAny (model P W) A (richCompare .Eq u u') Q E s
section
variable {P:Program} {W:World} {A:Around} {s:Shared}
def fA.of_refs {l b:Addr}{k:Bool}(AX:l≠b) (h:df P W A s (.ref l) (.ref b) k):fA P W A s (.ref l) (.ref b) k:=λE Q hq=>by
 unfold eqBool
 refine wv (wpAny_ite_split (λfz=>absurd (by have:=eq_of_beq fz;injection this) AX) λ_=>?_)
 exact zB (h E _ (j_ hq))
def Rh {l b:Addr}{its a_:Array Value}{n n2:Nat}{dd mO:Option Addr}{sl gQ:Array (Option Value)}{e:Nat->Bool}{E Q:Aa}
  (hl:s.heap.get? l=some { cls:=.type "tuple", dict:=dd,data:=.seq its n,slots:=sl }) (hb:s.heap.get? b=some { cls:=.type "tuple", dict:=mO,data:=.seq a_ n2,slots:=gQ })
  (he:∀j (h1:j<its.size) (h2:j<a_.size),fA P W A.in1 s its[j] a_[j] (e j)) (h:Q (.bool ((List.range (min its.size a_.size)).all e&&its.size==a_.size)) s) :
  wpAny (model P W) A.in1 (Builtin.«tuple.__eq__» ⟨[.ref l,.ref b],[]⟩) (λfin s'=>∃v,fin=.done (.ret v)/\Q v s') E s:=by
 obtain ⟨hp,g,d,tk,os⟩:=s
 have f2:=AutoSeq1.sub_tuple_tuple
 have hZ:(its.toList.zip a_.toList).length=min its.size a_.size:=by simp
 wp_walk using AutoSeq1.wpAny_loadPart' hl,AutoSeq1.wpAny_loadPart' hb,wpAny_forIn_list _ (λrest b s'=>b.1=none/\s'=⟨hp,g,d,tk,os⟩/\∃i,rest=(its.toList.zip a_.toList).drop i/\Q (.bool (((List.range (min its.size a_.size)).drop i).all e&&its.size==a_.size)) ⟨hp,g,d,tk,os⟩) _
 case turn =>
  rintro ⟨y,x⟩ rest b s' ⟨AY,rfl,i,hz,hR⟩
  have bO:i<(its.toList.zip a_.toList).length:=by
   rcases Nat.lt_or_ge i (its.toList.zip a_.toList).length with h'|h'
   ·exact h'
   ·rw [mM h'] at hz;cases hz
  have hm:i<min its.size a_.size:=hZ▸bO
  have h1:i<its.size:=by omega
  have h2:i<a_.size:=by omega
  rw [we bO] at hz
  injection hz with lP nE
  have hy:y=its[i]:=by have:=congrArg Prod.fst lP;simpa using this
  have hx:x=a_[i]:=by have:=congrArg Prod.snd lP;simpa using this
  subst hy hx
  have hd:(List.range (min its.size a_.size)).drop i=i::(List.range (min its.size a_.size)).drop (i+1):=by simp [we,hm]
  rw [hd,List.all_cons] at hR
  refine zB (he i h1 h2 _ _ ?_)
  cases hy:e i with
  |true =>
   rw [hy] at hR
   wp_walk
   exact ⟨rfl,rfl,i+1,nE,by simpa using hR⟩
  |false =>
   rw [hy] at hR
   wp_walk
   exact ⟨_,rfl,by simpa using hR⟩
 case fin =>
  rintro ⟨b1,b2⟩ s' ⟨AY,rfl,i,hz,hR⟩
  simp only at AY
  subst AY
  have Ri:min its.size a_.size<=i:=by
   rcases Nat.lt_or_ge i (its.toList.zip a_.toList).length with h'|h'
   ·rw [we h'] at hz;cases hz
   ·exact hZ▸h'
  rw [mM (by simpa using Ri)] at hR
  wp_walk
  exact ⟨_,rfl,by simpa [Builtin.Tuple.tupleCompareSizes] using hR⟩
 case h=>exact ⟨rfl,rfl,0,rfl,by simpa using h⟩
def df.tuples {l b:Addr}{its a_:Array Value}{e:Nat->Bool}(hl:s.heap.IsTuple l its) (hb:s.heap.IsTuple b a_) (hu:A.units<cLine)
  (he:∀j (h1:j<its.size) (h2:j<a_.size),fA P W A.in1 s its[j] a_[j] (e j)):df P W A s (.ref l) (.ref b) ((List.range (min its.size a_.size)).all e&&its.size==a_.size):=λE Q h=>by
 obtain ⟨⟨cls,dd,data,sl⟩,ho,hc,n,hd⟩:=id hl
 obtain ⟨⟨vy,mO,data2,gQ⟩,ho2,gR,n2,hd2⟩:=id hb
 simp only at hc hd gR hd2
 subst hc hd gR hd2
 refine wpAny_richCompare_same_room (op:=.Eq) ⟨_,ho,rfl⟩ ⟨_,ho2,rfl⟩ F.slot_tuple_eq (wJ F.slot_tuple_eq ⟨_,ho,rfl⟩ F.entry_tuple_eq (Rh (Q:=λv s'=>v ≠ .notImplemented/\Q v s') ho ho2 he (show Value.bool ((List.range (min its.size a_.size)).all e&&its.size==a_.size)≠Value.notImplemented/\Q (.bool ((List.range (min its.size a_.size)).all e&&its.size==a_.size)) s from ⟨(λx=>nomatch x),h⟩)) (F.args_tuple_eq_2 _ _)) hu
end
section
variable {K:Frag} {mg:Ab} {ρ:Af} {H:Hp}
def AZ {k:Str}{ks:Ae}{v:V}{vs:List V}{us:List (Key×Value)}(h:KV (kz (k::ks) (v::vs)) us):∃u r,us=(Sum.inr k,u)::r/\RelV v u/\KV (kz ks vs) r:=by
 cases h with
 |@cons p q ps qs h t =>
  obtain ⟨h1,h2⟩:=h
  obtain ⟨k',u⟩:=q
  have:k'=Sum.inr k:=h1.symm
  subst this
  exact ⟨u,qs,rfl,h2,t⟩
theorem Fv {f:Str}:∀{ks:Ae}{xs:Aq}{vs:List V},Rs K mg ρ H xs vs->(ks.zip xs).lookup f=none->(ks.zip vs).lookup f=none
 |[],_,_,_,_=>by simp
 |k::ks,[],_,r,_=>by cases r;simp
 |k::ks,y::xs,_,r,h=>by
  obtain ⟨v,r',rfl,h1,h2⟩:=r
  simp only [List.zip_cons_cons,jy] at h ⊢
  split at h
  ·cases h
  ·exact Fv h2 h
def Rj {f:PV->PV->Option Bool}{G:Value->Value->Bool->Prop}(hf:∀x y v w u u' b,f x y=some b->R K mg ρ H x v->R K mg ρ H y w->RelV v u->RelV w u'->G u u' b) {xs ys:Aq}{vs ws:List V}{its a_:Ag}{e:Nat->Bool}(h2:Rs K mg ρ H xs vs) (h4:Rs K mg ρ H ys ws) (r1:Vals vs its) (r2:Vals ws a_) (he:∀j x y,xs[j]?=some x->ys[j]?=some y->f x y=some (e j)) :
  ∀j (g1:j<its.toArray.size) (g2:j<a_.toArray.size),G its.toArray[j] a_.toArray[j] (e j):=by
 intro j g1 g2
 have l1:=h2.len
 have l2:=h4.len
 have l3:=r1.length
 have l4:=r2.length
 have k1:j<xs.length:=by rw [l1,l3];simpa using g1
 have k2:j<ys.length:=by rw [l2,l4];simpa using g2
 obtain ⟨v1,e1,x6⟩:=h2.get (yr k1)
 obtain ⟨v2,e2,x_⟩:=h4.get (yr k2)
 obtain ⟨u1,f1,y_⟩:=r1.get e1
 obtain ⟨u2,f2,z_⟩:=r2.get e2
 have w1:its.toArray[j]=u1:=by
  obtain ⟨_,z⟩:=yt.mp f1
  simpa using z
 have w2:a_.toArray[j]=u2:=by
  obtain ⟨_,z⟩:=yt.mp f2
  simpa using z
 rw [w1,w2]
 exact hf xs[j] ys[j] v1 v2 u1 u2 (e j) (he j _ _ (yr k1) (yr k2)) x6 x_ y_ z_
end
section
variable {X:Cx} {Er:XK} {K:Frag} {mg:Ab}
theorem dD:∀{ks:Ae}{us:Ag},us.length=ks.length->(∀(j:Nat) v,us[j]?=some v->∃k,ks[j]?=some k/\∃t,v=Value.str k t)->Vals (ks.map V.str) us
 |[],[],_,_=>.nil
 |[],_::_,h,_=>by simp at h
 |_::_,[],h,_=>by simp at h
 |k::ks,u::us,h,hv=>by
  obtain ⟨k',e,t,ev⟩:=hv 0 u rfl
  simp at e
  subst e
  exact .cons ⟨t,ev⟩ (dD (by simpa using h) λj v e=>by simpa using hv (j+1) v (by simpa using e))
def Rk (hc:X.calm=true):cv X (.type "list") (λxs H Q=>∃p ks vs,xs=[.ref p]/\H p=some (.dK (kz ks vs))/\ks.length=vs.length/\∀l,H l=none->Q (.ref l) (upd H l (.lst (ks.map V.str)))):=by
 intro pins s σ H xs us Q I r h
 obtain ⟨p,ks,vs,rfl,hp,hl,q⟩:=h
 obtain ⟨u,rfl,rx⟩:=lG r
 cases rx
 obtain ⟨hz,lo,kv,iM,hd⟩:=jW I.hok (.inl hp)
 obtain ⟨ep,nF⟩:=hd.dictAt
 have lk:kv.length=ks.length:=by rw [<-iM.length];simp [kz,hl]
 have keys:kv.map (·.1)=ks.map Sum.inr:=by
  rw [<-iM.keys]
  simp [kz,hl,List.map_fst_zip]
 refine kdl_call (kdl_dict (knd:=bb X.prog X.w) (kvs:=kv) (ep:=ep) lo) (I.ok.hd hc) nF (by rw [<-iM.length];exact hz) λh' tk cw c' hk hS fX=>?_
 have hv:Vals (ks.map V.str) cw.toList:=dD (by rw [Array.length_toList,fX.1,lk]) λj v e=>by
  obtain ⟨k,x,e1,e2⟩:=fX.2 j v (by rw [<-Array.getElem?_toList];exact e)
  have e3:(kv.map (·.1))[j]?=some k:=by rw [jo,e1];rfl
  rw [keys,jo] at e3
  cases e4:ks[j]? with
  |none=>rw [e4] at e3;cases e3
  |some k' =>
   rw [e4] at e3
   cases e3
   rcases wN (show eM (Sum.inr k') v=true from e2) with ⟨i,t,z,_⟩|⟨y,t,z,z'⟩
   ·cases z
   ·cases z;exact ⟨k',rfl,t,z'⟩
 exact ⟨.ref s.heap.objs.size,_,I.laid (t':=tk) hk (yf _) (show bo X.prog X.w _ h' _ (.lst (ks.map V.str)) from ⟨by rw [jx,<-lk,<-iM.length];exact hz,cw.toList,c',hv,by simpa using hS⟩),rfl,q _ I.fresh⟩
def kN:An:=λxs st=>match xs with
 | [.ref n]=>match st[n]? with
  |some (.dic ks _)=>.ok (.ref st.length) (st++[.lst (ks.map PV.str)])
  |_=>tL xs st
 |_=>tL xs st
theorem Fw {ρ:Af}{H:Hp}:∀{ks:Ae},Rs K mg ρ H (ks.map PV.str) (ks.map V.str)
 |[]=>rfl
 |k::ks=>⟨_,_,rfl,rfl,Fw⟩
def Rl (hc:X.calm=true):dH X (.type "list") kN:=by
 obtain ⟨r,h1,h2⟩:=Pu (X:=X)
 refine ⟨_,h1.or (Rk hc),fun ρ H st xs vs Q E s rx h=>?_⟩
 by_cases hx:∃n ks ys,xs=[.ref n]/\st[n]?=some (.dic ks ys)
 ·obtain ⟨n,ks,ys,rfl,e⟩:=hx
  have h:Out X.K X.mg ρ H (.ok (.ref st.length) (st++[.lst (ks.map PV.str)])) (gV X.K X.mg Q) E:=by
   simpa only [kN,e] using h
  obtain ⟨v,rfl,rv⟩:=Rs.one rx
  obtain ⟨a,vs,rfl,_,k1,_,k3⟩:=R.refD s rv e
  exact .inr ⟨a,ks,vs,rfl,k1,k3,λl hl=>Out.newList (xs:=ks.map PV.str) h s Fw hl⟩
 ·refine .inl (h2 ρ H st xs vs Q E s rx ?_)
  have:kN xs st=tL xs st:=by
   unfold kN
   split
   ·rename_i n
    split
    ·rename_i ks ys e;exact absurd ⟨n,ks,ys,rfl,e⟩ hx
    ·rfl
   ·rfl
  rw [this] at h
  exact h
def A4 {ss:List Stmt}:fR X Er ss yK:=cU.weak LK λD σ H ⟨env,st,ρ,re,rs,h⟩=>h
end
section
variable {P:Program} {W:World} {A:Around} {s:Shared} {E:Aa} {K:Type} [DecidableEq K] {knd:KeyKind P W K}
def oW {d:Addr} {kv:List (K×Value)} {x:Value} {T:String} {name:Str} (sl:Slot "dict" name "dict.__eq__") (hd:s.heap.DictOf knd d kv) (hx:s.TypeIs x T) (hs:isSubtype (.type T) (.type "dict")=pure false) (Q:Aa) (h:Q .notImplemented s) :
  wpAny (model P W) A (call (.builtin "dict.__eq__") [.ref d,x]) Q E s:=by
 refine wJ sl hd.typeIs PySem.F.entry_dict_eq ?_ (PySem.F.args_dict_eq_2 _ _)
 show wpAny _ _ (Builtin.Dict.dictSlotArgs "__eq__" ⟨[.ref d,x],[]⟩ >>= _) _ _ s
 refine zB ?_
 unfold Builtin.Dict.dictSlotArgs
 refine zB (wpAny_notOrdered_dict hd.typeIs ?_)
 show wpAny _ _ (pure (Value.ref d,x)) _ _ s
 refine yb ?_
 refine zB (wpAny_isInstance hx hs ?_)
 simp only [Bool.not_false,if_true]
 exact zB (wpAny_rule (yb ⟨_,rfl,h⟩))
def Fx {d:Addr} {o:Obj} {b:Int} {u:Tok} {name:Str} (sl:Slot "int" name "int.__eq__") (ho:s.heap.get? d=some o) (hd:o.cls=.type "dict") {es:Array DictEntry} {ep:Nat} (hq':o.data=.dict es ep) (Q:Aa) (h:Q .notImplemented s) :
  wpAny (model P W) A (call (.builtin "int.__eq__") [.int b u,.ref d]) Q E s:=by
 refine wJ sl (typeIs_int s b u) PySem.F.entry_int_eq ?_ (PySem.F.args_int_eq_2 _ _)
 obtain ⟨hp,g,dd,tk,os⟩:=s
 obtain ⟨c,d1,d2,d3⟩:=o
 cases hd
 cases hq'
 wp_walk using AutoSeq1.wpAny_loadPart' ho,wpAny_load ho
 exact ⟨_,rfl,h⟩
def Fy {d:Addr} {o:Obj} {b:Str} {u:Tok} {name:Str} (sl:Slot "str" name "str.__eq__") (ho:s.heap.get? d=some o) (hd:o.cls=.type "dict") {es:Array DictEntry} {ep:Nat} (hq':o.data=.dict es ep) (Q:Aa) (h:Q .notImplemented s) :
  wpAny (model P W) A (call (.builtin "str.__eq__") [.str b u,.ref d]) Q E s:=by
 refine wJ sl (typeIs_str s b u) PySem.F.entry_str_eq ?_ (PySem.F.args_str_eq_2 _ _)
 obtain ⟨hp,g,dd,tk,os⟩:=s
 obtain ⟨c,d1,d2,d3⟩:=o
 cases hd
 cases hq'
 wp_walk using AutoSeq1.wpAny_loadPart' ho,wpAny_load ho
 exact ⟨_,rfl,h⟩
def Fz {d t:Addr} {o ot:Obj} {its:Array Value} {n:Nat} {name:Str} (sl:Slot "tuple" name "tuple.__eq__") (ht:s.heap.get? t=some ot) (hc:ot.cls=.type "tuple") (hq:ot.data=.seq its n) (ho:s.heap.get? d=some o) (hd:o.cls=.type "dict") {es:Array DictEntry} {ep:Nat} (hq':o.data=.dict es ep) (Q:Aa) (h:Q .notImplemented s) :
  wpAny (model P W) A (call (.builtin "tuple.__eq__") [.ref t,.ref d]) Q E s:=by
 refine wJ sl ⟨_,ht,hc⟩ PySem.F.entry_tuple_eq ?_ (PySem.F.args_tuple_eq_2 _ _)
 obtain ⟨hp,g,dd,tk,os⟩:=s
 obtain ⟨c,d1,d2,d3⟩:=o
 obtain ⟨c',Zx,Zy,Zz⟩:=ot
 cases hd
 cases hq'
 cases hc
 cases hq
 have f1:=PySem.F.sub_dict_tuple
 wp_walk using AutoSeq1.wpAny_loadPart' ht,AutoSeq1.wpAny_loadPart' ho
 exact ⟨_,rfl,h⟩
def fA.of_ref {d:Addr}{u':Value}{k:Bool}(AX:Value.ref d≠u') (h:df P W A s (.ref d) u' k):fA P W A s (.ref d) u' k:=λE Q hq=>by
 unfold eqBool
 refine wv (wpAny_ite_split (λfz=>absurd (eq_of_beq fz) AX) λ_=>?_)
 exact zB (h E _ (j_ hq))
def fA.of_num {d:Addr}{b:Int}{u:Tok}{k:Bool}(h:df P W A s (.int b u) (.ref d) k):fA P W A s (.int b u) (.ref d) k:=λE Q hq=>by
 unfold eqBool
 refine wv (wpAny_ite_split (λfz=>absurd (eq_of_beq fz) nofun) λ_=>?_)
 exact zB (h E _ (j_ hq))
def fA.of_txt {d:Addr}{b:Str}{u:Tok}{k:Bool}(h:df P W A s (.str b u) (.ref d) k):fA P W A s (.str b u) (.ref d) k:=λE Q hq=>by
 unfold eqBool
 refine wv (wpAny_ite_split (λfz=>absurd (eq_of_beq fz) nofun) λ_=>?_)
 exact zB (h E _ (j_ hq))
def df.rec_num {d:Addr}{kv:List (K×Value)}(hd:s.heap.DictOf knd d kv) (b:Int) (u:Tok) (hu:A.units<cLine):df P W A s (.ref d) (.int b u) false:=λE Q h=>by
 obtain ⟨o,es,ep,ho,hx,g9,_⟩:=id hd
 have ty:=hd.typeIs
 obtain ⟨o',ho',hc⟩:=id ty
 rw [ho] at ho'
 cases ho'
 exact SeqAt.rc_eq_decline_or (k:=false) ty (typeIs_int s b u) (by decide) PySem.F.sub_int_dict PySem.F.slot_dict_eq PySem.F.slot_int_eq_refl (oW PySem.F.slot_dict_eq hd (typeIs_int s b u) PySem.F.sub_int_dict) (Fx PySem.F.slot_int_eq_refl ho hc g9)
  (λ_ hq=>wpAny_of_eq (rfl:isSame (.ref d) (.int b u)=pure false) hq) (.inr hu) h
def df.num_rec {d:Addr}{kv:List (K×Value)}(hd:s.heap.DictOf knd d kv) (b:Int) (u:Tok) (hu:A.units<cLine):df P W A s (.int b u) (.ref d) false:=λE Q h=>by
 obtain ⟨o,es,ep,ho,hx,g9,_⟩:=id hd
 have ty:=hd.typeIs
 obtain ⟨o',ho',hc⟩:=id ty
 rw [ho] at ho'
 cases ho'
 exact SeqAt.rc_eq_decline_or (k:=false) (typeIs_int s b u) ty (by decide) PySem.F.sub_dict_int PySem.F.slot_int_eq PySem.F.slot_dict_eq_refl (Fx PySem.F.slot_int_eq ho hc g9) (oW PySem.F.slot_dict_eq_refl hd (typeIs_int s b u) PySem.F.sub_int_dict)
  (λ_ hq=>wpAny_of_eq (rfl:isSame (.int b u) (.ref d)=pure false) hq) (.inr hu) h
def df.rec_txt {d:Addr}{kv:List (K×Value)}(hd:s.heap.DictOf knd d kv) (b:Str) (u:Tok) (hu:A.units<cLine):df P W A s (.ref d) (.str b u) false:=λE Q h=>by
 obtain ⟨o,es,ep,ho,hx,g9,_⟩:=id hd
 have ty:=hd.typeIs
 obtain ⟨o',ho',hc⟩:=id ty
 rw [ho] at ho'
 cases ho'
 exact SeqAt.rc_eq_decline_or (k:=false) ty (typeIs_str s b u) (by decide) PySem.F.sub_str_dict PySem.F.slot_dict_eq PySem.F.slot_str_eq_refl (oW PySem.F.slot_dict_eq hd (typeIs_str s b u) PySem.F.sub_str_dict) (Fy PySem.F.slot_str_eq_refl ho hc g9)
  (λ_ hq=>wpAny_of_eq (rfl:isSame (.ref d) (.str b u)=pure false) hq) (.inr hu) h
def df.txt_rec {d:Addr}{kv:List (K×Value)}(hd:s.heap.DictOf knd d kv) (b:Str) (u:Tok) (hu:A.units<cLine):df P W A s (.str b u) (.ref d) false:=λE Q h=>by
 obtain ⟨o,es,ep,ho,hx,g9,_⟩:=id hd
 have ty:=hd.typeIs
 obtain ⟨o',ho',hc⟩:=id ty
 rw [ho] at ho'
 cases ho'
 exact SeqAt.rc_eq_decline_or (k:=false) (typeIs_str s b u) ty (by decide) PySem.F.sub_dict_str PySem.F.slot_str_eq PySem.F.slot_dict_eq_refl (Fy PySem.F.slot_str_eq ho hc g9) (oW PySem.F.slot_dict_eq_refl hd (typeIs_str s b u) PySem.F.sub_str_dict)
  (λ_ hq=>wpAny_of_eq (rfl:isSame (.str b u) (.ref d)=pure false) hq) (.inr hu) h
def oX {d t:Addr}{kv:List (K×Value)}{its:Array Value}(hd:s.heap.DictOf knd d kv) (ht:s.heap.IsTuple t its):d≠t:=λe=>by
 subst e
 obtain ⟨o,ho,hc⟩:=hd.typeIs
 obtain ⟨o2,ho2,gR,_⟩:=ht
 rw [ho] at ho2
 cases ho2
 rw [hc] at gR
 exact absurd gR (by simp)
def df.rec_row {d t:Addr}{kv:List (K×Value)}{its:Array Value}(hd:s.heap.DictOf knd d kv) (ht:s.heap.IsTuple t its) (hu:A.units<cLine):df P W A s (.ref d) (.ref t) false:=λE Q h=>by
 have ne:=oX hd ht
 obtain ⟨o,es,ep,ho,hx,g9,_⟩:=id hd
 have ty:=hd.typeIs
 obtain ⟨o',ho',hc⟩:=id ty
 rw [ho] at ho'
 cases ho'
 obtain ⟨ot,kO,nG,n,A5⟩:=id ht
 exact SeqAt.rc_eq_decline_or (k:=false) ty ⟨_,kO,nG⟩ (by decide) PySem.F.sub_tuple_dict PySem.F.slot_dict_eq PySem.F.slot_tuple_eq_refl (oW PySem.F.slot_dict_eq hd ⟨_,kO,nG⟩ PySem.F.sub_tuple_dict) (Fz PySem.F.slot_tuple_eq_refl kO nG A5 ho hc g9)
  (λ_ hq=>wpAny_isSame_ref_other ne ho kO (by rw [hc];simp) hq) (.inr hu) h
def df.row_rec {d t:Addr}{kv:List (K×Value)}{its:Array Value}(hd:s.heap.DictOf knd d kv) (ht:s.heap.IsTuple t its) (hu:A.units<cLine):df P W A s (.ref t) (.ref d) false:=λE Q h=>by
 have ne:=oX hd ht
 obtain ⟨o,es,ep,ho,hx,g9,_⟩:=id hd
 have ty:=hd.typeIs
 obtain ⟨o',ho',hc⟩:=id ty
 rw [ho] at ho'
 cases ho'
 obtain ⟨ot,kO,nG,n,A5⟩:=id ht
 exact SeqAt.rc_eq_decline_or (k:=false) ⟨_,kO,nG⟩ ty (by decide) PySem.F.sub_dict_tuple PySem.F.slot_tuple_eq PySem.F.slot_dict_eq_refl (Fz PySem.F.slot_tuple_eq kO nG A5 ho hc g9) (oW PySem.F.slot_dict_eq_refl hd ⟨_,kO,nG⟩ PySem.F.sub_tuple_dict)
  (λ_ hq=>SeqAt.wpAny_isSame_ref_other' ne.symm kO ho (by rw [hc];simp) hq) (.inr hu) h
inductive dr (P:Program) (W:World) (A:Around) (s:Shared) (kb:List (K×Value)):List (K×Value)->Bool->Prop
 |nil:dr P W A s kb [] true
 |miss {k:K} {v:Value} {r:List (K×Value)} (h:valueAt kb k=none):dr P W A s kb ((k,v)::r) false
 |hit {k:K} {v y:Value} {r:List (K×Value)} {e b:Bool} (h:valueAt kb k=some y) (he:fA P W A s v y e) (hr:dr P W A s kb r b):dr P W A s kb ((k,v)::r) (e&&b)
def dr.inv {kb r:List (K×Value)}{k:K}{v:Value}{b:Bool}(h:dr P W A s kb ((k,v)::r) b):(valueAt kb k=none/\b=false)\/∃y e c,valueAt kb k=some y/\fA P W A s v y e/\dr P W A s kb r c/\b=(e&&c):=by
 cases h with
 |miss h=>exact .inl ⟨h,rfl⟩
 |hit h he hr=>exact .inr ⟨_,_,_,h,he,hr,rfl⟩
def ue {nm:String}{a b:Addr}{ka kb:List (K×Value)}{r:Bool}{Q:Bool->Shared->Prop}(la:(a==sysModules)=false) (lb:(b==sysModules)=false) (da:s.heap.DictOf knd a ka) (db:s.heap.DictOf knd b kb)
  (hits:ka.length=kb.length->dr P W A s kb ka r) (h:Q (ka.length==kb.length&&r) s):wpAny (model P W) A (Builtin.Dict.samePairs nm a b) Q E s:=by
 obtain ⟨oa,ea,na,ga,_,qa,ha,pa,_⟩:=da
 obtain ⟨ob,eb,nb,gb,_,qb,hb,pb,_⟩:=db
 have za:ka.length=ea.size:=by rw [<-pa.length];exact Array.length_toList
 have zb:kb.length=eb.size:=by rw [<-pb.length];exact Array.length_toList
 have look:∀k,findBy knd.is eb k=valueAt kb k:=λk=>by
  rw [<-pb.find k]
  clear zb pb hb qb gb
  obtain ⟨l⟩:=eb
  simp [findBy]
 rw [za,zb] at h
 unfold Builtin.Dict.samePairs Builtin.Dict.showsAll
 rw [zK (by rw [la];decide),zK (by rw [lb];decide)]
 refine zB (yb (zB (yb (zB (wpAny_dictEntries ga qa ?_)))))
 dsimp only
 refine zB (wpAny_dictEntries gb qb ?_)
 by_cases hz:ea.size=eb.size
 ·have h':Q r s:=by simpa [hz] using h
  have hh:=hits (by rw [za,zb];exact hz)
  rw [zK (by rw [hz];simp)]
  refine zB (wpAny_dictEpoch ga qa (zB ?_))
  rw [Std.Legacy.Range.forIn_eq_forIn_range']
  simp only [Std.Legacy.Range.size,Nat.sub_zero,Nat.add_sub_cancel,Nat.div_one]
  refine wpAny_forIn_list _ (λrest q s'=>s'=s/\q=(none,())/\∃i,rest=List.range' i (ea.size-i)/\i<=ea.size/\dr P W A s kb (ka.drop i) r) _ ?_ ?_ _ _ ⟨rfl,rfl,0,by simp,jw _,hh⟩
  ·rintro x rest q s' ⟨rfl,rfl,i,hr,hi,hp⟩
   have lt:i<ea.size:=by
    rcases Nat.lt_or_ge i ea.size with c|c
    ·exact c
    ·rw [Nat.sub_eq_zero_of_le c] at hr;simp at hr
   have e0:ea.size-i=(ea.size-(i+1))+1:=by omega
   rw [e0,List.range'_succ] at hr
   injection hr with hx nE
   subst hx
   refine zB (wpAny_dictEntries ga qa ?_)
   rw [Array.getElem?_eq_getElem lt]
   have lt':x<ka.length:=by rw [za];exact lt
   obtain ⟨k,v,FA⟩:∃k v,ka[x]=(k,v):=⟨_,_,rfl⟩
   have A6:ka.drop x=(k,v)::ka.drop (x+1):=by rw [<-FA];exact we lt'
   obtain ⟨n6,FC⟩:=pa.get? (i:=x) (e:=ea[x]) (k:=k) (v:=v) (by rw [Array.getElem?_toList];exact Array.getElem?_eq_getElem lt) (by rw [yr lt',FA])
   obtain ⟨k',A7,hs⟩:=ha ea[x] (Array.getElem_mem lt)
   rw [knd.inj _ _ _ A7 n6] at hs
   rw [A6] at hp
   show wpAny _ _ (holding [ea[x].key,ea[x].val] _ >>= _) _ _ _
   rw [hs]
   refine zB (wv (zB (wpAny_dictFind_of n6 gb qb hb ?_)))
   cases hj:eb.findIdx? λe=>knd.is k e.key with
   |none =>
    have hn:valueAt kb k=none:=by rw [<-look k,findBy_of_findIdx?,hj]
    rcases hp.inv with ⟨_,er⟩|⟨y,_,_,hy,_⟩
    ·rw [er] at h'
     refine yb ?_
     show wpAny _ _ (if (!false)=true then _ else _) _ _ _
     rw [zx (by decide)]
     exact yb (yb h')
    ·rw [hn] at hy;exact nomatch hy
   |some j =>
    obtain ⟨jl,_,_⟩:=Array.findIdx?_eq_some_iff_getElem.mp hj
    have sF:valueAt kb k=some eb[j].val:=by
     rw [<-look k,findBy_of_findIdx?,hj]
     simp [Array.getElem?_eq_getElem jl]
    refine zB (wpAny_dictEntries gb qb ?_)
    rw [Array.getElem?_eq_getElem jl]
    rcases hp.inv with ⟨hn,_⟩|⟨y,e,c,hy,he,FF,er⟩
    ·rw [sF] at hn;exact nomatch hn
    ·have ey:eb[j].val=y:=Option.some.inj (sF.symm.trans hy)
     rw [<-ey,<-FC] at he
     refine wv (he _ _ ?_)
     cases e with
     |false =>
      rw [er,Bool.false_and] at h'
      show wpAny _ _ (if (!false)=true then _ else _) _ _ _
      rw [zx (by decide)]
      exact yb (yb h')
     |true =>
      rw [Bool.true_and] at er
      rw [<-er] at FF
      show wpAny _ _ (if (!true)=true then _ else _) _ _ _
      rw [zK (by decide)]
      refine zB (wpAny_dictEpoch ga qa ?_)
      rw [zK (by simp)]
      exact yb ⟨rfl,rfl,x+1,nE,lt,FF⟩
  ·rintro q s' ⟨rfl,rfl,i,hr,hi,hp⟩
   have Rm:i=ea.size:=by
    rcases Nat.lt_or_ge i ea.size with c|c
    ·have e:ea.size-i=(ea.size-(i+1))+1:=by omega
     rw [e,List.range'_succ] at hr;exact nomatch hr
    ·omega
   refine yb ?_
   rw [Rm,<-za,List.drop_length] at hp
   cases hp
   exact h'
 ·rw [zx (by simpa using hz)]
  have hf:(ea.size==eb.size)=false:=by simpa using hz
  rw [hf,Bool.false_and] at h
  exact zB (wpAny_rule (yb h))
def df.recs {a b:Addr}{ka kb:List (K×Value)}{r:Bool}(la:(a==sysModules)=false) (lb:(b==sysModules)=false) (da:s.heap.DictOf knd a ka) (db:s.heap.DictOf knd b kb) (hu:A.units<cLine)
  (hits:ka.length=kb.length->dr P W A.in1 s kb ka r):df P W A s (.ref a) (.ref b) (ka.length==kb.length&&r):=λE Q h=>by
 refine wpAny_richCompare_same_room (op:=.Eq) da.typeIs db.typeIs PySem.F.slot_dict_eq (wJ PySem.F.slot_dict_eq da.typeIs PySem.F.entry_dict_eq ?_ (PySem.F.args_dict_eq_2 _ _)) hu
 show wpAny _ _ (Builtin.Dict.dictSlotArgs "__eq__" ⟨[.ref a,.ref b],[]⟩ >>= _) _ _ s
 refine zB ?_
 unfold Builtin.Dict.dictSlotArgs
 refine zB (wpAny_notOrdered_dict da.typeIs ?_)
 show wpAny _ _ (pure (Value.ref a,Value.ref b)) _ _ s
 refine yb (zB (wpAny_isInstance (T := "dict") db.typeIs PySem.F.sub_dict_dict ?_))
 simp only [Bool.not_true,Bool.false_eq_true,if_false]
 refine zB (yb (zB (yb (zB (ue la lb da db hits ?_)))))
 refine yb ⟨_,rfl,(λx=>nomatch x),?_⟩
 simpa using h
end
def A8:Option SO->Bool
 |some (.dic _ _)=>true
 |_=>false
def gm (st:aa):PV->Option Nat
 |.int _=>some 0
 |.str _=>some 1
 |.tup _=>some 2
 |.ref a=>if A8 st[a]?=true then some 3 else none
 |_=>none
def l9 (f:PV->PV->Option Bool):Option SO->Option SO->Option Bool
 |some (.dic ks xs),some (.dic cq dG)=>if ks.Nodup/\ks.length=xs.length then if ks.length=cq.length then dI f cq dG ks xs else some false else none
 |_,_=>none
def A9:Option Nat->Option Nat->Option Bool
 |some i,some j=>if i=j then none else some false
 |_,_=>none
def eqT (st:aa):Nat->PV->PV->Option Bool
 |0,_,_=>none
 | n+1,x,y=>match x,y with
  |.int a,.int b=>some (a==b)
  |.str a,.str b=>some (a==b)
  |.tup xs,.tup ys=>di (eqT st n) xs ys
  |.ref a,.ref b=>l9 (eqT st n) st[a]? st[b]?
  |x,y=>A9 (gm st x) (gm st y)
section
variable {X:Cx} {K:Frag} {mg:Ab} {ρ:Af} {pins:Ac} {σ:L2.St} {H:Hp} {s:Shared} {st:aa}
inductive Kn (K:Frag) (mg:Ab) (ρ:Af) (H:Hp) (st:aa):PV->V->Nat->Prop
 |num (i:Int):Kn K mg ρ H st (.int i) (.int i) 0
 |txt (z:Str):Kn K mg ρ H st (.str z) (.str z) 1
 |row {xs:Aq} {a:Addr} {vs:List V} (h:bD K H a vs) (r:Rs K mg ρ H xs vs):Kn K mg ρ H st (.tup xs) (.ref a) 2
 |rec_ {n:Nat} {a:Addr} {ks:Ae} {xs:Aq} {vs:List V} (e:st[n]?=some (.dic ks xs)) (ha:ρ[n]?=some a) (h:H a=some (.dK (kz ks vs))) (r:Rs K mg ρ H xs vs) (l:ks.length=vs.length):Kn K mg ρ H st (.ref n) (.ref a) 3
def Kn.of (S:bu K mg ρ H st) {x:PV}{v:V}{i:Nat}(r:R K mg ρ H x v) (h:gm st x=some i):Kn K mg ρ H st x v i:=by
 cases x with
 |int j=>cases h;cases r;exact .num j
 |str z=>cases h;cases r;exact .txt z
 |tup xs=>cases h;obtain ⟨a,vs,rfl,h1,h2⟩:=r;exact .row h1 h2
 |ref n =>
  simp only [gm] at h
  split at h
  ·rename_i hd
   cases h
   cases e:st[n]? with
   |none=>rw [e] at hd;cases hd
   |some so =>
    cases so with
    |dic ks xs =>
     obtain ⟨a,vs,rfl,ha,k1,k2,k3⟩:=R.refD S r e
     exact .rec_ e ha k1 k2 k3
    |lst _=>rw [e] at hd;cases hd
    |ins _ _ _=>rw [e] at hd;cases hd
    |fdi _ _=>rw [e] at hd;cases hd
    |dit _ _=>rw [e] at hd;cases hd
  ·cases h
 |_=>cases h
def Ro (I:Inv X pins σ H s) {x y:PV}{v:V}{i j:Nat}(hx:Kn X.K mg ρ H st x v i) (hy:Kn X.K mg ρ H st y v j):i=j:=by
 cases hx with
 |num=>cases hy;rfl
 |txt=>cases hy;rfl
 |row h1 r1 =>
  cases hy with
  |row=>rfl
  |rec_ e ha h2 =>
   obtain ⟨_,_,kv,_,d⟩:=jW I.hok (.inl h2)
   obtain ⟨its,_,p,_⟩:=I.tuple h1
   exact absurd rfl (oX d p)
 |rec_ e ha h2 =>
  cases hy with
  |rec_=>rfl
  |row h1 r1 =>
   obtain ⟨_,_,kv,_,d⟩:=jW I.hok (.inl h2)
   obtain ⟨its,_,p,_⟩:=I.tuple h1
   exact absurd rfl (oX d p)
def Rp (I:Inv X pins σ H s) {x y:PV}{v w:V}{u u':Value}{i j:Nat}{A:Around}(hx:Kn X.K mg ρ H st x v i) (hy:Kn X.K mg ρ H st y w j) (rv:RelV v u) (rw:RelV w u') (d_:i≠j) (hu:A.units<cLine):fA X.prog X.w A s u u' false/\df X.prog X.w A s u u' false:=by
 cases hx with
 |num a =>
  obtain ⟨t,rfl⟩:=rv
  cases hy with
  |num=>exact absurd rfl d_
  |txt b=>obtain ⟨t',rfl⟩:=rw;exact ⟨λE Q q=>SeqAt.EqAt.int_str a t b t' _ _ E Q q,λE Q q=>SeqAt.RcAt.int_str a t b t' _ _ E Q q⟩
  |row h1 r1 =>
   cases rw
   obtain ⟨its,_,p,_⟩:=I.tuple h1
   exact ⟨λE Q q=>SeqAt.EqAt.int_tuple a t p hu _ _ E Q q,λE Q q=>SeqAt.RcAt.int_tuple a t p hu _ _ E Q q⟩
  |rec_ e ha h2 =>
   cases rw
   obtain ⟨_,_,kv,_,d⟩:=jW I.hok (.inl h2)
   exact ⟨.of_num (.num_rec d a t hu),.num_rec d a t hu⟩
 |txt a =>
  obtain ⟨t,rfl⟩:=rv
  cases hy with
  |txt=>exact absurd rfl d_
  |num b=>obtain ⟨t',rfl⟩:=rw;exact ⟨λE Q q=>SeqAt.EqAt.str_int a t b t' _ _ E Q q,λE Q q=>SeqAt.RcAt.str_int a t b t' _ _ E Q q⟩
  |row h1 r1 =>
   cases rw
   obtain ⟨its,_,p,_⟩:=I.tuple h1
   exact ⟨λE Q q=>SeqAt.EqAt.str_tuple a t p hu _ _ E Q q,λE Q q=>SeqAt.RcAt.str_tuple a t p hu _ _ E Q q⟩
  |rec_ e ha h2 =>
   cases rw
   obtain ⟨_,_,kv,_,d⟩:=jW I.hok (.inl h2)
   exact ⟨.of_txt (.txt_rec d a t hu),.txt_rec d a t hu⟩
 |row h0 r0 =>
  cases rv
  obtain ⟨its,_,p,_⟩:=I.tuple h0
  cases hy with
  |row=>exact absurd rfl d_
  |num b=>obtain ⟨t',rfl⟩:=rw;exact ⟨λE Q q=>SeqAt.EqAt.tuple_int b t' p hu _ _ E Q q,λE Q q=>SeqAt.RcAt.tuple_int b t' p hu _ _ E Q q⟩
  |txt b=>obtain ⟨t',rfl⟩:=rw;exact ⟨λE Q q=>SeqAt.EqAt.tuple_str b t' p hu _ _ E Q q,λE Q q=>SeqAt.RcAt.tuple_str b t' p hu _ _ E Q q⟩
  |rec_ e ha h2 =>
   cases rw
   obtain ⟨_,_,kv,_,d⟩:=jW I.hok (.inl h2)
   have ne:=oX d p
   exact ⟨.of_ref (λz=>ne (by injection z with z;exact z.symm)) (.row_rec d p hu),.row_rec d p hu⟩
 |rec_ e0 ZA h0 =>
  cases rv
  obtain ⟨_,_,kv,_,d⟩:=jW I.hok (.inl h0)
  cases hy with
  |rec_=>exact absurd rfl d_
  |num b=>obtain ⟨t',rfl⟩:=rw;exact ⟨.of_ref nofun (.rec_num d b t' hu),.rec_num d b t' hu⟩
  |txt b=>obtain ⟨t',rfl⟩:=rw;exact ⟨.of_ref nofun (.rec_txt d b t' hu),.rec_txt d b t' hu⟩
  |row h1 r1 =>
   cases rw
   obtain ⟨its,_,p,_⟩:=I.tuple h1
   have ne:=oX d p
   exact ⟨.of_ref (λz=>ne (by injection z)) (.rec_row d p hu),.rec_row d p hu⟩
def Rq {a b:Option Nat}{k:Bool}(h:A9 a b=some k):∃i j,a=some i/\b=some j/\i≠j/\k=false:=by
 unfold A9 at h
 split at h
 ·split at h
  ·cases h
  ·rename_i i j c;cases h;exact ⟨i,j,rfl,rfl,c,rfl⟩
 ·cases h
inductive oY (st:aa) (f:PV->PV->Option Bool):PV->PV->Bool->Prop
 |num (a b:Int):oY st f (.int a) (.int b) (a==b)
 |txt (a b:Str):oY st f (.str a) (.str b) (a==b)
 |row {xs ys:Aq} {k:Bool} (h:di f xs ys=some k):oY st f (.tup xs) (.tup ys) k
 |rec_ {a b:Nat} {k:Bool} (h:l9 f st[a]? st[b]?=some k):oY st f (.ref a) (.ref b) k
 |apart {x y:PV} {i j:Nat} (hx:gm st x=some i) (hy:gm st y=some j) (h:i≠j):oY st f x y false
def ziK {n:Nat}{x y:PV}{k:Bool}(h:eqT st (n+1) x y=some k):oY st (eqT st n) x y k:=by
 unfold eqT at h
 split at h
 ·cases h;exact .num _ _
 ·cases h;exact .txt _ _
 ·exact .row h
 ·exact .rec_ h
 ·obtain ⟨i,j,h1,h2,h3,rfl⟩:=Rq h
  exact .apart h1 h2 h3
def FG {f:PV->PV->Option Bool}{a b:Option SO}{k:Bool}(h:l9 f a b=some k):∃ks xs cq dG,a=some (.dic ks xs)/\b=some (.dic cq dG)/\ks.Nodup/\ks.length=xs.length/\((ks.length=cq.length/\dI f cq dG ks xs=some k)\/(ks.length≠cq.length/\k=false)):=by
 unfold l9 at h
 split at h
 ·rename_i ks xs cq dG
  split at h
  ·rename_i c
   split at h
   ·rename_i c';exact ⟨_,_,_,_,rfl,rfl,c.1,c.2,.inl ⟨c',h⟩⟩
   ·rename_i c';cases h;exact ⟨_,_,_,_,rfl,rfl,c.1,c.2,.inr ⟨c',rfl⟩⟩
  ·cases h
 ·cases h
def FH (I:Inv X pins σ H s) (S:bu X.K mg ρ H st):∀(n:Nat) (x y:PV) (v:V) (b:Bool),eqT st n x y=some b->R X.K mg ρ H x v->R X.K mg ρ H y v->b=true:=by
 intro n
 induction n with
 |zero=>intro x y v b h;cases h
 |succ n ih =>
  intro x y v b h rx ry
  cases ziK h with
  |num a c=>cases rx;cases ry;simp
  |txt a c=>cases rx;cases ry;simp
  |row h0 =>
   obtain ⟨a,vs,rfl,h1,h2⟩:=rx
   obtain ⟨a',ws,e,h3,h4⟩:=ry
   cases e
   have:=I.tuple_inj h1 h3
   subst this
   exact Fq (λx y v b=>ih x y v b) h0 h2 h4
  |@rec_ i j _ h0 =>
   obtain ⟨a,rfl,h1⟩:=rx
   obtain ⟨a',e,h2⟩:=ry
   cases e
   obtain rfl:=Rf S.nd h1 h2
   obtain ⟨ks,xs,cq,dG,e1,e2,nd,hl,hc⟩:=FG h0
   rw [e1] at e2
   cases e2
   obtain ⟨vs,_,k2,_⟩:=S.addr e1 h1
   rcases hc with ⟨_,hc⟩|⟨hc,_⟩
   ·exact Ft (λx v b e r=>ih x x v b e r r) (Fu nd) hc k2
   ·exact absurd rfl hc
  |apart hx hy d_=>exact absurd (Ro I (Kn.of S rx hx) (Kn.of S ry hy)) d_
theorem FI {A:Around}{f:PV->PV->Option Bool}(hf:∀x y v w u u' b,f x y=some b->R K mg ρ H x v->R K mg ρ H y w->RelV v u->RelV w u'->fA X.prog X.w A s u u' b) {cq:Ae}{dG:Aq}{ws:List V}{kb:List (Key×Value)}(r':Rs K mg ρ H dG ws) (A_:KV (kz cq ws) kb) :
  ∀{ks:Ae} {xs:Aq} {vs:List V} {ka:List (Key×Value)} {b:Bool},ks.length=vs.length->Rs K mg ρ H xs vs->KV (kz ks vs) ka->dI f cq dG ks xs=some b->dr X.prog X.w A s kb ka b
 |[],xs,[],ka,b,_,_,kv,h=>by
  have:b=true:=by cases xs<;>(cases h;rfl)
  subst this
  cases kv
  exact .nil
 |[],xs,_::_,ka,b,hl,_,_,_=>by simp at hl
 |k::ks,xs,[],ka,b,hl,_,_,_=>by simp at hl
 |k::ks,xs,v::vs,ka,b,hl,r,kv,h=>by
  obtain ⟨u,ZC,rfl,ru,Rr⟩:=AZ kv
  cases xs with
  |nil=>cases r
  |cons x xs =>
   obtain ⟨v',ZD,e,r1,r2⟩:=r
   cases e
   simp only [dI] at h
   have hv:=A_.val (Sum.inr k)
   rw [AK] at hv
   cases hl2:(cq.zip dG).lookup k with
   |none =>
    rw [hl2] at h
    cases h
    rw [Fv r' hl2] at hv
    cases hu:valueAt kb (Sum.inr k) with
    |none=>exact .miss hu
    |some _=>rw [hu] at hv;exact (show False from hv).elim
   |some y =>
    rw [hl2] at h
    simp only at h
    cases h1:f x y with
    |none=>rw [h1] at h;cases h
    |some a =>
     cases h2:dI f cq dG ks xs with
     |none=>rw [h1,h2] at h;cases h
     |some c =>
      rw [h1,h2] at h
      cases h
      obtain ⟨w,hw,dm⟩:=oS r' hl2
      rw [hw] at hv
      cases hu:valueAt kb (Sum.inr k) with
      |none=>rw [hu] at hv;exact (show False from hv).elim
      |some u' =>
       rw [hu] at hv
       exact .hit hu (hf x y v w u u' a h1 r1 dm ru hv) (FI hf r' A_ (by simpa using hl) r2 Rr h2)
def Ru (I:Inv X pins σ H s) (S:bu X.K mg ρ H st):∀(n:Nat) (x y:PV) (v w:V) (u u':Value) (b:Bool) (A:Around),eqT st n x y=some b->R X.K mg ρ H x v->R X.K mg ρ H y w->RelV v u->RelV w u'->A.units+n<cLine ->
  fA X.prog X.w A s u u' b/\df X.prog X.w A s u u' b:=by
 intro n
 induction n with
 |zero=>intro x y v w u u' b A h;cases h
 |succ n ih =>
  intro x y v w u u' b A h rx ry rv rw hu
  cases ziK h with
  |num a c=>cases rx;cases ry;obtain ⟨t,rfl⟩:=rv;obtain ⟨t',rfl⟩:=rw;exact ⟨λE Q q=>SeqAt.EqAt.int_int a t c t' _ _ E Q q,λE Q q=>SeqAt.RcAt.int_int a t c t' _ _ E Q q⟩
  |txt a c=>cases rx;cases ry;obtain ⟨t,rfl⟩:=rv;obtain ⟨t',rfl⟩:=rw;exact ⟨λE Q q=>SeqAt.EqAt.str_str a t c t' _ _ E Q q,λE Q q=>SeqAt.RcAt.str_str a t c t' _ _ E Q q⟩
  |row h0 =>
   obtain ⟨a,vs,rfl,h1,h2⟩:=id rx
   obtain ⟨a',ws,rfl,h3,h4⟩:=id ry
   cases rv
   cases rw
   obtain ⟨its,r1,p1,_⟩:=I.tuple h1
   obtain ⟨a_,r2,p2,_⟩:=I.tuple h3
   obtain ⟨e,he,hb⟩:=Fp h0
   have it:=Rj (G:=fA X.prog X.w A.in1 s) (λx y v w u u' b e r1 r2 r3 r4=>(ih x y v w u u' b A.in1 e r1 r2 r3 r4 (by rw [tK];omega)).1) h2 h4 r1 r2 he
   have eb:((List.range (min its.toArray.size a_.toArray.size)).all e&&its.toArray.size==a_.toArray.size)=b:=by
    rw [h2.len,h4.len,r1.length,r2.length] at hb
    simpa using hb
   have rc:df X.prog X.w A s (.ref a) (.ref a') b:=by
    rw [<-eb]
    exact df.tuples (show s.heap.IsTuple a its.toArray from p1) (show s.heap.IsTuple a' a_.toArray from p2) (by omega) it
   refine ⟨?_,rc⟩
   by_cases fz:a=a'
   ·subst fz
    rw [FH I S (n+1) _ _ _ _ h rx ry]
    exact λE Q q=>SeqAt.EqAt.same _ _ _ E Q q
   ·exact .of_refs fz rc
  |@rec_ i j _ h0 =>
   obtain ⟨a,rfl,h1⟩:=id rx
   obtain ⟨a',rfl,h2⟩:=id ry
   cases rv
   cases rw
   obtain ⟨ks,xs,cq,dG,e1,e2,nd,hl,hc⟩:=FG h0
   obtain ⟨vs,k1,k2,k3⟩:=S.addr e1 h1
   obtain ⟨ws,k4,k5,k6⟩:=S.addr e2 h2
   obtain ⟨_,s1,ka,FJ,da⟩:=jW I.hok (.inl k1)
   obtain ⟨_,s2,kb,FK,db⟩:=jW I.hok (.inl k4)
   have la:ka.length=ks.length:=by rw [<-FJ.length];simp [kz,k3]
   have lb:kb.length=cq.length:=by rw [<-FK.length];simp [kz,k6]
   have both:df X.prog X.w A s (.ref a) (.ref a') b:=by
    rcases hc with ⟨kQ,hc⟩|⟨kQ,rfl⟩
    ·have hits:ka.length=kb.length->dr X.prog X.w A.in1 s kb ka b:=λ_=>FI (λx y v w u u' b e r1 r2 r3 r4=>(ih x y v w u u' b A.in1 e r1 r2 r3 r4 (by rw [tK];omega)).1) k5 FK k3 k2 FJ hc
     have qi:(ka.length==kb.length&&b)=b:=by rw [la,lb,kQ];simp
     rw [<-qi]
     exact df.recs s1 s2 da db (by omega) hits
    ·have qi:(ka.length==kb.length&&true)=false:=by rw [la,lb];simpa using kQ
     rw [<-qi]
     exact df.recs s1 s2 da db (by omega) λz=>absurd (by rw [<-la,<-lb];exact z) kQ
   refine ⟨?_,both⟩
   by_cases fz:a=a'
   ·subst fz
    rw [FH I S (n+1) _ _ _ _ h rx ry]
    exact λE Q q=>SeqAt.EqAt.same _ _ _ E Q q
   ·exact .of_refs fz both
  |apart hx hy d_=>exact Rp I (Kn.of S rx hx) (Kn.of S ry hy) rv rw d_ (by omega)
def l_:Ao:=λx y st=>match eqT st 150 x y with
 |some b=>.ok (.bl b) st
 |none=>.stuck
def Rv (K:Frag) (mg:Ab):R2:=λv w H Q=>∃ρ st x y b,bu K mg ρ H st/\eqT st 150 x y=some b/\R K mg ρ H x v/\R K mg ρ H y w/\Q (.bl b) H
def Rw (hu:X.A.units+200<cLine):bz X (compareOp .Eq) (Rv X.K X.mg):=by
 intro pins s σ H x y v u Q I rx ry h
 obtain ⟨ρ,st,a,b,k,S,e,ra,rb,q⟩:=h
 exact (Ru I S 150 a b x y v u k X.A e ra rb rx ry (by omega)).2 _ _ ⟨.bl k,H,I,rfl,q⟩
def zrj (hu:X.A.units+200<cLine):cf X .Eq l_:=⟨_,Rw hu,fun ρ H st x y v w Q E s rx ry h=>by
 unfold l_ at h
 cases e:eqT st 150 x y with
 |none=>rw [e] at h;exact h.elim
 |some b=>rw [e] at h;exact ⟨ρ,st,x,y,b,s,e,rx,ry,h.now s _ rfl⟩⟩
end
section
variable {X:Cx} {Er:XK} {mg:Ab} {ρ:Af} {pins:Ac} {σ:L2.St} {H:Hp} {s:Shared} {st:aa} {o:Expr} {fo:Aj} {apos bg p0 qM:Pos}
open Classical in
open Classical in
theorem FL:∀{ks:Ae}{vs:List V}{kv:List (Key×Value)},ks.length=vs.length->KV (kz ks vs) kv->Vals vs (kv.map (·.2))
 |[],[],_,_,h=>by cases h;exact .nil
 |[],_::_,_,hl,_=>by simp at hl
 |_::_,[],_,hl,_=>by simp at hl
 |k::ks,v::vs,kv,hl,h=>by
  obtain ⟨u,r,rfl,h1,h2⟩:=AZ h
  exact .cons h1 (FL (by simpa using hl) h2)
def Rx (to:TE):TE:=fun σ H Q=>to σ H λx H1=>∃a ks vs,x=.ref a/\H1 a=some (.dK (kz ks vs))/\ks.length=vs.length/\∀l,H1 l=none->Q (.ref l) (upd H1 l (.lst vs))
def Ry {to:TE} (hc:X.calm=true) (Ba:Gl X "list") (Bc:X.mg "list" = none) (ho:PE X o to) (c7:attributeBase o "values" X.env (eval o X.env)=eval o X.env) (c_:(apos.endLine==bg.line)=true) :
  PE X (.Call (.Name "list" p0) [.Call (.Attribute o "values" apos) [] [] bg] [] qM) (Rx to):=by
 intro pins s σ H Q I h
 refine PyProof.Rows.Call_ (iD I Ba Bc AF (PyProof.Rows.callWith_type1 ?_ rfl rfl))
 show wpAny _ _ (spliced ((false,eval (.Call (.Attribute o "values" apos) [] [] bg) X.env)::backTo qM (starEach [] X.env))) _ _ s
 refine Calls.spliced_cons ?_
 refine wpAny_Call_method0_late c7 c_ (a0 (ho pins s σ H _ I h) λv s1 ⟨x,H1,I1,r1,q1⟩=>?_)
 obtain ⟨a,ks,vs,rfl,e,hl,q⟩:=q1
 obtain rfl:v=Value.ref a:=r1
 obtain ⟨hz,lo,kv,iM,hd⟩:=jW I1.hok (.inl e)
 obtain ⟨ep,nF⟩:=hd.dictAt
 refine ⟨"dict", "dict.values", PySem.F.plainAttrs_dict,PySem.F.slot_dict_values,PySem.F.type_dict_values,?_,?_,Calls.callWith_builtin rfl (PySem.evalArgs_none (call_meetsIn PySem.F.slot_dict_values hd.typeIs PySem.F.entry_dict_values (PySem.F.args_dict_values_1 _) (meets_dict_values (bb X.prog X.w) a lo) ⟨⟨kv,hd⟩,?_⟩))⟩
 ·exact (w_ I1 (x:=.ref a) rfl (.inr (.inr (.inl ⟨rfl,.inl ⟨_,e⟩⟩)))).1
 ·exact (w_ I1 (x:=.ref a) rfl (.inr (.inr (.inl ⟨rfl,.inl ⟨_,e⟩⟩)))).2
 refine Calls.spliced_nil ?_
 have hle:s1.heap.objs.size<=(s1.heap.push { cls:=.type "dict_values", data:=.fields #[.ref a] }).objs.size:=by rw [Heap.size_push];exact Nat.le_succ _
 refine kdl_call (s:={ s1 with heap:=s1.heap.push { cls:=.type "dict_values", data:=.fields #[.ref a] } }) (kdl_values (knd:=bb X.prog X.w) (kvs:=kv) (ep:=ep)) (I.ok.hd hc) ⟨⟨_,yY _ rfl,rfl,rfl⟩,nF.push _⟩ (by rw [<-iM.length];exact hz) λh' tk cw c' hk hS fX=>?_
 have ev:cw.toList=kv.map (·.2):=kdl_vals_eq _ (by rw [Array.length_toList];exact fX.1) λj u e=>fX.2 j u (by rw [<-Array.getElem?_toList];exact e)
 have hv:Vals vs cw.toList:=by rw [ev];exact FL hl iM
 have lv:vs.length<=sizeLine:=by
  have:(kz ks vs).length=vs.length:=by simp [kz,hl]
  rw [<-this];exact hz
 exact ⟨.ref _,_,I1.laid (t':=tk) (λb ob eb=>hk b ob (yk _ eb)) hle (show bo X.prog X.w _ h' _ (.lst vs) from ⟨lv,cw.toList,c',hv,by simpa using hS⟩),rfl,q _ (I1.hok.fresh hle)⟩
def FN:PV->Mo PV
 |.ref n,st=>yW st n λ_ xs=>.ok (.ref st.length) (st++[.lst xs])
 |_,_=>.stuck
def Rz (hc:X.calm=true) (Bc:X.mg "list" = none) (ho:ME X Er o fo) (Ba:Gl X "list" := by rfl) (c7:attributeBase o "values" X.env (eval o X.env)=eval o X.env:=by rfl) (c_:(apos.endLine==bg.line)=true:=by rfl) :
  ME X Er (.Call (.Name "list" p0) [.Call (.Attribute o "values" apos) [] [] bg] [] qM) (yc FN fo) :=
 PE.weak (Ry hc Ba Bc ho c7 c_) fun σ H Q ⟨env,st,ρ,re,rs,h⟩=>⟨env,st,ρ,re,rs,h.then λah H1 x ae e1 s1 h1 v rv=>by
  cases x with
  |ref n =>
   obtain ⟨ks,xs,e,h1⟩:=tE h1
   obtain ⟨a,vs,rfl,_,k1,k2,k3⟩:=R.refD s1 rv e
   exact ⟨a,ks,vs,rfl,k1,k3,λl hl=>Out.newList (xs:=xs) h1 s1 k2 hl⟩
  |_=>exact h1.elim⟩
end
end Mi
namespace L2
open PySem PySem.Spec PyProof.Rows
def RA (iy:Nat) (wi:TI) (te:TE):TS:=λD σ H=>wi σ H λJ H1=>mQ J te σ (λv H2=>D.nx (σ.set iy (some v)) H2) H1
def RB {X:Cx} {elt iter:Expr} {x y:Str} {px pos pos' gA:Pos} {scope:Scope} {wi:TI} {te:TE} {M:Ae} {iy:Nat} (hc:X.calm=true) (S:dP X.env.scope scope x) (eN:Hid scope M X.N) (dc:((".0" : Str)::x::M).Nodup)
  (hi:PI X (.Name x px) iter wi) (he:∀cl C ag ai fp,PE (lJ X M scope cl x C ag ai fp (λ_ _=>False)) elt te) (qO:X.N.Nodup) (qP:X.N[iy]?=some y) (hy:Loc X.env.scope y) (qQ:X.fn y=true\/X.env.scope.names.lookup y=some .local)
  (qR:swapsWith (.ListComp elt [⟨.Name x px,iter,[],0⟩] scope pos) (some (.Name y pos')) gA.line X.env=pure true) (hs:∀v,foldedSetIterable iter X.env v=pure v:=by intro _;rfl):PS X (.Assign [.Name y pos'] (.ListComp elt [⟨.Name x px,iter,[],0⟩] scope pos) gA) (RA iy wi te):=by
 intro pins s σ H Dn I h
 have hN:(x::M).Nodup:=(jU.mp dc).2
 have xn:(".0" : Str)∉M:=λz=>(jU.mp dc).1 (jH _ z)
 obtain ⟨cl,mS,dC,lL⟩:=DP X.env scope λp hp hf=>I.ok.has p.1 (.inl (S.free p hp hf))
 have mT:X.env.scope.kind=.function:=I.ok.kind
 rw [exec_Assign_Name_used _ _ _ _ qR]
 refine zB (wpAny_standAt ?_)
 rw [arm_evalThenUse_ListComp]
 refine zB (zB (wpAny_comprehension_free (Q:=λ_ s'=>wpAny (model X.prog X.w) X.A (pure ():Sem Unit) (λ_ s'=>wpAny (model X.prog X.w) X.A (pure .next:Sem Flow) (SP X pins Dn) X.xe s') X.xe s') (use:=some (assign (.Name y pos') X.env)) rfl hs mS S.kind (λy hy hl=>(S.names y hy hl).1) ?_))
 refine a0 (hi pins s σ H _ I h) λv s1 h1=>a0 h1 λsy ag h2=>?_
 obtain ⟨it,fp,tn,J,H2,e,I2,T,aQ,f2,W,⟨m0,w0⟩,turn⟩:=h2
 subst e
 refine pS (wpAny_newFunctionEnv S.ncell (by intro y hy;simp at hy) (λaA aD aB=>?_) S.kind)
 dsimp only at aD aB ⊢
 generalize hH2:ag.heap.push { cls:=.type "list", dict:=none,data:=.seq ([]:Ag).toArray }=G2 at aD aB ⊢
 have hC:G2.objs.size=ag.heap.objs.size+1:=by rw [<-hH2,Heap.size_push]
 have iG:ag.heap.objs.size≠G2.objs.size:=by rw [hC];exact yN (wg _)
 have DX:ag.heap.objs.size<=G2.objs.size:=by rw [hC];exact Nat.le_succ _
 have old:∀b o,ag.heap.get? b=some o->aA.get? b=some o:=λb o e=>by
  have hb:b≠G2.objs.size:=by rw [hC];exact yN (Nat.lt_succ_of_lt (yn e))
  exact aB.extBut b o hb (yk _ (hH2▸yk _ e))
 have eA:aA.get? ag.heap.objs.size=some { cls:=.type "list", data:=.seq (#[]:Array Value) 0 }:=aB.extBut _ _ iG (yk _ (hH2▸yY _ rfl))
 generalize hD:ag.heap.objs.size=D at *
 generalize hCC:G2.objs.size=C at *
 have fw:∀{b:Nat} {o:Obj},ag.heap.get? b=some o->b<D:=λe=>by rw [<-hD];exact yn e
 have nofr:∀b,D<=b->b∉dw X.stack:=λb hb z=>by
  rcases yI.mp (I2.stkSub b z) with q|q
  ·exact DL I2.lt hD hb q
  ·exact I2.nofs (by rw [hD];exact hb) q
 let E':Aa:=notedBy (model X.prog X.w) X.A (compEnvC scope cl C X.env) λe s'=>compPost (model X.prog X.w) X.A X.xe (some (assign (.Name y pos') X.env)) (λ_ s'=>wpAny (model X.prog X.w) X.A (pure ():Sem Unit) (λ_ s'=>wpAny (model X.prog X.w) X.A (pure .next:Sem Flow) (SP X pins Dn) X.xe s') X.xe s') (.ref D) C (.error e) s'
 let Y:Cx:=lJ X M scope cl x C ag H2 fp E'
 have d8:∀b∈fp,dy X pins H2 b:=f2
 have mV:Y.Ok:=by
  refine ⟨I2.ok.mod,S.kind,I2.ok.glob,I2.ok.blt,(by show ag.heap.objs.size<=C;omega),λy z c h1 h2=>?_,λy hy=>?_,λy c hf=>?_,I2.ok.hd,I2.ok.frames,.inl rfl,λb hb=>?_,I2.bs,jv I2.ok.bsz I2.sz,λb o hb hx=>?_,λb hb hx=>?_,I2.stack,I2.stkFree⟩
  ·exact I2.ok.inj y z c (dC y c h1) (dC z c h2)
  ·exact lL y (xj S mT hy)
  ·cases hf
  ·refine ⟨λz=>?_,λy c hy=>(d8 b hb).2.2.2.2.1 y c (dC y c hy)⟩
   obtain ⟨o,ho,_⟩:=T.obj 0 _ aQ b hb
   exact mP (fw ho) hC z
  ·rcases (d8 b hx).2.2.2.1 with z|z
   ·exact I2.ok.noex b o hb z
   ·exact DM (yn hb) I2.ok.bsz z
  ·rcases yI.mp (I2.stkSub b hx) with q|q
   ·exact (d8 b hb).2.1 q
   ·exact (d8 b hb).2.2.1 q
 have gg:∀{s':Shared} {H':Hp} {o:Obj},s'.heap.get? D=some o->H' D=none->(∀v,o.data ≠ .cell v)->∀p∈[(D,o)],s'.heap.get? p.1=some p.2/\H' p.1=none/\p.1≠Y.env.locals/\p.1∉Y.fs/\∀v,p.2.data ≠ .cell v:=λ{s' H' o} e1 e2 e3 p hp=>by
  have ep:p=(D,o):=by simpa using hp
  subst ep
  exact ⟨e1,e2,iG,nofr D (yf _),e3⟩
 have I0:Inv Y [(D,{ cls:=.type "list", data:=.seq (#[]:Array Value) 0 })] (none::σ) H2 { ag with heap:=aA,toks:=ag.toks+([]:List (Str×Value)).length }:=by
  have fresh:∀b,D<=b->H2 b=none:=λb hb=>I2.hok.fresh (by rw [hD];exact hb)
  refine ⟨mV,rfl,I2.bare,Un.kept old,⟨_,aD,λi y v e1 e2 e3=>?_⟩,λy c hy=>?_,fresh C (by omega),λy c hy=>I2.freeC y c (dC y c hy),λp hp=>gg eA (fresh D (yf _)) (λv z=>by cases z) p hp,I2.hok.kept old,?_⟩
  ·cases i with
   |zero=>simp at e2
   |succ i =>
    have qj:M[i]?=some y:=by simpa [Y,lJ] using e1
    have xo:X.N[i]?=some y:=by
     rcases eN.get qj with q|q
     ·exact q
     ·refine absurd ?_ q
      rcases e3 with e3|e3|e3<;>(obtain ⟨k0,hm,_⟩:=lK e3;exact jI.mpr ⟨_,hm,rfl⟩)
    have xq:σ[i]?=some (some v):=by simpa using e2
    have lP:¬(y=x\/y = ".0"):=λz=>by
     have hm:=iq qj
     rcases z with z|z
     ·rw [z] at hm
      exact (jU.mp hN).1 hm
     ·rw [z] at hm
      exact xn hm
    have fP:(y,NameKind.free)∈scope.names:=by
     rcases e3 with e3|e3|e3
     ·exact absurd (DR S e3) lP
     ·exact xj S mT (.inl e3)
     ·exact xj S mT (.inr e3)
    have qk:X.env.scope.names.lookup y=some .cell:=S.free _ fP rfl
    obtain ⟨m,hn,hl⟩:=I2.loc
    obtain ⟨u,r,l⟩:=hl i y v xo xq (.inr (.inl qk))
    refine ⟨u,r,?_⟩
    rcases l with ⟨hk,_⟩|⟨_,c,oo,eO⟩
    ·have:X.env.kindOf y=some .cell:=qk
     rw [this] at hk;cases hk
    ·obtain ⟨c',dv⟩:=lL y fP
     have:=dC y c' dv
     rw [oo] at this
     cases this
     refine .inr ⟨?_,c,dv,?_⟩
     ·rcases e3 with e3|e3|e3
      ·exact absurd (DR S e3) lP
      ·exact .inl e3
      ·exact .inr e3
     ·obtain ⟨o,ho,hd⟩:=eO
      exact ⟨o,old c o ho,hd⟩
  ·obtain ⟨v,o,ho,hd⟩:=I2.cell y c (dC y c hy)
   exact ⟨v,o,old c o ho,hd⟩
  ·show (none::σ).length=(x::M).length
   simp [I2.len,eN.1]
 have mW:∀{pl:Ac} {H':Hp},(∀p∈pl,p.1=D)->(∀b∈fp,H' b=none)->∀b∈fp,dy Y pl H' b:=λ{pl H'} bX hn b hb=>by
  obtain ⟨o,ho,_⟩:=T.obj 0 _ aQ b hb
  refine ⟨hn b hb,λz=>?_,?_,.inl hb,(mV.exf b hb).2,λp hp z=>?_⟩
  ·exact mP (fw ho) hC z
  ·exact mV.exfs b hb
  ·have oG:p∈pl:=by simpa [Y,lJ] using hp
   exact DN (fw ho) (bX p oG) z
 have loop:codeAny (model X.prog X.w) X.A (.compLoop (.ListComp elt [⟨.Name x px,iter,[],0⟩] scope pos) 0 (.ref it) (.ref D) (compEnvC scope cl C X.env))
   (compPost (model X.prog X.w) X.A X.xe (some (assign (.Name y pos') X.env)) (λ_ s'=>wpAny (model X.prog X.w) X.A (pure ():Sem Unit) (λ_ s'=>wpAny (model X.prog X.w) X.A (pure .next:Sem Flow) (SP X pins Dn) X.xe s') X.xe s') (.ref D) C) { ag with heap:=aA,toks:=ag.toks+([]:List (Str×Value)).length }:=by
  refine NW (λn s'=>∃i ys H' its k,Inv Y [(D,{ cls:=.type "list", data:=.seq (its:Ag).toArray k })] (none::σ) H' s'/\Vals ys its/\tn i s'.heap/\(∀b∈fp,H' b=none)/\W i n ys H') ?_ m0
   ⟨0,[],H2,[],0,I0,.nil,T.keep 0 _ _ aQ (λb hb o e=>old b o e),λb hb=>(d8 b hb).1,w0⟩
  rintro n s3 ⟨i,ys,H3,its,k,I3,rv,bq,lF,w3⟩
  have gW:∀{o:Obj},∀p∈[(D,o)],p.1=D:=λ{o} p hp=>by
   have ep:p=(D,o):=by simpa using hp
   rw [ep]
  obtain ⟨gD,nD,_,_,_⟩:=I3.pin (D,_) (jd _ jf)
  rcases turn i n ys H3 w3 with ⟨stop,hz,q⟩|⟨go,hz,step⟩
  ·refine a0 (T.done Y rfl rfl rfl hc i _ s3 _ H3 E' I3 (mW gW lF) bq stop) λr s4 ⟨hr,I4⟩=>?_
   subst hr
   obtain ⟨xr,mX,_,_,_⟩:=I4.pin (D,_) (jd _ jf)
   obtain ⟨m4,xt,_⟩:=id I4.loc
   have fin:∀h',Heap.SameBut C s4.heap h'->Inv X pins σ (upd H3 D (.lst ys)) { s4 with heap:=h' }:=λh' d9=>by
    have iC:∀{b:Addr} {u:HO},H3 b=some u->b≠C:=λe z=>by
     have:H3 C=none:=I4.free
     rw [z,this] at e;cases e
    refine I2.call' (s':={ s4 with heap:=h' }) (ch:=fp) (H':=upd H3 D (.lst ys)) I4.os ?_ ?_ I4.bare λb hb=>⟨(d8 b hb).2.2.2.1,(d8 b hb).2.1,(d8 b hb).2.2.2.2.1,(d8 b hb).2.2.2.2.2⟩
    ·have B:=I4.base
     have mY:∀{b:Nat} {o:Obj},ag.heap.get? b=some o->b≠C:=λe z=>mP (fw e) hC z
     have mZ:∀{b:Addr} {u:HO},H3 b=some u->b≠D:=λe z=>by rw [z,mX] at e;cases e
     refine ⟨λb o e nn hb hx=>(d9.2 b (mY e)).trans (B.keep b o e nn hb hx),λb o e nn hb hx=>?_,λb o e nn hx=>?_,λb o e hx=>?_,λb xs e=>?_,λb o u e=>?_,λb ps e=>?_⟩
     ·obtain ⟨sl,z⟩:=B.slot b o e nn hb hx
      exact ⟨sl,(d9.2 b (mY e)).trans z⟩
     ·have xv:b≠D:=yN (fw e)
      rw [yo xv]
      exact B.free b o e nn hx
     ·obtain ⟨o',z⟩:=B.there b o e hx
      exact ⟨o',(d9.2 b (mY e)).trans z⟩
     ·have z:=B.tups b xs e
      rw [yo (mZ z)];exact z
     ·have z:=B.frzs b o u e
      rw [yo (mZ z)];exact z
     ·obtain ⟨more,z⟩:=B.tbls b ps e
      exact ⟨more,by rw [yo (mZ z)];exact z⟩
    ·intro a o e
     by_cases ha:a=D
     ·subst ha
      rw [yZ] at e
      cases e
      exact ⟨hz,its,k,rv,(d9.2 _ iG).trans xr⟩
     ·rw [yo ha] at e
      have fQ:∀b u,H3 b=some u->(upd H3 D (.lst ys)) b=some u:=λb u z=>by
       have hb:b≠D:=λw=>by rw [w,mX] at z;cases z
       rw [yo hb];exact z
      refine (I4.hok a o e).stay (λb u hb z=>(d9.2 b ?_).trans z) (λb z=>fQ b _ z) λb xs z=>fQ b _ z
      rcases hb with hb|hb
      ·rw [hb];exact iC e
      ·exact iC hb
   have RC:C≠D:=λz=>iG z.symm
   have IX:=fin s4.heap ⟨rfl,λ_ _=>rfl⟩
   obtain ⟨oC,eC,pC,gC,rC⟩:=id xt
   have FP:upd H3 D (.lst ys) C=none:=by rw [yo RC];exact I4.free
   have Be:∀b o,ag.heap.get? b=some o->b≠C:=λb o e z=>mP (fw e) hC z
   have FQ:C≠X.env.locals:=λz=>by
    obtain ⟨m2,gF,_⟩:=id I2.loc
    obtain ⟨o2,_,_,g2,_⟩:=gF
    exact Be _ _ g2 z.symm
   have RD:C∉X.fs:=I2.nofs (by rw [hD];omega)
   have IP:Inv X (pins++[(C,oC)]) σ (upd H3 D (.lst ys)) s4:=IX.pins_of λp hp=>by
    rcases iu.mp hp with hp|hp
    ·exact IX.pin p (jd _ hp)
    ·have ep:p=(C,oC):=by simpa using hp
     subst ep
     exact ⟨gC,FP,FQ,RD,λv z=>by rw [rC.1] at z;cases z⟩
   show wpAny _ _ (assign (.Name y pos') X.env (.ref D)) _ _ s4
   have cL:wpAny (model X.prog X.w) X.A (assign (.Name y pos') X.env (.ref D)) (λ_ s5=>Inv X (pins++[(C,oC)]) (σ.set iy (some (.ref D))) (upd H3 D (.lst ys)) s5) X.xe s4:=wpAny_assign_Name (sk IP qO qP hy (v:=.ref D) rfl (λs5 I5=>I5) qQ)
   refine a0 cL λ_ s5 I5=>?_
   have g5:=(I5.pin (C,oC) (jd _ (jd _ jf))).1
   refine ⟨m4,⟨oC,eC,pC,g5,rC⟩,λZE d9=>yb (yb ⟨_,_,?_,q D mX⟩)⟩
   exact (I5.pins_of (pins':=pins) λp hp=>I5.pin p (jd _ (og _ hp))).turned (it:=C) (t':=s5.toks) (λb o hb e=>(d9.2 b hb).trans e) FP FQ
    (.inr (by have:=I2.sz;rw [hD] at this;omega)) (λa c ha z=>by
     obtain ⟨v',o',ho',_⟩:=I2.cell a c ha
     exact Be _ _ ho' z) (λp hp=>Be _ _ (I2.pin p hp).1)
  ·refine a0 (T.item Y rfl rfl rfl hc i _ s3 _ H3 E' I3 (mW gW lF) bq go) λr s4 ⟨u,hr,h4⟩=>?_
   subst hr
   refine a0 h4 λ_ s5 ⟨z,H5,I5,r5,y5,d7,p5⟩=>?_
   have p6:=I5.pinned (mW gW p5) (T.obj _ _ d7)
   have gX:PG Y (.Name x px) (wE 0):=iE (X:=Y) hN rfl (.inl (wc S.hx)) (.inr (wc S.hx))
   have xw:PE Y elt te:=PE.nox (X:=Y) (he cl C ag H2 fp)
   refine a0 (gX _ s5 (none::σ) H5 z u (λaj H'=>aj=some z::σ/\H'=H5) p6 r5 ⟨rfl,rfl⟩) λ_ s6 ⟨aH,H6,I6,e1,e2⟩=>?_
   subst e1 e2
   refine a0 (xw _ s6 _ _ _ I6 (step z _ y5)) λuy s7 ⟨y,H7,I7,ry,m',hm,w7⟩=>?_
   obtain ⟨qm,m9,_,_,_⟩:=I7.pin (D,_) (jd _ (og _ jf))
   refine wpAny_list_append_plain ⟨k,qm⟩ (λh' bX d9=>?_) (by rw [yV,<-rv.length];exact hz)
   obtain ⟨k',qo⟩:=bX
   have I8:Inv Y [] (some z::σ) H7 { s7 with heap:=h' }:=(I7.pins_of (pins':=[]) (λp hp=>nomatch hp)).turned (it:=D) (t':=s7.toks) (λb o hb e=>(d9.2 b hb).trans e) m9 iG
    (.inr (by show ag.heap.objs.size<=D;omega)) (λa c hy xx=>by
     obtain ⟨v',o',ho',_⟩:=I2.cell a c (dC a c hy)
     exact yN (fw ho') xx) (λp hp=>by simp [Y,lJ] at hp)
   have I9:Inv Y [] (none::σ) H7 { s7 with heap:=h' }:=I8.weak (by simp) λj v e=>by
    cases j with
    |zero=>simp at e
    |succ j=>simpa using e
   have eY:∀b∈fp,∃o,s5.heap.get? b=some o/\s7.heap.get? b=some o/\H7 b=none:=λb hb=>by
    obtain ⟨o,e,_⟩:=T.obj _ _ d7 b hb
    have q:=I7.pin (b,o) (jd _ (jd _ (pZ hb e)))
    exact ⟨o,e,q.1,q.2.1⟩
   have xy:∀b∈fp,b≠D:=λb hb=>by
    obtain ⟨o,ho,_⟩:=T.obj 0 _ aQ b hb
    exact yN (fw ho)
   have eT:its.toArray.push uy=(its++[uy]).toArray:=by simp
   rw [eT] at qo
   refine ⟨m',hm,i+1,ys++[y],H7,its++[uy],k',I9.pins_of (gg qo m9 λv e=>by cases e),rv.append (.cons ry .nil),T.keep (i+1) _ _ d7 λb hb o e=>?_,λb hb=>?_,w7⟩
   ·obtain ⟨o',e1,e2,_⟩:=eY b hb
    rw [e] at e1
    cases e1
    exact (d9.2 b (xy b hb)).trans e2
   ·obtain ⟨_,_,_,q⟩:=eY b hb
    exact q
 exact codeAny_compStart_list loop (T.self X.A 0 _ _ _ (T.keep 0 _ _ aQ (λb hb o e=>old b o e)) loop)
end L2
namespace Mi
open PySem L2 PySem.W PySem.Spec
section
variable {X:Cx} {Er:XK} {pos:Pos}
def FR (X:Cx) (Er:XK) (src:zf->Mo Sq):TI:=fun σ H R=>∃env st ρ,bJ X.K X.mg ρ H env σ/\bu X.K X.mg ρ H st/\Out X.K X.mg ρ H (src env st) (λal H' q bH=>∀J,Walk X.K X.mg J al H' q->R J H') Er
def RE {src:zf->Mo Sq}{fe:Aj}(σ:L2.St) (H:Hp) (Q:VK) (hh:tM X.K X.mg Er (jk src fe) σ H Q):DS (FR X Er src) (tM X.K X.mg XN fe) σ H Q:=by
 obtain ⟨env,st,ρ,re,rs,h⟩:=hh
 refine ⟨env,st,ρ,re,rs,h.then λau H0 q cW e0 s0 h0 J wk=>?_⟩
 cases q with
 |im xs =>
  obtain ⟨hl,h0⟩:=Out.ifp h0
  obtain ⟨w1,w2,w3⟩:=wk
  refine ⟨λi m ys H=>m=xs.length-i/\i<=xs.length/\ys.length=i/\∃ps st ρ,Rs X.K X.mg ρ H ps ys/\bu X.K X.mg ρ H st/\Ext au H0 ρ H/\Out X.K X.mg ρ H (dq fe env (xs.drop i) ps st) (gV X.K X.mg Q) Er,⟨xs.length,by simp,jw _,rfl,[],cW,au,rfl,s0,Ext.refl,h0⟩,?_⟩
  rintro i m ys H ⟨rfl,hi,hy,ps,st,ρ,dh,rs,ex,h⟩
  by_cases bO:i<xs.length
  ·refine .inr ⟨w1 i ρ H ex bO,y0 (by omega),λv H' y=>?_⟩
   obtain ⟨x,hx,cz,s2,rx⟩:=w3 i ρ H st v H' ex rs bO y
   have hd:xs.drop i=x::xs.drop (i+1):=by
    rw [we bO]
    have:=(yt.mp hx).2
    rw [this]
   rw [hd] at h
   simp only [dq] at h
   refine ⟨some x::env,st,ρ,(re.ext (e0.trans (ex.trans cz))).cons rx,s2,wU (Out.ext h cz) λao H3 y bq e3 s3 h3 v ry=>⟨xs.length-(i+1),by omega,rfl,bO,by simp [hy],ps++[y],bq,ao,Rs.snoc ry (Rs.ext (cz.trans e3) ps dh),s3,(ex.trans cz).trans e3,h3⟩⟩
  ·have e:i=xs.length:=by omega
   subst e
   rw [List.drop_length] at h
   exact .inl ⟨w2 _ ρ H ex (yf _),y0 (by omega),λl hl=>Out.newList h rs dh hl⟩
 |rf n =>
  obtain ⟨a,ha,rfl⟩:=wk
  refine ⟨λi m ys H=>m+i=lim+1/\ys.length=i/\∃ps st ρ,Rs X.K X.mg ρ H ps ys/\bu X.K X.mg ρ H st/\Ext au H0 ρ H/\ρ[n]?=some a/\Out X.K X.mg ρ H (fI fe env n m i ps st) (gV X.K X.mg Q) Er,⟨lim+1,rfl,rfl,[],cW,au,rfl,s0,Ext.refl,ha,h0⟩,?_⟩
  rintro i m ys H ⟨hm,hy,ps,st,ρ,dh,rs,ex,ha,h⟩
  cases m with
  |zero=>exact h.elim
  |succ m =>
   obtain ⟨xs,hn,h⟩:=jX h
   obtain ⟨vs,hH,hR⟩:=rs.addr hn ha
   cases hx:xs[i]? with
   |none =>
    simp only [hx] at h
    have:vs.length<=i:=by rw [<-hR.len];exact oj.mp hx
    exact .inl ⟨⟨vs,bE.of hH,this⟩,y0 (by omega),λl hl=>Out.newList h rs dh hl⟩
   |some x =>
    simp only [hx] at h
    obtain ⟨v,hv,rv⟩:=hR.get hx
    refine .inr ⟨⟨vs,v,bE.of hH,hv⟩,y0 (by omega),λv' H' y=>?_⟩
    obtain ⟨e1,y⟩:=y
    subst e1
    have e2:=y vs (bE.of hH)
    rw [hv] at e2
    cases e2
    exact ⟨some x::env,st,ρ,(re.ext (e0.trans ex)).cons rv,rs,wU h λao H3 y bq e3 s3 h3 v ry=>⟨m,wg m,by omega,by simp [hy],ps++[y],bq,ao,Rs.snoc ry (Rs.ext e3 ps dh),s3,ex.trans e3,e3.get ha,h3⟩⟩
def RF (i:Nat) {elt iter:Expr} {x y:Str} {px pos' gA:Pos} {scope:Scope} {src:zf->Mo Sq} {fe:Aj} {M:Ae} (hc:X.calm=true) (S:dP X.env.scope scope x) (eN:Hid scope M X.N) (dc:((".0" : Str)::x::M).Nodup)
  (hi:MI X Er (.Name x px) iter src) (he:∀cl C ag ai fp,ME (lJ X M scope cl x C ag ai fp (λ_ _=>False)) XN elt fe) (qO:X.N.Nodup) (qP:X.N[i]?=some y) (hy:Loc X.env.scope y) (qQ:X.fn y=true\/X.env.scope.names.lookup y=some .local)
  (qR:swapsWith (.ListComp elt [⟨.Name x px,iter,[],0⟩] scope pos) (some (.Name y pos')) gA.line X.env=pure true) (hs:∀v,foldedSetIterable iter X.env v=pure v:=by intro _;rfl) :
  MS X Er (.Assign [.Name y pos'] (.ListComp elt [⟨.Name x px,iter,[],0⟩] scope pos) gA) (zO i (jk src fe)) :=
 PS.weak (RB (te:=tM X.K X.mg XN fe) hc S eN dc hi (λcl C ag ai fp=>he cl C ag ai fp) qO qP hy qQ qR hs) λD σ H ⟨env,st,ρ,re,rs,h⟩=>by
  refine RE (X:=X) (Er:=Er) (src:=src) (fe:=fe) σ H (λv H2=>D.nx (σ.set i (some v)) H2) ⟨env,st,ρ,re,rs,h.then λah H1 x ae e1 s1 h1 v rv=>?_⟩
  exact h1.now s1 (σ.set i (some v)) ((re.ext e1).set i rv)
def FT (i:Nat) {elt iter:Expr} {x y:Str} {px pos' gA:Pos} {scope:Scope} {src:zf->Mo Sq} {fe:Aj} {N:Ae} (hc:X.calm=true) (S:dP X.env.scope scope x) (eN:X.N=N) (dc:((".0" : Str)::x::N).Nodup)
  (hi:MI X Er (.Name x px) iter src) (he:∀cl C ag ai fp,ME (DQ X scope cl x C ag ai fp (λ_ _=>False)) XN elt fe) (qO:X.N.Nodup) (qP:X.N[i]?=some y) (hy:Loc X.env.scope y) (qQ:X.fn y=true\/X.env.scope.names.lookup y=some .local)
  (qR:swapsWith (.ListComp elt [⟨.Name x px,iter,[],0⟩] scope pos) (some (.Name y pos')) gA.line X.env=pure true) (hs:∀v,foldedSetIterable iter X.env v=pure v:=by intro _;rfl) :
  MS X Er (.Assign [.Name y pos'] (.ListComp elt [⟨.Name x px,iter,[],0⟩] scope pos) gA) (zO i (jk src fe)) :=
 RF i hc S Hid.refl (eN▸dc) hi he qO qP hy qQ qR hs
end
section
variable {K:Frag} {mg:Ab} {ρ:Af} {H:Hp} {a:Addr} {o:Obj} {kvs:List (Key×V)} {u:HO}
def oZ (ha:H a=some (.frz o (.dK kvs))) {b:Addr}{w:HO}(h:H b=some w) (n:∀o k,w ≠ .frz o (.dK k)):upd H a u b=some w:=by
 rw [yo]
 ·exact h
 ·intro z;subst z;rw [ha] at h;cases h;exact n _ _ rfl
def RG (ha:H a=some (.frz o (.dK kvs))) {p:Addr}{xs:List V}(h:bD K H p xs):bD K (upd H a u) p xs:=by
 rcases h with (h|⟨o,h⟩)|h
 ·exact .inl (.inl (oZ ha h (λ_ _=>nofun)))
 ·exact .inl (.inr ⟨o,oZ ha h (λ_ _=>nofun)⟩)
 ·exact .inr h
def RH (ha:H a=some (.frz o (.dK kvs))) {p:Addr}{xs:List V}(h:kE K H p xs):kE K (upd H a u) p xs:=by
 rcases h with ⟨o,h⟩|h
 ·exact .inl ⟨o,oZ ha h (λ_ _=>nofun)⟩
 ·exact .inr h
mutual
theorem R.th (ha:H a=some (.frz o (.dK kvs))):∀(x:PV) {v:V},R K mg ρ H x v->R K mg ρ (upd H a u) x v
 |.non,_,h=>h
 |.bl _,_,h=>h
 |.int _,_,h=>h
 |.str _,_,h=>h
 |.ty _,_,h=>h
 |.tup xs,_,h=>by
  obtain ⟨a,vs,h1,h2,h3⟩:=h
  exact ⟨a,vs,h1,RG ha h2,Rs.th ha xs h3⟩
 |.frl xs,_,h=>by
  obtain ⟨a,vs,h1,h2,h3⟩:=h
  exact ⟨a,vs,h1,RH ha h2,Rs.th ha xs h3⟩
 |.ref n,_,h=>h
 |.fn _,_,h=>h
 |.kd ks xs,_,h=>by
  obtain ⟨a,us,vs,h1,h2,h4,h3⟩:=h
  exact ⟨a,us,vs,h1,h2,h4,Rs.th ha xs h3⟩
 |.exo c ks xs,_,h=>by
  obtain ⟨a,C,h1,h2,⟨h3,h4⟩|⟨d,vs,h3,h4,h5,h6⟩⟩:=h
  ·exact ⟨a,C,h1,h2,.inl ⟨h3,oZ ha h4 (λ_ _=>nofun)⟩⟩
  ·exact ⟨a,C,h1,h2,.inr ⟨d,vs,oZ ha h3 (λ_ _=>nofun),oZ ha h4 (λ_ _=>nofun),Rs.th ha xs h5,h6⟩⟩
theorem Rs.th (ha:H a=some (.frz o (.dK kvs))):∀(xs:Aq) {vs:List V},Rs K mg ρ H xs vs->Rs K mg ρ (upd H a u) xs vs
 |[],_,h=>h
 |x::xs,_,h=>by
  obtain ⟨v,r,h1,h2,h3⟩:=h
  exact ⟨v,r,h1,R.th ha x h2,Rs.th ha xs h3⟩
end
theorem bJ.th (ha:H a=some (.frz o (.dK kvs))) {env:zf}{σ:L2.St}(h:bJ K mg ρ H env σ):bJ K mg ρ (upd H a u) env σ :=
 ⟨h.len,λi x hx=>let ⟨v,p,q⟩:=h.at_ i x hx;⟨v,p,R.th ha x q⟩⟩
end
section
variable {X:Cx} {Er:XK} {K:Frag} {mg:Ab} {pos p:Pos} {e:Expr} {fk:Aj}
def pairOf:PV->Option (PV×PV)
 |.tup [x,y]=>some (x,y)
 |_=>none
def RI {q:PV}{r:PV×PV}(h:pairOf q=some r):q=.tup [r.1,r.2]:=by
 unfold pairOf at h
 split at h
 ·cases h;rfl
 ·cases h
def wC (fe:Aj) (env:zf):List PV->An
 |[],ys,st=>.ok (.ref st.length) (st++[.lst ys])
 | q::xs,ys,st=>match pairOf q with
  |some r=>(de (fe (some r.1::some r.2::env) st)).bind λz ae=>wC fe env xs (ys++[z]) ae
  |none=>.stuck
def RJ {fe:Aj}{env:zf}{q:PV}{xs ys:Aq}{st:aa}{ρ:Af}{H:Hp}{good:List Addr->Hp->PV->aa->Prop}(h:Out K mg ρ H (wC fe env (q::xs) ys st) good Er):∃x y,q=.tup [x,y]/\Out K mg ρ H ((de (fe (some x::some y::env) st)).bind λz ae=>wC fe env xs (ys++[z]) ae) good Er:=by
 simp only [wC] at h
 cases hq:pairOf q with
 |none=>simp only [hq] at h;exact h.elim
 |some r =>
  simp only [hq] at h
  exact ⟨r.1,r.2,RI hq,h⟩
def vF:Sq->Option (Aq)
 |.im xs=>some xs
 |.rf _=>none
def Bf (src:zf->Mo Sq) (fe:Aj):Aj:=λenv st=>(src env st).bind λq ae=>match vF q with
 |some xs=>if xs.length<=lim then wC fe env xs [] ae else .stuck
 |none=>.stuck
def RK {elt iter:Expr} {x y:Str} {kt:Nat} {px py tp:Pos} {scope:Scope} {src:zf->Mo Sq} {fe:Aj} {N:Ae} (hc:X.calm=true) (S:dQ X.env.scope scope [x,y]) (eN:X.N=N) (dc:((".0" : Str)::([x,y]++N)).Nodup)
  (hi:MI X Er (.Tuple [.Name x px,.Name y py] kt tp) iter src) (he:∀cl C ag ai fp,ME (fq X scope cl [x,y] C ag ai fp (λ_ _=>False)) XN elt fe)
  (hx:scope.names.lookup x=some .local:=by rfl) (hy:scope.names.lookup y=some .local:=by rfl) (hs:∀v,foldedSetIterable iter X.env v=pure v:=by intro _;rfl) :
  ME X Er (.ListComp elt [⟨.Tuple [.Name x px,.Name y py] kt tp,iter,[],0⟩] scope pos) (Bf src fe):=by
 have hN:([x,y]++X.N).Nodup:=by rw [eN];exact (jU.mp dc).2
 have gX:∀cl C ag ai fp E,PG (fq X scope cl [x,y] C ag ai fp E) (.Tuple [.Name x px,.Name y py] kt tp) (vV X.K 2 (pY (wE 0) (pY (wE 1) vT))):=λcl C ag ai fp E=>vW (n:=2) hc
  (oy (iE (X:=fq X scope cl [x,y] C ag ai fp E) (i:=0) hN rfl (.inl (wc hx)) (.inr (wc hx)))
  (oy (iE (X:=fq X scope cl [x,y] C ag ai fp E) (i:=1) hN rfl (.inl (wc hy)) (.inr (wc hy))) vU))
 exact PE.weak (xA (te:=tM X.K X.mg XN fe) (tt:=oF) hc S eN dc hi gX (λcl C ag ai fp=>DU) (λcl C ag ai fp=>he cl C ag ai fp) hs) fun σ H Q ⟨env,st,ρ,re,rs,h⟩=>⟨env,st,ρ,re,rs,h.then λau H0 q cW e0 s0 h0 J wk=>by
  cases q with
  |rf n=>exact h0.elim
  |im xs =>
   obtain ⟨hl,h0⟩:=Out.ifp (show Out X.K X.mg au H0 (if xs.length<=lim then wC fe env xs [] cW else .stuck) (gV X.K X.mg Q) Er from h0)
   obtain ⟨w1,w2,w3⟩:=wk
   refine ⟨λi m ys H=>m=xs.length-i/\i<=xs.length/\ys.length=i/\∃ps st ρ,Rs X.K X.mg ρ H ps ys/\bu X.K X.mg ρ H st/\Ext au H0 ρ H/\Out X.K X.mg ρ H (wC fe env (xs.drop i) ps st) (gV X.K X.mg Q) Er,⟨xs.length,by simp,jw _,rfl,[],cW,au,rfl,s0,Ext.refl,h0⟩,?_⟩
   rintro i m ys H ⟨rfl,hi,hy,ps,st,ρ,dh,rs,ex,h⟩
   by_cases bO:i<xs.length
   ·refine .inr ⟨w1 i ρ H ex bO,y0 (by omega),λv H' yy=>?_⟩
    obtain ⟨x,hx,cz,s2,rx⟩:=w3 i ρ H st v H' ex rs bO yy
    have hd:xs.drop i=x::xs.drop (i+1):=by
     rw [we bO]
     have:=(yt.mp hx).2
     rw [this]
    rw [hd] at h
    obtain ⟨p,q,rfl,h⟩:=RJ h
    obtain ⟨a,vs,rfl,h1,h2⟩:=rx
    obtain ⟨u,w,rfl,r1,r2⟩:=Rs.two h2
    refine ⟨a,[u,w],rfl,h1,rfl,u,[w],rfl,w,[],rfl,rfl,[some u,some w],rfl,rfl,?_⟩
    have iN:bJ X.K X.mg ρ H' (some p::some q::env) (some u::some w::σ):=((re.ext (e0.trans (ex.trans cz))).cons r2).cons r1
    simp only [oF,↓reduceIte]
    exact ⟨_,st,ρ,iN,s2,wU (Out.ext h cz) λaE H4 y eL e4 s4 h4 v4 r4=>⟨xs.length-(i+1),by omega,rfl,bO,by simp [hy],ps++[y],eL,aE,Rs.snoc r4 (Rs.ext (cz.trans e4) ps dh),s4,(ex.trans cz).trans e4,h4⟩⟩
   ·have e:i=xs.length:=by omega
    subst e
    rw [List.drop_length] at h
    exact .inl ⟨w2 _ ρ H ex (yf _),y0 (by omega),λl hl=>Out.newList h rs dh hl⟩⟩
inductive qS (X:Cx) (Er:XK):List (Option Expr)->List Expr->List ((Aj)×(Aj))->Prop
 |nil:qS X Er [] [] []
 |cons {k v:Expr} {fk fv:Aj} {ks:List (Option Expr)} {vs:List Expr} {fs:List ((Aj)×(Aj))} (hk:ME X Er k fk) (hv:ME X Er v fv) (hr:qS X Er ks vs fs):qS X Er (some k::ks) (v::vs) ((fk,fv)::fs)
def qS.len {ks:List (Option Expr)}{vs:List Expr}{fs:List ((Aj)×(Aj))}(h:qS X Er ks vs fs):ks.length=vs.length/\ks.length=fs.length/\ks.all (·.isSome)=true:=by
 induction h with
 |nil=>exact ⟨rfl,rfl,rfl⟩
 |cons hk hv hr ih=>exact ⟨by simp [ih.1],by simp [ih.2.1],by simpa using ih.2.2⟩
end
section
variable {X:Cx} {K:Frag} {mg:Ab}
def call_len_dict:cv X (.builtin "len") (λxs H Q=>∃p kvs,xs=[.ref p]/\H p=some (.dK kvs)/\Q (.int kvs.length) H):=by
 intro pins s σ H xs us Q I r h
 obtain ⟨p,kvs,rfl,hp,q⟩:=h
 obtain ⟨u,rfl,rx⟩:=lG r
 cases rx
 exact N9 I (.inl hp) λt s' I'=>⟨.int kvs.length,H,I',⟨t,rfl⟩,q⟩
def yD:An:=λxs st=>match xs with
 | [.ref n]=>match st[n]? with
  |some (.dic ks _)=>.ok (.int ks.length) st
  |_=>oR xs st
 |_=>oR xs st
def wo:dH X (.builtin "len") yD:=by
 obtain ⟨r,h1,h2⟩:=Pt (X:=X)
 refine ⟨_,h1.or call_len_dict,fun ρ H st xs vs Q E s rx h=>?_⟩
 by_cases hx:∃n ks ys,xs=[.ref n]/\st[n]?=some (.dic ks ys)
 ·obtain ⟨n,ks,ys,rfl,e⟩:=hx
  have h:Out X.K X.mg ρ H (.ok (.int ks.length) st) (gV X.K X.mg Q) E:=by
   simpa only [yD,e] using h
  obtain ⟨v,rfl,rv⟩:=Rs.one rx
  obtain ⟨a,ws,rfl,_,k1,k2,k3⟩:=R.refD s rv e
  refine .inr ⟨a,_,rfl,k1,?_⟩
  have hl:(kz ks ws).length=ks.length:=by simp [kz,k3]
  rw [hl]
  exact Out.now (x:=PV.int ks.length) h s _ rfl
 ·refine .inl (h2 ρ H st xs vs Q E s rx ?_)
  have:yD xs st=oR xs st:=by
   unfold yD
   split
   ·rename_i n
    split
    ·rename_i ks ys e;exact absurd ⟨n,ks,ys,rfl,e⟩ hx
    ·rfl
   ·rfl
  rw [this] at h
  exact h
end
section
variable {α:Type} {env:zf} {st:aa} {fa:Aj}
def qT {n:Nat}{ks:Ae}{xs:Aq}(h:st[n]?=some (.dic ks xs)) (k:List Str->List PV->Res α):yW st n k=k ks xs:=by unfold yW;rw [h]
def bw {n:Nat}{xs:Aq}(h:st[n]?=some (.lst xs)):yD [.ref n] st=.ok (.int xs.length) st:=by
 simp only [yD,h]
 show yl st n _=_
 rw [ym h]
@[simp] def ZF (xs:Aq):yD [.tup xs] st=.ok (.int xs.length) st:=(rfl)
@[simp] def RL (xs:Aq):yD [.frl xs] st=.ok (.int xs.length) st:=(rfl)
@[simp] def RM (z:Str):yD [.str z] st=oR [.str z] st:=(rfl)
@[simp] def RN (src:zf->Mo Sq):Bf src fa env st=(src env st).bind λq ae=>match vF q with|some xs=>if xs.length<=lim then wC fa env xs [] ae else .stuck|none=>.stuck:=(rfl)
end
end Mi
namespace L2
open PySem PySem.Spec PyProof.Rows PySem.W
section
variable {X:Cx}
theorem FU:∀{xs:List V}{us:Ag},xs.length=us.length->(∀(i:Nat) x u,xs[i]?=some x->us[i]?=some u->RelV x u)->Vals xs us
 |[],[],_,_=>.nil
 |x::xs,u::us,h,r=>.cons (r 0 x u rfl rfl) (FU (by simpa using h) λi x u h1 h2=>r (i+1) x u (by simpa using h1) (by simpa using h2))
 |[],_::_,h,_=>by cases h
 |_::_,[],h,_=>by cases h
def e_ (n:Nat):List V:=(List.range n).map λi=>V.int ((i:Nat):Int)
def RP {n:Nat}{acc:Array Value}(h:ItemsOf (λi v=>∃t,v=Value.int (0+(i:Int)*1) t) acc n):Vals (e_ n) acc.toList:=by
 refine FU (by simp [e_,h.1]) λi x u h1 h2=>?_
 have h3:acc[i]?=some u:=by simpa using h2
 obtain ⟨t,rfl⟩:=h.2 i u h3
 have hi:i<n:=by
  have:=(Array.getElem?_eq_some_iff.mp h3).1
  rw [h.1] at this
  exact this
 have:x=V.int i:=by simpa [e_,hi] using h1.symm
 subst this
 exact ⟨t,by simp⟩
def RQ {a:Expr} {ta:TA} {p p2 pos fY:Pos} (hc:X.calm=true) (hg:Gl X "range") (hm:X.mg "range" = none) (nC:Gl X "list") (Bg:X.mg "list" = none) (Bh:bootBuiltins "list" = some (.type "list")) (ha:PA X [a] ta) (hs:starEach [a] X.env=[(false,eval a X.env)]:=by rfl)
  (gG:starEach [Expr.Call (.Name "range" p2) [a] [] fY] X.env=[(false,eval (Expr.Call (.Name "range" p2) [a] [] fY) X.env)]:=by rfl) :
  PE X (.Call (.Name "list" p) [.Call (.Name "range" p2) [a] [] fY] [] pos) (fun σ H Q=>ta σ H λvs H1=>∃j:Int,vs=[.int j] /\ -(2 ^ 62)<=j/\j<=1000000/\∀l,H1 l=none->Q (.ref l) (upd H1 l (.lst (e_ j.toNat)))):=by
 intro pins s σ H Q I h
 refine wpAny_Call_Name_kw (iD I nC Bg Bh ?_ (by decide) (by decide))
 refine PyProof.Rows.callWith_type1 ?_ gG rfl
 rw [gG]
 show wpAny _ _ (spliced ((false,eval (Expr.Call (.Name "range" p2) [a] [] fY) X.env)::[])) _ _ s
 refine Calls.spliced_cons ?_
 refine wpAny_Call_Name_kw (iD I hg hm boot_range (PyProof.Rows.callWith_type1 (a0 (ha fY pins s σ H _ I h) λus s1 ⟨vs,H1,I1,r1,q1⟩=>?_) hs rfl) (by decide) (by decide))
 obtain ⟨j,e,q1,q2,q⟩:=q1
 subst e
 cases r1 with
 |cons r rr =>
  cases rr
  obtain ⟨t,rfl⟩:=r
  refine call_range_1 (Calls.spliced_nil ?_)
  have I2:Inv X pins σ H1 { s1 with heap:=s1.heap.push { cls:=.type "range", data:=.fields #[.int 0 s1.toks,.int j t,.int 1 (s1.toks+1)] },toks:=s1.toks+1+1 }:=I1.kept λb o e=>yk _ e
  have hn:Builtin.Range.rangeSize 0 j 1=((j.toNat:Nat):Int):=by rw [rangeSize_one];split<;>omega
  refine call_list_range (n:=j.toNat) (I1.ok.hd hc) (IsRange.new ..) (small_one (by omega) (by omega) q1 (by omega)) hn (by omega) λh' tk cw c' kp e hit=>?_
  have rv:=RP hit
  refine ⟨.ref _,_,I2.laid (t':=tk) kp (yf _) (show bo X.prog X.w _ h' _ (.lst (e_ j.toNat)) from ⟨?_,cw.toList,c',rv,e⟩),rfl,q _ (I2.hok.fresh (yf _))⟩
  simp [e_,sizeLine];omega
end
end L2
namespace Mi
open PySem L2 PySem.W PySem.Spec
section
variable {X:Cx} {Er:XK} {pos:Pos} {K:Frag} {mg:Ab} {fs:Ai}
def qU:An
 |[.int j],st=>if decide (-(2 ^ 62)<=j)=true/\decide (j<=1000000)=true then .ok (.ref st.length) (st++[.lst (nums 0 j.toNat)]) else .stuck
 |_,_=>.stuck
def Bi (fs:Ai):Aj:=λenv st=>(fs env st).bind qU
def RR {ρ:Af}{H:Hp}(n:Nat):Rs K mg ρ H (nums 0 n) (e_ n):=by
 unfold nums e_
 generalize List.range n=l
 induction l with
 |nil=>rfl
 |cons i l ih=>exact ⟨_,_,rfl,by show V.int _=V.int _;simp,ih⟩
def RS {a:Expr} {p p2 fY:Pos} (hc:X.calm=true) (hm:X.mg "range" = none) (Bg:X.mg "list" = none) (Bh:bootBuiltins "list" = some (.type "list")) (ha:MA X Er [a] fs) (hg:Gl X "range" := by rfl) (nC:Gl X "list" := by rfl) (hs:starEach [a] X.env=[(false,eval a X.env)]:=by rfl)
  (gG:starEach [Expr.Call (.Name "range" p2) [a] [] fY] X.env=[(false,eval (Expr.Call (.Name "range" p2) [a] [] fY) X.env)]:=by rfl) :
  ME X Er (.Call (.Name "list" p) [.Call (.Name "range" p2) [a] [] fY] [] pos) (Bi fs) :=
 PE.weak (RQ hc hg hm nC Bg Bh ha hs gG) fun σ H Q ⟨env,st,ρ,re,rs,h⟩=>⟨env,st,ρ,re,rs,h.then λah H1 xs ae e1 s1 h1 vs rv=>by
  match xs,rv,h1 with
  |[.int j],rv,h1 =>
   obtain ⟨v,rfl,rfl⟩:=Rs.one rv
   obtain ⟨c,h1⟩:=Out.ifp h1
   refine ⟨j,rfl,of_decide_eq_true c.1,of_decide_eq_true c.2,λl hl=>Out.newList h1 s1 (RR _) hl⟩
  |[],r,h=>exact h.elim
  |[.bl _],r,h=>exact h.elim
  |[.non],r,h=>exact h.elim
  |[.str _],r,h=>exact h.elim
  |[.tup _],r,h=>exact h.elim
  |[.frl _],r,h=>exact h.elim
  |[.ref _],r,h=>exact h.elim
  |[.ty _],r,h=>exact h.elim
  |[.fn _],r,h=>exact h.elim
  |[.kd _ _],r,h=>exact h.elim
  |[.exo _ _ _],r,h=>exact h.elim
  |x::y::r',r,h=>cases x<;>exact h.elim⟩
@[simp] def RT {env:zf}{st:aa}:Bi fs env st=(fs env st).bind qU:=(rfl)
end
end Mi
namespace PySem
open Sem (wp)
def Lr.nolen:typeLookup (.type "list_reverseiterator") "__len__" = pure none:=by rw [typeLookup_type,builtinLookup_eq_fast];kernel_rfl
def Lr.hint:typeLookup (.type "list_reverseiterator") "__length_hint__" = pure (some (.builtin "list_reverseiterator.__length_hint__")):=by rw [typeLookup_type,builtinLookup_eq_fast];kernel_rfl
section
variable {prog:Program} {w:World} {A:Around} {s:Shared} {R:Result->Shared->Prop}
variable {I:Addr} {fp wr:Af} {G:Array GenState->Array GenState->Prop} {n:Nat} {P:Nat->Value->Prop} {St:Nat->Shared->Prop}
def Lr.extend (W:WalksS prog w A.in1 I fp wr G n P St) (hT:∀i s,St i s->s.TypeIs (.ref I) "list_reverseiterator") (S:Addr) (res:Value) (aP:Nat) (cL:St 0 s) (nH:S∉fp) (hI:I∈fp)
  (hS:s.heap.get? S=some { cls:=.type "list", data:=.seq #[] aP })
  (hR:∀s' cw c',Moved (S::wr) G s s'->s'.heap.get? S=some { cls:=.type "list", dict:=none,data:=.seq cw c',slots:=#[] }->ItemsOf P cw n->R (.ok (.ret res)) s') (hn:n<=sizeLine:=by size_fits) :
  wpAny (model prog w) A.in1 (Builtin.List.listExtendWith (.ref S) (.ref I) res)
   (λfin s'=>match fin with | .done f=>R (.ok f) s' | .again c'=>c'.quiet=true/\codeAny (model prog w) A c' R s') (λe s'=>R (.error e) s') s:=by
 have RU:S≠I:=λe=>nH (e▸hI)
 unfold Builtin.List.listExtendWith
 refine zB (wpAny_typeOf (hT 0 _ cL) ?_)
 have h1:Builtin.List.listSameRef (.ref S) (.ref I)=false:=by simp [Builtin.List.listSameRef,RU]
 rw [zK (by rw [h1];decide)]
 refine zB (W.self 0 _ _ _ cL ?_)
 refine zB (wv ?_)
 unfold Builtin.List.listLengthHint
 refine zB (wpAny_specialOf (hT 0 _ cL) Lr.nolen ?_)
 show wpAny _ A.in1 (specialOf (Value.ref I) (Str.ofString "__length_hint__") >>= _) _ _ _
 refine zB (wpAny_specialOf (hT 0 _ cL) Lr.hint ?_)
 generalize hid:("list_reverseiterator.__length_hint__" : String)=id0
 wp_delta
 rw [show splitId id0=some ("list_reverseiterator", "__length_hint__") from by subst hid;decide +kernel]
 subst hid
 refine zB (wpAny_isInstance (b:=true) (hT 0 _ cL) (by rw [isSubtype_type];kernel_rfl) ?_)
 refine yb ?_
 rw [zK (by decide)]
 refine yb ⟨plainId_quiet F.plain_extend_loop _,codeAny_extend_loopS W hn _ nH _ n 0 _ _ _ rfl (jw _) cL hS (ItemsOf.nil P) λs' cw c' hm qV eA=>?_⟩
 exact hR s' cw c' hm qV eA
end
section
variable {prog:Program} {w:World} {A:Around} {s:Shared} {R:Result->Shared->Prop}
variable {I:Addr} {fp wr:Af} {G:Array GenState->Array GenState->Prop} {n:Nat} {P:Nat->Value->Prop} {St:Nat->Shared->Prop}
def Lr.init (W:WalksS prog w A.in1 I fp wr G n P St) (hT:∀i s,St i s->s.TypeIs (.ref I) "list_reverseiterator") (S:Addr) (cL:St 0 s) (nH:S∉fp) (hI:I∈fp)
  (hS:s.heap.get? S=some { cls:=.type "list", data:=.seq #[] })
  (hR:∀s' cw c',Moved (S::wr) G s s'->s'.heap.get? S=some { cls:=.type "list", dict:=none,data:=.seq cw c',slots:=#[] }->ItemsOf P cw n->R (.ok (.ret .none)) s') (hn:n<=sizeLine:=by size_fits) :
  wpAny (model prog w) A.in1 (Builtin.«list.__init__» ⟨[.ref S,.ref I],[]⟩)
   (λfin s'=>match fin with | .done f=>R (.ok f) s' | .again c'=>c'.quiet=true/\codeAny (model prog w) A c' R s') (λe s'=>R (.error e) s') s:=by
 show wpAny _ A.in1 (do let old <-Builtin.List.listItems (.ref S);Builtin.List.listUpdate (.ref S) (λ_=>#[]);letGo old.toList.reverse;Builtin.List.listExtendWith (.ref S) (.ref I) .none) _ _ s
 refine zB ?_
 unfold Builtin.List.listItems
 refine zB (wpAny_seqItems hS rfl (yb ?_))
 show wpAny _ A.in1 (updateSeq S (λ_=>#[]) >>= λ_=>letGo (#[]:Array Value).toList.reverse >>= λ_=>Builtin.List.listExtendWith (.ref S) (.ref I) .none) _ _ s
 refine zB (wpAny_updateSeq hS rfl ?_)
 have aM:=Heap.get?_update_self (Obj.mapSeq (λ_=>(#[]:Array Value))) hS rfl
 have oth:∀b o,b≠S->s.heap.get? b=some o->(s.heap.update S (Obj.mapSeq (λ_=>(#[]:Array Value)))).get? b=some o :=
  λb o hb e=>(wK _ _ (yO hb)).trans e
 refine zB (wpAny_letGo ?_)
 refine Lr.extend (hn:=hn) W hT S .none _ (W.frame 0 s _ s.toks cL (yf _) λb hb o e=>oth b o (λh=>nH (h▸hb)) e) nH hI aM λs' cw c' hm qV eA=>?_
 exact hR s' cw c' (Moved.trans W.gtrans ((Moved.refl W.grefl).then_heap (yf _) λb o hb e=>oth b o (λh=>hb (h▸jf)) e) hm) qV eA
end
section
variable {prog:Program} {w:World} {A:Around} {E:Aa} {s:Shared}
variable {I:Addr} {fp wr:Af} {G:Array GenState->Array GenState->Prop} {n:Nat} {P:Nat->Value->Prop} {St:Nat->Shared->Prop}
theorem Lr.call {Q:Aa} (W:WalksS prog w A.in1.in1 I fp wr G n P St) (hT:∀i s,St i s->s.TypeIs (.ref I) "list_reverseiterator") (cL:St 0 s) (RV:∀b∈fp,b<s.heap.objs.size) (hI:I∈fp)
  (hQ:∀s' cw c',Moved (s.heap.objs.size::wr) G { s with heap:=s.heap.push { cls:=.type "list", data:=.seq #[] } } s' ->
   s'.heap.get? s.heap.objs.size=some { cls:=.type "list", dict:=none,data:=.seq cw c',slots:=#[] }->ItemsOf P cw n->Q (.ref s.heap.objs.size) s') (hn:n<=sizeLine:=by size_fits) :
  wpAny (model prog w) A (call (.type "list") [.ref I]) Q E s:=by
 have nH:s.heap.objs.size∉fp:=λhm=>Nat.lt_irrefl _ (RV _ hm)
 refine callType_codes (Q₁:=λobj am=>obj=.ref s.heap.objs.size/\am={ s with heap:=s.heap.push { cls:=.type "list", data:=.seq #[] } }) F.called_list (F.typeCall_list_1 _) F.entry_list_init
  (code_list_new _ ⟨rfl,rfl⟩) λobj am aA=>?_
 obtain ⟨rfl,rfl⟩:=aA
 have hS:(s.heap.push { cls:=.type "list", data:=.seq #[] }).get? s.heap.objs.size=some { cls:=.type "list", data:=.seq #[] }:=yY _ rfl
 refine ⟨⟨_,hS,rfl⟩,F.args_list_init_2 _ _,Lr.init (hn:=hn) W hT _ (W.frame 0 s _ s.toks cL (yf _) λb _ o e=>yk _ e) nH hI hS λs' cw c' hm qV eA=>?_⟩
 exact ⟨rfl,hQ s' cw c' hm qV eA⟩
end
end PySem
namespace Mi
open PySem L2 PySem.W PySem.Spec
section
variable {X:Cx} {Er:XK} {pos pos':Pos} {o i value:Expr} {fo fi fv:Aj}
def dS (z x:PV):PV->Mo Unit
 | .ref n,st=>match z with
  |.int (.ofNat k)=>yl st n λxs=>if k<xs.length then .ok () (st.set n (.lst (xs.set k x))) else .stuck
  |_=>.stuck
 |_,_=>.stuck
def uf (fo fi fv:Aj):Ak:=λenv st=>(fv env st).bind λx ae=>(fo env ae).bind λo aQ=>(fi env aQ).bind λz bq=>(dS z x o bq).bind λ_ eL=>.ok (.nx env) eL
theorem Rs.put {K:Frag}{mg:Ab}{ρ:Af}{H:Hp}{x:PV}{v:V}(r:R K mg ρ H x v):∀{xs:Aq}{vs:List V}(k:Nat),Rs K mg ρ H xs vs->Rs K mg ρ H (xs.set k x) (vs.set k v)
 |[],_,k,h=>by cases h;cases k<;>rfl
 |y::ys,_,0,h=>by
  obtain ⟨w,q,rfl,h1,h2⟩:=h
  exact ⟨v,q,rfl,r,h2⟩
 |y::ys,_,k+1,h=>by
  obtain ⟨w,q,rfl,h1,h2⟩:=h
  exact ⟨w,_,rfl,h1,Rs.put r k h2⟩
def RW (ho:ME X Er o fo) (hi:ME X Er i fi) (hv:ME X Er value fv)
  (ha:∀v,assign (.Subscript o i pos') X.env v=(do
   let ov <-holding [v] (eval o X.env)
   let iv <-holding [v,ov] (eval i X.env)
   standAt pos'
   holding [v,ov,iv] (setItem ov iv v)
   release [v,ov,iv] []):=by intro _;rfl)
  (hs:swapsWithSole [.Subscript o i pos'] value pos.line X.env=pure false:=by rfl) (hw:swappedStores [.Subscript o i pos'] value X.env=pure none:=by rfl)
  (h1:(assignEach [.Subscript o i pos'] X.env).map (·.2)=[assign (.Subscript o i pos') X.env]:=by rfl):MS X Er (.Assign [.Subscript o i pos'] value pos) (uf fo fi fv) :=
 PS.weak (LQ hv (LO ho hi NG ha) hs hw h1) λD σ H ⟨env,st,ρ,re,rs,h⟩=>⟨env,st,ρ,re,rs,h.then λah H1 x ae e1 s1 h1 v rv=>⟨env,ae,ah,re.ext e1,s1,h1.then λaq H2 y aQ e2 s2 h2 w rw=>⟨env,aQ,aq,(re.ext e1).ext e2,s2,h2.then λao H3 zz bq e3 s3 h3 u ru=>by
  cases y with
  |ref n =>
   cases zz with
   |int z =>
    cases z with
    |ofNat k =>
     cases hn:bq[n]? with
     |none=>simp only [dS,yl,hn] at h3;exact h3.elim
     |some so =>
      cases so with
      |dic _ _=>simp only [dS,yl,hn] at h3;exact h3.elim
      |ins _ _ _=>simp only [dS,yl,hn] at h3;exact h3.elim
      |fdi _ _=>simp only [dS,yl,hn] at h3;exact h3.elim
      |dit _ _=>simp only [dS,yl,hn] at h3;exact h3.elim
      |lst xs =>
       simp only [dS,yl,hn] at h3
       by_cases hc:k<xs.length
       ·rw [zx hc] at h3
        obtain ⟨a,vs,e4,ha,k1,k2⟩:=R.refL s3 (R.ext e3 _ rw) hn
        subst e4
        cases ru
        have RX:vs.length=xs.length:=k2.len.symm
        have ew:Ext ao H3 ao (upd H3 a (.lst (vs.set k v))):=Ext.write k1 rfl
        have RY:fH vs.length (Int.ofNat k)=some k:=by
         unfold fH
         rw [zx (by show (0:Int)<=((k:Nat):Int);omega),zx (by rw [RX];show ((k:Nat):Int)<xs.length;omega)]
         rfl
        refine ⟨a,vs,_,k,rfl,rfl,k1,RY,h3 ao _ ew (s3.write ha ew ⟨vs.set k v,yZ,Rs.ext ew _ (Rs.put (R.ext e3 x (R.ext e2 x rv)) k k2)⟩) σ ((((re.ext e1).ext e2).ext e3).ext ew)⟩
       ·rw [zK hc] at h3;exact h3.elim
    |negSucc k=>exact h3.elim
   |_=>exact h3.elim
  |_=>exact h3.elim⟩⟩⟩
def ma {n k:Nat}{st:aa}{xs:Aq}(h:st[n]?=some (.lst xs)) (hk:k<xs.length) (x:PV):dS (.int k) x (.ref n) st=.ok () (st.set n (.lst (xs.set k x))):=by
 show yl st n _=_
 rw [ym h,zx hk]
end
end Mi
namespace L2
open PySem PySem.Spec PyProof.Rows PySem.W
section
variable {prog:Program} {w:World} {A:Around} {E:Aa} {s:Shared}
def RZ {a:Addr}{vs:List (Key×Value)}{Q:Aa}(hd:s.heap.DictOf (bb prog w) a vs) (ha:(a==sysModules)=false) (hz:vs.length<=sizeLine)
  (h:∀h',h'.DictOf (bb prog w) s.heap.objs.size vs->(∀c o,s.heap.get? c=some o->h'.get? c=some o)->Q (.ref s.heap.objs.size) { s with heap:=h' }) :
  wpAny (model prog w) A (call (.type "dict") [.ref a]) Q E s:=by
 refine callType_codes (Q₁:=λobj am=>obj=.ref s.heap.objs.size/\am={ s with heap:=s.heap.push { cls:=.type "dict", data:=.dict #[] } }) F.kt_called_dict (F.kt_typeCall_dict_1 _) F.entry_dict_init (kt_code_dict_new _ ⟨rfl,rfl⟩) ?_
 rintro obj am ⟨rfl,rfl⟩
 have qW:(s.heap.push { cls:=.type "dict", data:=.dict #[] }).DictOf (bb prog w) s.heap.objs.size []:=Heap.DictOf.new s.heap
 have up:∀c o,s.heap.get? c=some o->(s.heap.push { cls:=.type "dict", data:=.dict #[] }).get? c=some o:=λc o e=>yk _ e
 have fg:(s.heap.push { cls:=.type "dict", data:=.dict #[] }).DictOf (bb prog w) a vs:=hd.push _
 have lt:a<s.heap.objs.size:=let ⟨_,_,_,ho,_⟩:=hd;yn ho
 have ne:s.heap.objs.size≠a:=Nat.ne_of_gt lt
 have nd:(vs.map (·.1)).Nodup:=let ⟨_,_,_,_,_,_,_,_,hn⟩:=hd;hn
 refine ⟨qW.typeIs,F.args_dict_init_2 _ _,?_⟩
 unfold Builtin.«dict.__init__»
 refine zB ?_
 unfold Builtin.Dict.selfAndRest
 refine zB (wpAny_notOrdered_dict qW.typeIs ?_)
 show wpAny _ _ (pure (s.heap.objs.size,[Value.ref a])) _ _ _
 refine yb ?_
 show wpAny _ _ (Builtin.Dict.updateFrom "dict.__init__" s.heap.objs.size (.ref a) [] .none) _ _ _
 unfold Builtin.Dict.updateFrom
 refine zB (wpAny_typeOf fg.typeIs ?_)
 rw [zK (by decide)]
 refine zB ?_
 unfold Builtin.Dict.merge
 refine zB ?_
 unfold Builtin.Dict.readDirectly
 refine zB (wpAny_isInstance fg.typeIs isSubtype_dict_dict ?_)
 simp only [Bool.not_true,Bool.false_eq_true,if_false]
 refine zB (wpAny_specialOf fg.typeIs F.slot_dict_iter.lookup (yb ?_))
 simp only [beq_self_eq_true,if_true]
 refine zB (yb ?_)
 refine wpAny_mergeDict (hsz:=by simpa using hz) ne ha qW fg λh' h1 h2 R0=>?_
 rw [merged_nil_of_nodup vs nd] at h1
 show wpAny _ _ (Builtin.Dict.addKeywords s.heap.objs.size [] >>= _) _ _ _
 refine zB (yb (yb ?_))
 exact ⟨rfl,h h' h1 λc o e=>R0.extBut c o (yN (yn e)) (up c o e)⟩
end
def R5 {X:Cx}:cv X (.type "dict") (λxs H Q=>∃(a:Addr) (kvs:List (Key×V)),xs=[.ref a]/\H a=some (.dK kvs)/\∀q,H q=none->Q (.ref q) (upd H q (.dK kvs))):=by
 intro pins s σ H xs us Q I r h
 obtain ⟨a,kvs,rfl,hH,q⟩:=h
 obtain ⟨u,rfl,ru⟩:=lG r
 cases ru
 obtain ⟨hz,ha,vs,rel,dd⟩:=xD I.hok hH
 refine RZ dd ha (by rw [<-rel.length];exact hz) λh' d2 keep=>⟨.ref s.heap.objs.size,_,I.laid (a:=s.heap.objs.size) (o:=.dK kvs) (t':=s.toks) keep (yf _) (D6 hz ?_ rel d2),rfl,q _ (I.hok.fresh (yf _))⟩
 exact beq_eq_false_iff_ne.mpr (yO (yN I.big))
end L2
namespace Mi
open PySem L2 PySem.W PySem.Spec
section
variable {X:Cx}
def ug:An:=λxs st=>match xs with
 |[.ref n]=>yW st n λks xs=>.ok (.ref st.length) (st++[.dic ks xs])
 |_=>.stuck
def R7:dH X (.type "dict") ug:=⟨_,R5,fun ρ H st xs vs Q E s r h=>by
 unfold ug at h
 split at h
 ·rename_i n
  obtain ⟨ks,ys,hn,h⟩:=tE h
  obtain ⟨v,rfl,rv⟩:=r.one
  obtain ⟨a,vs,rfl,ha,k1,k2,k3⟩:=R.refD s rv hn
  refine ⟨a,_,rfl,k1,λq hq=>?_⟩
  have ex:Ext ρ H (ρ++[q]) (upd H q (.dK (kz ks vs))):=Ext.push hq
  exact h (ρ++[q]) _ ex (s.push hq ⟨vs,yZ,Rs.ext ex ys k2,k3⟩) _ ⟨q,rfl,by rw [<-s.len];simp⟩
 ·exact h.elim⟩
end
section
variable {X:Cx} {Er:XK} {pos:Pos}
def fZ (ft:Al) (fe:Aj) (env:zf):List PV->An
 |[],ys,st=>.ok (.ref st.length) (st++[.lst ys])
 |x::xs,ys,st=>(de (ft (some x::env) st)).bind λb ae=>if b=true then (de (fe (some x::env) ae)).bind λy aQ=>fZ ft fe env xs (ys++[y]) aQ else fZ ft fe env xs ys ae
def eh (ft:Al) (fe:Aj) (env:zf) (n:Nat):Nat->Nat->An
 |0,_,_,_=>.stuck
 | m+1,i,ys,st=>yl st n λxs=>match xs[i]? with
  |none=>.ok (.ref st.length) (st++[.lst ys])
  |some x=>(de (ft (some x::env) st)).bind λb ae=>if b=true then (de (fe (some x::env) ae)).bind λy aQ=>eh ft fe env n m (i+1) (ys++[y]) aQ else eh ft fe env n m (i+1) ys ae
def n_ (ft:Al) (fe:Aj) (env:zf):Sq->Mo PV
 |.im xs,st=>if xs.length<=lim then fZ ft fe env xs [] st else .stuck
 |.rf n,st=>eh ft fe env n (lim+1) 0 [] st
def qX (src:zf->Mo Sq) (ft:Al) (fe:Aj):Aj:=λenv st=>(src env st).bind λq ae=>n_ ft fe env q ae
def R8 {src:zf->Mo Sq}{ft:Al}{fe:Aj}(σ:L2.St) (H:Hp) (Q:VK) (hh:tM X.K X.mg Er (qX src ft fe) σ H Q):xl (FR X Er src) (wE 0) (oO X.K X.mg XN ft) (tM X.K X.mg XN fe) 1 σ H Q:=by
 obtain ⟨env,st,ρ,re,rs,h⟩:=hh
 refine ⟨env,st,ρ,re,rs,h.then λau H0 q cW e0 s0 h0 J wk=>?_⟩
 cases q with
 |im xs =>
  obtain ⟨hl,h0⟩:=Out.ifp h0
  obtain ⟨w1,w2,w3⟩:=wk
  refine ⟨λi m ys H=>m=xs.length-i/\i<=xs.length/\ys.length<=i/\∃ps st ρ,Rs X.K X.mg ρ H ps ys/\bu X.K X.mg ρ H st/\Ext au H0 ρ H/\Out X.K X.mg ρ H (fZ ft fe env (xs.drop i) ps st) (gV X.K X.mg Q) Er,⟨xs.length,by simp,jw _,jw _,[],cW,au,rfl,s0,Ext.refl,h0⟩,?_⟩
  rintro i m ys H ⟨rfl,hi,hy,ps,st,ρ,dh,rs,ex,h⟩
  by_cases bO:i<xs.length
  ·refine .inr ⟨w1 i ρ H ex bO,y0 (by omega),λv H' y=>?_⟩
   obtain ⟨x,hx,cz,s2,rx⟩:=w3 i ρ H st v H' ex rs bO y
   have hd:xs.drop i=x::xs.drop (i+1):=by
    rw [we bO]
    have:=(yt.mp hx).2
    rw [this]
   rw [hd] at h
   simp only [fZ] at h
   have iN:bJ X.K X.mg ρ H' (some x::env) (some v::σ):=(re.ext (e0.trans (ex.trans cz))).cons rx
   refine ⟨[some v],rfl,rfl,some x::env,st,ρ,iN,s2,wU (Out.ext h cz) λao H3 b bq e3 s3 h3=>?_⟩
   cases b with
   |true=>exact ⟨_,bq,ao,iN.ext e3,s3,wU h3 λaE H4 y eL e4 s4 h4 v4 r4=>⟨xs.length-(i+1),by omega,rfl,bO,by simp;omega,ps++[y],eL,aE,Rs.snoc r4 (Rs.ext ((cz.trans e3).trans e4) ps dh),s4,((ex.trans cz).trans e3).trans e4,h4⟩⟩
   |false=>exact ⟨xs.length-(i+1),by omega,rfl,bO,by omega,ps,bq,ao,Rs.ext (cz.trans e3) ps dh,s3,(ex.trans cz).trans e3,h3⟩
  ·have e:i=xs.length:=by omega
   subst e
   rw [List.drop_length] at h
   exact .inl ⟨w2 _ ρ H ex (yf _),y0 (by omega),λl hl=>Out.newList h rs dh hl⟩
 |rf n =>
  obtain ⟨a,ha,rfl⟩:=wk
  refine ⟨λi m ys H=>m+i=lim+1/\ys.length<=i/\∃ps st ρ,Rs X.K X.mg ρ H ps ys/\bu X.K X.mg ρ H st/\Ext au H0 ρ H/\ρ[n]?=some a/\Out X.K X.mg ρ H (eh ft fe env n m i ps st) (gV X.K X.mg Q) Er,⟨lim+1,rfl,jw _,[],cW,au,rfl,s0,Ext.refl,ha,h0⟩,?_⟩
  rintro i m ys H ⟨hm,hy,ps,st,ρ,dh,rs,ex,ha,h⟩
  cases m with
  |zero=>exact h.elim
  |succ m =>
   obtain ⟨xs,hn,h⟩:=jX h
   obtain ⟨vs,hH,hR⟩:=rs.addr hn ha
   cases hx:xs[i]? with
   |none =>
    simp only [hx] at h
    have:vs.length<=i:=by rw [<-hR.len];exact oj.mp hx
    exact .inl ⟨⟨vs,bE.of hH,this⟩,y0 (by omega),λl hl=>Out.newList h rs dh hl⟩
   |some x =>
    simp only [hx] at h
    obtain ⟨v,hv,rv⟩:=hR.get hx
    refine .inr ⟨⟨vs,v,bE.of hH,hv⟩,y0 (by omega),λv' H' y=>?_⟩
    obtain ⟨e1,y⟩:=y
    subst e1
    have e2:=y vs (bE.of hH)
    rw [hv] at e2
    cases e2
    have iN:bJ X.K X.mg ρ H' (some x::env) (some v::σ):=(re.ext (e0.trans ex)).cons rv
    refine ⟨[some v],rfl,rfl,some x::env,st,ρ,iN,rs,wU h λao H3 b bq e3 s3 h3=>?_⟩
    cases b with
    |true=>exact ⟨_,bq,ao,iN.ext e3,s3,wU h3 λaE H4 y eL e4 s4 h4 v4 r4=>⟨m,wg m,by omega,by simp;omega,ps++[y],eL,aE,Rs.snoc r4 (Rs.ext (e3.trans e4) ps dh),s4,(ex.trans e3).trans e4,e4.get (e3.get ha),h4⟩⟩
    |false=>exact ⟨m,wg m,by omega,by omega,ps,bq,ao,Rs.ext e3 ps dh,s3,ex.trans e3,e3.get ha,h3⟩
def R9 {elt iter c:Expr} {x:Str} {px:Pos} {scope:Scope} {src:zf->Mo Sq} {ft:Al} {fe:Aj} {N:Ae} (hc:X.calm=true) (S:dQ X.env.scope scope [x]) (eN:X.N=N) (dc:((".0" : Str)::([x]++N)).Nodup)
  (hi:MI X Er (.Name x px) iter src) (mR:∀cl C ag ai fp,MT (fq X scope cl [x] C ag ai fp (λ_ _=>False)) XN c ft) (he:∀cl C ag ai fp,ME (fq X scope cl [x] C ag ai fp (λ_ _=>False)) XN elt fe)
  (hx:scope.names.lookup x=some .local:=by rfl) (hs:∀v,foldedSetIterable iter X.env v=pure v:=by intro _;rfl):ME X Er (.ListComp elt [⟨.Name x px,iter,[c],0⟩] scope pos) (qX src ft fe):=by
 have hN:([x]++X.N).Nodup:=by rw [eN];exact (jU.mp dc).2
 have gX:∀cl C ag ai fp E,PG (fq X scope cl [x] C ag ai fp E) (.Name x px) (wE 0):=λcl C ag ai fp E=>iE (X:=fq X scope cl [x] C ag ai fp E) (i:=0) hN rfl (.inl (wc hx)) (.inr (wc hx))
 exact PE.weak (xA (te:=tM X.K X.mg XN fe) (tt:=oO X.K X.mg XN ft) hc S eN dc hi gX (λcl C ag ai fp=>DV (mR cl C ag ai fp)) (λcl C ag ai fp=>he cl C ag ai fp) hs) fun σ H Q hh=>R8 σ H Q hh
@[simp] def R_ {src:zf->Mo Sq}{ft:Al}{fe:Aj}(env:zf) (st:aa):qX src ft fe env st=(src env st).bind λq ae=>n_ ft fe env q ae:=(rfl)
end
section
variable {K:Frag} {h:Heap} {mg:Ab} {od:Option Addr} {f:Addr}
def zrL {O t t2:Addr} {wd k1 k2 k3 y:Str} {u1 u2 u3:Tok} {n n2:Nat} {AJ:Option Addr} {sl gQ:Array (Option Value)} (X:K.In h) (G:h.Ns mainGlobals mg) (e:nsIn K O wd=some (some (.ref t))) (l1:K.lookup t=some ⟨.type "tuple", od,.seq #[.ref t2,.ref f] n,sl⟩)
  (l2:K.lookup t2=some ⟨.type "tuple", AJ,.seq #[.str k1 u1,.str k2 u2,.str k3 u3] n2,gQ⟩) (a:nsIn K mainGlobals y=some (some (.ref f))):∃u v,nsIn K O wd=some (some u)/\RelV v u/\∀ρ H,R K mg ρ H (.tup [.tup [.str k1,.str k2,.str k3],.fn y]) v:=by
 refine ⟨_,.ref t,e,rfl,t_ (xs:=[.tup [.str k1,.str k2,.str k3],.fn y]) (vs:=[.ref t2,.ref f]) l1 rfl (by simp) (.cons rfl (.cons rfl .nil)) fun ρ H=>?_⟩
 exact ⟨_,_,rfl,t_ (xs:=[.str k1,.str k2,.str k3]) (vs:=[.str k1,.str k2,.str k3]) l2 rfl (by simp) (.cons ⟨_,rfl⟩ (.cons ⟨_,rfl⟩ (.cons ⟨_,rfl⟩ .nil))) (fun ρ H=>⟨_,_,rfl,rfl,_,_,rfl,rfl,_,_,rfl,rfl,rfl⟩) ρ H,_,_,rfl,⟨f,rfl,mg_of X G a⟩,rfl⟩
end
def Sa {K:Frag}{mg:Ab}{ρ:Af}{H:Hp}:∀{xs:Aq}{zs:Ae}{vs:List V},strsOf xs=some zs->Rs K mg ρ H xs vs->vs=zs.map V.str:=λ{xs zs vs} h r=>by
 have:=Fd h r
 rw [this]
 simp [kV,List.map_map,Function.comp_def]
end Mi
namespace Mi
open PySem L2 PySem.W
section
variable {g g':Ak} {f fa fb:Aj} {fs:Ai} {t ta tb:Al} {e e1:zf} {st s1 s2:aa} {x y v:PV} {xs:Aq} {b:Bool}
def zu {X:Res Fl}(h:g e st=.ok (.nx e1) s1) (h':g' e1 s1=X):zw g g' e st=X:=by rw [EK,h,zJ,Qu,h']
def wH (h:g e st=.ok (.rt v) s1):zw g g' e st=.ok (.rt v) s1:=by rw [EK,h,zJ,Qv]
def zQ {i:Nat}(h:f e st=.ok v s1):zO i f e st=.ok (.nx (e.set i (some v))) s1:=by rw [Qw,h,zJ]
def jD (h:f e st=.ok v s1):yH f e st=.ok (.nx e) s1:=by rw [Qx,h,zJ]
def zY (h:f e st=.ok v s1):z0 f e st=.ok (.rt v) s1:=by rw [Qy,h,zJ]
def jb {X:Res Fl}(h:t e st=.ok true s1) (h':g e s1=X):yd t g g' e st=X:=by rw [EL,h,zJ,zx rfl,h']
def qY {X:Res Fl}(h:t e st=.ok false s1) (h':g' e s1=X):yd t g g' e st=X:=by rw [EL,h,zJ,zK (by simp),h']
def yj (h:t e st=.ok false s1):yd t g yi e st=.ok (.nx e) s1:=qY h (Qt ..)
def ze {i:Nat}(h:e[i]?=some (some v)):zc i e st=.ok v st:=by rw [Qg,h]
def zo {op:Ao}{X:Res PV}(h:fa e st=.ok x s1) (h':fb e s1=.ok y s2) (h2:op x y s2=X):zk op fa fb e st=X:=by rw [Qh,h,zJ,h',zJ,h2]
def yE {op:PV->Mo PV}{X:Res PV}(h:fa e st=.ok x s1) (h2:op x s1=X):yc op fa e st=X:=by rw [Qi,h,zJ,h2]
def zy {m:An}{X:Res PV}(h:fs e st=.ok xs s1) (h2:m xs s1=X):zt m fs e st=X:=by rw [Qq,h,zJ,h2]
def uh (h:f e st=.ok x s1) (h':fs e s1=.ok xs s2):zd f fs e st=.ok (x::xs) s2:=by rw [Ql,h,zJ,h',zJ]
def jS:zj e st=.ok [] st:=(rfl)
def zF (h:f e st=.ok x s1):zd f zj e st=.ok [x] s1:=uh h jS
def zD (h:f e st=.ok x s1) (h':fa e s1=.ok y s2):zd f (zd fa zj) e st=.ok [x,y] s2:=uh h (zF h')
def zP (h:fs e st=.ok xs s1) (hl:xs.length<=1000000):zI fs e st=.ok (.tup xs) s1:=by rw [Qm,h,zJ,zx hl]
def jm (h:fs e st=.ok xs s1) (hl:xs.length<=1000000):jg fs e st=.ok (.ref s1.length) (s1++[.lst xs]):=by rw [Qn,h,zJ,zx hl]
def zU (h:f e st=.ok (.bl b) s1):mB f e st=.ok b s1:=by rw [Qj,h,zJ,AH]
def mf (h:ta e st=.ok false s1):jN ta tb e st=.ok false s1:=by rw [EH,h,zJ,zK (by simp)]
def nI (h:ta e st=.ok true s1) (h':tb e s1=.ok b s2):jN ta tb e st=.ok b s2:=by rw [EH,h,zJ,zx rfl,h']
def Sb (h:ta e st=.ok true s1):oQ ta tb e st=.ok true s1:=by rw [EI,h,zJ,zx rfl]
def Sd (h:ta e st=.ok false s1) (h':tb e s1=.ok b s2):oQ ta tb e st=.ok b s2:=by rw [EI,h,zJ,zK (by simp),h']
def Bj (h:ta e st=.ok b s1):kG ta e st=.ok (!b) s1:=by rw [Qk,h,zJ]
def Se {X:Res PV}(h:fa e st=.ok (.bl true) s1) (h':fb e s1=X):nq fa fb e st=X:=by rw [EJ,h,zJ,AH,zJ,zx rfl,h']
def FV {i:Int}(h:f e st=.ok (.int i) s1):g8 f e st=.ok (some i) s1:=by rw [Qo,h,zJ,Qp]
def FW:kI e st=.ok none st:=(rfl)
def jL {op:Ao}{n:Nat}{ys:Aq}{X:Res PV}(h:fa e st=.ok (.ref n) s1) (hl:s1[n]?=some (.lst ys)) (h':fb e s1=.ok y s2) (h2:op (.ref n) y s2=X):yC op fa fb e st=X:=by
 rw [QE,h,zJ,QF]
 simp only [yl,hl,zJ]
 rw [h',zJ,h2]
def FX (i j:Int):yh (.int i) (.int j) st=.ok (.int (i+j)) st:=(rfl)
def Bk (i j:Int):qA (.int i) (.int j) st=.ok (.int (i-j)) st:=(rfl)
def Bl (i j:Int) (h:j≠0):ja (.int i) (.int j) st=.ok (.int (wQ i j)) st:=by show (if _ then _ else _)=_;rw [zx (by simpa using h)]
def qZ (i j:Int) (h:j≠0) (h2:j.natAbs<2 ^ 200):iI (.int i) (.int j) st=.ok (.int (wj i j)) st:=by
 show (if _ then _ else _)=_
 rw [zx]
 simp only [xT,lE,kj]
 exact ⟨h,h2⟩
def Sf (i j:Int):wS (.int i) (.int j) st=.ok (.bl (decide (i<j))) st:=(rfl)
def Sg (i j:Int):tI (.int i) (.int j) st=.ok (.bl (decide (j<i))) st:=(rfl)
def uk (i j:Int):yx (.int i) (.int j) st=.ok (.bl (decide (i=j))) st:=by simp [Mi.plain,dep,bY];rfl
def Sh (i j:Int):jY (.int i) (.int j) st=.ok (.bl (!decide (i=j))) st:=by simp [Mi.plain,dep,bY];rfl
def Si (i j:Str):yx (.str i) (.str j) st=.ok (.bl (decide (i=j))) st:=by simp [Mi.plain,dep,bY];rfl
def Sj (i j:Str):jY (.str i) (.str j) st=.ok (.bl (!decide (i=j))) st:=by simp [Mi.plain,dep,bY];rfl
def FY (i j:Int) (h:lV i j=true):wG (.int i) (.int j) st=.ok (.int (i*j)) st:=by rw [Q_,zx h]
def zZ {m:Nat}{n:Nat}{r:aa}(hl:xs.length=m) (h:g (xs.map some++List.replicate (n-m) none) st=.ok (.rt v) r):zX m n g xs st=.ok v r:=by
 unfold zX
 rw [zx hl,h,zJ,QA]
end
end Mi
namespace Mi
open PySem L2 PySem.W PySem.Spec
def FZ:Expr->Bool
 |.Starred _ _=>false
 |_=>true
def Sk {e:Expr}{es:List Expr}{env:Env}(h:FZ e=true):Fc e es env:=by cases e<;>first|rfl|cases h
def zh {X:Cx}{Er:XK}{e:Expr}{es:List Expr}{fa:Aj}{fs:Ai}(ha:ME X Er e fa) (hr:MA X Er es fs) (hs:FZ e=true:=by rfl):MA X Er (e::es) (zd fa fs):=En ha hr (Sk hs)
section
variable {X:Cx} {Er:XK} {e o:Expr} {apos bg:Pos} {fo fa:Aj} {x:Str} {h:Heap}
def Sl:Ao
 | .str z,.ref n,st=>yl st n λxs=>match strsOf xs with
  |some ys=>if (ys.map (·.length)).sum+ys.length*z.length<=1000000 then .ok (.str (Txt.join z ys)) st else .stuck
  |none=>.stuck
 |_,_,_=>.stuck
def q8 (fo fa:Aj):Aj:=λenv st=>(fo env st).bind λo ae=>match o with
 |.str z=>(fa env ae).bind λy aQ=>Sl (.str z) y aQ
 |_=>.stuck
def ziX (ho:ME X Er o fo) (he:ME X Er e fa) (c7:attributeBase o "join" X.env (eval o X.env)=eval o X.env:=by rfl)
  (fO:((backTo bg (starEach [e] X.env)).all (λx=>!x.1)&&(backToKw bg (keywordEach [] X.env)).all (λx=>x.1.isSome)&&decide ([e].length+([]:List Keyword).length+(if ([]:List Keyword).isEmpty then 0 else 1)<30))=true:=by rfl)
  (c_:(apos.endLine==bg.line)=true:=by rfl) (hs:starEach [e] X.env=(false,eval e X.env)::starEach [] X.env:=by rfl) (bX:(backTo bg (starEach [] X.env)).any (·.1)=false:=by rfl):ME X Er (.Call (.Attribute o "join" apos) [e] [] bg) (q8 fo fa) :=
 PE.weak (sI PySem.F.plainAttrs_str PySem.F.slot_str_join PySem.F.type_str_join N3 ho (qe he qd hs) c7 fO c_ hs bX) fun σ H Q ⟨env,st,ρ,re,rs,h⟩=>⟨env,st,ρ,re,rs,h.then λah H1 x ae e1 s1 h1 v rv=>by
  cases x with
  |str z =>
   cases rv
   refine ⟨rfl,env,ae,ah,re.ext e1,s1,h1.then λaq H2 y aQ e2 s2 h2 w dm=>?_⟩
   cases y with
   |ref n =>
    obtain ⟨p,rfl,hp⟩:=dm
    obtain ⟨xs,hn,h3⟩:=jX h2
    cases hq:strsOf xs with
    |none=>simp only [hq] at h3;exact h3.elim
    |some ys =>
     simp only [hq] at h3
     obtain ⟨hl,h4⟩:=Out.ifp h3
     obtain ⟨vs,hH,hR⟩:=s2.addr hn hp
     rw [Sa hq hR] at hH
     exact ⟨z,p,ys,rfl,rfl,.inl (.inl hH),by omega,Out.now (x:=PV.str (Txt.join z ys)) h4 s2 _ rfl⟩
   |_=>exact h2.elim
  |_=>exact h1.elim⟩
end
end Mi
namespace L2
open PySem PySem.Spec PyProof.Rows PySem.W
structure Sn (K:Frag) (C B:Addr):Prop where
 of:Ee K C
 sub:mroIn K C (.ref B)=some true
end L2
namespace Mi
open PySem L2 PySem.W PySem.Spec PyProof.Rows
def d5 (a b:Str):Bool:=decide (a.cps.toList<=b.cps.toList)
def bN (ks:Ae):Ae:=ks.mergeSort d5
def um (a b c:Str) (h:d5 a b=true) (h':d5 b c=true):d5 a c=true:=by
 unfold d5 at *
 rw [kj] at *
 exact List.le_trans h h'
def Bn (a b:Str):(d5 a b||d5 b a)=true:=by
 unfold d5
 rw [Bool.or_eq_true,kj,kj]
 exact List.le_total _ _
def F0 {a b:Str}(h:d5 a b=true) (h':d5 b a=true):a=b:=by
 unfold d5 at *
 rw [kj] at *
 have:=List.le_antisymm h h'
 cases a;cases b
 simp only at this
 rw [Str.mk.injEq]
 exact Array.toList_inj.mp this
theorem F5:∀(l:Ae) (p:Str),risingS p l=true->(∀x∈l,d5 p x=true)/\l.Pairwise (λa b=>d5 a b=true)
 |[],p,_=>⟨(λx h=>by cases h),.nil⟩
 |q::r,p,h=>by
  have e:risingS p (q::r)=(!Spec.ltCps q.cps.toList p.cps.toList&&risingS q r):=rfl
  rw [e,lE,Bool.not_eq_true',ltCps_eq,decide_eq_false_iff_not,List.not_lt] at h
  obtain ⟨h1,h2⟩:=F5 r q h.2
  have pq:d5 p q=true:=by unfold d5;rw [kj];exact h.1
  refine ⟨λx hx=>?_,.cons h1 h2⟩
  rcases yI.mp hx with rfl|hx
  ·exact pq
  ·exact um _ _ _ pq (h1 x hx)
def So {l:Ae}(h:sortedS l=true):l.Pairwise (λa b=>d5 a b=true):=by
 cases l with
 |nil=>exact .nil
 |cons p r=>obtain ⟨h1,h2⟩:=F5 r p h;exact .cons h1 h2
def Sr {ks ss:Ae}(hp:ss.Perm ks) (hs:sortedS ss=true):ss=bN ks :=
 List.Perm.eq_of_pairwise (le:=λa b=>d5 a b=true) (λa b _ _ h h'=>F0 h h') (So hs) (List.pairwise_mergeSort um Bn ks) (hp.trans (List.mergeSort_perm ks d5).symm)
section
variable {prog:Program} {w:World} {A:Around} {E:Aa} {s:Shared}
def Ss {h:Heap} {a:Addr} {vs:Ag} {n:Nat} (ho:h.get? a=some (seqObj "list" vs.toArray n)) (out:Array Value):∃e,(sortedHeap h a vs out).get? a=some (seqObj "list" out e):=by
 have ha:=yn ho
 have h1:=get?_update_seq ho (λ_=>#[])
 have h2:(((h.update a (Obj.mapSeq λ_=>#[])).push (seqObj "tuple" vs.toArray 0)).push (seqObj "list" #[] 0)).get? a=some (seqObj "list" #[] (if ((#[]:Array Value).size==vs.toArray.size)=true then n else n+1)):=yk _ (yk _ h1)
 exact ⟨_,get?_update_seq h2 (λ_=>out)⟩
def Su {h:Heap}{a:Addr}{vs:Ag}{out:Array Value}{b:Addr}{o:Obj}(hb:b≠a) (e:h.get? b=some o):(sortedHeap h a vs out).get? b=some o:=by
 unfold sortedHeap
 rw [Heap.get?_update_ne _ _ _ _ hb]
 refine yk _ (yk _ ?_)
 rw [Heap.get?_update_ne _ _ _ _ hb]
 exact e
def Sv {K:Type} [DecidableEq K] {knd:KeyKind prog w K}{d:Addr}{kvs:List (K×Value)}{ep:Nat}{ss:Ae}{Q:Aa}(hh:A.handled=none) (lo:(d==sysModules)=false) (nF:s.heap.DictAt knd d kvs ep) (F6:kvs.length<64)
  (hS:∀vs:Ag,vs.length=kvs.length->(∀(j:Nat) (v:Value),vs[j]?=some v->∃k x,kvs[j]?=some (k,x)/\knd.is k v=true)->StrsAre vs ss)
  (h:∀(h1 h2:Heap) (tk:Nat) (out:Ag) (e:Nat),(∀b o,s.heap.get? b=some o->h1.get? b=some o)->(∀b o,h1.get? b=some o->h2.get? b=some o)->h2.get? h1.objs.size=some (seqObj "list" out.toArray e)->StrsAre out (bN ss)->Q (.ref h1.objs.size) { s with heap:=h2,toks:=tk }) :
  wpAny (model prog w) A (call (.builtin "sorted") [.ref d]) Q E s:=by
 refine Calls.call_function_entry kind_sorted plain_sorted entry_sorted (args_sorted1 _) ?_
 unfold Builtin.«sorted»
 refine zB (m:=checkCount "sorted" 1 1 _) (yb ?_)
 refine zB (kdu_collect (A:=A.in1) (kdl_dict (knd:=knd) (kvs:=kvs) (ep:=ep) lo) hh nF (by rw [sizeLine_eq];omega) λh' tk acc hk eA=>?_)
 have hl:acc.toList.length=kvs.length:=by rw [Array.length_toList];exact eA.1
 refine zB (wpAny_newList ?_ (by rw [hl,sizeLine_eq];omega))
 have Bo:=hS acc.toList hl (λj v e=>eA.2 j v (by rw [<-Array.getElem?_toList];exact e))
 have pW:(h'.push (seqObj "list" acc.toList.toArray 0)).get? h'.objs.size=some (seqObj "list" acc.toList.toArray 0):=yY _ rfl
 refine zB (wv (wJ (s:={ s with heap:=h'.push (seqObj "list" acc.toList.toArray 0),toks:=tk }) slot_list_sort ⟨_,pW,rfl⟩ entry_list_sort (list_sort_treeK (s:={ s with heap:=h'.push (seqObj "list" acc.toList.toArray 0),toks:=tk }) strKind_oneLt pW Bo.keysOf (λaS aU rest e=>keyKind_strs (by rw [<-e];exact Bo)) (by rw [hl];exact F6) λbH a1 a2=>⟨_,rfl,?_⟩) (args_list_sort _)))
 obtain ⟨ZP,q1,q2,q3⟩:=sorted_out_str Bo a1 a2
 obtain ⟨e,he⟩:=Ss pW ((arrOf bH).map (·.2))
 rw [Sr q2 q3] at q1
 exact yb ⟨_,rfl,h h' _ tk _ e hk (λb o eb=>Su (yN (yn eb)) (yk _ eb)) he q1⟩
end
section
variable {X:Cx}
theorem F7:∀{out:Ag}{ss:Ae},StrsAre out ss->Vals (ss.map V.str) out
 |_,_,.nil=>.nil
 |_,_,.cons y t h=>.cons ⟨t,rfl⟩ (F7 h)
def Sw:List V->Hp->VK->Prop:=λxs H Q=>∃a ks ws,xs=[.ref a]/\H a=some (.dK (kz ks ws))/\ks.length=ws.length/\ks.length<64/\∀l,H l=none->Q (.ref l) (upd H l (.lst ((bN ks).map V.str)))
def Sx {ks:Ae}{ws:List V}{kv:List (Key×Value)}(hl:ks.length=ws.length) (r:KV (kz ks ws) kv) {vs:Ag}(hlen:vs.length=kv.length) (h:∀(j:Nat) (v:Value),vs[j]?=some v->∃k x,kv[j]?=some (k,x)/\eM k v=true):StrsAre vs ks:=by
 induction ks generalizing ws kv vs with
 |nil =>
  cases ws with
  |nil =>
   cases r
   cases vs with
   |nil=>exact .nil
   |cons v vs=>simp at hlen
  |cons w ws=>simp at hl
 |cons k ks ih =>
  cases ws with
  |nil=>simp at hl
  |cons w ws =>
   obtain ⟨u,A_,rfl,h1,h2⟩:=AZ r
   cases vs with
   |nil=>simp at hlen
   |cons v vs =>
    obtain ⟨k',x,e,hk⟩:=h 0 v rfl
    cases e
    rcases wN hk with ⟨i,t,e1,_⟩|⟨y,t,e1,e2⟩
    ·cases e1
    ·cases e1
     subst e2
     exact .cons _ _ (ih (by simpa using hl) h2 (by simpa using hlen) λj v hj=>h (j+1) v (by simpa using hj))
def Sy (hc:X.calm=true):cv X (.builtin "sorted") Sw:=by
 intro pins s σ H xs us Q I r h
 obtain ⟨a,ks,ws,rfl,ha,hl,F6,q⟩:=h
 obtain ⟨u,rfl,ru⟩:=r.one
 obtain rfl:u=Value.ref a:=ru
 obtain ⟨hz,lo,kv,iM,hd⟩:=jW I.hok (.inl ha)
 obtain ⟨ep,nF⟩:=hd.dictAt
 have lk:kv.length=ks.length:=by rw [<-iM.length];simp [kz,hl]
 refine Sv (knd:=bb X.prog X.w) (I.ok.hd hc) lo nF (by omega) (λvs hlen hv=>Sx hl iM hlen hv) λh1 h2 tk out e k1 k2 he hs=>?_
 have I1:Inv X pins σ H { s with heap:=h1,toks:=tk }:=I.kept (t':=tk) k1
 have hn:H h1.objs.size=none:=I1.hok.fresh (yf _)
 have lv:((bN ks).map V.str).length<=sizeLine:=by
  rw [jx,sizeLine_eq]
  unfold bN
  rw [List.length_mergeSort]
  omega
 exact ⟨.ref h1.objs.size,_,I1.laid (t':=tk) k2 (yf _) (show bo X.prog X.w _ h2 _ (.lst ((bN ks).map V.str)) from ⟨lv,out,e,F7 hs,he⟩),rfl,q _ hn⟩
def o_:An:=λxs st=>match xs with
 |[.ref n]=>yW st n λks _=>if ks.length<64 then .ok (.ref st.length) (st++[.lst ((bN ks).map PV.str)]) else .stuck
 |_=>.stuck
def Sz:bootBuiltins "sorted" = some (.builtin "sorted"):=by decide +kernel
end
section
variable {X:Cx}
theorem F9 {K:Frag}{mg:Ab}{ρ:Af}{H:Hp}:∀zs:Ae,Rs K mg ρ H (zs.map PV.str) (zs.map V.str)
 |[]=>rfl
 |z::zs=>⟨_,_,rfl,rfl,F9 zs⟩
def SA (hc:X.calm=true):dH X (.builtin "sorted") o_:=⟨_,Sy hc,fun ρ H st xs vs Q E s r h=>by
 unfold o_ at h
 match xs,h with
 |[.ref n],h =>
  obtain ⟨ks,xs,hn,h⟩:=tE h
  obtain ⟨v,rfl,rv⟩:=r.one
  obtain ⟨a,ws,rfl,ha,k1,k2,k3⟩:=R.refD s rv hn
  obtain ⟨c,h⟩:=Out.ifp h
  refine ⟨a,ks,ws,rfl,k1,k3,c,λl hl=>?_⟩
  have ep:Ext ρ H (ρ++[l]) (upd H l (.lst ((bN ks).map V.str))):=Ext.push hl
  exact h _ _ ep (s.push hl ⟨_,yZ,F9 _⟩) _ ⟨l,rfl,by rw [<-s.len];simp⟩⟩
end
end Mi
namespace Mi
open PySem L2 PySem.W PySem.Spec
def uo (C:Str) (m:An) (c:Str):Option (An):=if c=C then some m else none
def F_ {P:Program}{w:World}{K:Frag}{mg:Ab}{base:Heap}{C n:Str}{k:Nat}{m m':An}{c:Str}(ok:cm P w K mg base C n k m) (h:uo C m c=some m'):cm P w K mg base c n k m':=by
 unfold uo at h
 by_cases e:c=C
 ·rw [zx e] at h;cases h;rw [e];exact ok
 ·rw [zK e] at h;cases h
end Mi
namespace L2
open PySem PySem.Spec PyProof.Rows PySem.W Mi
section
variable {X:Cx} {pins:Ac} {σ:St} {H H':Hp} {s:Shared} {a b:Addr} {its:List (List Key×Addr×Value)} {k:List Key} {A:Around} {E:Aa} {r:Value}
abbrev g_ (K:Frag) (H:Hp) (its:List (List Key×Addr×Value)):Prop:=∀x,x∈its->bD K H x.2.1 (x.1.map kV)
def q_ (I:Inv X pins σ H s) (h:bD X.K H b (k.map kV)):(tupleKind (bb X.prog X.w)).is s.heap k b:=by
 obtain ⟨us,r,⟨o,h1,h2,n,h3⟩,_⟩:=I.tuple h
 exact ⟨o,us.toArray,n,h1,h2,h3,by simpa using xC r⟩
def rd (I:Inv X pins σ H s) (e:H a=some (dE a its)) (ks:g_ X.K H its):its.length<=sizeLine/\(a==sysModules)=false/\s.heap.DictOfH (tupleKind (bb X.prog X.w)) a its:=by
 obtain ⟨⟨z,y,o,es,ep,h1,h2,h3,h4,h5⟩,_⟩:=(show bo X.prog X.w H s.heap a (dE a its) from I.hok a _ e)
 exact ⟨z,y,o,es,ep,h1,h2,h3,h4,λx hx=>q_ I (ks x hx),h5⟩
def SD {p:Addr×Value}{Q:Aa}(hu:A.units+1<cLine) (I:Inv X pins σ H s) (e:H a=some (dE a its)) (ks:g_ X.K H its) (kb:bD X.K H b (k.map kV)) (hp:atKey its k=some p)
  (h:∀s',Inv X pins σ H s'->Q p.2 s'):wpAny (model X.prog X.w) A (getItem (.ref a) (.ref b)) Q E s:=by
 obtain ⟨z,hd,dd⟩:=rd I e ks
 exact wpAny_getItem_heap (tupleKind_room_in1 hu) (q_ I kb) dd hp (h _ (I.tok _))
def SE {Q:Aa}(hu:A.units+1<cLine) (I:Inv X pins σ H s) (e:H a=some (dE a its)) (ks:g_ X.K H its) (kb:bD X.K H b (k.map kV))
  (h:∀s',Inv X pins σ H s'->Q (.bool (atKey its k).isSome) s'):wpAny (model X.prog X.w) A (compareOp .In (.ref b) (.ref a)) Q E s:=by
 obtain ⟨z,hd,dd⟩:=rd I e ks
 exact wpAny_in_heap (tupleKind_room_in1 hu) (q_ I kb) hd dd (h _ (I.tok _))
def SF {Q:Aa}(hu:A.units+1<cLine) (I:Inv X pins σ H s) (e:H a=some (dE a its)) (ks:g_ X.K H its) (kb:bD X.K H b (k.map kV))
  (h:∀s',Inv X pins σ H s'->Q (.bool (!(atKey its k).isSome)) s'):wpAny (model X.prog X.w) A (compareOp .NotIn (.ref b) (.ref a)) Q E s:=by
 obtain ⟨z,hd,dd⟩:=rd I e ks
 exact wpAny_notIn_heap (tupleKind_room_in1 hu) (q_ I kb) hd dd (h _ (I.tok _))
def SG (its:List (List Key×Addr×Value)) (k:List Key) (b:Addr) (r:Value):(storedH its k b r).length<=its.length+1:=by
 unfold storedH
 split
 ·rw [jx];omega
 ·simp
def Ga {P:Program}{w:World}{H:Hp}{h:Heap}{q:Obj}{es:Array DictEntry}{ep:Nat}(z:its.length<=sizeLine) (hd:(a==sysModules)=false) (hq:h.get? a=some q) (h2:q.ExactDict) (h3:q.data=.dict es ep)
  (h4:es.toList=its.map (entryOfKey (tupleKind (bb P w)))) (h5:(its.map (·.1)).Nodup):bo P w H h a (dE a its) :=
 ⟨⟨z,hd,q,es,ep,hq,h2,h3,h4,h5⟩,⟨q,hq⟩,λh1 h2 ⟨z,y,o,es,ep,e,r⟩ k=>⟨z,y,o,es,ep,k _ e,r⟩⟩
def SH {Q:Unit->Shared->Prop}(hu:A.units+1<cLine) (I:Inv X pins σ H s) (e:H a=some (dE a its)) (ks:g_ X.K H its) (kb:bD X.K H b (k.map kV)) (l:its.length<sizeLine)
  (h:∀s',Inv X pins σ (upd H a (dE a (storedH its k b r))) s'->Q () s'):wpAny (model X.prog X.w) A (setItem (.ref a) (.ref b) r) Q E s:=by
 obtain ⟨z,hd,dd⟩:=rd I e ks
 refine wpAny_setItem_heap (hsz:=z) (tupleKind_room_in1 hu) (q_ I kb) dd λh' ni hs=>h _ ?_
 obtain ⟨q,es,ep,hq,h2,h3,h4,_,h5⟩:=ni
 exact xE I (by rw [e];exact True.intro) hs ⟨q,hq⟩ (Ga (by have:=SG its k b r;omega) hd hq h2 h3 h4 h5)
def Inv.turnE (I:Inv X pins σ H s) (ha:H a=some (.dK [])):Inv X pins σ (upd H a (dE a [])) s:=by
 obtain ⟨z,hd,vs,rel,o,es,ep,h1,h2,h3,h4,h6,h5⟩:=xD I.hok ha
 cases rel
 have hz:es.toList=[]:=by
  have:=h6.length
  exact List.length_eq_zero_iff.mp this
 exact I.un (h':=s.heap) (t':=s.toks) (Un.write (e:=a) (by rw [ha];trivial) (.inl rfl) (λb u _ q=>q) ⟨o,h1⟩) (cK.write (e:=a) I.hok (by rw [ha];trivial) (.inl rfl) (λb u _ q=>q) ⟨o,h1⟩ (Ga (jw _) hd h1 h2 h3 hz List.nodup_nil))
def gn (H:Hp) (a:Addr) (H':Hp) (its:List (List Key×Addr×Value)):Prop:=(H'=H/\H a=some (dE a its))\/(H a=some (.dK [])/\its=[]/\H'=upd H a (dE a []))
def gn.inv (t:gn H a H' its) (I:Inv X pins σ H s):Inv X pins σ H' s/\H' a=some (dE a its):=by
 rcases t with ⟨rfl,e⟩|⟨e,rfl,rfl⟩
 ·exact ⟨I,e⟩
 ·exact ⟨I.turnE e,yZ⟩
def Bp (K:Frag) (neg:Bool):R2:=λx y H Q=>∃a b k its H',x=.ref b/\y=.ref a/\gn H a H' its/\g_ K H' its/\bD K H' b (k.map kV)/\Q (.bl (neg.xor (atKey its k).isSome)) H'
def SI (hu:X.A.units+200<cLine):bz X (compareOp .In) (Bp X.K false):=by
 intro pins s σ H x y v u Q I rx ry ⟨a,b,k,its,H',ex,ey,t,ks,kb,q⟩
 subst ex ey
 obtain rfl:v=Value.ref b:=rx
 obtain rfl:u=Value.ref a:=ry
 obtain ⟨I',e⟩:=t.inv I
 exact SE (by omega) I' e ks kb λs' I2=>⟨.bl (atKey its k).isSome,H',I2,rfl,by simpa using q⟩
def SJ (hu:X.A.units+200<cLine):bz X (compareOp .NotIn) (Bp X.K true):=by
 intro pins s σ H x y v u Q I rx ry ⟨a,b,k,its,H',ex,ey,t,ks,kb,q⟩
 subst ex ey
 obtain rfl:v=Value.ref b:=rx
 obtain rfl:u=Value.ref a:=ry
 obtain ⟨I',e⟩:=t.inv I
 exact SF (by omega) I' e ks kb λs' I2=>⟨.bl (!(atKey its k).isSome),H',I2,rfl,by simpa using q⟩
def SK (K:Frag):R2:=λx y H Q=>∃a b k its H' p v,x=.ref a/\y=.ref b/\gn H a H' its/\g_ K H' its/\bD K H' b (k.map kV)/\atKey its k=some p/\RelV v p.2/\Q v H'
def SM (hu:X.A.units+1<cLine):fN X (SK X.K):=by
 intro value slice pins s σ H x y v u Q I rx ry ⟨a,b,k,its,H',p,w,ex,ey,t,ks,kb,hp,rp,q⟩ hs
 subst ex ey
 obtain rfl:v=Value.ref a:=rx
 obtain rfl:u=Value.ref b:=ry
 obtain ⟨I',e⟩:=t.inv I
 obtain ⟨_,_,dd⟩:=rd I' e ks
 exact PyProof.Rows.tail_any dd.typeIs PySem.F.slot_dict_getitem.lookup (SD hu I' e ks kb hp λs' I2=>⟨w,H',I2,rp,q⟩) hs
def SN (K:Frag) (td ty tv:TE):TS:=λD σ H=>tv σ H λv H1=>td σ H1 λx H2=>ty σ H2 λy H3=>(∃a H4,x=.ref a/\fE H3 a y v H4/\D.nx σ H4) \/
 ∃a b k its H4,x=.ref a/\y=.ref b/\gn H3 a H4 its/\g_ K H4 its/\bD K H4 b (k.map kV)/\its.length<sizeLine/\∀u,RelV v u->D.nx σ (upd H4 a (dE a (storedH its k b u)))
def SQ {o i value:Expr}{pos pos':Pos}{td ty tv:TE}(hu:X.A.units+1<cLine) (ho:PE X o td) (hi:PE X i ty) (hv:PE X value tv) (hs:swapsWith value (some (.Subscript o i pos')) pos.line X.env=pure false) :
  PS X (.Assign [.Subscript o i pos'] value pos) (SN X.K td ty tv):=by
 intro pins s σ H D I h
 refine wpAny_Assign_Subscript (a0 (hv pins s σ H _ I h) λr s1 ⟨v,H1,I1,rv,q1⟩=>a0 (ho pins s1 σ H1 _ I1 q1) λu s2 ⟨x,H2,I2,rx,q2⟩=>a0 (hi pins s2 σ H2 _ I2 q2) λiv s3 ⟨y,H3,I3,ry,q3⟩=>?_) hs
 rcases q3 with ⟨a,H4,ex,g,q3⟩|⟨a,b,k,its,H4,ex,ey,t,ks,kb,l,q3⟩
 ·subst ex
  obtain rfl:u=Value.ref a:=rx
  exact D7 hu I3 g ry rv λs4 I4=>⟨σ,H4,I4,q3⟩
 ·subst ex ey
  obtain rfl:u=Value.ref a:=rx
  obtain rfl:iv=Value.ref b:=ry
  obtain ⟨I',e⟩:=t.inv I3
  exact SH hu I' e ks kb l λs4 I4=>⟨σ,_,I4,q3 r rv⟩
end
end L2
namespace Mi
open PySem L2 PySem.W PySem.Spec
section
variable {X:Cx} {K:Frag} {mg:Ab} {ρ:Af} {H:Hp} {st:aa}
def Gb:PV->Option Key
 |.int i=>some (.inl i)
 |.str z=>some (.inr z)
 |_=>none
def c6:List PV->Option (List Key)
 |[]=>some []
 | x::r=>match Gb x,c6 r with
  |some k,some l=>some (k::l)
  |_,_=>none
theorem uq:∀{xs:Aq}{vs:List V}{k:List Key},Rs K mg ρ H xs vs->c6 xs=some k->vs=k.map kV
 |[],vs,k,r,h=>by cases h;cases r;rfl
 |x::xs,vs,k,r,h=>by
  obtain ⟨v,ws,rfl,h1,h2⟩:=r
  unfold c6 at h
  split at h
  ·rename_i k0 l hk hl
   cases h
   rw [uq h2 hl,yG]
   congr 1
   cases x with
   |int i=>cases hk;exact h1
   |str z=>cases hk;exact h1
   |_=>cases hk
  ·cases h
def cj:Option SO->Option (List (List Key)×List PV)
 |some (.dit ks xs)=>some (ks,xs)
 |some (.dic [] [])=>some ([],[])
 |_=>none
def Br {n:Nat}{a:Addr}{ks:Ah}{xs:Aq}(s:bu K mg ρ H st) (ha:ρ[n]?=some a) (h:cj st[n]?=some (ks,xs)) :
  ∃H' its vs,gn H a H' its/\Ext ρ H ρ H'/\bu K mg ρ H' (st.set n (.dit ks xs))/\its.map (·.1)=ks/\g_ K H' its/\Vals vs (its.map (·.2.2))/\Rs K mg ρ H' xs vs:=by
 unfold cj at h
 split at h
 ·rename_i cq dG e
  cases h
  obtain ⟨its,vs,h1,h2,h3,h4,h5⟩:=s.addr e ha
  refine ⟨H,its,vs,.inl ⟨rfl,h1⟩,Ext.refl,?_,h2,h3,h4,h5⟩
  have:st.set n (.dit ks xs)=st:=by
   obtain ⟨hl,he⟩:=yt.mp e
   rw [<-he,List.set_getElem_self]
  rw [this];exact s
 ·rename_i e
  cases h
  obtain ⟨vs,h1,h2,h3⟩:=s.addr e ha
  cases h2
  have ew:Ext ρ H ρ (upd H a (dE a [])):=Ext.write h1 rfl
  exact ⟨_,[],[],.inr ⟨h1,rfl,rfl⟩,ew,s.write ha ew ⟨[],[],yZ,rfl,(λx hx=>nomatch hx),.nil,rfl⟩,rfl,(λx hx=>nomatch hx),.nil,rfl⟩
 ·cases h
def cG (k:List Key) (ks:Ah):Bool:=ks.any λz=>decide (z=k)
def rh {k:List Key}{ks:Ah}:cG k ks=true↔k∈ks:=by
 unfold cG
 rw [List.any_eq_true]
 exact ⟨λ⟨x,h,e⟩=>(of_decide_eq_true e)▸h,λh=>⟨k,h,jV rfl⟩⟩
theorem Bs {k:List Key}:∀{its:List (List Key×Addr×Value)},(atKey its k).isSome=cG k (its.map (·.1))
 |[]=>rfl
 |x::r=>by
  have ih:=Bs (k:=k) (its:=r)
  unfold atKey at ih ⊢
  rw [List.find?_cons,yG,show cG k (x.1::r.map (·.1))=(decide (x.1=k)||cG k (r.map (·.1))) from rfl]
  by_cases h:x.1=k
  ·rw [jV h];rfl
  ·rw [jp h];exact ih
def f7 {α:Type}(k:List Key):List (List Key)->List α->Option α
 |z::zs,x::xs=>if z=k then some x else f7 k zs xs
 |_,_=>none
theorem Ge {k:List Key}{q:PV}:∀{its:List (List Key×Addr×Value)}{vs:List V}{xs:Aq},Vals vs (its.map (·.2.2))->Rs K mg ρ H xs vs->f7 k (its.map (·.1)) xs=some q->∃p v,atKey its k=some p/\RelV v p.2/\R K mg ρ H q v
 |[],_,xs,_,_,h=>by cases xs<;>cases h
 |x::r,_,[],hv,hr,h=>by cases h
 |x::r,vs,y::ys,hv,hr,h=>by
  obtain ⟨v,ws,rfl,h1,h2⟩:=hr
  rw [yG] at hv
  cases hv with
  |cons g t =>
   rw [yG] at h
   unfold f7 at h
   unfold atKey
   rw [List.find?_cons]
   by_cases e:x.1=k
   ·rw [zx e] at h
    cases h
    rw [jV e]
    exact ⟨x.2,v,rfl,g,h1⟩
   ·rw [zK e] at h
    obtain ⟨p,v',a1,a2,a3⟩:=Ge t h2 h
    rw [jp e]
    exact ⟨p,v',a1,a2,a3⟩
def cy (old:Ao) (neg:Bool) (x y:PV):Mo PV:=λst=>match x,y with
 | .tup zs,.ref n=>match c6 zs,cj st[n]? with
  |some k,some (ks,xs)=>.ok (.bl (neg.xor (cG k ks))) (st.set n (.dit ks xs))
  |_,_=>old x y st
 |_,_=>old x y st
def SR {old:Ao}{neg:Bool}{x y:PV}:cy old neg x y st=old x y st\/∃zs n k ks xs,x=.tup zs/\y=.ref n/\c6 zs=some k/\cj st[n]?=some (ks,xs)/\cy old neg x y st=.ok (.bl (neg.xor (cG k ks))) (st.set n (.dit ks xs)):=by
 unfold cy
 split
 ·rename_i zs n
  cases h1:c6 zs with
  |none=>exact .inl rfl
  |some k =>
   cases h2:cj st[n]? with
   |none=>exact .inl rfl
   |some p=>exact .inr ⟨zs,n,k,p.1,p.2,rfl,rfl,h1,h2,rfl⟩
 ·exact .inl rfl
def Gf {r:R2}{old:Ao}{neg:Bool}(m:eJ K mg r old):eJ K mg (λx y H Q=>r x y H Q\/Bp K neg x y H Q) (cy old neg):=by
 intro ρ H st x y v w Q E s rx ry h
 rcases SR (old:=old) (neg:=neg) (x:=x) (y:=y) (st:=st) with e|⟨zs,n,k,ks,xs,rfl,rfl,h1,h2,e⟩
 ·rw [e] at h;exact .inl (m ρ H st x y v w Q E s rx ry h)
 ·rw [e] at h
  obtain ⟨b,us,rfl,hb,ru⟩:=rx
  obtain ⟨a,rfl,ha⟩:=ry
  obtain ⟨H',its,vs,t,ex,s',hk,hq,hv,hr⟩:=Br s ha h2
  have:=uq ru h1
  subst this
  refine .inr ⟨a,b,k,its,H',rfl,rfl,t,hq,ex.sqT hb,?_⟩
  rw [Bs,hk]
  exact h ρ H' ex s' _ rfl
def bz.or' {f:Value->Value->Sem Value}{r r':R2}(a:bz X f r) (b:bz X f r'):bz X f (λx y H Q=>r x y H Q\/r' x y H Q):=by
 intro pins s σ H x y v u Q I rx ry h
 rcases h with h|h
 ·exact a pins s σ H x y v u Q I rx ry h
 ·exact b pins s σ H x y v u Q I rx ry h
def SS {old:Ao}(hu:X.A.units+200<cLine) (c:cf X .In old):cf X .In (cy old false):=by
 obtain ⟨r,h1,h2⟩:=c
 exact ⟨_,bz.or' h1 (SI hu),Gf h2⟩
def SU {old:Ao}(hu:X.A.units+200<cLine) (c:cf X .NotIn old):cf X .NotIn (cy old true):=by
 obtain ⟨r,h1,h2⟩:=c
 exact ⟨_,bz.or' h1 (SJ hu),Gf h2⟩
def aW (old:Ao) (x y:PV):Mo PV:=λst=>match x,y with
 | .ref n,.tup zs=>match c6 zs,cj st[n]? with
  |some k,some (ks,xs)=>cD (f7 k ks xs) (st.set n (.dit ks xs))
  |_,_=>old x y st
 |_,_=>old x y st
def SV {old:Ao}{x y:PV}:aW old x y st=old x y st\/∃zs n k ks xs,y=.tup zs/\x=.ref n/\c6 zs=some k/\cj st[n]?=some (ks,xs)/\aW old x y st=cD (f7 k ks xs) (st.set n (.dit ks xs)):=by
 unfold aW
 split
 ·rename_i n zs
  cases h1:c6 zs with
  |none=>exact .inl rfl
  |some k =>
   cases h2:cj st[n]? with
   |none=>exact .inl rfl
   |some p=>exact .inr ⟨zs,n,k,p.1,p.2,rfl,rfl,h1,h2,rfl⟩
 ·exact .inl rfl
def yQ {old:Ao}(hu:X.A.units+200<cLine) (c:lU X old):lU X (aW old):=by
 obtain ⟨r,h1,h2⟩:=c
 refine ⟨_,h1.or (SM (by omega)),fun ρ H st x y v w Q E s rx ry h=>?_⟩
 rcases SV (old:=old) (x:=x) (y:=y) (st:=st) with e|⟨zs,n,k,ks,xs,rfl,rfl,k1,k2,e⟩
 ·rw [e] at h;exact .inl (h2 ρ H st x y v w Q E s rx ry h)
 ·rw [e] at h
  obtain ⟨a,rfl,ha⟩:=rx
  obtain ⟨b,us,rfl,hb,ru⟩:=ry
  obtain ⟨H',its,vs,t,ex,s',hk,hq,hv,hr⟩:=Br s ha k2
  have:=uq ru k1
  subst this
  cases hl:f7 k ks xs with
  |none=>rw [hl] at h;exact h.elim
  |some q =>
   rw [hl] at h
   rw [<-hk] at hl
   obtain ⟨p,v,a1,a2,a3⟩:=Ge hv hr hl
   exact .inr ⟨a,b,k,its,H',p,v,rfl,rfl,t,hq,ex.sqT hb,a1,a2,h ρ H' ex s' _ a3⟩
end
section
variable {X:Cx} {Er:XK} {K:Frag} {mg:Ab} {ρ:Af} {H:Hp} {st:aa} {pos pos':Pos} {o:Expr}
def hU {α:Type}(z:List Key) (x:α):List (List Key)->List α->List α
 |k::ks,y::ys=>(if k=z then x else y)::hU z x ks ys
 |_,ys=>ys
def wI (z:List Key) (x:PV) (ks:Ah) (xs:Aq):List (List Key)×List PV:=if cG z ks=true then (ks,hU z x ks xs) else (ks++[z],xs++[x])
def Bt {k:List Key}{u:Value}(x:List Key×Addr×Value):(PySem.putAt k u x).1=x.1/\(PySem.putAt k u x).2.1=x.2.1:=by
 unfold PySem.putAt
 split<;>exact ⟨rfl,rfl⟩
theorem Gg {k:List Key}{u:Value}{x:PV}{v:V}(rx:R K mg ρ H x v) (ru:RelV v u):∀{its:List (List Key×Addr×Value)}{vs:List V}{xs:Aq},Vals vs (its.map (·.2.2))->Rs K mg ρ H xs vs ->
  ∃ws,Vals ws ((its.map (PySem.putAt k u)).map (·.2.2))/\Rs K mg ρ H (hU k x (its.map (·.1)) xs) ws
 |[],vs,xs,hv,hr=>by
  rw [List.map_nil] at hv
  cases hv
  cases xs with
  |nil=>exact ⟨[],.nil,rfl⟩
  |cons y ys=>obtain ⟨_,_,z,_⟩:=hr;cases z
 |p::r,vs,[],hv,hr=>by
  cases hr
  rw [yG] at hv
  cases hv
 |p::r,vs,y::ys,hv,hr=>by
  obtain ⟨w,ws,rfl,h1,h2⟩:=hr
  rw [yG] at hv
  cases hv with
  |cons g t =>
   obtain ⟨zs,a1,a2⟩:=Gg rx ru t h2
   by_cases e:p.1=k
   ·refine ⟨v::zs,?_,v,zs,rfl,?_,a2⟩
    ·rw [yG,yG]
     refine .cons ?_ a1
     unfold PySem.putAt;rw [zx e];exact ru
    ·rw [zx e];exact rx
   ·refine ⟨w::zs,?_,w,zs,rfl,?_,a2⟩
    ·rw [yG,yG]
     refine .cons ?_ a1
     unfold PySem.putAt;rw [zK e];exact g
    ·rw [zK e];exact h1
def SW {k:List Key}{u:Value}{x:PV}{v:V}{b:Addr}{its:List (List Key×Addr×Value)}{vs:List V}{xs:Aq}(rx:R K mg ρ H x v) (ru:RelV v u) (hq:g_ K H its) (hb:bD K H b (k.map kV)) (hv:Vals vs (its.map (·.2.2))) (hr:Rs K mg ρ H xs vs) :
  ∃ws,(storedH its k b u).map (·.1)=(wI k x (its.map (·.1)) xs).1/\g_ K H (storedH its k b u)/\Vals ws ((storedH its k b u).map (·.2.2))/\Rs K mg ρ H (wI k x (its.map (·.1)) xs).2 ws:=by
 unfold storedH wI
 rw [Bs]
 by_cases hc:cG k (its.map (·.1))=true
 ·rw [zx hc,zx hc]
  obtain ⟨ws,a1,a2⟩:=Gg (k:=k) rx ru hv hr
  refine ⟨ws,?_,λy hy=>?_,a1,a2⟩
  ·rw [List.map_map]
   exact List.map_congr_left λy _=>(Bt y).1
  ·obtain ⟨z,hz,rfl⟩:=jI.mp hy
   rw [(Bt z).1,(Bt z).2]
   exact hq z hz
 ·rw [zK hc,zK hc]
  refine ⟨vs++[v],by simp,λy hy=>?_,?_,hr.append ⟨v,[],rfl,rx,rfl⟩⟩
  ·rcases iu.mp hy with h|h
   ·exact hq y h
   ·obtain rfl:=oh.mp h;exact hb
  ·rw [wL]
   exact hv.append (.cons ru .nil)
def kR (z x o:PV):Mo Unit:=λst=>match z,o with
 | .tup zs,.ref n=>match c6 zs,cj st[n]? with
  |some k,some (ks,xs)=>if ks.length<lim then .ok () (st.set n (.dit (wI k x ks xs).1 (wI k x ks xs).2)) else .stuck
  |_,_=>.stuck
 |_,_=>wB z x o st
def SX {z x o:PV}:kR z x o st=wB z x o st\/kR z x o st=.stuck\/∃zs n k ks xs,z=.tup zs/\o=.ref n/\c6 zs=some k/\cj st[n]?=some (ks,xs)/\ks.length<lim/\kR z x o st=.ok () (st.set n (.dit (wI k x ks xs).1 (wI k x ks xs).2)):=by
 unfold kR
 split
 ·rename_i zs n
  cases h1:c6 zs with
  |none=>exact .inr (.inl rfl)
  |some k =>
   cases h2:cj st[n]? with
   |none=>exact .inr (.inl rfl)
   |some p =>
    by_cases hc:p.1.length<lim
    ·exact .inr (.inr ⟨zs,n,k,p.1,p.2,rfl,rfl,h1,h2,hc,zx hc⟩)
    ·exact .inr (.inl (zK hc))
 ·exact .inl rfl
def wW (fo fi fv:Aj):Ak:=λenv st=>(fv env st).bind λx ae=>(fo env ae).bind λo aQ=>(fi env aQ).bind λz bq=>(kR z x o bq).bind λ_ eL=>.ok (.nx env) eL
def SY {env:zf}{σ:L2.St}{D:Ends}{zz x y:PV}{u v w:V}(s3:bu K mg ρ H st) (re:bJ K mg ρ H env σ) (rv:R K mg ρ H x v) (dm:R K mg ρ H y w) (ru:R K mg ρ H zz u)
  (h3:Out K mg ρ H ((wB zz x y st).bind λ_ eL=>.ok (.nx env) eL) (gS K mg D) Er):∃a H4,w=.ref a/\fE H a u v H4/\D.nx σ H4:=by
 cases y with
 |ref n =>
  cases zz with
  |str z =>
   cases hn:st[n]? with
   |none=>simp only [wB,yW,hn] at h3;exact h3.elim
   |some so =>
    cases so with
    |dic ks xs =>
     simp only [wB,yW,hn] at h3
     by_cases hc:ks.length<lim
     ·rw [zx hc] at h3
      obtain ⟨a,vs,e4,ha,k1,k2,k3⟩:=R.refD s3 dm hn
      subst e4
      cases ru
      obtain ⟨ws,q1,q2,q3⟩:=EX (z:=z) rv k3 k2
      have hlen:(kz ks vs).length<sizeLine:=by
       have:(kz ks vs).length=ks.length:=by simp [kz,k3]
       rw [this,sizeLine_eq]
       have:ks.length<1000000:=hc
       omega
      have g:=fE.k (k:=Sum.inr z) (v:=v) k1 hlen
      have ew:Ext ρ H ρ (upd H a (.dK (L2.putK (kz ks vs) (Sum.inr z) v))):=Ext.write k1 rfl
      exact ⟨a,_,rfl,g,h3 ρ _ ew (s3.write ha ew ⟨ws,by rw [yZ,q1],Rs.ext ew _ q2,q3⟩) σ (re.ext ew)⟩
     ·rw [zK hc] at h3;exact h3.elim
    |_=>simp only [wB,yW,hn] at h3;exact h3.elim
  |_=>exact h3.elim
 |_=>exact h3.elim
def zdO {i value:Expr}{fo fi fv:Aj}(hu:X.A.units+200<cLine) (ho:ME X Er o fo) (hi:ME X Er i fi) (hv:ME X Er value fv) (hs:swapsWith value (some (.Subscript o i pos')) pos.line X.env=pure false:=by rfl):MS X Er (.Assign [.Subscript o i pos'] value pos) (wW fo fi fv) :=
 PS.weak (SQ (by omega) ho hi hv hs) λD σ H ⟨env,st,ρ,re,rs,h⟩=>⟨env,st,ρ,re,rs,h.then λah H1 x ae e1 s1 h1 v rv=>⟨env,ae,ah,re.ext e1,s1,h1.then λaq H2 y aQ e2 s2 h2 w rw=>⟨env,aQ,aq,(re.ext e1).ext e2,s2,h2.then λao H3 zz bq e3 s3 h3 u ru=>by
  have Gh:=((re.ext e1).ext e2).ext e3
  have Gi:=R.ext e3 x (R.ext e2 x rv)
  have Gj:=R.ext e3 _ rw
  rcases SX (z:=zz) (x:=x) (o:=y) (st:=bq) with e|e|⟨zs,n,k,ks,xs,rfl,rfl,k1,k2,hc,e⟩
  ·rw [e] at h3;exact .inl (SY s3 Gh Gi Gj ru h3)
  ·rw [e] at h3;exact h3.elim
  ·rw [e] at h3
   obtain ⟨b,us,rfl,hb,S6⟩:=ru
   obtain ⟨a,rfl,ha⟩:=Gj
   obtain ⟨H',its,vs,t,ex,s',hk,hq,S7,hr⟩:=Br s3 ha k2
   have:=uq S6 k1
   subst this
   have hl:its.length<sizeLine:=by
    have h1:its.length=ks.length:=by rw [<-hk,jx]
    have h2:ks.length<1000000:=hc
    rw [h1,sizeLine_eq];omega
   refine .inr ⟨a,b,k,its,H',rfl,rfl,t,hq,ex.sqT hb,hl,λuu S8=>?_⟩
   subst hk
   have ea:H' a=some (dE a its):=by
    rcases t with ⟨rfl,e⟩|⟨_,rfl,rfl⟩
    ·exact e
    ·exact yZ
   have ew:Ext ao H' ao (upd H' a (dE a (storedH its k b uu))):=Ext.write ea (OW X.prog X.w)
   obtain ⟨ws,q1,q2,q3,q4⟩:=SW (k:=k) (b:=b) (R.ext ex x Gi) S8 hq (ex.sqT hb) S7 hr
   have sw:=s'.write (so:=.dit (wI k x (its.map (·.1)) xs).1 (wI k x (its.map (·.1)) xs).2) ha ew ⟨_,ws,yZ,q1,λy hy=>ew.sqT (q2 y hy),q3,Rs.ext ew _ q4⟩
   rw [List.set_set] at sw
   exact h3 ao _ (ex.trans ew) sw σ ((Gh.ext ex).ext ew)⟩⟩⟩
end
end Mi
namespace L2
open PySem PySem.Spec PyProof.Rows PySem.W
def vG (K:Frag) (a:Addr):It :=
 ⟨λi H=>∃xs x,bD K H a xs/\xs[i]?=some x,
  λi H v H'=>∃T x,H T=none/\v=.ref T/\H'=upd H T (.tup [.int i,x])/\∀xs,bD K H a xs->xs[i]?=some x,
  λi H=>∃xs,bD K H a xs/\xs.length<=i⟩
def vH (e it a:Addr) (k:Nat) (h:Heap):Prop:=(∃old,IsEnum h e it k old)/\IsTupIter h it a k
def S9 {prog:Program}{w:World}{A:Around}{it t:Addr}{xs:Array Value}(ne:t≠it) (hh:A.handled=none):Draws prog w A it [it,t] xs.size (λi x=>xs[i]?=some x) (qw it t xs) where
 live:=λi h q=>let ⟨⟨o,ho,_⟩,_⟩:=q;⟨o,ho⟩
 frame:=λi h h' q k=>(kB (prog:=prog) (w:=w) ne).at_ q (k it (by simp)) (k t (by simp))
 item:=λi s Q E hi q hQ=>(kB ne).item q (Array.getElem?_eq_getElem hi) λh' q' sb=>hQ _ h' s.toks (Array.getElem?_eq_getElem hi) q' sb
 done:=λs Q E q hE=>(kB ne).stop hh q (Array.getElem?_eq_none (yf _)) hE
def S_ {prog:Program}{w:World}{A:Around}{E:Aa}{s:Shared}{e it t:Addr}{i:Nat}{xs:Array Value}{old:Value}{Q:Option Value->Shared->Prop}(ne:t≠it) (hh:A.handled=none)
  (he:IsEnum s.heap e it i old) (hit:IsTupIter s.heap it t i) (p:IsTup s.heap t xs) (hi:xs.size<=i) (hQ:∀h',Heap.ExtBut it s.heap h'->Q none { s with heap:=h' }):wpAny (model prog w) A (pyNext (.ref e)) Q E s:=by
 have D:Draws prog w A.in1 it [it,t] i (λj x=>xs[j]?=some x/\j<i/\False) (λj h=>j=i/\qw it t xs j h):=⟨λj h q=>let ⟨_,⟨o,ho,_⟩,_⟩:=q;⟨o,ho⟩,λj h h' q k=>⟨q.1,(kB (prog:=prog) (w:=w) ne).at_ q.2 (k it (by simp)) (k t (by simp))⟩,
  λj s Q E hj q _=>absurd q.1 (by omega),λs Q E q hE=>(kB ne).stop hh q.2 (Array.getElem?_eq_none hi) hE⟩
 exact wpAny_pyNext_enum_endD D he ⟨rfl,hit,p⟩ hQ
def Ta {P:Program}{w:World}{K:Frag}{elts:List Expr}{kt:Nat}{pos:Pos}{e it a:Addr}(ne:e≠it):Turn P w K (.Tuple elts kt pos) (vG K a) [e,it] e (vH e it a) where
 mem:=by simp
 obj:=λi h st c hc=>by
  obtain ⟨⟨old,he⟩,⟨o1,e1,_,d1⟩⟩:=st
  simp only [yI,List.not_mem_nil,kg] at hc
  rcases hc with q|q<;>rw [q]
  ·exact ⟨_,he,λv z=>by cases z⟩
  ·exact ⟨_,e1,λv z=>by rw [d1] at z;cases z⟩
 keep:=λi h h' st k=>by
  obtain ⟨⟨old,he⟩,⟨o1,e1,r1⟩⟩:=st
  exact ⟨⟨old,k e (by simp) _ he⟩,⟨o1,k it (by simp) _ e1,r1⟩⟩
 item:=by
  intro X hP hw hK hc i pins s σ H E I hf st hg
  subst hP hw hK
  obtain ⟨xs,x,hq,hx⟩:=hg
  obtain ⟨⟨old,he⟩,hit⟩:=st
  obtain ⟨its,rv,p,hz⟩:=I.tuple hq
  obtain ⟨u,hu,ru⟩:=rv.get hx
  have n1:∀c∈[e,it],a≠c:=λc h=>oK I (hf c h) hq
  have na:a≠it:=n1 it (by simp)
  have Tb:a≠e:=n1 e (by simp)
  have bO:i<its.toArray.size:=by have:=(yt.mp hu).1;simpa using this
  refine wpAny_pyNext_enum_itemD (D:=S9 (A:=X.A.in1) na (I.ok.hd hc)) he ⟨hit,p⟩ bO ne (by simp;exact ⟨ne,λz=>Tb z.symm⟩) λx1 h1 tk Tc eo qI pT hsz kk=>⟨_,rfl,?_⟩
  have xu:x1=u:=by
   have h0:its.toArray[i]?=some x1:=Tc
   rw [List.getElem?_toArray,hu] at h0
   exact (Option.some.inj h0).symm
  subst xu
  refine wpAny_letOwnedTupleGo_enum (s:={ s with heap:=h1,toks:=tk+1 }) eo λh2 e2 sb=>?_
  have fr:H s.heap.objs.size=none:=I.hok.fresh (yf _)
  have up:∀c o,c≠e->h1.get? c=some o->h2.get? c=some o:=λc o n q=>sb.extBut _ _ n q
  have nz:s.heap.objs.size≠e:=Nat.ne_of_gt (yn he)
  have k2:∀c o,c∉[e,it]->s.heap.get? c=some o->h2.get? c=some o:=λc o nc q=>up c o (λz=>nc (by simp [z])) (kk c o (λz=>nc (by simp [z])) (λz=>nc (by simp [z])) q)
  refine ⟨.ref s.heap.objs.size,upd H s.heap.objs.size (.tup [.int i,x]),?_,rfl,⟨s.heap.objs.size,x,fr,rfl,rfl,λys hy=>by rw [I.tuple_inj hy hq];exact hx⟩,?_,λc dv=>?_⟩
  ·exact Inv.turnN (s:=s) (h':=h2) (t':=tk+1) I hf k2 (yf _) ⟨show 2<=sizeLine by decide,[.int i tk,x1],.cons ⟨_,rfl⟩ (.cons ru .nil),_,up _ _ nz pT,rfl,_,rfl⟩
  ·refine ⟨⟨x1,by rw [show ((i+1:Nat):Int)=(i:Int)+1 from rfl];exact e2⟩,let ⟨⟨o,q,r⟩,_⟩:=qI;⟨o,up _ _ ne.symm q,r⟩⟩
  ·have lt:∃o,s.heap.get? c=some o:=by
    simp only [yI,List.not_mem_nil,kg] at dv
    rcases dv with q|q<;>rw [q]
    ·exact ⟨_,he⟩
    ·exact let ⟨o,q,_⟩:=hit;⟨o,q⟩
   obtain ⟨o,q⟩:=lt
   have z:c≠s.heap.objs.size:=yN (yn q)
   rw [yo z]
   exact (hf c dv).1
 done:=by
  intro X hP hw hK hc i pins s σ H E I hf st hg
  subst hP hw hK
  obtain ⟨xs,hq,hx⟩:=hg
  obtain ⟨⟨old,he⟩,hit⟩:=st
  obtain ⟨its,rv,p,hz⟩:=I.tuple hq
  have hl:=rv.length
  have n1:∀c∈[e,it],a≠c:=λc h=>oK I (hf c h) hq
  refine S_ (n1 it (by simp)) (I.ok.hd hc) he hit p (by simp;omega) λh' eb=>⟨rfl,?_⟩
  exact Inv.turnL (ch:=[e,it]) (t':=s.toks) I hf λc o nc q=>eb c o (λz=>nc (by simp [z])) q
 self:=λ_ _ _ _ _ st h=>by
  obtain ⟨⟨old,he⟩,_⟩:=st
  exact wpAny_pyIter_enum he h
def Td (K:Frag) (ta:TA):TI:=fun σ H R=>ta σ H λvs H1=>∃a,vs=[.ref a]/\(∃xs,bD K H1 a xs)/\R (vG K a) H1
abbrev ur (h:Heap) (a:Addr):Heap:=h.push { cls:=.type "tuple_iterator", data:=.fields #[.ref a,.int 0 0] }
abbrev pd (h:Heap) (a:Addr):Heap:=(ur h a).push { cls:=.type "enumerate", data:=.fields #[.none,.bool false,.ref h.objs.size,rawInt 0,.none,.none] }
def Te (a:Addr) (xs:Array Value) :
  Meets (Builtin.«enumerate.__new__» ⟨[.type "enumerate", .ref a],[]⟩) (λ_ R s=>IsTup s.heap a xs/\R (.ok (.ret (.ref (ur s.heap a).objs.size))) { s with heap:=pd s.heap a }) :=
 .of_wp λprog w A R s h=>by
  obtain ⟨hp,g,d,tk,os⟩:=s
  obtain ⟨h1,h⟩:=h
  have Ej:=sub_enumerate
  have H1:IsTup (Shared.heap ⟨hp,g,d,tk,os⟩) a xs:=h1
  obtain ⟨⟨cl,dd,dt,sl⟩,ho,Bu,n,hd⟩:=id H1
  replace Bu:cl=.type "tuple" := Bu
  replace hd:dt=.seq xs n:=hd
  subst Bu hd
  wp_walk using AutoSeq1.wpAny_loadPart' ho
  refine wpAny_stack_any λst=>yb ?_
  split
  ·rename_i c _ _ _ _ _
   cases (c==Value.type "enumerate")
   all_goals (wp_walk using AutoSeq1.wpAny_loadPart' ho,iter_tuple H1;exact ⟨_,rfl,h⟩)
  ·wp_walk using AutoSeq1.wpAny_loadPart' ho,iter_tuple H1
   exact ⟨_,rfl,h⟩
def Tf {prog:Program}{w:World}{A:Around}{E:Aa}{s:Shared}{a:Addr}{xs:Array Value}{Q:Aa}(h1:IsTup s.heap a xs)
  (h:vH (s.heap.objs.size+1) s.heap.objs.size a 0 (pd s.heap a)->Q (.ref (s.heap.objs.size+1)) { s with heap:=pd s.heap a }) :
  wpAny (model prog w) A (call (.type "enumerate") [.ref a]) Q E s:=by
 refine callType_new F.called_enumerate (by decide) (F.typeCall_enumerate_1 _) (F.newCall_enumerate_1 _) (λobj=>F.args_object_init_2 obj _) F.entry_enumerate_new (Te a xs) ⟨h1,?_⟩
 have z1:(ur s.heap a).objs.size=s.heap.objs.size+1:=Heap.size_push ..
 have g2:(pd s.heap a).get? (ur s.heap a).objs.size=some _:=yY _ rfl
 have g1:(pd s.heap a).get? s.heap.objs.size=some _:=yk _ (yY _ rfl)
 show _/\_
 rw [z1] at g2
 rw [z1]
 exact ⟨⟨_,g2,rfl⟩,h ⟨⟨_,g2⟩,⟨_,g1,rfl,rfl⟩⟩⟩
def Ti {X:Cx} {elts:List Expr} {kt:Nat} {tp:Pos} {x:Expr} {ta:TA} {p pos:Pos} (hg:Gl X "enumerate") (hm:X.mg "enumerate" = none) (ha:PA X [x] ta) (hs:starEach [x] X.env=[(false,eval x X.env)]:=by rfl) :
  PI X (.Tuple elts kt tp) (.Call (.Name "enumerate" p) [x] [] pos) (Td X.K ta):=by
 intro pins s σ H R I h
 refine Call_ (iD I hg hm Ff (PyProof.Rows.callWith_type1 (a0 (ha pos pins s σ H _ I h) λus s1 ⟨vs,H1,I1,r1,q1⟩=>?_) hs rfl))
 obtain ⟨a,e,⟨xs,hq⟩,q⟩:=q1
 subst e
 obtain ⟨u,rfl,ru⟩:=r1.one
 obtain rfl:u=Value.ref a:=ru
 obtain ⟨its,_,p1,_⟩:=I1.tuple hq
 have kk:∀b o,s1.heap.get? b=some o->(pd s1.heap a).get? b=some o:=λb o q=>yk _ (yk _ q)
 refine Tf p1 λest=>wpAny_pyIter_enum est.1.choose_spec ?_
 have ne:∀(n:Nat),n+1≠n:=λn z=>by omega
 refine ⟨_,[s1.heap.objs.size+1,s1.heap.objs.size],_,_,H1,rfl,I1.kept (t':=s1.toks) kk,Ta (ne _),est,λc hc=>?_,q⟩
 have le:s1.heap.objs.size<=c:=by
  simp only [yI,List.not_mem_nil,kg] at hc
  rcases hc with q|q<;>rw [q]<;>first|exact yf _|exact Nat.le_add_right _ _
 exact I1.fpOk le (I1.hok.fresh le)
end L2
namespace Mi
open PySem L2 PySem.W PySem.Spec
section
variable {X:Cx} {Er:XK} {fs:Ai} {pos:Pos}
def ez (ft:Al) (fe:Aj) (env:zf):Nat->List PV->An
 |_,[],ys,st=>.ok (.ref st.length) (st++[.lst ys])
 | i,x::r,ys,st=>(de (ft (some (.int i)::some x::env) st)).bind λb ae=>if b=true then (de (fe (some (.int i)::some x::env) ae)).bind λy aQ=>ez ft fe env (i+1) r (ys++[y]) aQ
   else ez ft fe env (i+1) r ys ae
def uv:List PV->Mo (Aq)
 |[.tup xs],st=>if xs.length<=lim then .ok xs st else .stuck
 |_,_=>.stuck
def rj (fs:Ai) (ft:Al) (fe:Aj):Aj:=λenv st=>(fs env st).bind λvs ae=>(uv vs ae).bind λxs ae=>ez ft fe env 0 xs [] ae
def Tj {α:Type}{K:Frag}{mg:Ab}{ρ:Af}{H:Hp}{st:aa}{vs:Aq}{k:List PV->Mo α}{good:List Addr->Hp->α->aa->Prop}{E:XK}(h:Out K mg ρ H ((uv vs st).bind k) good E):∃xs,vs=[.tup xs]/\xs.length<=lim/\Out K mg ρ H (k xs st) good E:=by
 cases vs with
 |nil=>exact h.elim
 |cons v r =>
  cases r with
  |cons _ _=>cases v<;>exact h.elim
  |nil =>
   cases v with
   |tup xs =>
    by_cases hl:xs.length<=lim
    ·refine ⟨xs,rfl,hl,?_⟩
     have e:uv [.tup xs] st=.ok xs st:=zx hl
     rw [e] at h
     exact h
    ·have e:uv [.tup xs] st=.stuck:=zK hl
     rw [e] at h
     exact h.elim
   |_=>exact h.elim
def Tn {elt e c:Expr} {x y:Str} {kt:Nat} {px py tp p ip:Pos} {scope:Scope} {ft:Al} {fe:Aj} {N:Ae} (hc:X.calm=true) (S:dQ X.env.scope scope [x,y]) (eN:X.N=N) (dc:((".0" : Str)::([x,y]++N)).Nodup)
  (hm:X.mg "enumerate" = none) (ha:MA X Er [e] fs) (mR:∀cl C ag ai fp,MT (fq X scope cl [x,y] C ag ai fp (λ_ _=>False)) XN c ft) (he:∀cl C ag ai fp,ME (fq X scope cl [x,y] C ag ai fp (λ_ _=>False)) XN elt fe)
  (hx:scope.names.lookup x=some .local:=by rfl) (hy:scope.names.lookup y=some .local:=by rfl) (nC:Gl X "enumerate" := by rfl) (cL:starEach [e] X.env=[(false,eval e X.env)]:=by rfl)
  (hs:∀v,foldedSetIterable (.Call (.Name "enumerate" p) [e] [] ip) X.env v=pure v:=by intro _;rfl) :
  ME X Er (.ListComp elt [⟨.Tuple [.Name x px,.Name y py] kt tp,.Call (.Name "enumerate" p) [e] [] ip,[c],0⟩] scope pos) (rj fs ft fe):=by
 have hN:([x,y]++X.N).Nodup:=by rw [eN];exact (jU.mp dc).2
 have gX:∀cl C ag ai fp E,PG (fq X scope cl [x,y] C ag ai fp E) (.Tuple [.Name x px,.Name y py] kt tp) (vV X.K 2 (pY (wE 0) (pY (wE 1) vT))):=λcl C ag ai fp E=>vW (n:=2) hc
  (oy (iE (X:=fq X scope cl [x,y] C ag ai fp E) (i:=0) hN rfl (.inl (wc hx)) (.inr (wc hx)))
  (oy (iE (X:=fq X scope cl [x,y] C ag ai fp E) (i:=1) hN rfl (.inl (wc hy)) (.inr (wc hy))) vU))
 exact PE.weak (xA (te:=tM X.K X.mg XN fe) (tt:=oO X.K X.mg XN ft) hc S eN dc (Ti nC hm ha cL) gX (λcl C ag ai fp=>DV (mR cl C ag ai fp)) (λcl C ag ai fp=>he cl C ag ai fp) hs) fun σ H Q ⟨env,st,ρ,re,rs,h⟩=>⟨env,st,ρ,re,rs,h.then λau H0 vs cW e0 s0 h0 us ru=>by
  obtain ⟨xs,rfl,vz,h0⟩:=Tj h0
  obtain ⟨v,rfl,rv⟩:=ru.one
  obtain ⟨a,ud,rfl,Gk,Fg⟩:=rv
  refine ⟨a,rfl,⟨_,Gk⟩,?_⟩
  have ln:lim=1000000:=rfl
  refine ⟨λi m ys H=>m+i=lim+1/\i<=xs.length/\ys.length<=i/\∃ps st ρ,Rs X.K X.mg ρ H ps ys/\bu X.K X.mg ρ H st/\Ext au H0 ρ H/\Out X.K X.mg ρ H (ez ft fe env i (xs.drop i) ps st) (gV X.K X.mg Q) Er,⟨lim+1,rfl,jw _,jw _,[],cW,au,rfl,s0,Ext.refl,h0⟩,?_⟩
  rintro i m ys H ⟨hm,hi,hy,ps,st,ρ,dh,rs,ex,h⟩
  have hq:=ex.sqT Gk
  have hR:=Rs.ext ex _ Fg
  cases hx:xs[i]? with
  |none =>
   have hl:xs.length<=i:=oj.mp hx
   rw [mM hl] at h
   exact .inl ⟨⟨ud,hq,by rw [<-hR.len];exact hl⟩,y0 (by omega),λl hl=>Out.newList h rs dh hl⟩
  |some x =>
   have bO:i<xs.length:=(yt.mp hx).1
   have To:xs.drop i=x::xs.drop (i+1):=by
    rw [we bO]
    congr 1
    exact (yt.mp hx).2
   rw [To] at h
   obtain ⟨v,hv,rv⟩:=hR.get hx
   refine .inr ⟨⟨ud,v,hq,hv⟩,y0 (by omega),λv' H' y=>?_⟩
   obtain ⟨T,x',hT,rfl,rfl,y⟩:=y
   have e2:=y ud hq
   rw [hv] at e2
   cases e2
   have cz:Ext ρ H ρ (upd H T (.tup [.int i,v])):=Ext.new hT
   refine ⟨T,[.int i,v],rfl,.inl (.inl yZ),rfl,.int i,[v],rfl,v,[],rfl,rfl,[some (.int i),some v],rfl,rfl,?_⟩
   have iN:bJ X.K X.mg ρ (upd H T (.tup [.int i,v])) (some (.int i)::some x::env) (some (.int i)::some v::σ):=(((re.ext (e0.trans ex)).ext cz).cons (R.ext cz x rv)).cons rfl
   refine ⟨_,st,ρ,iN,rs.new hT,wU (Out.ext h cz) λao H3 b bq e3 s3 h3=>?_⟩
   obtain ⟨m,rfl⟩:∃m',m=m'+1:=⟨m-1,by omega⟩
   cases b with
   |true =>
    refine ⟨_,bq,ao,iN.ext e3,s3,wU h3 λaE H4 y eL e4 s4 h4 v4 r4=>⟨m,wg m,by omega,by omega,by simp;omega,ps++[y],eL,aE,Rs.snoc r4 (Rs.ext ((cz.trans e3).trans e4) ps dh),s4,((ex.trans cz).trans e3).trans e4,h4⟩⟩
   |false=>exact ⟨m,wg m,by omega,by omega,by omega,ps,bq,ao,Rs.ext (cz.trans e3) ps dh,s3,(ex.trans cz).trans e3,h3⟩⟩
end
end Mi
namespace L2
open PySem PySem.Spec PyProof.Rows PySem.W
section
variable {X:Cx} {e:Expr} {te:TE}
def Tp (z:Str) (te:TE):TE:=fun σ H Q=>te σ H λv H1=>∃i:Int,v=.int i/\i.natAbs.log2<1920/\(z++(toString i:Str)).length<=sizeLine/\Q (.str (z++(toString i:Str))) H1
def uw (z:Str):Str.empty++z=z:=by
 show Str.mk (#[]++z.cps)=z
 simp
def Tq {z:Str}{ck}{cp fp pos:Pos}(he:PE X e te) (hz:z.length<=sizeLine):PE X (.JoinedStr [.Constant (.str z) ck cp,.FormattedValue e (-1) none fp] pos) (Tp z te):=by
 intro pins s σ H Q I h
 refine wpAny_JoinedStr (Calls.Constant_str ⟨z,_,rfl,?_,?_⟩)
 ·rw [uw];exact hz
 ·refine wpAny_FormattedValue_plain (a0 (he pins _ σ H _ (I.tok _) h) λu s1 ⟨v,H1,I1,r1,i,ev,hd,hl,q⟩=>?_)
  subst ev
  obtain ⟨t,rfl⟩:=r1
  refine wpAny_formatField_int hd ⟨_,_,rfl,?_,?_,?_⟩
  ·rw [uw];exact hl
  ·rw [uw];exact hl
  ·rw [uw];exact ⟨.str (z++(toString i:Str)),H1,(I1.tok _).tok _,⟨_,rfl⟩,q⟩
end
end L2
namespace Mi
open PySem L2 PySem.W PySem.Spec
section
variable {X:Cx} {Er:XK} {e i:Expr} {pos p:Pos} {f:Aj} {k:Nat} {m:An}
def Bv (z:Str):PV->Mo PV
 |.int i,st=>if i.natAbs.log2<1920/\(z++(toString i:Str)).length<=1000 then .ok (.str (z++(toString i:Str))) st else .stuck
 |_,_=>.stuck
def zsx {z:Str}{ck}{cp fp:Pos}(he:ME X Er e f) (hz:z.length<=1000:=by decide):ME X Er (.JoinedStr [.Constant (.str z) ck cp,.FormattedValue e (-1) none fp] pos) (yc (Bv z) f) :=
 PE.weak (Tq he (jv hz (by decide))) fun σ H Q ⟨env,st,ρ,re,rs,h⟩=>⟨env,st,ρ,re,rs,h.then λah H1 x ae e1 s1 h1 v rv=>by
  cases x with
  |int i =>
   obtain ⟨⟨h2,h3⟩,h1⟩:=Out.ifp h1
   exact ⟨i,rv,h2,jv h3 (by decide),h1.now s1 _ rfl⟩
  |_=>exact h1.elim⟩
def Gm {es:List Expr} {fs:Ai} {cn:Str} (C:kJ X.prog X.w X.K X.mg X.base cn k m) (hr:br (k+1) X.A) (ht:wy X Er) (ha:MA X Er (e::es) fs) (hg:Gl X cn:=by rfl) (eX:(cn==("__debug__" : Str))=false:=by decide)
  (he:starEach (e::es) X.env=(false,eval e X.env)::starEach es X.env:=by rfl) (bX:(backTo pos (starEach es X.env)).any (·.1)=false:=by rfl):ME X Er (.Call (.Name cn p) (e::es) [] pos) (zt (bZ cn m) fs):=fV C hr ht ha hg eX he bX
end
end Mi
namespace PySem
def Heap.IsRevT (h:Heap) (a l:Addr) (i:Int):Prop:=∃o,h.get? a=some o/\o.cls=.type "reversed" /\ o.data=.fields #[.ref l,rawInt i]
section
open PyProof.Rows
def Heap.IsRevT.at {h h':Heap}{a l:Addr}{i:Int}(x:h.IsRevT a l i) (e:∀o,h.get? a=some o->h'.get? a=some o):h'.IsRevT a l i:=let ⟨o,ho,r⟩:=x;⟨o,e _ ho,r⟩
end
end PySem
namespace Mi
open PySem L2 PySem.W PySem.Spec
section
variable {X:Cx} {K:Frag} {mg:Ab} {Er:XK} {e o:Expr} {p apos:Pos} {fo fa:Aj}
def rk:Ao
 | .ref n,.int i,st=>if 0<=i/\i<1000000 then yl st n λxs=>match xs[i.toNat]? with
  |some y=>.ok y (st.set n (.lst (xs.eraseIdx i.toNat)))
  |none=>.stuck
  else .stuck
 |_,_,_=>.stuck
def Rs.erase {ρ:Af}{H:Hp}{xs:Aq}{vs:List V}(k:Nat) (h:Rs K mg ρ H xs vs):Rs K mg ρ H (xs.eraseIdx k) (vs.eraseIdx k):=by
 rw [List.eraseIdx_eq_take_drop_succ,List.eraseIdx_eq_take_drop_succ]
 exact (h.take k).append (h.drop (k+1))
def zsy {bg:Pos} (ho:ME X Er o fo) (he:ME X Er e fa) (c7:attributeBase o "pop" X.env (eval o X.env)=eval o X.env:=by rfl)
  (fO:((backTo bg (starEach [e] X.env)).all (λx=>!x.1)&&(backToKw bg (keywordEach [] X.env)).all (λx=>x.1.isSome)&&decide ([e].length+([]:List Keyword).length+(if ([]:List Keyword).isEmpty then 0 else 1)<30))=true:=by rfl)
  (c_:(apos.endLine==bg.line)=true:=by rfl) (hs:starEach [e] X.env=(false,eval e X.env)::starEach [] X.env:=by rfl) (bX:(backTo bg (starEach [] X.env)).any (·.1)=false:=by rfl):ME X Er (.Call (.Attribute o "pop" apos) [e] [] bg) (yC rk fo fa) :=
 PE.weak (sI PySem.F.plainAttrs_list PySem.F.slot_list_pop PySem.F.type_list_pop NN ho (qe he qd hs) c7 fO c_ hs bX) fun σ H Q ⟨env,st,ρ,re,rs,h⟩=>⟨env,st,ρ,re,rs,h.then λah H1 x ae e1 s1 h1 v rv=>by
  obtain ⟨n,xs,rfl,hn,h1⟩:=AB h1
  obtain ⟨p,vs,rfl,hp,k1,k2⟩:=R.refL s1 rv hn
  refine ⟨.inl ⟨rfl,vs,bE.of k1⟩,env,ae,ah,re.ext e1,s1,h1.then λaq H2 y aQ e2 s2 h2 w rw=>?_⟩
  cases y with
  |int i =>
   cases rw
   obtain ⟨⟨hi,qz⟩,h2⟩:=Out.ifp h2
   obtain ⟨nu,gF,h2⟩:=jX h2
   obtain ⟨p',gH,e3,ng,k3,k4⟩:=R.refL s2 (R.ext e2 _ rv) gF
   cases e3
   cases hy:nu[i.toNat]? with
   |none=>simp only [hy] at h2;exact h2.elim
   |some y =>
    simp only [hy] at h2
    obtain ⟨u,hu,ru⟩:=k4.get hy
    have hl:=(yt.mp hu).1
    have ew:Ext aq H2 aq (upd H2 p (.lst (gH.eraseIdx i.toNat))):=Ext.write k3 rfl
    refine ⟨p,gH,i,i.toNat,u,rfl,rfl,k3,by omega,by omega,?_,hu,h2 aq _ ew (s2.write ng ew ⟨_,yZ,Rs.ext ew _ (k4.erase _)⟩) _ (R.ext ew y ru)⟩
    unfold seqIndex?
    have h1:¬i<0:=by omega
    have h3:(decide (0<=i)&&decide (i<(gH.length:Int)))=true:=by simp;omega
    simp only [zK h1]
    rw [zx h3]
  |_=>exact h2.elim⟩
end
end Mi
namespace L2
open PySem PySem.Spec PyProof.Rows PySem.W
def Tr {X:Cx}{b:Stmt}{h0:ExceptHandler}{hs:List ExceptHandler}{pos:Pos}{ts:TS}(hb:PS X.nox b ts):PS X (.Try [b] (h0::hs) [] [] pos) ts:=by
 intro pins s σ H D I h
 rw [arm_exec_Try]
 refine zB (wpAny_standAt (wpAny_tryStmt_except (wpAny_execs_cons (ju (hb pins s σ H D (I.wish _) h) (λf s1 z=>?_) (λ_ _ z=>z.elim)))))
 cases f with
 |next=>obtain ⟨aj,H',I',q⟩:=z;exact wpAny_execs_nil (wpAny_execs_nil ⟨aj,H',I'.unwish,q⟩)
 |brk=>obtain ⟨aj,H',I',q⟩:=z;exact ⟨aj,H',I'.unwish,q⟩
 |cont=>obtain ⟨aj,H',I',q⟩:=z;exact ⟨aj,H',I'.unwish,q⟩
 |ret u=>obtain ⟨v,aj,H',I',r,q⟩:=z;exact ⟨v,aj,H',I'.unwish,r,q⟩
end L2
namespace Mi
open PySem L2 PySem.W PySem.Spec
section
variable {X:Cx} {K:Frag} {mg:Ab} {Er:XK} {a:Expr} {pos:Pos} {fa:Aj}
def pe (g:Ak):Ak:=λenv st=>de (g env st)
def zsA {b:Stmt}{h0:ExceptHandler}{hs:List ExceptHandler}{g:Ak}(hb:MS X.nox E0 b g):MS X Er (.Try [b] (h0::hs) [] [] pos) (pe g) :=
 PS.weak (Tr hb) λD σ H ⟨env,st,ρ,re,rs,h⟩=>⟨env,st,ρ,re,rs,by
  unfold pe at h
  cases hr:g env st with
  |ok x s1=>rw [hr] at h;exact h
  |err c ks xs s1=>rw [hr] at h;exact h.elim
  |stuck=>rw [hr] at h;exact h.elim⟩
def Ts:PV->Option Int->Option Int->Mo PV
 |.str z,lo,hi,st=>if z.length<=lim then .ok (.str (Txt.slice z lo hi)) st else .stuck
 |_,_,_,_=>.stuck
def rm (fa:Aj) (fl fu:zf->Mo (Option Int)):Aj:=λenv st=>(fa env st).bind λx ae=>(fl env ae).bind λl aQ=>(fu env aQ).bind λu bq=>Ts x l u bq
def Gn {lo hi:Option Expr}{fl fu:zf->Mo (Option Int)}{p2:Pos}(ha:ME X Er a fa) (hl:MO X Er lo fl) (hu:MO X Er hi fu):ME X Er (.Subscript a (.Slice lo hi none p2) pos) (rm fa fl fu) :=
 PE.weak (Nu N2 ha hl hu) fun σ H Q ⟨env,st,ρ,re,rs,h⟩=>⟨env,st,ρ,re,rs,h.then λah H1 x ae e1 s1 h1 v rv=>⟨env,ae,ah,re.ext e1,s1,h1.then λaq H2 l aQ e2 s2 h2 =>
  ⟨env,aQ,aq,(re.ext e1).ext e2,s2,h2.then λao H3 u bq e3 s3 h3=>by
  cases x with
  |str z =>
   cases rv
   obtain ⟨k0,h3⟩:=Out.ifp h3
   exact ⟨z,rfl,y0 k0,h3.now s3 _ rfl⟩
  |_=>exact h3.elim⟩⟩⟩
def Gp {fl fu:zf->Mo (Option Int)}{e:zf}{st s1 s2 s3:aa}{z:Str}{lo hi:Option Int}(h:fa e st=.ok (.str z) s1) (hl:fl e s1=.ok lo s2) (hu:fu e s2=.ok hi s3) (hz:z.length<=1000):rm fa fl fu e st=.ok (.str (Txt.slice z lo hi)) s3:=by
 unfold rm
 rw [h,zJ,hl,zJ,hu,zJ]
 exact zx (by show z.length<=lim;simp [lim];omega)
inductive ux (K:Frag) (H:Hp):V->Value->Prop where
 |of {v:V} {t:Value} (h:dA K H v t):ux K H v t
 |tup {a:Addr} {vs:List V} (h:bD K H a vs):ux K H (.ref a) (.type "tuple")
def gY:cv X (.builtin "isinstance") (λxs H Q=>∃v w t c b,xs=[v,w]/\ux X.K H v t/\RelV w c/\(∀c',RelV w c'->c'=c)/\kitOne X.K t c=some b/\Q (.bl b) H):=by
 intro pins s σ H xs us Q I r h
 obtain ⟨v,w,t,c,b,rfl,ty,rw,un,e,q⟩:=h
 obtain ⟨u,w',rfl,ru,dm⟩:=vY r
 obtain rfl:=un w' dm
 have h:∀tk,EP X pins σ Q (.bool b) { s with toks:=tk }:=λtk=>⟨.bl b,H,I.tok _,rfl,q⟩
 cases ty with
 |of ty=>exact Dj I ru ty e h
 |@tup a vs hq =>
  obtain rfl:u=Value.ref a:=ru
  obtain ⟨its,_,p,_⟩:=I.tuple hq
  obtain ⟨o,h1,h2,_⟩:=p
  exact PySem.W.kia_one PySem.W.kitx_tuple I.kIn ⟨o,h1,h2⟩ e (λz=>nomatch z) h
def Bw:Option SO->Option String
 |some (.dic _ _)=>some "dict"
 |some (.lst _)=>some "list"
 |_=>none
def tyP (st:aa):PV->Option String
 |.non=>some "NoneType"
 |.bl _=>some "bool"
 |.int _=>some "int"
 |.str _=>some "str"
 |.tup _=>some "tuple"
 |.ref n=>Bw st[n]?
 |_=>none
def Tt {ρ:Af}{H:Hp}{st:aa}{x:PV}{v:V}{T:String}(s:bu K mg ρ H st) (r:R K mg ρ H x v) (h:tyP st x=some T):ux K H v (.type T):=by
 cases x with
 |non=>cases h;cases r;exact .of .non
 |bl b=>cases h;cases r;exact .of (.bl b)
 |int i=>cases h;cases r;exact .of (.int i)
 |str z=>cases h;cases r;exact .of (.str z)
 |tup xs=>cases h;obtain ⟨a,vs,rfl,h1,_⟩:=r;exact .tup h1
 |ref n =>
  obtain ⟨a,rfl,ha⟩:=r
  have h:Bw st[n]?=some T:=h
  cases e:st[n]? with
  |none=>rw [e] at h;cases h
  |some so =>
   rw [e] at h
   cases so with
   |lst xs=>cases h;obtain ⟨vs,h1,_⟩:=s.addr e ha;exact .of (.lst h1)
   |dic ks xs=>cases h;obtain ⟨vs,h1,_⟩:=s.addr e ha;exact .of (.dK h1)
   |_=>cases h
 |_=>cases h
def kS:An
 | [x,.ty n],st=>match tyP st x with
  |some T=>qD (tN T n) st
  |none=>.stuck
 |_,_=>.stuck
def Tu:dH X (.builtin "isinstance") kS:=⟨_,gY,fun ρ H st xs vs Q E s r h=>by
 unfold kS at h
 split at h
 ·rename_i x n
  obtain ⟨v,w,rfl,rx,ry⟩:=Rs.two r
  cases hc:tyP st x with
  |none=>rw [hc] at h;exact h.elim
  |some T =>
   rw [hc] at h
   cases ry
   obtain ⟨b,hb,h⟩:=PJ h
   exact ⟨v,_,_,_,b,rfl,Tt s rx hc,rfl,λc' h=>h,Pw X.K hb,h.now s _ rfl⟩
 ·exact h.elim⟩
end
end Mi
abbrev Mi.Av (n:Nat):Option Mi.PV:=some (.ref n)
abbrev Mi.Aw (n:Nat):Option Mi.PV:=some (.int n)
abbrev Mi.At (i:Int):=Mi.mC (.int i)
abbrev Mi.Au (z:PySem.Str):=Mi.mC (.str z)
namespace FK60
open PySem L2 PySem.W Mi
def top (i:Nat):Stmt:=PySem.Challenge.pw_foreknown_k60_one_key_for_the_same.main.body.getD i (.Pass ⟨0,0,0,0⟩)
abbrev Gq:Stmt:=top 79
abbrev Gr:Stmt:=top 80
abbrev Gs:Stmt:=top 82
abbrev Gu:Stmt:=top 81
abbrev Gv:Stmt:=top 83
abbrev Gw:Stmt:=top 84
abbrev Gx:Stmt:=top 85
abbrev Gy:Stmt:=top 86
abbrev Gz:Stmt:=top 15
abbrev GA:Stmt:=top 23
abbrev GB:Stmt:=top 17
abbrev zfO:Stmt:=top 21
abbrev GC:Stmt:=top 11
abbrev GD:Stmt:=top 18
abbrev zfP:Stmt:=top 19
abbrev GF:Stmt:=top 10
abbrev GG:Stmt:=top 13
abbrev GH:Stmt:=top 28
abbrev GI:Stmt:=top 12
abbrev GJ:Stmt:=top 29
abbrev GK:Stmt:=top 30
abbrev zfQ:Stmt:=top 31
abbrev GL:Stmt:=top 75
abbrev GN:Stmt:=inClass (top 73) 0
abbrev GO:Stmt:=top 6
abbrev zdS:Stmt:=top 71
abbrev GP:Stmt:=inClass (top 73) 1
abbrev zfR:Stmt:=top 22
abbrev GQ:Stmt:=inClass (top 67) 0
abbrev GR:Stmt:=inClass (top 68) 0
abbrev GS:Stmt:=inClass (top 74) 0
abbrev GU:Stmt:=top 69
abbrev zfS:Stmt:=inClass (top 74) 1
abbrev GV:Stmt:=inClass (top 67) 2
abbrev GW:Stmt:=inClass (top 68) 2
abbrev GX:Stmt:=inClass (top 74) 3
abbrev GY:Stmt:=inClass (top 74) 5
abbrev zfT:Stmt:=inClass (top 74) 4
abbrev GZ:Stmt:=top 61
abbrev G0:Stmt:=top 55
abbrev G7:Stmt:=top 56
abbrev G8:Stmt:=top 58
abbrev G9:Stmt:=top 59
abbrev G_:Stmt:=top 5
abbrev Ha:Stmt:=top 7
abbrev Hb:Stmt:=top 8
abbrev Hc:Stmt:=inClass (top 63) 1
abbrev Hd:Stmt:=inClass (top 63) 0
abbrev He:Stmt:=top 64
abbrev zfU:Stmt:=inClass (top 74) 2
abbrev Hf:Stmt:=inClass (top 74) 8
abbrev Hg:Stmt:=inClass (top 74) 7
abbrev Hh:Stmt:=top 76
abbrev Hi:Stmt:=top 77
abbrev zfV:Stmt:=top 20
abbrev Hj:Stmt:=inClass (top 25) 0
abbrev Hk:Stmt:=inClass (top 25) 2
abbrev Hl:Stmt:=inClass (top 25) 1
abbrev Hm:Stmt:=inClass (top 25) 3
abbrev zdT:Stmt:=top 14
abbrev zfW:Stmt:=top 24
abbrev Hn:Stmt:=top 26
abbrev Ho:Stmt:=top 87
abbrev zdU:Stmt:=top 88
def insOf (c:Str):Bool:=decide (c = "Holding")||decide (c = "KeyRing")||decide (c = "Known")||decide (c = "Later")||decide (c = "Making")||decide (c = "Op")
def excOf (c:Str):Bool:=false
def wq:Ae:=["item", "field", "set"]
def wt:Aq:=[.tup [.tup [.str "row", .str "number"],.fn "tell_item"],.tup [.tup [.str "record", .str "word"],.fn "tell_field"],.tup [.tup [.str "record", .str "word", .str "any"],.fn "tell_set"]]
abbrev zfX:Bool:=false
structure Txt (w:World) (K:Frag) (mg:Ab):Prop where
 f__law_cell_at:FnF K mg "_law_cell_at" Gq ["_law_script", "_law_k"]
 f__law_word:FnF K mg "_law_word" Gr ["_law_script", "_law_k"]
 f__law_order:FnF K mg "_law_order" Gs ["_law_cell", "_law_many"]
 f__law_number:FnF K mg "_law_number" Gu ["_law_script", "_law_k"]
 f__law_record:FnF K mg "_law_record" Gv ["_law_script", "_law_turn", "_law_many", "_law_other_here"]
 f__law_handed:FnF K mg "_law_handed" Gw ["_law_record_here", "_law_rows"]
 f__law_steps:FnF K mg "_law_steps" Gx ["_law_script", "_law_many", "_law_other_here", "_law_rows"]
 f__law_other:FnF K mg "_law_other" Gy ["_law_word_here", "_law_rows"]
 f_functions_by_name:FnF K mg "functions_by_name" Gz ["program"]
 f_marked:FnF K mg "marked" GA ["names"]
 f_is_later_at:FnF K mg "is_later_at" GB ["bits", "place"]
 f_later_params:FnF K mg "later_params" zfO ["function", "bits"]
 f_lines_of:FnF K mg "lines_of" GC ["block"]
 f_bits_of:FnF K mg "bits_of" GD ["truths"]
 f_need:FnF K mg "need" zfP ["atoms", "later"]
 f_is_step:FnF K mg "is_step" GF ["line"]
 f_atoms_of:FnF K mg "atoms_of" GG ["line"]
 f_broken_name:FnF K mg "broken_name" GH ["line", "later"]
 f_aim_of:FnF K mg "aim_of" GI ["line"]
 f_broken_aim:FnF K mg "broken_aim" GJ ["aim", "goal", "later", "pairs"]
 f_broken_form:FnF K mg "broken_form" GK ["function", "form", "pairs"]
 f_broken:FnF K mg "broken" zfQ ["program", "parting"]
 f_forms_by_pair:FnF K mg "forms_by_pair" GL ["parting"]
 n_KeyRing:NwF K mg "KeyRing" "KeyRing.__init__" GN ["self", "limit"]
 f_kind_of:FnF K mg "kind_of" GO ["value"]
 f_show_value:FnF K mg "show_value" zdS ["value"]
 m_KeyRing_name_for:MtF K mg "KeyRing" "name_for" "KeyRing.name_for" GP ["self", "key"]
 f_known_params:FnF K mg "known_params" zfR ["function", "bits"]
 n_Known:NwF K mg "Known" "Known.__init__" GQ ["self", "value"]
 n_Later:NwF K mg "Later" "Later.__init__" GR ["self", "name"]
 n_Making:NwF K mg "Making" "Making.__init__" GS ["self", "ring", "function", "form", "values"]
 f_thing_of:FnF K mg "thing_of" GU ["atom", "things"]
 m_Making_things_at:MtF K mg "Making" "things_at" "Making.things_at" zfS ["self", "atoms"]
 m_Known_atom:MtF K mg "Known" "atom" "Known.atom" GV ["self"]
 m_Later_atom:MtF K mg "Later" "atom" "Later.atom" GW ["self"]
 m_Making_left_aim:MtF K mg "Making" "left_aim" "Making.left_aim" GX ["self", "name", "atoms", "goal"]
 m_Making_left_call:MtF K mg "Making" "left_call" "Making.left_call" GY ["self", "step", "place"]
 m_Making_left_let:MtF K mg "Making" "left_let" "Making.left_let" zfT ["self", "step"]
 f_check_kinds:FnF K mg "check_kinds" GZ ["kinds", "values"]
 f_place_in:FnF K mg "place_in" G0 ["row", "number"]
 f_tell_item:FnF K mg "tell_item" G7 ["values"]
 f_tell_field:FnF K mg "tell_field" G8 ["values"]
 f_tell_set:FnF K mg "tell_set" G9 ["values"]
 f_things_within:FnF K mg "things_within" G_ ["thing"]
 f_all_within:FnF K mg "all_within" Ha ["thing"]
 f_parts:FnF K mg "parts" Hb ["value"]
 m_Op_answer:MtF K mg "Op" "answer" "Op.answer" Hc ["self", "values"]
 n_Op:NwF K mg "Op" "Op.__init__" Hd ["self", "word"]
 f_op_of:FnF K mg "op_of" He ["word"]
 m_Making_answer_ahead:MtF K mg "Making" "answer_ahead" "Making.answer_ahead" zfU ["self", "step"]
 m_Making_made_end:MtF K mg "Making" "made_end" "Making.made_end" Hf ["self", "end", "place"]
 m_Making_made_block:MtF K mg "Making" "made_block" "Making.made_block" Hg ["self", "block", "place"]
 f_made_function:FnF K mg "made_function" Hh ["ring", "key", "function", "form"]
 f_make:FnF K mg "make" Hi ["program", "parting", "known", "limit"]
 f_held_bits:FnF K mg "held_bits" zfV ["function", "held"]
 n_Holding:NwF K mg "Holding" "Holding.__init__" Hj ["self", "program", "held"]
 m_Holding_goal_of:MtF K mg "Holding" "goal_of" "Holding.goal_of" Hk ["self", "aim", "later"]
 m_Holding_makes_later:MtF K mg "Holding" "makes_later" "Holding.makes_later" Hl ["self", "name", "step", "later"]
 m_Holding_best_form:MtF K mg "Holding" "best_form" "Holding.best_form" Hm ["self", "function", "bits"]
 f_aims_of:FnF K mg "aims_of" zdT ["block"]
 f_aimed_pairs:FnF K mg "aimed_pairs" zfW ["function", "goals"]
 f_best:FnF K mg "best" Hn ["program", "bits", "held"]
 f__law_made:FnF K mg "_law_made" Ho ["_law_name", "_law_number_here"]
 f_law:FnF K mg "law" zdU ["_law_script"]
 b_dict:mg "dict" = none
 b_enumerate:mg "enumerate" = none
 b_isinstance:mg "isinstance" = none
 b_len:mg "len" = none
 b_list:mg "list" = none
 b_range:mg "range" = none
 b_sorted:mg "sorted" = none
 b_str:mg "str" = none
 b_tuple:mg "tuple" = none
 b_zip:mg "zip" = none
 c_MOST_PARTS:∃t,mg "MOST_PARTS" = some (.int 60 t)
 d_bits_by_name:FldF K mg "bits_by_name" insOf excOf
 d_goals:FldF K mg "goals" insOf excOf
 d_later:FldF K mg "later" insOf excOf
 d_limit:FldF K mg "limit" insOf excOf
 d_many:FldF K mg "many" insOf excOf
 d_met:FldF K mg "met" insOf excOf
 d_name:FldF K mg "name" insOf excOf
 d_names:FldF K mg "names" insOf excOf
 d_pairs:FldF K mg "pairs" insOf excOf
 d_ring:FldF K mg "ring" insOf excOf
 d_things:FldF K mg "things" insOf excOf
 d_value:FldF K mg "value" insOf excOf
 d_word:FldF K mg "word" insOf excOf
 kd_OPS:∀X:Cx,X.K=K->X.mg=mg->X.w=w->KdF X "OPS" wq wt zfX
section
variable {P:Program} {w:World} {K:Frag} {mg:Ab} {base:Heap}
set_option hygiene false in
local macro_rules
|`(tactic|exact $s:str)=>do
 let ts<-(s.getString.splitOn " ").toArray.mapM λ(w:String)=>do
  let p:=(w.drop 1).toString
  let i:Lean.TSyntax `term:=if p.all Char.isDigit then ⟨(Lean.Syntax.mkNumLit p).raw⟩ else ⟨(Lean.mkIdent p.toName).raw⟩
  match w.toList.headD 'a' with
  |'a'=>`(tactic|refine $i ?_ ?_)
  |'b'=>`(tactic|exact (zg $i))
  |'c'=>`(tactic|exact $i)
  |'d'=>`(tactic|refine $i ?_)
  |'e'=>`(tactic|refine zV ($i T) (hr.mono (by decide)) zN ?_)
  |'f'=>`(tactic|refine zG ?_ ?_ ?_ ?_)
  |'g'=>`(tactic|exact λ_ _=>rfl)
  |'h'=>`(tactic|exact (zH (zq hr)))
  |'i'=>`(tactic|refine zW $i ?_ ?_)
  |'j'=>`(tactic|refine yg $i ?_ ?_)
  |'k'=>`(tactic|refine zh ?_ ?_)
  |'l'=>`(tactic|exact (yQ (zq hr) (zH (zq hr))))
  |'m'=>`(tactic|refine yu ?_ ?_ ?_)
  |'n'=>`(tactic|refine yw ($i (zq hr)) ?_ ?_)
  |'o'=>`(tactic|refine j3 (λc m h=>$i T h) ?_ (hr.mono (by decide)) zN ?_)
  |'p'=>`(tactic|exact zm)
  |'q'=>`(tactic|refine j6 (jq rfl rfl) rfl ?_ ?_ ?_)
  |'r'=>`(tactic|refine yX jO T.b_tuple jB ?_)
  |'s'=>`(tactic|refine yP $i ?_)
  |'t'=>`(tactic|refine Gm ($i T) (hr.mono (by decide)) zN ?_)
  |'u'=>`(tactic|refine jA wo T.b_len wm ?_)
  |'v'=>`(tactic|exact zA)
  |'w'=>`(tactic|refine $i ?_ ?_ ?_ ?_ ?_)
  |'x'=>`(tactic|refine zC ?_ ?_)
  |'y'=>`(tactic|refine zE ?_)
  |'z'=>`(tactic|refine Tn (N:=["function", "bits"]) rfl (by exact ⟨rfl,by decide +kernel,by decide +kernel,by show ∀y:Str×NameKind,y∈_->y.2=NameKind.free->List.lookup y.1 (zL $i).names=some NameKind.cell;decide +kernel⟩) rfl (by decide +kernel) T.b_enumerate ?_ ?_ ?_)
  |'A'=>`(tactic|intro _ _ _ _ _)
  |'B'=>`(tactic|exact zM)
  |'C'=>`(tactic|refine wz $i ?_ ?_)
  |'D'=>`(tactic|exact (zq hr))
  |'E'=>`(tactic|refine yw $i ?_ ?_)
  |'F'=>`(tactic|refine zS ?_)
  |'G'=>`(tactic|exact (zg 0))
  |'H'=>`(tactic|refine yX Q0 T.b_str EF ?_)
  |'I'=>`(tactic|refine jA Tu T.b_isinstance Qd ?_)
  |'J'=>`(tactic|refine Eo ($i (zq hr)) ?_ ?_)
  |'K'=>`(tactic|refine zV ($i T) (hr.mono (by decide)) zaE ?_)
  |'L'=>`(tactic|refine ya ?_)
  |'M'=>`(tactic|refine $i (T.kd_OPS _ rfl rfl rfl) ?_)
  |'N'=>`(tactic|refine QV (jq rfl rfl) rfl T.b_enumerate ?_ ?_ ?_)
  |'O'=>`(tactic|exact (zg 1))
  |'P'=>`(tactic|refine zV (Hq T 2) (hr.mono (by decide)) zN ?_)
  |'Q'=>`(tactic|refine yw (SU (zq hr) (zbO (zq hr))) ?_ ?_)
  |'R'=>`(tactic|exact yv)
  |'S'=>`(tactic|exact j8.nd)
  |'T'=>`(tactic|refine P8 (jq rfl rfl) ?_ ?_)
  |'U'=>`(tactic|refine EB (λc m h=>Hr T h) ?_ (hr.mono (by decide)) $i)
  |'V'=>`(tactic|refine j3 (λc m h=>$i T h) ?_ (hr.mono (by omega)) zN ?_)
  |'W'=>`(tactic|refine yP T.d_things ?_)
  |'X'=>`(tactic|refine P4 T.b_range ?_)
  |'Y'=>`(tactic|exact yT)
  |'Z'=>`(tactic|exact (zg 2))
  |'0'=>`(tactic|refine Eo (SS (zq hr) (zcy (zq hr))) ?_ ?_)
  |'1'=>`(tactic|rfl)
  |'2'=>`(tactic|refine P7 T.b_zip ?_)
  |'3'=>`(tactic|refine zV rq (hr.mono (by omega)) zaE ?_)
  |'4'=>`(tactic|refine zV ($i T) (hr.mono (by omega)) zN ?_)
  |'5'=>`(tactic|refine yg yR ?_ ?_)
  |'6'=>`(tactic|exact Bx.nd)
  |'7'=>`(tactic|exact (zg 3))
  |'9'=>`(tactic|exact ⟨rfl,by decide +kernel,by decide +kernel,rfl,by show ∀y:Str×NameKind,y∈_->y.2=NameKind.free->List.lookup y.1 (zL $i).names=some NameKind.cell;decide +kernel⟩)
  |'!'=>`(tactic|exact ⟨rfl,by decide +kernel,by decide +kernel,by show ∀y:Str×NameKind,y∈_->y.2=NameKind.free->List.lookup y.1 (zL $i).names=some NameKind.cell;decide +kernel⟩)
  |'$'=>`(tactic|first|exact Or.inl rfl|exact Or.inr rfl)
  |'%'=>`(tactic|first|exact .inl rfl|exact .inr rfl|assumption)
  |'8'=>`(tactic|exact ⟨rfl,rfl,rfl,by decide +kernel,rfl,by decide +kernel,by decide +kernel⟩)
  |_=>Lean.Macro.throwUnsupported
 `(tactic|($[$ts]*))
def Tv:af ["_law_script", "_law_k"] ["_law_script", "_law_k"] (zL Gq):=by exact "8"
def Tw:Ak :=
  zw (yd (mB (zk wS (zc 1) (zt yD (zd (zc 0) zj))))
  (z0 (zk zp (zc 0) (zc 1)))
  yi) (z0 (At 0))
def jc:An:=zX 2 2 (Tw)
def wX (T:Txt w K mg):bG P w K mg base "_law_cell_at" 1 jc:=T.f__law_cell_at.ok (k:=0) Tv λ_ _ _ _ _ _ _ hr=>by
 exact "x m Ezcs O u k G p y L f h G O g R y L v"
def zfY:af ["_law_script", "_law_k", "_law_pre", "_law_at"] ["_law_script", "_law_k"] (zL Gr):=by exact "8"
def Tx:Ak :=
  zw (zO 2 (zk zp (jg (AV ["", "b", "to", "field", "zzzzzzz"])) (zk ja (zt jc (zd (zc 0) (zd (At 1) zj))) (At 5)))) (zw (zO 3 (zk ja (zk iI (zt jc (zd (zc 0) (zd (At 1) zj))) (At 5)) (zk yh (zt yD (zd (zc 2) zj)) (At 1)))) (z0 (zk yh (zk yh (rm (zc 2) kI (g8 (zc 3))) (zk zp (Au "jklmn") (zc 1))) (rm (zc 2) (g8 (zc 3)) kI))))
def mh:An:=zX 2 4 (Tx)
def zfZ (T:Txt w K mg):bG P w K mg base "_law_word" 2 mh:=T.f__law_word.ok (k:=1) zfY λ_ _ _ _ _ _ _ hr=>by
 exact "x i2 f h djz dziy"
 decide +kernel
 exact "jwR ewX k G k v p v g czfY.nd x i3 jwR jzcr ewX k G k v p v 5 u k Z p v czfY.nd y L 5 5"
 refine Gn ?_ ?_ ?_
 exact "Z czh3 dzh4 7 f h B O g"
 refine Gn ?_ ?_ ?_
 exact "Z dzh4 7 czh3"
def zdV:af ["_law_cell", "_law_many", "_law_some", "_law_order_here", "_law_k"] ["_law_cell", "_law_many"] (zL Gs):=by exact "8"
def Tz:Ak :=
  zw (zO 2 (Bi (zd (zc 1) zj))) (zw (zO 3 (jg zj)) (zw (yS (dz (zd (zc 1) zj)) (gN 4)
  (yH (yC yM (zc 3) (yC rk (zc 2) (zk ja (zk iI (zc 0) (zk yh (At 1) (zk wG (At 7) (zc 4)))) (zt yD (zd (zc 2) zj))))))) (z0 (zc 3))))
def uz:An:=zX 2 5 (Tz)
def zsH (T:Txt w K mg):bG P w K mg base "_law_order" 1 uz:=T.f__law_order.ok (k:=0) zdV λ_ _ _ _ _ _ _ hr=>by
 exact "x i2"
 refine RS rfl T.b_range T.b_list AF ?_
 exact "k O p czdV.nd x i3 djz p czdV.nd x q X k O p"
 exact (wA 4 zdV.nd)
 exact "y djP aj7 7 azsy Z jwR jzcr G 5 v jzdG v b4 u k Z p y L 7"
def TC:af ["_law_script", "_law_k"] ["_law_script", "_law_k"] (zL Gu):=by exact "8"
def TF:Ak :=
  (z0 (zk qA (zk ja (zt jc (zd (zc 0) (zd (zk yh (At 10) (zc 1)) zj))) (zk qA (zk wG (At 2) (zk tF (At 10) (At 17))) (At 1))) (zk qA (zk tF (At 10) (At 17)) (At 1))))
def nJ:An:=zX 2 2 (TF)
def zsK (T:Txt w K mg):bG P w K mg base "_law_number" 2 nJ:=T.f__law_number.ok (k:=1) TC λ_ _ _ _ _ _ _ hr=>by
 exact "y L jze7 jwR ewX k G k 5 v O p jze7 jzdG v jzhX v v v jze7 jzhX v v v"
def zdX:af ["_law_script", "_law_turn", "_law_many", "_law_other_here", "_law_record_here", "_law_k", "_law_word_here"] ["_law_script", "_law_turn", "_law_many", "_law_other_here"] (zL Gv):=by exact "8"
def TH:Ak :=
  zw (zO 4 iL) (zw (yS (yJ (zt uz (zd (zt jc (zd (zc 0) (zd (zk yh (At 3) (zc 1)) zj))) (zd (zc 2) zj)))) (gN 5)
  (je (zc 4) (zt mh (zd (zc 0) (zd (zc 5) zj))) (zt nJ (zd (zc 0) (zd (zc 5) zj))))) (zw (yd (mB (zk yx (zc 1) (At 3)))
  (zw (zO 6 (zt mh (zd (zc 0) (zd (zk ja (zk iI (zt jc (zd (zc 0) (zd (At 2) zj))) (At 2)) (zc 2)) zj))))
  (je (zc 4) (zc 6) (zk yh (zk zp (zc 4) (zc 6)) (zc 3))))
  yi) (z0 (zc 4))))
def pf:An:=zX 4 7 (TH)
def zf0 (T:Txt w K mg):bG P w K mg base "_law_record" 3 pf:=T.f__law_record.ok (k:=2) zdX λ_ _ _ _ _ _ _ hr=>by
 exact "x i4 czaW czdX.nd x q djs ezsH k ewX k G k 5 v O p k Z p"
 exact (wA 5 zdX.nd)
 exact "y wwV D b4 ezfZ k G k b5 p ezsK k G k b5 p 1 x m njr O v x i6 ezfZ k G k jwR jzcr ewX k G k v p v Z p czdX.nd y wwV D b4 b6 5 f h b4 b6 g 7 1 R y L b4"
def TJ:af ["_law_record_here", "_law_rows"] ["_law_record_here", "_law_rows"] (zL Gw):=by exact "8"
def TK:Ak :=
  zw (yd (mB (zc 1))
  (z0 (zI (zd (At 7) (zd (zc 0) zj))))
  yi) (z0 (zc 0))
def ph:An:=zX 2 2 (TK)
def zf1 (T:Txt w K mg):bG P w K mg base "_law_handed" 1 ph:=T.f__law_handed.ok (k:=0) TJ λ_ _ _ _ _ _ _ hr=>by
 exact "x m dj5 O y L F k v k G p R y L G"
def zam:af ["_law_script", "_law_many", "_law_other_here", "_law_rows", "_law_steps_here", "_law_name", "_law_turn", "_law_record_here", "_law_atom", "_law_k", "_law_word_here"] ["_law_script", "_law_many", "_law_other_here", "_law_rows"] (zL Gx):=by exact "8"
def TL:Ak :=
  zw (zO 4 (jg zj)) (zw (zO 5 (Au "x")) (zw (yS (dz (zd (At 4) zj)) (gN 6)
  (zw (zO 7 (zt pf (zd (zc 0) (zd (zc 6) (zd (zc 1) (zd (zc 2) zj))))))
  (zw (zO 8 (zI (zd (Au "is") (zd (zt ph (zd (zc 7) (zd (zc 3) zj))) zj))))
  (zw (yd (jN (kG (mB (zc 3))) (mB (zk yx (zk ja (zk iI (zt jc (zd (zc 0) (zd (At 8) zj))) (zk yh (At 1) (zk wG (At 2) (zc 6)))) (At 2)) (At 1))))
  (zw (zO 8 (zI (zd (Au "is") (zd iL zj))))
  (l7 (zd (zt kN (zd (zc 7) zj)) zj) (g2 9 10)
  (zw (yH (yC yM (zc 4) (zI (zd (Au "let") (zd (zk yh (Au "s") (zt jR (zd (zk yh (zk wG (At 10) (zc 6)) (zc 9)) zj))) (zd (Au "set") (zd (zI (zd (zc 8) (zd (zI (zd (Au "is") (zd (zc 10) zj))) (zd (zI (zd (Au "is") (zd (zk zp (zc 7) (zc 10)) zj))) zj)))) zj)))))))
  (zO 8 (zI (zd (Au "of") (zd (zk zp (zk zp (zc 4) (yc xU (At 1))) (At 1)) zj)))))))
  yi)
  (zw (yH (yC yM (zc 4) (zI (zd (Au "call") (zd (zk yh (Au "c") (zt jR (zd (zc 6) zj))) (zd (Au "other") (zd (zI (zd (zc 8) (zd (zI (zd (Au "of") (zd (zc 5) zj))) zj))) zj)))))))
  (zO 5 (zk yh (Au "c") (zt jR (zd (zc 6) zj))))))))) (z0 (zt ji (zd (zc 4) zj)))))
def uA:An:=zX 4 11 (TL)
def zsP (T:Txt w K mg):bG P w K mg base "_law_steps" 4 uA:=T.f__law_steps.ok (k:=3) zam λ_ _ _ _ _ _ _ hr=>by
 exact "x i4 djz p czam.nd x i5 B czam.nd x q X k v p"
 exact (wA 6 zam.nd)
 exact "x i7 ezf0 k G k b6 k O k Z p czam.nd x i8 F k B k ezf1 k b7 k 7 p p czam.nd x m dzbK azbJ dze5 dj5 7 dzcp njr jwR jzcr ewX k G k v p 5 v jzdG v b6 v v x i8 F k B k czaW p czam.nd y N k"
 refine yX (Rl rfl) T.b_list AF ?_
 exact "k b7 p p"
 exact (qE 9 10 rfl zam.nd)
 exact "x djP aj7 b4 F k B k 5 B H k 5 jzdG v b6 b9 p k B k F k b8 k F k B k b10 p k F k B k f h b7 b10 g p p p y i8 F k B k f h f h b4"
 refine Pb Ph ?_
 exact "v g v g p czam.nd R x djP aj7 b4 F k B k 5 B H k b6 p k B k F k b8 k F k B k b5 p p p y i5 5 B H k b6 p czam.nd y L r k b4 p"
def zf2:af ["_law_word_here", "_law_rows", "_law_steps_here"] ["_law_word_here", "_law_rows"] (zL Gy):=by exact "8"
def TM:Ak :=
  zw (zO 2 (jg (zd (zI (zd (Au "let") (zd (Au "f") (zd (Au "field") (zd (zI (zd (zI (zd (Au "of") (zd (Au "r") zj))) (zd (zI (zd (Au "is") (zd (zc 0) zj))) zj))) zj))))) (zd (zI (zd (Au "let") (zd (Au "z") (zd (Au "sub") (zd (zI (zd (zI (zd (Au "of") (zd (Au "x") zj))) (zd (zI (zd (Au "of") (zd (Au "f") zj))) zj))) zj))))) zj)))) (zw (yd (mB (zc 1))
  (zw (uf (zc 2) (At 0) (zI (zd (Au "let") (zd (Au "f") (zd (Au "field") (zd (zI (zd (zI (zd (Au "of") (zd (Au "i") zj))) (zd (zI (zd (Au "is") (zd (zc 0) zj))) zj))) zj))))))
  (zO 2 (zk yh (jg (zd (zI (zd (Au "let") (zd (Au "i") (zd (Au "item") (zd (zI (zd (zI (zd (Au "of") (zd (Au "r") zj))) (zd (zI (zd (Au "is") (zd (At 1) zj))) zj))) zj))))) zj)) (zc 2))))
  yi) (z0 (zI (zd (Au "other") (zd (zI (zd (Au "r") (zd (Au "x") zj))) (zd (zI (zd (zt ji (zd (zc 2) zj)) (zd (zI (zd (Au "give") (zd (zI (zd (Au "of") (zd (Au "z") zj))) zj))) zj))) zj))))))
def By:An:=zX 2 3 (TM)
def zsR (T:Txt w K mg):bG P w K mg base "_law_other" 1 By:=T.f__law_other.ok (k:=0) zf2 λ_ _ _ _ _ _ _ hr=>by
 exact "x i2 djz k F k B k B k B k F k F k B k B p k F k B k G p p p k F k B k B k B k F k F k B k B p k F k B k B p p p p czf2.nd x m dj5 O x"
 refine RW ?_ ?_ ?_
 exact "Z v F k B k B k B k F k F k B k B p k F k B k G p p p y i2 5 djz k F k B k B k B k F k F k B k B p k F k B k v p p p p Z czf2.nd R y L F k B k F k B k B p k F k r k Z p k F k B k F k B k B p p p p"
def zf4:af ["program", "functions", "function"] ["program"] (zL Gz):=by exact "8"
def TQ:Ak :=
  zw (zO 1 iL) (zw (yS (yJ (zc 0)) (gN 2)
  (je (zc 1) (zk zp (zc 2) (At 0)) (zc 2))) (z0 (zc 1)))
def rz:An:=zX 1 3 (TQ)
def zf5 (T:Txt w K mg):bG P w K mg base "functions_by_name" 1 rz:=T.f_functions_by_name.ok (k:=0) zf4 λ_ _ _ _ _ _ _ hr=>by
 exact "x i1 czaW czf4.nd x q djs G"
 exact (wA 2 zf4.nd)
 exact "y wwV D O f h Z v g Z 1 y L O"
def zf6:af ["names", "marks", "name"] ["names"] (zL GA):=by exact "8"
def TU:Ak :=
  zw (zO 1 iL) (zw (yS (yJ (zc 0)) (gN 2)
  (wW (zc 1) (zc 2) (mC (.bl true)))) (z0 (zc 1)))
def iO:An:=zX 1 3 (TU)
def zbZ (T:Txt w K mg):bG P w K mg base "marked" 1 iO:=T.f_marked.ok (k:=0) zf6 λ_ _ _ _ _ _ _ hr=>by
 exact "x i1 czaW czf6.nd x q djs G"
 exact (wA 2 zf6.nd)
 exact "y wzdO D O Z czdm 1 y L O"
def TV:af ["bits", "place"] ["bits", "place"] (zL GB):=by exact "8"
def TY:Ak :=
  (z0 (zk yx (zk AQ (zk AU (zc 0) (zc 1)) (At 1)) (At 1)))
def mi:An:=zX 2 2 (TY)
def zf7 (T:Txt w K mg):bG P w K mg base "is_later_at" 1 mi:=T.f_is_later_at.ok (k:=0) TV λ_ _ _ _ _ _ _ hr=>by
 exact "y L Jjr jzqP jzqR G O v v"
def TZ:af ["function", "bits"] ["function", "bits"] (zL zfO):=by exact "8"
def T8:Ak :=
  (z0 (zt ji (zd (rj (zd (zk zp (zc 0) (At 1)) zj) (mB (zt mi (zd (zc 3) (zd (zc 0) zj)))) (zc 1)) zj)))
def pj:An:=zX 2 2 (T8)
def zdZ (T:Txt w K mg):bG P w K mg base "later_params" 2 pj:=T.f_later_params.ok (k:=1) TZ λ_ _ _ _ _ _ _ hr=>by
 exact "y L r k zzfO k f h G v g p A dj5 Kzf7 k 7 k G p A O p"
def zd0:af ["block", "end", "lines"] ["block"] (zL GC):=by exact "8"
def T9 (mr:An):Ak :=
  zw (zO 1 (zk zp (zc 0) (At 1))) (zw (zO 2 (zk yh (zk zp (zc 0) (At 0)) (zI (zd (zc 1) zj)))) (zw (yd (mB (zk yx (zk zp (zc 1) (At 0)) (Au "if")))
  yK
  yi) (z0 (zc 2))))
def Bz (mr:An):An:=zX 1 3 (T9 mr)
def T_ (T:Txt w K mg) {k:Nat} (hk:1<=k) {mr:An} (rq:bG P w K mg base "lines_of" k mr):bG P w K mg base "lines_of" (k+1) (Bz mr):=T.f_lines_of.ok (k:=k+0) zd0 λ_ _ _ _ _ _ _ hr=>by
 exact "x i1 f h G v g czd0.nd x i2 5 f h G v g F k O p czd0.nd x m njr f h O v g B y Y R y L Z"
def mj:Nat->An
 |0=>zX 1 3 yK
 |n+1=>Bz (mj n)
theorem Hq (T:Txt w K mg):∀n,bG P w K mg base "lines_of" (1+1+1*n) (mj n)
 |0=>T.f_lines_of.ok (k:=1) zd0 λf bh A outer s H E hr=>A4
 |n+1=>(T_ T (by omega) (Hq T n)).mono (by omega)
def zd2:af ["truths", "bits", "place", "truth"] ["truths"] (zL GD):=by exact "8"
def Hs:Ak :=
  (z0 (zc 1))
def Ht:Ak :=
  zw (l7 (zd (zc 0) zj) (g2 2 3)
  (yd (mB (zc 3))
  (zO 1 (zk nA (zc 1) (zk AR (At 1) (zc 2))))
  yi)) (Hs)
def Hu:Ak :=
  zw (zO 1 (At 0)) (Ht)
def rA:An:=zX 1 4 (Hu)
def zj4 (T:Txt w K mg):bG P w K mg base "bits_of" 1 rA:=T.f_bits_of.ok (k:=0) zd2 λ_ _ _ _ _ _ _ hr=>by
 exact "x i1 v czd2.nd x N k G p"
 exact (qE 2 3 rfl zd2.nd)
 exact "y m dj5 7 y i1 jzfw O jzqQ v Z czd2.nd R y L O"
def Ua:af ["atoms", "later"] ["atoms", "later"] (zL zfP):=by exact "8"
def Ub:Ak :=
  (z0 (zt rA (zd (jk (yJ (zc 0)) (nq (zk yx (zk zp (zc 0) (At 0)) (Au "of")) (zk (yq false) (zk zp (zc 0) (At 1)) (zc 2)))) zj)))
def kT:An:=zX 2 2 (Ub)
def zd3 (T:Txt w K mg):bG P w K mg base "need" 2 kT:=T.f_need.ok (k:=1) Ua λ_ _ _ _ _ _ _ hr=>by
 exact "y L ezj4 k"
 refine nB (N:=["atoms", "later"]) rfl (by exact "9zfP") rfl (by decide +kernel) ?_ ?_
 exact "djs G A azpq Jjr f h G v g B dzpp Jzcy f h G v g Z p"
def Uc:af ["line"] ["line"] (zL GF):=by exact "8"
def Ud:Ak :=
  (z0 (zk (yq false) (zk zp (zc 0) (At 0)) (zI (zd (Au "let") (zd (Au "call") zj)))))
def kU:An:=zX 1 1 (Ud)
def zj5 (T:Txt w K mg):bG P w K mg base "is_step" 1 kU:=T.f_is_step.ok (k:=0) Uc λ_ _ _ _ _ _ _ hr=>by
 exact "y L Jzcy f h G v g F k B k B p"
def Ue:af ["line"] ["line"] (zL GG):=by exact "8"
def Ug:Ak :=
  zw (yd (mB (zt kU (zd (zc 0) zj)))
  (z0 (zk zp (zc 0) (At 3)))
  yi) (zw yK (zw yK (yK)))
def nK:An:=zX 1 1 (Ug)
def zj6 (T:Txt w K mg):bG P w K mg base "atoms_of" 2 nK:=T.f_atoms_of.ok (k:=1) Ue λ_ _ _ _ _ _ _ hr=>by
 exact "x m dj5 ezj5 k G p y L f h G v g R x Y x Y y Y"
def Uh:af ["line", "later"] ["line", "later"] (zL GH):=by exact "8"
def Ui:Ak :=
  zw (yd (jN (mB (zk yx (zk zp (zc 0) (At 0)) (Au "let"))) (jN (mB (zk jY (zt kT (zd (zt nK (zd (zc 0) zj)) (zd (zc 1) zj))) (At 0))) (mB (zk (yq true) (zk zp (zc 0) (At 1)) (zc 1)))))
  yK
  yi) (zw (yd (jN (mB (zk yx (zk zp (zc 0) (At 0)) (Au "call"))) (mB (zk (yq true) (zk zp (zc 0) (At 1)) (zc 1))))
  yK
  yi) (z0 (mC .non)))
def pv:An:=zX 2 2 (Ui)
def zs8 (T:Txt w K mg):bG P w K mg base "broken_name" 3 pv:=T.f_broken_name.ok (k:=2) Uh λ_ _ _ _ _ _ _ hr=>by
 exact "x m dzbK azbJ njr f h G v g B azbJ nzct ezd3 k ezj6 k G p k O p v dzcp nzbO f h G v g O y Y R x m dzbK azbJ njr f h G v g B dzcp nzbO f h G v g O y Y R y L cwF"
def Uj:af ["line"] ["line"] (zL GI):=by exact "8"
def Uk:Ak :=
  zw (yd (mB (zk yx (zk zp (zc 0) (At 0)) (Au "call")))
  (z0 (zI (zd (zk zp (zc 0) (At 2)) (zd (zk zp (zc 0) (At 3)) zj))))
  yi) (zw (yd (mB (zk yx (zk zp (zc 0) (At 0)) (Au "go")))
  yK
  yi) (z0 (mC .non)))
def wY:An:=zX 1 1 (Uk)
def zf9 (T:Txt w K mg):bG P w K mg base "aim_of" 1 wY:=T.f_aim_of.ok (k:=0) Uj λ_ _ _ _ _ _ _ hr=>by
 exact "x m njr f h G v g B y L F k f h G v g k f h G v g p R x m njr f h G v g B y Y R y L cwF"
def Ul:af ["aim", "goal", "later", "pairs"] ["aim", "goal", "later", "pairs"] (zL GJ):=by exact "8"
def Um:Ak :=
  zw (yd (mB (zk jY (zk nA (zt kT (zd (zk (aW zp) (zc 0) (At 1)) (zd (zc 2) zj))) (zc 1)) (zc 1)))
  yK
  yi) (zw (yd (mB (zk (cy (yq true) true) (zI (zd (zk (aW zp) (zc 0) (At 0)) (zd (zc 1) zj))) (zc 3)))
  yK
  yi) (z0 (mC .non)))
def uB:An:=zX 4 4 (Um)
def ztd (T:Txt w K mg):bG P w K mg base "broken_aim" 3 uB:=T.f_broken_aim.ok (k:=2) Ul λ_ _ _ _ _ _ _ hr=>by
 exact "x m nzct jzfw ezd3 k f l G v g k Z p O O y Y R x m Q F k f l G v g k O p 7 y Y R y L cwF"
def za4:af ["function", "form", "pairs", "later", "place", "line", "word", "aim"] ["function", "form", "pairs"] (zL GK):=by exact "8"
def Uo:Ak :=
  zw (zO 3 (zt iO (zd (zk yh (zt pj (zd (zc 0) (zd (zk zp (zc 1) (At 1)) zj))) (zk zp (zc 1) (At 2))) zj))) (zw (zO 4 (At 0)) (zw (yS (yJ (zt (mj 2) (zd (zk zp (zc 0) (At 2)) zj))) (gN 5)
  (zw (zO 6 (zt pv (zd (zc 5) (zd (zc 3) zj))))
  (zw (yd (mB (zk wn (zc 6) (mC .non)))
  yK
  yi)
  (zw (zO 7 (zt wY (zd (zc 5) zj)))
  (yd (mB (zk wn (zc 7) (mC .non)))
  (zw (zO 6 (zt uB (zd (zc 7) (zd (zk zp (zk zp (zc 1) (At 3)) (zc 4)) (zd (zc 3) (zd (zc 2) zj))))))
  (zw (yd (mB (zk wn (zc 6) (mC .non)))
  yK
  yi)
  (wT 4 dU (At 1))))
  yi))))) (z0 (mC .non))))
def BA:An:=zX 3 8 (Uo)
def ztf (T:Txt w K mg):bG P w K mg base "broken_form" 5 BA:=T.f_broken_form.ok (k:=4) za4 λ_ _ _ _ _ _ _ hr=>by
 exact "x i3 ezbZ k 5 ezdZ k G k f h O v g p f h O v g p cza4.nd x i4 v cza4.nd x q djs P k f h G v g p"
 exact (wA 5 za4.nd)
 exact "x i6 ezs8 k b5 k 7 p cza4.nd x m Ezbl b6 cwF y Y R x i7 ezf9 k b5 p cza4.nd y m Ezbl b7 cwF x i6 eztd k b7 k f h f h O v g b4 g k 7 k Z p cza4.nd x m Ezbl b6 cwF y Y R y"
 refine AA 4 Az ?_ za4.nd
 exact "v R y L cwF"
def zcO:af ["program", "parting", "functions", "pairs", "form", "row"] ["program", "parting"] (zL zfQ):=by exact "8"
def Up:Ak :=
  zw (zO 2 (zt rz (zd (zc 0) zj))) (zw (zO 3 (zt iO (zd (jk (yJ (zc 1)) (zI (zd (zk zp (zc 0) (At 0)) (zd (zk zp (zc 0) (At 1)) zj)))) zj))) (zw (yS (yJ (zc 1)) (gN 4)
  (zw (zO 5 (zt BA (zd (zk zp (zc 2) (zk zp (zc 4) (At 0))) (zd (zc 4) (zd (zc 3) zj)))))
  (yd (mB (zk wn (zc 5) (mC .non)))
  yK
  yi))) (z0 (mC .non))))
def uC:An:=zX 2 6 (Up)
def zth (T:Txt w K mg):bG P w K mg base "broken" 6 uC:=T.f_broken.ok (k:=5) zcO λ_ _ _ _ _ _ _ hr=>by
 exact "x i2 ezf5 k G p czcO.nd x i3 ezbZ k"
 refine Fb (M:=["program", "parting", "functions", "pairs", "~form", "row"]) rfl (by exact "9zfQ") (by exact ⟨rfl,by show ∀p∈List.zip (["program", "parting", "functions", "pairs", "~form", "row"]:Ae) (["program", "parting", "functions", "pairs", "form", "row"]:Ae),p.1=p.2\/p.1∉(_:Ae);decide +kernel⟩) (by decide +kernel) ?_ ?_
 exact "djs O A F k f h G v g k f h G v g p p czcO.nd x q djs O"
 exact (wA 4 zcO.nd)
 exact "x i5 eztf k f h Z f h b4 v g g k b4 k 7 p czcO.nd y m Ezbl b5 cwF y Y R y L cwF"
def zgb:af ["parting", "forms", "form"] ["parting"] (zL GL):=by exact "8"
def Uq:Ak :=
  zw (zO 1 iL) (zw (yS (yJ (zc 0)) (gN 2)
  (wW (zc 1) (zI (zd (zk (aW zp) (zc 2) (At 0)) (zd (zk (aW zp) (zc 2) (At 1)) zj))) (zc 2))) (z0 (zc 1)))
def BB:An:=zX 1 3 (Uq)
def ztj (T:Txt w K mg):bG P w K mg base "forms_by_pair" 1 BB:=T.f_forms_by_pair.ok (k:=0) zgb λ_ _ _ _ _ _ _ hr=>by
 exact "x i1 czaW czgb.nd x q djs G"
 exact (wA 2 zgb.nd)
 exact "y wzdO D O F k f l Z v g k f l Z v g p Z 1 y L O"
def Ur:af ["self", "limit"] ["self", "limit"] (zL GN):=by exact "8"
def Us:Ak :=
  zw (sFld "limit" insOf (zc 0) (zc 1)) (zw (sFld "met" insOf (zc 0) (jg zj)) (sFld "names" insOf (zc 0) iL))
def rB:An:=zX 2 2 (Us)
def ztm (T:Txt w K mg):kJ P w K mg base "KeyRing" 1 rB:=T.n_KeyRing.ok (k:=0) Ur λ_ _ _ _ _ _ _ hr=>by
 exact "x CT.d_limit G O x CT.d_met G djz p y CT.d_names G czaW"
def Ut:af ["value"] ["value"] (zL GO):=by exact "8"
def Uu:Ak :=
  zw (yd (mB (zt kS (zd (zc 0) (zd (mC (.ty "str")) zj))))
  (z0 (Au "word"))
  yi) (zw (yd (mB (zt kS (zd (zc 0) (zd (mC (.ty "tuple")) zj))))
  (z0 (Au "row"))
  yi) (zw (yd (mB (zt kS (zd (zc 0) (zd (mC (.ty "dict")) zj))))
  (z0 (Au "record"))
  yi) (z0 (Au "number"))))
def kW:An:=zX 1 1 (Uu)
def zj7 (T:Txt w K mg):bG P w K mg base "kind_of" 1 kW:=T.f_kind_of.ok (k:=0) Ut λ_ _ _ _ _ _ _ hr=>by
 exact "x m dj5 I k G k"
 exact (qC T.b_str EF)
 exact "p y L B R x m dj5 I k G k"
 exact (qC T.b_tuple jB)
 exact "p y L B R x m dj5 I k G k"
 exact (qC T.b_dict AE)
 exact "p y L B R y L B"
def zd6:af ["value", "kind", "shown"] ["value"] (zL zdS):=by exact "8"
def Uv (mr:An):Ak :=
  zw (zO 1 (zt kW (zd (zc 0) zj))) (zw (yd (mB (zk yx (zc 1) (Au "number")))
  (z0 (zt jR (zd (zc 0) zj)))
  yi) (zw (yd (mB (zk yx (zc 1) (Au "word")))
  yK
  yi) (zw (yd (mB (zk yx (zc 1) (Au "row")))
  (z0 (zk yh (zk yh (Au "[") (q8 (Au ",") (jk (yJ (zc 0)) (zt mr (zd (zc 0) zj))))) (Au "]")))
  yi) (zw (zO 2 (jk (yJ (zt o_ (zd (zc 0) zj))) (zk yh (zk yh (zc 0) (Au ":")) (zt mr (zd (zk zp (zc 1) (zc 0)) zj))))) (z0 (zk yh (zk yh (Au "{") (q8 (Au ",") (zc 2))) (Au "}")))))))
def rD (mr:An):An:=zX 1 3 (Uv mr)
def Uw (T:Txt w K mg) {k:Nat} (hk:1<=k) {mr:An} (rq:bG P w K mg base "show_value" k mr):bG P w K mg base "show_value" (k+1) (rD mr):=T.f_show_value.ok (k:=k+0) zd6 λ_ _ _ _ _ _ _ hr=>by
 exact "x i1 4zj7 k G p czd6.nd x m njr O B y L H k G p R x m njr O B y Y R x m njr O B y L 5 5 B aziX B"
 refine nB (N:=["value", "kind", "shown"]) rfl (by exact "9zdS") rfl (by decide +kernel) ?_ ?_
 exact "djs G A 3 k G p B R x"
 refine FT 2 (N:=["value", "kind", "shown"]) rfl (by exact "9zdS") rfl (by decide +kernel) ?_ ?_ zd6.nd rfl (by exact "$") (by exact "%") (by rfl)
 exact "djs"
 refine jA (SA rfl) T.b_sorted Sz ?_
 exact "k G p A 5 5 G B 3 k f h O G g p y L 5 5 B aziX B Z B"
def jZ:Nat->An
 |0=>zX 1 3 yK
 |n+1=>rD (jZ n)
theorem Hv (T:Txt w K mg):∀n,bG P w K mg base "show_value" (1+1+1*n) (jZ n)
 |0=>T.f_show_value.ok (k:=1) zd6 λf bh A outer s H E hr=>A4
 |n+1=>(Uw T (by omega) (Hv T n)).mono (by omega)
def zgd:af ["self", "key", "shown", "number"] ["self", "key"] (zL GP):=by exact "8"
def Hw:Ak :=
  zw (yd (mB (zk (cy (yq true) true) (zc 2) (yc (aX "names" insOf excOf) (zc 0))))
  (zw (zO 3 (zt yD (zd (yc (aX "met" insOf excOf) (zc 0)) zj)))
  (zw (yd (mB (zk yx (zc 3) (yc (aX "limit" insOf excOf) (zc 0))))
  yK
  yi)
  (zw (yH (yC yM (yc (aX "met" insOf excOf) (zc 0)) (zc 1)))
  (wW (yc (aX "names" insOf excOf) (zc 0)) (zc 2) (yc (Bv "q") (zc 3))))))
  yi) (z0 (zk (aW zp) (yc (aX "names" insOf excOf) (zc 0)) (zc 2)))
def Hx:Ak :=
  zw (zO 2 (zI (zd (zk (aW zp) (zc 1) (At 0)) (zd (zk (aW zp) (zc 1) (At 1)) (zd (zt (jZ 5) (zd (zk (aW zp) (zc 1) (At 2)) zj)) zj))))) (Hw)
def m_KeyRing_name_for:An:=zX 2 4 (Hx)
def Ux (T:Txt w K mg):cm P w K mg base "KeyRing" "name_for" 8 m_KeyRing_name_for:=T.m_KeyRing_name_for.ok (k:=7) zgd λ_ _ _ _ _ _ _ hr=>by
 exact "x i2 F k f l O v g k f l O v g k"
 refine zV (Hv T 5) (hr.mono (by decide)) zN ?_
 exact "k f l O v g p p czgd.nd x m Q Z sT.d_names G x i3 u k sT.d_met G p czgd.nd x m njr 7 sT.d_limit G y Y R x djP aj7 sT.d_met G O y wzdO D sT.d_names G Z dzsx 7 1 R y L f l sT.d_names G Z g"
def rE (c:Str):Option (An):=if c = "KeyRing" then some m_KeyRing_name_for else none
def zge (T:Txt w K mg) {c:Str} {m:An} (h:rE c=some m):cm P w K mg base c "name_for" 8 m:=by
 unfold rE at h
 by_cases e0:c = "KeyRing"
 ·rw [zx e0] at h;cases h;rw [e0];exact (Ux T).mono (by decide)
 rw [zK e0] at h
 cases h
def Uy:af ["function", "bits"] ["function", "bits"] (zL zfR):=by exact "8"
def Uz:Ak :=
  (z0 (zt ji (zd (rj (zd (zk zp (zc 0) (At 1)) zj) (kG (mB (zt mi (zd (zc 3) (zd (zc 0) zj))))) (zc 1)) zj)))
def BC:An:=zX 2 2 (Uz)
def ztu (T:Txt w K mg):bG P w K mg base "known_params" 2 BC:=T.f_known_params.ok (k:=1) Uy λ_ _ _ _ _ _ _ hr=>by
 exact "y L r k zzfR k f h G v g p A dze5 dj5 Kzf7 k 7 k G p A O p"
def UA:af ["self", "value"] ["self", "value"] (zL GQ):=by exact "8"
def UB:Ak :=
  (sFld "value" insOf (zc 0) (zc 1))
def kX:An:=zX 2 2 (UB)
def zgg (T:Txt w K mg):kJ P w K mg base "Known" 1 kX:=T.n_Known.ok (k:=0) UA λ_ _ _ _ _ _ _ hr=>by
 exact "y CT.d_value G O"
def UC:af ["self", "name"] ["self", "name"] (zL GR):=by exact "8"
def UD:Ak :=
  (sFld "name" insOf (zc 0) (zc 1))
def iP:An:=zX 2 2 (UD)
def zgh (T:Txt w K mg):kJ P w K mg base "Later" 1 iP:=T.n_Later.ok (k:=0) UC λ_ _ _ _ _ _ _ hr=>by
 exact "y CT.d_name G O"
def BD:af ["self", "ring", "function", "form", "values", "param", "value"] ["self", "ring", "function", "form", "values"] (zL GS):=by exact "8"
def UE:Ak :=
  zw (sFld "ring" insOf (zc 0) (zc 1)) (zw (sFld "later" insOf (zc 0) (zt iO (zd (zk zp (zc 3) (At 2)) zj))) (zw (sFld "goals" insOf (zc 0) (zk zp (zc 3) (At 3))) (zw (sFld "things" insOf (zc 0) iL) (zw (yS (oU (zd (zt BC (zd (zc 2) (zd (zk zp (zc 3) (At 1)) zj))) (zd (zc 4) zj))) (g2 5 6)
  (je (yc (aX "things" insOf excOf) (zc 0)) (zc 5) (zt (bZ "Known" kX) (zd (zc 6) zj)))) (yS (yJ (zt pj (zd (zc 2) (zd (zk zp (zc 3) (At 1)) zj)))) (gN 5)
  (je (yc (aX "things" insOf excOf) (zc 0)) (zc 5) (zt (bZ "Later" iP) (zd (zc 5) zj))))))))
def rF:An:=zX 5 7 (UE)
def ztA (T:Txt w K mg):kJ P w K mg base "Making" 3 rF:=T.n_Making.ok (k:=2) BD λ_ _ _ _ _ _ _ hr=>by
 exact "x CT.d_ring G O x CT.d_later G ezbZ k f h 7 v g p x CT.d_goals G f h 7 v g x CT.d_things G czaW x q 2 k eztu k Z k f h 7 v g p k b4 p"
 exact (qE 5 6 rfl BD.nd)
 exact "y wwV D W G b5 tzgg k b6 p 1 y q djs ezdZ k Z k f h 7 v g p"
 exact (wA 5 BD.nd)
 exact "y wwV D W G b5 tzgh k b5 p 1"
def UG:af ["atom", "things"] ["atom", "things"] (zL GU):=by exact "8"
def UH:Ak :=
  zw (yd (mB (zk yx (zk zp (zc 0) (At 0)) (Au "is")))
  (z0 (zt (bZ "Known" kX) (zd (zk zp (zc 0) (At 1)) zj)))
  yi) (z0 (zk zp (zc 1) (zk zp (zc 0) (At 1))))
def rG:An:=zX 2 2 (UH)
def zkb (T:Txt w K mg):bG P w K mg base "thing_of" 3 rG:=T.f_thing_of.ok (k:=2) UG λ_ _ _ _ _ _ _ hr=>by
 exact "x m njr f h G v g B y L tzgg k f h G v g p R y L f h O f h G v g g"
def UI:af ["self", "atoms"] ["self", "atoms"] (zL zfS):=by exact "8"
def UJ:Ak :=
  (z0 (jk (yJ (zc 1)) (zt rG (zd (zc 0) (zd (yc (aX "things" insOf excOf) (zc 1)) zj)))))
def m_Making_things_at:An:=zX 2 2 (UJ)
def UK (T:Txt w K mg):cm P w K mg base "Making" "things_at" 4 m_Making_things_at:=T.m_Making_things_at.ok (k:=3) UI λ_ _ _ _ _ _ _ hr=>by
 exact "y L"
 refine nB (N:=["self", "atoms"]) rfl (by exact "9zfS") rfl (by decide +kernel) ?_ ?_
 exact "djs O A Kzkb k G k W O p"
def pz (c:Str):Option (An):=if c = "Making" then some m_Making_things_at else none
def zgj (T:Txt w K mg) {c:Str} {m:An} (h:pz c=some m):cm P w K mg base c "things_at" 4 m:=by
 unfold pz at h
 by_cases e0:c = "Making"
 ·rw [zx e0] at h;cases h;rw [e0];exact (UK T).mono (by decide)
 rw [zK e0] at h
 cases h
def UL:af ["self"] ["self"] (zL GV):=by exact "8"
def UM:Ak :=
  (z0 (zI (zd (Au "is") (zd (yc (aX "value" insOf excOf) (zc 0)) zj))))
def m_Known_atom:An:=zX 1 1 (UM)
def UN (T:Txt w K mg):cm P w K mg base "Known" "atom" 1 m_Known_atom:=T.m_Known_atom.ok (k:=0) UL λ_ _ _ _ _ _ _ hr=>by
 exact "y L F k B k sT.d_value G p"
def UO:af ["self"] ["self"] (zL GW):=by exact "8"
def UP:Ak :=
  (z0 (zI (zd (Au "of") (zd (yc (aX "name" insOf excOf) (zc 0)) zj))))
def m_Later_atom:An:=zX 1 1 (UP)
def UQ (T:Txt w K mg):cm P w K mg base "Later" "atom" 1 m_Later_atom:=T.m_Later_atom.ok (k:=0) UO λ_ _ _ _ _ _ _ hr=>by
 exact "y L F k B k sT.d_name G p"
def iQ (c:Str):Option (An):=if c = "Known" then some m_Known_atom else if c = "Later" then some m_Later_atom else none
def Hr (T:Txt w K mg) {c:Str} {m:An} (h:iQ c=some m):cm P w K mg base c "atom" 1 m:=by
 unfold iQ at h
 by_cases e0:c = "Known"
 ·rw [zx e0] at h;cases h;rw [e0];exact (UN T).mono (by decide)
 rw [zK e0] at h
 by_cases e1:c = "Later"
 ·rw [zx e1] at h;cases h;rw [e1];exact (UQ T).mono (by decide)
 rw [zK e1] at h
 cases h
def zd7:af ["self", "name", "atoms", "goal", "values", "left", "place", "thing"] ["self", "name", "atoms", "goal"] (zL GX):=by exact "8"
def UR:Ak :=
  zw (zO 4 (jg zj)) (zw (zO 5 (jg zj)) (zw (l7 (zd (yF "things_at" pz (zc 0) (zd (zc 2) zj)) zj) (g2 6 7)
  (yd (mB (zt mi (zd (zc 3) (zd (zc 6) zj))))
  (yH (yC yM (zc 5) (yF "atom" iQ (zc 7) zj)))
  (yH (yC yM (zc 4) (yc (aX "value" insOf excOf) (zc 7)))))) (z0 (zI (zd (yF "name_for" rE (yc (aX "ring" insOf excOf) (zc 0)) (zd (zI (zd (zc 1) (zd (zc 3) (zd (zt ji (zd (zc 4) zj)) zj)))) zj)) (zd (zt ji (zd (zc 5) zj)) zj))))))
def m_Making_left_aim:An:=zX 4 8 (UR)
def US (T:Txt w K mg):cm P w K mg base "Making" "left_aim" 9 m_Making_left_aim:=T.m_Making_left_aim.ok (k:=8) zd7 λ_ _ _ _ _ _ _ hr=>by
 exact "x i4 djz p czd7.nd x i5 djz p czd7.nd x N k ozgj G k Z p p"
 exact (qE 6 7 rfl zd7.nd)
 exact "y m dj5 ezf7 k 7 k b6 p y djP aj7 b5 UzN b7 y djP aj7 b4 sT.d_value b7 y L F k ozge sT.d_ring G k F k O k 7 k r k b4 p p p k r k b5 p p"
def BE (c:Str):Option (An):=if c = "Making" then some m_Making_left_aim else none
def ztO (T:Txt w K mg) {c:Str} {m:An} (h:BE c=some m):cm P w K mg base c "left_aim" 9 m:=by
 unfold BE at h
 by_cases e0:c = "Making"
 ·rw [zx e0] at h;cases h;rw [e0];exact (US T).mono (by decide)
 rw [zK e0] at h
 cases h
def zkc:af ["self", "step", "place", "aim"] ["self", "step", "place"] (zL GY):=by exact "8"
def UT:Ak :=
  zw (zO 3 (yF "left_aim" BE (zc 0) (zd (zk zp (zc 1) (At 2)) (zd (zk zp (zc 1) (At 3)) (zd (zk zp (yc (aX "goals" insOf excOf) (zc 0)) (zc 2)) zj))))) (zw (je (yc (aX "things" insOf excOf) (zc 0)) (zk zp (zc 1) (At 1)) (zt (bZ "Later" iP) (zd (zk zp (zc 1) (At 1)) zj))) (z0 (zI (zd (Au "call") (zd (zk zp (zc 1) (At 1)) (zd (zk zp (zc 3) (At 0)) (zd (zk zp (zc 3) (At 1)) zj)))))))
def m_Making_left_call:An:=zX 3 4 (UT)
def UU (T:Txt w K mg):cm P w K mg base "Making" "left_call" 10 m_Making_left_call:=T.m_Making_left_call.ok (k:=9) zkc λ_ _ _ _ _ _ _ hr=>by
 exact "x i3 oztO G k f h O v g k f h O v g k f h sT.d_goals G Z g p czkc.nd x wwV D W G f h O v g tzgh k f h O v g p 1 y L F k B k f h O v g k f h 7 v g k f h 7 v g p"
def uD (c:Str):Option (An):=if c = "Making" then some m_Making_left_call else none
def ztR (T:Txt w K mg) {c:Str} {m:An} (h:uD c=some m):cm P w K mg base c "left_call" 10 m:=by
 unfold uD at h
 by_cases e0:c = "Making"
 ·rw [zx e0] at h;cases h;rw [e0];exact (UU T).mono (by decide)
 rw [zK e0] at h
 cases h
def zkd:af ["self", "step", "atoms"] ["self", "step"] (zL zfT):=by exact "8"
def UW:Ak :=
  zw (zO 2 (zt ji (zd (jk (yJ (yF "things_at" pz (zc 0) (zd (zk zp (zc 1) (At 3)) zj))) (yF "atom" iQ (zc 0) zj)) zj))) (zw (je (yc (aX "things" insOf excOf) (zc 0)) (zk zp (zc 1) (At 1)) (zt (bZ "Later" iP) (zd (zk zp (zc 1) (At 1)) zj))) (z0 (zI (zd (Au "let") (zd (zk zp (zc 1) (At 1)) (zd (zk zp (zc 1) (At 2)) (zd (zc 2) zj)))))))
def m_Making_left_let:An:=zX 2 3 (UW)
def UX (T:Txt w K mg):cm P w K mg base "Making" "left_let" 5 m_Making_left_let:=T.m_Making_left_let.ok (k:=4) zkd λ_ _ _ _ _ _ _ hr=>by
 exact "x i2 r k"
 refine nB (N:=["self", "step", "atoms"]) rfl (by exact "9zfT") rfl (by decide +kernel) ?_ ?_
 exact "djs ozgj G k f h O v g p A UzaE G p czkd.nd x wwV D W G f h O v g tzgh k f h O v g p 1 y L F k B k f h O v g k f h O v g k Z p"
def uE (c:Str):Option (An):=if c = "Making" then some m_Making_left_let else none
def ztU (T:Txt w K mg) {c:Str} {m:An} (h:uE c=some m):cm P w K mg base c "left_let" 5 m:=by
 unfold uE at h
 by_cases e0:c = "Making"
 ·rw [zx e0] at h;cases h;rw [e0];exact (UX T).mono (by decide)
 rw [zK e0] at h
 cases h
def Hy:af ["kinds", "values", "kind", "value"] ["kinds", "values"] (zL GZ):=by exact "8"
def UY:Ak :=
  (yS (oU (zd (zc 0) (zd (zc 1) zj))) (g2 2 3)
  (yd (jN (mB (zk jY (zc 2) (Au "any"))) (mB (zk jY (zc 2) (zt kW (zd (zc 3) zj)))))
  yK
  yi))
def pA:An:=zX 2 4 (UY)
def ztW (T:Txt w K mg):bG P w K mg base "check_kinds" 2 pA:=T.f_check_kinds.ok (k:=1) Hy λ_ _ _ _ _ _ _ hr=>by
 exact "y q 2 k G k O p"
 exact (qE 2 3 rfl Hy.nd)
 exact "y m dzbK azbJ nzct Z B dzcp nzct Z ezj7 k 7 p y Y R"
def UZ:af ["row", "number"] ["row", "number"] (zL G0):=by exact "8"
def U0:Ak :=
  zw (yd (kG (mB (tD oLe wS (At 0) (zc 1) (zt yD (zd (zc 0) zj)))))
  yK
  yi) (z0 (zc 1))
def Hz:An:=zX 2 2 (U0)
def ztZ (T:Txt w K mg):bG P w K mg base "place_in" 1 Hz:=T.f_place_in.ok (k:=0) UZ λ_ _ _ _ _ _ _ hr=>by
 exact "x m dze5"
 refine Pa Pl zcs ?_ ?_ ?_
 exact "v O u k G p y Y R y L O"
def zkg:af ["values", "row"] ["values"] (zL G7):=by exact "8"
def U3:Ak :=
  zw (zO 1 (zk zp (zc 0) (At 0))) (z0 (zk zp (zc 1) (zt Hz (zd (zc 1) (zd (zk zp (zc 0) (At 1)) zj)))))
def BG:An:=zX 1 2 (U3)
def U4 (T:Txt w K mg):bG P w K mg base "tell_item" 2 BG:=T.f_tell_item.ok (k:=1) zkg λ_ _ _ _ _ _ _ hr=>by
 exact "x i1 f h G v g czkg.nd y L f h O eztZ k O k f h G v g p g"
def zkh:af ["values", "record"] ["values"] (zL G8):=by exact "8"
def U5:Ak :=
  zw (zO 1 (zk zp (zc 0) (At 0))) (zw (yd (mB (zk (yq true) (zk zp (zc 0) (At 1)) (zc 1)))
  yK
  yi) (z0 (zk zp (zc 1) (zk zp (zc 0) (At 1)))))
def uF:An:=zX 1 2 (U5)
def U6 (T:Txt w K mg):bG P w K mg base "tell_field" 1 uF:=T.f_tell_field.ok (k:=0) zkh λ_ _ _ _ _ _ _ hr=>by
 exact "x i1 f h G v g czkh.nd x m nzbO f h G v g O y Y R y L f h O f h G v g g"
def zki:af ["values", "record"] ["values"] (zL G9):=by exact "8"
def U7:Ak :=
  zw (zO 1 (zt ug (zd (zk zp (zc 0) (At 0)) zj))) (zw (je (zc 1) (zk zp (zc 0) (At 1)) (zk zp (zc 0) (At 2))) (z0 (zc 1)))
def uG:An:=zX 1 2 (U7)
def U8 (T:Txt w K mg):bG P w K mg base "tell_set" 1 uG:=T.f_tell_set.ok (k:=0) zki λ_ _ _ _ _ _ _ hr=>by
 exact "x i1"
 refine yX R7 T.b_dict AE ?_
 exact "k f h G v g p czki.nd x wwV D O f h G v g f h G v g 1 y L O"
def mm (y:Str):Option (An):=if y = "tell_item" then some BG else if y = "tell_field" then some uF else if y = "tell_set" then some uG else none
def U9 (T:Txt w K mg) {y:Str}{m:An}(h:mm y=some m):bG P w K mg base y 2 m:=by
 unfold mm at h
 by_cases e0:y = "tell_item"
 ·rw [zx e0] at h;cases h;rw [e0];exact (U4 T).mono (by decide)
 rw [zK e0] at h
 by_cases e1:y = "tell_field"
 ·rw [zx e1] at h;cases h;rw [e1];exact (U6 T).mono (by decide)
 rw [zK e1] at h
 by_cases e2:y = "tell_set"
 ·rw [zx e2] at h;cases h;rw [e2];exact (U8 T).mono (by decide)
 rw [zK e2] at h
 cases h
def U_:af ["thing"] ["thing"] (zL G_):=by exact "8"
def Va:Ak :=
  zw (yd (mB (zt kS (zd (zc 0) (zd (mC (.ty "tuple")) zj))))
  yK
  yi) (zw (yd (mB (zt kS (zd (zc 0) (zd (mC (.ty "dict")) zj))))
  (z0 (yc FN (zc 0)))
  yi) (z0 (jg zj)))
def rH:An:=zX 1 1 (Va)
def zue (T:Txt w K mg):bG P w K mg base "things_within" 1 rH:=T.f_things_within.ok (k:=0) U_ λ_ _ _ _ _ _ _ hr=>by
 exact "x m dj5 I k G k"
 exact (qC T.b_tuple jB)
 exact "p y Y R x m dj5 I k G k"
 exact (qC T.b_dict AE)
 exact "p y L"
 refine Rz rfl T.b_list ?_
 exact "G R y L djz p"
def zec:af ["thing", "found", "place"] ["thing"] (zL Ha):=by exact "8"
def Vb:Ak :=
  zw (zO 1 (jg (zd (zc 0) zj))) (zw (zO 2 (At 0)) (zw (tV (mB (zk wS (zc 2) (zt yD (zd (zc 1) zj))))
  (zw (yH (yC tX (zc 1) (zt rH (zd (zk zp (zc 1) (zc 2)) zj))))
  (wT 2 dU (At 1)))) (z0 (zc 1))))
def uH:An:=zX 1 3 (Vb)
def zug (T:Txt w K mg):bG P w K mg base "all_within" 2 uH:=T.f_all_within.ok (k:=1) zec λ_ _ _ _ _ _ _ hr=>by
 exact "x i1 djz k G p czec.nd x i2 v czec.nd x T Ezcs Z u k O p x djP azp7 O ezue k f h O Z g p y"
 refine AA 2 Az ?_ zec.nd
 exact "v y L O"
def Vc:af ["value"] ["value"] (zL Hb):=by exact "8"
def Vd:Ak :=
  (z0 (zt yD (zd (zt uH (zd (zc 0) zj)) zj)))
def rJ:An:=zX 1 1 (Vd)
def zuj (T:Txt w K mg):bG P w K mg base "parts" 3 rJ:=T.f_parts.ok (k:=2) Vc λ_ _ _ _ _ _ _ hr=>by
 exact "y L u k ezug k G p p"
def zgn:af ["self", "values", "tell", "told"] ["self", "values"] (zL Hc):=by exact "8"
def Ve:Ak :=
  zw (yH (zt pA (zd (zk zp (yc (fW wq wt) (yc (aX "word" insOf excOf) (zc 0))) (At 0)) (zd (zc 1) zj)))) (zw (zO 2 (zk zp (yc (fW wq wt) (yc (aX "word" insOf excOf) (zc 0))) (At 1))) (zw (zO 3 (tO mm (zc 2) (zd (zc 1) zj))) (zw (yd (mB (zk tI (zt rJ (zd (zc 3) zj)) (At 60)))
  yK
  yi) (z0 (zc 3)))))
def m_Op_answer:An:=zX 2 4 (Ve)
def Vf (T:Txt w K mg):cm P w K mg base "Op" "answer" 4 m_Op_answer:=T.m_Op_answer.ok (k:=3) zgn λ_ _ _ _ _ _ _ hr=>by
 exact "x djP eztW k f h Mzfk sT.d_word G v g k O p x i2 f h Mzfk sT.d_word G v g czgn.nd x i3"
 refine Py (λy m h=>U9 T h) ?_ (hr.mono (by decide)) zN ?_
 exact "Z k O p czgn.nd x m EzpD ezuj k 7 p"
 exact (Qc T.c_MOST_PARTS)
 exact "y Y R y L 7"
def BH (c:Str):Option (An):=if c = "Op" then some m_Op_answer else none
def zum (T:Txt w K mg) {c:Str} {m:An} (h:BH c=some m):cm P w K mg base c "answer" 4 m:=by
 unfold BH at h
 by_cases e0:c = "Op"
 ·rw [zx e0] at h;cases h;rw [e0];exact (Vf T).mono (by decide)
 rw [zK e0] at h
 cases h
def Vg:af ["self", "word"] ["self", "word"] (zL Hd):=by exact "8"
def uI:Ak :=
  (sFld "many" insOf (zc 0) (zt yD (zd (zk zp (yc (fW wq wt) (zc 1)) (At 0)) zj)))
def uJ:Ak :=
  zw (sFld "word" insOf (zc 0) (zc 1)) (uI)
def rK:An:=zX 2 2 (uJ)
def zuo (T:Txt w K mg):kJ P w K mg base "Op" 1 rK:=T.n_Op.ok (k:=0) Vg λ_ _ _ _ _ _ _ hr=>by
 exact "x CT.d_word G O y CT.d_many G u k f h Mzfk O v g p"
def Vh:af ["word"] ["word"] (zL He):=by exact "8"
def uK:Ak :=
  (z0 (zt (bZ "Op" rK) (zd (zc 0) zj)))
def uL:Ak :=
  zw (yd (mB (yc (lZ true wq wt zfX) (zc 0)))
  yK
  yi) (uK)
def kY:An:=zX 1 1 (uL)
def zuq (T:Txt w K mg):bG P w K mg base "op_of" 3 kY:=T.f_op_of.ok (k:=2) Vh λ_ _ _ _ _ _ _ hr=>by
 exact "x m Mzp6 G y Y R y L tzuo k G p"
def Vi:af ["self", "step"] ["self", "step"] (zL zfU):=by exact "8"
def Vj:Ak :=
  (z0 (yF "answer" BH (zt kY (zd (zk zp (zc 1) (At 2)) zj)) (zd (zt ji (zd (jk (yJ (yF "things_at" pz (zc 0) (zd (zk zp (zc 1) (At 3)) zj))) (yc (aX "value" insOf excOf) (zc 0))) zj)) zj)))
def m_Making_answer_ahead:An:=zX 2 2 (Vj)
def Vk (T:Txt w K mg):cm P w K mg base "Making" "answer_ahead" 5 m_Making_answer_ahead:=T.m_Making_answer_ahead.ok (k:=4) Vi λ_ _ _ _ _ _ _ hr=>by
 exact "y L ozum ezuq k f h O v g p k r k"
 refine nB (N:=["self", "step"]) rfl (by exact "9zfU") rfl (by decide +kernel) ?_ ?_
 exact "djs ozgj G k f h O v g p A sT.d_value G p p"
def uM (c:Str):Option (An):=if c = "Making" then some m_Making_answer_ahead else none
def Vl (T:Txt w K mg) {c:Str} {m:An} (h:uM c=some m):cm P w K mg base c "answer_ahead" 5 m:=by
 unfold uM at h
 by_cases e0:c = "Making"
 ·rw [zx e0] at h;cases h;rw [e0];exact (Vk T).mono (by decide)
 rw [zK e0] at h
 cases h
def zkj:af ["self", "end", "place", "thing", "first", "second"] ["self", "end", "place"] (zL Hf):=by exact "8"
def Vm (mr:An):Ak :=
  zw (yd (mB (zk yx (zk zp (zc 1) (At 0)) (Au "fail")))
  yK
  yi) (zw (yd (mB (zk yx (zk zp (zc 1) (At 0)) (Au "go")))
  yK
  yi) (zw (zO 3 (zt rG (zd (zk zp (zc 1) (At 1)) (zd (yc (aX "things" insOf excOf) (zc 0)) zj)))) (zw (yd (mB (zk yx (zk zp (zc 1) (At 0)) (Au "give")))
  (z0 (zI (zd (zI zj) (zd (zI (zd (Au "give") (zd (yF "atom" iQ (zc 3) zj) zj))) zj))))
  yi) (zw yK (zw yK (zw yK (yK)))))))
def m_Making_made_end (mr:An):An:=zX 3 6 (Vm mr)
def Vn (T:Txt w K mg) {k:Nat} (hk:10<=k) {mr:An} (rq:cm P w K mg base "Making" "made_block" k mr):cm P w K mg base "Making" "made_end" (k+1) (m_Making_made_end mr):=T.m_Making_made_end.ok (k:=k+0) zkj λ_ _ _ _ _ _ _ hr=>by
 exact "x m njr f h O v g B y Y R x m njr f h O v g B y Y R x i3 4zkb k f h O v g k W G p czkj.nd x m njr f h O v g B y L F k F p k F k B k"
 refine EB (λc m h=>Hr T h) ?_ (hr.mono (by omega)) zN
 exact "7 p p R x Y x Y x Y y Y"
def zb4:af ["self", "block", "place", "left", "step", "fault", "behind"] ["self", "block", "place"] (zL Hg):=by exact "8"
def Vo (mr:An):Ak :=
  zw (zO 3 (jg zj)) (zw (yS (yJ (zk zp (zc 1) (At 0))) (gN 4)
  (yd (mB (zk yx (zk zp (zc 4) (At 0)) (Au "call")))
  (zw (yH (yC yM (zc 3) (yF "left_call" uD (zc 0) (zd (zc 4) (zd (zc 2) zj)))))
  (wT 2 dU (At 1)))
  (yd (mB (zk (yq false) (zk zp (zc 4) (At 1)) (yc (aX "later" insOf excOf) (zc 0))))
  (yH (yC yM (zc 3) (yF "left_let" uE (zc 0) (zd (zc 4) zj))))
  (pe (je (yc (aX "things" insOf excOf) (zc 0)) (zk zp (zc 4) (At 1)) (zt (bZ "Known" kX) (zd (yF "answer_ahead" uM (zc 0) (zd (zc 4) zj)) zj))))))) (zw (zO 6 (yF "made_end" (uo "Making" (m_Making_made_end mr)) (zc 0) (zd (zk zp (zc 1) (At 1)) (zd (zc 2) zj)))) (z0 (zI (zd (zk yh (zt ji (zd (zc 3) zj)) (zk zp (zc 6) (At 0))) (zd (zk zp (zc 6) (At 1)) zj))))))
def m_Making_made_block (mr:An):An:=zX 3 7 (Vo mr)
def Vp (T:Txt w K mg) {k:Nat} (hk:10<=k) {mr:An} (rq:cm P w K mg base "Making" "made_block" k mr):cm P w K mg base "Making" "made_block" (k+2) (m_Making_made_block mr):=T.m_Making_made_block.ok (k:=k+1) zb4 λ_ _ _ _ _ _ _ hr=>by
 exact "x i3 djz p czb4.nd x q djs f h O v g"
 exact (wA 4 zb4.nd)
 exact "y m njr f h b4 v g B x djP aj7 7 VztR G k b4 k Z p y"
 refine AA 2 Az ?_ zb4.nd
 exact "v y m nzcy f h b4 v g sT.d_later G y djP aj7 7 VztU G k b4 p y dzsA wwV D W G f h b4 v g"
 refine Gm (zgg T) (hr.mono (by omega)) zaE ?_
 exact "k"
 refine j3 (λc m h=>Vl T h) ?_ (hr.mono (by omega)) zaE ?_
 exact "G k b4 p p 1 x i6"
 refine j3 (λc m h=>F_ (Vn T hk rq) h) ?_ (hr.mono (by omega)) zN ?_
 exact "G k f h O v g k Z p czb4.nd y L F k 5 r k 7 p f h b6 v g k f h b6 v g p"
def rL:Nat->An
 |0=>zX 3 7 yK
 |n+1=>m_Making_made_block (rL n)
theorem HA (T:Txt w K mg):∀n,cm P w K mg base "Making" "made_block" (10+1+2*n) (rL n)
 |0=>T.m_Making_made_block.ok (k:=10) zb4 λf bh A outer s H E hr=>A4
 |n+1=>(Vp T (by omega) (HA T n)).mono (by omega)
def zkl:af ["ring", "key", "function", "form", "making"] ["ring", "key", "function", "form"] (zL Hh):=by exact "8"
def Vq:Ak :=
  zw (zO 4 (zt (bZ "Making" rF) (zd (zc 0) (zd (zc 2) (zd (zc 3) (zd (zk zp (zc 1) (At 2)) zj)))))) (z0 (zI (zd (yF "name_for" rE (zc 0) (zd (zc 1) zj)) (zd (zt pj (zd (zc 2) (zd (zk zp (zc 3) (At 1)) zj))) (zd (yF "made_block" (uo "Making" (rL 2)) (zc 4) (zd (zk zp (zc 2) (At 2)) (zd (At 0) zj))) zj)))))
def pB:An:=zX 4 5 (Vq)
def zuA (T:Txt w K mg):bG P w K mg base "made_function" 16 pB:=T.f_made_function.ok (k:=15) zkl λ_ _ _ _ _ _ _ hr=>by
 exact "x i4 tztA k G k Z k 7 k f h O v g p czkl.nd y L F k ozge G k O p k ezdZ k Z k f h 7 v g p k"
 refine j3 (λc m h=>F_ (HA T 2) h) ?_ (hr.mono (by decide)) zN ?_
 exact "b4 k f h Z v g k v p p"
def zbp:af ["program", "parting", "known", "limit", "row", "functions", "forms", "ring", "made", "key"] ["program", "parting", "known", "limit"] (zL Hi):=by exact "8"
def HB:Ak :=
  zw (tV (mB (zk wS (zt yD (zd (zc 8) zj)) (zt yD (zd (yc (aX "met" insOf excOf) (zc 7)) zj))))
  (zw (zO 9 (zk (aW zp) (yc (aX "met" insOf excOf) (zc 7)) (zt yD (zd (zc 8) zj))))
  (yH (yC yM (zc 8) (zt pB (zd (zc 7) (zd (zc 9) (zd (zk (aW zp) (zc 5) (zk (aW zp) (zc 9) (At 0))) (zd (zk (aW zp) (zc 6) (zI (zd (zk (aW zp) (zc 9) (At 0)) (zd (zk (aW zp) (zc 9) (At 1)) zj)))) zj))))))))) (z0 (zI (zd (zt ji (zd (zc 8) zj)) (zd (zt ji (zd (yc (aX "met" insOf excOf) (zc 7)) zj)) zj))))
def HC:Ak :=
  zw (zO 4 (zt uC (zd (zc 0) (zd (zc 1) zj)))) (zw (yd (mB (zk wn (zc 4) (mC .non)))
  yK
  yi) (zw (zO 5 (zt rz (zd (zc 0) zj))) (zw (zO 6 (zt BB (zd (zc 1) zj))) (zw (zO 7 (zt (bZ "KeyRing" rB) (zd (zc 3) zj))) (zw (yH (yF "name_for" rE (zc 7) (zd (zI (zd (zk (aW zp) (zk (aW zp) (zc 1) (At 0)) (At 0)) (zd (zk (aW zp) (zk (aW zp) (zc 1) (At 0)) (At 1)) (zd (zc 2) zj)))) zj))) (zw (zO 8 (jg zj)) (HB)))))))
def fV:An:=zX 4 10 (HC)
def zuB (T:Txt w K mg):bG P w K mg base "make" 17 fV:=T.f_make.ok (k:=16) zbp λ_ _ _ _ _ _ _ hr=>by
 exact "x i4 ezth k G k O p czbp.nd x m Ezbl b4 cwF y Y R x i5 ezf5 k G p czbp.nd x i6 eztj k O p czbp.nd x i7 tztm k 7 p czbp.nd x djP ozge b7 k F k f l f l O v g v g k f l f l O v g v g k Z p p x i8 djz p czbp.nd x T Ezcs u k b8 p u k sT.d_met b7 p x i9 f l sT.d_met b7 u k b8 p g czbp.nd y djP aj7 b8 ezuA k b7 k b9 k f l b5 f l b9 v g g k f l b6 F k f l b9 v g k f l b9 v g p g p y L F k r k b8 p k r k sT.d_met b7 p p"
def Vr:af ["function", "held"] ["function", "held"] (zL zfV):=by exact "8"
def Vs:Ak :=
  (z0 (zt rA (zd (jk (yJ (zk (aW zp) (zc 0) (At 1))) (zk (cy (yq false) false) (zI (zd (zk (aW zp) (zc 1) (At 0)) (zd (zc 0) zj))) (zc 2))) zj)))
def nL:An:=zX 2 2 (Vs)
def zuE (T:Txt w K mg):bG P w K mg base "held_bits" 2 nL:=T.f_held_bits.ok (k:=1) Vr λ_ _ _ _ _ _ _ hr=>by
 exact "y L ezj4 k"
 refine nB (N:=["function", "held"]) rfl (by exact "9zfV") rfl (by decide +kernel) ?_ ?_
 exact "djs f l G v g A 0 F k f l O v g k G p Z p"
def HD:af ["self", "program", "held", "function"] ["self", "program", "held"] (zL Hj):=by exact "8"
def Vt:Ak :=
  zw (sFld "pairs" insOf (zc 0) (zt iO (zd (zc 2) zj))) (zw (sFld "bits_by_name" insOf (zc 0) iL) (yS (yJ (zc 1)) (gN 3)
  (je (yc (aX "bits_by_name" insOf excOf) (zc 0)) (zk zp (zc 3) (At 0)) (zt nL (zd (zc 3) (zd (yc (aX "pairs" insOf excOf) (zc 0)) zj))))))
def rO:An:=zX 3 4 (Vt)
def zuG (T:Txt w K mg):kJ P w K mg base "Holding" 3 rO:=T.n_Holding.ok (k:=2) HD λ_ _ _ _ _ _ _ hr=>by
 exact "x CT.d_pairs G ezbZ k Z p x CT.d_bits_by_name G czaW y q djs O"
 exact (wA 3 HD.nd)
 exact "y wwV D sT.d_bits_by_name G f h 7 v g ezuE k 7 k sT.d_pairs G p 1"
def Vu:af ["self", "aim", "later"] ["self", "aim", "later"] (zL Hk):=by exact "8"
def Vv:Ak :=
  (z0 (zk nA (zt kT (zd (zk zp (zc 1) (At 1)) (zd (zc 2) zj))) (zk zp (yc (aX "bits_by_name" insOf excOf) (zc 0)) (zk zp (zc 1) (At 0)))))
def m_Holding_goal_of:An:=zX 3 3 (Vv)
def Vw (T:Txt w K mg):cm P w K mg base "Holding" "goal_of" 3 m_Holding_goal_of:=T.m_Holding_goal_of.ok (k:=2) Vu λ_ _ _ _ _ _ _ hr=>by
 exact "y L jzfw ezd3 k f h O v g k Z p f h sT.d_bits_by_name G f h O v g g"
def uN (c:Str):Option (An):=if c = "Holding" then some m_Holding_goal_of else none
def zuK (T:Txt w K mg) {c:Str} {m:An} (h:uN c=some m):cm P w K mg base c "goal_of" 3 m:=by
 unfold uN at h
 by_cases e0:c = "Holding"
 ·rw [zx e0] at h;cases h;rw [e0];exact (Vw T).mono (by decide)
 rw [zK e0] at h
 cases h
def Vx:af ["self", "name", "step", "later"] ["self", "name", "step", "later"] (zL Hl):=by exact "8"
def Vy:Ak :=
  zw (yd (oQ (mB (zk yx (zk (aW zp) (zc 2) (At 0)) (Au "call"))) (mB (zk jY (zt kT (zd (zt nK (zd (zc 2) zj)) (zd (zc 3) zj))) (At 0))))
  (z0 (mC (.bl true)))
  yi) (z0 (zk (cy (yq false) false) (zI (zd (zc 1) (zd (zk (aW zp) (zc 2) (At 1)) zj))) (yc (aX "pairs" insOf excOf) (zc 0))))
def m_Holding_makes_later:An:=zX 4 4 (Vy)
def Vz (T:Txt w K mg):cm P w K mg base "Holding" "makes_later" 3 m_Holding_makes_later:=T.m_Holding_makes_later.ok (k:=2) Vx λ_ _ _ _ _ _ _ hr=>by
 exact "x m dzbK azpo njr f l Z v g B dzpn nzct ezd3 k ezj6 k Z p k 7 p v y L czdm R y L 0 F k O k f l Z v g p sT.d_pairs G"
def pD (c:Str):Option (An):=if c = "Holding" then some m_Holding_makes_later else none
def zuO (T:Txt w K mg) {c:Str} {m:An} (h:pD c=some m):cm P w K mg base c "makes_later" 3 m:=by
 unfold pD at h
 by_cases e0:c = "Holding"
 ·rw [zx e0] at h;cases h;rw [e0];exact (Vz T).mono (by decide)
 rw [zK e0] at h
 cases h
def zb7:af ["self", "function", "bits", "later", "steps", "goals", "line", "aim"] ["self", "function", "bits"] (zL Hm):=by exact "8"
def VA:Ak :=
  zw (zO 3 (zt iO (zd (zt pj (zd (zc 1) (zd (zc 2) zj))) zj))) (zw (zO 4 (jg zj)) (zw (zO 5 (jg zj)) (zw (yS (yJ (zt (mj 2) (zd (zk zp (zc 1) (At 2)) zj))) (gN 6)
  (zw (zO 7 (zt wY (zd (zc 6) zj)))
  (zw (yd (mB (zk wn (zc 7) (mC .non)))
  (yH (yC yM (zc 5) (yF "goal_of" uN (zc 0) (zd (zc 7) (zd (zc 3) zj)))))
  yi)
  (yd (jN (mB (zt kU (zd (zc 6) zj))) (mB (yF "makes_later" pD (zc 0) (zd (zk zp (zc 1) (At 0)) (zd (zc 6) (zd (zc 3) zj))))))
  (zw (yH (yC yM (zc 4) (zk zp (zc 6) (At 1))))
  (je (zc 3) (zk zp (zc 6) (At 1)) (mC (.bl true))))
  yi)))) (z0 (zI (zd (zk zp (zc 1) (At 0)) (zd (zc 2) (zd (zt ji (zd (zc 4) zj)) (zd (zt ji (zd (zc 5) zj)) zj)))))))))
def m_Holding_best_form:An:=zX 3 8 (VA)
def VB (T:Txt w K mg):cm P w K mg base "Holding" "best_form" 5 m_Holding_best_form:=T.m_Holding_best_form.ok (k:=4) zb7 λ_ _ _ _ _ _ _ hr=>by
 exact "x i3 ezbZ k ezdZ k O k Z p p czb7.nd x i4 djz p czb7.nd x i5 djz p czb7.nd x q djs P k f h O v g p"
 exact (wA 6 zb7.nd)
 exact "x i7 ezf9 k b6 p czb7.nd x m Ezbl b7 cwF y djP aj7 b5 ozuK G k b7 k 7 p R y m dzbK azbJ dj5 ezj5 k b6 p dzcp dj5 ozuO G k f h O v g k b6 k 7 p x djP aj7 b4 f h b6 v g y wwV D 7 f h b6 v g czdm 1 R y L F k f h O v g k Z k r k b4 p k r k b5 p p"
def uO (c:Str):Option (An):=if c = "Holding" then some m_Holding_best_form else none
def zuR (T:Txt w K mg) {c:Str} {m:An} (h:uO c=some m):cm P w K mg base c "best_form" 5 m:=by
 unfold uO at h
 by_cases e0:c = "Holding"
 ·rw [zx e0] at h;cases h;rw [e0];exact (VB T).mono (by decide)
 rw [zK e0] at h
 cases h
def HE:af ["block", "aims"] ["block"] (zL zdT):=by exact "8"
def VC:Ak :=
  zw (zO 1 (jk (yJ (zt (mj 2) (zd (zc 0) zj))) (zt wY (zd (zc 0) zj)))) (z0 (zt ji (zd (qX (yJ (zc 1)) (mB (zk wn (zc 0) (mC .non))) (zc 0)) zj)))
def BI:An:=zX 1 2 (VC)
def zuT (T:Txt w K mg):bG P w K mg base "aims_of" 5 BI:=T.f_aims_of.ok (k:=4) HE λ_ _ _ _ _ _ _ hr=>by
 exact "x"
 refine FT 1 (N:=["block", "aims"]) rfl (by exact "9zdT") rfl (by decide +kernel) ?_ ?_ HE.nd rfl (by exact "$") (by exact "%") (by rfl)
 exact "djs P k G p A Kzf9 k G p y L r k"
 refine R9 (N:=["block", "aims"]) rfl (by exact "!zdT") rfl (by decide +kernel) ?_ ?_ ?_
 exact "djs O A Ezbl G cwF A G p"
def VD:af ["function", "goals"] ["function", "goals"] (zL zfW):=by exact "8"
def VE:Ak :=
  (z0 (Bf (oU (zd (zt BI (zd (zk zp (zc 0) (At 2)) zj)) (zd (zc 1) zj))) (zI (zd (zk zp (zc 0) (At 0)) (zd (zc 1) zj)))))
def rP:An:=zX 2 2 (VE)
def zuW (T:Txt w K mg):bG P w K mg base "aimed_pairs" 6 rP:=T.f_aimed_pairs.ok (k:=5) VD λ_ _ _ _ _ _ _ hr=>by
 exact "y L"
 refine RK (N:=["function", "goals"]) rfl (by exact "!zfW") rfl (by decide +kernel) ?_ ?_
 exact "2 k ezuT k f h G v g p k O p A F k f h G v g k O p"
def Bx:af ["program", "bits", "held", "functions", "holding", "met", "marks", "forms", "pair", "function", "form", "aimed"] ["program", "bits", "held"] (zL Hn):=by exact "8"
def VF:Ak :=
  zw (zO 3 (zt rz (zd (zc 0) zj))) (zw (zO 4 (zt (bZ "Holding" rO) (zd (zc 0) (zd (zc 2) zj)))) (zw (zO 5 (jg (zd (zI (zd (zk (aW zp) (zk (aW zp) (zc 0) (At 0)) (At 0)) (zd (zc 1) zj))) zj))) (zw (zO 6 (zt iO (zd (zc 5) zj))) (zw (zO 7 (jg zj)) (zw (tV (mB (zk wS (zt yD (zd (zc 7) zj)) (zt yD (zd (zc 5) zj))))
  (zw (zO 8 (zk (aW zp) (zc 5) (zt yD (zd (zc 7) zj))))
  (zw (zO 9 (zk (aW zp) (zc 3) (zk (aW zp) (zc 8) (At 0))))
  (zw (zO 10 (yF "best_form" uO (zc 4) (zd (zc 9) (zd (zk (aW zp) (zc 8) (At 1)) zj))))
  (zw (yH (yC yM (zc 7) (zc 10)))
  (yS (yJ (zt rP (zd (zc 9) (zd (zk (aW zp) (zc 10) (At 3)) zj)))) (gN 11)
  (yd (mB (zk (cy (yq true) true) (zc 11) (zc 6)))
  (zw (wW (zc 6) (zc 11) (mC (.bl true)))
  (yH (yC yM (zc 5) (zc 11))))
  yi))))))) (z0 (zt ji (zd (zc 7) zj))))))))
def BJ:An:=zX 3 12 (VF)
def zuY (T:Txt w K mg):bG P w K mg base "best" 7 BJ:=T.f_best.ok (k:=6) Bx λ_ _ _ _ _ _ _ hr=>by
 exact "x i3 ezf5 k G p 6 x i4 tzuG k G k Z p 6 x i5 djz k F k f l f l G v g v g k O p p 6 x i6 ezbZ k b5 p 6 x i7 djz p 6 x T Ezcs u k b7 p u k b5 p x i8 f l b5 u k b7 p g 6 x i9 f l 7 f l b8 v g g 6 x i10 ozuR b4 k b9 k f l b8 v g p 6 x djP aj7 b7 b10 y q djs ezuW k b9 k f l b10 v g p"
 exact (wA 11 Bx.nd)
 exact "y m Q b11 b6 x wzdO D b6 b11 czdm 1 y djP aj7 b5 b11 R y L r k b7 p"
def VG:af ["_law_name", "_law_number_here"] ["_law_name", "_law_number_here"] (zL Ho):=by exact "8"
def VH:Ak :=
  (z0 (zI (zd (zc 0) (zd (zI (zd (Au "x") zj)) (zd (zI (zd (zI (zd (zI (zd (Au "let") (zd (Au "z") (zd (Au "sub") (zd (zI (zd (zI (zd (Au "of") (zd (Au "x") zj))) (zd (zI (zd (Au "is") (zd (zc 1) zj))) zj))) zj))))) zj)) (zd (zI (zd (Au "give") (zd (zI (zd (Au "of") (zd (Au "z") zj))) zj))) zj))) zj)))))
def uP:An:=zX 2 2 (VH)
def zkq (T:Txt w K mg):bG P w K mg base "_law_made" 1 uP:=T.f__law_made.ok (k:=0) VG λ_ _ _ _ _ _ _ hr=>by
 exact "y L F k G k F k B p k F k F k F k B k B k B k F k F k B k B p k F k B k O p p p p k F k B k F k B k B p p p p"
def j8:af ["_law_script", "_law_many", "_law_rows", "_law_other_here", "_law_word_here", "_law_main", "_law_program", "_law_found", "_law_first", "_law_last", "_law_aims", "_law_names", "_law_steps_here", "_law_made_here", "_law_keys"] ["_law_script"] (zL zdU):=by exact "8"
def HF:Ak :=
  zw (yd (mB (zk yx (zc 3) (At 1)))
  (zw (yH (yC yM (zc 13) (zt uP (zd (Au "q2") (zd (zk zp (zc 9) (zc 4)) zj)))))
  (yH (yC yM (zc 14) (zI (zd (Au "other") (zd (At 2) (zd (zI (zd (zt ph (zd (zc 9) (zd (zc 2) zj))) zj)) zj)))))))
  yi) (z0 (zk l_ (zc 7) (zI (zd (zt ji (zd (zc 13) zj)) (zd (zt ji (zd (zc 14) zj)) zj)))))
def HG:Ak :=
  zw (zO 1 (zk yh (At 2) (zk ja (zt jc (zd (zc 0) (zd (At 0) zj))) (At 4)))) (zw (zO 2 (zk yx (zk ja (zk iI (zt jc (zd (zc 0) (zd (At 0) zj))) (At 4)) (At 3)) (At 1))) (zw (zO 3 (zk ja (zt jc (zd (zc 0) (zd (At 2) zj))) (At 2))) (zw (zO 4 (zt mh (zd (zc 0) (zd (zk ja (zt jc (zd (zc 0) (zd (At 9) zj))) (zc 1)) zj)))) (zw (zO 5 (zI (zd (Au "main") (zd (zI (zd (Au "x") zj)) (zd (zI (zd (zt uA (zd (zc 0) (zd (zc 1) (zd (zc 3) (zd (zc 2) zj))))) (zd (zI (zd (Au "give") (zd (zI (zd (Au "of") (zd (Au "c3") zj))) zj))) zj))) zj))))) (zw (zO 6 (zI (zd (zc 5) (zd (zt By (zd (zc 4) (zd (zc 2) zj))) zj)))) (zw (zO 7 (zt fV (zd (zc 6) (zd (zt BJ (zd (zc 6) (zd (At 1) (zd (zI zj) zj)))) (zd (zI zj) (zd (zk yh (zk yh (At 2) (zc 3)) (zk ja (zt jc (zd (zc 0) (zd (At 8) zj))) (At 190))) zj)))))) (zw (zO 8 (zt pf (zd (zc 0) (zd (At 0) (zd (zc 1) (zd (zc 3) zj)))))) (zw (zO 9 (zt pf (zd (zc 0) (zd (At 3) (zd (zc 1) (zd (zc 3) zj)))))) (zw (zO 10 (jg (zd (Au "q1") (zd (Au "q1") (zd (Au "q1") (zd (zk yh (Au "q") (zt jR (zd (zk yh (At 1) (zc 3)) zj))) zj)))))) (zw (zO 11 (jg (AV ["x", "c0", "c1", "c2"]))) (zw (zO 12 (zt ji (zd (jk (dz (zd (At 4) zj)) (zI (zd (Au "call") (zd (zk yh (Au "c") (zt jR (zd (zc 0) zj))) (zd (zk zp (zc 11) (zc 0)) (zd (zI (zd (zI (zd (Au "of") (zd (zk zp (zc 12) (zc 0)) zj))) zj)) zj)))))) zj))) (zw (zO 13 (jg (zd (zI (zd (Au "q0") (zd (zI (zd (Au "x") zj)) (zd (zI (zd (zc 12) (zd (zI (zd (Au "give") (zd (zI (zd (Au "of") (zd (Au "c3") zj))) zj))) zj))) zj)))) (zd (zt uP (zd (Au "q1") (zd (zk zp (zc 8) (zc 4)) zj))) zj)))) (zw (zO 14 (jg (zd (zI (zd (Au "main") (zd (At 1) (zd (zI zj) zj)))) (zd (zI (zd (Au "other") (zd (At 2) (zd (zI (zd (zt ph (zd (zc 8) (zd (zc 2) zj))) zj)) zj)))) zj)))) (HF))))))))))))))
def HH:An:=zX 1 15 (HG)
def zu1 (T:Txt w K mg) {f:Addr} {fd:FuncData} (F:eI K "law" "law" zdU f fd):bU P w K mg base (cV P w) 18 f fd ["_law_script"] (iJ K mg HH):=tZ (k:=17) F j8 λbh A outer s H E hr =>by
 exact "x i1 5 v jwR ewX k G k v p v S x i2 Jjr jwR jzcr ewX k G k v p v v v S x i3 jwR ewX k G k v p v S x i4 ezfZ k G k jwR ewX k G k v p O p S x i5 F k B k F k B p k F k ezsP k G k O k 7 k Z p k F k B k F k B k B p p p p S x i6 F k b5 k ezsR k b4 k Z p p S x i7 ezuB k b6 k ezuY k b6 k v k F p p k F p k 5 5 v 7 jwR ewX k G k v p v p S x i8 ezf0 k G k v k O k 7 p S x i9 ezf0 k G k v k O k 7 p S x i10 djz k B k B k B k 5 B H k 5 v 7 p p S x i11 djz dziy"
 decide +kernel
 exact "S x i12 r k"
 refine nB (N:=["_law_script", "_law_many", "_law_rows", "_law_other_here", "_law_word_here", "_law_main", "_law_program", "_law_found", "_law_first", "_law_last", "_law_aims", "_law_names", "_law_steps_here", "_law_made_here", "_law_keys"]) rfl (by exact "9zdU") rfl (by decide +kernel) ?_ ?_
 exact "X k v p A F k B k 5 B H k G p k f h b11 G g k F k F k B k f h b12 G g p p p p S x i13 djz k F k B k F k B p k F k b12 k F k B k F k B k B p p p p k ezkq k B k f h b8 b4 g p p S x i14 djz k F k B k v k F p p k F k B k v k F k ezf1 k b8 k Z p p p p S x m njr 7 v x djP aj7 b13 ezkq k B k f h b9 b4 g p y djP aj7 b14 F k B k v k F k ezf1 k b9 k Z p p p R y L Jzrj b7 F k r k b13 p k r k b14 p p"
end
def VI (i j:Int) (h:0<j):wQ i j=i%j:=by unfold wQ;rw [zx h]
def Old (a b:aa):Prop:=∀(n:Nat) so,a[n]?=some so->b[n]?=some so
def Old.refl (a:aa):Old a a:=λ_ _ e=>e
def Old.trans {a b c:aa}(h:Old a b) (h':Old b c):Old a c:=λn so e=>h' n so (h n so e)
def VJ {a b:aa}(h:Pre a b):Old a b:=λn so e=>h.get e
def zT (a d:aa):Old a (a++d):=VJ (Pre.of a d)
theorem HI {g:PV->zf->Option zf}{body:Ak}(I:Nat->zf->aa->Prop) (n:Nat) (hb:∀i e st,i<n->I i e st->∃e1 e2 aQ,g (.int i) e=some e1/\body e1 st=.ok (.nx e2) aQ/\I (i+1) e2 aQ) :
  ∀(k i:Nat) (env:zf) (st:aa),i+k=n->I i env st->∃cE bH,forL g body ((List.range' i k).map λi:Nat=>PV.int i) env st=.ok (.nx cE) bH/\I n cE bH
 |0,i,env,st,hk,h=>⟨env,st,by simp,by rw [<-hk];exact h⟩
 |k+1,i,env,st,hk,h=>by
  obtain ⟨e1,e2,aQ,q1,q2,q3⟩:=hb i env st (by omega) h
  obtain ⟨cE,bH,r1,r2⟩:=HI I n hb k (i+1) e2 aQ (by omega) q3
  refine ⟨cE,bH,?_,r2⟩
  rw [List.range'_succ,yG]
  unfold forL
  rw [q1]
  simp only
  rw [q2]
  simp only [zJ]
  exact r1
def HJ (m:Nat) (st:aa) (h:m<=1000):lY [.int (m:Int)] st=.ok (.im ((List.range' 0 m).map λi:Nat=>PV.int i)) st:=by
 have hr:cR (m:Int)=true:=by simp [cR];omega
 simp [hr,nums,List.range_eq_range']
def uQ (i:Int) (j:Nat) (h:0<j):∃b:Nat,b<j/\wQ i j=b:=by
 have h1:=Int.emod_nonneg i (show (j:Int)≠0 by omega)
 have h2:=Int.emod_lt_of_pos i (show (0:Int)<j by omega)
 exact ⟨(i%j).toNat,by omega,by rw [VI _ _ (by omega)];omega⟩
def zR {st:aa}{n:Nat}{so:SO}(h:st[n]?=some so):n<st.length:=(yt.mp h).1
theorem pE {fe:Aj}{env:zf}(xs:Aq) (I:Nat->List PV->aa->Prop) (step:∀i x ys st,xs[i]?=some x->I i ys st->∃y ae,fe (some x::env) st=.ok y ae/\I (i+1) (ys++[y]) ae) :
  ∀(k i:Nat) (ys:Aq) (st:aa),i+k=xs.length->I i ys st->∃gi bH,dq fe env (xs.drop i) ys st=.ok (.ref bH.length) (bH++[.lst gi])/\I xs.length gi bH
 |0,i,ys,st,hk,h=>⟨ys,st,by rw [mM (by omega)];rfl,by rw [<-hk];exact h⟩
 |k+1,i,ys,st,hk,h=>by
  have hx:xs[i]?=some (xs[i]'(by omega)):=yr (by omega)
  obtain ⟨y,ae,e,h1⟩:=step i _ ys st hx h
  obtain ⟨gi,bH,r,h2⟩:=pE xs I step k (i+1) (ys++[y]) ae (by omega) h1
  refine ⟨gi,bH,?_,h2⟩
  rw [we (by omega)]
  unfold dq
  rw [e]
  simp only [kM,zJ]
  exact r
theorem BL {fe:Aj}{env:zf}{n:Nat}(xs:Aq) (I:Nat->List PV->aa->Prop) (at_:∀i ys st,I i ys st->st[n]?=some (.lst xs)) (step:∀i x ys st,xs[i]?=some x->I i ys st->∃y ae,fe (some x::env) st=.ok y ae/\I (i+1) (ys++[y]) ae) :
  ∀(k i m:Nat) (ys:Aq) (st:aa),i+k=xs.length->k<m->I i ys st->∃gi bH,fI fe env n m i ys st=.ok (.ref bH.length) (bH++[.lst gi])/\I xs.length gi bH
 |0,i,m,ys,st,hk,hm,h=>by
  obtain ⟨m,rfl⟩:∃j,m=j+1:=⟨m-1,by omega⟩
  refine ⟨ys,st,?_,by rw [<-hk];exact h⟩
  unfold fI
  rw [ym (at_ _ _ _ h),oi (by omega)]
 |k+1,i,m,ys,st,hk,hm,h=>by
  obtain ⟨m,rfl⟩:∃j,m=j+1:=⟨m-1,by omega⟩
  have hx:xs[i]?=some (xs[i]'(by omega)):=yr (by omega)
  obtain ⟨y,ae,e,h1⟩:=step i _ ys st hx h
  obtain ⟨gi,bH,r,h2⟩:=BL xs I at_ step k (i+1) m (ys++[y]) ae (by omega) (by omega) h1
  refine ⟨gi,bH,?_,h2⟩
  unfold fI
  rw [ym (at_ _ _ _ h),hx]
  simp only
  rw [e]
  simp only [kM,zJ]
  exact r
abbrev S (l:List Nat):Str:=⟨l.toArray⟩
def rQ (z:Str):S z.cps.toList=z:=by cases z;simp [S]
def iR (l:List Nat):(S l).length=l.length:=by show l.toArray.size=_;simp
def nM (a b:List Nat):S a++S b=S (a++b):=by
 rw [<-rQ (S a++S b),PySem.Str.cps_append]
 congr 1
 simp [S]
def HK (z:Str) (b:List Nat):z++S b=S (z.cps.toList++b):=by rw [<-nM,rQ]
def ad (x y:Str) (h:x.length+y.length<=1000000) (st:aa):yh (.str x) (.str y) st=.ok (.str (x++y)) st:=by
 rw [Qr,zx h]
def iS {α:Type}{l:List α}{i:Nat}{x:α}(h:l[i]?=some x):l.take (i+1)=l.take i++[x]:=by
 obtain ⟨hi,e⟩:=yt.mp h
 rw [<-e,List.take_append_getElem]
theorem BM {g:PV->zf->Option zf}{body:Ak}{n:Nat}(xs:Aq) (I:Nat->zf->aa->Prop) (at_:∀i e st,I i e st->st[n]?=some (.lst xs)) (step:∀i x e st,xs[i]?=some x->I i e st->∃e1 e2 aQ,g x e=some e1/\body e1 st=.ok (.nx e2) aQ/\I (i+1) e2 aQ) :
  ∀(k i m:Nat) (env:zf) (st:aa),i+k=xs.length->k<m->I i env st->∃cE bH,forR g body n m i env st=.ok (.nx cE) bH/\I xs.length cE bH
 |0,i,m,env,st,hk,hm,h=>by
  obtain ⟨m,rfl⟩:∃j,m=j+1:=⟨m-1,by omega⟩
  refine ⟨env,st,?_,by rw [<-hk];exact h⟩
  unfold forR
  rw [ym (at_ _ _ _ h),oi (by omega)]
 |k+1,i,m,env,st,hk,hm,h=>by
  obtain ⟨m,rfl⟩:∃j,m=j+1:=⟨m-1,by omega⟩
  have hx:xs[i]?=some (xs[i]'(by omega)):=yr (by omega)
  obtain ⟨e1,e2,aQ,q1,q2,q3⟩:=step i _ env st hx h
  obtain ⟨cE,bH,r,h2⟩:=BM xs I at_ step k (i+1) m e2 aQ (by omega) (by omega) q3
  refine ⟨cE,bH,?_,h2⟩
  unfold forR
  rw [ym (at_ _ _ _ h),hx]
  simp only
  rw [q1]
  simp only
  rw [q2]
  simp only [zJ]
  exact r
def b0 {α:Type}{l:List α}{k:Nat}{x:α}(h:l[k]?=some x):dB l (k:Int)=some x:=by
 have:=(yt.mp h).1
 have e:=(yt.mp h).2
 simp [dB,fH,this,e]
def kZ {i j:Int}(b:Bool) (h:decide (i<j)=b) (st:aa):wS (.int i) (.int j) st=.ok (.bl b) st:=by rw [Sf,h]
def mn {i j:Int}(b:Bool) (h:decide (i=j)=b) (st:aa):yx (.int i) (.int j) st=.ok (.bl b) st:=by rw [uk,h]
def VL {i j:Int}(b:Bool) (h:decide (j<i)=b) (st:aa):tI (.int i) (.int j) st=.ok (.bl b) st:=by rw [Sg,h]
def VM {n i:Nat}{x:PV}(h:(nums 0 n)[i]?=some x):i<n/\x=.int (i:Int):=by
 unfold nums at h
 rw [jo] at h
 cases e:(List.range n)[i]? with
 |none=>rw [e] at h;cases h
 |some j =>
  rw [e] at h
  obtain ⟨h1,h2⟩:=yt.mp e
  rw [List.getElem_range] at h2
  rw [List.length_range] at h1
  cases h
  exact ⟨h1,by subst h2;simp⟩
def BN (n:Nat):(nums 0 n).length=n:=by simp [nums]
def VN (m:Nat) (st:aa) (h:m<=1000):lY [.int (m:Int)] st=.ok (.im (nums 0 m)) st:=by
 have hr:cR (m:Int)=true:=by simp [cR];omega
 rw [Q8,zx hr];simp
def VO {fe:Aj}{fs:Ai}{env:zf}{st s0:aa}(n:Nat) (hn:n<=1000) (hf:fs env st=.ok [.int (n:Int)] s0) (I:Nat->List PV->aa->Prop) (step:∀i ys st,i<n->I i ys st->∃y ae,fe (Aw i::env) st=.ok y ae/\I (i+1) (ys++[y]) ae) (h0:I 0 [] s0) :
  ∃gi bH,(jk (dz fs) fe) env st=.ok (.ref bH.length) (bH++[.lst gi])/\I n gi bH:=by
 obtain ⟨ys,s1,C,h⟩:=pE (fe:=fe) (env:=env) (nums 0 n) I (λi x ys st hx h=>by
  obtain ⟨hi,rfl⟩:=VM hx
  exact step i ys st hi h) n 0 [] s0 (by rw [BN];omega) h0
 rw [BN] at h
 refine ⟨ys,s1,?_,h⟩
 rw [l8,AW,hf,zJ,VN n _ hn,zJ,oV,zx (by rw [BN];simp [lim];omega)]
 exact C
def HL {fo fi fv:Aj}{e:zf}{s s1:aa}{r:Nat}{z:Str}{x:PV}{ks:Ae}{xs:Aq}(hv:fv e s=.ok x s1) (ho:fo e s1=.ok (.ref r) s1) (hi:fi e s1=.ok (.str z) s1) (hr:s1[r]?=some (.dic ks xs)) (hl:ks.length<=1000) :
  je fo fi fv e s=.ok (.nx e) (s1.set r (.dic (jK z x ks xs).1 (jK z x ks xs).2)):=by
 unfold je
 rw [hv,zJ,ho,zJ,hi,zJ]
 show (yW s1 r _).bind _=_
 rw [qT hr,zx (by simp [lim];omega),zJ]
def VP {fs:Ai}{gt:PV->zf->Option zf}{body:Ak}{e:zf}{st s0:aa}(I:Nat->zf->aa->Prop) (n:Nat) (hn:n<=1000) (hf:fs e st=.ok [.int (n:Int)] s0) (step:∀i e st,i<n->I i e st->∃e1 e2 aQ,gt (.int (i:Int)) e=some e1/\body e1 st=.ok (.nx e2) aQ/\I (i+1) e2 aQ) (h0:I 0 e s0) :
  ∃e' s',yS (dz fs) gt body e st=.ok (.nx e') s'/\I n e' s':=by
 obtain ⟨e',s',F,h⟩:=HI (g:=gt) (body:=body) I n step n 0 e s0 (by omega) h0
 refine ⟨e',s',?_,h⟩
 rw [nv,AW,hf,zJ,HJ n _ hn,zJ,EM]
 exact F
def VQ {a c:List Nat}(h:S a=S c):a=c:=by have:=congrArg (λz:Str=>z.cps.toList) h;simpa [S] using this
def VR {z:Str}{i c:Nat}(hl:z.length<=1000) (h:z.cps.toList[i]?=some c) (st:aa):zp (.str z) (.int (i:Int)) st=.ok (.str ⟨#[c]⟩) st:=by
 rw [Q3,zx (by simp [lim];omega),b0 h]
 rfl
def iT {st:aa}(a b:Nat):yh (.int (a:Int)) (.int (b:Int)) st=.ok (.int ((a+b:Nat):Int)) st:=by rw [FX];congr 2
def BO {st:aa}(a b:Nat) (h:a<2 ^ 60\/b<2 ^ 60):wG (.int (a:Int)) (.int (b:Int)) st=.ok (.int ((a*b:Nat):Int)) st:=by
 rw [FY _ _ (by simp only [lV,Bool.or_eq_true,lE,kj];exact h.elim (λh=>.inl ⟨by omega,by omega⟩) (λh=>.inr ⟨by omega,by omega⟩))]
 congr 2
def BP {α:Type}{l:List α}(nd:l.Nodup) {i j:Nat}(hi:i<l.length) (hj:j<l.length) (h:l[i]=l[j]):i=j:=by
 have p:=List.pairwise_iff_getElem.mp nd
 rcases Nat.lt_trichotomy i j with q|q|q
 ·exact absurd h (p i j hi hj q)
 ·exact q
 ·exact absurd h.symm (p j i hj hi q)
def ma {fo fi fv:Aj}{e:zf}{s:aa}{n i:Nat}{x:PV}{xs:Aq}(hv:fv e s=.ok x s) (ho:fo e s=.ok (.ref n) s) (hi:fi e s=.ok (.int (i:Int)) s) (h:s[n]?=some (.lst xs)) (hl:i<xs.length):uf fo fi fv e s=.ok (.nx e) (s.set n (.lst (xs.set i x))):=by
 unfold uf
 rw [hv,zJ,ho,zJ,hi,zJ]
 show (yl s n _).bind _=_
 rw [ym h,zx hl,zJ]
def jE {f fa fb:Aj}{e:zf}{st s1 s2 s3:aa}{x y z:PV}(h:f e st=.ok x s1) (h':fa e s1=.ok y s2) (h2:fb e s2=.ok z s3):zd f (zd fa (zd fb zj)) e st=.ok [x,y,z] s3:=uh h (zD h' h2)
def jj {f fa fb fc:Aj}{e:zf}{st s1 s2 s3 s4:aa}{x y z w:PV}(h:f e st=.ok x s1) (h':fa e s1=.ok y s2) (h2:fb e s2=.ok z s3) (h3:fc e s3=.ok w s4):zd f (zd fa (zd fb (zd fc zj))) e st=.ok [x,y,z,w] s4:=uh h (jE h' h2 h3)
def j4 {s:aa}{n:Nat}{xs:Aq}{y:PV}(h:s[n]?=some (.lst xs)) (hl:xs.length<=100000):yM (.ref n) y s=.ok .non (s.set n (.lst (xs++[y]))):=by rw [Rb,ym h,zx (by simp [lim];omega)]
def yz {x:PV}{r:Aq}{st:aa}:zp (.tup (x::r)) (.int 0) st=.ok x st:=by
 have e:=b0 (l:=x::r) (k:=0) (x:=x) rfl
 exact (congrArg (λz=>cD z st) e).trans rfl
def yA {x y:PV}{r:Aq}{st:aa}:zp (.tup (x::y::r)) (.int 1) st=.ok y st:=by
 have e:=b0 (l:=x::y::r) (k:=1) (x:=y) rfl
 exact (congrArg (λz=>cD z st) e).trans rfl
def wa {x y z:PV}{r:Aq}{st:aa}:zp (.tup (x::y::z::r)) (.int 2) st=.ok z st:=by
 have e:=b0 (l:=x::y::z::r) (k:=2) (x:=z) rfl
 exact (congrArg (λz=>cD z st) e).trans rfl
def mq {x y z w:PV}{r:Aq}{st:aa}:zp (.tup (x::y::z::w::r)) (.int 3) st=.ok w st:=by
 have e:=b0 (l:=x::y::z::w::r) (k:=3) (x:=w) rfl
 exact (congrArg (λz=>cD z st) e).trans rfl
def BQ {xs ys:Aq}{st:aa}(h:xs.length+ys.length<=1000000):yh (.tup xs) (.tup ys) st=.ok (.tup (xs++ys)) st:=by
 show (if xs.length+ys.length<=lim then _ else _)=_
 rw [zx (by simpa [lim] using h)]
def eqs (a b:Str) (c:Bool) (h:decide (a=b)=c) (st:aa):yx (.str a) (.str b) st=.ok (.bl c) st:=by rw [Si,h]
def n1:("let" : Str) ≠ "call" := by decide +kernel
def n2:("let" : Str) ≠ "go" := by decide +kernel
def n3:("give" : Str) ≠ "call" := by decide +kernel
def n4:("give" : Str) ≠ "go" := by decide +kernel
def n5:("fail" : Str) ≠ "call" := by decide +kernel
def n7:("go" : Str) ≠ "call" := by decide +kernel
def VS:("give" : Str) ≠ "let" := by decide +kernel
def dJ {a b:Str}(h:a≠b) (st:aa):yx (.str a) (.str b) st=.ok (.bl false) st:=eqs a b false (by simpa using h) st
def iU {a:Str}(st:aa):yx (.str a) (.str a) st=.ok (.bl true) st:=eqs a a true (by simp) st
def q0 {z y:Str}{c:Bool}{e:zf}{r:Aq}{s:aa}{i:Nat}(hi:e[i]?=some (some (.tup (.str z::r)))) (h:yx (.str z) (.str y) s=.ok (.bl c) s):(mB (zk yx (zk zp (zc i) (At 0)) (Au y))) e s=.ok c s:=zU (zo (zo (ze hi) rfl yz) rfl h)
def BR (z:Str) (c:Bool) (h:((("let" : Str)==z)||(("call" : Str)==z))=c) (st:aa):yq false (.str z) (.tup [.str "let", .str "call"]) st=.ok (.bl c) st:=by
 rw [Ra,zx ⟨rfl,rfl,by simp [eE,dep]⟩]
 simp [bY,h]
theorem HM {ft:Al}{fe:Aj}{env:zf}{st:aa}{n:Nat}{p:PV->Bool}{f:PV->PV}(xs:Aq) (hn:st[n]?=some (.lst xs)) (h:∀x∈xs,ft (some x::env) st=.ok (p x) st) (h':∀x∈xs,p x=true->fe (some x::env) st=.ok (f x) st):∀(k i m:Nat) (ys:Aq),i+k=xs.length->k<m->eh ft fe env n m i ys st=.ok (.ref st.length) (st++[.lst (ys++(xs.drop i).flatMap λx=>if p x=true then [f x] else [])])
 |0,i,m,ys,hk,hm=>by
  obtain ⟨m,rfl⟩:∃j,m=j+1:=⟨m-1,by omega⟩
  unfold eh
  rw [ym hn,oi (by omega),mM (by omega)]
  simp
 |k+1,i,m,ys,hk,hm=>by
  obtain ⟨m,rfl⟩:∃j,m=j+1:=⟨m-1,by omega⟩
  have hi:i<xs.length:=by omega
  have hx:xs[i]?=some (xs[i]'hi):=yr hi
  have mem:=List.getElem_mem hi
  have ih:=HM (ft:=ft) (fe:=fe) (env:=env) xs hn h h' k (i+1) m
  unfold eh
  rw [ym hn,hx]
  simp only
  rw [h _ mem]
  simp only [kM,zJ]
  rw [we hi,List.flatMap_cons]
  cases hp:p (xs[i]'hi) with
  |true =>
   simp only [if_true]
   rw [h' _ mem hp]
   simp only [kM,zJ]
   rw [ih _ (by omega) (by omega)]
   simp
  |false =>
   rw [zK (by simp),ih _ (by omega) (by omega)]
   simp
theorem eV {g:PV->zf->Option zf}{body:Ak}(xs:Aq) (I:Nat->zf->aa->Prop) (step:∀i x e st,xs[i]?=some x->I i e st->∃e1 e2 aQ,g x e=some e1/\body e1 st=.ok (.nx e2) aQ/\I (i+1) e2 aQ) :
  ∀(k i:Nat) (env:zf) (st:aa),i+k=xs.length->I i env st->∃cE bH,forL g body (xs.drop i) env st=.ok (.nx cE) bH/\I xs.length cE bH
 |0,i,env,st,hk,h=>⟨env,st,by rw [mM (by omega)];rfl,by rw [<-hk];exact h⟩
 |k+1,i,env,st,hk,h=>by
  have hx:xs[i]?=some (xs[i]'(by omega)):=yr (by omega)
  obtain ⟨e1,e2,aQ,q1,q2,q3⟩:=step i _ env st hx h
  obtain ⟨cE,bH,r,h2⟩:=eV xs I step k (i+1) e2 aQ (by omega) q3
  refine ⟨cE,bH,?_,h2⟩
  rw [we (by omega)]
  unfold forL
  rw [q1]
  simp only
  rw [q2]
  simp only [zJ]
  exact r
def HN {s:aa}{n k:Nat}{xs ys:Aq}(h:s[n]?=some (.lst xs)) (h':s[k]?=some (.lst ys)) (hl:xs.length+ys.length<=1000000):tX (.ref n) (.ref k) s=.ok .non (s.set n (.lst (xs++ys))):=by
 show yl s n _=_
 rw [ym h,ym h']
 exact zx (by simpa [lim] using hl)
def ba:List Bool->Int
 |[]=>0
 |b::r=>(if b then 1 else 0)+2*ba r
theorem uR:∀l,0<=ba l
 |[]=>by simp [ba]
 |b::r=>by have:=uR r;simp only [ba];split<;>omega
theorem HP:∀(l:List Bool) (b:Bool),ba (l++[b])=ba l+(if b then 2 ^ l.length else 0)
 |[],b=>by simp [ba]
 |a::r,b=>by
  simp only [List.cons_append,ba,HP r b,wf]
  cases b<;>simp [Int.pow_succ]<;>omega
theorem HQ:∀l,ba l<2 ^ l.length
 |[]=>by simp [ba]
 |b::r=>by
  have:=HQ r
  simp only [ba,wf,Int.pow_succ]
  split<;>omega
theorem HR:∀(l:List Bool),(∀b∈l,b=false)->ba l=0
 |[],_=>rfl
 |b::r,h=>by
  have h1:=h b (jf ..)
  subst h1
  simp [ba,HR r λb hb=>h b (jH _ hb)]
def VT (x:Int) (i:Nat) (h0:0<=x) (h:x<2 ^ i):Builtin.bitOr x (1*2 ^ i)=x+2 ^ i:=by
 rw [PyProof.Rows.bitOr_and]
 have hp:(0:Int)<=2 ^ i:=Int.pow_nonneg (by decide)
 have e:Builtin.bitAnd x (1*2 ^ i)=0:=by
  rw [Int.one_mul]
  unfold Builtin.bitAnd
  rw [jV h0,jV hp]
  show ((x.toNat &&& ((2:Int) ^ i).toNat:Nat):Int)=0
  have e2:((2:Int) ^ i).toNat=2 ^ i:=by
   have:((2:Int) ^ i)=((2 ^ i:Nat):Int):=by simp
   rw [this,Int.toNat_natCast]
  rw [e2]
  have hx:x.toNat<2 ^ i:=by
   have:((x.toNat:Nat):Int)<((2 ^ i:Nat):Int):=by rw [Int.toNat_of_nonneg h0];simpa using h
   exact_mod_cast this
  have hz:x.toNat &&& 2 ^ i=0:=by
   apply Nat.eq_of_testBit_eq
   intro j
   rw [Nat.testBit_and,Nat.testBit_two_pow,Nat.zero_testBit]
   by_cases d_:i=j
   ·subst d_;rw [Nat.testBit_lt_two_pow hx];rfl
   ·simp [d_]
  rw [hz];rfl
 rw [e]
 omega
def VU (l:List Bool) (n:Nat) (st:aa) (hn:st[n]?=some (.lst (l.map PV.bl))) (v0:Ar):∀(k i m:Nat) (v2 v3:Ar),l.length-i=k->i<=l.length->k<m->l.length<=1000 ->
  ∃VV VW,dR (g2 2 3) (yd (mB (zc 3)) (zO 1 (zk nA (zc 1) (zk AR (At 1) (zc 2)))) yi) n m i [v0,some (.int (ba (l.take i))),v2,v3] st=.ok (.nx [v0,some (.int (ba l)),VV,VW]) st:=by
 intro k
 induction k with
 |zero =>
  intro i m v2 v3 hk hi hm hl
  obtain ⟨m',rfl⟩:∃m',m=m'+1:=⟨m-1,by omega⟩
  have xQ:i=l.length:=by omega
  subst xQ
  refine ⟨v2,v3,?_⟩
  simp [dR,yl,hn]
 |succ k ih =>
  intro i m v2 v3 hk hi hm hl
  obtain ⟨m',rfl⟩:∃m',m=m'+1:=⟨m-1,by omega⟩
  have bO:i<l.length:=by omega
  have ht:l.take (i+1)=l.take i++[l[i]]:=(List.take_append_getElem bO).symm
  obtain ⟨w2,w3,e⟩:=ih (i+1) m' (some (.int i)) (some (.bl l[i])) (by omega) (by omega) (by omega) hl
  refine ⟨w2,w3,?_⟩
  rw [<-e]
  have hb:=uR (l.take i)
  have HS:=HQ (l.take i)
  have hlen:(l.take i).length=i:=by simp;omega
  rw [hlen] at HS
  have hv:ba (l.take (i+1))=ba (l.take i)+(if l[i] then 2 ^ i else 0):=by rw [ht,HP,hlen]
  have oM:(l.map PV.bl)[i]?=some (.bl l[i]):=by simp [bO]
  conv=>lhs;unfold dR
  simp only [yl,hn,oM,Qz]
  cases hbi:l[i] with
  |true =>
   rw [hbi] at hv
   have ho:=VT _ i hb HS
   rw [Int.one_mul] at ho
   have hc:gy 1 (i:Int)=true:=by
    simp [gy]
    omega
   simp [hc,ho,hv]
  |false =>
   rw [hbi] at hv
   simp at hv
   simp [hv]
def HV (l:List Bool) (hl:l.length<=1000) (n:Nat) (st:aa) (hn:st[n]?=some (.lst (l.map PV.bl))):rA [.ref n] st=.ok (.int (ba l)) st:=by
 obtain ⟨w2,w3,e⟩:=VU l n st hn (Av n) l.length 0 (lim+1) none none rfl (jw _) (by show l.length<1000000+1;omega) hl
 simp only [List.take_zero,ba] at e
 simp [rA,zX,Hu,Ht,Hs,yl,hn,e]
theorem HW:∀zs:Ae,cg (zs.map PV.str)=true
 |[]=>rfl
 |z::zs=>by simp [cg,Mi.plain,HW zs]
theorem HX:∀zs:Ae,eE (zs.map PV.str)=0
 |[]=>rfl
 |z::zs=>by simp [eE,dep,HX zs]
def VX (z:Str) (zs:Ae):(zs.map PV.str).any (λy=>bY y (.str z))=decide (z∈zs):=by
 simp only [List.any_map,Function.comp_def,bY]
 rw [Bool.eq_iff_iff,List.any_eq_true,kj]
 constructor
 ·rintro ⟨x,hx,e⟩
  rw [beq_iff_eq] at e
  exact e▸hx
 ·intro h
  exact ⟨z,h,by simp⟩
theorem HY {α:Type}{z:Str}:∀{ks:Ae}{xs:List α},z∉ks->(ks.zip xs).lookup z=none
 |[],_,_=>by simp
 |_::_,[],_=>by simp
 |k::ks,x::xs,h=>by
  have ne:(z==k)=false:=by
   rw [beq_eq_false_iff_ne]
   intro e
   exact h (by rw [e];exact jf ..)
  rw [List.zip_cons_cons,jy,ne]
  exact HY λhm=>h (jH _ hm)
def HZ {s:aa}{d:Nat}{ks:Ae}{xs:Aq}{z:Str}{b:Bool}(h:s[d]?=some (.dic ks xs)) (hb:((ks.zip xs).lookup z).isSome=b):yq false (.str z) (.ref d) s=.ok (.bl b) s:=by
 simp [yq,h,hb]
def VY {fa fb:Aj}{e:zf}{st s1:aa}(h:fa e st=.ok (.bl false) s1):nq fa fb e st=.ok (.bl false) s1:=by
 rw [EJ,h,zJ,AH,zJ,zK (by simp)]
def aY (L:Ae):PV->Bool
 |.tup [.str w,.str z]=>decide (w = "of")&&decide (z∈L)
 |_=>false
def H8:("is" : Str) ≠ "of" := by decide +kernel
def mv (L:Ae) (z:Str):aY L (.tup [.str "of", .str z])=decide (z∈L):=by simp [aY]
def nO (L:Ae) (v:PV):aY L (.tup [.str "is", v])=false:=by
 cases v with
 |str z=>simp [aY,H8]
 |_=>rfl
def uS {z:Str}{L:Ae}{xs:Aq}(hl:L.length=xs.length):((L.zip xs).lookup z).isSome=decide (z∈L):=by
 by_cases h:z∈L
 ·rw [jV h]
  induction L generalizing xs with
  |nil=>cases h
  |cons y r ih =>
   cases xs with
   |nil=>simp at hl
   |cons x xs =>
    rw [List.zip_cons_cons,jy]
    by_cases e:z=y
    ·simp [e]
    ·have e':(z==y)=false:=by simpa using e
     rw [e']
     exact ih (by simpa using hl) ((yI.mp h).resolve_left e)
 ·rw [HY h,jp h];rfl
def VZ {s:aa}{n:Nat}{L:Ae}{z:Str}(h:s[n]?=some (.lst (L.map PV.str))):yq false (.str z) (.ref n) s=.ok (.bl (decide (z∈L))) s:=by
 simp only [yq,h]
 rw [zx ⟨rfl,HW L,by rw [HX];omega⟩,VX,Bool.false_xor]
def k9 (L:Ae) (s:aa) (d:Nat):Prop:=(∃xs,s[d]?=some (.dic L xs)/\L.length=xs.length)\/s[d]?=some (.lst (L.map PV.str))
def V0 {L:Ae}{s:aa}{d:Nat}{z:Str}(h:k9 L s d):yq false (.str z) (.ref d) s=.ok (.bl (decide (z∈L))) s:=by
 rcases h with ⟨xs,h,hl⟩|h
 ·exact HZ h (uS hl)
 ·exact VZ h
def k9.old {L:Ae}{s s':aa}{d:Nat}(h:k9 L s d) (o:Old s s'):k9 L s' d:=by
 rcases h with ⟨xs,h,hl⟩|h
 ·exact .inl ⟨xs,o _ _ h,hl⟩
 ·exact .inr (o _ _ h)
def H9 (l:List Bool):decide (ba l≠0)=l.any id:=by
 induction l with
 |nil=>simp [ba]
 |cons b r ih =>
  have h:=uR r
  rw [List.any_cons,<-ih]
  cases b with
  |true=>simp only [ba,zx,id,Bool.true_or];rw [kj];simp;omega
  |false=>simp [ba]
inductive dW:PV->Prop
 |of (z:Str):dW (.tup [.str "of", .str z])
 |is (v:PV):dW (.tup [.str "is", v])
def V1 {a:PV} (h:dW a) {L:Ae} {s:aa} {d:Nat} (hd:k9 L s d) {e:zf} {i:Nat} (h0:e[0]?=some (some a)) (hi:e[i]?=some (Av d)):nq (zk yx (zk zp (zc 0) (At 0)) (Au "of")) (zk (yq false) (zk zp (zc 0) (At 1)) (zc i)) e s=.ok (.bl (aY L a)) s:=by
 cases h with
 |of z=>rw [mv];exact Se (zo (zo (ze h0) rfl yz) rfl (iU _)) (zo (zo (ze h0) rfl yA) (ze hi) (V0 hd))
 |is v=>rw [nO];exact VY (zo (zo (ze h0) rfl yz) rfl (dJ H8 _))
def uT {as:Aq}(has:∀a∈as,dW a) (hl:as.length<=1000) {L:Ae}{s:aa}{d:Nat}(hd:k9 L s d):kT [.tup as,.ref d] s=.ok (.int (ba (as.map (aY L)))) (s++[.lst ((as.map (aY L)).map PV.bl)]):=by
 have C:=Fo (fe:=nq (zk yx (zk zp (zc 0) (At 0)) (Au "of")) (zk (yq false) (zk zp (zc 0) (At 1)) (zc 2))) (env:=[some (.tup as),Av d]) (f:=λa=>.bl (aY L a)) (st:=s) as (λx hx=>V1 (has x hx) hd rfl rfl) []
 have em:List.map (λa=>PV.bl (aY L a)) as=List.map PV.bl (List.map (aY L) as):=by simp
 rw [List.nil_append,em] at C
 have B:=HV (as.map (aY L)) (by simpa using hl) s.length (s++[.lst ((as.map (aY L)).map PV.bl)]) (ye _ _)
 refine zZ rfl (zY (zy (zF ?_) B))
 rw [l8,iK,ze rfl,zJ]
 show (Res.ok (Sq.im as) s).bind _=_
 rw [zJ,oV,zx (by simp [lim];omega)]
 exact C
def kP:Key->PV
 |.inl i=>.int i
 |.inr z=>.str z
abbrev cH (k:List Key):PV:=.tup (k.map kP)
theorem BS:∀k:List Key,c6 (k.map kP)=some k
 |[]=>rfl
 |x::r=>by
  have e:Gb (kP x)=some x:=by cases x<;>rfl
  rw [yG]
  unfold c6
  rw [e,BS r]
abbrev bP {α:Type}(ks:List α):Aq:=ks.map λ_=>.bl true
def IsT (ks:Ah) (s:aa) (n:Nat):Prop:=cj s[n]?=some (ks,bP ks)
def rR {old:Ao}{neg:Bool}{k:List Key}{ks:Ah}{s:aa}{n:Nat}(h:IsT ks s n):cy old neg (cH k) (.ref n) s=.ok (.bl (neg.xor (cG k ks))) (s.set n (.dit ks (bP ks))):=by
 unfold cy
 simp only [BS]
 rw [show cj s[n]?=some (ks,bP ks) from h]
def IsT.lt {ks:Ah}{s:aa}{n:Nat}(h:IsT ks s n):n<s.length:=by
 unfold IsT at h
 cases e:s[n]? with
 |none=>rw [e] at h;cases h
 |some so=>exact (yt.mp e).1
def k_ {ks:Ah}{s:aa}{n:Nat}(h:n<s.length):IsT ks (s.set n (.dit ks (bP ks))) n:=by
 unfold IsT
 rw [yp h]
 rfl
def du (ks:Ah) (k:List Key):Ah:=if cG k ks=true then ks else ks++[k]
theorem H_ {k:List Key}:∀ks:Ah,hU k (PV.bl true) ks (bP ks)=bP ks
 |[]=>rfl
 |x::r=>by
  rw [show bP (x::r)=PV.bl true::bP r from rfl]
  unfold hU
  rw [H_ r,ite_self]
def V2 {k:List Key}{ks:Ah}:wI k (.bl true) ks (bP ks)=(du ks k,bP (du ks k)):=by
 unfold wI du
 by_cases h:cG k ks=true
 ·rw [zx h,zx h,H_]
 ·rw [zK h,zK h];simp [bP]
def uU {fo fi fv:Aj}{e:zf}{s:aa}{n:Nat}{k:List Key}{ks:Ah}(hv:fv e s=.ok (.bl true) s) (ho:fo e s=.ok (.ref n) s) (hi:fi e s=.ok (cH k) s) (h:IsT ks s n) (hl:ks.length<1000000) :
  wW fo fi fv e s=.ok (.nx e) (s.set n (.dit (du ks k) (bP (du ks k)))):=by
 unfold wW
 rw [hv,zJ,ho,zJ,hi,zJ]
 have P:kR (cH k) (.bl true) (.ref n) s=.ok () (s.set n (.dit (du ks k) (bP (du ks k)))):=by
  unfold kR
  simp only [BS]
  rw [show cj s[n]?=some (ks,bP ks) from h]
  simp only
  rw [zx (by simpa [lim] using hl),V2]
 rw [P,zJ]
abbrev bM:Ak:=(wW (zc 1) (zc 2) (mC (.bl true)))
def gp (n:Nat) (s s':aa):Prop:=∀(m:Nat) so,m≠n->s[m]?=some so->s'[m]?=some so
def gp.refl (n:Nat) (s:aa):gp n s s:=λ_ _ _ e=>e
def gp.trans {n:Nat}{a b c:aa}(h:gp n a b) (h':gp n b c):gp n a c:=λm so q e=>h' m so q (h m so q e)
def Ia {n:Nat}{s:aa}{o:SO}:gp n s (s.set n o):=λm so q e=>by rw [yB (yO q)];exact e
def Old.bar {n:Nat}{s s':aa}(h:Old s s'):gp n s s':=λm so _ e=>h m so e
def IsT.old {ks:Ah}{s s':aa}{n:Nat}(h:IsT ks s n) (o:Old s s'):IsT ks s' n:=by
 unfold IsT at h ⊢
 cases e:s[n]? with
 |none=>rw [e] at h;cases h
 |some so=>rw [o n so e];rw [e] at h;exact h
def V3 {r:Nat}{k:List Key}{st:aa}(hr:st[r]?=some (.lst [cH k])):∃s1,iO [.ref r] st=.ok (.ref st.length) s1/\IsT [k] s1 st.length/\Old st s1:=by
 have BV:(st++[SO.dic [] []])[r]?=some (.lst [cH k]):=zT _ _ _ _ hr
 have h0:IsT [] (st++[SO.dic [] []]) st.length:=by unfold IsT;rw [ye];rfl
 have P:=uU (fo:=zc 1) (fi:=zc 2) (fv:=mC (.bl true)) (e:=[Av r,Av st.length,some (cH k)]) rfl (ze rfl) (ze rfl) h0 (by simp)
 have rl:r≠st.length:=by have:=zR hr;omega
 obtain ⟨e',s1,F,⟨z2,he⟩,hs⟩:=BM (g:=gN 2) (body:=bM) (n:=r) [cH k] (λi e s=>(∃z2,e=[Av r,Av st.length,z2])/\s=if i=0 then st++[SO.dic [] []] else (st++[SO.dic [] []]).set st.length (.dit (du [] k) (bP (du [] k)))) (λi e s ⟨_,h⟩=>by
   rw [h]
   split
   ·exact BV
   ·rw [yB (yO rl)];exact BV) (λi x e s hx ⟨⟨z2,he⟩,h⟩=>by
  have i0:i=0:=by have:=(yt.mp hx).1;simp at this;omega
  subst i0 he
  cases hx
  rw [zx rfl] at h
  subst h
  exact ⟨_,_,_,rfl,P,⟨_,rfl⟩,(zK (by omega)).symm⟩) 1 0 (lim+1) [Av r,Av st.length,none] (st++[SO.dic [] []]) rfl (by simp [lim]) ⟨⟨none,rfl⟩,(zx rfl).symm⟩
 subst he
 rw [zK (by simp)] at hs
 subst hs
 have FO:(yS (yJ (zc 0)) (gN 2) bM) [Av r,Av st.length,none] (st++[SO.dic [] []])=.ok (.nx [Av r,Av st.length,z2]) ((st++[SO.dic [] []]).set st.length (.dit (du [] k) (bP (du [] k)))):=by
  rw [nv,iK,ze rfl,zJ,ua,ym BV,zJ]
  exact F
 exact ⟨_,zZ rfl (zu (zQ rfl) (zu FO (zY (ze rfl)))),k_ h0.lt,λm so e=>by rw [yB (by have:=zR e;omega)];exact zT _ _ _ _ e⟩
def uV (ps:Ae) (nd:ps.Nodup) (hl:ps.length<=1000) (st:aa):∃s1,iO [.tup (ps.map PV.str)] st=.ok (.ref st.length) s1/\s1[st.length]?=some (.dic ps (bP ps))/\Old st s1:=by
 obtain ⟨e',s1,F,⟨z2,he⟩,hd,ob⟩:=eV (g:=gN 2) (body:=bM) (ps.map PV.str) (λi e s=>(∃z2,e=[some (.tup (ps.map PV.str)),Av st.length,z2])/\s[st.length]?=some (.dic (ps.take i) (bP (ps.take i)))/\gp st.length (st++[.dic [] []]) s) (λi x e s hx ⟨⟨z2,he⟩,hd,ob⟩=>by
  subst he
  rw [jo] at hx
  obtain ⟨z,hz,rfl⟩:=Option.map_eq_some_iff.mp hx
  have hi:i<ps.length:=(yt.mp hz).1
  have zn:z∉ps.take i:=λhm=>by
   obtain ⟨j,hj⟩:=List.getElem?_of_mem hm
   have jl:j<i:=by have:=(yt.mp hj).1;simp at this;omega
   rw [List.getElem?_take_of_lt jl] at hj
   obtain ⟨h1,h2⟩:=yt.mp hj
   obtain ⟨h3,h4⟩:=yt.mp hz
   have:=BP nd h1 h3 (h2.trans h4.symm)
   omega
  have P:=HL (fo:=zc 1) (fi:=zc 2) (fv:=mC (.bl true)) (e:=[some (.tup (ps.map PV.str)),Av st.length,some (.str z)]) (s:=s) rfl (ze rfl) (ze rfl) hd (by simp;omega)
  have dp:jK z (.bl true) (ps.take i) (bP (ps.take i))=(ps.take (i+1),bP (ps.take (i+1))):=by
   unfold jK
   rw [zK (by simpa using zn),iS hz]
   simp [bP]
  rw [dp] at P
  have P':bM [some (.tup (ps.map PV.str)),Av st.length,some (.str z)] s=_:=P
  exact ⟨_,_,_,rfl,P',⟨_,rfl⟩,yp (zR hd),ob.trans Ia⟩) ps.length 0 [some (.tup (ps.map PV.str)),Av st.length,none] (st++[.dic [] []]) (by simp) ⟨⟨none,rfl⟩,ye _ _,gp.refl _ _⟩
 subst he
 rw [jx,List.take_length] at hd
 have FO:(yS (yJ (zc 0)) (gN 2) bM) [some (.tup (ps.map PV.str)),Av st.length,none] (st++[.dic [] []])=.ok (.nx [some (.tup (ps.map PV.str)),Av st.length,z2]) s1:=by
  rw [nv,iK,ze rfl,zJ]
  show (Res.ok (Sq.im (ps.map PV.str)) (st++[.dic [] []])).bind _=_
  rw [zJ]
  exact F
 exact ⟨s1,zZ rfl (zu (zQ rfl) (zu FO (zY (ze rfl)))),hd,λm so e=>ob m so (by have:=zR e;omega) (zT _ _ _ _ e)⟩
abbrev pk (f z:Str):List Key:=[.inr f,.inr z]
def iV {x:PV}{r:Aq}{st:aa}:aW zp (.tup (x::r)) (.int 0) st=.ok x st:=yz
def nP {x y:PV}{r:Aq}{st:aa}:aW zp (.tup (x::y::r)) (.int 1) st=.ok y st:=yA
def Ib {x y z w:PV}{r:Aq}{st:aa}:aW zp (.tup (x::y::z::w::r)) (.int 3) st=.ok w st:=mq
def Ic {f:Str}{ps:Ae}{r:Aq}(hl:ps.length<=1000) {ks:Ah}{s:aa}{q:Nat}(hT:IsT ks s q):∃s1,nL [.tup (.str f :: .tup (ps.map PV.str)::r),.ref q] s=.ok (.int (ba (ps.map λp=>cG (pk f p) ks))) s1/\IsT ks s1 q/\gp q s s1/\s.length<=s1.length:=by
 obtain ⟨ys,s',C,hy,uW,ob,Ie⟩:=pE (fe:=(zk (cy (yq false) false) (zI (zd (zk (aW zp) (zc 1) (At 0)) (zd (zc 0) zj))) (zc 2))) (env:=[some (.tup (.str f :: .tup (ps.map PV.str)::r)),Av q]) (ps.map PV.str) (λi ys s'=>ys=((ps.take i).map λp=>cG (pk f p) ks).map PV.bl/\IsT ks s' q/\gp q s s'/\s.length<=s'.length) (λi x ys s' hx ⟨hy,uW,ob,Ie⟩=>by
  rw [jo] at hx
  obtain ⟨z,hz,rfl⟩:=Option.map_eq_some_iff.mp hx
  have R:=rR (old:=yq false) (neg:=false) (k:=pk f z) uW
  rw [Bool.false_xor] at R
  refine ⟨_,_,zo (zP (zD (zo (ze rfl) rfl iV) (ze rfl)) (by simp)) (ze rfl) R,?_,k_ uW.lt,ob.trans Ia,by simpa using Ie⟩
  rw [hy,iS hz]
  simp) ps.length 0 [] s (by simp) ⟨rfl,hT,gp.refl _ _,yf _⟩
 rw [jx,List.take_length] at hy
 have B:=HV (ps.map λp=>cG (pk f p) ks) (by simpa using hl) s'.length (s'++[.lst ys]) (by rw [hy];exact ye _ _)
 refine ⟨s'++[.lst ys],zZ rfl (zY (zy (zF ?_) B)),uW.old (zT _ _),ob.trans (zT _ _).bar,by simp;omega⟩
 rw [l8,iK,zo (ze rfl) rfl nP,zJ]
 show (Res.ok (Sq.im (ps.map PV.str)) s).bind _=_
 rw [zJ,oV,zx (by simp [lim];omega)]
 exact C
def bitAt (b:Int) (i:Nat):Bool:=decide (b/2 ^ i%2=1)
def picks (p:Nat->Bool):Nat->List Str->Ae
 |_,[]=>[]
 |i,z::r=>if p i then z::picks p (i+1) r else picks p (i+1) r
theorem uX {ft:Al}{fe:Aj}{env:zf}{st:aa}{p:Nat->Bool}:∀(zs:Ae) (i:Nat) (ys:Aq),(∀(j:Nat) z,i<=j->j<i+zs.length->ft (some (.int j)::some (.str z)::env) st=.ok (p j) st)->(∀(j:Nat) z,fe (some (.int j)::some (.str z)::env) st=.ok (.str z) st)->ez ft fe env i (zs.map PV.str) ys st=.ok (.ref st.length) (st++[.lst (ys++(picks p i zs).map PV.str)])
 |[],i,ys,_,_=>by simp [ez,picks]
 |z::r,i,ys,h,h'=>by
  rw [yG]
  unfold ez
  rw [h i z (yf _) (by simp),kM,zJ]
  unfold picks
  cases hp:p i with
  |true =>
   rw [zx rfl,zx rfl,h' i z,kM,zJ,uX r (i+1) _ (λj z a b=>h j z (by omega) (by simp;omega)) h']
   simp
  |false =>
   rw [zK (by simp),zK (by simp),uX r (i+1) _ (λj z a b=>h j z (by omega) (by simp;omega)) h']
theorem nQ {p:Nat->Bool}:∀{zs:Ae}{i:Nat},(picks p i zs).Sublist zs
 |[],_=>.slnil
 |z::r,i=>by
  unfold picks
  split
  ·exact (nQ).cons₂ z
  ·exact (nQ).cons z
def V4 (x:Int) (h:0<=x):Builtin.bitAnd x 1=x%2:=by
 unfold Builtin.bitAnd
 rw [jV h]
 show ((x.toNat &&& 1:Nat):Int)=_
 rw [Nat.and_one_is_mod]
 omega
def uY (b:Int) (hb:0<=b) (j:Nat) (st:aa):mi [.int b,.int (j:Int)] st=.ok (.bl (bitAt b j)) st:=by
 have S:AU (.int b) (.int (j:Int)) st=.ok (.int (b/2 ^ j)) st:=by
  have hc:qH b (j:Int)=true:=by simp [qH]
  show (if qH b (j:Int)=true then Res.ok (PV.int (b/2 ^ (j:Int).toNat)) st else .stuck)=_
  rw [zx hc,Int.toNat_natCast]
 have nn:0<=b/2 ^ j:=Int.ediv_nonneg hb (Int.pow_nonneg (by decide))
 have A:AQ (.int (b/2 ^ j)) (.int 1) st=.ok (.int (b/2 ^ j%2)) st:=by
  show (if c0 (b/2 ^ j) 1=true then Res.ok (PV.int (Builtin.bitAnd (b/2 ^ j) 1)) st else .stuck)=_
  rw [zx rfl,V4 _ nn]
 exact zZ rfl (zY (zo (zo (zo (ze rfl) (ze rfl) S) rfl A) rfl (uk _ _)))
def rS {f:PV}{ps:Ae}{r:Aq}(b:Int) (hb:0<=b) (hl:ps.length<=1000) (st:aa):pj [.tup (f :: .tup (ps.map PV.str)::r),.int b] st=.ok (.tup ((picks (bitAt b) 0 ps).map PV.str)) (st++[.lst ((picks (bitAt b) 0 ps).map PV.str)]):=by
 have C:=uX (ft:=(mB (zt mi (zd (zc 3) (zd (zc 0) zj))))) (fe:=zc 1) (env:=[some (.tup (f :: .tup (ps.map PV.str)::r)),some (.int b)]) (st:=st) (p:=bitAt b) ps 0 [] (λj z _ _=>zU (zy (zD (ze rfl) (ze rfl)) (uY b hb j st))) (λj z=>ze rfl)
 rw [List.nil_append] at C
 refine zZ rfl (zY (zy (zF ?_) (by rw [jC,ym (ye _ _)])))
 unfold rj
 rw [zF (zo (ze rfl) rfl yA),zJ]
 show (Res.bind (if _ then _ else _) _)=_
 rw [zx (by simp [lim];omega),zJ]
 exact C
def Ig {l:Ae}(nd:l.Nodup) {i:Nat}{z:Str}(hz:l[i]?=some z):z∉l.take i:=λhm=>by
 obtain ⟨j,hj⟩:=List.getElem?_of_mem hm
 have jl:j<i:=by have:=(yt.mp hj).1;simp at this;omega
 rw [List.getElem?_take_of_lt jl] at hj
 obtain ⟨h1,h2⟩:=yt.mp hj
 obtain ⟨h3,h4⟩:=yt.mp hz
 have:=BP nd h1 h3 (h2.trans h4.symm)
 omega
def rT {z:Str}{x:PV}{ks:Ae}{xs:Aq}(h:z∉ks):jK z x ks xs=(ks++[z],xs++[x]):=by
 unfold jK
 rw [zK (by simpa using h)]
abbrev mw (q b:Nat):SO:=.ins "Holding" ["pairs", "bits_by_name"] [.ref q,.ref b]
def BW {s:aa} {o q b:Nat} (h:s[o]?=some (mw q b)):aX "pairs" insOf excOf (.ref o) s=.ok (.ref q) s:=by
 rw [EN,AI h,zx (by simp [insOf])]
 rfl
def rV {name:Str} {tab:Str->Option (An)} {fo:Aj} {fs:Ai} {m:An} {ys:Aq} {X:Res PV} {e:zf} {s s1:aa} {o q b:Nat} (ho:fo e s=.ok (.ref o) s) (h:s[o]?=some (mw q b)) (hn:name∉(["pairs", "bits_by_name"]:Ae)) (ht:tab "Holding" = some m) (hf:fs e s=.ok ys s1) (hm:m (.ref o::ys) s1=X):yF name tab fo fs e s=X:=by
 unfold yF
 rw [ho,zJ]
 show jh s o _=_
 unfold jh
 rw [h]
 simp only
 rw [zK hn,ht]
 simp only
 rw [hf,zJ,hm]
def wu {s:aa}{n:Nat}{ks:Ae}{xs:Aq}{z:Str}{x:PV}(h:s[n]?=some (.dic ks xs)) (hl:(ks.zip xs).lookup z=some x):zp (.ref n) (.str z) s=.ok x s:=by
 show yW s n _=_
 unfold yW
 rw [h]
 simp only
 rw [hl]
 rfl
def Ih (i:Int) (st:aa):jY (.int i) (.int 0) st=.ok (.bl (decide (i≠0))) st:=by
 simp [jY,Mi.plain,dep,bY]
 rfl
def yU {g:PV->zf->Option zf}{body:Ak}{x:PV}{r:Aq}{e e1 e2:zf}{s s1:aa}{X:Res Fl}(h:g x e=some e1) (hb:body e1 s=.ok (.nx e2) s1) (hr:forL g body r e2 s1=X):forL g body (x::r) e s=X:=by
 unfold forL
 rw [h]
 simp only
 rw [hb,zJ]
 exact hr
section
variable {f:Aj} {e:zf} {s:aa} {xs:Aq}
variable {j:Nat} {s:aa}
variable {body:Ak} {r:Nat} {xs:Aq} {e:zf} {s s1:aa} {X:Res Fl}
variable {z:Str} {s:aa}
variable {j:Nat}
def mx {f:Aj}{gt:PV->zf->Option zf}{body:Ak}{e:zf}{s s1:aa}{xs:Aq}{X:Res Fl}(h:f e s=.ok (.tup xs) s1) (hX:forL gt body xs e s1=X):yS (yJ f) gt body e s=X:=by
 rw [nv,iK,h,zJ]
 show (Res.ok (Sq.im xs) s1).bind _=_
 rw [zJ]
 exact hX
def uZ {f:Aj}{gt:PV->zf->Option zf}{body:Ak}{e:zf}{s s1:aa}{r:Nat}{xs:Aq}{X:Res Fl}(h:f e s=.ok (.ref r) s1) (hr:s1[r]?=some (.lst xs)) (hX:forR gt body r (lim+1) 0 e s1=X):yS (yJ f) gt body e s=X:=by
 rw [nv,iK,h,zJ,ua,ym hr,zJ]
 exact hX
def V7 {f:PV}{ps:Ae}{r:Aq}(b:Int) (hb:0<=b) (hl:ps.length<=1000) (st:aa):BC [.tup (f :: .tup (ps.map PV.str)::r),.int b] st=.ok (.tup ((picks (λj=>!bitAt b j) 0 ps).map PV.str)) (st++[.lst ((picks (λj=>!bitAt b j) 0 ps).map PV.str)]):=by
 have C:=uX (ft:=(kG (mB (zt mi (zd (zc 3) (zd (zc 0) zj)))))) (fe:=zc 1) (env:=[some (.tup (f :: .tup (ps.map PV.str)::r)),some (.int b)]) (st:=st) (p:=λj=>!bitAt b j) ps 0 [] (λj z _ _=>Bj (zU (zy (zD (ze rfl) (ze rfl)) (uY b hb j st)))) (λj z=>ze rfl)
 rw [List.nil_append] at C
 refine zZ rfl (zY (zy (zF ?_) (by rw [jC,ym (ye _ _)])))
 unfold rj
 rw [zF (zo (ze rfl) rfl yA),zJ]
 show (Res.bind (if _ then _ else _) _)=_
 rw [zx (by simp [lim];omega),zJ]
 exact C
end
def jt:List (List Nat)->List Nat
 |[]=>[]
 |x::xs=>44::(x++jt xs)
def jn:List (List Nat)->List Nat
 |[]=>[]
 |x::xs=>x++jt xs
def V9 (ls:List (List Nat)):PySem.Txt.join ("," : Str) (ls.map S)=S (jn ls):=by
 show PySem.Builtin.Str.glued ("," : Str) (ls.map S)=_
 rw [PySem.StrLaws.glued_eq_join]
 have e0:("," : Str)=S [44]:=by decide +kernel
 rw [e0]
 induction ls with
 |nil=>rfl
 |cons c r ih =>
  cases r with
  |nil=>show S c=_;simp [jn,jt]
  |cons d r' =>
   show S c++S [44]++Str.join (S [44]) ((d::r').map S)=_
   rw [ih,nM,nM]
   simp [jn,jt]
theorem Ii:∀ls:List (List Nat),strsOf (ls.map λl=>PV.str (S l))=some (ls.map S)
 |[]=>rfl
 |l::ls=>by simp [strsOf,Ii ls]
theorem Ij:∀ls:List (List Nat),((ls.map S).map (·.length)).sum+ls.length<=(jt ls).length
 |[]=>by simp [jt]
 |l::ls=>by
  have:=Ij ls
  have:=iR l
  simp only [yG,List.sum_cons,wf,jt,ww];omega
def V_ (ls:List (List Nat)):(jt ls).length<=(jn ls).length+1:=by cases ls<;>simp [jt,jn]
def glue {fa:Aj}{e:zf}{st s1:aa}{r:Nat}{ls:List (List Nat)}{a b:Str}{ca cb:Nat}(h:fa e st=.ok (.ref r) s1) (hr:s1[r]?=some (.lst (ls.map λl=>PV.str (S l)))) (hl:(jn ls).length<=5000) (ea:a=S [ca]) (eb:b=S [cb]) :
  (zk yh (zk yh (Au a) (q8 (Au ",") fa)) (Au b)) e st=.ok (.str (S (ca::(jn ls++[cb])))) s1:=by
 have hs:=Ij ls
 have hj:=V_ ls
 have J:(q8 (Au ",") fa) e st=.ok (.str (S (jn ls))) s1:=by
  show (fa e st).bind _=_
  rw [h,zJ]
  show yl s1 r _=_
  rw [ym hr,Ii]
  have l1:("," : Str).length=1:=by decide +kernel
  simp only [jx,l1]
  rw [zx (by omega),V9]
 subst ea eb
 have la:=iR [ca]
 have lb:=iR [cb]
 have lj:=iR (jn ls)
 refine zo (zo rfl J (ad _ _ (by rw [la,lj];simp;omega) _)) rfl ?_
 rw [ad _ _ (by rw [nM,iR,lb];simp;omega),nM,nM]
 simp
def Ik (i:Int) (st:aa):kW [.int i] st=.ok (.str "number") st:=by kernel_rfl
def Il (xs:Aq) (st:aa):kW [.tup xs] st=.ok (.str "row") st:=by kernel_rfl
def Wa:("row" : Str) ≠ "number" := by decide +kernel
def Wb:("row" : Str) ≠ "word" := by decide +kernel
def brk (ls:List (List Nat)):List Nat:=91::(jn ls++[93])
def my {α:Type}{l:List α}{n:Nat}{x:α}(h:l[n]?=some x):n<l.length:=(yt.mp h).1
def u7 {mr:An}{xs:Aq}{ls:List (List Nat)}(hl:xs.length=ls.length) (h5:(jn ls).length<=5000) (h9:xs.length<=1000) (st:aa) (hm:∀(i:Nat) x l,xs[i]?=some x->ls[i]?=some l->∀s,Old st s->∃s1,mr [x] s=.ok (.str (S l)) s1/\Old s s1) :
  ∃s1,rD mr [.tup xs] st=.ok (.str (S (brk ls))) s1/\Old st s1:=by
 obtain ⟨ys,s1,R,hy,o⟩:=pE (fe:=zt mr (zd (zc 0) zj)) (env:=[some (.tup xs),some (.str "row"),none]) xs (λi ys s=>ys=((ls.take i).map λl=>PV.str (S l))/\Old st s) (λi x ys s hx ⟨h1,h2⟩=>by
  have hi:=my hx
  have hy:ls[i]?=some (ls[i]'(by omega)):=yr _
  obtain ⟨s1,e1,o1⟩:=hm i x _ hx hy s h2
  refine ⟨_,s1,zy (zF (ze rfl)) e1,?_,h2.trans o1⟩
  rw [h1,iS hy,wL];rfl) xs.length 0 [] st (by omega) ⟨rfl,Old.refl _⟩
 have C:(jk (yJ (zc 0)) (zt mr (zd (zc 0) zj))) [some (.tup xs),some (.str "row"),none] st=.ok (.ref s1.length) (s1++[.lst ys]):=by
  rw [l8]
  show gk _ _ (.im xs) st=_
  rw [oV,zx (by simp [lim];omega)]
  exact R
 have G:=glue (ls:=ls) (a := "[") (b := "]") (ca:=91) (cb:=93) C (by rw [ye,hy,hl,List.take_length]) h5 (by decide +kernel) (by decide +kernel)
 exact ⟨_,zZ rfl (zu (zQ (zy (zF (ze rfl)) (Il _ _))) (zu (yj (zU (zo (ze rfl) rfl (dJ Wa _)))) (zu (yj (zU (zo (ze rfl) rfl (dJ Wb _)))) (wH (jb (zU (zo (ze rfl) rfl (iU _))) (zY G)))))),o.trans (zT _ _)⟩
theorem Im:∀{ls:List (List Nat)}{m:Nat},(∀l∈ls,l.length<=m)->(jt ls).length<=ls.length*(m+1)
 |[],_,_=>by simp [jt]
 |l::ls,m,h=>by
  have h1:=h l (jf ..)
  have h2:=Im (ls:=ls) (m:=m) λz hz=>h z (jH _ hz)
  simp only [jt,wf,ww,Nat.add_mul];omega
def Wc:∀ls:List (List Nat),(jn ls).length<=(jt ls).length
 |[]=>by simp [jn,jt]
 |l::ls=>by simp [jn,jt]
def We {ls:List (List Nat)}{m:Nat}(h:∀l∈ls,l.length<=m):(jn ls).length<=ls.length*(m+1):=jv (Wc ls) (Im h)
section
variable {e:zf} {st s s1 s2:aa} {fo fi fv:Aj} {fs:Ai} {g:Ak} {x:PV} {xs ys:Aq} {c:Str} {ks:Ae} {zs:Aq} {o n:Nat}
def gE {m n:Nat}(hl:xs.length=m) (h:g (xs.map some++List.replicate (n-m) none) st=.ok (.nx e) s1):zX m n g xs st=.ok .non s1:=by
 unfold zX
 rw [zx hl,h]
 rfl
def jF {fn:Str}(h:s[o]?=some (.ins c ks xs)) (hi:insOf c=true) (hl:(ks.zip xs).lookup fn=some x):aX fn insOf excOf (.ref o) s=.ok x s:=by
 rw [EN,AI h,zx hi,hl]
 rfl
def wZ {fn:Str}(hv:fv e s=.ok x s1) (ho:fo e s1=.ok (.ref o) s1) (h:s1[o]?=some (.ins c ks xs)) (hi:insOf c=true) (hl:ks.length<1000):sFld fn insOf fo fv e s=.ok (.nx e) (s1.set o (.ins c (Mi.putK fn x ks xs).1 (Mi.putK fn x ks xs).2)):=by
 rw [QD,hv,zJ,ho,zJ]
 show (jh s1 o _).bind _=_
 rw [AI h,zx ⟨hi,hl⟩,zJ]
def wb {name:Str}{tab:Str->Option (An)}{m:An}{X:Res PV}(ho:fo e s=.ok (.ref o) s1) (h:s1[o]?=some (.ins c ks xs)) (hn:name∉ks) (ht:tab c=some m) (hf:fs e s1=.ok ys s2) (hm:m (.ref o::ys) s2=X):yF name tab fo fs e s=X:=by
 unfold yF
 rw [ho,zJ]
 show jh s1 o _=_
 unfold jh
 rw [h]
 simp only
 rw [zK hn,ht]
 simp only
 rw [hf,zJ,hm]
def Io {old:Ao}{neg:Bool}{k:List Key}{kk:Ah}(hz:c6 zs=some k) (h:cj s[n]?=some (kk,xs)):cy old neg (.tup zs) (.ref n) s=.ok (.bl (neg.xor (cG k kk))) (s.set n (.dit kk xs)):=by
 unfold cy
 simp only [hz,h]
def BX {old:Ao}{k:List Key}{kk:Ah}(hz:c6 zs=some k) (h:cj s[n]?=some (kk,xs)) (hl:f7 k kk xs=some x):aW old (.ref n) (.tup zs) s=.ok x (s.set n (.dit kk xs)):=by
 unfold aW
 simp only [hz,h,hl]
 rfl
def BZ {k:List Key}{kk:Ah}(hv:fv e s=.ok x s1) (ho:fo e s1=.ok (.ref n) s1) (hi:fi e s1=.ok (.tup zs) s1) (hz:c6 zs=some k) (h:cj s1[n]?=some (kk,xs)) (hn:cG k kk=false) (hl:kk.length<1000000) :
  wW fo fi fv e s=.ok (.nx e) (s1.set n (.dit (kk++[k]) (xs++[x]))):=by
 unfold wW
 rw [hv,zJ,ho,zJ,hi,zJ]
 have P:kR (.tup zs) x (.ref n) s1=.ok () (s1.set n (.dit (kk++[k]) (xs++[x]))):=by
  unfold kR
  simp only [hz,h]
  rw [zx (by simpa [lim] using hl)]
  unfold wI
  rw [hn]
  rfl
 rw [P,zJ]
def iW {i:Int}:aW zp (.tup xs) (.int i) s=zp (.tup xs) (.int i) s:=(rfl)
def bw (h:s[n]?=some (.lst xs)):yD [.ref n] s=.ok (.int xs.length) s:=by
 unfold yD
 simp only [h]
 rw [Qs,ym h]
def zev {so:SO}(h:s[n]?=some so):s.set n so=s:=by
 obtain ⟨hn,rfl⟩:=yt.mp h
 exact List.set_getElem_self hn
end
abbrev nV (n:Nat):PV:=.int (n:Int)
def B0 {i:Int}(h:i.natAbs<10 ^ 18):i.natAbs.log2<60:=by
 have h1:i.natAbs<2 ^ 60:=Nat.lt_trans h (by decide)
 by_cases hz:i.natAbs=0
 ·rw [hz];decide
 ·exact (Nat.log2_lt hz).mpr h1
def dM (i:Int):List Nat:=(Str.ofString (toString i)).cps.toList
def pF (i:Int):Str.ofString (toString i)=S (dM i):=(rQ _).symm
def rW {i:Int}(h:i.natAbs<10 ^ 18):(dM i).length<=70:=by
 have l:=int_text_length_le (a:=i) (k:=60) (by decide) (B0 h)
 have:=iR (dM i)
 rw [<-pF,ofString_length] at this
 omega
def Ip {i:Int}(h:i.natAbs<10 ^ 18) (st:aa):jR [.int i] st=.ok (.str (S (dM i))) st:=by
 rw [Q9,zx (Nat.lt_trans (B0 h) (by decide)),<-pF]
def Iq (mr:An) {i:Int}(h:i.natAbs<10 ^ 18) (st:aa):rD mr [.int i] st=.ok (.str (S (dM i))) st :=
 zZ rfl (zu (zQ (zy (zF (ze rfl)) (Ik _ _))) (wH (jb (zU (zo (ze rfl) rfl (iU _))) (zY (zy (zF (ze rfl)) (Ip h st))))))
def Wf:∀i:Int,toString i≠toString (i+1)
 |.ofNat m,h=>by
  have h:Nat.repr m=Nat.repr (m+1):=h
  have:=Nat.repr_injective h
  omega
 |.negSucc 0,h=>by revert h;decide
 |.negSucc (m+1),h=>by
  have h : "-" ++ Nat.repr (m+1+1) = "-" ++ Nat.repr (m+1):=h
  have h:=congrArg String.toList h
  rw [String.toList_append,String.toList_append] at h
  have h:=String.toList_inj.mp (List.append_cancel_left h)
  have:=Nat.repr_injective h
  omega
def Wg (i:Int):dM i≠dM (i+1):=λh=>by
 have h:S (dM i)=S (dM (i+1)):=congrArg S h
 rw [<-pF,<-pF] at h
 exact Wf i ((EO _ _).mp h)
abbrev RO (ks:Ae) (f:Str->Int):SO:=.dic ks (ks.map λk=>PV.int (f k))
structure Gd (ks:Ae) (f:Str->Int):Prop where
 nd:ks.Nodup
 l5:ks.length<=5
 kl:∀k∈ks,k.length<=20
 fb:∀k∈ks,(f k).natAbs<10 ^ 18
theorem lh {α:Type}{g:Str->α}{z:Str}:∀{ks:Ae},z∈ks->(ks.zip (ks.map g)).lookup z=some (g z)
 |[],h=>nomatch h
 |k::ks,h=>by
  rw [yG,List.zip_cons_cons,jy]
  by_cases q:z=k
  ·subst q;simp
  ·have ne:(z==k)=false:=by rw [beq_eq_false_iff_ne];exact q
   rw [ne]
   exact lh ((yI.mp h).resolve_left q)
def mz (ks:Ae):(bN ks).Perm ks:=List.mergeSort_perm ks d5
def Wi {ks ls:Ae}(h:ks.Perm ls):bN ks=bN ls :=
 List.Perm.eq_of_pairwise (le:=λa b=>d5 a b=true) (λa b _ _ h h'=>F0 h h') (List.pairwise_mergeSort um Bn ks) (List.pairwise_mergeSort um Bn ls) ((mz ks).trans (h.trans (mz ls).symm))
def ent (f:Str->Int) (k:Str):List Nat:=k.cps.toList++58::dM (f k)
def tR (ks:Ae) (f:Str->Int):List Nat:=123::(jn ((bN ks).map (ent f))++[125])
def Ir {ks ls:Ae}{f:Str->Int}(h:ks.Perm ls):tR ks f=tR ls f:=by unfold tR;rw [Wi h]
def Wj {a b:List (List Nat)}{x y:List Nat}(h:jt (a++x::b)=jt (a++y::b)):x=y:=by
 induction a with
 |nil=>simpa [jt] using h
 |cons c r ih =>
  simp only [List.cons_append,jt,List.cons.injEq,true_and] at h
  exact ih (List.append_cancel_left h)
def Wk {a b:List (List Nat)}{x y:List Nat}(h:jn (a++x::b)=jn (a++y::b)):x=y:=by
 cases a with
 |nil=>simpa [jn] using h
 |cons c r =>
  simp only [List.cons_append,jn] at h
  exact Wj (List.append_cancel_left h)
def Wl {ks:Ae}{f g:Str->Int}{z:Str}(nd:ks.Nodup) (hz:z∈ks) (hg:g z=f z+1) (he:∀k,k≠z->g k=f k):tR ks f≠tR ks g:=λh=>by
 unfold tR at h
 simp only [List.cons.injEq,true_and] at h
 have h:=List.append_cancel_right h
 have hm:z∈bN ks:=(mz ks).mem_iff.mpr hz
 have B4:(bN ks).Nodup:=(mz ks).nodup_iff.mpr nd
 obtain ⟨a,b,e⟩:=List.append_of_mem hm
 rw [e] at h B4
 rw [List.nodup_append] at B4
 obtain ⟨n1,n2,n3⟩:=B4
 rw [jU] at n2
 have ea:a.map (ent g)=a.map (ent f):=List.map_congr_left λk hk=>by
  unfold ent;rw [he k (λq=>n3 k hk z (jf ..) q)]
 have eb:b.map (ent g)=b.map (ent f):=List.map_congr_left λk hk=>by
  unfold ent;rw [he k (λq=>n2.1 (q▸hk))]
 rw [wL,wL,yG,yG,ea,eb] at h
 have:=Wk h
 unfold ent at this
 have:=List.append_cancel_left this
 rw [hg] at this
 simp only [List.cons.injEq,true_and] at this
 exact Wg _ this
def rX {st:aa} {n:Nat} {ks:Ae} {xs:Aq} (h:st[n]?=some (.dic ks xs)) (t:String):kS [.ref n,.ty t] st=qD (tN "dict" t) st:=by
 have e:tyP st (.ref n)=some "dict" := by show Bw st[n]?=_;rw [h];rfl
 simp only [kS,e]
def B6 {st:aa} {n:Nat} {ks:Ae} {xs:Aq} (h:st[n]?=some (.dic ks xs)):kW [.ref n] st=.ok (.str "record") st :=
 zZ rfl (zu (yj (zU (zy (zD (ze rfl) rfl) (rX h _)))) (zu (yj (zU (zy (zD (ze rfl) rfl) (rX h _)))) (wH (jb (zU (zy (zD (ze rfl) rfl) (rX h _))) (zY rfl)))))
def Iu (k:Str):k.cps.toList.length=k.length:=by cases k;simp [Str.length]
def Wm {ks:Ae}{f:Str->Int}(g:Gd ks f) {k:Str}(h:k∈ks):(ent f k).length<=91:=by
 have h1:=g.kl k h
 have h2:=rW (g.fb k h)
 unfold ent
 rw [ww,wf,Iu]
 omega
def Iv {ks:Ae}{f:Str->Int}(g:Gd ks f):(jn ((bN ks).map (ent f))).length<=460:=by
 have q:=We (ls:=(bN ks).map (ent f)) (m:=91) λl hl=>by
  obtain ⟨k,hk,rfl⟩:=jI.mp hl
  exact Wm g ((mz ks).mem_iff.mp hk)
 have l:=(mz ks).length_eq
 have:=g.l5
 rw [jx,l] at q
 omega
def Wn {ks:Ae}{f:Str->Int}(g:Gd ks f):(tR ks f).length<=462:=by
 have:=Iv g
 unfold tR
 rw [wf,ww,vK]
 omega
def Iw {m:Nat}{st:aa}{n:Nat}{ks:Ae}{f:Str->Int}(h:st[n]?=some (RO ks f)) (g:Gd ks f):∃s1,rD (jZ (m+1)) [.ref n] st=.ok (.str (S (tR ks f))) s1/\Old st s1:=by
 have l5:=g.l5
 have so:o_ [.ref n] st=.ok (.ref st.length) (st++[.lst ((bN ks).map PV.str)]):=by
  show yW st n _=_
  rw [qT h,zx (by omega)]
 have ls:(bN ks).length=ks.length:=(mz ks).length_eq
 obtain ⟨ys,s1,R,hy,o,ha⟩:=BL (fe:=(zk yh (zk yh (zc 0) (Au ":")) (zt (jZ (m+1)) (zd (zk zp (zc 1) (zc 0)) zj)))) (env:=[Av n,some (.str "record"),none]) (n:=st.length) ((bN ks).map PV.str) (λi ys s=>ys=(((bN ks).take i).map λk=>PV.str (S (ent f k)))/\Old st s/\s[st.length]?=some (.lst ((bN ks).map PV.str))) (λi ys s h=>h.2.2) (λi x ys s hx ⟨h1,h2,h3⟩=>by
  rw [jo] at hx
  obtain ⟨k,hk,rfl⟩:=Option.map_eq_some_iff.mp hx
  have km:=(mz ks).mem_iff.mp (iq hk)
  have ix:zp (.ref n) (.str k) s=.ok (.int (f k)) s:=wu (h2 _ _ h) (lh (g:=λk=>PV.int (f k)) km)
  have e1:=Iq (jZ m) (g.fb k km) s
  have lk:=g.kl k km
  have lt:=rW (g.fb k km)
  have c1:(":" : Str)=S [58]:=by decide +kernel
  have c2:(":" : Str).length=1:=by decide +kernel
  refine ⟨_,s,zo (zo (ze rfl) rfl (ad _ _ (by rw [c2];omega) _)) (zy (zF (zo (ze rfl) (ze rfl) ix)) e1) (ad _ _ (by
   rw [c1,HK,iR,iR]
   have e:=Iu k
   simp only [ww,vK];omega) _),?_,h2,h3⟩
  rw [h1,iS hk,wL,c1,HK,nM]
  simp [ent]) (bN ks).length 0 (lim+1) [] (st++[.lst ((bN ks).map PV.str)]) (by simp) (by simp [lim];omega) ⟨rfl,zT _ _,ye _ _⟩
 have C:(jk (yJ (zt o_ (zd (zc 0) zj))) (zk yh (zk yh (zc 0) (Au ":")) (zt (jZ (m+1)) (zd (zk zp (zc 1) (zc 0)) zj)))) [Av n,some (.str "record"),none] st=.ok (.ref s1.length) (s1++[.lst ys]):=by
  rw [l8]
  show ((zt o_ (zd (zc 0) zj) [Av n,some (.str "record"),none] st).bind _).bind _=_
  rw [zy (zF (ze rfl)) so]
  simp only [zJ,kK]
  rw [ym (ye _ _)]
  exact R
 have G:=glue (fa:=zc 2) (e:=[Av n,some (.str "record"),Av s1.length]) (st:=s1++[.lst ys]) (ls:=(bN ks).map (ent f)) (a := "{") (b := "}") (ca:=123) (cb:=125) (ze rfl) (by rw [ye,hy,jx,List.take_length,List.map_map];rfl) (by have:=Iv g;omega) (by decide +kernel) (by decide +kernel)
 exact ⟨_,zZ rfl (zu (zQ (zy (zF (ze rfl)) (B6 h))) (zu (yj (zU (zo (ze rfl) rfl (dJ (by decide +kernel) _)))) (zu (yj (zU (zo (ze rfl) rfl (dJ (by decide +kernel) _)))) (zu (yj (zU (zo (ze rfl) rfl (dJ (by decide +kernel) _)))) (zu (zQ C) (zY G)))))),o.trans (zT _ _)⟩
abbrev hV (b:Bool) (n:Nat):PV:=if b then .tup [.int 7,.ref n] else .ref n
def tH (b:Bool) (ks:Ae) (f:Str->Int):List Nat:=brk [if b then brk [dM 7,tR ks f] else tR ks f]
def B7 {b:Bool}{ks ls:Ae}{f:Str->Int}(h:ks.Perm ls):tH b ks f=tH b ls f:=by unfold tH;rw [Ir h]
def Wo {b:Bool}{ks ls:Ae}{f g:Str->Int}(h:tH b ks f=tH b ls g):tR ks f=tR ls g:=by
 unfold tH brk at h
 cases b<;>simp [jn,jt] at h<;>exact h
def Iy {b:Bool}{st:aa}{n:Nat}{ks:Ae}{f:Str->Int}(h:st[n]?=some (RO ks f)) (g:Gd ks f):∃s1,jZ 5 [.tup [hV b n]] st=.ok (.str (S (tH b ks f))) s1/\Old st s1:=by
 have hl:=Wn g
 have h7:(dM 7).length<=70:=rW (by decide)
 cases b with
 |false =>
  exact u7 (mr:=jZ 4) (xs:=[.ref n]) (ls:=[tR ks f]) rfl (by simp [jn,jt];omega) (by simp) st λi x l hx hy s o=>by
   match i with
   |0=>cases hx;cases hy;exact Iw (m:=2) (o _ _ h) g
   |i+1=>cases hx
 |true =>
  refine u7 (mr:=jZ 4) (xs:=[.tup [.int 7,.ref n]]) (ls:=[brk [dM 7,tR ks f]]) rfl (by simp [jn,jt,brk];omega) (by simp) st λi x l hx hy s o=>?_
  match i with
  |0 =>
   cases hx;cases hy
   refine u7 (mr:=jZ 3) (xs:=[.int 7,.ref n]) (ls:=[dM 7,tR ks f]) rfl (by simp [jn,jt];omega) (by simp) s λi x l hx hy s' o'=>?_
   match i with
   |0=>cases hx;cases hy;exact ⟨s',Iq (jZ 2) (by decide) s',Old.refl _⟩
   |1=>cases hx;cases hy;exact Iw (m:=1) (o' _ _ (o _ _ h)) g
   |i+2=>cases hx
  |i+1=>cases hx
def Iz (st:aa) (a b:SO):(st++[a]).set st.length b=st++[b]:=by simp
abbrev nR (v:PV):SO:=.ins "Known" ["value"] [v]
abbrev iX (z:Str):SO:=.ins "Later" ["name"] [.str z]
def B8 (v:PV) (st:aa):bZ "Known" kX [v] st=.ok (.ref st.length) (st++[nR v]):=by
 have E:kX [.ref st.length,v] (st++[SO.ins "Known" [] []])=.ok .non ((st++[SO.ins "Known" [] []]).set st.length (nR v)):=gE rfl (wZ (ze rfl) (ze rfl) (ye _ _) (by decide +kernel) (by decide))
 show (kX [.ref st.length,v] (st++[SO.ins "Known" [] []])).bind _=_
 rw [E,zJ,Iz]
 rfl
def B9 (z:Str) (st:aa):bZ "Later" iP [.str z] st=.ok (.ref st.length) (st++[iX z]):=by
 have E:iP [.ref st.length,.str z] (st++[SO.ins "Later" [] []])=.ok .non ((st++[SO.ins "Later" [] []]).set st.length (iX z)):=gE rfl (wZ (ze rfl) (ze rfl) (ye _ _) (by decide +kernel) (by decide))
 show (iP [.ref st.length,.str z] (st++[SO.ins "Later" [] []])).bind _=_
 rw [E,zJ,Iz]
 rfl
def Kx (ms:List Nat) (s s':aa):Prop:=∀(m:Nat) so,m∉ms->s[m]?=some so->s'[m]?=some so
def Kx.refl (ms:List Nat) (s:aa):Kx ms s s:=λ_ _ _ e=>e
def Kx.trans {ms:List Nat}{a b c:aa}(h:Kx ms a b) (h':Kx ms b c):Kx ms a c:=λm so q e=>h' m so q (h m so q e)
def Old.kx {ms:List Nat}{s s':aa}(h:Old s s'):Kx ms s s':=λm so _ e=>h m so e
def yL {ms:List Nat}{s:aa}{n:Nat}{so:SO}(h:n∈ms):Kx ms s (s.set n so):=λm x q e=>by
 have ne:n≠m:=λz=>q (z▸h)
 rw [yB ne];exact e
def KI (s s':aa):Prop:=∀(q:Nat) c ks xs,s[q]?=some (.ins c ks xs)->s'[q]?=some (.ins c ks xs)
def KI.trans {a b c:aa}(h:KI a b) (h':KI b c):KI a c:=λq x y z e=>h' _ _ _ _ (h q x y z e)
def Old.ki {s s':aa}(h:Old s s'):KI s s':=λq _ _ _ e=>h q _ e
def mD {s:aa}{n:Nat}{so oN:SO}(h:s[n]?=some so) (hn:∀c ks xs,so ≠ .ins c ks xs):KI s (s.set n oN):=λq c ks xs e=>by
 have ne:n≠q:=λz=>by subst z;rw [h] at e;cases e;exact hn _ _ _ rfl
 rw [yB ne];exact e
abbrev Ev:=List (Str×Option PV)
def obj (z:Str):Option PV->SO
 |none=>iX z
 |some y=>nR y
def Th (s:aa):Ev->List PV->Prop
 |[],vs=>vs=[]
 | (z,x)::E,vs=>∃q r,vs=.ref q::r/\s[q]?=some (obj z x)/\Th s E r
def IA (z:Str) (x:Ar):∃c ks xs,obj z x=.ins c ks xs:=by cases x<;>exact ⟨_,_,_,rfl⟩
theorem Th.ki {s s':aa}(k:KI s s'):∀{E:Ev}{vs:Aq},Th s E vs->Th s' E vs
 |[],_,h=>h
 | (z,x)::E,_,h=>by
  obtain ⟨q,r,e,h1,h2⟩:=h
  obtain ⟨c,ks,xs,eo⟩:=IA z x
  exact ⟨q,r,e,by rw [eo] at h1 ⊢;exact k _ _ _ _ h1,Th.ki k h2⟩
theorem Th.snoc {s:aa}{z:Str}{x:Ar}{q:Nat}(hq:s[q]?=some (obj z x)):∀{E:Ev}{vs:Aq},Th s E vs->Th s (E++[(z,x)]) (vs++[.ref q])
 |[],_,h=>by rw [show _=[] from h];exact ⟨q,[],rfl,hq,rfl⟩
 | (z',x')::E,_,h=>by
  obtain ⟨q',r,e,h1,h2⟩:=h
  rw [e]
  exact ⟨q',_,rfl,h1,Th.snoc hq h2⟩
theorem Th.get {s:aa}{z:Str}{x:Ar}:∀{E:Ev}{vs:Aq},Th s E vs->E.lookup z=some x->∃q,((E.map (·.1)).zip vs).lookup z=some (.ref q)/\s[q]?=some (obj z x)
 |[],_,_,h=>by cases h
 | (z',x')::E,_,h,hl=>by
  obtain ⟨q',r,e,h1,h2⟩:=h
  rw [e,yG,List.zip_cons_cons,jy]
  rw [jy] at hl
  cases hz:z==z' with
  |true =>
   rw [hz] at hl
   cases hl
   have:z=z':=by simpa using hz
   subst this
   exact ⟨q',rfl,h1⟩
  |false =>
   rw [hz] at hl
   exact Th.get h2 hl
def Tg (T:Nat) (E:Ev) (s:aa):Prop:=∃vs,s[T]?=some (.dic (E.map (·.1)) vs)/\Th s E vs
def Tg.old {T:Nat}{E:Ev}{s s':aa}(h:Tg T E s) (o:Old s s'):Tg T E s':=by
 obtain ⟨vs,a,b⟩:=h
 exact ⟨vs,o _ _ a,b.ki o.ki⟩
def Tg.kx {T:Nat}{ms:List Nat}{E:Ev}{s s':aa}(h:Tg T E s) (o:Kx ms s s') (k:KI s s') (hT:T∉ms):Tg T E s':=by
 obtain ⟨vs,a,b⟩:=h
 exact ⟨vs,o _ _ hT a,b.ki k⟩
def Tg.put {T:Nat}{E:Ev}{s:aa}{z:Str}(h:Tg T E s) (hz:z∉E.map (·.1)) (x:Ar):∃vs,s[T]?=some (.dic (E.map (·.1)) vs)/\jK z (.ref s.length) (E.map (·.1)) vs=(E.map (·.1)++[z],vs++[.ref s.length]) /\
  Tg T (E++[(z,x)]) ((s++[obj z x]).set T (.dic (E.map (·.1)++[z]) (vs++[.ref s.length])))/\KI s ((s++[obj z x]).set T (.dic (E.map (·.1)++[z]) (vs++[.ref s.length])))/\Kx [T] s ((s++[obj z x]).set T (.dic (E.map (·.1)++[z]) (vs++[.ref s.length]))):=by
 obtain ⟨vs,a,b⟩:=h
 have a1:(s++[obj z x])[T]?=some (.dic (E.map (·.1)) vs):=zT _ _ _ _ a
 have k2:KI (s++[obj z x]) ((s++[obj z x]).set T (.dic (E.map (·.1)++[z]) (vs++[.ref s.length]))):=mD a1 (by intro _ _ _ q;cases q)
 have k1:KI s (s++[obj z x]):=(zT _ _).ki
 obtain ⟨c,ks,xs,eo⟩:=IA z x
 refine ⟨vs,a,rT hz,⟨vs++[.ref s.length],?_,?_⟩,k1.trans k2,(zT _ _).kx.trans (yL (by simp))⟩
 ·rw [yp (zR a1)];simp
 ·refine Th.snoc ?_ (b.ki (k1.trans k2))
  have t:(s++[obj z x])[s.length]?=some (obj z x):=ye _ _
  rw [eo] at t k2 ⊢
  exact k2 _ _ _ _ t
def hW {fo fi fv:Aj}{e:zf}{s s1:aa}{r:Nat}{z:Str}{x:PV}{ks cq:Ae}{xs dG:Aq}(hd:jK z x ks xs=(cq,dG)) (hv:fv e s=.ok x s1) (ho:fo e s1=.ok (.ref r) s1) (hi:fi e s1=.ok (.str z) s1) (hr:s1[r]?=some (.dic ks xs)) (hl:ks.length<=1000) :
  je fo fi fv e s=.ok (.nx e) (s1.set r (.dic cq dG)):=by
 have h:=HL hv ho hi hr hl
 rw [hd] at h
 exact h
abbrev lu (r La T:Nat) (gs:PV):SO:=.ins "Making" ["ring", "later", "goals", "things"] [.ref r,.ref La,gs,.ref T]
structure Mg (lt:Ae) (o La T:Nat) (E:Ev) (s:aa):Prop where
 ob:∃r gs,s[o]?=some (lu r La T gs)
 la:s[La]?=some (.dic lt (bP lt))
 th:Tg T E s
 ne:La≠T
section
variable {lt:Ae} {o La T:Nat} {E:Ev} {s s':aa}
theorem Mg.old (h:Mg lt o La T E s) (k:Old s s'):Mg lt o La T E s':=by
 obtain ⟨r,gs,e⟩:=h.ob
 exact ⟨⟨r,gs,k _ _ e⟩,k _ _ h.la,h.th.old k,h.ne⟩
theorem Mg.kx {ms:List Nat}(h:Mg lt o La T E s) (k:Kx ms s s') (i:KI s s') (h1:La∉ms) (h2:T∉ms):Mg lt o La T E s':=by
 obtain ⟨r,gs,e⟩:=h.ob
 exact ⟨⟨r,gs,i _ _ _ _ e⟩,k _ _ h1 h.la,h.th.kx k i h2,h.ne⟩
def Mg.put {z:Str}{x:Ar}{vs:Aq}{t:aa}(h:Mg lt o La T E s) (ht:t=(s++[obj z x]).set T (.dic (E.map (·.1)++[z]) (vs++[.ref s.length]))) (g:Tg T (E++[(z,x)]) t) (i:KI s t) (k:Kx [T] s t):Mg lt o La T (E++[(z,x)]) t:=by
 obtain ⟨r,gs,e⟩:=h.ob
 exact ⟨⟨r,gs,i _ _ _ _ e⟩,k _ _ (by simpa using h.ne) h.la,g,h.ne⟩
def nS (h:Mg lt o La T E s):aX "things" insOf excOf (.ref o) s=.ok (.ref T) s:=by
 obtain ⟨r,gs,e⟩:=h.ob
 exact jF e (by decide +kernel) rfl
end
def u9 {fs:Ai}{gt:PV->zf->Option zf}{body:Ak}{e:zf}{s s1:aa}{xs ys:Aq}{X:Res Fl}(h:fs e s=.ok [.tup xs,.tup ys] s1) (hX:forL gt body (jQ xs ys) e s1=X):yS (oU fs) gt body e s=X:=by
 rw [nv,QB,h,zJ]
 show (Res.ok (Sq.im (jQ xs ys)) s1).bind _=_
 rw [zJ]
 exact hX
abbrev gI (kp:List (Str×PV)):Ev:=kp.map λp=>(p.1,some p.2)
abbrev iY (ls:Ae):Ev:=ls.map λz=>(z,none)
theorem IB:∀kp:List (Str×PV),jQ ((kp.map (·.1)).map PV.str) (kp.map (·.2))=kp.map λp=>.tup [.str p.1,p.2]
 |[]=>rfl
 |p::kp=>by
  have:=IB kp
  unfold jQ at this ⊢
  simp only [yG,List.zip_cons_cons,this]
abbrev bK:Ak:=(je (yc (aX "things" insOf excOf) (zc 0)) (zc 5) (zt (bZ "Known" kX) (zd (zc 6) zj)))
abbrev bL:Ak:=(je (yc (aX "things" insOf excOf) (zc 0)) (zc 5) (zt (bZ "Later" iP) (zd (zc 5) zj)))
abbrev eK (o r:Nat) (fv fm vs:PV) (z5 z6:Ar):zf:=[Av o,Av r,some fv,some fm,some vs,z5,z6]
def Wq {l:Ae}{K:Ae}(nd:(K++l).Nodup) {i:Nat}{z:Str}(hz:l[i]?=some z):z∉K++l.take i:=λhm=>by
 have h1:(K++l)[K.length+i]?=some z:=by rw [iw (by omega)];simpa using hz
 have h2:K++l.take i=(K++l).take (K.length+i):=by rw [List.take_length_add_append]
 rw [h2] at hm
 exact Ig nd h1 hm
def IC (kp:List (Str×PV)):(gI kp).map (·.1)=kp.map (·.1):=by simp [gI]
def Wr (ls:Ae):(iY ls).map (·.1)=ls:=by unfold iY;rw [List.map_map];exact List.map_id ls
def Ws {kp:List (Str×PV)}{i:Nat}{p:Str×PV}(h:kp[i]?=some p):gI (kp.take i)++[(p.1,some p.2)]=gI (kp.take (i+1)):=by rw [iS h];simp [gI]
def Wt {ls:Ae}{i:Nat}{z:Str}(h:ls[i]?=some z):iY (ls.take i)++[(z,none)]=iY (ls.take (i+1)):=by rw [iS h];simp [iY]
section
variable {lt:Ae} {o r La T:Nat} {fv fm vs:PV} {E:Ev} {s:aa} {z:Str}
def Wu (M:Mg lt o La T E s) (hz:z∉E.map (·.1)) (hl:E.length<=1000) (v:PV):∃t,bK (eK o r fv fm vs (some (.str z)) (some v)) s=.ok (.nx (eK o r fv fm vs (some (.str z)) (some v))) t/\Mg lt o La T (E++[(z,some v)]) t/\Kx [T] s t:=by
 obtain ⟨us,hT,hd,g,i,k⟩:=M.th.put hz (some v)
 have o1:Old s (s++[nR v]):=zT _ _
 exact ⟨_,hW hd (s1:=s++[nR v]) (zy (zF (ze rfl)) (B8 v s)) (yE (ze rfl) (nS (M.old o1))) (ze rfl) (o1 _ _ hT) (by simpa using hl),M.put rfl g i k,k⟩
def Wv (M:Mg lt o La T E s) (hz:z∉E.map (·.1)) (hl:E.length<=1000) {z6:Ar}:∃t,bL (eK o r fv fm vs (some (.str z)) z6) s=.ok (.nx (eK o r fv fm vs (some (.str z)) z6)) t/\Mg lt o La T (E++[(z,none)]) t/\Kx [T] s t:=by
 obtain ⟨us,hT,hd,g,i,k⟩:=M.th.put hz none
 have o1:Old s (s++[iX z]):=zT _ _
 exact ⟨_,hW hd (s1:=s++[iX z]) (zy (zF (ze rfl)) (B9 z s)) (yE (ze rfl) (nS (M.old o1))) (ze rfl) (o1 _ _ hT) (by simpa using hl),M.put rfl g i k,k⟩
end
def ID {f gs:PV}{nz:Str}{ps lt:Ae}{rest:Aq}{b:Int}(hb:0<=b) {kp:List (Str×PV)}(hk:picks (λj=>!bitAt b j) 0 ps=kp.map (·.1)) (hp:ps.length<=100) (bO:lt.Nodup) (hl:lt.length<=1000) (nd:(kp.map (·.1)++picks (bitAt b) 0 ps).Nodup) (r:Nat) (st:aa) :
  ∃La T s1,bZ "Making" rF [.ref r,.tup (f :: .tup (ps.map PV.str)::rest),.tup [.str nz,.int b,.tup (lt.map PV.str),gs],.tup (kp.map (·.2))] st=.ok (.ref st.length) s1/\Mg lt st.length La T (gI kp++iY (picks (bitAt b) 0 ps)) s1/\st.length<La/\La<T/\s1[st.length]?=some (lu r La T gs)/\Old st s1:=by
 have lk:kp.length<=100:=by
  have:(kp.map (·.1)).length<=ps.length:=by rw [<-hk];exact nQ.length_le
  rw [jx] at this;omega
 have ll:(picks (bitAt b) 0 ps).length<=100:=by have:(picks (bitAt b) 0 ps).length<=ps.length:=nQ.length_le;omega
 generalize hfv:PV.tup (f :: .tup (ps.map PV.str)::rest)=fv
 generalize hfm:PV.tup [.str nz,.int b,.tup (lt.map PV.str),gs]=fm
 let o:=st.length
 let t0:=st++[SO.ins "Making" [] []]
 have h0:t0[o]?=some (.ins "Making" [] []):=ye _ _
 have l0:t0.length=o+1:=by simp [t0,o]
 let t1:=t0.set o (.ins "Making" ["ring"] [.ref r])
 have h1:t1[o]?=some (.ins "Making" ["ring"] [.ref r]):=yp (zR h0)
 have l1:t1.length=o+1:=by simp [t1,l0]
 obtain ⟨t2,E2,d2,o2⟩:=uV lt bO hl t1
 have h2:=o2 _ _ h1
 let t3:=t2.set o (.ins "Making" ["ring", "later"] [.ref r,.ref t1.length])
 have h3:t3[o]?=some (.ins "Making" ["ring", "later"] [.ref r,.ref t1.length]):=yp (zR h2)
 let t4:=t3.set o (.ins "Making" ["ring", "later", "goals"] [.ref r,.ref t1.length,gs])
 have h4:t4[o]?=some (.ins "Making" ["ring", "later", "goals"] [.ref r,.ref t1.length,gs]):=yp (zR h3)
 have d4:t4[t1.length]?=some (.dic lt (bP lt)):=by
  show ((t2.set o _).set o _)[t1.length]?=_
  rw [yB (by omega),yB (by omega)];exact d2
 have lT:t1.length<t4.length:=zR d4
 let T:=t4.length
 let t5:=t4++[SO.dic [] []]
 have h5:t5[o]?=some (.ins "Making" ["ring", "later", "goals"] [.ref r,.ref t1.length,gs]):=zT _ _ _ _ h4
 have T5:t5[T]?=some (.dic [] []):=ye _ _
 let t6:=t5.set o (lu r t1.length T gs)
 have h6:t6[o]?=some (lu r t1.length T gs):=yp (zR h5)
 have T6:t6[T]?=some (.dic [] []):=by rw [yB (by omega)];exact T5
 have d6:t6[t1.length]?=some (.dic lt (bP lt)):=by rw [yB (by omega)];exact zT _ _ _ _ d4
 have k6:Old st t6:=λm so e=>by
  have hm:=zR e
  have ne:o≠m:=by show st.length≠m;omega
  show (t5.set o _)[m]?=_
  rw [yB ne]
  refine zT _ _ _ _ ?_
  show ((t2.set o _).set o _)[m]?=_
  rw [yB ne,yB ne]
  refine o2 _ _ ?_
  show (t0.set o _)[m]?=_
  rw [yB ne]
  exact zT _ _ _ _ e
 let t7:=t6++[SO.lst ((picks (λj=>!bitAt b j) 0 ps).map PV.str)]
 have M7:Mg lt o t1.length T (gI (kp.take 0)) t7:=(show Mg lt o t1.length T [] t6 from ⟨⟨_,_,h6⟩,d6,⟨[],T6,rfl⟩,by omega⟩).old (zT _ _)
 obtain ⟨e8,t8,F8,⟨y5,y6,Ww⟩,M8,K8⟩:=eV (g:=g2 5 6) (body:=bK) (kp.map λp=>PV.tup [.str p.1,p.2]) (λi e s=>(∃z5 z6,e=eK o r fv fm (.tup (kp.map (·.2))) z5 z6)/\Mg lt o t1.length T (gI (kp.take i)) s/\Kx [T] t7 s) (λi x e s hx ⟨⟨z5,z6,he⟩,M,K⟩=>by
  subst he
  rw [jo] at hx
  obtain ⟨p,oG,rfl⟩:=Option.map_eq_some_iff.mp hx
  have zn:p.1∉(gI (kp.take i)).map (·.1):=by
   rw [IC,List.map_take]
   exact Ig (List.nodup_append.mp nd).1 (by rw [jo,oG];rfl)
  obtain ⟨t,E,M',K'⟩:=Wu (r:=r) (fv:=fv) (fm:=fm) (vs:=.tup (kp.map (·.2))) M zn (by simp;omega) p.2
  rw [Ws oG] at M'
  exact ⟨_,_,t,rfl,E,⟨_,_,rfl⟩,M',K.trans K'⟩) kp.length 0 (eK o r fv fm (.tup (kp.map (·.2))) none none) t7 (by simp) ⟨⟨none,none,rfl⟩,M7,Kx.refl _ _⟩
 subst Ww
 rw [jx,List.take_length] at M8
 let t9:=t8++[SO.lst ((picks (bitAt b) 0 ps).map PV.str)]
 have M9:Mg lt o t1.length T (gI kp++iY ((picks (bitAt b) 0 ps).take 0)) t9:=by simpa [iY] using M8.old (zT _ _)
 obtain ⟨ZQ,IE,IF,⟨w5,w6,IG⟩,IH,II⟩:=eV (g:=gN 5) (body:=bL) ((picks (bitAt b) 0 ps).map PV.str) (λi e s=>(∃z5 z6,e=eK o r fv fm (.tup (kp.map (·.2))) z5 z6)/\Mg lt o t1.length T (gI kp++iY ((picks (bitAt b) 0 ps).take i)) s/\Kx [T] t9 s) (λi x e s hx ⟨⟨z5,z6,he⟩,M,K⟩=>by
  subst he
  rw [jo] at hx
  obtain ⟨z,hz,rfl⟩:=Option.map_eq_some_iff.mp hx
  have zn:z∉(gI kp++iY ((picks (bitAt b) 0 ps).take i)).map (·.1):=by
   rw [wL,IC,Wr]
   exact Wq nd hz
  obtain ⟨t,E,M',K'⟩:=Wv (r:=r) (fv:=fv) (fm:=fm) (vs:=.tup (kp.map (·.2))) (z6:=z6) M zn (by simp;omega)
  rw [wM,Wt hz] at M'
  exact ⟨_,_,t,rfl,E,⟨_,_,rfl⟩,M',K.trans K'⟩) (picks (bitAt b) 0 ps).length 0 (eK o r fv fm (.tup (kp.map (·.2))) y5 y6) t9 (by simp) ⟨⟨_,_,rfl⟩,M9,Kx.refl _ _⟩
 subst IG
 rw [jx,List.take_length] at IH
 rw [List.drop_zero] at F8 IF
 have KP:=V7 (f:=f) (r:=rest) (ps:=ps) b hb (by omega) t6
 rw [hfv] at KP
 rw [hk] at KP
 have LP:=rS (f:=f) (r:=rest) (ps:=ps) b hb (by omega) t8
 rw [hfv] at LP
 have i1:∀{s:aa},zp fm (.int 1) s=.ok (.int b) s:=by subst hfm;exact yA
 have i2:∀{s:aa},zp fm (.int 2) s=.ok (.tup (lt.map PV.str)) s:=by subst hfm;exact wa
 have i3:∀{s:aa},zp fm (.int 3) s=.ok gs s:=by subst hfm;exact mq
 have E:rF [.ref o,.ref r,fv,fm,.tup (kp.map (·.2))] t0=.ok .non IE:=gE rfl (zu (wZ (ze rfl) (ze rfl) h0 (by decide +kernel) (by decide)) (zu (wZ (zy (zF (zo (ze rfl) rfl i2)) E2) (ze rfl) h2 (by decide +kernel) (by decide)) (zu (wZ (zo (ze rfl) rfl i3) (ze rfl) h3 (by decide +kernel) (by decide)) (zu (wZ (x:=.ref T) (s1:=t5) rfl (ze rfl) h5 (by decide +kernel) (by decide)) (zu (u9 (zD (zy (zD (ze rfl) (zo (ze rfl) rfl i1)) KP) (ze rfl)) (by rw [IB,<-hk];exact F8)) (mx (zy (zD (ze rfl) (zo (ze rfl) rfl i1)) LP) IF))))))
 have oT:¬st.length=t4.length:=by omega
 refine ⟨t1.length,T,IE,?_,IH,by show st.length<t1.length;omega,lT,II _ _ (by simpa using oT) (zT _ _ _ _ (K8 _ _ (by simpa using oT) (zT _ _ _ _ h6))),λm so e=>?_⟩
 ·show (rF [.ref o,.ref r,fv,fm,.tup (kp.map (·.2))] t0).bind _=_
  rw [E,zJ]
  rfl
 ·have hm:=zR e
  have ne:m∉[T]:=by simp;omega
  exact II _ _ ne (zT _ _ _ _ (K8 _ _ ne (zT _ _ _ _ (k6 _ _ e))))
abbrev aZ (z:Str):PV:=.tup [.str "of", .str z]
abbrev bR (v:PV):PV:=.tup [.str "is", v]
abbrev bp (z w:Str) (as:Aq):PV:=.tup [.str "let", .str z,.str w,.tup as]
inductive cI (E:Ev):PV->Option PV->PV->Prop
 |is (v:PV):cI E (bR v) (some v) (bR v)
 |kn (z:Str) (v:PV):E.lookup z=some (some v)->cI E (aZ z) (some v) (bR v)
 |la (z:Str):E.lookup z=some none->cI E (aZ z) none (aZ z)
def Old.len {s s':aa}(o:Old s s'):s.length<=s'.length:=by
 rcases Nat.lt_or_ge s'.length s.length with q|q
 ·have h1:s[s'.length]?=some (s[s'.length]'q):=yr _
  have:=zR (o _ _ h1)
  omega
 ·exact q
def IJ:("of" : Str) ≠ "is" := by decide +kernel
def Ob (s:aa) (v:PV) (x:Ar) (b:PV):Prop:=∃q,v=.ref q/\((∃y,x=some y/\s[q]?=some (nR y)/\b=bR y)\/(∃z,x=none/\s[q]?=some (iX z)/\b=aZ z))
section
variable {T q:Nat} {E:Ev} {s s1 s':aa} {a b v:PV} {x:Ar} {e:zf}
def Ob.old (h:Ob s v x b) (k:Old s s'):Ob s' v x b:=by
 obtain ⟨q,e,⟨y,h1,h2,h3⟩|⟨z,h1,h2,h3⟩⟩:=h
 ·exact ⟨q,e,.inl ⟨y,h1,k _ _ h2,h3⟩⟩
 ·exact ⟨q,e,.inr ⟨z,h1,k _ _ h2,h3⟩⟩
def IK (h:Tg T E s) (hs:cI E a x b):∃v s1,rG [a,.ref T] s=.ok v s1/\Ob s1 v x b/\Old s s1:=by
 cases hs with
 |is v=>exact ⟨_,_,zZ rfl (wH (jb (zU (zo (zo (ze rfl) rfl yz) rfl (iU _))) (zY (zy (zF (zo (ze rfl) rfl yA)) (B8 v s))))),⟨_,rfl,.inl ⟨v,rfl,ye _ _,rfl⟩⟩,zT _ _⟩
 |kn z v hl =>
  obtain ⟨vs,hT,ht⟩:=h
  obtain ⟨q,h1,h2⟩:=ht.get hl
  exact ⟨_,s,zZ rfl (zu (yj (zU (zo (zo (ze rfl) rfl yz) rfl (dJ IJ _)))) (zY (zo (ze rfl) (zo (ze rfl) rfl yA) (wu hT h1)))),⟨q,rfl,.inl ⟨v,rfl,h2,rfl⟩⟩,Old.refl _⟩
 |la z hl =>
  obtain ⟨vs,hT,ht⟩:=h
  obtain ⟨q,h1,h2⟩:=ht.get hl
  exact ⟨_,s,zZ rfl (zu (yj (zU (zo (zo (ze rfl) rfl yz) rfl (dJ IJ _)))) (zY (zo (ze rfl) (zo (ze rfl) rfl yA) (wu hT h1)))),⟨q,rfl,.inr ⟨z,rfl,h2,rfl⟩⟩,Old.refl _⟩
def B_ {fo:Aj} (h:Ob s v x b) (ho:fo e s=.ok v s):yF "atom" iQ fo zj e s=.ok b s:=by
 obtain ⟨q,rfl,⟨y,_,h1,rfl⟩|⟨z,_,h1,rfl⟩⟩:=h
 ·exact wb ho h1 (by decide +kernel) (zx rfl) jS (zZ rfl (zY (zP (zD rfl (yE (ze rfl) (jF h1 (by decide +kernel) rfl))) (by simp))))
 ·have ht:iQ "Later" = some m_Later_atom:=by unfold iQ;rw [zK (by decide +kernel),zx rfl]
  exact wb ho h1 (by decide +kernel) ht jS (zZ rfl (zY (zP (zD rfl (yE (ze rfl) (jF h1 (by decide +kernel) rfl))) (by simp))))
def IL {fo:Aj} {y:PV} (h:Ob s v (some y) b) (ho:fo e s=.ok v s):yc (aX "value" insOf excOf) fo e s=.ok y s:=by
 obtain ⟨q,rfl,⟨y',h0,h1,rfl⟩|⟨z,h0,h1,rfl⟩⟩:=h
 ·cases h0
  exact yE ho (jF h1 (by decide +kernel) rfl)
 ·cases h0
end
structure SL (E:Ev) (as:Aq) (xs:List (Ar)) (bs:Aq):Prop where
 l1:as.length=xs.length
 l2:as.length=bs.length
 at_:∀(i:Nat) a x b,as[i]?=some a->xs[i]?=some x->bs[i]?=some b->cI E a x b
def SL.two {E:Ev}{a a':PV}{x x':Ar}{b b':PV}(h:cI E a x b) (h':cI E a' x' b'):SL E [a,a'] [x,x'] [b,b']:=⟨rfl,rfl,λi a x b e1 e2 e3=>by
 match i with
 |0=>cases e1;cases e2;cases e3;exact h
 |1=>cases e1;cases e2;cases e3;exact h'
 |i+2=>cases e1⟩
structure rY (s:aa) (vs:Aq) (xs:List (Ar)) (bs:Aq):Prop where
 l1:vs.length=xs.length
 l2:vs.length=bs.length
 at_:∀(i:Nat) v x b,vs[i]?=some v->xs[i]?=some x->bs[i]?=some b->Ob s v x b
section
variable {lt:Ae} {o La T q n:Nat} {E:Ev} {s s1 s':aa} {as bs vs:Aq} {xs:List (Ar)} {e:zf}
theorem rY.old (h:rY s vs xs bs) (k:Old s s'):rY s' vs xs bs:=⟨h.l1,h.l2,λi v x b e1 e2 e3=>(h.at_ i v x b e1 e2 e3).old k⟩
def Wx (M:Mg lt o La T E s) (h:SL E as xs bs) (hl:as.length<=1000):∃vs n s1,m_Making_things_at [.ref o,.tup as] s=.ok (.ref n) s1/\s1[n]?=some (.lst vs)/\rY s1 vs xs bs/\Old s s1/\s.length<=n:=by
 obtain ⟨r,gs,ob⟩:=M.ob
 obtain ⟨ys,s',C,hy,oI,ho⟩:=pE (fe:=zt rG (zd (zc 0) (zd (yc (aX "things" insOf excOf) (zc 1)) zj))) (env:=[Av o,some (.tup as)]) as (λi ys s'=>ys.length=i/\(∀(j:Nat) v x b,ys[j]?=some v->xs[j]?=some x->bs[j]?=some b->Ob s' v x b)/\Old s s') (λi a ys s' ha ⟨hy,oI,ho⟩=>by
  have hi:=my ha
  have hx:xs[i]?=some (xs[i]'(by rw [<-h.l1];exact hi)):=yr _
  have hb:bs[i]?=some (bs[i]'(by rw [<-h.l2];exact hi)):=yr _
  have M':=M.old ho
  obtain ⟨v,s2,E2,O2,o2⟩:=IK M'.th (h.at_ i a _ _ ha hx hb)
  refine ⟨v,s2,zy (zD (ze rfl) (yE (ze rfl) (nS M'))) E2,by simp [hy],λj v' x b e1 e2 e3=>?_,ho.trans o2⟩
  rcases Nat.lt_trichotomy j i with q|q|q
  ·rw [kh (by omega)] at e1
   exact (oI j v' x b e1 e2 e3).old o2
  ·subst q
   rw [iw (by omega),hy] at e1
   simp at e1
   subst e1
   rw [hx] at e2
   rw [hb] at e3
   cases e2;cases e3
   exact O2
  ·rw [oi (by simp;omega)] at e1
   cases e1) as.length 0 [] s (by omega) ⟨rfl,λj v x b e1 _ _=>by simp at e1,Old.refl _⟩
 rw [List.drop_zero] at C
 refine ⟨ys,s'.length,s'++[.lst ys],zZ rfl (zY ?_),ye _ _,⟨by rw [hy];exact h.l1,by rw [hy];exact h.l2,λi v x b e1 e2 e3=>(oI i v x b e1 e2 e3).old (zT _ _)⟩,ho.trans (zT _ _),ho.len⟩
 rw [l8,iK,ze rfl,zJ]
 show gk _ _ (.im as) s=_
 rw [oV,zx (by simp [lim];omega)]
 exact C
def Ca {fo fa:Aj} (h1:fo e s=.ok (.ref o) s) (h2:fa e s=.ok (.tup as) s) (M:Mg lt o La T E s) (h:SL E as xs bs) (hl:as.length<=1000):∃vs n s1,yF "things_at" pz fo (zd fa zj) e s=.ok (.ref n) s1/\s1[n]?=some (.lst vs)/\rY s1 vs xs bs/\Old s s1/\s.length<=n:=by
 obtain ⟨r,gs,ob⟩:=M.ob
 obtain ⟨vs,n,s1,E1,r1⟩:=Wx M h hl
 exact ⟨vs,n,s1,wb h1 ob (by decide +kernel) (zx rfl) (zF h2) E1,r1⟩
def IM {fe src:Aj}{xs Y:Aq}(hs:src e s=.ok (.ref n) s1) (hn:s1[n]?=some (.lst xs)) (hl:xs.length<=1000) (hy:xs.length=Y.length) (h:∀(i:Nat) x y,xs[i]?=some x->Y[i]?=some y->fe (some x::e) s1=.ok y s1):jk (yJ src) fe e s=.ok (.ref s1.length) (s1++[.lst Y]):=by
 rw [l8,iK,hs,zJ,ua,ym hn,zJ]
 obtain ⟨ys,s2,C,h1,h2⟩:=BL (fe:=fe) (env:=e) (n:=n) xs (λi ys st=>ys=Y.take i/\st=s1) (λi ys st h=>by rw [h.2];exact hn) (λi x ys st hx ⟨h1,h2⟩=>by
  have hi:=my hx
  have hq:Y[i]?=some (Y[i]'(by omega)):=yr _
  subst h2
  exact ⟨_,_,h i x _ hx hq,by rw [h1,iS hq],rfl⟩) xs.length 0 (lim+1) [] s1 (by omega) (by simp [lim];omega) ⟨rfl,rfl⟩
 subst h2
 rw [hy,List.take_length] at h1
 subst h1
 exact C
def u_ {xs:Aq}:ji [.ref s.length] (s++[.lst xs])=.ok (.tup xs) (s++[.lst xs]):=by rw [jC,ym (ye _ _)]
abbrev mE (w:Str) (k:Int):SO:=.ins "Op" ["word", "many"] [.str w,.int k]
def h_ (s0:aa) (w:Str) (xs:Aq) (F:PV->aa->Prop):Prop:=∃k,(∀s,kY [.str w] s=.ok (.ref s.length) (s++[mE w k]))/\∀s o,Old s0 s->s[o]?=some (mE w k)->∃v s1,m_Op_answer [.ref o,.tup xs] s=.ok v s1/\Old s s1/\F v s1
def Wy {z w:Str}{ys:Aq}{F:PV->aa->Prop}(M:Mg lt o La T E s) (h:SL E as (ys.map some) bs) (hl:as.length<=1000) (A:h_ s w ys F):∃v s1,m_Making_answer_ahead [.ref o,bp z w as] s=.ok v s1/\Old s s1/\F v s1:=by
 obtain ⟨k,A1,A2⟩:=A
 have o1:Old s (s++[mE w k]):=zT _ _
 obtain ⟨vs,n,s2,T2,n2,O2,o2,_⟩:=Ca (e:=[Av o,some (bp z w as)]) (fo:=zc 0) (fa:=zk zp (zc 1) (At 3)) (ze rfl) (zo (ze rfl) rfl mq) (M.old o1) h hl
 have C:=IM (e:=[Av o,some (bp z w as)]) (fe:=yc (aX "value" insOf excOf) (zc 0)) (Y:=ys) T2 n2 (by have:=O2.l2;have:=h.l2;omega) (by have:=O2.l1;simpa using this) (λi x y hx hy=>by
  have hi:=my hx
  have hb:bs[i]?=some (bs[i]'(by rw [<-O2.l2];exact hi)):=yr _
  exact IL (O2.at_ i x (some y) _ hx (by rw [jo,hy];rfl) hb) (ze rfl))
 have o3:Old s2 (s2++[SO.lst ys]):=zT _ _
 obtain ⟨v,s4,E4,o4,fv⟩:=A2 _ s.length (o1.trans (o2.trans o3)) (o3 _ _ (o2 _ _ (ye _ _)))
 exact ⟨v,s4,zZ rfl (zY (wb (zy (zF (zo (ze rfl) rfl wa)) (A1 s)) (ye _ _) (by decide +kernel) (zx rfl) (zF (zy (zF C) u_)) E4)),o1.trans (o2.trans (o3.trans o4)),fv⟩
def Wz {z w:Str}(M:Mg lt o La T E s) (h:SL E as xs bs) (hl:as.length<=1000) (hz:z∉E.map (·.1)) (hE:E.length<=1000):∃s1,m_Making_left_let [.ref o,bp z w as] s=.ok (bp z w bs) s1/\Mg lt o La T (E++[(z,none)]) s1/\Kx [T] s s1/\KI s s1:=by
 obtain ⟨vs,n,s2,T2,n2,O2,o2,_⟩:=Ca (e:=[Av o,some (bp z w as),none]) (fo:=zc 0) (fa:=zk zp (zc 1) (At 3)) (ze rfl) (zo (ze rfl) rfl mq) M h hl
 have C:=IM (e:=[Av o,some (bp z w as),none]) (fe:=yF "atom" iQ (zc 0) zj) (Y:=bs) T2 n2 (by have:=O2.l2;have:=h.l2;omega) O2.l2 (λi x y hx hy=>by
  have hi:=my hx
  have hb:xs[i]?=some (xs[i]'(by rw [<-O2.l1];exact hi)):=yr _
  exact B_ (O2.at_ i x _ y hx hb hy) (ze rfl))
 have o3:Old s (s2++[SO.lst bs]):=o2.trans (zT _ _)
 have M3:=M.old o3
 generalize hs3:s2++[SO.lst bs]=s3 at o3 M3 C
 have tt:ji [.ref s2.length] s3=.ok (.tup bs) s3:=by rw [<-hs3];exact u_
 obtain ⟨us,hT,hd,g,i,k⟩:=M3.th.put hz none
 have o4:Old s3 (s3++[iX z]):=zT _ _
 have P:=hW hd (fo:=yc (aX "things" insOf excOf) (zc 0)) (fi:=zk zp (zc 1) (At 1)) (fv:=zt (bZ "Later" iP) (zd (zk zp (zc 1) (At 1)) zj)) (e:=[Av o,some (bp z w as),some (.tup bs)]) (s:=s3) (s1:=s3++[iX z]) (zy (zF (zo (ze rfl) rfl yA)) (B9 z s3)) (yE (ze rfl) (nS (M3.old o4))) (zo (ze rfl) rfl yA) (o4 _ _ hT) (by simpa using hE)
 exact ⟨_,zZ rfl (zu (zQ (zy (zF C) tt)) (zu P (zY (zP (jj rfl (zo (ze rfl) rfl yA) (zo (ze rfl) rfl wa) (ze rfl)) (by simp))))),M3.put rfl g i k,o3.kx.trans k,o3.ki.trans i⟩
end
abbrev rZ (L M N:Nat):SO:=.ins "KeyRing" ["limit", "met", "names"] [nV L,.ref M,.ref N]
abbrev bj (f:Str) (b:Int) (vs:Aq):PV:=.tup [.str f,.int b,.tup vs]
abbrev pG (f:Str) (b:Int) (z:Str):Aq:=[.str f,.int b,.str z]
abbrev cP (f:Str) (b:Int) (z:Str):List Key:=[.inr f,.inl b,.inr z]
def qN (j:Nat):Str := "q" ++ Str.ofString (toString (j:Int))
abbrev dX (n:Nat):Aq:=(List.range n).map λj=>PV.str (qN j)
def WA {c:Nat} (h:c<1000) (st:aa):Bv "q" (nV c) st=.ok (.str (qN c)) st:=by
 have l1:("q" : Str).length=1:=by decide +kernel
 have l2:=rW (i:=(c:Int)) (by omega)
 have l5:=iR (dM (c:Int))
 rw [<-pF] at l5
 have l3:("q" ++ Str.ofString (toString (c:Int)):Str).length=("q" : Str).length+(Str.ofString (toString (c:Int))).length:=strLen_append _ _
 have l4:("q" ++ Str.ofString (toString (c:Int)):Str).length<=1000:=by omega
 show (if _ then _ else _)=_
 rw [zx ⟨Nat.lt_trans (B0 (i:=(c:Int)) (by omega)) (by decide),l4⟩]
 rfl
theorem vc {k:List Key}:∀{ts:Ah}{xs:Aq}{j:Nat}{x:PV},ts.Nodup->ts[j]?=some k->xs[j]?=some x->f7 k ts xs=some x
 |[],_,_,_,_,h,_=>by simp at h
 |_::_,[],_,_,_,_,h=>by simp at h
 |t::ts,y::xs,0,x,_,h,h'=>by
  simp at h h'
  subst h h'
  unfold f7
  rw [zx rfl]
 |t::ts,y::xs,j+1,x,nd,h,h'=>by
  rw [jU] at nd
  simp at h h'
  unfold f7
  have ne:¬t=k:=λe=>nd.1 (by rw [e];exact iq h)
  rw [zK ne]
  exact vc nd.2 h h'
structure Rg (L r M N:Nat) (ms:Aq) (ts:Ah) (s:aa):Prop where
 at_:s[r]?=some (rZ L M N)
 met:s[M]?=some (.lst ms)
 nms:cj s[N]?=some (ts,dX ts.length)
 ln:ms.length=ts.length
 nd:ts.Nodup
 rM:r≠M
 rN:r≠N
 MN:M≠N
def vd {s:aa}{N:Nat}{ts:Ah}{xs:Aq}(h:cj s[N]?=some (ts,xs)):∃so,s[N]?=some so/\∀c ks xs,so ≠ .ins c ks xs:=by
 cases e:s[N]? with
 |none=>rw [e] at h;cases h
 |some so =>
  refine ⟨so,rfl,λc ks xs q=>?_⟩
  subst q
  rw [e] at h
  cases h
section
variable {f z:Str} {b:Int} {vs ms:Aq} {ts:Ah} {L r M N:Nat} {s s1 s':aa}
def Rg.kx {K:List Nat}(h:Rg L r M N ms ts s) (k:Kx K s s') (i:KI s s') (h1:M∉K) (h2:N∉K):Rg L r M N ms ts s':=⟨i _ _ _ _ h.at_,k _ _ h1 h.met,by
 obtain ⟨so,e,_⟩:=vd h.nms
 rw [k _ _ h2 e,<-e];exact h.nms,h.ln,h.nd,h.rM,h.rN,h.MN⟩
def Rg.old (h:Rg L r M N ms ts s) (o:Old s s'):Rg L r M N ms ts s':=h.kx (K:=[]) o.kx o.ki (by simp) (by simp)
def Rg.ltN (h:Rg L r M N ms ts s):N<s.length:=by
 obtain ⟨so,e,_⟩:=vd h.nms
 exact zR e
def IQ {X:Res Fl}(E:jZ 5 [.tup vs] s=.ok (.str z) s1) (h:Hw [Av r,some (bj f b vs),some (.tup (pG f b z)),none] s1=X) :
  Hx [Av r,some (bj f b vs),none,none] s=X :=
 zu (zQ (zP (jE (zo (ze rfl) rfl (iW.trans yz)) (zo (ze rfl) rfl (iW.trans yA)) (zy (zF (zo (ze rfl) rfl (iW.trans wa))) E)) (by simp))) h
def IU {n j:Nat}(h:j<n):(dX n)[j]?=some (.str (qN j)):=by rw [jo,List.getElem?_range h];rfl
def IV (G:Rg L r M N ms ts s):Rg L r M N ms ts (s.set N (.dit ts (dX ts.length)))/\Kx [M,N] s (s.set N (.dit ts (dX ts.length)))/\KI s (s.set N (.dit ts (dX ts.length))):=by
 obtain ⟨so,e,hn⟩:=vd G.nms
 have i:KI s (s.set N (.dit ts (dX ts.length))):=mD e hn
 refine ⟨⟨i _ _ _ _ G.at_,by rw [yB (yO G.MN)];exact G.met,by rw [yp (zR e)];rfl,G.ln,G.nd,G.rM,G.rN,G.MN⟩,yL (by simp),i⟩
def Cb {j:Nat}(E:jZ 5 [.tup vs] s=.ok (.str z) s1) (o:Old s s1) (G:Rg L r M N ms ts s) (hj:ts[j]?=some (cP f b z)):∃s2,m_KeyRing_name_for [.ref r,bj f b vs] s=.ok (.str (qN j)) s2/\Rg L r M N ms ts s2/\Kx [M,N] s s2/\KI s s2:=by
 have G1:=G.old o
 obtain ⟨G2,k2,i2⟩:=IV G1
 have I:=Io (old:=yq true) (neg:=true) (zs:=pG f b z) (k:=cP f b z) rfl G1.nms
 have hh:cG (cP f b z) ts=true:=rh.mpr (iq hj)
 rw [hh] at I
 have hl:=(yt.mp hj).1
 have J:=BX (old:=zp) (zs:=pG f b z) (k:=cP f b z) (x:=.str (qN j)) rfl G2.nms (vc G.nd hj (IU hl))
 have d2:(s1.set N (.dit ts (dX ts.length)))[N]?=some (.dit ts (dX ts.length)):=yp G1.ltN
 rw [zev d2] at J
 have F1:aX "names" insOf excOf (.ref r) s1=.ok (.ref N) s1:=jF G1.at_ (by decide +kernel) rfl
 have F2:aX "names" insOf excOf (.ref r) (s1.set N (.dit ts (dX ts.length)))=.ok (.ref N) (s1.set N (.dit ts (dX ts.length))):=jF G2.at_ (by decide +kernel) rfl
 exact ⟨_,zZ rfl (IQ E (zu (yj (zU (zo (ze rfl) (yE (ze rfl) F1) I))) (zY (zo (yE (ze rfl) F2) (ze rfl) J)))),G2,o.kx.trans k2,o.ki.trans i2⟩
def IW (E:jZ 5 [.tup vs] s=.ok (.str z) s1) (o:Old s s1) (G:Rg L r M N ms ts s) (hn:cP f b z∉ts) (hL:ms.length<L) (h9:L<=900):∃s2,m_KeyRing_name_for [.ref r,bj f b vs] s=.ok (.str (qN ms.length)) s2/\Rg L r M N (ms++[bj f b vs]) (ts++[cP f b z]) s2/\Kx [M,N] s s2/\KI s s2:=by
 have G1:=G.old o
 obtain ⟨G2,k2,i2⟩:=IV G1
 have I:=Io (old:=yq true) (neg:=true) (zs:=pG f b z) (k:=cP f b z) rfl G1.nms
 have hh:cG (cP f b z) ts=false:=by
  rw [Bool.eq_false_iff];exact λq=>hn (rh.mp q)
 rw [hh] at I
 generalize s1.set N (.dit ts (dX ts.length))=s2 at I G2 k2 i2
 have F2:∀{f x},(((["limit", "met", "names"]:Ae).zip [nV L,.ref M,.ref N]).lookup f=some x)->aX f insOf excOf (.ref r) s2=.ok x s2:=λh=>jF G2.at_ (by decide +kernel) h
 have ln2:yD [.ref M] s2=.ok (nV ms.length) s2:=bw G2.met
 have A:=j4 (y:=bj f b vs) G2.met (by omega)
 have i3:KI s2 (s2.set M (.lst (ms++[bj f b vs]))):=mD G2.met (by intro _ _ _ q;cases q)
 have k3:Kx [M,N] s2 (s2.set M (.lst (ms++[bj f b vs]))):=yL (by simp)
 have m3:(s2.set M (.lst (ms++[bj f b vs])))[M]?=some (.lst (ms++[bj f b vs])):=yp (zR G2.met)
 have n3:cj (s2.set M (.lst (ms++[bj f b vs])))[N]?=some (ts,dX ts.length):=by rw [yB G.MN];exact G2.nms
 generalize s2.set M (.lst (ms++[bj f b vs]))=s3 at A i3 k3 m3 n3
 have a3:=i3 _ _ _ _ G2.at_
 have F3:aX "names" insOf excOf (.ref r) s3=.ok (.ref N) s3:=jF a3 (by decide +kernel) rfl
 have P:=BZ (e:=[Av r,some (bj f b vs),some (.tup (pG f b z)),some (nV ms.length)]) (yE (fa:=zc 3) (ze rfl) (WA (c:=ms.length) (by omega) s3)) (yE (fa:=zc 0) (ze rfl) F3) (fi:=zc 2) (ze rfl) (k:=cP f b z) rfl n3 hh (by rw [<-G.ln];omega)
 have ev:dX ts.length++[PV.str (qN ms.length)]=dX (ts++[cP f b z]).length:=by simp [dX,List.range_succ,G.ln]
 rw [ev] at P
 obtain ⟨so,e3,WB⟩:=vd n3
 have i4:KI s3 (s3.set N (.dit (ts++[cP f b z]) (dX (ts++[cP f b z]).length))):=mD e3 WB
 have k4:Kx [M,N] s3 (s3.set N (.dit (ts++[cP f b z]) (dX (ts++[cP f b z]).length))):=yL (by simp)
 have d4:(s3.set N (.dit (ts++[cP f b z]) (dX (ts++[cP f b z]).length)))[N]?=some (.dit (ts++[cP f b z]) (dX (ts++[cP f b z]).length)):=yp (zR e3)
 have m4:(s3.set N (.dit (ts++[cP f b z]) (dX (ts++[cP f b z]).length)))[M]?=some (.lst (ms++[bj f b vs])):=by rw [yB (yO G.MN)];exact m3
 generalize s3.set N (.dit (ts++[cP f b z]) (dX (ts++[cP f b z]).length))=s4 at P i4 k4 d4 m4
 have a4:=i4 _ _ _ _ a3
 have G4:Rg L r M N (ms++[bj f b vs]) (ts++[cP f b z]) s4:=⟨a4,m4,by rw [d4];rfl,by simp [G.ln],by
  rw [List.nodup_append]
  refine ⟨G.nd,by simp,λa ha c hc q=>?_⟩
  have hc:=oh.mp hc
  exact hn (hc▸q▸ha),G.rM,G.rN,G.MN⟩
 have J:=BX (old:=zp) (zs:=pG f b z) (k:=cP f b z) (x:=.str (qN ms.length)) rfl G4.nms (vc (j:=ts.length) G4.nd (by simp) (by rw [G.ln];exact IU (by simp)))
 rw [zev d4] at J
 have F4:aX "names" insOf excOf (.ref r) s4=.ok (.ref N) s4:=jF a4 (by decide +kernel) rfl
 exact ⟨s4,zZ rfl (IQ E (zu (jb (zU (zo (ze rfl) (yE (ze rfl) (jF G1.at_ (by decide +kernel) rfl)) I)) (zu (zQ (zy (zF (yE (ze rfl) (F2 rfl))) ln2)) (zu (yj (zU (zo (ze rfl) (yE (ze rfl) (F2 rfl)) (mn false (by simp;omega) _)))) (zu (jD (jL (yE (ze rfl) (F2 rfl)) G2.met (ze rfl) A)) P)))) (zY (zo (yE (ze rfl) F4) (ze rfl) J)))),G4,o.kx.trans (k2.trans (k3.trans k4)),o.ki.trans (i2.trans (i3.trans i4))⟩
end
def WC (L:Nat) (st:aa):∃s1,bZ "KeyRing" rB [nV L] st=.ok (.ref st.length) s1/\Rg L st.length (st.length+1) (st.length+2) [] [] s1/\Old st s1:=by
 let r:=st.length
 let t0:=st++[SO.ins "KeyRing" [] []]
 have h0:t0[r]?=some (.ins "KeyRing" [] []):=ye _ _
 let t1:=t0.set r (.ins "KeyRing" ["limit"] [nV L])
 have h1:t1[r]?=some (.ins "KeyRing" ["limit"] [nV L]):=yp (zR h0)
 have l1:t1.length=r+1:=by simp [t1,t0,r]
 let t2:=t1++[SO.lst []]
 have h2:t2[r]?=some (.ins "KeyRing" ["limit"] [nV L]):=zT _ _ _ _ h1
 let t3:=t2.set r (.ins "KeyRing" ["limit", "met"] [nV L,.ref t1.length])
 have h3:t3[r]?=some (.ins "KeyRing" ["limit", "met"] [nV L,.ref t1.length]):=yp (zR h2)
 have l3:t3.length=r+2:=by simp [t3,t2,l1]
 let t4:=t3++[SO.dic [] []]
 have h4:t4[r]?=some (.ins "KeyRing" ["limit", "met"] [nV L,.ref t1.length]):=zT _ _ _ _ h3
 let t5:=t4.set r (rZ L t1.length t3.length)
 have E:rB [.ref r,nV L] t0=.ok .non t5:=gE rfl (zu (wZ (ze rfl) (ze rfl) h0 (by decide +kernel) (by decide)) (zu (wZ (jm jS (by simp)) (ze rfl) h2 (by decide +kernel) (by decide)) (wZ (x:=.ref t3.length) (s1:=t4) rfl (ze rfl) h4 (by decide +kernel) (by decide))))
 refine ⟨t5,?_,⟨?_,?_,?_,rfl,List.nodup_nil,by omega,by omega,by omega⟩,λk so e=>?_⟩
 ·show (rB [.ref r,nV L] t0).bind _=_
  rw [E,zJ]
  rfl
 ·show (t4.set r _)[r]?=_
  rw [yp (zR h4),l1,l3]
 ·show (t4.set r _)[r+1]?=_
  rw [yB (by omega)]
  refine zT _ _ _ _ ?_
  show (t2.set r _)[r+1]?=_
  rw [yB (by omega),<-l1]
  exact ye _ _
 ·show cj (t4.set r _)[r+2]?=_
  rw [yB (by omega),<-l3,show t4[t3.length]?=some (SO.dic [] []) from ye _ _]
  rfl
 ·have hk:=zR e
  have hr:r≠k:=by show st.length≠k;omega
  show (t4.set r _)[k]?=_
  rw [yB hr]
  refine zT _ _ _ _ ?_
  show (t2.set r _)[k]?=_
  rw [yB hr]
  refine zT _ _ _ _ ?_
  show (t0.set r _)[k]?=_
  rw [yB hr]
  exact zT _ _ _ _ e
def WD {tab:Str->Option (An)}{fa:Aj}{fs:Ai}{e:zf}{s s1 s2:aa}{y:Str}{m:An}{xs:Aq}{X:Res PV}(h:fa e s=.ok (.fn y) s1) (ht:tab y=some m) (hf:fs e s1=.ok xs s2) (hm:m xs s2=X):tO tab fa fs e s=X:=by
 rw [QC,h,zJ]
 simp only [ht]
 rw [hf,zJ,hm]
def ve {t:Al}{b:Ak}{e:zf}{st s1:aa}(n:Nat) (h:t e st=.ok false s1):cA t b (n+1) e st=.ok (.nx e) s1:=by rw [ER,h,zJ,zK (by simp)]
def ly {t:Al}{b:Ak}{e e2:zf}{st s1 s2:aa}{n:Nat}{X:Res Fl}(h:t e st=.ok true s1) (hb:b e s1=.ok (.nx e2) s2) (hX:cA t b n e2 s2=X):cA t b (n+1) e st=X:=by
 rw [ER,h,zJ,zx rfl,hb,zJ];exact hX
def WE (n:Int) (st:aa):rH [.int n] st=.ok (.ref st.length) (st++[.lst []]) :=
 zZ rfl (zu (yj (zU (zy (zD (ze rfl) rfl) rfl))) (zu (yj (zU (zy (zD (ze rfl) rfl) rfl))) (zY (jm jS (by simp)))))
def WG {st:aa}{n:Nat}{ks:Ae}{xs:Aq}(h:st[n]?=some (.dic ks xs)):rH [.ref n] st=.ok (.ref st.length) (st++[.lst xs]) :=
 zZ rfl (zu (yj (zU (zy (zD (ze rfl) rfl) (rX h _)))) (wH (jb (zU (zy (zD (ze rfl) rfl) (rX h _))) (zY (yE (ze rfl) (by show yW st n _=_;rw [qT h]))))))
abbrev tA:Al:=(mB (zk wS (zc 2) (zt yD (zd (zc 1) zj))))
abbrev bA:Ak:=(zw (yH (yC tX (zc 1) (zt rH (zd (zk zp (zc 1) (zc 2)) zj)))) (wT 2 dU (At 1)))
def pH {s:aa}{q j:Nat}{xs:Aq}{x:PV}(h:s[q]?=some (.lst xs)) (hx:xs[j]?=some x):zp (.ref q) (.int (j:Int)) s=.ok x s:=by
 show yl s q _=_
 rw [ym h,b0 hx]
 rfl
def vf {e:zf}{s:aa}{i:Nat}{j:Int}(h:e[i]?=some (some (.int j))):wT i dU (At 1) e s=.ok (.nx (e.set i (some (.int (j+1))))) s:=by
 simp [wT,h,dU]
theorem Cc {v0:Ar}{q:Nat}{xs:Aq}(hl:xs.length<=1000):∀(m j fuel:Nat) (s:aa),j+m=xs.length->m<fuel->(∀(i:Nat) x,j<=i->xs[i]?=some x->∃n,x=.int n)->s[q]?=some (.lst xs)->∃s1,cA tA bA fuel [v0,Av q,some (nV j)] s=.ok (.nx [v0,Av q,some (nV xs.length)]) s1/\Old s s1
 |0,j,fuel,s,hm,hf,hi,hq=>by
  obtain ⟨fuel,rfl⟩:∃x,fuel=x+1:=⟨fuel-1,by omega⟩
  have hj:j=xs.length:=by omega
  subst hj
  exact ⟨s,ve fuel (zU (zo (ze rfl) (zy (zF (ze rfl)) (bw hq)) (kZ false (by simp) _))),Old.refl _⟩
 |m+1,j,fuel,s,hm,hf,hi,hq=>by
  obtain ⟨fuel,rfl⟩:∃x,fuel=x+1:=⟨fuel-1,by omega⟩
  have hx:xs[j]?=some (xs[j]'(by omega)):=yr (by omega)
  obtain ⟨n,hn⟩:=hi j _ (yf _) hx
  rw [hn] at hx
  have o1:Old s (s++[SO.lst []]):=zT _ _
  have X:=HN (o1 _ _ hq) (ye s (SO.lst [])) (by simp;omega)
  rw [List.append_nil,zev (o1 _ _ hq)] at X
  obtain ⟨s1,W,o2⟩:=Cc hl m (j+1) fuel _ (by omega) (by omega) (λi x h e=>hi i x (by omega) e) (o1 _ _ hq)
  refine ⟨s1,ly (zU (zo (ze rfl) (zy (zF (ze rfl)) (bw hq)) (kZ true (by simp;omega) _))) (zu (jD (jL (ze rfl) hq (zy (zF (zo (ze rfl) (ze rfl) (pH hq hx))) (WE n s)) X)) (vf rfl)) ?_,o1.trans o2⟩
  exact W
def WH (n:Int) (st:aa):∃s1,rJ [.int n] st=.ok (.int 1) s1/\Old st s1:=by
 have o0:Old st (st++[SO.lst [.int n]]):=zT _ _
 obtain ⟨s1,W,o1⟩:=Cc (v0:=some (.int n)) (xs:=[.int n]) (by simp) 1 0 1000000 (st++[SO.lst [.int n]]) rfl (by omega) (λi x _ h=>by
  match i with
  |0=>cases h;exact ⟨n,rfl⟩
  |i+1=>cases h) (ye _ _)
 have A:uH [.int n] st=.ok (.ref st.length) s1:=zZ rfl (zu (zQ (jm (zF (ze rfl)) (by simp))) (zu (zQ rfl) (zu W (zY (ze rfl)))))
 exact ⟨s1,zZ rfl (zY (zy (zF (zy (zF (ze rfl)) A)) (bw (o1 _ _ (ye _ _))))),o0.trans o1⟩
def IY {st:aa}{n:Nat}{ks:Ae}{f:Str->Int}(h:st[n]?=some (RO ks f)) (hl:ks.length<=50):∃s1,rJ [.ref n] st=.ok (.int ((ks.length+1:Nat):Int)) s1/\Old st s1:=by
 let t0:=st++[SO.lst [.ref n]]
 have o0:Old st t0:=zT _ _
 have h0:t0[st.length]?=some (.lst [.ref n]):=ye _ _
 let t1:=t0++[SO.lst (ks.map λk=>PV.int (f k))]
 have o1:Old t0 t1:=zT _ _
 have h1:t1[st.length]?=some (.lst [.ref n]):=o1 _ _ h0
 let t2:=t1.set st.length (.lst ([.ref n]++ks.map λk=>PV.int (f k)))
 have X:=HN h1 (ye t0 (SO.lst (ks.map λk=>PV.int (f k)))) (by simp;omega)
 have h2:t2[st.length]?=some (.lst ([.ref n]++ks.map λk=>PV.int (f k))):=yp (zR h1)
 have o2:Old st t2:=λm so e=>by
  have:=zR e
  show (t1.set st.length _)[m]?=_
  rw [yB (by omega)]
  exact o1 _ _ (o0 _ _ e)
 obtain ⟨s1,W,o3⟩:=Cc (v0:=some (.ref n)) (q:=st.length) (xs:=[.ref n]++ks.map λk=>PV.int (f k)) (by simp;omega) ks.length 1 999999 t2 (by simp;omega) (by omega) (λi x hi e=>by
  rw [iw (by simpa using hi),jo] at e
  obtain ⟨k,_,rfl⟩:=Option.map_eq_some_iff.mp e
  exact ⟨_,rfl⟩) h2
 have W0:cA tA bA 1000000 [Av n,Av st.length,some (.int 0)] t0=.ok (.nx [Av n,Av st.length,some (nV ([PV.ref n]++ks.map λk=>PV.int (f k)).length)]) s1:=ly (n:=999999) (zU (zo (ze rfl) (zy (zF (ze rfl)) (bw h0)) (kZ true (by simp) _))) (zu (jD (jL (ze rfl) h0 (zy (zF (zo (ze rfl) (ze rfl) (pH (j:=0) h0 rfl))) (WG (o0 _ _ h))) X)) (vf rfl)) W
 have A:uH [.ref n] st=.ok (.ref st.length) s1:=zZ rfl (zu (zQ (jm (zF (ze rfl)) (by simp))) (zu (zQ rfl) (zu W0 (zY (ze rfl)))))
 have L:=bw (o3 _ _ h2)
 rw [show (([PV.ref n]++ks.map λk=>PV.int (f k)).length)=ks.length+1 by simp] at L
 exact ⟨s1,zZ rfl (zY (zy (zF (zy (zF (ze rfl)) A)) L)),o2.trans o3⟩
abbrev bC:Ak:=(yd (jN (mB (zk jY (zc 2) (Au "any"))) (mB (zk jY (zc 2) (zt kW (zd (zc 3) zj))))) yK yi)
section
variable {x0 x1:Ar} {k:Str} {v:PV} {s:aa}
def Cd (i j:Str) (b:Bool) (h:(!decide (i=j))=b) (st:aa):jY (.str i) (.str j) st=.ok (.bl b) st:=by rw [Sj,h]
def pI (h:kW [v] s=.ok (.str k) s) (hk:k ≠ "any"):bC [x0,x1,some (.str k),some v] s=.ok (.nx [x0,x1,some (.str k),some v]) s :=
 yj (nI (zU (zo (ze rfl) rfl (Cd _ _ true (by simp [hk]) _))) (zU (zo (ze rfl) (zy (zF (ze rfl)) h) (Cd _ _ false (by simp) _))))
def WI:bC [x0,x1,some (.str "any"),some v] s=.ok (.nx [x0,x1,some (.str "any"),some v]) s :=
 yj (mf (zU (zo (ze rfl) rfl (Cd _ _ false (by simp) _))))
end
def IZ (z:Str) (st:aa):kW [.str z] st=.ok (.str "word") st:=by kernel_rfl
def I_:("record" : Str) ≠ "any" := by decide +kernel
def Ja:("word" : Str) ≠ "any" := by decide +kernel
def WJ:("row" : Str) ≠ "any" := by decide +kernel
def WK:("number" : Str) ≠ "any" := by decide +kernel
def WL (st:aa):kY [.str "set"] st=.ok (.ref st.length) (st++[mE "set" 3]):=by
 simp [kY,zX,uL,uK,lZ,wq,wt,bZ,rK,uJ,uI,jh,insOf,Mi.putK,dB,fH,jy]
def WM (st:aa):kY [.str "field"] st=.ok (.ref st.length) (st++[mE "field" 2]):=by
 simp [kY,zX,uL,uK,lZ,wq,wt,bZ,rK,uJ,uI,jh,insOf,Mi.putK,dB,fH,jy]
def WN (st:aa):kY [.str "item"] st=.ok (.ref st.length) (st++[mE "item" 2]):=by
 simp [kY,zX,uL,uK,lZ,wq,wt,bZ,rK,uJ,uI,jh,insOf,Mi.putK,dB,fH,jy]
section
variable {o n:Nat} {s:aa} {ks:Ae} {f:Str->Int} {z:Str}
def Jb {w:Str} {k:Int} (h:s[o]?=some (mE w k)):aX "word" insOf excOf (.ref o) s=.ok (.str w) s:=jF h (by decide +kernel) rfl
def Ce {w y:Str}{k:Int}{K xs:Aq}{m:An}{v:PV}{s1 s2:aa}{c:Int}(h:s[o]?=some (mE w k)) (hk:∀s,fW wq wt (.str w) s=.ok (.tup [.tup K,.fn y]) s) (hc:pA [.tup K,.tup xs] s=.ok .non s) (ht:mm y=some m) (hm:m [.tup xs] s=.ok v s1) (hp:rJ [v] s1=.ok (.int c) s2) (h6:c<=60):m_Op_answer [.ref o,.tup xs] s=.ok v s2 :=
 zZ rfl (zu (jD (zy (zD (zo (yE (yE (ze rfl) (Jb h)) (hk s)) rfl yz) (ze rfl)) hc)) (zu (zQ (zo (yE (yE (ze rfl) (Jb h)) (hk s)) rfl yA)) (zu (zQ (WD (ze rfl) ht (zF (ze rfl)) hm)) (zu (yj (zU (zo (zy (zF (ze rfl)) hp) rfl (VL false (by simp;omega) _)))) (zY (ze rfl))))))
def WO (s:aa):fW wq wt (.str "set") s=.ok (.tup [.tup [.str "record", .str "word", .str "any"],.fn "tell_set"]) s:=by kernel_rfl
def WQ (s:aa):fW wq wt (.str "field") s=.ok (.tup [.tup [.str "record", .str "word"],.fn "tell_field"]) s:=by kernel_rfl
def WS (s:aa):fW wq wt (.str "item") s=.ok (.tup [.tup [.str "row", .str "number"],.fn "tell_item"]) s:=by kernel_rfl
def WT:mm "tell_set" = some uG:=by unfold mm;rw [zK (by decide +kernel),zK (by decide +kernel),zx rfl]
def WU:mm "tell_field" = some uF:=by unfold mm;rw [zK (by decide +kernel),zx rfl]
def WV {i:Int} (h:s[n]?=some (RO ks f)):pA [.tup [.str "record", .str "word", .str "any"],.tup [.ref n,.str z,.int i]] s=.ok .non s :=
 gE rfl (u9 (zD (ze rfl) (ze rfl)) (yU rfl (pI (B6 h) I_) (yU rfl (pI (IZ z s) Ja) (yU rfl WI rfl))))
def WW (h:s[n]?=some (RO ks f)):pA [.tup [.str "record", .str "word"],.tup [.ref n,.str z]] s=.ok .non s :=
 gE rfl (u9 (zD (ze rfl) (ze rfl)) (yU rfl (pI (B6 h) I_) (yU rfl (pI (IZ z s) Ja) rfl)))
def WX (xs:Aq):pA [.tup [.str "row", .str "number"],.tup [.tup xs,.int 1]] s=.ok .non s :=
 gE rfl (u9 (zD (ze rfl) (ze rfl)) (yU rfl (pI (Il xs s) WJ) (yU rfl (pI (Ik 1 s) WK) rfl)))
def WY (h:s[n]?=some (RO ks f)) (hz:z∉ks) (hl:ks.length<=50):∃s1,uG [.tup [.ref n,.str z,.int (f z)]] s=.ok (.ref s.length) s1/\s1[s.length]?=some (RO (ks++[z]) f)/\Old s s1:=by
 have o1:Old s (s++[RO ks f]):=zT _ _
 have D:ug [.ref n] s=.ok (.ref s.length) (s++[RO ks f]):=by show yW s n _=_;rw [qT h]
 have P:=hW (rT (x:=.int (f z)) hz) (fo:=zc 1) (fi:=zk zp (zc 0) (At 1)) (fv:=zk zp (zc 0) (At 2)) (e:=[some (.tup [.ref n,.str z,.int (f z)]),Av s.length]) (s:=s++[RO ks f]) (s1:=s++[RO ks f]) (zo (ze rfl) rfl wa) (ze rfl) (zo (ze rfl) rfl yA) (ye _ _) (by omega)
 refine ⟨_,zZ rfl (zu (zQ (zy (zF (zo (ze rfl) rfl yz)) D)) (zu P (zY (ze rfl)))),?_,λm so e=>?_⟩
 ·rw [yp (by simp)]
  simp [RO]
 ·have:=zR e
  rw [yB (by omega)]
  exact o1 _ _ e
def WZ (h:s[n]?=some (RO ks f)) (hz:z∉ks) (hl:ks.length<=40):h_ s "set" [.ref n,.str z,.int (f z)] λv s1=>∃m,v=.ref m/\s1[m]?=some (RO (ks++[z]) f)/\s.length<=m:=⟨3,WL,λs' o ol ho=>by
 obtain ⟨s1,E1,r1,o1⟩:=WY (ol _ _ h) hz (by omega)
 obtain ⟨s2,E2,o2⟩:=IY r1 (by simp;omega)
 exact ⟨_,s2,Ce ho WO (WV (ol _ _ h)) WT E1 E2 (by simp;omega),o1.trans o2,_,rfl,o2 _ _ r1,ol.len⟩⟩
def W2 (h:s[n]?=some (RO ks f)) (hz:z∈ks):uF [.tup [.ref n,.str z]] s=.ok (.int (f z)) s:=by
 have L:=lh (g:=λk=>PV.int (f k)) hz
 have I:yq true (.str z) (.ref n) s=.ok (.bl false) s:=by simp [yq,h,L]
 exact zZ rfl (zu (zQ (zo (ze rfl) rfl yz)) (zu (yj (zU (zo (zo (ze rfl) rfl yA) (ze rfl) I))) (zY (zo (ze rfl) (zo (ze rfl) rfl yA) (wu h L)))))
def W4 (h:s[n]?=some (RO ks f)) (hz:z∈ks):h_ s "field" [.ref n,.str z] λv _=>v=.int (f z):=⟨2,WM,λs' o ol ho=>by
 obtain ⟨s2,E2,o2⟩:=WH (f z) s'
 exact ⟨_,s2,Ce ho WQ (WW (ol _ _ h)) WU (W2 (ol _ _ h) hz) E2 (by omega),o2,rfl⟩⟩
def W6 (n:Nat) (s:aa):BG [.tup [.tup [.int 7,.ref n],.int 1]] s=.ok (.ref n) s:=by kernel_rfl
def W7 (h:s[n]?=some (RO ks f)) (hl:ks.length<=40):h_ s "item" [.tup [.int 7,.ref n],.int 1] λv _=>v=.ref n:=⟨2,WN,λs' o ol ho=>by
 obtain ⟨s2,E2,o2⟩:=IY (ol _ _ h) (by omega)
 exact ⟨_,s2,Ce ho WS (WX _) (zx rfl) (W6 n s') E2 (by simp;omega),o2,rfl⟩⟩
end
abbrev aV (a:PV):PV:=.tup [.str "give", a]
abbrev bf (z h:Str) (as:Aq):PV:=.tup [.str "call", .str z,.str h,.tup as]
abbrev cM (ss:Aq) (e:PV):PV:=.tup [.tup ss,e]
abbrev dg (nz:Str) (ps:Ae) (ss:Aq) (a:PV):PV:=.tup [.str nz,.tup (ps.map PV.str),cM ss (aV a)]
def W8:("give" : Str) ≠ "if" := by decide +kernel
def W_:("call" : Str) ≠ "let" := by decide +kernel
def Cf {ss:Aq}{a:PV}(hl:ss.length<=900) (s:aa):mj 2 [cM ss (aV a)] s=.ok (.tup (ss++[aV a])) s :=
 show Bz (mj 1) [cM ss (aV a)] s=_ from zZ rfl (zu (zQ (zo (ze rfl) rfl yA)) (zu (zQ (zo (zo (ze rfl) rfl yz) (zP (zF (ze rfl)) (by simp)) (BQ (xs:=ss) (ys:=[aV a]) (by simp;omega)))) (zu (yj (q0 rfl (dJ W8 _))) (zY (ze rfl)))))
section
variable {z w h:Str} {as:Aq} {a:PV} {s:aa}
def vg:wY [bp z w as] s=.ok .non s:=zZ rfl (zu (yj (q0 rfl (dJ n1 _))) (zu (yj (q0 rfl (dJ n2 _))) (zY rfl)))
def Cg:wY [aV a] s=.ok .non s:=zZ rfl (zu (yj (q0 rfl (dJ n3 _))) (zu (yj (q0 rfl (dJ n4 _))) (zY rfl)))
def Ci:wY [bf z h as] s=.ok (.tup [.str h,.tup as]) s:=zZ rfl (wH (jb (q0 rfl (iU _)) (zY (zP (zD (zo (ze rfl) rfl wa) (zo (ze rfl) rfl mq)) (by simp)))))
def Jc:kU [bp z w as] s=.ok (.bl true) s:=zZ rfl (zY (zo (zo (ze rfl) rfl yz) (zP (zD rfl rfl) (by simp)) (BR "let" true (by decide +kernel) _)))
def Xa:kU [bf z h as] s=.ok (.bl true) s:=zZ rfl (zY (zo (zo (ze rfl) rfl yz) (zP (zD rfl rfl) (by simp)) (BR "call" true (by decide +kernel) _)))
def Xb:kU [aV a] s=.ok (.bl false) s:=zZ rfl (zY (zo (zo (ze rfl) rfl yz) (zP (zD rfl rfl) (by simp)) (BR "give" false (by decide +kernel) _)))
def Jd:nK [bp z w as] s=.ok (.tup as) s:=zZ rfl (wH (jb (zU (zy (zF (ze rfl)) Jc)) (zY (zo (ze rfl) rfl mq))))
end
inductive Lq (fns:Ae):List Str->List PV->List Str->List Int->Prop
 |nil (L:Ae):Lq fns L [] [] []
 |give {L r:Ae} {g:List Int} {a:PV} {ss:Aq}:Lq fns L ss r g->Lq fns L (aV a::ss) r g
 |no {L r:Ae} {g:List Int} {z w:Str} {as ss:Aq}:(∀a∈as,dW a)->as.length<=1000->as.any (aY L)=false->Lq fns L ss r g->Lq fns L (bp z w as::ss) r g
 |yes {L r:Ae} {g:List Int} {z w:Str} {as ss:Aq}:(∀a∈as,dW a)->as.length<=1000->as.any (aY L)=true->z∉L->Lq fns (L++[z]) ss r g->Lq fns L (bp z w as::ss) (z::r) g
 |call {L r:Ae} {g:List Int} {z h:Str} {as ss:Aq}:(∀a∈as,dW a)->as.length<=1000->z∉L->h∈fns->Lq fns (L++[z]) ss r g->Lq fns L (bf z h as::ss) (z::r) (ba (as.map (aY L))::g)
def IsT.kx {ks:Ah}{s s':aa}{q:Nat}{ms:List Nat}(h:IsT ks s q) (k:Kx ms s s') (hq:q∉ms):IsT ks s' q:=by
 unfold IsT at h ⊢
 cases e:s[q]? with
 |none=>rw [e] at h;cases h
 |some so=>rw [k _ _ hq e];rw [e] at h;exact h
def Xc {x:Int}(h:0<=x) (s:aa):nA (.int x) (.int 0) s=.ok (.int x) s:=by
 have e:Builtin.bitOr x 0=x:=by
  rw [PyProof.Rows.bitOr_and]
  have e:Builtin.bitAnd x 0=0:=by
   unfold Builtin.bitAnd
   rw [jV h]
   show ((x.toNat &&& 0:Nat):Int)=0
   rw [Nat.and_zero];rfl
  rw [e];omega
 show (if c0 x 0=true then Res.ok (PV.int (Builtin.bitOr x 0)) s else .stuck)=_
 rw [zx rfl,e]
abbrev zr (fns:Ae):Aq:=fns.map λ_=>.int 0
structure BF (fns:Ae) (o q b d a g:Nat) (L cC:Ae) (gs:List Int) (s:aa):Prop where
 H:s[o]?=some (mw q b)
 Q:IsT [] s q
 B:s[b]?=some (.dic fns (zr fns))
 D:s[d]?=some (.dic L (bP L))
 A:s[a]?=some (.lst (cC.map PV.str))
 G:s[g]?=some (.lst (gs.map PV.int))
 ord:o<q/\q<b/\b<d/\d<a/\a<g
abbrev eF (o:Nat) (fv:PV) (bits:Int) (d a g:Nat) (z6 z7:Ar):zf:=[Av o,some fv,some (.int bits),Av d,Av a,Av g,z6,z7]
abbrev cF:Ak:=(yd (jN (mB (zt kU (zd (zc 6) zj))) (mB (yF "makes_later" pD (zc 0) (zd (zk zp (zc 1) (At 0)) (zd (zc 6) (zd (zc 3) zj))))))
  (zw (yH (yC yM (zc 4) (zk zp (zc 6) (At 1))))
  (je (zc 3) (zk zp (zc 6) (At 1)) (mC (.bl true))))
  yi)
abbrev bF:Ak:=(zw (zO 7 (zt wY (zd (zc 6) zj)))
  (zw (yd (mB (zk wn (zc 7) (mC .non)))
  (yH (yC yM (zc 5) (yF "goal_of" uN (zc 0) (zd (zc 7) (zd (zc 3) zj)))))
  yi)
  cF))
section
variable {fns:Ae} {o q b d a g:Nat} {L cC:Ae} {gs:List Int} {s s':aa} {nz z w h:Str} {fr as:Aq} {bits:Int} {z6 z7:Ar} {fv:PV}
theorem BF.old (B:BF fns o q b d a g L cC gs s) (k:Old s s'):BF fns o q b d a g L cC gs s':=⟨k _ _ B.H,B.Q.old k,k _ _ B.B,k _ _ B.D,k _ _ B.A,k _ _ B.G,B.ord⟩
def BF.kq (B:BF fns o q b d a g L cC gs s) (k:Kx [q] s s') (hq:IsT [] s' q):BF fns o q b d a g L cC gs s':=by
 obtain ⟨c1,c2,c3,c4,c5⟩:=B.ord
 exact ⟨k _ _ (by simp;omega) B.H,hq,k _ _ (by simp;omega) B.B,k _ _ (by simp;omega) B.D,k _ _ (by simp;omega) B.A,k _ _ (by simp;omega) B.G,B.ord⟩
def BF.lt (B:BF fns o q b d a g L cC gs s):k9 L s d:=.inl ⟨_,B.D,by simp⟩
def Xd (B:BF fns o q b d a g L cC gs s) (ha:∀a∈as,dW a) (hl:as.length<=1000):∃s1,m_Holding_makes_later [.ref o,.str nz,bp z w as,.ref d] s=.ok (.bl (as.any (aY L))) s1/\IsT [] s1 q/\Kx [q] s s1:=by
 have N:=uT ha hl B.lt
 have o1:Old s (s++[SO.lst ((as.map (aY L)).map PV.bl)]):=zT _ _
 have Bb:decide (ba (as.map (aY L))≠0)=as.any (aY L):=by rw [H9,List.any_map];rfl
 have T:(oQ (mB (zk yx (zk (aW zp) (zc 2) (At 0)) (Au "call"))) (mB (zk jY (zt kT (zd (zt nK (zd (zc 2) zj)) (zd (zc 3) zj))) (At 0)))) [Av o,some (.str nz),some (bp z w as),Av d] s=.ok (as.any (aY L)) (s++[SO.lst ((as.map (aY L)).map PV.bl)]) :=
  Sd (zU (zo (zo (ze rfl) rfl iV) rfl (dJ n1 _))) (zU (zo (zy (zD (zy (zF (ze rfl)) Jd) (ze rfl)) N) rfl (by rw [Ih,Bb])))
 have q1:=B.Q.old o1
 cases hany:as.any (aY L) with
 |true =>
  rw [hany] at T
  exact ⟨_,zZ rfl (wH (jb T (zY rfl))),q1,o1.kx⟩
 |false =>
  rw [hany] at T
  have R:=rR (old:=yq false) (neg:=false) (k:=pk nz z) q1
  exact ⟨_,zZ rfl (zu (yj T) (zY (zo (zP (zD (ze rfl) (zo (ze rfl) rfl nP)) (by simp)) (yE (ze rfl) (BW (o1 _ _ B.H))) R))),k_ q1.lt,o1.kx.trans (yL (by simp))⟩
def Xe (B:BF fns o q b d a g L cC gs s):m_Holding_makes_later [.ref o,.str nz,bf z h as,.ref d] s=.ok (.bl true) s :=
 zZ rfl (wH (jb (Sb (zU (zo (zo (ze rfl) rfl iV) rfl (iU _)))) (zY rfl)))
def Je {v:PV}(B:BF fns o q b d a g L cC gs s) (hv:∀s,zp v (.int 1) s=.ok (.str z) s) (hz:z∉L) (l1:L.length<=1000) (l2:cC.length<=1000):∃s1,(zw (yH (yC yM (zc 4) (zk zp (zc 6) (At 1))))
  (je (zc 3) (zk zp (zc 6) (At 1)) (mC (.bl true)))) (eF o fv bits d a g (some v) z7) s=.ok (.nx (eF o fv bits d a g (some v) z7)) s1/\BF fns o q b d a g (L++[z]) (cC++[z]) gs s1/\Kx [d,a] s s1:=by
 obtain ⟨c1,c2,c3,c4,c5⟩:=B.ord
 have A2:=j4 (y:=.str z) B.A (by simp;omega)
 have k2:Kx [a] s (s.set a (.lst (cC.map PV.str++[.str z]))):=yL (by simp)
 have a2:(s.set a (.lst (cC.map PV.str++[.str z])))[a]?=some (.lst ((cC++[z]).map PV.str)):=by rw [yp (zR B.A)];simp
 generalize s.set a (.lst (cC.map PV.str++[.str z]))=s2 at A2 k2 a2
 have d2:=k2 _ _ (by simp;omega) B.D
 have D3:=hW (rT hz) (fo:=zc 3) (fi:=zk zp (zc 6) (At 1)) (fv:=mC (.bl true)) (e:=eF o fv bits d a g (some v) z7) (s:=s2) rfl (ze rfl) (zo (ze rfl) rfl (hv s2)) d2 l1
 have et:bP L++[PV.bl true]=bP (L++[z]):=by simp [bP]
 rw [et] at D3
 have k3:Kx [d] s2 (s2.set d (.dic (L++[z]) (bP (L++[z])))):=yL (by simp)
 have d3:(s2.set d (.dic (L++[z]) (bP (L++[z]))))[d]?=some (.dic (L++[z]) (bP (L++[z]))):=yp (zR d2)
 generalize s2.set d (.dic (L++[z]) (bP (L++[z])))=s3 at D3 k3 d3
 have kk:Kx [d,a] s s3:=λm so hm e=>by
  simp at hm
  exact k3 _ _ (by simp;omega) (k2 _ _ (by simp;omega) e)
 exact ⟨s3,zu (jD (jL (ze rfl) B.A (zo (ze rfl) rfl (hv s)) A2)) D3,⟨kk _ _ (by simp;omega) B.H,B.Q.kx kk (by simp;omega),kk _ _ (by simp;omega) B.B,d3,k3 _ _ (by simp;omega) a2,kk _ _ (by simp;omega) B.G,B.ord⟩,kk⟩
def Jf (B:BF fns o q b d a g L cC gs s) (ha:∀a∈as,dW a) (hl:as.length<=1000) {c:Bool}(hc:as.any (aY L)=c) (hz:c=true->z∉L) (l1:L.length<=1000) (l2:cC.length<=1000):∃s1,bF (eF o (.tup (.str nz::fr)) bits d a g (some (bp z w as)) z7) s=.ok (.nx (eF o (.tup (.str nz::fr)) bits d a g (some (bp z w as)) (some .non))) s1/\Kx [q,d,a,g] s s1 /\
  (c=true->BF fns o q b d a g (L++[z]) (cC++[z]) gs s1)/\(c=false->BF fns o q b d a g L cC gs s1):=by
 obtain ⟨s1,E1,q1,k1⟩:=Xd (nz:=nz) (z:=z) (w:=w) B ha hl
 have B1:=B.kq k1 q1
 rw [hc] at E1
 have MT:(jN (mB (zt kU (zd (zc 6) zj))) (mB (yF "makes_later" pD (zc 0) (zd (zk zp (zc 1) (At 0)) (zd (zc 6) (zd (zc 3) zj)))))) (eF o (.tup (.str nz::fr)) bits d a g (some (bp z w as)) (some .non)) s=.ok c s1:=nI (zU (zy (zF (ze rfl)) Jc)) (zU (rV (ze rfl) B.H (by decide +kernel) (zx rfl) (jE (zo (ze rfl) rfl yz) (ze rfl) (ze rfl)) E1))
 have Bm:Kx [q,d,a,g] s s1:=λm so h e=>k1 _ _ (by simp at h ⊢;exact h.1) e
 cases c with
 |false=>exact ⟨s1,zu (zQ (zy (zF (ze rfl)) vg)) (zu (yj (zU (zo (ze rfl) rfl rfl))) (yj MT)),Bm,(λq=>by cases q),λ_=>B1⟩
 |true =>
  obtain ⟨s2,E2,B2,k2⟩:=Je (v:=bp z w as) (fv:=.tup (.str nz::fr)) (bits:=bits) (z7:=some .non) B1 (λs=>yA) (hz rfl) l1 l2
  exact ⟨s2,zu (zQ (zy (zF (ze rfl)) vg)) (zu (yj (zU (zo (ze rfl) rfl rfl))) (jb MT E2)),λm so h e=>k2 _ _ (by simp at h ⊢;omega) (Bm _ _ h e),λ_=>B2,(λq=>by cases q)⟩
def Xf {h:Str}(hh:h∈fns):(fns.zip (zr fns)).lookup h=some (.int 0):=lh (g:=λ_=>PV.int 0) hh
def Xg (B:BF fns o q b d a g L cC gs s) (ha:∀a∈as,dW a) (hl:as.length<=1000) (hh:h∈fns):∃s1,m_Holding_goal_of [.ref o,.tup [.str h,.tup as],.ref d] s=.ok (.int (ba (as.map (aY L)))) s1/\Old s s1:=by
 have N:=uT ha hl B.lt
 have o1:Old s (s++[SO.lst ((as.map (aY L)).map PV.bl)]):=zT _ _
 have F:aX "bits_by_name" insOf excOf (.ref o) (s++[SO.lst ((as.map (aY L)).map PV.bl)])=.ok (.ref b) (s++[SO.lst ((as.map (aY L)).map PV.bl)]):=jF (o1 _ _ B.H) (by decide +kernel) rfl
 exact ⟨_,zZ rfl (zY (zo (zy (zD (zo (ze rfl) rfl yA) (ze rfl)) N) (zo (yE (ze rfl) F) (zo (ze rfl) rfl yz) (wu (o1 _ _ B.B) (Xf hh))) (Xc (uR _) _))),o1⟩
def Xh (B:BF fns o q b d a g L cC gs s) (ha:∀a∈as,dW a) (hl:as.length<=1000) (hz:z∉L) (hh:h∈fns) (l1:L.length<=1000) (l2:cC.length<=1000) (l3:gs.length<=1000):∃s1,bF (eF o (.tup (.str nz::fr)) bits d a g (some (bf z h as)) z7) s=.ok (.nx (eF o (.tup (.str nz::fr)) bits d a g (some (bf z h as)) (some (.tup [.str h,.tup as])))) s1/\Kx [q,d,a,g] s s1 /\
  BF fns o q b d a g (L++[z]) (cC++[z]) (gs++[ba (as.map (aY L))]) s1:=by
 obtain ⟨c1,c2,c3,c4,c5⟩:=B.ord
 obtain ⟨s1,E1,o1⟩:=Xg B ha hl hh
 have B1:=B.old o1
 have A2:=j4 (y:=.int (ba (as.map (aY L)))) B1.G (by simp;omega)
 have k2:Kx [g] s1 (s1.set g (.lst (gs.map PV.int++[.int (ba (as.map (aY L)))]))):=yL (by simp)
 have gq:(s1.set g (.lst (gs.map PV.int++[.int (ba (as.map (aY L)))])))[g]?=some (.lst ((gs++[ba (as.map (aY L))]).map PV.int)):=by rw [yp (zR B1.G)];simp
 generalize s1.set g (.lst (gs.map PV.int++[.int (ba (as.map (aY L)))]))=s2 at A2 k2 gq
 have B2:BF fns o q b d a g L cC (gs++[ba (as.map (aY L))]) s2:=⟨k2 _ _ (by simp;omega) B1.H,B1.Q.kx k2 (by simp;omega),k2 _ _ (by simp;omega) B1.B,k2 _ _ (by simp;omega) B1.D,k2 _ _ (by simp;omega) B1.A,gq,B.ord⟩
 obtain ⟨s3,E3,B3,k3⟩:=Je (v:=bf z h as) (fv:=.tup (.str nz::fr)) (bits:=bits) (z7:=some (.tup [.str h,.tup as])) B2 (λs=>yA) hz l1 l2
 have MT:(jN (mB (zt kU (zd (zc 6) zj))) (mB (yF "makes_later" pD (zc 0) (zd (zk zp (zc 1) (At 0)) (zd (zc 6) (zd (zc 3) zj)))))) (eF o (.tup (.str nz::fr)) bits d a g (some (bf z h as)) (some (.tup [.str h,.tup as]))) s2=.ok true s2:=nI (zU (zy (zF (ze rfl)) Xa)) (zU (rV (ze rfl) B2.H (by decide +kernel) (zx rfl) (jE (zo (ze rfl) rfl yz) (ze rfl) (ze rfl)) (Xe B2)))
 exact ⟨s3,zu (zQ (zy (zF (ze rfl)) Ci)) (zu (jb (zU (zo (ze rfl) rfl rfl)) (jD (jL (ze rfl) B.G (rV (ze rfl) B.H (by decide +kernel) (zx rfl) (zD (ze rfl) (ze rfl)) E1) A2))) (jb MT E3)),λm so h e=>k3 _ _ (by simp at h ⊢;omega) (k2 _ _ (by simp at h ⊢;omega) (o1 _ _ e)),B3⟩
def Xi {ss:Aq}{r:Ae}{gl:List Int}(hq:Lq fns L ss r gl):∀{s:aa}{cC:Ae}{gs:List Int}{z6 z7:Ar},BF fns o q b d a g L cC gs s->L.length+ss.length<=1000->cC.length+ss.length<=1000->gs.length+ss.length<=1000->∃ia ib L' s1,forL (gN 6) bF ss (eF o (.tup (.str nz::fr)) bits d a g z6 z7) s=.ok (.nx (eF o (.tup (.str nz::fr)) bits d a g ia ib)) s1/\BF fns o q b d a g L' (cC++r) (gs++gl) s1/\Kx [q,d,a,g] s s1:=by
 induction hq with
 |nil L =>
  intro s cC gs z6 z7 B h1 h2 h3
  exact ⟨_,_,L,s,rfl,by rw [List.append_nil,List.append_nil];exact B,Kx.refl _ _⟩
 |@give L r g1 av ss r' ih =>
  intro s cC gs z6 z7 B h1 h2 h3
  simp at h1 h2 h3
  have Bd:bF (eF o (.tup (.str nz::fr)) bits d a g (some (aV av)) z7) s=.ok (.nx (eF o (.tup (.str nz::fr)) bits d a g (some (aV av)) (some .non))) s:=zu (zQ (zy (zF (ze rfl)) Cg)) (zu (yj (zU (zo (ze rfl) rfl rfl))) (yj (mf (zU (zy (zF (ze rfl)) Xb)))))
  obtain ⟨ia,ib,L',s2,F,B2,k2⟩:=ih (z6:=some (aV av)) (z7:=some .non) B (by omega) (by omega) (by omega)
  exact ⟨ia,ib,L',s2,yU rfl Bd F,B2,k2⟩
 |no ha hl hany r ih =>
  intro s cC gs z6 z7 B h1 h2 h3
  simp at h1 h2 h3
  obtain ⟨s1,E1,k1,_,B1⟩:=Jf (nz:=nz) (fr:=fr) (bits:=bits) (z7:=z7) B ha hl hany (λq=>by cases q) (by omega) (by omega)
  obtain ⟨ia,ib,L',s2,F,B2,k2⟩:=ih (B1 rfl) (by omega) (by omega) (by omega)
  exact ⟨ia,ib,L',s2,yU rfl E1 F,B2,k1.trans k2⟩
 |yes ha hl hany hz r ih =>
  intro s cC gs z6 z7 B h1 h2 h3
  simp at h1 h2 h3
  obtain ⟨s1,E1,k1,B1,_⟩:=Jf (nz:=nz) (fr:=fr) (bits:=bits) (z7:=z7) B ha hl hany (λ_=>hz) (by omega) (by omega)
  obtain ⟨ia,ib,L',s2,F,B2,k2⟩:=ih (B1 rfl) (by simp;omega) (by simp;omega) (by omega)
  rw [wM] at B2
  exact ⟨ia,ib,L',s2,yU rfl E1 F,B2,k1.trans k2⟩
 |call ha hl hz hh r ih =>
  intro s cC gs z6 z7 B h1 h2 h3
  simp at h1 h2 h3
  obtain ⟨s1,E1,k1,B1⟩:=Xh (nz:=nz) (fr:=fr) (bits:=bits) (z7:=z7) B ha hl hz hh (by omega) (by omega) (by omega)
  obtain ⟨ia,ib,L',s2,F,B2,k2⟩:=ih B1 (by simp;omega) (by simp;omega) (by simp;omega)
  rw [wM,wM] at B2
  exact ⟨ia,ib,L',s2,yU rfl E1 F,B2,k1.trans k2⟩
end
abbrev cu (nz:Str) (b:Int) (r:Ae) (g:List Int):PV:=.tup [.str nz,.int b,.tup (r.map PV.str),.tup (g.map PV.int)]
def Jg {fns:Ae}{o q b:Nat}{nz:Str}{ps r:Ae}{ss:Aq}{a:PV}{bits:Int}{gl:List Int}{s:aa}(H:s[o]?=some (mw q b)) (Q:IsT [] s q) (B:s[b]?=some (.dic fns (zr fns))) (c1:o<q) (c2:q<b) (hb:0<=bits) (hp:ps.length<=6) (nd:ps.Nodup) (hq:Lq fns (picks (bitAt bits) 0 ps) (ss++[aV a]) r gl) (hs:ss.length<=900) :
  ∃s1,m_Holding_best_form [.ref o,dg nz ps ss a,.int bits] s=.ok (cu nz bits r gl) s1/\Kx [q] s s1/\IsT [] s1 q:=by
 have LP:=rS (f:=.str nz) (r:=[cM ss (aV a)]) (ps:=ps) bits hb (by omega) s
 have o1:Old s (s++[SO.lst ((picks (bitAt bits) 0 ps).map PV.str)]):=zT _ _
 generalize s++[SO.lst ((picks (bitAt bits) 0 ps).map PV.str)]=s1 at LP o1
 have pl:(picks (bitAt bits) 0 ps).length<=ps.length:=nQ.length_le
 obtain ⟨s2,E2,d2,o2⟩:=uV (picks (bitAt bits) 0 ps) (nQ.nodup nd) (by omega) s1
 have lb:=zR (o1 _ _ B)
 have l2:=zR d2
 have o3:Old s2 (s2++[SO.lst []]):=zT _ _
 have o4:Old (s2++[SO.lst []]) (s2++[SO.lst []]++[SO.lst []]):=zT _ _
 have ol:=o1.trans (o2.trans (o3.trans o4))
 have Xj:BF fns o q b s1.length s2.length (s2++[SO.lst []]).length (picks (bitAt bits) 0 ps) [] [] (s2++[SO.lst []]++[SO.lst []]):=⟨ol _ _ H,Q.old ol,ol _ _ B,o4 _ _ (o3 _ _ d2),o4 _ _ (ye _ _),ye _ _,c1,c2,lb,l2,by simp⟩
 obtain ⟨z6,z7,L',s5,F,B5,k5⟩:=Xi (nz:=nz) (fr:=[.tup (ps.map PV.str),cM ss (aV a)]) (bits:=bits) (z6:=none) (z7:=none) hq Xj (by simp;omega) (by simp;omega) (by simp;omega)
 rw [List.nil_append,List.nil_append] at B5
 refine ⟨s5,zZ rfl (zu (zQ (zy (zF (zy (zD (ze rfl) (ze rfl)) LP)) E2)) (zu (zQ (jm jS (by simp))) (zu (zQ (jm jS (by simp))) (zu (mx (zy (zF (zo (ze rfl) rfl wa)) (Cf hs _)) F) (zY (zP (jj (zo (ze rfl) rfl yz) (ze rfl) (zy (zF (ze rfl)) (by rw [jC,ym B5.A])) (zy (zF (ze rfl)) (by rw [jC,ym B5.G]))) (by simp))))))),λm so hm e=>?_,B5.Q⟩
 have e1:=o1 _ _ e
 have l:=zR e1
 have l':=zR (o2 _ _ e1)
 exact k5 _ _ (by simp at hm ⊢;omega) (ol _ _ e)
section
variable {s s1:aa} {n:Nat} {e:zf}
def Jh {fe src:Aj}{xs Y:Aq}(hs:src e s=.ok (.tup xs) s1) (hl:xs.length<=1000) (hy:xs.length=Y.length) (h:∀(i:Nat) x y,xs[i]?=some x->Y[i]?=some y->fe (some x::e) s1=.ok y s1):jk (yJ src) fe e s=.ok (.ref s1.length) (s1++[.lst Y]):=by
 rw [l8,iK,hs,zJ]
 show gk _ _ (.im xs) s1=_
 rw [oV,zx (by simp [lim];omega)]
 obtain ⟨ys,s2,C,h1,h2⟩:=pE (fe:=fe) (env:=e) xs (λi ys st=>ys=Y.take i/\st=s1) (λi x ys st hx ⟨h1,h2⟩=>by
  have hi:=my hx
  have hq:Y[i]?=some (Y[i]'(by omega)):=yr _
  subst h2
  exact ⟨_,_,h i x _ hx hq,by rw [h1,iS hq],rfl⟩) xs.length 0 [] s1 (by omega) ⟨rfl,rfl⟩
 subst h2
 rw [hy,List.take_length] at h1
 subst h1
 exact C
def Xk {fe src:Aj}{ft:Al}{xs:Aq}{p:PV->Bool}{f:PV->PV}(hs:src e s=.ok (.ref n) s1) (hn:s1[n]?=some (.lst xs)) (hl:xs.length<=1000) (h:∀x∈xs,ft (some x::e) s1=.ok (p x) s1) (h':∀x∈xs,p x=true->fe (some x::e) s1=.ok (f x) s1):qX (yJ src) ft fe e s=.ok (.ref s1.length) (s1++[.lst (xs.flatMap λx=>if p x=true then [f x] else [])]):=by
 rw [R_,iK,hs,zJ,ua,ym hn,zJ]
 have:=HM (f:=f) (env:=e) xs hn h h' xs.length 0 (lim+1) [] (by omega) (by simp [lim];omega)
 rw [List.nil_append,List.drop_zero] at this
 exact this
end
abbrev nU (p:Str×List PV):PV:=.tup [.str p.1,.tup p.2]
inductive Am:List PV->List PV->List (Str×List PV)->Prop
 |nil:Am [] [] []
 |give {a:PV} {ss xs:Aq} {t:List (Str×List PV)}:Am ss xs t->Am (aV a::ss) (.non::xs) t
 |let_ {z w:Str} {as ss xs:Aq} {t:List (Str×List PV)}:Am ss xs t->Am (bp z w as::ss) (.non::xs) t
 |call {z h:Str} {as ss xs:Aq} {t:List (Str×List PV)}:Am ss xs t->Am (bf z h as::ss) (nU (h,as)::xs) ((h,as)::t)
def mF:PV->Bool
 |.non=>false
 |_=>true
def Am.len {ss xs:Aq}{t:List (Str×List PV)}(h:Am ss xs t):ss.length=xs.length/\t.length<=ss.length:=by
 induction h with
 |nil=>simp
 |give _ ih=>simp;omega
 |let_ _ ih=>simp;omega
 |call _ ih=>simp;omega
def Am.at_ {ss xs:Aq}{t:List (Str×List PV)}(h:Am ss xs t):∀(i:Nat) v x,ss[i]?=some v->xs[i]?=some x->∀s,wY [v] s=.ok x s:=by
 induction h with
 |nil=>intro i v x h;simp at h
 |give _ ih =>
  intro i v x h1 h2 s
  match i with
  |0=>cases h1;cases h2;exact Cg
  |i+1=>exact ih i v x (by simpa using h1) (by simpa using h2) s
 |let_ _ ih =>
  intro i v x h1 h2 s
  match i with
  |0=>cases h1;cases h2;exact vg
  |i+1=>exact ih i v x (by simpa using h1) (by simpa using h2) s
 |call _ ih =>
  intro i v x h1 h2 s
  match i with
  |0=>cases h1;cases h2;exact Ci
  |i+1=>exact ih i v x (by simpa using h1) (by simpa using h2) s
def Am.flat {ss xs:Aq}{t:List (Str×List PV)}(h:Am ss xs t):(xs.flatMap λx=>if mF x=true then [id x] else [])=t.map nU:=by
 induction h with
 |nil=>rfl
 |give _ ih=>simpa [mF] using ih
 |let_ _ ih=>simpa [mF] using ih
 |call _ ih=>simpa [mF] using ih
def Am.kind {ss xs:Aq}{t:List (Str×List PV)}(h:Am ss xs t):∀x∈xs,x=.non\/∃ys,x=.tup ys:=by
 induction h with
 |nil=>intro x hx;cases hx
 |give _ ih=>intro x hx;rcases yI.mp hx with q|q;exact .inl q;exact ih x q
 |let_ _ ih=>intro x hx;rcases yI.mp hx with q|q;exact .inl q;exact ih x q
 |call _ ih=>intro x hx;rcases yI.mp hx with q|q;exact .inr ⟨_,q⟩;exact ih x q
section
variable {nz:Str} {ps:Ae} {ss xs:Aq} {a:PV} {t:List (Str×List PV)}
def Xl (h:Am (ss++[aV a]) xs t) (hl:ss.length<=900) (s:aa):∃s1,BI [cM ss (aV a)] s=.ok (.tup (t.map nU)) s1/\Old s s1:=by
 obtain ⟨l1,l2⟩:=h.len
 have C:=Jh (e:=[some (cM ss (aV a)),none]) (fe:=zt wY (zd (zc 0) zj)) (Y:=xs) (s:=s) (s1:=s) (src:=zt (mj 2) (zd (zc 0) zj)) (zy (zF (ze rfl)) (Cf hl s)) (by simp;omega) l1 (λi x y hx hy=>zy (zF (ze rfl)) (h.at_ i x y hx hy s))
 have D:=Xk (e:=[some (cM ss (aV a)),Av s.length]) (src:=zc 1) (ft:=mB (zk wn (zc 0) (mC .non))) (fe:=zc 0) (p:=mF) (f:=id) (n:=s.length) (ze rfl) (ye s (.lst xs)) (by simp at l1;omega) (λx hx=>by
  rcases h.kind x hx with q|⟨ys,q⟩
  ·subst q;exact zU (zo (ze rfl) rfl rfl)
  ·subst q;exact zU (zo (ze rfl) rfl rfl)) (λx hx _=>ze rfl)
 rw [h.flat] at D
 exact ⟨_,zZ rfl (zu (zQ C) (zY (zy (zF D) u_))),(zT _ _).trans (zT _ _)⟩
abbrev b_ (p:Str×Int):PV:=.tup [.str p.1,.int p.2]
theorem Ji {env:zf}{st:aa}:∀(as:List (Str×List PV)) (gs:List Int) (ys:Aq),wC (zI (zd (zk zp (zc 0) (At 0)) (zd (zc 1) zj))) env (jQ (as.map nU) (gs.map PV.int)) ys st=.ok (.ref st.length) (st++[.lst (ys++((as.map (·.1)).zip gs).map b_)])
 |[],gs,ys=>by cases gs<;>simp [jQ,wC]
 |a::as,[],ys=>by simp [jQ,wC]
 | (f,as0)::as,g::gs,ys=>by
  have ih:=Ji (env:=env) (st:=st) as gs (ys++[b_ (f,g)])
  rw [yG,yG]
  show wC _ env (.tup [.tup [.str f,.tup as0],.int g]::jQ _ _) ys st=_
  have E:(zI (zd (zk zp (zc 0) (At 0)) (zd (zc 1) zj))) (some (.tup [.str f,.tup as0])::some (.int g)::env) st=.ok (b_ (f,g)) st:=zP (zD (zo (ze rfl) rfl yz) (ze rfl)) (by simp)
  unfold wC
  simp only [pairOf]
  rw [E,kM,zJ,ih]
  simp
def Jj (h:Am (ss++[aV a]) xs t) (hl:ss.length<=900) (gs:List Int) (s:aa):∃r s1,rP [dg nz ps ss a,.tup (gs.map PV.int)] s=.ok (.ref r) s1/\s1[r]?=some (.lst (((t.map (·.1)).zip gs).map b_))/\s.length<=r/\Old s s1:=by
 obtain ⟨s1,E,o⟩:=Xl h hl s
 have C:=Ji (env:=[some (dg nz ps ss a),some (.tup (gs.map PV.int))]) (st:=s1) t gs []
 rw [List.nil_append] at C
 obtain ⟨_,l2⟩:=h.len
 have zl:(jQ (t.map nU) (gs.map PV.int)).length<=lim:=by
  have h1:∀(xs ys:Aq),(jQ xs ys).length<=xs.length:=λxs ys=>by simp [jQ];omega
  have h2:=h1 (t.map nU) (gs.map PV.int)
  have:lim=1000000:=rfl
  simp at h2 l2
  omega
 have ll:s.length<=s1.length:=by
  rcases Nat.lt_or_ge s1.length s.length with q|q
  ·have h1:s[s1.length]?=some (s[s1.length]'q):=yr _
   have:=zR (o _ _ h1)
   omega
  ·exact q
 refine ⟨s1.length,_,zZ rfl (zY ?_),ye _ _,ll,o.trans (zT _ _)⟩
 rw [RN]
 show (Res.bind (Res.bind _ _) _)=_
 rw [zD (zy (zF (zo (ze rfl) rfl wa)) E) (ze rfl),zJ]
 show (Res.bind (Res.ok (Sq.im (jQ (t.map nU) (gs.map PV.int))) s1) _)=_
 rw [zJ]
 show (if _ then _ else _)=_
 rw [zx zl]
 exact C
end
def Xm:("other" : Str)∉(["main"]:Ae):=by decide +kernel
def Jk (x:PV):jK "main" x [] []=((["main"]:Ae),[x]):=rfl
def Jl (x y:PV):jK "other" y ["main"] [x]=((["main", "other"]:Ae),[x,y]):=rT Xm
section
variable {ss1 ss2:Aq} {a1 a2:PV} {p1 p2:Ae}
def Cj (s:aa):∃s1,rz [.tup [dg "main" p1 ss1 a1,dg "other" p2 ss2 a2]] s=.ok (.ref s.length) s1/\s1[s.length]?=some (.dic ["main", "other"] [dg "main" p1 ss1 a1,dg "other" p2 ss2 a2])/\Old s s1:=by
 generalize h1:dg "main" p1 ss1 a1=F1
 generalize h2:dg "other" p2 ss2 a2=F2
 have i1:∀{s:aa},zp F1 (.int 0) s=.ok (.str "main") s:=by subst h1;exact yz
 have i2:∀{s:aa},zp F2 (.int 0) s=.ok (.str "other") s:=by subst h2;exact yz
 have t0:(s++[SO.dic [] []])[s.length]?=some (.dic [] []):=ye _ _
 have P1:=hW (Jk F1) (fo:=zc 1) (fi:=zk zp (zc 2) (At 0)) (fv:=zc 2) (e:=[some (.tup [F1,F2]),Av s.length,some F1]) (s:=s++[SO.dic [] []]) (ze rfl) (ze rfl) (zo (ze rfl) rfl i1) t0 (by simp)
 have t1:((s++[SO.dic [] []]).set s.length (.dic ["main"] [F1]))[s.length]?=some (.dic ["main"] [F1]):=yp (zR t0)
 have P2:=hW (Jl F1 F2) (fo:=zc 1) (fi:=zk zp (zc 2) (At 0)) (fv:=zc 2) (e:=[some (.tup [F1,F2]),Av s.length,some F2]) (s:=(s++[SO.dic [] []]).set s.length (.dic ["main"] [F1])) (ze rfl) (ze rfl) (zo (ze rfl) rfl i2) t1 (by simp)
 refine ⟨_,zZ rfl (zu (zQ rfl) (zu (mx (ze rfl) (yU rfl P1 (yU rfl P2 rfl))) (zY (ze rfl)))),yp (zR t1),λm so e=>?_⟩
 have:=zR e
 rw [yB (by omega),yB (by omega)]
 exact zT _ _ _ _ e
def Jm (f:Str) (ps:Ae):ba (ps.map λp=>cG (pk f p) [])=0:=HR _ λb hb=>by
 obtain ⟨p,_,rfl⟩:=jI.mp hb
 rfl
def Xn (h1:p1.length<=6) (h2:p2.length<=6) (s:aa):∃q b s1,bZ "Holding" rO [.tup [dg "main" p1 ss1 a1,dg "other" p2 ss2 a2],.tup []] s=.ok (.ref s.length) s1/\s1[s.length]?=some (mw q b)/\IsT [] s1 q/\s1[b]?=some (.dic ["main", "other"] (zr ["main", "other"]))/\s.length<q/\q<b/\b<s1.length/\Old s s1:=by
 let o:=s.length
 let t0:=s++[SO.ins "Holding" [] []]
 have h0:t0[o]?=some (.ins "Holding" [] []):=ye _ _
 obtain ⟨t1,E1,d1,o1⟩:=uV [] List.nodup_nil (by simp) t0
 have lq:t0.length=o+1:=by simp [t0,o]
 have l1:=zR d1
 let t2:=t1.set o (.ins "Holding" ["pairs"] [.ref t0.length])
 have Xo:t2[o]?=some (.ins "Holding" ["pairs"] [.ref t0.length]):=yp (by omega)
 have d2:t2[t0.length]?=some (.dic [] []):=by show (t1.set o _)[t0.length]?=_;rw [yB (by omega)];exact d1
 let b:=t2.length
 have lb:t0.length<b:=zR d2
 let t3:=t2++[SO.dic [] []]
 have h3:t3[o]?=some (.ins "Holding" ["pairs"] [.ref t0.length]):=zT _ _ _ _ Xo
 let t4:=t3.set o (mw t0.length b)
 have h4:t4[o]?=some (mw t0.length b):=yp (zR h3)
 have d4:t4[t0.length]?=some (.dic [] []):=by show (t3.set o _)[t0.length]?=_;rw [yB (by omega)];exact zT _ _ _ _ d2
 have b4:t4[b]?=some (.dic [] []):=by show (t3.set o _)[b]?=_;rw [yB (by omega)];exact ye _ _
 have Q4:IsT [] t4 t0.length:=by unfold IsT;rw [d4];rfl
 obtain ⟨t5,E5,Q5,k5,_⟩:=Ic (f := "main") (ps:=p1) (r:=[cM ss1 (aV a1)]) (by omega) Q4
 rw [Jm] at E5
 have b5:=k5 _ _ (by omega) b4
 have h5:=k5 _ _ (by omega) h4
 let t6:=t5.set b (.dic ["main"] [.int 0])
 have b6:t6[b]?=some (.dic ["main"] [.int 0]):=yp (zR b5)
 have k6:Kx [b] t5 t6:=yL (by simp)
 have Q6:IsT [] t6 t0.length:=Q5.kx k6 (by simp;omega)
 have h6:=k6 _ _ (by simp;omega) h5
 obtain ⟨t7,E7,Q7,k7,_⟩:=Ic (f := "other") (ps:=p2) (r:=[cM ss2 (aV a2)]) (by omega) Q6
 rw [Jm] at E7
 have b7:=k7 _ _ (by omega) b6
 have h7:=k7 _ _ (by omega) h6
 let t8:=t7.set b (.dic ["main", "other"] [.int 0,.int 0])
 have k8:Kx [b] t7 t8:=yL (by simp)
 have b8:t8[b]?=some (.dic ["main", "other"] [.int 0,.int 0]):=yp (zR b7)
 generalize e1:dg "main" p1 ss1 a1=F1 at E5
 generalize e2:dg "other" p2 ss2 a2=F2 at E7
 have E5:nL [F1,.ref t0.length] t4=.ok (.int 0) t5:=by rw [<-e1];exact E5
 have E7:nL [F2,.ref t0.length] t6=.ok (.int 0) t7:=by rw [<-e2];exact E7
 have i1:∀{s:aa},zp F1 (.int 0) s=.ok (.str "main") s:=by subst e1;exact yz
 have i2:∀{s:aa},zp F2 (.int 0) s=.ok (.str "other") s:=by subst e2;exact yz
 have fb:∀{s:aa},s[o]?=some (mw t0.length b)->aX "bits_by_name" insOf excOf (.ref o) s=.ok (.ref b) s:=λh=>jF h (by decide +kernel) rfl
 have P1:=hW (Jk (.int 0)) (fo:=yc (aX "bits_by_name" insOf excOf) (zc 0)) (fi:=zk zp (zc 3) (At 0)) (fv:=zt nL (zd (zc 3) (zd (yc (aX "pairs" insOf excOf) (zc 0)) zj))) (e:=[Av o,some (.tup [F1,F2]),some (.tup []),some F1]) (s:=t4) (s1:=t5) (zy (zD (ze rfl) (yE (ze rfl) (BW h4))) E5) (yE (ze rfl) (fb h5)) (zo (ze rfl) rfl i1) b5 (by simp)
 have P2:=hW (Jl (.int 0) (.int 0)) (fo:=yc (aX "bits_by_name" insOf excOf) (zc 0)) (fi:=zk zp (zc 3) (At 0)) (fv:=zt nL (zd (zc 3) (zd (yc (aX "pairs" insOf excOf) (zc 0)) zj))) (e:=[Av o,some (.tup [F1,F2]),some (.tup []),some F2]) (s:=t6) (s1:=t7) (zy (zD (ze rfl) (yE (ze rfl) (BW h6))) E7) (yE (ze rfl) (fb h7)) (zo (ze rfl) rfl i2) b7 (by simp)
 have E:rO [.ref o,.tup [F1,F2],.tup []] t0=.ok .non t8:=gE rfl (zu (wZ (zy (zF (ze rfl)) E1) (ze rfl) (o1 _ _ h0) (by decide +kernel) (by decide)) (zu (wZ (x:=.ref b) (s1:=t3) rfl (ze rfl) h3 (by decide +kernel) (by decide)) (mx (ze rfl) (yU rfl P1 (yU rfl P2 rfl)))))
 refine ⟨t0.length,b,t8,?_,k8 _ _ (by simp;omega) h7,Q7.kx k8 (by simp;omega),b8,by omega,lb,zR b8,λm so e=>?_⟩
 ·show (rO [.ref o,.tup [F1,F2],.tup []] t0).bind _=_
  rw [E,zJ]
  rfl
 ·have hm:=zR e
  refine k8 _ _ (by simp;omega) (k7 _ _ (by omega) (k6 _ _ (by simp;omega) (k5 _ _ (by omega) ?_)))
  show (t3.set o _)[m]?=_
  rw [yB (by omega)]
  refine zT _ _ _ _ ?_
  show (t1.set o _)[m]?=_
  rw [yB (by omega)]
  exact o1 _ _ (zT _ _ _ _ e)
end
abbrev cB:Ak:=(yd (mB (zk (cy (yq true) true) (zc 11) (zc 6)))
  (zw (wW (zc 6) (zc 11) (mC (.bl true)))
  (yH (yC yM (zc 5) (zc 11))))
  yi)
abbrev tB:Al:=(mB (zk wS (zt yD (zd (zc 7) zj)) (zt yD (zd (zc 5) zj))))
abbrev bB:Ak:=(zw (zO 8 (zk (aW zp) (zc 5) (zt yD (zd (zc 7) zj))))
  (zw (zO 9 (zk (aW zp) (zc 3) (zk (aW zp) (zc 8) (At 0))))
  (zw (zO 10 (yF "best_form" uO (zc 4) (zd (zc 9) (zd (zk (aW zp) (zc 8) (At 1)) zj))))
  (zw (yH (yC yM (zc 7) (zc 10)))
  (yS (yJ (zt rP (zd (zc 9) (zd (zk (aW zp) (zc 10) (At 3)) zj)))) (gN 11)
  cB)))))
abbrev eB (P:PV) (f o m5 m6 m7:Nat) (z8 z9 z10 vh:Ar):zf:=[some P,some (.int 1),some (.tup []),Av f,Av o,Av m5,Av m6,Av m7,z8,z9,z10,vh]
abbrev k1:List Key:=[.inr "main", .inl 1]
abbrev k2:List Key:=[.inr "other", .inl 2]
def r6:cG k2 [k1]=false:=by
 rw [Bool.eq_false_iff]
 intro q
 have:=oh.mp (rh.mp q)
 simp [k1,k2] at this
def Jn:cG k2 [k1,k2]=true:=rh.mpr (by simp)
def Ck {s:aa}{M i:Nat}{fs:Aq}(h:s[M]?=some (.lst fs)) {v:PV}(hi:fs[i]?=some v):aW zp (.ref M) (.int (i:Int)) s=.ok v s:=pH h hi
section
variable {P:PV} {f o m5 m6 m7:Nat} {z8 z9 z10:Ar} {s:aa}
def Xp (h6:IsT [k1] s m6) (h5:s[m5]?=some (.lst [b_ ("main", 1)])) (ne:m5≠m6):∃s1,cB (eB P f o m5 m6 m7 z8 z9 z10 (some (b_ ("other", 2)))) s=.ok (.nx (eB P f o m5 m6 m7 z8 z9 z10 (some (b_ ("other", 2))))) s1/\IsT [k1,k2] s1 m6/\s1[m5]?=some (.lst [b_ ("main", 1),b_ ("other", 2)])/\Kx [m5,m6] s s1:=by
 have R:=rR (old:=yq true) (neg:=true) (k:=k2) h6
 rw [r6] at R
 have q1:=k_ (ks:=[k1]) h6.lt
 have x1:Kx [m5,m6] s (s.set m6 (.dit [k1] (bP [k1]))):=yL (by simp)
 have g1:(s.set m6 (.dit [k1] (bP [k1])))[m5]?=some (.lst [b_ ("main", 1)]):=by rw [yB (yO ne)];exact h5
 generalize s.set m6 (.dit [k1] (bP [k1]))=s1 at R q1 x1 g1
 have Q:=uU (fo:=zc 6) (fi:=zc 11) (fv:=mC (.bl true)) (k:=k2) (e:=eB P f o m5 m6 m7 z8 z9 z10 (some (b_ ("other", 2)))) rfl (ze rfl) (ze rfl) q1 (by simp)
 have ak:du [k1] k2=[k1,k2]:=by unfold du;rw [r6];rfl
 rw [ak] at Q
 have q2:=k_ (ks:=[k1,k2]) q1.lt
 have x2:Kx [m5,m6] s1 (s1.set m6 (.dit [k1,k2] (bP [k1,k2]))):=yL (by simp)
 have gq:(s1.set m6 (.dit [k1,k2] (bP [k1,k2])))[m5]?=some (.lst [b_ ("main", 1)]):=by rw [yB (yO ne)];exact g1
 generalize s1.set m6 (.dit [k1,k2] (bP [k1,k2]))=s2 at Q q2 x2 gq
 have A:=j4 (y:=b_ ("other", 2)) gq (by simp)
 have x3:Kx [m5] s2 (s2.set m5 (.lst ([b_ ("main", 1)]++[b_ ("other", 2)]))):=yL (by simp)
 exact ⟨_,jb (zU (zo (ze rfl) (ze rfl) R)) (zu Q (jD (jL (ze rfl) gq (ze rfl) A))),q2.kx x3 (by simpa using yO ne),yp (zR gq),x1.trans (x2.trans (yL (by simp)))⟩
def Cm (h6:IsT [k1,k2] s m6):∃s1,cB (eB P f o m5 m6 m7 z8 z9 z10 (some (b_ ("other", 2)))) s=.ok (.nx (eB P f o m5 m6 m7 z8 z9 z10 (some (b_ ("other", 2))))) s1/\IsT [k1,k2] s1 m6/\Kx [m6] s s1:=by
 have R:=rR (old:=yq true) (neg:=true) (k:=k2) h6
 rw [Jn] at R
 exact ⟨_,yj (zU (zo (ze rfl) (ze rfl) R)),k_ h6.lt,yL (by simp)⟩
end
section
variable {g:PV->zf->Option zf} {body:Ak} {r i n:Nat} {xs:Aq} {x:PV} {e e1 e2:zf} {s s1:aa} {X:Res Fl}
def pJ (h:s[r]?=some (.lst xs)) (hx:xs[i]?=some x) (hg:g x e=some e1) (hb:body e1 s=.ok (.nx e2) s1) (hr:forR g body r n (i+1) e2 s1=X):forR g body r (n+1) i e s=X:=by
 unfold forR
 rw [ym h,hx]
 simp only
 rw [hg]
 simp only
 rw [hb,zJ]
 exact hr
def Cn (h:s[r]?=some (.lst xs)) (hi:xs.length<=i):forR g body r (n+1) i e s=.ok (.nx e) s:=by
 unfold forR
 rw [ym h,oi hi]
end
abbrev wD:Ae:=["main", "other"]
section
variable {ss1 ss2 Jo nu:Aq} {a1 a2:PV} {r1 r2:Ae} {t1:List (Str×List PV)}
def Xq (q1:Lq wD ["x"] (ss1++[aV a1]) r1 [2,2,2,2]) (A1:Am (ss1++[aV a1]) Jo t1) (ht:t1.map (·.1)=(["other", "other", "other", "other"]:Ae)) (l1:ss1.length<=900) (q2:Lq wD ["x"] (ss2++[aV a2]) r2 []) (A2:Am (ss2++[aV a2]) nu []) (l2:ss2.length<=900) (s:aa) :
  ∃s1,BJ [.tup [dg "main" ["x"] ss1 a1,dg "other" ["r", "x"] ss2 a2],.int 1,.tup []] s=.ok (.tup [cu "main" 1 r1 [2,2,2,2],cu "other" 2 r2 []]) s1/\Old s s1:=by
 obtain ⟨s1,E1,f1,o1⟩:=Cj (p1:=["x"]) (p2:=["r", "x"]) (ss1:=ss1) (ss2:=ss2) (a1:=a1) (a2:=a2) s
 obtain ⟨q,b,s2,E2,H2,Q2,B2,oq,qb,bl,o2⟩:=Xn (p1:=["x"]) (p2:=["r", "x"]) (ss1:=ss1) (ss2:=ss2) (a1:=a1) (a2:=a2) (by decide) (by decide) s1
 let F1:=dg "main" ["x"] ss1 a1
 let F2:=dg "other" ["r", "x"] ss2 a2
 let P:=PV.tup [F1,F2]
 let s3:=s2++[SO.lst [b_ ("main", 1)]]
 have o3:Old s2 s3:=zT _ _
 have m3:s3[s2.length]?=some (.lst [cH k1]):=ye _ _
 obtain ⟨s4,E4,T4,o4⟩:=V3 m3
 let s5:=s4++[SO.lst []]
 have o5:Old s4 s5:=zT _ _
 have g5:s5[s4.length]?=some (.lst []):=ye _ _
 have mG:=o3.trans (o4.trans o5)
 have m5:s5[s2.length]?=some (.lst [b_ ("main", 1)]):=o5 _ _ (o4 _ _ m3)
 have T5:=T4.old o5
 have lf:=zR f1
 have l3:s3.length=s2.length+1:=by simp [s3]
 have l4:=T4.lt
 have lo:=zR H2
 have f5:=mG _ _ (o2 _ _ f1)
 have e1:picks (bitAt 1) 0 ["x"]=(["x"]:Ae):=by kernel_rfl
 have e2:picks (bitAt 2) 0 ["r", "x"]=(["x"]:Ae):=by kernel_rfl
 obtain ⟨s6,E6,k6,Q6⟩:=Jg (nz := "main") (ps:=["x"]) (bits:=1) (mG _ _ H2) (Q2.old mG) (mG _ _ B2) oq qb (by decide) (by decide) (by simp) (by rw [e1];exact q1) l1
 have g6:=k6 _ _ (by simp;omega) g5
 let s7:=s6.set s4.length (.lst ([]++[cu "main" 1 r1 [2,2,2,2]]))
 have k7:Kx [s4.length] s6 s7:=yL (by simp)
 have g7:s7[s4.length]?=some (.lst [cu "main" 1 r1 [2,2,2,2]]):=yp (zR g6)
 obtain ⟨rr,s8,E8,r8,lr,o8⟩:=Jj (nz := "main") (ps:=["x"]) A1 l1 [2,2,2,2] s7
 rw [ht] at r8
 have r8:s8[rr]?=some (.lst [b_ ("other", 2),b_ ("other", 2),b_ ("other", 2),b_ ("other", 2)]):=r8
 have m6:=k6 _ _ (by simp;omega) m5
 have m7:=k7 _ _ (by simp;omega) m6
 have T7:=(T5.kx k6 (by simp;omega)).kx k7 (by simp;omega)
 have lg:=zR g7
 obtain ⟨u1,C1,T1,M1,x1⟩:=Xp (P:=P) (f:=s.length) (o:=s1.length) (m7:=s4.length) (z8:=some (b_ ("main", 1))) (z9:=some F1) (z10:=some (cu "main" 1 r1 [2,2,2,2])) (T7.old o8) (o8 _ _ m7) (by omega)
 obtain ⟨u2,C2,T2,x2⟩:=Cm (P:=P) (f:=s.length) (o:=s1.length) (m5:=s2.length) (m7:=s4.length) (z8:=some (b_ ("main", 1))) (z9:=some F1) (z10:=some (cu "main" 1 r1 [2,2,2,2])) T1
 obtain ⟨u3,C3,T3,x3⟩:=Cm (P:=P) (f:=s.length) (o:=s1.length) (m5:=s2.length) (m7:=s4.length) (z8:=some (b_ ("main", 1))) (z9:=some F1) (z10:=some (cu "main" 1 r1 [2,2,2,2])) T2
 obtain ⟨u4,C4,ZR,x4⟩:=Cm (P:=P) (f:=s.length) (o:=s1.length) (m5:=s2.length) (m7:=s4.length) (z8:=some (b_ ("main", 1))) (z9:=some F1) (z10:=some (cu "main" 1 r1 [2,2,2,2])) T3
 have rn:rr∉[s2.length,s3.length]:=by simp;omega
 have Co:rr∉[s3.length]:=by simp;omega
 have w1:=x1 _ _ rn r8
 have w2:=x2 _ _ Co w1
 have w3:=x3 _ _ Co w2
 have w4:=x4 _ _ Co w3
 have FO:(yS (yJ (zt rP (zd (zc 9) (zd (zk (aW zp) (zc 10) (At 3)) zj)))) (gN 11) cB) (eB P s.length s1.length s2.length s3.length s4.length (some (b_ ("main", 1))) (some F1) (some (cu "main" 1 r1 [2,2,2,2])) none) s7=.ok (.nx (eB P s.length s1.length s2.length s3.length s4.length (some (b_ ("main", 1))) (some F1) (some (cu "main" 1 r1 [2,2,2,2])) (some (b_ ("other", 2))))) u4 :=
  uZ (zy (zD (ze rfl) (zo (ze rfl) rfl Ib)) E8) r8 (pJ (i:=0) r8 rfl rfl C1 (pJ w1 rfl rfl C2 (pJ w2 rfl rfl C3 (pJ w3 rfl rfl C4 (Cn w4 (by simp))))))
 have I1:aW zp (.ref s.length) (.str "main") s5=.ok F1 s5:=wu f5 (by kernel_rfl)
 have Xr:bB (eB P s.length s1.length s2.length s3.length s4.length none none none none) s5=.ok (.nx (eB P s.length s1.length s2.length s3.length s4.length (some (b_ ("main", 1))) (some F1) (some (cu "main" 1 r1 [2,2,2,2])) (some (b_ ("other", 2))))) u4:=zu (zQ (zo (ze rfl) (zy (zF (ze rfl)) (bw g5)) (Ck (i:=0) m5 rfl))) (zu (zQ (zo (ze rfl) (zo (ze rfl) rfl iV) I1)) (zu (zQ (rV (ze rfl) (mG _ _ H2) (by decide +kernel) (zx rfl) (zD (ze rfl) (zo (ze rfl) rfl nP)) E6)) (zu (jD (jL (ze rfl) g6 (ze rfl) (j4 g6 (by simp)))) FO)))
 have kk:Kx [q,s2.length,s3.length,s4.length] s5 u4:=λm so hm e=>by
  simp at hm
  exact x4 _ _ (by simp;omega) (x3 _ _ (by simp;omega) (x2 _ _ (by simp;omega) (x1 _ _ (by simp;omega) (o8 _ _ (k7 _ _ (by simp;omega) (k6 _ _ (by simp;omega) e))))))
 have gU:u4[s4.length]?=some (.lst [cu "main" 1 r1 [2,2,2,2]]):=x4 _ _ (by simp;omega) (x3 _ _ (by simp;omega) (x2 _ _ (by simp;omega) (x1 _ _ (by simp;omega) (o8 _ _ g7))))
 have mU:u4[s2.length]?=some (.lst [b_ ("main", 1),b_ ("other", 2)]):=x4 _ _ (by simp;omega) (x3 _ _ (by simp;omega) (x2 _ _ (by simp;omega) M1))
 have QU:IsT [] u4 q:=((((((Q6.kx k7 (by simp;omega)).old o8).kx x1 (by simp;omega)).kx x2 (by simp;omega)).kx x3 (by simp;omega)).kx x4 (by simp;omega))
 have HU:=kk _ _ (by simp;omega) (mG _ _ H2)
 have BU:=kk _ _ (by simp;omega) (mG _ _ B2)
 have fU:=kk _ _ (by simp;omega) f5
 obtain ⟨v6,V6,y6,_⟩:=Jg (nz := "other") (ps:=["r", "x"]) (bits:=2) HU QU BU oq qb (by decide) (by decide) (by decide +kernel) (by rw [e2];exact q2) l2
 have h6:=y6 _ _ (by simp;omega) gU
 let v7:=v6.set s4.length (.lst ([cu "main" 1 r1 [2,2,2,2]]++[cu "other" 2 r2 []]))
 have y7:Kx [s4.length] v6 v7:=yL (by simp)
 have h7:v7[s4.length]?=some (.lst [cu "main" 1 r1 [2,2,2,2],cu "other" 2 r2 []]):=yp (zR h6)
 obtain ⟨pp,v8,V8,p8,_,y8⟩:=Jj (nz := "other") (ps:=["r", "x"]) A2 l2 [] v7
 have p8:v8[pp]?=some (.lst []):=p8
 have I2:aW zp (.ref s.length) (.str "other") u4=.ok F2 u4:=wu fU (by kernel_rfl)
 have Xs:bB (eB P s.length s1.length s2.length s3.length s4.length (some (b_ ("main", 1))) (some F1) (some (cu "main" 1 r1 [2,2,2,2])) (some (b_ ("other", 2)))) u4=.ok (.nx (eB P s.length s1.length s2.length s3.length s4.length (some (b_ ("other", 2))) (some F2) (some (cu "other" 2 r2 [])) (some (b_ ("other", 2))))) v8:=zu (zQ (zo (ze rfl) (zy (zF (ze rfl)) (bw gU)) (Ck (i:=1) mU rfl))) (zu (zQ (zo (ze rfl) (zo (ze rfl) rfl iV) I2)) (zu (zQ (rV (ze rfl) HU (by decide +kernel) (zx rfl) (zD (ze rfl) (zo (ze rfl) rfl nP)) V6)) (zu (jD (jL (ze rfl) h6 (ze rfl) (j4 h6 (by simp)))) (uZ (zy (zD (ze rfl) (zo (ze rfl) rfl Ib)) V8) p8 (Cn p8 (by simp))))))
 have h8:=y8 _ _ h7
 have m8:=y8 _ _ (y7 _ _ (by simp;omega) (y6 _ _ (by simp;omega) mU))
 have W:cA tB bB 1000000 (eB P s.length s1.length s2.length s3.length s4.length none none none none) s5=.ok (.nx _) v8:=ly (n:=999999) (zU (zo (zy (zF (ze rfl)) (bw g5)) (zy (zF (ze rfl)) (bw m5)) (kZ true (by simp) _))) Xr (ly (n:=999998) (zU (zo (zy (zF (ze rfl)) (bw gU)) (zy (zF (ze rfl)) (bw mU)) (kZ true (by simp) _))) Xs (ve 999997 (zU (zo (zy (zF (ze rfl)) (bw h8)) (zy (zF (ze rfl)) (bw m8)) (kZ false (by simp) _)))))
 refine ⟨v8,zZ rfl (zu (zQ (zy (zF (ze rfl)) E1)) (zu (zQ (zy (zD (ze rfl) (ze rfl)) E2)) (zu (zQ (jm (zF (zP (zD (zo (zo (ze rfl) rfl iV) rfl iV) (ze rfl)) (by simp))) (by simp))) (zu (zQ (zy (zF (ze rfl)) E4)) (zu (zQ (jm jS (by simp))) (zu W (zY (zy (zF (ze rfl)) (by rw [jC,ym h8]))))))))),λm so e=>?_⟩
 have hm:=zR e
 have ll:=zR (o1 _ _ e)
 exact y8 _ _ (y7 _ _ (by simp;omega) (y6 _ _ (by simp;omega) (kk _ _ (by simp;omega) (mG _ _ (o2 _ _ (o1 _ _ e))))))
end
def Jp {s:aa}{d:Nat}{ks:Ae}{xs:Aq}{z:Str}{b:Bool}(h:s[d]?=some (.dic ks xs)) (hb:((ks.zip xs).lookup z).isSome=b):yq true (.str z) (.ref d) s=.ok (.bl (!b)) s:=by
 simp [yq,h,hb]
inductive Bq (LL:Ae):List PV->Nat->Prop
 |nil:Bq LL [] 0
 |give {a:PV} {ss:Aq} {n:Nat}:Bq LL ss n->Bq LL (aV a::ss) n
 |let_ {z w:Str} {as ss:Aq} {n:Nat}:(∀a∈as,dW a)->as.length<=1000->(as.any (aY LL)=true->z∈LL)->Bq LL ss n->Bq LL (bp z w as::ss) n
 |call {z:Str} {as ss:Aq} {n:Nat}:(∀a∈as,dW a)->as.length<=1000->z∈LL->ba (as.map (aY LL))=2->Bq LL ss n->Bq LL (bf z "other" as::ss) (n+1)
section
variable {LL:Ae} {d m:Nat} {s:aa} {a:PV} {z w:Str} {as:Aq}
def Xt (s:aa):pv [aV a,.ref d] s=.ok .non s:=zZ rfl (zu (yj (mf (q0 rfl (dJ VS _)))) (zu (yj (mf (q0 rfl (dJ n3 _)))) (zY rfl)))
def Xu (ha:∀a∈as,dW a) (hl:as.length<=1000) (hz:as.any (aY LL)=true->z∈LL) (hd:s[d]?=some (.dic LL (bP LL))):∃s1,pv [bp z w as,.ref d] s=.ok .non s1/\Old s s1:=by
 have N:=uT ha hl (L:=LL) (.inl ⟨_,hd,by simp⟩:k9 LL s d)
 have o1:Old s (s++[SO.lst ((as.map (aY LL)).map PV.bl)]):=zT _ _
 have B:decide (ba (as.map (aY LL))≠0)=as.any (aY LL):=by rw [H9,List.any_map];rfl
 have T:(mB (zk jY (zt kT (zd (zt nK (zd (zc 0) zj)) (zd (zc 1) zj))) (At 0))) [some (bp z w as),Av d] s=.ok (as.any (aY LL)) (s++[SO.lst ((as.map (aY LL)).map PV.bl)]):=zU (zo (zy (zD (zy (zF (ze rfl)) Jd) (ze rfl)) N) rfl (by rw [Ih,B]))
 have X:(jN (mB (zk yx (zk zp (zc 0) (At 0)) (Au "let"))) (jN (mB (zk jY (zt kT (zd (zt nK (zd (zc 0) zj)) (zd (zc 1) zj))) (At 0))) (mB (zk (yq true) (zk zp (zc 0) (At 1)) (zc 1))))) [some (bp z w as),Av d] s=.ok false (s++[SO.lst ((as.map (aY LL)).map PV.bl)]):=by
  refine nI (q0 rfl (iU _)) ?_
  cases hany:as.any (aY LL) with
  |false=>rw [hany] at T;exact mf T
  |true =>
   rw [hany] at T
   exact nI T (zU (zo (zo (ze rfl) rfl yA) (ze rfl) (Jp (b:=true) (o1 _ _ hd) (by rw [uS (by simp)];exact jV (hz hany)))))
 exact ⟨_,zZ rfl (zu (yj X) (zu (yj (mf (q0 rfl (dJ n1 _)))) (zY rfl))),o1⟩
def Xv {h:Str}(hz:z∈LL) (hd:s[d]?=some (.dic LL (bP LL))):pv [bf z h as,.ref d] s=.ok .non s :=
 zZ rfl (zu (yj (mf (q0 rfl (dJ W_ _)))) (zu (yj (nI (q0 rfl (iU _)) (zU (zo (zo (ze rfl) rfl yA) (ze rfl) (Jp (b:=true) hd (by rw [uS (by simp)];exact jV hz)))))) (zY rfl)))
def Xw (s:aa):nA (.int 2) (.int 2) s=.ok (.int 2) s:=by kernel_rfl
def Xx (ha:∀a∈as,dW a) (hl:as.length<=1000) (hb:ba (as.map (aY LL))=2) (hd:s[d]?=some (.dic LL (bP LL))) (hm:IsT [k1,k2] s m):∃s1,uB [.tup [.str "other", .tup as],.int 2,.ref d,.ref m] s=.ok .non s1/\IsT [k1,k2] s1 m/\Kx [m] s s1:=by
 have N:=uT ha hl (L:=LL) (.inl ⟨_,hd,by simp⟩:k9 LL s d)
 rw [hb] at N
 have o1:Old s (s++[SO.lst ((as.map (aY LL)).map PV.bl)]):=zT _ _
 have R:=rR (old:=yq true) (neg:=true) (k:=k2) (hm.old o1)
 rw [Jn] at R
 exact ⟨_,zZ rfl (zu (yj (zU (zo (zo (zy (zD (zo (ze rfl) rfl nP) (ze rfl)) N) (ze rfl) (Xw _)) (ze rfl) (Sh 2 2)))) (zu (yj (zU (zo (zP (zD (zo (ze rfl) rfl iV) (ze rfl)) (by simp)) (ze rfl) R))) (zY rfl))),k_ (hm.old o1).lt,o1.kx.trans (yL (by simp))⟩
end
abbrev bQ:Ak:=(zw (zO 6 (zt pv (zd (zc 5) (zd (zc 3) zj))))
  (zw (yd (mB (zk wn (zc 6) (mC .non)))
  yK
  yi)
  (zw (zO 7 (zt wY (zd (zc 5) zj)))
  (yd (mB (zk wn (zc 7) (mC .non)))
  (zw (zO 6 (zt uB (zd (zc 7) (zd (zk zp (zk zp (zc 1) (At 3)) (zc 4)) (zd (zc 3) (zd (zc 2) zj))))))
  (zw (yd (mB (zk wn (zc 6) (mC .non)))
  yK
  yi)
  (wT 4 dU (At 1))))
  yi))))
abbrev eQ (fv fm:PV) (m d p:Nat) (z5 z6 z7:Ar):zf:=[some fv,some fm,Av m,Av d,some (nV p),z5,z6,z7]
def Jq {xs:Aq}{j:Nat}{x:PV}(hx:xs[j]?=some x) (s:aa):zp (.tup xs) (.int (j:Int)) s=.ok x s:=by
 rw [Q1,b0 hx]
 rfl
def Xy {LL:Ae}{fv:PV}{nz:Str}{bits:Int}{r:Ae}{G:List Int}{d m:Nat}(nd:d≠m) {ss:Aq}{n:Nat}(h:Bq LL ss n):∀{p:Nat}{s:aa}{z5 z6 z7:Ar},p+n<=G.length->(∀g∈G,g=2)->s[d]?=some (.dic LL (bP LL))->IsT [k1,k2] s m->∃Xz ia ib s1,forL (gN 5) bQ ss (eQ fv (cu nz bits r G) m d p z5 z6 z7) s=.ok (.nx (eQ fv (cu nz bits r G) m d (p+n) Xz ia ib)) s1/\IsT [k1,k2] s1 m/\Kx [m] s s1:=by
 induction h with
 |nil=>exact λ{p s z5 z6 z7} hp hG hd hm=>⟨_,_,_,s,rfl,hm,Kx.refl _ _⟩
 |@give av ss n _ ih =>
  intro p s z5 z6 z7 hp hG hd hm
  obtain ⟨y5,y6,y7,s2,F,m2,k⟩:=ih (z5:=some (aV av)) (z6:=some .non) (z7:=some .non) hp hG hd hm
  exact ⟨y5,y6,y7,s2,yU rfl (zu (zQ (zy (zD (ze rfl) (ze rfl)) (Xt s))) (zu (yj (zU (zo (ze rfl) rfl rfl))) (zu (zQ (zy (zF (ze rfl)) Cg)) (yj (zU (zo (ze rfl) rfl rfl)))))) F,m2,k⟩
 |@let_ z w as ss n ha hl hz _ ih =>
  intro p s z5 z6 z7 hp hG hd hm
  obtain ⟨s1,E1,o1⟩:=Xu (w:=w) ha hl hz hd
  obtain ⟨y5,y6,y7,s2,F,m2,k⟩:=ih (z5:=some (bp z w as)) (z6:=some .non) (z7:=some .non) hp hG (o1 _ _ hd) (hm.old o1)
  exact ⟨y5,y6,y7,s2,yU rfl (zu (zQ (zy (zD (ze rfl) (ze rfl)) E1)) (zu (yj (zU (zo (ze rfl) rfl rfl))) (zu (zQ (zy (zF (ze rfl)) vg)) (yj (zU (zo (ze rfl) rfl rfl)))))) F,m2,o1.kx.trans k⟩
 |@call z as ss n ha hl hz hb _ ih =>
  intro p s z5 z6 z7 hp hG hd hm
  obtain ⟨s1,E1,m1,k1⟩:=Xx ha hl hb hd hm
  obtain ⟨y5,y6,y7,s2,F,m2,k⟩:=ih (p:=p+1) (z5:=some (bf z "other" as)) (z6:=some .non) (z7:=some (.tup [.str "other", .tup as])) (by omega) hG (k1 _ _ (by simpa using nd) hd) m1
  have hg:G[p]?=some (G[p]'(by omega)):=yr _
  have e2:=hG _ (List.getElem_mem (by omega:p<G.length))
  rw [e2] at hg
  have hx:zp (.tup (G.map PV.int)) (nV p) s=.ok (.int 2) s:=Jq (by rw [jo,hg];rfl) s
  have ep:p+(n+1)=p+1+n:=by omega
  rw [ep]
  exact ⟨y5,y6,y7,s2,yU rfl (zu (zQ (zy (zD (ze rfl) (ze rfl)) (Xv hz hd))) (zu (yj (zU (zo (ze rfl) rfl rfl))) (zu (zQ (zy (zF (ze rfl)) Ci)) (jb (zU (zo (ze rfl) rfl rfl)) (zu (zQ (zy (jj (ze rfl) (zo (zo (ze rfl) rfl mq) (ze rfl) hx) (ze rfl) (ze rfl)) E1)) (zu (yj (zU (zo (ze rfl) rfl rfl))) (vf rfl))))))) F,m2,k1.trans k⟩
section
variable {nz:Str} {ps r:Ae} {ss:Aq} {a:PV} {bits:Int} {G:List Int} {s:aa} {m n:Nat}
def Jr (hb:0<=bits) (hp:ps.length<=6) (nd:(picks (bitAt bits) 0 ps++r).Nodup) (lr:r.length<=900) (hs:ss.length<=900) (h:Bq (picks (bitAt bits) 0 ps++r) (ss++[aV a]) n) (hn:n<=G.length) (hG:∀g∈G,g=2) (hm:IsT [k1,k2] s m) :
  ∃s1,BA [dg nz ps ss a,cu nz bits r G,.ref m] s=.ok .non s1/\IsT [k1,k2] s1 m/\Kx [m] s s1:=by
 have LP:=rS (f:=.str nz) (r:=[cM ss (aV a)]) (ps:=ps) bits hb (by omega) s
 have o1:Old s (s++[SO.lst ((picks (bitAt bits) 0 ps).map PV.str)]):=zT _ _
 generalize s++[SO.lst ((picks (bitAt bits) 0 ps).map PV.str)]=s1 at LP o1
 have pl:(picks (bitAt bits) 0 ps).length<=ps.length:=nQ.length_le
 obtain ⟨s2,E2,d2,o2⟩:=uV (picks (bitAt bits) 0 ps++r) nd (by simp;omega) s1
 rw [wL] at E2
 have ml:=(hm.old o1).lt
 obtain ⟨y5,y6,y7,s3,F,m3,k3⟩:=Xy (fv:=dg nz ps ss a) (nz:=nz) (bits:=bits) (r:=r) (by omega:s1.length≠m) h (p:=0) (z5:=none) (z6:=none) (z7:=none) (by omega) hG d2 (hm.old (o1.trans o2))
 refine ⟨s3,zZ rfl (zu (zQ (zy (zF (zo (zy (zD (ze rfl) (zo (ze rfl) rfl yA)) LP) (zo (ze rfl) rfl wa) (BQ (by simp;omega)))) E2)) (zu (zQ rfl) (zu (mx (zy (zF (zo (ze rfl) rfl wa)) (Cf hs _)) F) (zY rfl)))),m3,(o1.trans o2).kx.trans k3⟩
end
def XB {r:Nat}{st:aa}(hr:st[r]?=some (.lst [cH k1,cH k2])):∃s1,iO [.ref r] st=.ok (.ref st.length) s1/\IsT [k1,k2] s1 st.length/\Old st s1:=by
 have rl:=zR hr
 have h0:IsT [] (st++[SO.dic [] []]) st.length:=by unfold IsT;rw [ye];rfl
 have r0:(st++[SO.dic [] []])[r]?=some (.lst [cH k1,cH k2]):=zT _ _ _ _ hr
 have P:=uU (fo:=zc 1) (fi:=zc 2) (fv:=mC (.bl true)) (k:=k1) (e:=[Av r,Av st.length,some (cH k1)]) rfl (ze rfl) (ze rfl) h0 (by simp)
 have a1:du [] k1=[k1]:=rfl
 rw [a1] at P
 have h1:=k_ (ks:=[k1]) h0.lt
 have x1:Kx [st.length] (st++[SO.dic [] []]) ((st++[SO.dic [] []]).set st.length (.dit [k1] (bP [k1]))):=yL (by simp)
 generalize (st++[SO.dic [] []]).set st.length (.dit [k1] (bP [k1]))=s1 at P h1 x1
 have r1:=x1 _ _ (by simp;omega) r0
 have Q:=uU (fo:=zc 1) (fi:=zc 2) (fv:=mC (.bl true)) (k:=k2) (e:=[Av r,Av st.length,some (cH k2)]) rfl (ze rfl) (ze rfl) h1 (by simp)
 have a2:du [k1] k2=[k1,k2]:=by unfold du;rw [r6];rfl
 rw [a2] at Q
 have h2:=k_ (ks:=[k1,k2]) h1.lt
 have x2:Kx [st.length] s1 (s1.set st.length (.dit [k1,k2] (bP [k1,k2]))):=yL (by simp)
 generalize s1.set st.length (.dit [k1,k2] (bP [k1,k2]))=s2 at Q h2 x2
 have r2:=x2 _ _ (by simp;omega) r1
 refine ⟨s2,zZ rfl (zu (zQ rfl) (zu (uZ (ze rfl) r0 (pJ (i:=0) r0 rfl rfl P (pJ r1 rfl rfl Q (Cn r2 (by simp))))) (zY (ze rfl)))),h2,λk so e=>?_⟩
 have:=zR e
 exact x2 _ _ (by simp;omega) (x1 _ _ (by simp;omega) (zT _ _ _ _ e))
section
variable {ss1 ss2:Aq} {a1 a2:PV} {r1 r2:Ae}
def XC (b1:Bq ((["x"]:Ae)++r1) (ss1++[aV a1]) 4) (Cp:((["x"]:Ae)++r1).Nodup) (l1:ss1.length<=900) (XD:r1.length<=900) (b2:Bq ((["x"]:Ae)++r2) (ss2++[aV a2]) 0) (vi:((["x"]:Ae)++r2).Nodup) (l2:ss2.length<=900) (XE:r2.length<=900) (s:aa) :
  ∃s1,uC [.tup [dg "main" ["x"] ss1 a1,dg "other" ["r", "x"] ss2 a2],.tup [cu "main" 1 r1 [2,2,2,2],cu "other" 2 r2 []]] s=.ok .non s1/\Old s s1:=by
 obtain ⟨s1,E1,f1,o1⟩:=Cj (p1:=["x"]) (p2:=["r", "x"]) (ss1:=ss1) (ss2:=ss2) (a1:=a1) (a2:=a2) s
 let P:=PV.tup [dg "main" ["x"] ss1 a1,dg "other" ["r", "x"] ss2 a2]
 let R:=PV.tup [cu "main" 1 r1 [2,2,2,2],cu "other" 2 r2 []]
 have e1:picks (bitAt 1) 0 ["x"]=(["x"]:Ae):=by kernel_rfl
 have e2:picks (bitAt 2) 0 ["r", "x"]=(["x"]:Ae):=by kernel_rfl
 have C:=Jh (e:=[some P,some R,Av s.length,none,none,none]) (src:=zc 1) (fe:=zI (zd (zk zp (zc 0) (At 0)) (zd (zk zp (zc 0) (At 1)) zj))) (xs:=[cu "main" 1 r1 [2,2,2,2],cu "other" 2 r2 []]) (Y:=[cH k1,cH k2]) (s:=s1) (s1:=s1) (ze rfl) (by simp) rfl (λi x y hx hy=>by
  match i with
  |0=>cases hx;cases hy;exact zP (zD (zo (ze rfl) rfl yz) (zo (ze rfl) rfl yA)) (by simp)
  |1=>cases hx;cases hy;exact zP (zD (zo (ze rfl) rfl yz) (zo (ze rfl) rfl yA)) (by simp)
  |i+2=>cases hx)
 have o2:Old s1 (s1++[SO.lst [cH k1,cH k2]]):=zT _ _
 obtain ⟨s3,E3,T3,o3⟩:=XB (ye s1 (SO.lst [cH k1,cH k2]))
 have fl:=zR f1
 have f3:=o3 _ _ (o2 _ _ f1)
 have ml:s1.length<(s1++[SO.lst [cH k1,cH k2]]).length:=by simp
 obtain ⟨s4,E4,T4,k4⟩:=Jr (nz := "main") (ps:=["x"]) (bits:=1) (G:=[2,2,2,2]) (by decide) (by decide) (by rw [e1];exact Cp) XD l1 (by rw [e1];exact b1) (by decide) (by decide) T3
 have f4:=k4 _ _ (by simp;omega) f3
 obtain ⟨s5,E5,T5,k5⟩:=Jr (nz := "other") (ps:=["r", "x"]) (bits:=2) (G:=[]) (by decide) (by decide) (by rw [e2];exact vi) XE l2 (by rw [e2];exact b2) (by decide) (by simp) T4
 have I1:zp (.ref s.length) (.str "main") s3=.ok (dg "main" ["x"] ss1 a1) s3:=wu f3 (by kernel_rfl)
 have I2:zp (.ref s.length) (.str "other") s4=.ok (dg "other" ["r", "x"] ss2 a2) s4:=wu f4 (by kernel_rfl)
 refine ⟨s5,zZ rfl (zu (zQ (zy (zF (ze rfl)) E1)) (zu (zQ (zy (zF C) E3)) (zu (mx (ze rfl) (yU rfl (zu (zQ (zy (jE (zo (ze rfl) (zo (ze rfl) rfl yz) I1) (ze rfl) (ze rfl)) E4)) (yj (zU (zo (ze rfl) rfl rfl)))) (yU rfl (zu (zQ (zy (jE (zo (ze rfl) (zo (ze rfl) rfl yz) I2) (ze rfl) (ze rfl)) E5)) (yj (zU (zo (ze rfl) rfl rfl)))) rfl))) (zY rfl)))),λm so e=>?_⟩
 have hm:=zR (o1 _ _ e)
 exact k5 _ _ (by simp;omega) (k4 _ _ (by simp;omega) (o3 _ _ (o2 _ _ (o1 _ _ e))))
def XF (s:aa):∃s1,BB [.tup [cu "main" 1 r1 [2,2,2,2],cu "other" 2 r2 []]] s=.ok (.ref s.length) s1/\s1[s.length]?=some (.dit [k1,k2] [cu "main" 1 r1 [2,2,2,2],cu "other" 2 r2 []])/\Old s s1:=by
 let f1:=cu "main" 1 r1 [2,2,2,2]
 let f2:=cu "other" 2 r2 []
 have t0:cj (s++[SO.dic [] []])[s.length]?=some ([],[]):=by rw [ye];rfl
 have P1:=BZ (fo:=zc 1) (fi:=zI (zd (zk (aW zp) (zc 2) (At 0)) (zd (zk (aW zp) (zc 2) (At 1)) zj))) (fv:=zc 2) (e:=[some (.tup [f1,f2]),Av s.length,some f1]) (s:=s++[SO.dic [] []]) (ze rfl) (ze rfl) (zP (zD (zo (ze rfl) rfl iV) (zo (ze rfl) rfl nP)) (by simp)) (k:=k1) rfl t0 rfl (by simp)
 have t1:((s++[SO.dic [] []]).set s.length (.dit ([]++[k1]) ([]++[f1])))[s.length]?=some (.dit [k1] [f1]):=yp (by simp)
 have P2:=BZ (fo:=zc 1) (fi:=zI (zd (zk (aW zp) (zc 2) (At 0)) (zd (zk (aW zp) (zc 2) (At 1)) zj))) (fv:=zc 2) (e:=[some (.tup [f1,f2]),Av s.length,some f2]) (s:=(s++[SO.dic [] []]).set s.length (.dit ([]++[k1]) ([]++[f1]))) (ze rfl) (ze rfl) (zP (zD (zo (ze rfl) rfl iV) (zo (ze rfl) rfl nP)) (by simp)) (k:=k2) rfl (by rw [t1];rfl) r6 (by simp)
 refine ⟨_,zZ rfl (zu (zQ rfl) (zu (mx (ze rfl) (yU rfl P1 (yU rfl P2 rfl))) (zY (ze rfl)))),yp (zR t1),λm so e=>?_⟩
 have:=zR e
 rw [yB (by omega),yB (by omega)]
 exact zT _ _ _ _ e
end
section
variable {g:PV->zf->Option zf} {body:Ak} {r i n:Nat} {xs:Aq} {x:PV} {e e1 e2:zf} {s s1:aa} {X:Res Fl}
def Js (h:s[r]?=some (.lst xs)) (hi:xs.length<=i):dR g body r (n+1) i e s=.ok (.nx e) s:=by
 unfold dR
 rw [ym h,oi hi]
def Cq (h:s[r]?=some (.lst xs)) (hx:xs[i]?=some x) (hg:g (.tup [.int (i:Int),x]) e=some e1) (hb:body e1 s=.ok (.nx e2) s1) (hr:dR g body r n (i+1) e2 s1=X):dR g body r (n+1) i e s=X:=by
 unfold dR
 rw [ym h,hx]
 simp only
 rw [hg]
 simp only
 rw [hb,zJ]
 exact hr
def XG {fs:Ai}{a b:PV}{f1 f2:zf}{s0 s2:aa}(hf:fs e s0=.ok [.ref r] s) (h:s[r]?=some (.lst [a,b])) (h1:s1[r]?=some (.lst [a,b])) (h2:s2[r]?=some (.lst [a,b]))
  (g1:g (.tup [.int 0,a]) e=some f1) (b1:body f1 s=.ok (.nx e1) s1) (g2:g (.tup [.int 1,b]) e1=some f2) (b2:body f2 s1=.ok (.nx e2) s2):l7 fs g body e s0=.ok (.nx e2) s2:=by
 rw [Fn,hf,zJ]
 show ((yl s r _).bind _)=_
 rw [ym h,zJ]
 exact Cq h rfl g1 b1 (Cq h1 rfl g2 b2 (Js h2 (by simp)))
inductive Rn (g:PV->zf->Option zf) (body:Ak):List PV->zf->aa->zf->aa->Prop
 |nil (e:zf) (s:aa):Rn g body [] e s e s
 |cons {x:PV} {xs:Aq} {e e1 e2 e3:zf} {s s2 s3:aa}:g x e=some e1->body e1 s=.ok (.nx e2) s2->Rn g body xs e2 s2 e3 s3->Rn g body (x::xs) e s e3 s3
def Rn.app {g:PV->zf->Option zf}{body:Ak}{xs ys:Aq}{e e1 e2:zf}{s s1 s2:aa}(h:Rn g body xs e s e1 s1) (h':Rn g body ys e1 s1 e2 s2):Rn g body (xs++ys) e s e2 s2:=by
 induction h with
 |nil=>exact h'
 |cons a b _ ih=>exact .cons a b (ih h')
def Rn.run {g:PV->zf->Option zf}{body:Ak}{xs:Aq}{e e1:zf}{s s1:aa}(h:Rn g body xs e s e1 s1):forL g body xs e s=.ok (.nx e1) s1:=by
 induction h with
 |nil=>rfl
 |cons a b _ ih=>exact yU a b ih
end
def XH {g:Ak}{e:zf}{s s1:aa}{fl:Fl}(h:g e s=.ok fl s1):pe g e s=.ok fl s1:=by
 unfold pe
 rw [h,kM]
abbrev bS:Ak:=(yd (mB (zk yx (zk zp (zc 4) (At 0)) (Au "call")))
  (zw (yH (yC yM (zc 3) (yF "left_call" uD (zc 0) (zd (zc 4) (zd (zc 2) zj)))))
  (wT 2 dU (At 1)))
  (yd (mB (zk (yq false) (zk zp (zc 4) (At 1)) (yc (aX "later" insOf excOf) (zc 0))))
  (yH (yC yM (zc 3) (yF "left_let" uE (zc 0) (zd (zc 4) zj))))
  (pe (je (yc (aX "things" insOf excOf) (zc 0)) (zk zp (zc 4) (At 1)) (zt (bZ "Known" kX) (zd (yF "answer_ahead" uM (zc 0) (zd (zc 4) zj)) zj))))))
abbrev eS (o:Nat) (bv:PV) (p lf:Nat) (z4 z5 z6:Ar):zf:=[Av o,some bv,some (nV p),Av lf,z4,z5,z6]
section
variable {lt:Ae} {o La T lf p:Nat} {E:Ev} {s:aa} {bv:PV} {z5 z6:Ar} {K as bs ys:Aq} {z w:Str} {v:PV} {xs:List (Ar)}
def Jt (M:Mg lt o La T E s) {b:Bool} (hb:decide (z∈lt)=b):(mB (zk (yq false) (zk zp (zc 4) (At 1)) (yc (aX "later" insOf excOf) (zc 0)))) (eS o bv p lf (some (bp z w as)) z5 z6) s=.ok b s:=by
 obtain ⟨r,gs,ob⟩:=M.ob
 exact zU (zo (zo (ze rfl) rfl yA) (yE (ze rfl) (jF ob (by decide +kernel) rfl)) (HZ M.la (by rw [uS (by simp)];exact hb)))
def Cr {F:PV->aa->Prop}(M:Mg lt o La T E s) (hz:z∉lt) (hk:z∉E.map (·.1)) (h:SL E as (ys.map some) bs) (hl:as.length<=1000) (A:h_ s w ys F) (hE:E.length<=1000):∃v s0 s1,bS (eS o bv p lf (some (bp z w as)) z5 z6) s=.ok (.nx (eS o bv p lf (some (bp z w as)) z5 z6)) s1/\Mg lt o La T (E++[(z,some v)]) s1/\F v s0/\Old s s0/\Kx [T] s0 s1/\Kx [T] s s1/\KI s s1:=by
 obtain ⟨r,gs,ob⟩:=M.ob
 obtain ⟨v,s1,A1,o1,fv⟩:=Wy (z:=z) M h hl A
 have M1:=M.old o1
 obtain ⟨us,hT,hd,g,i,k⟩:=M1.th.put hk (some v)
 have o2:Old s1 (s1++[nR v]):=zT _ _
 exact ⟨v,s1,_,qY (zU (zo (zo (ze rfl) rfl yz) rfl (dJ n1 _))) (qY (Jt M (jp hz)) (XH (hW hd (zy (zF (wb (ze rfl) ob (by decide +kernel) (zx rfl) (zF (ze rfl)) A1)) (B8 v s1)) (yE (ze rfl) (nS (M1.old o2))) (zo (ze rfl) rfl yA) (o2 _ _ hT) (by simpa using hE)))),M1.put rfl g i k,fv,o1,k,o1.kx.trans k,o1.ki.trans i⟩
def XI (M:Mg lt o La T E s) (hf:s[lf]?=some (.lst K)) (Cp:lf≠La) (vi:lf≠T) (hz:z∈lt) (hk:z∉E.map (·.1)) (h:SL E as xs bs) (hl:as.length<=1000) (hE:E.length<=1000) (hK:K.length<=1000):∃s1,bS (eS o bv p lf (some (bp z w as)) z5 z6) s=.ok (.nx (eS o bv p lf (some (bp z w as)) z5 z6)) s1/\Mg lt o La T (E++[(z,none)]) s1/\s1[lf]?=some (.lst (K++[bp z w bs]))/\Kx [T,lf] s s1/\KI s s1:=by
 obtain ⟨r,gs,ob⟩:=M.ob
 obtain ⟨s1,A1,M1,k1,i1⟩:=Wz (w:=w) M h hl hk hE
 have f1:=k1 _ _ (by simpa using vi) hf
 have i2:KI s1 (s1.set lf (.lst (K++[bp z w bs]))):=mD f1 (by intro _ _ _ q;cases q)
 have k2:Kx [lf] s1 (s1.set lf (.lst (K++[bp z w bs]))):=yL (by simp)
 refine ⟨_,qY (zU (zo (zo (ze rfl) rfl yz) rfl (dJ n1 _))) (jb (Jt M (jV hz)) (jD (jL (ze rfl) hf (wb (ze rfl) ob (by decide +kernel) (zx rfl) (zF (ze rfl)) A1) (j4 f1 (by omega))))),M1.kx k2 i2 (by simpa using yO Cp) (by simpa using yO vi),yp (zR f1),λm so q e=>?_,i1.trans i2⟩
 simp at q
 exact k2 _ _ (by simpa using q.2) (k1 _ _ (by simpa using q.1) e)
end
def Ob.ki {s s':aa}{v b:PV}{q:Ar}(h:Ob s v q b) (k:KI s s'):Ob s' v q b:=by
 obtain ⟨q,e,⟨y,h1,h2,h3⟩|⟨z,h1,h2,h3⟩⟩:=h
 ·exact ⟨q,e,.inl ⟨y,h1,k _ _ _ _ h2,h3⟩⟩
 ·exact ⟨q,e,.inr ⟨z,h1,k _ _ _ _ h2,h3⟩⟩
abbrev Ju:Ak:=(yd (mB (zt mi (zd (zc 3) (zd (zc 6) zj))))
  (yH (yC yM (zc 5) (yF "atom" iQ (zc 7) zj)))
  (yH (yC yM (zc 4) (yc (aX "value" insOf excOf) (zc 7)))))
def Jv {e:zf}{s:aa}{i p:Nat}(h:e[i]?=some (some (nV p))):wT i dU (At 1) e s=.ok (.nx (e.set i (some (nV (p+1))))) s:=vf h
def XJ:bitAt 2 0=false:=by kernel_rfl
def XM:bitAt 2 1=true:=by kernel_rfl
section
variable {lt:Ae} {o r La T lf p L M N:Nat} {E:Ev} {s:aa} {bv gs a b v:PV} {z5 z6:Ar} {ms' K:Aq} {ts':Ah} {z y:Str} {q:Str}
def XQ (Mk:Mg lt o La T E s) (ob:s[o]?=some (lu r La T gs)) (h:cI E a (some v) b) (h':cI E (aZ y) none (aZ y)) (hr:s[r]?=some (rZ L M N)) (hM:M<s.length) (hN:N<s.length)
  (NF:∀t,Old s t->∃s6,m_KeyRing_name_for [.ref r,bj "other" 2 [v]] t=.ok (.str q) s6/\Rg L r M N ms' ts' s6/\Kx [M,N] t s6/\KI t s6):∃s6,m_Making_left_aim [.ref o,.str "other", .tup [a,aZ y],.int 2] s=.ok (.tup [.str q,.tup [aZ y]]) s6/\Rg L r M N ms' ts' s6/\Kx [M,N] s s6/\KI s s6:=by
 let s1:=s++[SO.lst []]
 let s2:=s1++[SO.lst []]
 have l1:s1.length=s.length+1:=by simp [s1]
 have l2:s2.length=s.length+2:=by simp [s2,l1]
 have o2:Old s s2:=(zT _ _).trans (zT _ _)
 let e0:Option PV->Option PV->zf:=λz6 z7=>[Av o,some (.str "other"),some (.tup [a,aZ y]),some (.int 2),Av s.length,Av s1.length,z6,z7]
 obtain ⟨vs,n,s3,T3,n3,O3,o3,ln⟩:=Ca (e:=e0 none none) (fo:=zc 0) (fa:=zc 2) (ze rfl) (ze rfl) (Mk.old o2) (SL.two h h') (by simp)
 obtain ⟨va,vb,rfl⟩:∃va vb,vs=[va,vb]:=by
  have:=O3.l1
  match vs,this with
  |[va,vb],_=>exact ⟨va,vb,rfl⟩
 have Oa:=O3.at_ 0 va (some v) b rfl rfl rfl
 have XS:=O3.at_ 1 vb none (aZ y) rfl rfl rfl
 have v4:s3[s.length]?=some (.lst []):=o3 _ _ (zT _ _ _ _ (ye _ _))
 have v5:s3[s1.length]?=some (.lst []):=o3 _ _ (ye _ _)
 let s4:=s3.set s.length (.lst ([]++[v]))
 have k4:Kx [s.length] s3 s4:=yL (by simp)
 have i4:KI s3 s4:=mD v4 (by intro _ _ _ q;cases q)
 have XT:s4[s.length]?=some (.lst [v]):=yp (zR v4)
 have Cs:=k4 _ _ (by simp;omega) v5
 have n4:=k4 _ _ (by simp;omega) n3
 let s5:=s4.set s1.length (.lst ([]++[aZ y]))
 have k5:Kx [s1.length] s4 s5:=yL (by simp)
 have Jw:s5[s1.length]?=some (.lst [aZ y]):=yp (zR Cs)
 have Jx:=k5 _ _ (by simp;omega) XT
 have n5:=k5 _ _ (by simp;omega) n4
 have B1:Ju (e0 (some (.int 0)) (some va)) s3=.ok (.nx (e0 (some (.int 0)) (some va))) s4:=qY (zU (zy (zD (ze rfl) (ze rfl)) ((uY 2 (by decide) 0 s3).trans (by rw [XJ])))) (jD (jL (ze rfl) v4 (IL Oa (ze rfl)) (j4 v4 (by simp))))
 have B2:Ju (e0 (some (.int 1)) (some vb)) s4=.ok (.nx (e0 (some (.int 1)) (some vb))) s5:=jb (zU (zy (zD (ze rfl) (ze rfl)) ((uY 2 (by decide) 1 s4).trans (by rw [XM])))) (jD (jL (ze rfl) Cs (B_ (XS.ki i4) (ze rfl)) (j4 Cs (by simp))))
 have F:=XG (g:=g2 6 7) (zF T3) n3 n4 n5 rfl B1 rfl B2
 have o5:Old s s5:=λm so e=>by
  have:=zR e
  exact k5 _ _ (by simp;omega) (k4 _ _ (by simp;omega) (o3 _ _ (o2 _ _ e)))
 obtain ⟨s6,E6,G6,k6,i6⟩:=NF s5 o5
 have v6:=k6 _ _ (by simp;omega) Jw
 have R:yc (aX "ring" insOf excOf) (zc 0) (e0 (some (.int 1)) (some vb)) s5=.ok (.ref r) s5:=yE (ze rfl) (jF (o5 _ _ ob) (by decide +kernel) rfl)
 exact ⟨s6,zZ rfl (zu (zQ (jm jS (by simp))) (zu (zQ (jm jS (by simp))) (zu F (zY (zP (zD (wb R (o5 _ _ hr) (by decide +kernel) (zx rfl) (zF (zP (jE (ze rfl) (ze rfl) (zy (zF (ze rfl)) (by rw [jC,ym Jx]))) (by simp))) E6) (zy (zF (ze rfl)) (by rw [jC,ym v6]))) (by simp)))))),G6,o5.kx.trans k6,o5.ki.trans i6⟩
def XU (Mk:Mg lt o La T E s) (ob:s[o]?=some (lu r La T (.tup [.int 2,.int 2,.int 2,.int 2]))) (hp:p<4) (h:cI E a (some v) b) (h':cI E (aZ y) none (aZ y)) (hr:s[r]?=some (rZ L M N)) (hM:M<s.length) (hN:N<s.length) (dj:La∉[M,N]/\T∉[M,N]) (hz:z∉E.map (·.1)) (hE:E.length<=1000)
  (NF:∀t,Old s t->∃s6,m_KeyRing_name_for [.ref r,bj "other" 2 [v]] t=.ok (.str q) s6/\Rg L r M N ms' ts' s6/\Kx [M,N] t s6/\KI t s6):∃s6,m_Making_left_call [.ref o,bf z "other" [a,aZ y],nV p] s=.ok (bf z q [aZ y]) s6/\Mg lt o La T (E++[(z,none)]) s6/\Rg L r M N ms' ts' s6/\Kx [M,N,T] s s6/\KI s s6:=by
 obtain ⟨s3,E3,G3,k3,i3⟩:=XQ Mk ob h h' hr hM hN NF
 have M3:=Mk.kx k3 i3 dj.1 dj.2
 obtain ⟨us,hT,hd,g,i,k⟩:=M3.th.put hz none
 have o4:Old s3 (s3++[iX z]):=zT _ _
 have P:=hW hd (fo:=yc (aX "things" insOf excOf) (zc 0)) (fi:=zk zp (zc 1) (At 1)) (fv:=zt (bZ "Later" iP) (zd (zk zp (zc 1) (At 1)) zj)) (e:=[Av o,some (bf z "other" [a,aZ y]),some (nV p),some (.tup [.str q,.tup [aZ y]])]) (s:=s3) (s1:=s3++[iX z]) (zy (zF (zo (ze rfl) rfl yA)) (B9 z s3)) (yE (ze rfl) (nS (M3.old o4))) (zo (ze rfl) rfl yA) (o4 _ _ hT) (by simpa using hE)
 have hg:zp (.tup [.int 2,.int 2,.int 2,.int 2]) (nV p) s=.ok (.int 2) s:=Jq (by match p,hp with|0,_=>rfl|1,_=>rfl|2,_=>rfl|3,_=>rfl) s
 refine ⟨_,zZ rfl (zu (zQ (wb (ze rfl) ob (by decide +kernel) (zx rfl) (jE (zo (ze rfl) rfl wa) (zo (ze rfl) rfl mq) (zo (yE (ze rfl) (jF ob (by decide +kernel) rfl)) (ze rfl) hg)) E3)) (zu P (zY (zP (jj rfl (zo (ze rfl) rfl yA) (zo (ze rfl) rfl yz) (zo (ze rfl) rfl yA)) (by simp))))),M3.put rfl g i k,G3.kx k i (by have:=dj.2;simp at this ⊢;omega) (by have:=dj.2;simp at this ⊢;omega),λm so hm e=>?_,i3.trans i⟩
 simp at hm
 exact k _ _ (by simp;omega) (k3 _ _ (by simp;omega) e)
def XW (Mk:Mg lt o La T E s) (ob:s[o]?=some (lu r La T (.tup [.int 2,.int 2,.int 2,.int 2]))) (hp:p<4) (h:cI E a (some v) b) (h':cI E (aZ y) none (aZ y)) (hr:s[r]?=some (rZ L M N)) (hM:M<s.length) (hN:N<s.length) (dj:La∉[M,N,lf]/\T∉[M,N,lf]/\lf∉[M,N]) (hz:z∉E.map (·.1)) (hE:E.length<=1000) (hf:s[lf]?=some (.lst K)) (hK:K.length<=1000)
  (NF:∀t,Old s t->∃s6,m_KeyRing_name_for [.ref r,bj "other" 2 [v]] t=.ok (.str q) s6/\Rg L r M N ms' ts' s6/\Kx [M,N] t s6/\KI t s6):∃s6,bS (eS o bv p lf (some (bf z "other" [a,aZ y])) z5 z6) s=.ok (.nx (eS o bv (p+1) lf (some (bf z "other" [a,aZ y])) z5 z6)) s6/\Mg lt o La T (E++[(z,none)]) s6/\Rg L r M N ms' ts' s6/\s6[lf]?=some (.lst (K++[bf z q [aZ y]]))/\Kx [M,N,T,lf] s s6/\KI s s6:=by
 obtain ⟨d1,d2,d3⟩:=dj
 obtain ⟨s1,E1,M1,G1,k1,i1⟩:=XU Mk ob hp h h' hr hM hN ⟨by simp at d1 ⊢;omega,by simp at d2 ⊢;omega⟩ hz hE NF
 have f1:=k1 _ _ (by simp at d2 d3 ⊢;omega) hf
 have i2:KI s1 (s1.set lf (.lst (K++[bf z q [aZ y]]))):=mD f1 (by intro _ _ _ q;cases q)
 have k2:Kx [lf] s1 (s1.set lf (.lst (K++[bf z q [aZ y]]))):=yL (by simp)
 refine ⟨_,jb (zU (zo (zo (ze rfl) rfl yz) rfl (iU _))) (zu (jD (jL (ze rfl) hf (wb (ze rfl) ob (by decide +kernel) (zx rfl) (zD (ze rfl) (ze rfl)) E1) (j4 f1 (by omega)))) (Jv (p:=p) rfl)),M1.kx k2 i2 (by simp at d1 ⊢;omega) (by simp at d2 ⊢;omega),G1.kx k2 i2 (by simp at d3 ⊢;omega) (by simp at d3 ⊢;omega),yp (zR f1),λm so hm e=>?_,i1.trans i2⟩
 simp at hm
 exact k2 _ _ (by simp;omega) (k1 _ _ (by simp;omega) e)
end
abbrev nW (j:Nat):Str:=Str.ofString (toString (j:Int))
def sN (j:Nat):Str := "s" ++ nW j
def cN (j:Nat):Str := "c" ++ nW j
def nm:Nat->Str
 |0 => "x"
 |t+1=>cN t
def Jy {i j:Nat}(h:nW i=nW j):i=j:=by
 have h:=(EO _ _).mp h
 have h:Nat.repr i=Nat.repr j:=h
 exact Nat.repr_injective h
def Jz {a x y:Str}(h:a++x=a++y):x=y:=by
 have:=congrArg (λz:Str=>z.cps.toList) h
 simp only [PySem.Str.cps_append,Array.toList_append] at this
 have:=List.append_cancel_left this
 rw [<-rQ x,<-rQ y,this]
def JA {i j:Nat}(h:sN i=sN j):i=j:=Jy (Jz h)
def JB {i j:Nat}(h:cN i=cN j):i=j:=Jy (Jz h)
def XX:("s" : Str).cps.toList=[115]:=by decide +kernel
def XY:("c" : Str).cps.toList=[99]:=by decide +kernel
def JC:("x" : Str).cps.toList=[120]:=by decide +kernel
def JD (i:Nat):(sN i).cps.toList=115::(nW i).cps.toList:=by
 unfold sN;rw [PySem.Str.cps_append,Array.toList_append,XX];rfl
def JE (i:Nat):(cN i).cps.toList=99::(nW i).cps.toList:=by
 unfold cN;rw [PySem.Str.cps_append,Array.toList_append,XY];rfl
def sc {i j:Nat}:sN i≠cN j:=λh=>by
 have h:=congrArg (λz:Str=>z.cps.toList) h
 simp only [JD,JE,List.cons.injEq] at h
 exact absurd h.1 (by decide)
def sx {i:Nat}:sN i ≠ "x" := λh=>by
 have h:=congrArg (λz:Str=>z.cps.toList) h
 simp only [JD,JC,List.cons.injEq] at h
 exact absurd h.1 (by decide)
def cx {i:Nat}:cN i ≠ "x" := λh=>by
 have h:=congrArg (λz:Str=>z.cps.toList) h
 simp only [JE,JC,List.cons.injEq] at h
 exact absurd h.1 (by decide)
def ns {i t:Nat}:sN i≠nm t:=by
 cases t with
 |zero=>exact sx
 |succ t=>exact sc
def Ct {i j:Nat}(h:nm i=nm j):i=j:=by
 cases i with
 |zero =>
  cases j with
  |zero=>rfl
  |succ j=>exact absurd h.symm cx
 |succ i =>
  cases j with
  |zero=>exact absurd h cx
  |succ j=>rw [JB h]
def dk:Nat->PV->List Str->(Str->Int)->Aq
 |_,_,[],_=>[]
 |j,a,k::ks,f=>bp (sN j) "set" [a,bR (.str k),bR (.int (f k))]::dk (j+1) (aZ (sN j)) ks f
def ic:Nat->PV->List Str->PV
 |_,a,[]=>a
 |j,a,_::ks=>ic (j+1) (aZ (sN j)) ks
abbrev fB:Ae:=[cN 0,cN 1,cN 2,cN 3]
def SL.three {E:Ev}{a a' JF:PV}{x x' JG:Ar}{b b' JH:PV}(h:cI E a x b) (h':cI E a' x' b') (h2:cI E JF JG JH):SL E [a,a',JF] [x,x',JG] [b,b',JH]:=⟨rfl,rfl,λi a x b e1 e2 e3=>by
 match i with
 |0=>cases e1;cases e2;cases e3;exact h
 |1=>cases e1;cases e2;cases e3;exact h'
 |2=>cases e1;cases e2;cases e3;exact h2
 |i+3=>cases e1⟩
def JI {E F:Ev}{z:Str}{x:Ar}(h:E.lookup z=some x):(E++F).lookup z=some x:=by
 rw [List.lookup_append,h];rfl
theorem JJ {z:Str}:∀{E:Ev},z∉E.map (·.1)->E.lookup z=none
 |[],_=>rfl
 | (k,x)::E,h=>by
  simp at h
  have ne:(z==k)=false:=by rw [beq_eq_false_iff_ne];exact h.1
  rw [jy,ne]
  exact JJ (by simpa using h.2)
def r9 {E:Ev}{z:Str}{x:Ar}(h:z∉E.map (·.1)):(E++[(z,x)]).lookup z=some x:=by
 rw [List.lookup_append,JJ h]
 simp [jy]
def XZ {j:Nat}:sN j∉fB:=by
 intro h
 simp at h
 rcases h with h|h|h|h<;>exact sc h
section
variable {o La T lf p:Nat} {f:Str->Int} {bv:PV}
theorem JL:∀(ks cX:Ae) (j:Nat) (a b:PV) (m:Nat) (E:Ev) (s:aa) (z4:Ar),Mg fB o La T E s->cI E a (Av m) b->s[m]?=some (RO cX f)->m≠T->(cX++ks).Nodup->(cX++ks).length<=5->(∀i,j<=i->sN i∉E.map (·.1))->E.length+ks.length<=1000 ->
  ∃E' m' b' s' lA,Rn (gN 4) bS (dk j a ks f) (eS o bv p lf z4 none none) s (eS o bv p lf lA none none) s'/\Mg fB o La T E' s'/\cI E' (ic j a ks) (Av m') b'/\s'[m']?=some (RO (cX++ks) f)/\(m'=m\/s.length<=m')/\E'.map (·.1)=E.map (·.1)++(List.range' j ks.length).map sN/\(∀z x,E.lookup z=some x->E'.lookup z=some x)/\Kx [T] s s'/\KI s s'
 |[],cX,j,a,b,m,E,s,z4,M,hs,hm,nT,nd,l5,hn,hE=>⟨E,m,b,s,z4,.nil _ _,M,hs,by rw [List.append_nil];exact hm,.inl rfl,by simp,(λ_ _ h=>h),Kx.refl _ _,(Old.refl _).ki⟩
 |k::ks,cX,j,a,b,m,E,s,z4,M,hs,hm,nT,nd,l5,hn,hE=>by
  have e5:cX++k::ks=(cX++[k])++ks:=by simp
  have kn:k∉cX:=by
   intro h
   rw [List.nodup_append] at nd
   exact nd.2.2 k h k (jf ..) rfl
  have A:=WZ hm kn (by simp at l5;omega)
  obtain ⟨us,hT,_⟩:=M.th
  have lT:=zR hT
  obtain ⟨v,s0,s1,B,M1,⟨m2,ev,r2,l2⟩,o0,k0,k1,i1⟩:=Cr (bv:=bv) (p:=p) (lf:=lf) (z5:=none) (z6:=none) (ys:=[.ref m,.str k,.int (f k)]) M XZ (hn j (yf _)) (SL.three hs (.is (.str k)) (.is (.int (f k)))) (by simp) A (by simp at hE;omega)
  subst ev
  have r3:=k0 _ _ (by simp;omega) r2
  have S1:cI (E++[(sN j,Av m2)]) (aZ (sN j)) (Av m2) (bR (.ref m2)):=.kn _ _ (r9 (hn j (yf _)))
  obtain ⟨E',m',b',s',lA,R,M',S',r',d',ke,lk,k',i'⟩:=JL ks (cX++[k]) (j+1) (aZ (sN j)) _ m2 _ s1 (some (bp (sN j) "set" [a,bR (.str k),bR (.int (f k))])) M1 S1 r3 (by omega) (by rw [<-e5];exact nd) (by rw [<-e5];exact l5) (λi hi h=>by
   simp at h
   rcases h with ⟨x,h⟩|h
   ·exact hn i (by omega) (by simpa using ⟨x,h⟩)
   ·have:=JA h;omega) (by simp at hE ⊢;omega)
  have ls:s.length<=s1.length:=by
   have:s.length<=s0.length:=o0.len
   have h2:=zR r3
   omega
  refine ⟨E',m',b',s',lA,.cons rfl B R,M',S',by rw [e5];exact r',.inr (by omega),?_,λz x h=>lk z x (JI h),k1.trans k',i1.trans i'⟩
  rw [ke]
  simp [List.range'_succ]
end
structure Ad (r M N o La T lf:Nat):Prop where
 a1:r<M
 a2:M<N
 a3:N<o
 a4:o<La
 a5:La<T
 a6:T<lf
structure sd (L r M N o La T lf t:Nat) (ms:Aq) (ts:Ah) (K:Aq) (E:Ev) (s:aa):Prop where
 mg:Mg fB o La T E s
 ob:s[o]?=some (lu r La T (.tup [.int 2,.int 2,.int 2,.int 2]))
 rg:Rg L r M N ms ts s
 lf_:s[lf]?=some (.lst K)
 kl:K.length=t
 ke:∀z∈E.map (·.1),(∃i,i<=t/\z=nm i)\/∃j,j<10*t/\z=sN j
 lk:E.lookup (nm t)=some none
 el:E.length<=10*t+1
abbrev mH (t:Nat) (b st:Bool) (n d:Nat) (ks:Ae):PV:=if st then ic (10*t) (bR (.ref d)) ks else bR (hV b n)
abbrev turnL (t:Nat) (b st:Bool) (n d:Nat) (ks:Ae) (f:Str->Int):Aq:=(if st then dk (10*t) (bR (.ref d)) ks f else [])++[bf (cN t) "other" [mH t b st n d ks,aZ (nm t)]]
abbrev cY (b:Bool) (ks:Ae) (f:Str->Int):List Key:=cP "other" 2 (S (tH b ks f))
section
variable {L r M N o La T lf t:Nat} {ms K:Aq} {ts:Ah} {E:Ev} {s:aa} {b st:Bool} {n d:Nat} {ks:Ae} {f:Str->Int} {q:Str} {new:Bool} {bv:PV} {z4:Ar}
def JM (ht:t<4) (g:Gd ks f) (A:Ad r M N o La T lf) (mg:Mg fB o La T E s) (ob:s[o]?=some (lu r La T (.tup [.int 2,.int 2,.int 2,.int 2]))) (rg:Rg L r M N ms ts s) (hf:s[lf]?=some (.lst K)) (kl:K.length=t) (lk:E.lookup (nm t)=some none) (el:E.length<=900) (cn:cN t∉E.map (·.1)) {a b':PV}(hs:cI E a (some (hV b n)) b') (hn:s[n]?=some (RO ks f)) (h9:L<=900)
  (hc:(∃j,ts[j]?=some (cY b ks f)/\q=qN j/\new=false)\/(cY b ks f∉ts/\ms.length<L/\q=qN ms.length/\new=true)) :
  ∃s',Rn (gN 4) bS [bf (cN t) "other" [a,aZ (nm t)]] (eS o bv t lf z4 none none) s (eS o bv (t+1) lf (some (bf (cN t) "other" [a,aZ (nm t)])) none none) s'/\Mg fB o La T (E++[(cN t,none)]) s'/\Rg L r M N (if new then ms++[bj "other" 2 [hV b n]] else ms) (if new then ts++[cY b ks f] else ts) s'/\s'[lf]?=some (.lst (K++[bf (cN t) q [aZ (nm t)]]))/\Kx [M,N,T,lf] s s'/\KI s s':=by
 obtain ⟨a1,a2,a3,a4,a5,a6⟩:=A
 have lM:=zR rg.met
 have lN:=rg.ltN
 obtain ⟨s6,E6,M6,G6,f6,k6,i6⟩:=XW (bv:=bv) (z5:=none) (z6:=none) (q:=q) (ms':=if new then ms++[bj "other" 2 [hV b n]] else ms) (ts':=if new then ts++[cY b ks f] else ts) mg ob ht hs (.la _ lk) rg.at_ lM lN (by simp;omega) cn (by omega) hf (by omega) (λu ou=>by
  obtain ⟨u1,E1,o1⟩:=Iy (b:=b) (ou _ _ hn) g
  rcases hc with ⟨j,hj,rfl,rfl⟩|⟨hk,hL,rfl,rfl⟩
  ·exact Cb E1 o1 (rg.old ou) hj
  ·exact IW E1 o1 (rg.old ou) hk hL h9)
 exact ⟨s6,.cons rfl E6 (.nil _ _),M6,G6,f6,k6,i6⟩
def vj (ht:t<4) (g:Gd ks f) (A:Ad r M N o La T lf) (S:sd L r M N o La T lf t ms ts K E s) (cL:st=true->b=false) (hn:s[n]?=some (RO ks f)) (nr:n<r) (hd:st=true->s[d]?=some (.dic [] [])/\d<r) (h9:L<=900)
  (hc:(∃j,ts[j]?=some (cY b ks f)/\q=qN j/\new=false)\/(cY b ks f∉ts/\ms.length<L/\q=qN ms.length/\new=true)) :
  ∃n' E' s' lA,Rn (gN 4) bS (turnL t b st n d ks f) (eS o bv t lf z4 none none) s (eS o bv (t+1) lf lA none none) s'/\sd L r M N o La T lf (t+1) (if new then ms++[bj "other" 2 [hV b n']] else ms) (if new then ts++[cY b ks f] else ts) (K++[bf (cN t) q [aZ (nm t)]]) E' s'/\s'[n']?=some (RO ks f)/\n'∉[M,N,T,lf]/\Kx [M,N,T,lf] s s'/\KI s s':=by
 obtain ⟨a1,a2,a3,a4,a5,a6⟩:=id A
 have ll:=zR S.lf_
 have cn:cN t∉E.map (·.1):=λh=>by
  rcases S.ke _ h with ⟨i,hi,e⟩|⟨j,hj,e⟩
  ·have:=Ct (i:=t+1) (j:=i) e;omega
  ·exact sc e.symm
 cases st with
 |false =>
  have el:=S.el
  obtain ⟨s',R,M',G',f',k',i'⟩:=JM (bv:=bv) (z4:=z4) (a:=bR (hV b n)) ht g A S.mg S.ob S.rg S.lf_ S.kl S.lk (by omega) cn (.is _) hn h9 hc
  refine ⟨n,_,s',_,R,⟨M',i' _ _ _ _ S.ob,G',f',by simp [S.kl],λz hz=>?_,r9 cn,by simp;omega⟩,k' _ _ (by simp;omega) hn,by simp;omega,k',i'⟩
  simp at hz
  rcases hz with ⟨x,hz⟩|hz
  ·rcases S.ke z (by simpa using ⟨x,hz⟩) with ⟨i,hi,e⟩|⟨j,hj,e⟩
   ·exact .inl ⟨i,by omega,e⟩
   ·exact .inr ⟨j,by omega,e⟩
  ·exact .inl ⟨t+1,by omega,hz⟩
 |true =>
  obtain ⟨X0,hd2⟩:=hd rfl
  have hb:=cL rfl
  subst hb
  have el:=S.el
  have g5:=g.l5
  obtain ⟨E1,m1,b1,s1,y4,R1,M1,S1,r1,d1,Cu,X1,k1,i1⟩:=JL (f:=f) (bv:=bv) (p:=t) (lf:=lf) ks [] (10*t) (bR (.ref d)) _ d E s z4 S.mg (.is _) X0 (by omega) (by simpa using g.nd) (by simpa using g5) (λi hi h=>by
   rcases S.ke _ h with ⟨j,hj,e⟩|⟨j,hj,e⟩
   ·exact ns e
   ·have:=JA e;omega) (by omega)
  rw [List.nil_append] at r1
  have ZT:E1.length=E.length+ks.length:=by
   have:=congrArg List.length Cu
   simpa using this
  have JN:cN t∉E1.map (·.1):=λh=>by
   rw [Cu] at h
   rcases iu.mp h with h|h
   ·exact cn h
   ·obtain ⟨j,_,e⟩:=jI.mp h
    exact sc e
  have f1:=k1 _ _ (by simp;omega) S.lf_
  have G1:=S.rg.kx k1 i1 (by simp;omega) (by simp;omega)
  obtain ⟨s',R,M',G',f',k',i'⟩:=JM (b:=false) (n:=m1) (bv:=bv) (z4:=y4) ht g A M1 (i1 _ _ _ _ S.ob) G1 f1 S.kl (X1 _ _ S.lk) (by omega) JN S1 r1 h9 hc
  have JO:m1∉[M,N,T,lf]:=by simp;omega
  refine ⟨m1,_,s',_,R1.app R,⟨M',i' _ _ _ _ (i1 _ _ _ _ S.ob),G',f',by simp [S.kl],λz hz=>?_,r9 JN,by simp;omega⟩,k' _ _ JO r1,JO,λm so hm e=>k' _ _ hm (k1 _ _ (by simp at hm ⊢;omega) e),i1.trans i'⟩
  rw [wL,Cu] at hz
  rcases iu.mp hz with hz|hz
  ·rcases iu.mp hz with hz|hz
   ·rcases S.ke z hz with ⟨i,hi,e⟩|⟨j,hj,e⟩
    ·exact .inl ⟨i,by omega,e⟩
    ·exact .inr ⟨j,by omega,e⟩
   ·obtain ⟨j,hj,e⟩:=jI.mp hz
    rw [List.mem_range'_1] at hj
    exact .inr ⟨j,by omega,e.symm⟩
  ·simp at hz
   exact .inl ⟨t+1,by omega,hz⟩
end
def X2:("give" : Str) ≠ "fail" := by decide +kernel
section
variable {lt:Ae} {o La T p:Nat} {E E':Ev} {s s2:aa} {a b:PV} {ss K:Aq} {mr:An} {q:Ar} {z4:Ar}
def X3 (M:Mg lt o La T E s) (h:cI E a q b):∃s3,m_Making_made_end mr [.ref o,aV a,nV p] s=.ok (cM [] (aV b)) s3/\Old s s3:=by
 obtain ⟨v,s1,E1,O1,o1⟩:=IK M.th h
 exact ⟨s1,zZ rfl (zu (yj (q0 rfl (dJ X2 _))) (zu (yj (q0 rfl (dJ n4 _))) (zu (zQ (zy (zD (zo (ze rfl) rfl yA) (yE (ze rfl) (nS M))) E1)) (wH (jb (q0 rfl (iU _)) (zY (zP (zD (zP jS (by simp)) (zP (zD rfl (B_ O1 (ze rfl))) (by simp))) (by simp)))))))),o1⟩
def JP (R:Rn (gN 4) bS ss (eS o (cM ss (aV a)) 0 s.length none none none) (s++[SO.lst []]) (eS o (cM ss (aV a)) p s.length z4 none none) s2) (M:Mg lt o La T E' s2) (hf:s2[s.length]?=some (.lst K)) (hK:K.length<=900) (h:cI E' a q b):∃s3,m_Making_made_block mr [.ref o,cM ss (aV a),.int 0] s=.ok (cM K (aV b)) s3/\Old s2 s3:=by
 obtain ⟨r,gs,ob⟩:=M.ob
 obtain ⟨s3,E3,o3⟩:=X3 (mr:=mr) (p:=p) M h
 have A:yh (.tup K) (.tup []) s3=.ok (.tup K) s3:=by
  have:=BQ (xs:=K) (ys:=[]) (st:=s3) (by simp;omega)
  rw [List.append_nil] at this
  exact this
 exact ⟨s3,zZ rfl (zu (zQ (jm jS (by simp))) (zu (mx (zo (ze rfl) rfl yz) R.run) (zu (zQ (wb (ze rfl) ob (by decide +kernel) (zx rfl) (zD (zo (ze rfl) rfl yA) (ze rfl)) E3)) (zY (zP (zD (zo (zy (zF (ze rfl)) (by rw [jC,ym (o3 _ _ hf)])) (zo (ze rfl) rfl yz) A) (zo (ze rfl) rfl yA)) (by simp)))))),o3⟩
end
def JQ (st:aa):∃s1,jZ 5 [.tup []] st=.ok (.str (S (brk []))) s1/\Old st s1 :=
 u7 (mr:=jZ 4) (xs:=[]) (ls:=[]) rfl (by simp [jn]) (by simp) st λi x l hx=>by simp at hx
structure f9 (b oth:Bool) (st:Nat->Bool) (n d:Nat->Nat) (ks:Nat->Ae) (f:Nat->Str->Int) (r:Nat) (s:aa):Prop where
 gd:∀t,t<4->Gd (ks t) (f t)
 hb:∀t,st t=true->b=false
 hn:∀t,t<4->s[n t]?=some (RO (ks t) (f t))/\n t<r
 hd:∀t,t<4->st t=true->s[d t]?=some (.dic [] [])/\d t<r
 e1:tH b (ks 1) (f 1)=tH b (ks 0) (f 0)
 e2:tH b (ks 2) (f 2)=tH b (ks 0) (f 0)
 e3:if oth then tH b (ks 3) (f 3)≠tH b (ks 0) (f 0) else tH b (ks 3) (f 3)=tH b (ks 0) (f 0)
def f9.kx {b oth:Bool}{st:Nat->Bool}{n d:Nat->Nat}{ks:Nat->Ae}{f:Nat->Str->Int}{r:Nat}{s s':aa}{ms:List Nat}(F:f9 b oth st n d ks f r s) (k:Kx ms s s') (h:∀m∈ms,r<=m):f9 b oth st n d ks f r s':=by
 refine ⟨F.gd,F.hb,λt ht=>?_,λt ht hs=>?_,F.e1,F.e2,F.e3⟩
 ·obtain ⟨h1,h2⟩:=F.hn t ht
  exact ⟨k _ _ (λq=>by have:=h _ q;omega) h1,h2⟩
 ·obtain ⟨h1,h2⟩:=F.hd t ht hs
  exact ⟨k _ _ (λq=>by have:=h _ q;omega) h1,h2⟩
abbrev gJ:List Key:=cP "main" 1 (S (brk []))
abbrev j0 (b:Bool) (st:Nat->Bool) (n d:Nat->Nat) (ks:Nat->Ae) (f:Nat->Str->Int):Aq:=turnL 0 b (st 0) (n 0) (d 0) (ks 0) (f 0)++(turnL 1 b (st 1) (n 1) (d 1) (ks 1) (f 1)++(turnL 2 b (st 2) (n 2) (d 2) (ks 2) (f 2)++turnL 3 b (st 3) (n 3) (d 3) (ks 3) (f 3)))
abbrev ie (oth:Bool):Aq:=[bf (cN 0) (qN 1) [aZ (nm 0)],bf (cN 1) (qN 1) [aZ (nm 1)],bf (cN 2) (qN 1) [aZ (nm 2)],bf (cN 3) (qN (if oth then 2 else 1)) [aZ (nm 3)]]
def X4 {z z':Str}:cP "other" 2 z≠cP "main" 1 z':=λh=>by simp at h
def X5 {z z':List Nat} (h:cP "other" 2 (S z)=cP "other" 2 (S z')):z=z':=by
 simp only [List.cons.injEq,Sum.inr.injEq,and_true,true_and] at h
 exact VQ h
def Cw {b:Bool} {ks ls:Ae} {f g:Str->Int} (h:tH b ls g=tH b ks f):cY b ks f=cY b ls g:=congrArg (λz=>cP "other" 2 (S z)) h.symm
abbrev gr:PV:=cu "main" 1 fB [2,2,2,2]
abbrev cO:PV:=bj "main" 1 []
section
variable {b oth:Bool} {st:Nat->Bool} {n d:Nat->Nat} {ks:Nat->Ae} {f:Nat->Str->Int} {L r M N:Nat} {s:aa}
def X6 {o La T lf:Nat} {bv:PV} (A:Ad r M N o La T lf) (F:f9 b oth st n d ks f r s) (S0:sd L r M N o La T lf 0 [cO] [gJ] [] [("x", none)] s) (h3:3<=L\/(2<=L/\oth=false)) (h9:L<=900) :
  ∃n0 n3 E' s' z4,Rn (gN 4) bS (j0 b st n d ks f) (eS o bv 0 lf none none none) s (eS o bv 4 lf z4 none none) s'/\sd L r M N o La T lf 4 ([cO,bj "other" 2 [hV b n0]]++if oth then [bj "other" 2 [hV b n3]] else []) ([gJ,cY b (ks 0) (f 0)]++if oth then [cY b (ks 3) (f 3)] else []) (ie oth) E' s'/\s'[n0]?=some (RO (ks 0) (f 0))/\s'[n3]?=some (RO (ks 3) (f 3))/\n0∉[M,N,T,lf]/\n3∉[M,N,T,lf]/\Kx [M,N,T,lf] s s'/\KI s s':=by
 obtain ⟨a1,a2,a3,a4,a5,a6⟩:=id A
 have lo:∀m∈[M,N,T,lf],r<=m:=by simp;omega
 obtain ⟨n0,E1,s1,y1,R1,S1,r1,m1,k1,i1⟩:=vj (bv:=bv) (z4:=none) (q:=qN 1) (new:=true) (by decide:0<4) (F.gd 0 (by decide)) A S0 (F.hb 0) (F.hn 0 (by decide)).1 (F.hn 0 (by decide)).2 (F.hd 0 (by decide)) h9 (.inr ⟨by simp,by simp;omega,rfl,rfl⟩)
 have F1:=F.kx k1 lo
 have j1:([gJ]++[cY b (ks 0) (f 0)])[1]?=some (cY b (ks 1) (f 1)):=congrArg some (Cw F.e1)
 obtain ⟨_,E2,s2,y2,R2,S2,_,_,k2,i2⟩:=vj (bv:=bv) (z4:=y1) (q:=qN 1) (new:=false) (by decide:1<4) (F.gd 1 (by decide)) A S1 (F.hb 1) (F1.hn 1 (by decide)).1 (F.hn 1 (by decide)).2 (F1.hd 1 (by decide)) h9 (.inl ⟨1,j1,rfl,rfl⟩)
 have F2:=F1.kx k2 lo
 have j2:([gJ]++[cY b (ks 0) (f 0)])[1]?=some (cY b (ks 2) (f 2)):=congrArg some (Cw F.e2)
 obtain ⟨_,E3,s3,y3,R3,S3,_,_,k3,i3⟩:=vj (bv:=bv) (z4:=y2) (q:=qN 1) (new:=false) (by decide:2<4) (F.gd 2 (by decide)) A S2 (F.hb 2) (F2.hn 2 (by decide)).1 (F.hn 2 (by decide)).2 (F2.hd 2 (by decide)) h9 (.inl ⟨1,j2,rfl,rfl⟩)
 have F3:=F2.kx k3 lo
 have hc:(∃j,([gJ]++[cY b (ks 0) (f 0)])[j]?=some (cY b (ks 3) (f 3))/\qN (if oth then 2 else 1)=qN j/\oth=false)\/(cY b (ks 3) (f 3)∉[gJ]++[cY b (ks 0) (f 0)]/\([cO]++[bj "other" 2 [hV b n0]]).length<L/\qN (if oth then 2 else 1)=qN ([cO]++[bj "other" 2 [hV b n0]]).length/\oth=true):=by
  have e3:=F.e3
  cases oth with
  |false=>exact .inl ⟨1,congrArg some (Cw (by rw [zK (by simp)] at e3;exact e3)),rfl,rfl⟩
  |true =>
   rw [zx rfl] at e3
   have JR:3<=L:=h3.resolve_right (λh=>by cases h.2)
   refine .inr ⟨λh=>?_,by simp;omega,rfl,rfl⟩
   rcases iu.mp h with h|h
   ·exact X4 (oh.mp h)
   ·exact e3 (X5 (oh.mp h))
 obtain ⟨n3,E4,s4,y4,R4,S4,r4,m4,k4,i4⟩:=vj (bv:=bv) (z4:=y3) (q:=qN (if oth then 2 else 1)) (new:=oth) (by decide:3<4) (F.gd 3 (by decide)) A S3 (F.hb 3) (F3.hn 3 (by decide)).1 (F.hn 3 (by decide)).2 (F3.hd 3 (by decide)) h9 hc
 refine ⟨n0,n3,E4,s4,y4,R1.app (R2.app (R3.app R4)),?_,k4 _ _ m1 (k3 _ _ m1 (k2 _ _ m1 r1)),r4,m1,m4,k1.trans (k2.trans (k3.trans k4)),i1.trans (i2.trans (i3.trans i4))⟩
 cases oth with
 |false=>exact S4
 |true=>exact S4
abbrev mI (b:Bool) (st:Nat->Bool) (n d:Nat->Nat) (ks:Nat->Ae) (f:Nat->Str->Int):PV:=dg "main" ["x"] (j0 b st n d ks f) (aZ (cN 3))
def X7 (F:f9 b oth st n d ks f r s) (G:Rg L r M N [cO] [gJ] s) (rM:r<M) (MN:M<N) (h3:3<=L\/(2<=L/\oth=false)) (h9:L<=900) :
  ∃n0 n3 s',pB [.ref r,cO,mI b st n d ks f,gr] s=.ok (.tup [.str (qN 0),.tup [.str "x"],cM (ie oth) (aV (aZ (cN 3)))]) s'/\Rg L r M N ([cO,bj "other" 2 [hV b n0]]++if oth then [bj "other" 2 [hV b n3]] else []) ([gJ,cY b (ks 0) (f 0)]++if oth then [cY b (ks 3) (f 3)] else []) s'/\s'[n0]?=some (RO (ks 0) (f 0))/\s'[n3]?=some (RO (ks 3) (f 3))/\n0∉[M,N]/\n3∉[M,N]/\Kx [M,N] s s':=by
 have e1:picks (bitAt 1) 0 ["x"]=(["x"]:Ae):=by kernel_rfl
 have e2:picks (λj=>!bitAt 1 j) 0 ["x"]=([]:Ae):=by kernel_rfl
 have lm:fB.Nodup:=by
  rw [List.nodup_iff_pairwise_ne,List.pairwise_iff_getElem]
  intro i j hi hj d_ h
  have h0:∀(k:Nat) (hk:k<fB.length),fB[k]=cN k:=λk hk=>by
   match k,hk with
   |0,_=>rfl
   |1,_=>rfl
   |2,_=>rfl
   |3,_=>rfl
  rw [h0,h0] at h
  have:=JB h
  omega
 obtain ⟨La,T,s1,E1,M1,d1,d2,ob,o1⟩:=ID (f:=.str "main") (gs:=.tup [.int 2,.int 2,.int 2,.int 2]) (nz := "main") (ps:=["x"]) (lt:=fB) (rest:=[cM (j0 b st n d ks f) (aV (aZ (cN 3)))]) (b:=1) (by decide) (kp:=[]) e2 (by decide) lm (by simp) (by rw [e1];simp) r s
 rw [e1] at M1
 have G1:=G.old o1
 have lN:=G.ltN
 obtain ⟨u,U,ou⟩:=JQ s1
 obtain ⟨s2,E2,G2,k2,i2⟩:=Cb (f := "main") (b:=1) (j:=0) U ou G1 rfl
 have LP:=rS (f:=.str "main") (r:=[cM (j0 b st n d ks f) (aV (aZ (cN 3)))]) (ps:=["x"]) 1 (by decide) (by decide) s2
 rw [e1] at LP
 have o3:Old s2 (s2++[SO.lst ((["x"]:Ae).map PV.str)]):=zT _ _
 generalize s2++[SO.lst ((["x"]:Ae).map PV.str)]=s3 at LP o3
 have o4:Old s3 (s3++[SO.lst []]):=zT _ _
 have F1:=(F.kx (ms:=[]) o1.kx (by simp)).kx k2 (by simp;omega)
 have F4:=F1.kx (ms:=[]) (o3.trans o4).kx (by simp)
 have M2:=M1.kx k2 i2 (by simp;omega) (by simp;omega)
 have M4:=M2.old (o3.trans o4)
 obtain ⟨us,hT,_⟩:=(M2.old o3).th
 have lT:=zR hT
 have A:Ad r M N s.length La T s3.length:=⟨rM,MN,lN,d1,d2,lT⟩
 have S0:sd L r M N s.length La T s3.length 0 [cO] [gJ] [] [("x", none)] (s3++[SO.lst []]):=⟨M4,(o3.trans o4) _ _ (i2 _ _ _ _ ob),G2.old (o3.trans o4),ye _ _,rfl,λz hz=>.inl ⟨0,yf _,(by simpa using hz:z = "x")⟩,by simp [nm,jy],by simp⟩
 obtain ⟨n0,n3,E',s5,y,R,S5,r0,r3,m0,m3,k5,i5⟩:=X6 (bv:=cM (j0 b st n d ks f) (aV (aZ (cN 3)))) A F4 S0 h3 h9
 obtain ⟨s6,E6,o6⟩:=JP (mr:=rL 1) R S5.mg S5.lf_ (by simp) (.la (cN 3) S5.lk)
 refine ⟨n0,n3,s6,zZ rfl (zu (zQ (zy (jj (ze rfl) (ze rfl) (ze rfl) (zo (ze rfl) rfl wa)) E1)) (zY (zP (jE (wb (ze rfl) G1.at_ (by decide +kernel) (zx rfl) (zF (ze rfl)) E2) (zy (zD (ze rfl) (zo (ze rfl) rfl yA)) LP) (wb (ze rfl) (o3 _ _ (i2 _ _ _ _ ob)) (by decide +kernel) (zx rfl) (zD (zo (ze rfl) rfl wa) rfl) E6)) (by simp)))),S5.rg.old o6,o6 _ _ r0,o6 _ _ r3,by simp at m0 ⊢;omega,by simp at m3 ⊢;omega,λm so hm e=>?_⟩
 have l:=zR e
 refine o6 _ _ (k5 _ _ ?_ (o4 _ _ (o3 _ _ (k2 _ _ hm (o1 _ _ e)))))
 have:=o1.len
 simp at hm ⊢
 omega
end
abbrev ig:PV:=bp "i" "item" [aZ "r", bR (.int 1)]
abbrev cJ (z w:Str):PV:=bp "f" "field" [aZ z,bR (.str w)]
abbrev cS:PV:=bp "z" "sub" [aZ "x", aZ "f"]
def f_:Bool->Str->Aq
 |true,w=>[ig,cJ "i" w,cS]
 |false,w=>[cJ "r" w,cS]
abbrev pK (b:Bool) (w:Str):PV:=dg "other" ["r", "x"] (f_ b w) (aZ "z")
abbrev gu:PV:=cu "other" 2 ["z"] []
abbrev mJ (i:Int):PV:=cM [bp "z" "sub" [aZ "x", bR (.int i)]] (aV (aZ "z"))
abbrev lB (j:Nat) (i:Int):PV:=.tup [.str (qN j),.tup [.str "x"],mJ i]
section
variable {b:Bool} {n:Nat} {ks:Ae} {f:Str->Int} {L r M N:Nat} {s:aa} {w:Str} {ms:Aq} {ts:Ah} {o La T lf p:Nat} {bv:PV} {z4:Ar}
def JS {E:Ev} {z:Str} (M0:Mg ["z"] o La T E s) (hE:E.length<=5) (kf:("f" : Str)∉E.map (·.1)) (kz:("z" : Str)∉E.map (·.1)) (lz:E.lookup z=some (Av n)) (lx:E.lookup ("x" : Str)=some none) (hn:s[n]?=some (RO ks f)) (hw:w∈ks) (hf:s[lf]?=some (.lst [])) (d1:lf≠La) (d2:lf≠T) :
  ∃E' s' lA,Rn (gN 4) bS [cJ z w,cS] (eS o bv p lf z4 none none) s (eS o bv p lf lA none none) s'/\Mg ["z"] o La T E' s'/\s'[lf]?=some (.lst [bp "z" "sub" [aZ "x", bR (.int (f w))]])/\E'.lookup ("z" : Str)=some none/\Kx [T,lf] s s'/\KI s s':=by
 obtain ⟨v,s0,s1,B1,M1,ev,o0,k0,k1,i1⟩:=Cr (bv:=bv) (p:=p) (lf:=lf) (z := "f") (z5:=none) (z6:=none) (ys:=[.ref n,.str w]) M0 (by decide +kernel) kf (SL.two (.kn z _ lz) (.is (.str w))) (by simp) (W4 hn hw) (by omega)
 subst ev
 have f1:=k1 _ _ (by simpa using d2) hf
 have JT:("z" : Str)∉(E++[(("f" : Str),some (PV.int (f w)))]).map (·.1):=by
  rw [wL]
  intro h
  rcases iu.mp h with h|h
  ·exact kz h
  ·revert h;show ("z" : Str)∈(["f"]:Ae)->False;decide +kernel
 obtain ⟨s2,B2,M2,f2,k2,i2⟩:=XI (bv:=bv) (p:=p) (z := "z") (w := "sub") (z5:=none) (z6:=none) M1 f1 d1 d2 (by simp) JT (SL.two (.la "x" (JI lx)) (.kn "f" _ (r9 kf))) (by simp) (by simp;omega) (by simp)
 exact ⟨_,s2,_,.cons rfl B1 (.cons rfl B2 (.nil _ _)),M2,f2,r9 JT,λm so hm e=>k2 _ _ hm (k1 _ _ (by simp at hm ⊢;omega) e),i1.trans i2⟩
def JU {j:Nat}(G:Rg L r M N ms ts s) (hj:ts[j]?=some (cY b ks f)) (g:Gd ks f) (hn:s[n]?=some (RO ks f)) (hw:w∈ks) :
  ∃s',pB [.ref r,bj "other" 2 [hV b n],pK b w,gu] s=.ok (lB j (f w)) s'/\Rg L r M N ms ts s'/\Kx [M,N] s s':=by
 have e1:picks (bitAt 2) 0 ["r", "x"]=(["x"]:Ae):=by kernel_rfl
 have e2:picks (λj=>!bitAt 2 j) 0 ["r", "x"]=(["r"]:Ae):=by kernel_rfl
 obtain ⟨La,T,s1,E1,M1,d1,d2,ob,o1⟩:=ID (f:=.str "other") (gs:=.tup []) (nz := "other") (ps:=["r", "x"]) (lt:=["z"]) (rest:=[cM (f_ b w) (aV (aZ "z"))]) (b:=2) (by decide) (kp:=[("r", hV b n)]) e2 (by decide) (by simp) (by simp) (by rw [e1];show (["r", "x"]:Ae).Nodup;decide +kernel) r s
 rw [e1] at M1
 have G1:=G.old o1
 have lN:=G.ltN
 have lM:=zR G.met
 have ln:=zR hn
 obtain ⟨u,U,ou⟩:=Iy (b:=b) (o1 _ _ hn) g
 obtain ⟨s2,E2,G2,k2,i2⟩:=Cb (f := "other") (b:=2) (j:=j) U ou G1 hj
 have LP:=rS (f:=.str "other") (r:=[cM (f_ b w) (aV (aZ "z"))]) (ps:=["r", "x"]) 2 (by decide) (by decide) s2
 rw [e1] at LP
 have o3:Old s2 (s2++[SO.lst ((["x"]:Ae).map PV.str)]):=zT _ _
 generalize s2++[SO.lst ((["x"]:Ae).map PV.str)]=s3 at LP o3
 have o4:Old s3 (s3++[SO.lst []]):=zT _ _
 have M2:=M1.kx k2 i2 (by simp;omega) (by simp;omega)
 have M4:=M2.old (o3.trans o4)
 obtain ⟨us,hT,_⟩:=(M2.old o3).th
 have lT:=zR hT
 have X8:n∉[M,N]:=by
  intro h
  have h:n=M\/n=N:=by simpa using h
  rcases h with h|h
  ·subst h;rw [G.met] at hn;cases hn
  ·subst h
   have:=G.nms
   rw [hn] at this
   unfold cj at this
   have ZU:ts≠[]:=by intro e;rw [e] at hj;simp at hj
   cases hk:ks with
   |nil=>rw [hk] at hw;cases hw
   |cons k r=>rw [hk] at this;simp [RO] at this
 have n4:=o4 _ _ (o3 _ _ (k2 _ _ X8 (o1 _ _ hn)))
 have nT:n≠T:=by omega
 have R:∃E' s5 lA,Rn (gN 4) bS (f_ b w) (eS s.length (cM (f_ b w) (aV (aZ "z"))) 0 s3.length none none none) (s3++[SO.lst []]) (eS s.length (cM (f_ b w) (aV (aZ "z"))) 0 s3.length lA none none) s5/\Mg ["z"] s.length La T E' s5/\s5[s3.length]?=some (.lst [bp "z" "sub" [aZ "x", bR (.int (f w))]])/\E'.lookup ("z" : Str)=some none/\Kx [T,s3.length] (s3++[SO.lst []]) s5/\KI (s3++[SO.lst []]) s5:=by
  cases b with
  |false=>exact JS M4 (by simp) (by show ("f" : Str)∉(["r", "x"]:Ae);decide +kernel) (by show ("z" : Str)∉(["r", "x"]:Ae);decide +kernel) (by kernel_rfl) (by kernel_rfl) n4 hw (ye _ _) (by omega) (by omega)
  |true =>
   have gl:=g.l5
   obtain ⟨v,s0,s5,B1,M5,ev,o0,k0,k5,i5⟩:=Cr (bv:=cM (f_ true w) (aV (aZ "z"))) (p:=0) (lf:=s3.length) (z := "i") (z5:=none) (z6:=none) (ys:=[.tup [.int 7,.ref n],.int 1]) M4 (by decide +kernel) (by show ("i" : Str)∉(["r", "x"]:Ae);decide +kernel) (SL.two (.kn "r" _ (by kernel_rfl)) (.is (.int 1))) (by simp) (W7 n4 (by omega)) (by simp)
   subst ev
   obtain ⟨E',s6,y,R6,M6,f6,z6,k6,i6⟩:=JS (z := "i") (bv:=cM (f_ true w) (aV (aZ "z"))) (p:=0) (z4:=some ig) M5 (by simp) (by show ("f" : Str)∉(["r", "x", "i"]:Ae);decide +kernel) (by show ("z" : Str)∉(["r", "x", "i"]:Ae);decide +kernel) (by kernel_rfl) (by kernel_rfl) (k5 _ _ (by simpa using nT) n4) hw (k5 _ _ (by simp;omega) (ye _ _)) (by omega) (by omega)
   exact ⟨E',s6,y,.cons rfl B1 R6,M6,f6,z6,λm so hm e=>k6 _ _ hm (k5 _ _ (by simp at hm ⊢;omega) e),i5.trans i6⟩
 obtain ⟨E',s5,y,R,M5,f5,z5,k5,i5⟩:=R
 obtain ⟨s6,E6,o6⟩:=JP (mr:=rL 1) R M5 f5 (by simp) (.la "z" z5)
 have G6:=((G2.old (o3.trans o4)).kx k5 i5 (by simp;omega) (by simp;omega)).old o6
 refine ⟨s6,zZ rfl (zu (zQ (zy (jj (ze rfl) (ze rfl) (ze rfl) (zo (ze rfl) rfl wa)) E1)) (zY (zP (jE (wb (ze rfl) G1.at_ (by decide +kernel) (zx rfl) (zF (ze rfl)) E2) (zy (zD (ze rfl) (zo (ze rfl) rfl yA)) LP) (wb (ze rfl) (o3 _ _ (i2 _ _ _ _ ob)) (by decide +kernel) (zx rfl) (zD (zo (ze rfl) rfl wa) rfl) E6)) (by simp)))),G6,λm so hm e=>?_⟩
 have l:=zR e
 refine o6 _ _ (k5 _ _ ?_ (o4 _ _ (o3 _ _ (k2 _ _ hm (o1 _ _ e)))))
 simp
 omega
end
abbrev bW:Ak:=(zw (zO 9 (zk (aW zp) (yc (aX "met" insOf excOf) (zc 7)) (zt yD (zd (zc 8) zj))))
  (yH (yC yM (zc 8) (zt pB (zd (zc 7) (zd (zc 9) (zd (zk (aW zp) (zc 5) (zk (aW zp) (zc 9) (At 0))) (zd (zk (aW zp) (zc 6) (zI (zd (zk (aW zp) (zc 9) (At 0)) (zd (zk (aW zp) (zc 9) (At 1)) zj)))) zj))))))))
abbrev tW:Al:=(mB (zk wS (zt yD (zd (zc 8) zj)) (zt yD (zd (yc (aX "met" insOf excOf) (zc 7)) zj))))
abbrev eW (P R:PV) (L f g r md:Nat) (z9:Ar):zf:=[some P,some R,some (.tup []),some (nV L),some .non,Av f,Av g,Av r,Av md,z9]
structure Wh (F1 F2:PV) (L f g r md M N:Nat) (ms:Aq) (ts:Ah) (fs:Aq) (s:aa):Prop where
 rg:Rg L r M N ms ts s
 fu:s[f]?=some (.dic ["main", "other"] [F1,F2])
 fo:s[g]?=some (.dit [k1,k2] [gr,gu])
 ml:s[md]?=some (.lst fs)
 ds:f<r/\g<r/\r<M/\M<N/\N<md
section
variable {F1 F2 P R:PV} {L f g r md M N:Nat} {ms ms' fs:Aq} {ts ts':Ah} {s s1:aa} {z9:Ar}
def Wh.app {v:PV}(W:Wh F1 F2 L f g r md M N ms ts fs s) (G:Rg L r M N ms' ts' s1) (k:Kx [M,N] s s1):Wh F1 F2 L f g r md M N ms' ts' (fs++[v]) (s1.set md (.lst (fs++[v])))/\Kx [M,N,md] s (s1.set md (.lst (fs++[v]))):=by
 obtain ⟨a1,a2,a3,a4,a5⟩:=W.ds
 have hm:=k _ _ (by simp;omega) W.ml
 have k2:Kx [md] s1 (s1.set md (.lst (fs++[v]))):=yL (by simp)
 have i2:KI s1 (s1.set md (.lst (fs++[v]))):=mD hm (by intro _ _ _ q;cases q)
 exact ⟨⟨G.kx k2 i2 (by simp;omega) (by simp;omega),k2 _ _ (by simp;omega) (k _ _ (by simp;omega) W.fu),k2 _ _ (by simp;omega) (k _ _ (by simp;omega) W.fo),yp (zR hm),W.ds⟩,λm so h e=>k2 _ _ (by simp at h ⊢;omega) (k _ _ (by simp at h ⊢;omega) e)⟩
def nX (W:Wh F1 F2 L f g r md M N ms ts fs s) (c:Bool) (hc:decide (fs.length<ms.length)=c):tW (eW P R L f g r md z9) s=.ok c s :=
 zU (zo (zy (zF (ze rfl)) (bw W.ml)) (zy (zF (yE (ze rfl) (jF W.rg.at_ (by decide +kernel) rfl))) (bw W.rg.met)) (kZ c (by rw [<-hc];simp) _))
def Cy {h:Str} {bt:Int} {vs:Aq} {k:List Key} {Fh fr v:PV} (W:Wh F1 F2 L f g r md M N ms ts fs s) (hi:ms[fs.length]?=some (bj h bt vs)) (hF:((["main", "other"]:Ae).zip [F1,F2]).lookup h=some Fh) (hk:c6 [.str h,.int bt]=some k) (hr:f7 k [k1,k2] [gr,gu]=some fr) (h9:fs.length<=1000) (E:pB [.ref r,bj h bt vs,Fh,fr] s=.ok v s1) (kx:Kx [M,N] s s1):bW (eW P R L f g r md z9) s=.ok (.nx (eW P R L f g r md (some (bj h bt vs)))) (s1.set md (.lst (fs++[v]))):=by
 obtain ⟨a1,a2,a3,a4,a5⟩:=W.ds
 have I1:aW zp (.ref f) (.str h) s=.ok Fh s:=wu W.fu hF
 have I2:=BX (old:=zp) (zs:=[.str h,.int bt]) (k:=k) (x:=fr) hk (show cj s[g]?=_ by rw [W.fo];rfl) hr
 rw [zev W.fo] at I2
 exact zu (zQ (zo (yE (ze rfl) (jF W.rg.at_ (by decide +kernel) rfl)) (zy (zF (ze rfl)) (bw W.ml)) (Ck W.rg.met hi))) (jD (jL (ze rfl) W.ml (zy (jj (ze rfl) (ze rfl) (zo (ze rfl) (zo (ze rfl) rfl (iW.trans yz)) I1) (zo (ze rfl) (zP (zD (zo (ze rfl) rfl (iW.trans yz)) (zo (ze rfl) rfl (iW.trans yA))) (by simp)) I2)) E) (j4 (kx _ _ (by simp;omega) W.ml) (by omega))))
end
def X9:f7 k1 [k1,k2] [gr,gu]=some gr:=by unfold f7;rw [zx rfl]
def JV:f7 k2 [k1,k2] [gr,gu]=some gu:=vc (j:=1) (by
 refine jU.mpr ⟨λh=>?_,by simp⟩
 have:=r6
 rw [Bool.eq_false_iff] at this
 exact this (rh.mpr (by rw [oh.mp h];simp))) rfl rfl
abbrev pL (oth:Bool):PV:=.tup [.str (qN 0),.tup [.str "x"],cM (ie oth) (aV (aZ (cN 3)))]
abbrev fF (oth:Bool) (i0 i3:Int):Aq:=[pL oth,lB 1 i0]++if oth then [lB 2 i3] else []
abbrev keys (b oth:Bool) (n0 n3:Nat):Aq:=[cO,bj "other" 2 [hV b n0]]++if oth then [bj "other" 2 [hV b n3]] else []
section
variable {b oth:Bool} {st:Nat->Bool} {n d:Nat->Nat} {ks:Nat->Ae} {f:Nat->Str->Int} {L:Nat} {s:aa} {w:Str}
def X_ (F:f9 b oth st n d ks f s.length s) (hw:∀t,t<4->w∈ks t) (h3:3<=L\/(2<=L/\oth=false)) (h9:L<=900) (BK:∃s1,uC [.tup [mI b st n d ks f,pK b w],.tup [gr,gu]] s=.ok .non s1/\Old s s1) :
  ∃n0 n3 s',fV [.tup [mI b st n d ks f,pK b w],.tup [gr,gu],.tup [],nV L] s=.ok (.tup [.tup (fF oth (f 0 w) (f 3 w)),.tup (keys b oth n0 n3)]) s'/\s'[n0]?=some (RO (ks 0) (f 0))/\s'[n3]?=some (RO (ks 3) (f 3))/\Old s s':=by
 obtain ⟨s1,E1,o1⟩:=BK
 obtain ⟨s2,E2,f2,o2⟩:=Cj (p1:=["x"]) (p2:=["r", "x"]) (ss1:=j0 b st n d ks f) (ss2:=f_ b w) (a1:=aZ (cN 3)) (a2:=aZ "z") s1
 obtain ⟨s3,E3,f3,o3⟩:=XF (r1:=fB) (r2:=["z"]) s2
 obtain ⟨s4,E4,G4,o4⟩:=WC L s3
 obtain ⟨u,U,ou⟩:=JQ s4
 obtain ⟨s5,E5,G5,k5,i5⟩:=IW (f := "main") (b:=1) U ou G4 (by simp) (by simp;omega) h9
 rw [List.nil_append,List.nil_append] at G5
 let s6:=s5++[SO.lst []]
 have o6:Old s5 s6:=zT _ _
 have q1:=o1.len
 have q2:=zR f2
 have q3:=zR f3
 have q5:=G5.ltN
 have f5:=k5 _ _ (by simp;omega) (o4 _ _ (o3 _ _ f2))
 have g5:=k5 _ _ (by simp;omega) (o4 _ _ f3)
 let FM:=mI b st n d ks f
 let FO:=pK b w
 have W0:Wh FM FO L s1.length s2.length s3.length s5.length (s3.length+1) (s3.length+2) [cO] [gJ] [] s6:=⟨G5.old o6,o6 _ _ f5,o6 _ _ g5,ye _ _,by omega⟩
 have F4:f9 b oth st n d ks f s3.length s6:=by
  have F':f9 b oth st n d ks f s3.length s:=⟨F.gd,F.hb,λt ht=>⟨(F.hn t ht).1,by have:=(F.hn t ht).2;omega⟩,λt ht h=>⟨(F.hd t ht h).1,by have:=(F.hd t ht h).2;omega⟩,F.e1,F.e2,F.e3⟩
  exact ((F'.kx (ms:=[]) (o1.trans (o2.trans (o3.trans o4))).kx (by simp)).kx k5 (by simp)).kx (ms:=[]) o6.kx (by simp)
 obtain ⟨n0,n3,t1,T1,H1,r0,r3,m0,m3,x1⟩:=X7 F4 W0.rg (by omega) (by omega) h3 h9
 obtain ⟨W1,y1⟩:=W0.app (v:=pL oth) H1 x1
 have B1:=Cy (P:=.tup [FM,FO]) (R:=.tup [gr,gu]) (z9:=none) W0 (h := "main") (bt:=1) (vs:=[]) (k:=k1) rfl (by kernel_rfl) rfl X9 (by simp) T1 x1
 have JW:t1[s5.length]?=some (.lst []):=x1 _ _ (by simp;omega) (ye _ _)
 have pM:n0≠s5.length:=by intro h;rw [h,JW] at r0;cases r0
 have se:n3≠s5.length:=by intro h;rw [h,JW] at r3;cases r3
 let t2:=t1.set s5.length (.lst ([]++[pL oth]))
 have z2:Kx [s5.length] t1 t2:=yL (by simp)
 have JX:=z2 _ _ (by simpa using pM) r0
 have Ya:=z2 _ _ (by simpa using se) r3
 have j1:([gJ,cY b (ks 0) (f 0)]++if oth then [cY b (ks 3) (f 3)] else [])[1]?=some (cY b (ks 0) (f 0)):=rfl
 obtain ⟨t3,T3,H3,x3⟩:=JU W1.rg j1 (F.gd 0 (by decide)) JX (hw 0 (by decide))
 obtain ⟨W3,y3⟩:=W1.app (v:=lB 1 (f 0 w)) H3 x3
 have B3:=Cy (P:=.tup [FM,FO]) (R:=.tup [gr,gu]) (z9:=some cO) W1 (h := "other") (bt:=2) (vs:=[hV b n0]) (k:=k2) rfl (by kernel_rfl) rfl JV (by simp) T3 x3
 let t4:=t3.set s5.length (.lst ([]++[pL oth]++[lB 1 (f 0 w)]))
 have JY:n0∉[s3.length+1,s3.length+2,s5.length]:=by simp at m0 ⊢;omega
 have JZ:n3∉[s3.length+1,s3.length+2,s5.length]:=by simp at m3 ⊢;omega
 have vI:=y3 _ _ JY JX
 have sf:=y3 _ _ JZ Ya
 have ol:∀{u:aa},Kx [s3.length+1,s3.length+2,s5.length] s6 u->Old s u:=λk m so e=>by
  have:=zR e
  exact k _ _ (by simp;omega) (o6 _ _ (k5 _ _ (by simp;omega) (o4 _ _ (o3 _ _ (o2 _ _ (o1 _ _ e))))))
 have ST:∀{X:Res Fl},HB (eW (.tup [FM,FO]) (.tup [gr,gu]) L s1.length s2.length s3.length s5.length none) s6=X->HC [some (.tup [FM,FO]),some (.tup [gr,gu]),some (.tup []),some (nV L),none,none,none,none,none,none] s=X:=λh =>
  zu (zQ (zy (zD (ze rfl) (ze rfl)) E1)) (zu (yj (zU (zo (ze rfl) rfl rfl))) (zu (zQ (zy (zF (ze rfl)) E2)) (zu (zQ (zy (zF (ze rfl)) E3)) (zu (zQ (zy (zF (ze rfl)) E4)) (zu (jD (wb (ze rfl) G4.at_ (by decide +kernel) (zx rfl) (zF (zP (jE (zo (zo (ze rfl) rfl (iW.trans yz)) rfl (iW.trans yz)) (zo (zo (ze rfl) rfl (iW.trans yz)) rfl (iW.trans yA)) (ze rfl)) (by simp))) E5)) (zu (zQ (jm jS (by simp))) h))))))
 cases oth with
 |false =>
  refine ⟨n0,n3,t4,zZ rfl (ST (zu (ly (n:=999999) (nX W0 true (by simp)) B1 (ly (n:=999998) (nX W1 true (by simp)) B3 (ve 999997 (nX W3 false (by simp))))) (zY (zP (zD (zy (zF (ze rfl)) (by rw [jC,ym W3.ml];rfl)) (zy (zF (yE (ze rfl) (jF W3.rg.at_ (by decide +kernel) rfl))) (by rw [jC,ym W3.rg.met];try rfl))) (by simp))))),vI,sf,ol (y1.trans y3)⟩
 |true =>
  have j2:([gJ,cY b (ks 0) (f 0)]++if true then [cY b (ks 3) (f 3)] else [])[2]?=some (cY b (ks 3) (f 3)):=rfl
  obtain ⟨t5,T5,H5,x5⟩:=JU W3.rg j2 (F.gd 3 (by decide)) sf (hw 3 (by decide))
  obtain ⟨W5,y5⟩:=W3.app (v:=lB 2 (f 3 w)) H5 x5
  have B5:=Cy (P:=.tup [FM,FO]) (R:=.tup [gr,gu]) (z9:=some (bj "other" 2 [hV b n0])) W3 (h := "other") (bt:=2) (vs:=[hV b n3]) (k:=k2) rfl (by kernel_rfl) rfl JV (by simp) T5 x5
  refine ⟨n0,n3,_,zZ rfl (ST (zu (ly (n:=999999) (nX W0 true (by simp)) B1 (ly (n:=999998) (nX W1 true (by simp)) B3 (ly (n:=999997) (nX W3 true (by simp)) B5 (ve 999996 (nX W5 false (by simp)))))) (zY (zP (zD (zy (zF (ze rfl)) (by rw [jC,ym W5.ml];rfl)) (zy (zF (yE (ze rfl) (jF W5.rg.at_ (by decide +kernel) rfl))) (by rw [jC,ym W5.rg.met];try rfl))) (by simp))))),y5 _ _ JY vI,y5 _ _ JZ sf,ol (y1.trans (y3.trans y5))⟩
end
abbrev dN (ns:List Int):PV:=.frl (ns.map PV.int)
def mK (ns:List Int) (k:Nat):∃c,∀st,jc [dN ns,nV k] st=.ok (.int c) st:=by
 have L:∀st,yD [dN ns] st=.ok (.int ns.length) st:=λst=>by rw [RL,jx]
 by_cases h:k<ns.length
 ·have a:dB (ns.map PV.int) k=some (.int (ns[k]'h)):=b0 (by rw [jo,yr h];rfl)
  have ix:∀st,zp (dN ns) (nV k) st=.ok (.int (ns[k]'h)) st:=λst=>by
   show cD (dB (ns.map PV.int) k) st=_
   rw [a];rfl
  exact ⟨_,λst=>zZ rfl (wH (jb (zU (zo (ze rfl) (zy (zF (ze rfl)) (L st)) (kZ true (by simp;omega) _))) (zY (zo (ze rfl) (ze rfl) (ix st)))))⟩
 ·exact ⟨0,λst=>zZ rfl (zu (yj (zU (zo (ze rfl) (zy (zF (ze rfl)) (L st)) (kZ false (by simp;omega) _)))) (zY rfl))⟩
def lC (x:Int) {j:Nat}(hj:0<j):∃b:Nat,b<j/\∀st,ja (.int x) (nV j) st=.ok (nV b) st:=by
 obtain ⟨b,hb,e⟩:=uQ x j hj
 exact ⟨b,hb,λst=>(Bl _ _ (by omega)).trans (by rw [e])⟩
def J1 {z:Str}{st:aa}(h:z.length<=7):yD [.str z] st=.ok (nV z.length) st:=by
 rw [RM]
 exact zx (by show z.length<=lim;simp [lim];omega)
abbrev five:Ae:=["", "b", "to", "field", "zzzzzzz"]
def Yb:∀z∈five,z.length<=7:=by decide +kernel
def Yc:∀k,k<5->("jklmn" : Str).cps.toList[k]?=some (106+k):=by
 have e:("jklmn" : Str).cps.toList=[106,107,108,109,110]:=by decide +kernel
 rw [e];decide
def Yd:("jklmn" : Str).length<=1000:=by decide +kernel
structure Wd (ns:List Int) (W:Nat->Str):Prop where
 len:∀k,k<5->(W k).length<=20
 inj:∀i j,i<5->j<5->W i=W j->i=j
 run:∀k,k<5->∀s,mh [dN ns,nV k] s=.ok (.str (W k)) (s++[.lst (five.map PV.str)])
def Ye (ns:List Int):∃W,Wd ns W:=by
 obtain ⟨c,C⟩:=mK ns 1
 have C:∀st,jc [dN ns,.int 1] st=.ok (.int c) st:=C
 obtain ⟨a,ha,A⟩:=lC c (j:=5) (by decide)
 have A:∀st,ja (.int c) (.int 5) st=.ok (nV a) st:=A
 have hp:five[a]?=some (five[a]'ha):=yr _
 generalize lH:five[a]'ha=pre at hp
 have pl:pre.length<=7:=Yb pre (iq hp)
 obtain ⟨t,_,T⟩:=lC (wj c 5) (j:=pre.length+1) (by omega)
 have sl:∀(l u:Option Int),(Txt.slice pre l u).length<=7:=λl u=>by have:=Txt.slice_le pre l u;omega
 have l1:∀x:Nat,(⟨#[x]⟩:Str).length=1:=λ_=>rfl
 have s3:∀x:Nat,(Txt.slice pre none (some (t:Int))++(⟨#[x]⟩:Str)).length<=8:=λx=>by have:=sl none (some (t:Int));have:=l1 x;rw [Str.length_append];omega
 refine ⟨λk=>Txt.slice pre none (some (t:Int))++⟨#[106+k]⟩++Txt.slice pre (some (t:Int)) none,λk hk=>?_,λi j hi hj h=>?_,λk hk s=>?_⟩
 ·have:=s3 (106+k)
  have:=sl (some (t:Int)) none
  rw [Str.length_append];omega
 ·have h:=congrArg (λz:Str=>z.cps.toList) h
  simp only [PySem.Str.cps_append,Array.toList_append,wM] at h
  have h:=List.append_cancel_left h
  simp at h
  exact h
 ·have ix:zp (.ref s.length) (nV a) (s++[SO.lst (five.map PV.str)])=.ok (.str pre) (s++[SO.lst (five.map PV.str)]):=pH (ye _ _) (by rw [jo,hp];rfl)
  have LN:∀st,yD [.str pre] st=.ok (nV pre.length) st:=λst=>J1 pl
  have JK:∀st,zp (.str "jklmn") (nV k) st=.ok (.str ⟨#[106+k]⟩) st:=λst=>VR Yd (Yc k hk) st
  have h1:=sl none (some (t:Int))
  have h2:=sl (some (t:Int)) none
  have h3:=l1 (106+k)
  have h4:=s3 (106+k)
  exact zZ rfl (zu (zQ (zo (jm rfl (by simp)) (zo (zy (zD (ze rfl) rfl) (C _)) rfl (A _)) ix)) (zu (zQ (zo (zo (zy (zD (ze rfl) rfl) (C _)) rfl (qZ _ _ (by decide) (by decide))) (zo (zy (zF (ze rfl)) (LN _)) rfl (iT pre.length 1)) (T _))) (zY (zo (zo (Gp (ze rfl) FW (FV (ze rfl)) (by omega)) (zo rfl (ze rfl) (JK _)) (ad _ _ (by omega) _)) (Gp (ze rfl) (FV (ze rfl)) FW (by omega)) (ad _ _ (by omega) _)))))
def J2 (st:aa):tF (.int 10) (.int 17) st=.ok (.int 100000000000000000) st:=by
 have cp:gy 10 17=true:=by decide
 have pw:((10:Int) ^ (17:Int).toNat)=100000000000000000:=by decide
 show (if gy 10 17=true then Res.ok (PV.int (10 ^ (17:Int).toNat)) st else .stuck)=_
 rw [zx cp,pw]
def Yf (ns:List Int) (k:Nat):∃v:Int,v.natAbs<10 ^ 17/\∀st,nJ [dN ns,nV k] st=.ok (.int v) st:=by
 obtain ⟨c,C⟩:=mK ns (10+k)
 obtain ⟨a,ha,A⟩:=lC c (j:=199999999999999999) (by decide)
 have A:∀st,ja (.int c) (.int 199999999999999999) st=.ok (nV a) st:=A
 refine ⟨(a:Int)-99999999999999999,by omega,λst=>zZ rfl (zY (zo (zo (zy (zD (ze rfl) (zo rfl (ze rfl) (iT 10 k))) (C st)) (zo (zo rfl (zo rfl rfl (J2 st)) (FY 2 100000000000000000 (by decide))) rfl (Bk _ _)) (A st)) (zo (zo rfl rfl (J2 st)) rfl (Bk _ _)) (Bk _ _)))⟩
theorem J3 {α:Type}:∀{l:List α}{i:Nat}{x:α},l[i]?=some x->(x::l.eraseIdx i).Perm l
 |[],i,x,h=>by simp at h
 |a::l,0,x,h=>by
  simp at h
  subst h
  exact .refl _
 |a::l,i+1,x,h=>by
  rw [List.eraseIdx_cons_succ]
  exact (List.Perm.swap a x _).trans ((J3 (by simpa using h)).cons a)
def Yg (q:Nat) (i:Int) (s:aa):rk (.ref q) (.int i) s=if 0<=i/\i<1000000 then yl s q (λxs=>match xs[i.toNat]? with|some y=>.ok y (s.set q (.lst (xs.eraseIdx i.toNat)))|none=>.stuck) else .stuck:=(rfl)
theorem J4 {α β:Type}{g:α->β}:∀(l:List α) (j:Nat),(l.map g).eraseIdx j=(l.eraseIdx j).map g
 |[],_=>rfl
 |_::_,0=>rfl
 |a::l,j+1=>by simp [List.eraseIdx_cons_succ,J4 l j]
def Yh {s:aa}{q j:Nat}{xs:Aq}{x:PV}(h:s[q]?=some (.lst xs)) (hx:xs[j]?=some x) (hj:j<1000):rk (.ref q) (nV j) s=.ok x (s.set q (.lst (xs.eraseIdx j))):=by
 rw [Yg,zx ⟨by omega,by omega⟩,ym h]
 simp only [Int.toNat_natCast,hx]
def Yi (ns:List Int) (c:Int) {m:Nat}(hm:m<=5) (s:aa):∃p s1,∃l:List Nat,uz [.int c,nV m] s=.ok (.ref p) s1/\s1[p]?=some (.lst (l.map nV))/\l.Perm (List.range m)/\Old s s1:=by
 let t0:=s++[SO.lst (nums 0 m)]
 let t1:=t0++[SO.lst []]
 have n0:(nums 0 m)=(List.range m).map nV:=by unfold nums;exact List.map_congr_left λi _=>by simp
 have l0:t0.length=s.length+1:=by simp [t0]
 have E0:qU [nV m] s=.ok (.ref s.length) t0:=by
  show (if _ then _ else _)=_
  rw [zx ⟨by simp<;>omega,by simp<;>omega⟩,Int.toNat_natCast]
 have h0:t1[s.length]?=some (.lst ((List.range m).map nV)):=by rw [<-n0];exact zT _ _ _ _ (ye _ _)
 obtain ⟨e',s2,F,⟨z4,he⟩,rem,acc,h1,h2,h3,h4,h5⟩:=VP (gt:=gN 4) (body:=(yH (yC yM (zc 3) (yC rk (zc 2) (zk ja (zk iI (zc 0) (zk yh (At 1) (zk wG (At 7) (zc 4)))) (zt yD (zd (zc 2) zj))))))) (fs:=(zd (zc 1) zj)) (e:=[some (.int c),some (nV m),Av s.length,Av t0.length,none]) (st:=t1) (λi e s'=>(∃z4,e=[some (.int c),some (nV m),Av s.length,Av t0.length,z4])/\∃rem acc:List Nat,s'[s.length]?=some (.lst (rem.map nV))/\s'[t0.length]?=some (.lst (acc.map nV))/\rem.length+i=m/\(acc++rem).Perm (List.range m)/\Kx [s.length,t0.length] t1 s') m (by omega) (zF (ze rfl)) (λi e s' hi ⟨⟨z4,he⟩,rem,acc,h1,h2,h3,h4,h5⟩=>by
  subst he
  obtain ⟨j,hj,J⟩:=lC (wj c (1+7*i:Nat)) (j:=rem.length) (by omega)
  have hx:rem[j]?=some (rem[j]'hj):=yr _
  have P:=Yh h1 (by rw [jo,hx];rfl) (by omega:j<1000)
  have k1:Kx [s.length] s' (s'.set s.length (.lst ((rem.map nV).eraseIdx j))):=yL (by simp)
  have g2:=k1 _ _ (by simp;omega) h2
  have g1:(s'.set s.length (.lst ((rem.map nV).eraseIdx j)))[s.length]?=some (.lst ((rem.eraseIdx j).map nV)):=by rw [yp (zR h1),J4]
  generalize s'.set s.length (.lst ((rem.map nV).eraseIdx j))=s2 at P k1 g1 g2
  have A:=j4 (y:=nV (rem[j]'hj)) g2 (by
   have:=h4.length_eq
   simp at this ⊢
   omega)
  have k2:Kx [t0.length] s2 (s2.set t0.length (.lst (acc.map nV++[nV (rem[j]'hj)]))):=yL (by simp)
  have LN:yD [.ref s.length] s'=.ok (nV rem.length) s':=by rw [bw h1,jx]
  refine ⟨_,_,_,rfl,jD (jL (ze rfl) h2 (jL (ze rfl) h1 (zo (zo (ze rfl) (zo rfl (zo rfl (ze rfl) (BO 7 i (.inl (by decide)))) (iT 1 (7*i))) (qZ _ _ (by omega) (by omega))) (zy (zF (ze rfl)) LN) (J _)) P) A),⟨_,rfl⟩,rem.eraseIdx j,acc++[rem[j]'hj],k2 _ _ (by simp;omega) g1,by rw [yp (zR g2)];simp,by rw [List.length_eraseIdx_of_lt hj];omega,?_,λm so hm e=>k2 _ _ (by simp at hm ⊢;omega) (k1 _ _ (by simp at hm ⊢;omega) (h5 _ _ hm e))⟩
  rw [wM]
  exact ((J3 hx).append_left acc).trans h4) ⟨⟨none,rfl⟩,List.range m,[],h0,ye _ _,by simp,by simp,Kx.refl _ _⟩
 subst he
 have r0:rem=[]:=List.length_eq_zero_iff.mp (by omega)
 subst r0
 rw [List.append_nil] at h4
 refine ⟨t0.length,s2,acc,zZ rfl (zu (zQ (by rw [RT,zF (ze rfl),zJ];exact E0)) (zu (zQ (jm jS (by simp))) (zu F (zY (ze rfl))))),h2,h4,λm so e=>?_⟩
 have:=zR e
 exact h5 _ _ (by simp;omega) (zT _ _ _ _ (zT _ _ _ _ e))
def J5 {fo fi fv:Aj}{e:zf}{s s1 s2 s3:aa}{r:Nat}{z:Str}{x:PV}{ks cq:Ae}{xs dG:Aq}(hd:jK z x ks xs=(cq,dG)) (hv:fv e s=.ok x s1) (ho:fo e s1=.ok (.ref r) s2) (hi:fi e s2=.ok (.str z) s3) (hr:s3[r]?=some (.dic ks xs)) (hl:ks.length<=1000) :
  je fo fi fv e s=.ok (.nx e) (s3.set r (.dic cq dG)):=by
 unfold je
 rw [hv,zJ,ho,zJ,hi,zJ]
 show (yW s3 r _).bind _=_
 rw [qT hr,zx (by simp [lim];omega),zJ,hd]
theorem J6 {z:Str}{x:PV}{g:Str->PV}:∀ks:Ae,repl z x ks (ks.map g)=ks.map λk=>if k=z then x else g k
 |[]=>rfl
 |k::ks=>by
  rw [yG,yG,show repl z x (k::ks) (g k::ks.map g)=(if k=z then x else g k)::repl z x ks (ks.map g) from rfl,J6 ks]
def Yj {z:Str}{x:PV}{ks:Ae}{g:Str->PV}(h:z∈ks):jK z x ks (ks.map g)=(ks,ks.map λk=>if k=z then x else g k):=by
 unfold jK
 rw [zx (by simpa using h),J6]
structure Lw (ns:List Int) (W:Nat->Str) (f0:Str->Int):Prop where
 wd:Wd ns W
 fb:∀k,k<5->(f0 (W k)).natAbs<10 ^ 17
 num:∀k,k<5->∀st,nJ [dN ns,nV k] st=.ok (.int (f0 (W k))) st
def Yk (ns:List Int):∃W f0,Lw ns W f0:=by
 obtain ⟨W,wd⟩:=Ye ns
 have V:=λk=>Yf ns k
 have T:∃f0:Str->Int,∀k,k<5->f0 (W k)=(V k).choose:=⟨λz=>haveI:=Classical.propDecidable (∃k,k<5/\W k=z);if h:∃k,k<5/\W k=z then (V h.choose).choose else 0,λk hk=>by
  have h:∃j,j<5/\W j=W k:=⟨k,hk,rfl⟩
  simp only [dif_pos h]
  have e:h.choose=k:=wd.inj _ _ h.choose_spec.1 hk h.choose_spec.2
  rw [e]⟩
 obtain ⟨f0,T⟩:=T
 exact ⟨W,f0,wd,λk hk=>by rw [T k hk];exact (V k).choose_spec.1,λk hk st=>by rw [T k hk];exact (V k).choose_spec.2 st⟩
def f3 (W:Nat->Str) (f0:Str->Int) (kk o:Nat):Str->Int:=λz=>if z=W kk then f0 z+o else f0 z
def fT (W:Nat->Str) (f0:Str->Int) (kk o t:Nat):Str->Int:=if t=3 then f3 W f0 kk o else f0
section
variable {ns:List Int} {W:Nat->Str} {f0:Str->Int} {m kk o t:Nat}
def Yl (w:Lw ns W f0) (hm:m<=5) (ho:o<=1) (hk:kk<m) {ks:Ae}(hp:ks.Perm ((List.range m).map W)):Gd ks (fT W f0 kk o t):=by
 have mem:∀k∈ks,∃i,i<m/\k=W i:=λk hk=>by
  obtain ⟨i,hi,e⟩:=jI.mp (hp.mem_iff.mp hk)
  exact ⟨i,wx.mp hi,e.symm⟩
 refine ⟨hp.nodup_iff.mpr ?_,by rw [hp.length_eq];simpa using hm,λk h=>?_,λk h=>?_⟩
 ·rw [List.nodup_iff_pairwise_ne,List.pairwise_map]
  refine List.Pairwise.imp_of_mem (R:=λa b=>a≠b) (λ{a b} ha hb ne h=>ne (w.wd.inj a b (by have:=wx.mp ha;omega) (by have:=wx.mp hb;omega) h)) ?_
  exact List.nodup_iff_pairwise_ne.mp List.nodup_range
 ·obtain ⟨i,hi,rfl⟩:=mem k h
  exact w.wd.len i (by omega)
 ·obtain ⟨i,hi,rfl⟩:=mem k h
  have:=w.fb i (by omega)
  unfold fT f3
  split
  ·simp only
   split<;>omega
  ·omega
abbrev eR (ns:List Int) (t m o R:Nat) (z5 z6:Ar):zf:=[some (dN ns),some (nV t),some (nV m),some (nV o),Av R,z5,z6]
def Cz (w:Lw ns W f0) (hm:m<=5) (hk:kk<m) {c2:Int}(C2:∀st,jc [dN ns,.int 2] st=.ok (.int c2) st) (K2:∀st,ja (.int (wj c2 2)) (nV m) st=.ok (nV kk) st) (s:aa) :
  ∃p s1 ks,pf [dN ns,nV t,nV m,nV o] s=.ok (.ref p) s1/\s1[p]?=some (RO ks (fT W f0 kk o t))/\ks.Perm ((List.range m).map W)/\s.length<=p/\Old s s1:=by
 obtain ⟨c,C⟩:=mK ns (3+t)
 let R:=s.length
 let t0:=s++[SO.dic [] []]
 have h0:t0[R]?=some (.dic [] []):=ye _ _
 obtain ⟨p,s1,l,E1,p1,pm,o1⟩:=Yi ns c hm t0
 have pR:p≠R:=by
  intro h
  rw [h,o1 _ _ h0] at p1
  cases p1
 have lm:∀k∈l,k<m:=λk hk=>wx.mp (pm.mem_iff.mp hk)
 have Ym:l.Nodup:=pm.nodup_iff.mpr List.nodup_range
 have ll:l.length=m:=by rw [pm.length_eq,List.length_range]
 obtain ⟨e',s2,F,⟨z5,he⟩,r2,k2⟩:=BM (g:=gN 5) (body:=(je (zc 4) (zt mh (zd (zc 0) (zd (zc 5) zj))) (zt nJ (zd (zc 0) (zd (zc 5) zj))))) (n:=p) (l.map nV) (λi e s'=>(∃z5,e=eR ns t m o R z5 none)/\s'[R]?=some (RO ((l.take i).map W) f0)/\Kx [R] s1 s') (λi e s' h=>h.2.2 _ _ (by simpa using pR) p1) (λi x e s' hx ⟨⟨z5,he⟩,h1,h2⟩=>by
  subst he
  rw [jo] at hx
  obtain ⟨k,kQ,rfl⟩:=Option.map_eq_some_iff.mp hx
  have km:=lm k (iq kQ)
  have hi:=my kQ
  have zn:W k∉(l.take i).map W:=λh=>by
   obtain ⟨j,hj,e⟩:=jI.mp h
   have e:=w.wd.inj j k (by have:=lm j (List.mem_of_mem_take hj);omega) (by omega) e
   subst e
   obtain ⟨q,hq⟩:=List.getElem?_of_mem hj
   have ql:q<i:=by have:=my hq;simp at this;omega
   rw [List.getElem?_take_of_lt ql] at hq
   obtain ⟨a1,a2⟩:=yt.mp hq
   obtain ⟨b1,b2⟩:=yt.mp kQ
   have:=BP Ym a1 b1 (a2.trans b2.symm)
   omega
  have o3:Old s' (s'++[SO.lst (five.map PV.str)]):=zT _ _
  have P:=J5 (rT (x:=.int (f0 (W k))) (xs:=((l.take i).map W).map λk=>PV.int (f0 k)) zn) (fo:=zc 4) (fi:=zt mh (zd (zc 0) (zd (zc 5) zj))) (fv:=zt nJ (zd (zc 0) (zd (zc 5) zj))) (e:=eR ns t m o R (some (nV k)) none) (s:=s') (zy (zD (ze rfl) (ze rfl)) (w.num k (by omega) s')) (ze rfl) (zy (zD (ze rfl) (ze rfl)) (w.wd.run k (by omega) s')) (o3 _ _ h1) (by simp;omega)
  refine ⟨_,_,_,rfl,P,⟨_,rfl⟩,?_,h2.trans (o3.kx.trans (yL (by simp)))⟩
  rw [yp (zR (o3 _ _ h1)),iS kQ]
  simp [RO]) l.length 0 (lim+1) (eR ns t m o R none none) s1 (by simp) (by simp [lim];omega) ⟨⟨none,rfl⟩,o1 _ _ h0,Kx.refl _ _⟩
 subst he
 rw [jx,List.take_length] at r2
 have kp:(l.map W).Perm ((List.range m).map W):=pm.map W
 have ol:Old s s2:=λq so e=>by
  have:=zR e
  have ne:q≠R:=by show q≠s.length;omega
  exact k2 _ _ (by simpa using ne) (o1 _ _ (zT _ _ _ _ e))
 have FO:(yS (yJ (zt uz (zd (zt jc (zd (zc 0) (zd (zk yh (At 3) (zc 1)) zj))) (zd (zc 2) zj)))) (gN 5) (je (zc 4) (zt mh (zd (zc 0) (zd (zc 5) zj))) (zt nJ (zd (zc 0) (zd (zc 5) zj))))) (eR ns t m o R none none) t0=.ok (.nx (eR ns t m o R z5 none)) s2:=uZ (zy (zD (zy (zD (ze rfl) (zo rfl (ze rfl) (iT 3 t))) (C t0)) (ze rfl)) E1) p1 F
 by_cases ht:t=3
 ·have hz:W kk∈l.map W:=kp.mem_iff.mpr (jI.mpr ⟨kk,wx.mpr hk,rfl⟩)
  have o3:Old s2 (s2++[SO.lst (five.map PV.str)]):=zT _ _
  have WR:=w.wd.run kk (by omega) s2
  generalize s2++[SO.lst (five.map PV.str)]=s3 at o3 WR
  have r3:=o3 _ _ r2
  have P:=J5 (Yj (x:=.int (f0 (W kk)+o)) (g:=λk=>PV.int (f0 k)) hz) (fo:=zc 4) (fi:=zc 6) (fv:=zk yh (zk zp (zc 4) (zc 6)) (zc 3)) (e:=eR ns t m o R z5 (some (.str (W kk)))) (s:=s3) (zo (zo (ze rfl) (ze rfl) (wu r3 (lh (g:=λk=>PV.int (f0 k)) hz))) (ze rfl) (FX _ _)) (ze rfl) (ze rfl) r3 (by simp;omega)
  refine ⟨R,_,l.map W,zZ rfl (zu (zQ rfl) (zu FO (zu (jb (zU (zo (ze rfl) rfl (mn true (by simp;omega) _))) (zu (zQ (zy (zD (ze rfl) (zo (zo (zy (zD (ze rfl) rfl) (C2 s2)) rfl (qZ _ _ (by decide) (by decide))) (ze rfl) (K2 s2))) WR)) P)) (zY (ze rfl))))),?_,kp,yf _,λq so e=>?_⟩
  ·rw [yp (zR r3)]
   congr 1
   show SO.dic _ _=SO.dic _ _
   congr 1
   refine List.map_congr_left λk _=>?_
   unfold fT f3
   rw [zx ht]
   split
   ·rename_i h;rw [h]
   ·rfl
  ·have:=zR e
   have ne:R≠q:=by show s.length≠q;omega
   rw [yB ne]
   exact o3 _ _ (ol _ _ e)
 ·refine ⟨R,s2,l.map W,zZ rfl (zu (zQ rfl) (zu FO (zu (yj (zU (zo (ze rfl) rfl (mn false (by simp;omega) _)))) (zY (ze rfl))))),?_,kp,yf _,ol⟩
  unfold fT
  rw [zK ht]
  exact r2
end
def CA {a:Str}(ha:a.length<=10) {j:Nat}(hj:j<1000) (st:aa):yh (.str a) (.str (S (dM (j:Int)))) st=.ok (.str (a++nW j)) st:=by
 have l:=rW (i:=(j:Int)) (by omega)
 have h:=iR (dM (j:Int))
 rw [ad a (S (dM (j:Int))) (by omega),<-pF]
def Yn {j:Nat} (hj:j<1000) (st:aa):yh (.str "s") (.str (S (dM (j:Int)))) st=.ok (.str (sN j)) st:=CA (by decide +kernel) hj st
def CB {j:Nat} (hj:j<1000) (st:aa):yh (.str "c") (.str (S (dM (j:Int)))) st=.ok (.str (cN j)) st:=CA (by decide +kernel) hj st
def Yo {j:Nat} (hj:j<1000) (st:aa):yh (.str "q") (.str (S (dM (j:Int)))) st=.ok (.str (qN j)) st:=CA (by decide +kernel) hj st
def sg {j:Nat}(hj:j<1000) (st:aa):jR [nV j] st=.ok (.str (S (dM (j:Int)))) st:=Ip (by omega) st
def Yp {s:aa}{l:Nat}{K:Aq}{x:PV}(h:s[l]?=some (.lst (K++[x]))):zp (.ref l) (.int (-1)) s=.ok x s:=by
 show yl s l _=_
 rw [ym h]
 have e:dB (K++[x]) (-1)=some x:=by
  have h1:fH (K++[x]).length (-1)=some K.length:=by
   unfold fH
   simp
   omega
  show (fH (K++[x]).length (-1)).bind _=_
  rw [h1]
  simp
 rw [e]
 rfl
abbrev bI:Ak:=(zw (yH (yC yM (zc 4) (zI (zd (Au "let") (zd (zk yh (Au "s") (zt jR (zd (zk yh (zk wG (At 10) (zc 6)) (zc 9)) zj))) (zd (Au "set") (zd (zI (zd (zc 8) (zd (zI (zd (Au "is") (zd (zc 10) zj))) (zd (zI (zd (Au "is") (zd (zk zp (zc 7) (zc 10)) zj))) zj)))) zj)))))))
  (zO 8 (zI (zd (Au "of") (zd (zk zp (zk zp (zc 4) (yc xU (At 1))) (At 1)) zj)))))
abbrev eT (ns:List Int) (m o:Nat) (b:Bool) (l:Nat) (z5 z6 z7 z8 z9 z10:Ar):zf:=[some (dN ns),some (nV m),some (nV o),some (.bl b),Av l,z5,z6,z7,z8,z9,z10]
section
variable {ns:List Int} {m o l p q t:Nat} {b:Bool} {ks:Ae} {f:Str->Int} {z5:Ar}
theorem J7 (ht:t<4) (h5:ks.length<=5) (lq:l≠q) (lp:l≠p):∀(r i:Nat) (K:Aq) (a:PV) (s:aa) (z9 z10:Ar) (fuel:Nat),i+r=ks.length->r<fuel->K.length+r<=1000->s[l]?=some (.lst K)->s[q]?=some (.lst (ks.map PV.str))->s[p]?=some (RO ks f) ->
  ∃s' Yq J8,dR (g2 9 10) bI q fuel i (eT ns m o b l z5 (some (nV t)) (Av p) (some a) z9 z10) s=.ok (.nx (eT ns m o b l z5 (some (nV t)) (Av p) (some (ic (10*t+i) a (ks.drop i))) Yq J8)) s'/\s'[l]?=some (.lst (K++dk (10*t+i) a (ks.drop i) f))/\Kx [l] s s'
 |0,i,K,a,s,z9,z10,fuel,hi,hf,hK,h1,h2,h3=>by
  obtain ⟨fuel,rfl⟩:∃x,fuel=x+1:=⟨fuel-1,by omega⟩
  have e:ks.drop i=[]:=mM (by omega)
  rw [e]
  exact ⟨s,z9,z10,Js h2 (by simp;omega),by simpa [dk] using h1,Kx.refl _ _⟩
 |r+1,i,K,a,s,z9,z10,fuel,hi,hf,hK,h1,h2,h3=>by
  obtain ⟨fuel,rfl⟩:∃x,fuel=x+1:=⟨fuel-1,by omega⟩
  have hx:ks[i]?=some (ks[i]'(by omega)):=yr (by omega)
  have hm:ks[i]'(by omega)∈ks:=List.getElem_mem _
  have ed:ks.drop i=ks[i]'(by omega)::ks.drop (i+1):=we (by omega)
  generalize ks[i]'(by omega)=k at hx hm ed
  have A:=j4 (y:=bp (sN (10*t+i)) "set" [a,bR (.str k),bR (.int (f k))]) h1 (by omega)
  have k2:Kx [l] s (s.set l (.lst (K++[bp (sN (10*t+i)) "set" [a,bR (.str k),bR (.int (f k))]]))):=yL (by simp)
  have gq:(s.set l (.lst (K++[bp (sN (10*t+i)) "set" [a,bR (.str k),bR (.int (f k))]])))[l]?=some (.lst (K++[bp (sN (10*t+i)) "set" [a,bR (.str k),bR (.int (f k))]])):=yp (zR h1)
  generalize s.set l (.lst (K++[bp (sN (10*t+i)) "set" [a,bR (.str k),bR (.int (f k))]]))=s1 at A k2 gq
  obtain ⟨s',y9,ik,F,f',k'⟩:=J7 ht h5 lq lp r (i+1) (K++[bp (sN (10*t+i)) "set" [a,bR (.str k),bR (.int (f k))]]) (aZ (sN (10*t+i))) s1 (some (nV i)) (some (.str k)) fuel (by omega) (by omega) (by simp;omega) gq (k2 _ _ (by simpa using yO lq) h2) (k2 _ _ (by simpa using yO lp) h3)
  have B:bI (eT ns m o b l z5 (some (nV t)) (Av p) (some a) (some (nV i)) (some (.str k))) s=.ok (.nx (eT ns m o b l z5 (some (nV t)) (Av p) (some (aZ (sN (10*t+i)))) (some (nV i)) (some (.str k)))) s1:=zu (jD (jL (ze rfl) h1 (zP (jj rfl (zo rfl (zy (zF (zo (zo rfl (ze rfl) (BO 10 t (.inl (by decide)))) (ze rfl) (iT (10*t) i))) (sg (by omega) s)) (Yn (by omega) s)) rfl (zP (jE (ze rfl) (zP (zD rfl (ze rfl)) (by simp)) (zP (zD rfl (zo (ze rfl) (ze rfl) (wu h3 (lh (g:=λk=>PV.int (f k)) hm)))) (by simp))) (by simp))) (by simp)) A)) (zQ (zP (zD rfl (zo (zo (ze rfl) (yE rfl rfl) (Yp gq)) rfl yA)) (by simp)))
  rw [ed]
  refine ⟨s',y9,ik,Cq (x:=.str k) h2 (by rw [jo,hx];rfl) rfl B F,?_,k2.trans k'⟩
  rw [f']
  simp [dk,Nat.add_assoc]
end
abbrev bT:Ak:=(zw (zO 7 (zt pf (zd (zc 0) (zd (zc 6) (zd (zc 1) (zd (zc 2) zj))))))
  (zw (zO 8 (zI (zd (Au "is") (zd (zt ph (zd (zc 7) (zd (zc 3) zj))) zj))))
  (zw (yd (jN (kG (mB (zc 3))) (mB (zk yx (zk ja (zk iI (zt jc (zd (zc 0) (zd (At 8) zj))) (zk yh (At 1) (zk wG (At 2) (zc 6)))) (At 2)) (At 1))))
  (zw (zO 8 (zI (zd (Au "is") (zd iL zj))))
  (l7 (zd (zt kN (zd (zc 7) zj)) zj) (g2 9 10)
  bI))
  yi)
  (zw (yH (yC yM (zc 4) (zI (zd (Au "call") (zd (zk yh (Au "c") (zt jR (zd (zc 6) zj))) (zd (Au "other") (zd (zI (zd (zc 8) (zd (zI (zd (Au "of") (zd (zc 5) zj))) zj))) zj)))))))
  (zO 5 (zk yh (Au "c") (zt jR (zd (zc 6) zj))))))))
def vk (b:Bool) (n:Nat) (s:aa):ph [.ref n,.bl b] s=.ok (hV b n) s:=by
 cases b
 ·exact zZ rfl (zu (yj (zU (ze rfl))) (zY (ze rfl)))
 ·exact zZ rfl (wH (jb (zU (ze rfl)) (zY (zP (zD rfl (ze rfl)) (by simp)))))
section
variable {ns:List Int} {W:Nat->Str} {f0:Str->Int} {m kk o t l:Nat} {b:Bool}
def vm (w:Lw ns W f0) (ht:t<4) (hm:m<=5) (hk:kk<m) {c2:Int}(C2:∀st,jc [dN ns,.int 2] st=.ok (.int c2) st) (K2:∀st,ja (.int (wj c2 2)) (nV m) st=.ok (nV kk) st) {K:Aq}{s:aa}(hl:s[l]?=some (.lst K)) (hK:K.length<=100) {z7 z8 z9 z10:Ar} :
  ∃st n d ks s' y7 y8 y9 ik,bT (eT ns m o b l (some (.str (nm t))) (some (nV t)) z7 z8 z9 z10) s=.ok (.nx (eT ns m o b l (some (.str (nm (t+1)))) (some (nV t)) y7 y8 y9 ik)) s'/\s'[l]?=some (.lst (K++turnL t b st n d ks (fT W f0 kk o t)))/\(st=true->b=false)/\s'[n]?=some (RO ks (fT W f0 kk o t))/\(st=true->s'[d]?=some (.dic [] []))/\n≠l/\d≠l/\ks.Perm ((List.range m).map W)/\Kx [l] s s':=by
 obtain ⟨p,s1,ks,E1,r1,kp,lp,o1⟩:=Cz (t:=t) (o:=o) w hm hk C2 K2 s
 obtain ⟨c8,C8⟩:=mK ns 8
 have C8:∀st,jc [dN ns,.int 8] st=.ok (.int c8) st:=C8
 have ll:=zR hl
 have kl:ks.length<=5:=by rw [kp.length_eq];simpa using hm
 have l1:=o1 _ _ hl
 let T:Al:=(jN (kG (mB (zc 3))) (mB (zk yx (zk ja (zk iI (zt jc (zd (zc 0) (zd (At 8) zj))) (zk yh (At 1) (zk wG (At 2) (zc 6)))) (At 2)) (At 1))))
 have TT:∃c:Bool,(c=true->b=false)/\T (eT ns m o b l (some (.str (nm t))) (some (nV t)) (Av p) (some (bR (hV b p))) z9 z10) s1=.ok c s1:=by
  cases b with
  |true=>exact ⟨false,(λq=>by cases q),mf (Bj (b:=true) (zU (ze rfl)))⟩
  |false=>exact ⟨decide (wQ (wj c8 ((1+2*t:Nat):Int)) 2=1),λ_=>rfl,nI (Bj (b:=false) (zU (ze rfl))) (zU (zo (zo (zo (zy (zD (ze rfl) rfl) (C8 s1)) (zo rfl (zo rfl (ze rfl) (BO 2 t (.inl (by decide)))) (iT 1 (2*t))) (qZ _ _ (by omega) (by omega))) rfl (Bl _ _ (by decide))) rfl (uk _ _)))⟩
 obtain ⟨c,hc,TT⟩:=TT
 have END:∀{K':Aq} {a:PV} {s2:aa} {y9 ik:Ar},s2[l]?=some (.lst K')->K'.length<=1000->(zw (yH (yC yM (zc 4) (zI (zd (Au "call") (zd (zk yh (Au "c") (zt jR (zd (zc 6) zj))) (zd (Au "other") (zd (zI (zd (zc 8) (zd (zI (zd (Au "of") (zd (zc 5) zj))) zj))) zj)))))))
  (zO 5 (zk yh (Au "c") (zt jR (zd (zc 6) zj))))) (eT ns m o b l (some (.str (nm t))) (some (nV t)) (Av p) (some a) y9 ik) s2=.ok (.nx (eT ns m o b l (some (.str (nm (t+1)))) (some (nV t)) (Av p) (some a) y9 ik)) (s2.set l (.lst (K'++[bf (cN t) "other" [a,aZ (nm t)]]))):=λ{K' a s2 y9 ik} h CM=>zu (jD (jL (ze rfl) h (zP (jj rfl (zo rfl (zy (zF (ze rfl)) (sg (by omega) s2)) (CB (by omega) s2)) rfl (zP (zD (ze rfl) (zP (zD rfl (ze rfl)) (by simp))) (by simp))) (by simp)) (j4 h (by omega)))) (zQ (zo rfl (zy (zF (ze rfl)) (sg (by omega) _)) (CB (by omega) _)))
 cases c with
 |false =>
  have k2:Kx [l] s1 (s1.set l (.lst (K++[bf (cN t) "other" [bR (hV b p),aZ (nm t)]]))):=yL (by simp)
  refine ⟨false,p,l+1,ks,_,_,_,_,_,zu (zQ (zy (jj (ze rfl) (ze rfl) (ze rfl) (ze rfl)) E1)) (zu (zQ (zP (zD rfl (zy (zD (ze rfl) (ze rfl)) (vk b p s1))) (by simp))) (zu (yj TT) (END l1 (by omega)))),yp (zR l1),(λq=>by cases q),k2 _ _ (by simp;omega) r1,(λq=>by cases q),by omega,by omega,kp,o1.kx.trans k2⟩
 |true =>
  have hb:=hc rfl
  subst hb
  let s2:=s1++[SO.dic [] []]
  have o2:Old s1 s2:=zT _ _
  have d2:s2[s1.length]?=some (.dic [] []):=ye _ _
  let s3:=s2++[SO.lst (ks.map PV.str)]
  have o3:Old s2 s3:=zT _ _
  have L3:kN [.ref p] s2=.ok (.ref s2.length) s3:=by
   unfold kN
   simp only [o2 _ _ r1]
   rfl
  have r3:=o3 _ _ (o2 _ _ r1)
  have q1:=zR l1
  have q2:s2.length=s1.length+1:=by simp [s2]
  obtain ⟨s4,y9,ik,F,f4,k4⟩:=J7 (ns:=ns) (m:=m) (o:=o) (b:=false) (p:=p) (q:=s2.length) (f:=fT W f0 kk o t) (ks:=ks) (z5:=some (.str (nm t))) ht kl (by omega) (by omega) ks.length 0 K (bR (.ref s1.length)) s3 z9 z10 (lim+1) (by omega) (by simp [lim];omega) (by omega) (o3 _ _ (o2 _ _ l1)) (ye _ _) r3
  rw [List.drop_zero,Nat.add_zero] at F f4
  have FE:l7 (zd (zt kN (zd (zc 7) zj)) zj) (g2 9 10) bI (eT ns m o false l (some (.str (nm t))) (some (nV t)) (Av p) (some (bR (.ref s1.length))) z9 z10) s2=.ok (.nx (eT ns m o false l (some (.str (nm t))) (some (nV t)) (Av p) (some (ic (10*t) (bR (.ref s1.length)) ks)) y9 ik)) s4:=by
   rw [Fn,zF (zy (zF (ze rfl)) L3),zJ]
   show ((yl s3 s2.length _).bind _)=_
   rw [ym (ye _ _),zJ]
   exact F
  have sl:∀(ks:Ae) (j:Nat) (a:PV) (f:Str->Int),(dk j a ks f).length=ks.length:=λks=>by
   induction ks with
   |nil=>intro j a f;rfl
   |cons k ks ih=>intro j a f;simp [dk,ih]
  have k5:Kx [l] s4 (s4.set l (.lst (K++dk (10*t) (bR (.ref s1.length)) ks (fT W f0 kk o t)++[bf (cN t) "other" [ic (10*t) (bR (.ref s1.length)) ks,aZ (nm t)]]))):=yL (by simp)
  refine ⟨true,p,s1.length,ks,_,_,_,_,_,zu (zQ (zy (jj (ze rfl) (ze rfl) (ze rfl) (ze rfl)) E1)) (zu (zQ (zP (zD rfl (zy (zD (ze rfl) (ze rfl)) (vk false p s1))) (by simp))) (zu (jb TT (zu (zQ (zP (zD rfl rfl) (by simp))) FE)) (END f4 (by simp [sl];omega)))),?_,λ_=>rfl,k5 _ _ (by simp;omega) (k4 _ _ (by simp;omega) r3),λ_=>k5 _ _ (by simp;omega) (k4 _ _ (by simp;omega) (o3 _ _ d2)),by omega,by omega,kp,λq so hq e=>k5 _ _ hq (k4 _ _ hq (o3 _ _ (o2 _ _ (o1 _ _ e))))⟩
  rw [yp (zR f4),wM]
  rfl
end
def lD (L:Ae) (a:PV):Prop:=dW a/\aY L a=false
def vn (L:Ae) (v:PV):lD L (bR v):=⟨.is v,nO L v⟩
def CC {L:Ae}{z:Str}(h:z∉L):lD L (aZ z):=⟨.of z,by rw [mv];exact jp h⟩
section
variable {L:Ae} {f:Str->Int} {rest xs:Aq} {t':List (Str×List PV)} {n:Nat}
def J_ {a:PV}(h:lD L a) (k:Str) (i:Int):(∀x∈[a,bR (.str k),bR (.int i)],dW x)/\[a,bR (.str k),bR (.int i)].any (aY L)=false:=by
 refine ⟨λx hx=>?_,by simp [h.2,nO]⟩
 simp at hx
 rcases hx with rfl|rfl|rfl
 ·exact h.1
 ·exact .is _
 ·exact .is _
theorem Ka {rs:Ae}{g:List Int}{fns:Ae}(hs:∀j,sN j∉L) (q:Lq fns L rest rs g):∀(ks:Ae) (j:Nat) (a:PV),lD L a->Lq fns L (dk j a ks f++rest) rs g
 |[],_,_,_=>q
 |k::ks,j,a,h=>by
  obtain ⟨h1,h2⟩:=J_ h k (f k)
  exact .no h1 (by simp) h2 (Ka hs q ks (j+1) _ (CC (hs j)))
theorem Kb (q:Am rest xs t'):∀(ks:Ae) (j:Nat) (a:PV),∃ys,Am (dk j a ks f++rest) ys t'
 |[],_,_=>⟨_,q⟩
 |k::ks,j,a=>by
  obtain ⟨ys,h⟩:=Kb q ks (j+1) (aZ (sN j))
  exact ⟨_,.let_ h⟩
theorem Kc (hs:∀j,sN j∉L) (q:Bq L rest n):∀(ks:Ae) (j:Nat) (a:PV),lD L a->Bq L (dk j a ks f++rest) n
 |[],_,_,_=>q
 |k::ks,j,a,h=>by
  obtain ⟨h1,h2⟩:=J_ h k (f k)
  exact .let_ h1 (by simp) (λe=>by rw [h2] at e;cases e) (Kc hs q ks (j+1) _ (CC (hs j)))
theorem Kd (hs:∀j,sN j∉L):∀(ks:Ae) (j:Nat) (a:PV),lD L a->lD L (ic j a ks)
 |[],_,_,h=>h
 |k::ks,j,a,h=>Kd hs ks (j+1) _ (CC (hs j))
def Ke (hs:∀j,sN j∉L) (t:Nat) (b st:Bool) (m d:Nat) (ks:Ae):lD L (mH t b st m d ks):=by
 cases st
 ·exact vn L _
 ·exact Kd hs ks _ _ (vn L _)
def Kf {a:PV}{y:Str}(h:lD L a) (hy:y∈L):(∀x∈[a,aZ y],dW x)/\ba ([a,aZ y].map (aY L))=2:=by
 refine ⟨λx hx=>?_,by simp [h.2,mv,hy,ba]⟩
 simp at hx
 rcases hx with rfl|rfl
 ·exact h.1
 ·exact .of _
variable {b st:Bool} {m d t:Nat} {ks:Ae}
def Yr {rs:Ae}{g:List Int}(hs:∀j,sN j∉L) (hy:nm t∈L) (hz:cN t∉L) (q:Lq wD (L++[cN t]) rest rs g):Lq wD L (turnL t b st m d ks f++rest) (cN t::rs) (2::g):=by
 obtain ⟨h1,h2⟩:=Kf (Ke hs t b st m d ks) hy
 have c:Lq wD L ([bf (cN t) "other" [mH t b st m d ks,aZ (nm t)]]++rest) (cN t::rs) (ba ([mH t b st m d ks,aZ (nm t)].map (aY L))::g):=.call h1 (by simp) hz (by decide +kernel) q
 rw [h2] at c
 cases st with
 |false=>exact c
 |true =>
  show Lq wD L ((dk (10*t) (bR (.ref d)) ks f++_)++rest) _ _
  rw [wM]
  exact Ka hs c ks _ _ (vn L _)
def vo (q:Am rest xs t'):∃ys,Am (turnL t b st m d ks f++rest) ys (("other", [mH t b st m d ks,aZ (nm t)])::t'):=by
 have c:Am ([bf (cN t) "other" [mH t b st m d ks,aZ (nm t)]]++rest) _ (("other", [mH t b st m d ks,aZ (nm t)])::t'):=.call q
 cases st with
 |false=>exact ⟨_,c⟩
 |true =>
  show ∃ys,Am ((dk (10*t) (bR (.ref d)) ks f++_)++rest) _ _
  rw [wM]
  exact Kb c ks _ _
def Ys (hs:∀j,sN j∉L) (hy:nm t∈L) (hz:cN t∈L) (q:Bq L rest n):Bq L (turnL t b st m d ks f++rest) (n+1):=by
 obtain ⟨h1,h2⟩:=Kf (Ke hs t b st m d ks) hy
 have c:Bq L ([bf (cN t) "other" [mH t b st m d ks,aZ (nm t)]]++rest) (n+1):=.call h1 (by simp) hz h2 q
 cases st with
 |false=>exact c
 |true =>
  show Bq L ((dk (10*t) (bR (.ref d)) ks f++_)++rest) _
  rw [wM]
  exact Kc hs c ks _ _ (vn L _)
end
def CD (A B C D E:Aq):(A++(B++(C++D)))++E=A++(B++(C++(D++E))):=by simp
abbrev Lt (t:Nat):Ae:=(List.range (t+1)).map nm
def Kg (t:Nat):∀j,sN j∉Lt t:=λj h=>by
 obtain ⟨i,_,e⟩:=jI.mp h
 exact ns e.symm
def Yt (t:Nat):nm t∈Lt t:=jI.mpr ⟨t,wx.mpr (by omega),rfl⟩
def Yu (t:Nat):cN t∉Lt t:=λh=>by
 obtain ⟨i,hi,e⟩:=jI.mp h
 have:=Ct (i:=i) (j:=t+1) e
 have:=wx.mp hi
 omega
def Yv (t:Nat):Lt t++[cN t]=Lt (t+1):=by
 show _=(List.range (t+1+1)).map nm
 rw [List.range_succ,wL]
 rfl
def Kh:(["x"]:Ae)++fB=Lt 4:=rfl
section
variable {b:Bool} {st:Nat->Bool} {n d:Nat->Nat} {ks:Nat->Ae} {f:Nat->Str->Int}
def Yw:Lq wD ["x"] (j0 b st n d ks f++[aV (aZ (cN 3))]) fB [2,2,2,2]:=by
 have e:∀t {A r:Aq} {rs:Ae} {g:List Int} {bH:Bool} {n' d':Nat} {cq:Ae} {f':Str->Int},Lq wD (Lt (t+1)) r rs g->Lq wD (Lt t) (turnL t b bH n' d' cq f'++r) (cN t::rs) (2::g):=λt {A r rs g bH n' d' cq f'} q=>Yr (Kg t) (Yt t) (Yu t) (by rw [Yv];exact q)
 show Lq wD (Lt 0) _ _ _
 rw [CD]
 exact e 0 (A:=[]) (e 1 (A:=[]) (e 2 (A:=[]) (e 3 (A:=[]) (.give (.nil _)))))
def Yx:∃xs t',Am (j0 b st n d ks f++[aV (aZ (cN 3))]) xs t'/\t'.map (·.1)=(["other", "other", "other", "other"]:Ae):=by
 rw [CD]
 obtain ⟨x3,h3⟩:=vo (f:=f 3) (t:=3) (b:=b) (st:=st 3) (m:=n 3) (d:=d 3) (ks:=ks 3) (Am.give (a:=aZ (cN 3)) .nil)
 obtain ⟨x2,h2⟩:=vo (f:=f 2) (t:=2) (b:=b) (st:=st 2) (m:=n 2) (d:=d 2) (ks:=ks 2) h3
 obtain ⟨x1,h1⟩:=vo (f:=f 1) (t:=1) (b:=b) (st:=st 1) (m:=n 1) (d:=d 1) (ks:=ks 1) h2
 obtain ⟨x0,h0⟩:=vo (f:=f 0) (t:=0) (b:=b) (st:=st 0) (m:=n 0) (d:=d 0) (ks:=ks 0) h1
 exact ⟨_,_,h0,rfl⟩
def Yy:Bq ((["x"]:Ae)++fB) (j0 b st n d ks f++[aV (aZ (cN 3))]) 4:=by
 rw [Kh]
 have y:∀t,t<=4->nm t∈Lt 4:=λt ht=>jI.mpr ⟨t,wx.mpr (by omega),rfl⟩
 have e:∀t,t<4->∀{A r:Aq} {k:Nat} {bH:Bool} {n' d':Nat} {cq:Ae} {f':Str->Int},Bq (Lt 4) r k->Bq (Lt 4) (turnL t b bH n' d' cq f'++r) (k+1):=λt ht {A r k bH n' d' cq f'} q=>Ys (Kg 4) (y t (by omega)) (y (t+1) (by omega)) q
 rw [CD]
 exact e 0 (by decide) (A:=[]) (e 1 (by decide) (A:=[]) (e 2 (by decide) (A:=[]) (e 3 (by decide) (A:=[]) (.give .nil))))
def Yz:((["x"]:Ae)++fB).Nodup:=by
 rw [Kh,List.nodup_iff_pairwise_ne,List.pairwise_map]
 exact (List.nodup_iff_pairwise_ne.mp List.nodup_range).imp λne h=>ne (Ct h)
end
def pN {a a':PV}(h:dW a) (h':dW a'):∀x∈[a,a'],dW x:=λx hx=>by
 simp at hx
 rcases hx with rfl|rfl
 ·exact h
 ·exact h'
def YA (b:Bool) (w:Str):Lq wD ["x"] (f_ b w++[aV (aZ "z")]) ["z"] []:=by
 have z:Lq wD ["x"] ([cS]++[aV (aZ "z")]) ["z"] []:=.yes (pN (.of _) (.of _)) (by simp) (by simp [mv]) (by decide +kernel) (.give (.nil _))
 have i:∀v:Str,v∉(["x"]:Ae)->Lq wD ["x"] (cJ v w::([cS]++[aV (aZ "z")])) ["z"] []:=λv hv=>.no (pN (.of _) (.is _)) (by simp) (by simp [mv,nO];simpa using hv) z
 cases b with
 |false=>exact i "r" (by decide +kernel)
 |true=>exact .no (pN (.of _) (.is _)) (by simp) (by simp only [List.any_cons,List.any_nil,mv,nO];decide +kernel) (i "i" (by decide +kernel))
def YB (b:Bool) (w:Str):∃xs,Am (f_ b w++[aV (aZ "z")]) xs []:=by
 cases b with
 |false=>exact ⟨_,.let_ (.let_ (.give .nil))⟩
 |true=>exact ⟨_,.let_ (.let_ (.let_ (.give .nil)))⟩
def YC (b:Bool) (w:Str):Bq ((["x"]:Ae)++(["z"]:Ae)) (f_ b w++[aV (aZ "z")]) 0:=by
 have z:Bq ((["x"]:Ae)++(["z"]:Ae)) ([cS]++[aV (aZ "z")]) 0:=.let_ (pN (.of _) (.of _)) (by simp) (λ_=>by simp) (.give .nil)
 have i:∀v:Str,v∉((["x"]:Ae)++(["z"]:Ae))->Bq ((["x"]:Ae)++(["z"]:Ae)) (cJ v w::([cS]++[aV (aZ "z")])) 0:=λv hv=>.let_ (pN (.of _) (.is _)) (by simp) (λh=>by simp only [List.any_cons,List.any_nil,mv,nO,jp hv] at h;cases h) z
 cases b with
 |false=>exact i "r" (by decide +kernel)
 |true=>exact .let_ (pN (.of _) (.is _)) (by simp) (λh=>by
   have hv:("r" : Str)∉((["x"]:Ae)++(["z"]:Ae)):=by decide +kernel
   simp only [List.any_cons,List.any_nil,mv,nO,jp hv] at h;cases h) (i "i" (by decide +kernel))
def YD:((["x"]:Ae)++(["z"]:Ae)).Nodup:=by decide +kernel
def YE (b:Bool) (w:Str) (s:aa):∃s1,By [.str w,.bl b] s=.ok (pK b w) s1/\Old s s1:=by
 have o1:Old s (s++[SO.lst [cJ "r" w,cS]]):=zT _ _
 have h1:(s++[SO.lst [cJ "r" w,cS]])[s.length]?=some (.lst [cJ "r" w,cS]):=ye _ _
 cases b with
 |false =>
  exact ⟨_,zZ rfl (zu (zQ (jm (zD (zP (jj rfl rfl rfl (zP (zD (zP (zD rfl rfl) (by simp)) (zP (zD rfl (ze rfl)) (by simp))) (by simp))) (by simp)) (zP (jj rfl rfl rfl (zP (zD (zP (zD rfl rfl) (by simp)) (zP (zD rfl rfl) (by simp))) (by simp))) (by simp))) (by simp))) (zu (yj (zU (ze rfl))) (zY (zP (jE rfl (zP (zD rfl rfl) (by simp)) (zP (zD (zy (zF (ze rfl)) (by rw [jC,ym h1];rfl)) (zP (zD rfl (zP (zD rfl rfl) (by simp))) (by simp))) (by simp))) (by simp))))),o1⟩
 |true =>
  have P:=ma (i:=0) (fo:=zc 2) (fi:=At 0) (fv:=(zI (zd (Au "let") (zd (Au "f") (zd (Au "field") (zd (zI (zd (zI (zd (Au "of") (zd (Au "i") zj))) (zd (zI (zd (Au "is") (zd (zc 0) zj))) zj))) zj)))))) (x:=cJ "i" w) (e:=[some (.str w),some (.bl true),Av s.length]) (s:=s++[SO.lst [cJ "r" w,cS]]) (zP (jj rfl rfl rfl (zP (zD (zP (zD rfl rfl) (by simp)) (zP (zD rfl (ze rfl)) (by simp))) (by simp))) (by simp)) (ze rfl) rfl h1 (by simp)
  have k2:Kx [s.length] (s++[SO.lst [cJ "r" w,cS]]) ((s++[SO.lst [cJ "r" w,cS]]).set s.length (.lst ([cJ "r" w,cS].set 0 (cJ "i" w)))):=yL (by simp)
  have h2:((s++[SO.lst [cJ "r" w,cS]]).set s.length (.lst ([cJ "r" w,cS].set 0 (cJ "i" w))))[s.length]?=some (.lst [cJ "i" w,cS]):=yp (zR h1)
  generalize (s++[SO.lst [cJ "r" w,cS]]).set s.length (.lst ([cJ "r" w,cS].set 0 (cJ "i" w)))=s2 at P k2 h2
  have o3:Old s2 (s2++[SO.lst [ig]]):=zT _ _
  have A:yh (.ref s2.length) (.ref s.length) (s2++[SO.lst [ig]])=.ok (.ref (s2++[SO.lst [ig]]).length) (s2++[SO.lst [ig]]++[SO.lst [ig,cJ "i" w,cS]]):=by
   show yl _ _ _=_
   rw [ym (ye _ _),ym (o3 _ _ h2)]
   exact zx (by simp [lim])
  refine ⟨_,zZ rfl (zu (zQ (jm (zD (zP (jj rfl rfl rfl (zP (zD (zP (zD rfl rfl) (by simp)) (zP (zD rfl (ze rfl)) (by simp))) (by simp))) (by simp)) (zP (jj rfl rfl rfl (zP (zD (zP (zD rfl rfl) (by simp)) (zP (zD rfl rfl) (by simp))) (by simp))) (by simp))) (by simp))) (zu (jb (zU (ze rfl)) (zu P (zQ (zo (jm (zF (zP (jj rfl rfl rfl (zP (zD (zP (zD rfl rfl) (by simp)) (zP (zD rfl rfl) (by simp))) (by simp))) (by simp))) (by simp)) (ze rfl) A)))) (zY (zP (jE rfl (zP (zD rfl rfl) (by simp)) (zP (zD (zy (zF (ze rfl)) (by rw [jC,ym (ye _ _)];rfl)) (zP (zD rfl (zP (zD rfl rfl) (by simp))) (by simp))) (by simp))) (by simp))))),λm so e=>?_⟩
  have:=zR e
  exact zT _ _ _ _ (o3 _ _ (k2 _ _ (by simp;omega) (o1 _ _ e)))
theorem mL {g:PV->PV->Option Bool}:∀{xs ys:Aq},xs.length=ys.length->(∀(i:Nat) x y,xs[i]?=some x->ys[i]?=some y->g x y=some true)->di g xs ys=some true
 |[],[],_,_=>rfl
 |x::xs,y::ys,hl,h=>by
  unfold di
  rw [h 0 x y rfl rfl,mL (by simpa using hl) λi a b e e'=>h (i+1) a b (by simpa using e) (by simpa using e')]
  rfl
 |[],_::_,hl,_=>by simp at hl
 |_::_,[],hl,_=>by simp at hl
inductive gK:Nat->PV->Prop
 |int (n:Nat) (i:Int):gK n (.int i)
 |str (n:Nat) (z:Str):gK n (.str z)
 |tup (n:Nat) (xs:Aq):(∀x∈xs,gK n x)->gK (n+1) (.tup xs)
theorem pO {s:aa}:∀{n:Nat}{x:PV},gK n x->∀k,n<k->eqT s k x x=some true
 |n,_,.int _ i,k,hk=>by
  obtain ⟨k,rfl⟩:∃j,k=j+1:=⟨k-1,by omega⟩
  simp [eqT]
 |n,_,.str _ z,k,hk=>by
  obtain ⟨k,rfl⟩:∃j,k=j+1:=⟨k-1,by omega⟩
  simp [eqT]
 |n+1,_,.tup _ xs h,k,hk=>by
  obtain ⟨k,rfl⟩:∃j,k=j+1:=⟨k-1,by omega⟩
  show di (eqT s k) xs xs=_
  refine mL rfl λi x y hx hy=>?_
  rw [hx] at hy
  cases hy
  exact pO (h x (iq hx)) k (by omega)
def jT {P:PV->Prop}:∀x∈([]:Aq),P x:=λ_ h=>nomatch h
def bx {P:PV->Prop}{a:PV}{xs:Aq}(h:P a) (h':∀x∈xs,P x):∀x∈a::xs,P x:=λx hx=>by
 rcases yI.mp hx with q|q
 ·rw [q];exact h
 ·exact h' x q
def CF (n:Nat) (z:Str):gK (n+1) (aZ z):=.tup _ _ (bx (.str _ _) (bx (.str _ _) jT))
def Ki (n:Nat) (z:Str):gK (n+2) (aV (aZ z)):=.tup _ _ (bx (.str _ _) (bx (CF n z) jT))
def vp (n:Nat) (a q y:Str):gK (n+3) (bf a q [aZ y]):=.tup _ _ (bx (.str _ _) (bx (.str _ _) (bx (.str _ _) (bx (.tup _ _ (bx (CF n y) jT)) jT))))
def Kj (n:Nat):gK (n+1) (.tup [.str "x"]):=.tup _ _ (bx (.str _ _) jT)
def YF (oth:Bool):gK 7 (pL oth):=.tup _ _ (bx (.str _ _) (bx (Kj 5) (bx (.tup _ _ (bx (.tup _ _ (bx (vp 1 _ _ _) (bx (vp 1 _ _ _) (bx (vp 1 _ _ _) (bx (vp 1 _ _ _) jT))))) (bx (Ki 3 _) jT))) jT)))
def Kk (j:Nat) (i:Int):gK 7 (lB j i):=.tup _ _ (bx (.str _ _) (bx (Kj 5) (bx (.tup _ _ (bx (.tup _ _ (bx (.tup _ _ (bx (.str _ _) (bx (.str _ _) (bx (.str _ _) (bx (.tup _ _ (bx (CF 1 _) (bx (.tup _ _ (bx (.str _ _) (bx (.int _ _) jT))) jT))) jT))))) jT)) (bx (Ki 3 _) jT))) jT)))
def YG (oth:Bool) (i j:Int):gK 8 (.tup (fF oth i j)):=.tup _ _ λx hx=>by
 rcases iu.mp hx with q|q
 ·exact bx (YF oth) (bx (Kk _ _) jT) x q
 ·cases oth with
  |false=>cases q
  |true=>exact bx (Kk _ _) jT x q
theorem Kl {s:aa}{n:Nat}{cq:Ae}{f:Str->Int}:∀{ks:Ae},(∀k∈ks,k∈cq)->dI (eqT s (n+1)) cq (cq.map λk=>PV.int (f k)) ks (ks.map λk=>PV.int (f k))=some true
 |[],_=>rfl
 |k::ks,h=>by
  rw [yG]
  unfold dI
  rw [lh (g:=λk=>PV.int (f k)) (h k (jf ..)),Kl λz hz=>h z (jH _ hz)]
  simp [eqT]
def Km {s:aa}{a c n:Nat}{ks ls:Ae}{f:Str->Int}(ha:s[a]?=some (RO ks f)) (hc:s[c]?=some (RO ls f)) (nd:ks.Nodup) (hp:ks.Perm ls):eqT s (n+2) (.ref a) (.ref c)=some true:=by
 show l9 (eqT s (n+1)) s[a]? s[c]?=_
 rw [ha,hc]
 show (if _ then (if _ then _ else _) else _)=_
 rw [zx ⟨nd,by simp⟩,zx hp.length_eq]
 exact Kl λk hk=>hp.mem_iff.mp hk
def YH {s:aa}{a c:Nat}{b:Bool}{ks ls:Ae}{f:Str->Int}(ha:s[a]?=some (RO ks f)) (hc:s[c]?=some (RO ls f)) (nd:ks.Nodup) (hp:ks.Perm ls) (n:Nat):eqT s (n+5) (.tup [hV b a]) (.tup [hV b c])=some true:=by
 show di (eqT s (n+4)) _ _=_
 refine mL rfl λi x y hx hy=>?_
 match i with
 |0 =>
  cases hx;cases hy
  cases b with
  |false=>exact Km (n:=n+2) ha hc nd hp
  |true =>
   show di (eqT s (n+3)) [.int 7,.ref a] [.int 7,.ref c]=_
   refine mL rfl λi x y hx hy=>?_
   match i with
   |0=>cases hx;cases hy;exact pO (.int 0 7) _ (by omega)
   |1=>cases hx;cases hy;exact Km (n:=n+1) ha hc nd hp
   |i+2=>cases hx
 |i+1=>cases hx
def CG {s:aa} {a c:Nat} {b:Bool} {ks ls:Ae} {f:Str->Int} (ha:s[a]?=some (RO ks f)) (hc:s[c]?=some (RO ls f)) (nd:ks.Nodup) (hp:ks.Perm ls) (n:Nat):eqT s (n+6) (bj "other" 2 [hV b a]) (bj "other" 2 [hV b c])=some true:=by
 show di (eqT s (n+5)) _ _=_
 refine mL rfl λi x y hx hy=>?_
 match i with
 |0=>cases hx;cases hy;exact pO (.str 0 _) _ (by omega)
 |1=>cases hx;cases hy;exact pO (.int 0 _) _ (by omega)
 |2=>cases hx;cases hy;exact YH ha hc nd hp n
 |i+3=>cases hx
def YI {s:aa}{n0 n3 p0 p3:Nat}{b oth:Bool}{cX Ko gv Kp:Ae}{f g:Str->Int}{i j:Int}(h0:s[n0]?=some (RO cX f)) (Kq:s[p0]?=some (RO Ko f)) (pM:cX.Nodup) (Kr:cX.Perm Ko) (h3:s[n3]?=some (RO gv g)) (JR:s[p3]?=some (RO Kp g)) (se:gv.Nodup) (YJ:gv.Perm Kp) :
  l_ (.tup [.tup (fF oth i j),.tup (keys b oth n0 n3)]) (.tup [.tup (fF oth i j),.tup (keys b oth p0 p3)]) s=.ok (.bl true) s:=by
 have K:eqT s 149 (.tup (keys b oth n0 n3)) (.tup (keys b oth p0 p3))=some true:=by
  show di (eqT s 148) _ _=_
  have m:eqT s 148 cO cO=some true:=pO (n:=2) (.tup _ _ (bx (.str _ _) (bx (.int _ _) (bx (.tup _ _ jT) jT)))) _ (by omega)
  cases oth with
  |false =>
   refine mL rfl λi x y hx hy=>?_
   match i with
   |0=>cases hx;cases hy;exact m
   |1=>cases hx;cases hy;exact CG h0 Kq pM Kr 142
   |i+2=>cases hx
  |true =>
   refine mL rfl λi x y hx hy=>?_
   match i with
   |0=>cases hx;cases hy;exact m
   |1=>cases hx;cases hy;exact CG h0 Kq pM Kr 142
   |2=>cases hx;cases hy;exact CG h3 JR se YJ 142
   |i+3=>cases hx
 have A:eqT s 150 (.tup [.tup (fF oth i j),.tup (keys b oth n0 n3)]) (.tup [.tup (fF oth i j),.tup (keys b oth p0 p3)])=some true:=by
  show di (eqT s 149) _ _=_
  refine mL rfl λi x y hx hy=>?_
  match i with
  |0=>cases hx;cases hy;exact pO (YG oth _ _) _ (by omega)
  |1=>cases hx;cases hy;exact K
  |i+2=>cases hx
 unfold l_
 rw [A]
def YK {fs:Ai}{gt:PV->zf->Option zf}{body:Ak}{e:zf}{s s0:aa}{X:Res Fl}(hf:fs e s=.ok [.int 4] s0) (h:forL gt body [nV 0,nV 1,nV 2,nV 3] e s0=X):yS (dz fs) gt body e s=X:=by
 rw [nv,AW,hf,zJ,show lY [PV.int 4] s0=_ from HJ 4 s0 (by decide),zJ,EM]
 exact h
theorem Ks:∀(ks:Ae) (j:Nat) (a:PV) (f:Str->Int),(dk j a ks f).length=ks.length
 |[],_,_,_=>rfl
 |_::ks,j,_,f=>by simp [dk,Ks ks]
def vq (t:Nat) (b st:Bool) (n d:Nat) (ks:Ae) (f:Str->Int):(turnL t b st n d ks f).length<=ks.length+1:=by
 cases st<;>simp [turnL,Ks]
def pick {α:Type}(a b c d:α):Nat->α
 |0=>a
 |1=>b
 |2=>c
 |_=>d
def CH {P:Nat->Prop}(h0:P 0) (h1:P 1) (h2:P 2) (h3:P 3):∀t,t<4->P t
 |0,_=>h0
 |1,_=>h1
 |2,_=>h2
 |3,_=>h3
section
variable {ns:List Int} {W:Nat->Str} {f0:Str->Int} {m kk o:Nat} {b:Bool}
def YL (w:Lw ns W f0) (hm:m<=5) (hk:kk<m) {c2:Int}(C2:∀st,jc [dN ns,.int 2] st=.ok (.int c2) st) (K2:∀st,ja (.int (wj c2 2)) (nV m) st=.ok (nV kk) st) (s:aa) :
  ∃st n d ks s',uA [dN ns,nV m,nV o,.bl b] s=.ok (.tup (j0 b st n d ks (fT W f0 kk o))) s'/\(∀t,st t=true->b=false)/\(∀t,t<4->s'[n t]?=some (RO (ks t) (fT W f0 kk o t)))/\(∀t,t<4->st t=true->s'[d t]?=some (.dic [] []))/\(∀t,t<4->(ks t).Perm ((List.range m).map W))/\(j0 b st n d ks (fT W f0 kk o)).length<=100/\Old s s':=by
 have e0:(s++[SO.lst []])[s.length]?=some (.lst []):=ye _ _
 have pl:∀{ks:Ae},ks.Perm ((List.range m).map W)->ks.length<=5:=λh=>by rw [h.length_eq];simpa using hm
 obtain ⟨cW,n0,d0,cX,s1,y7,y8,y9,ik,E1,l1,b1,r1,q1,u1,v1,p1,k1⟩:=vm (t:=0) (o:=o) (b:=b) (z7:=none) (z8:=none) (z9:=none) (z10:=none) w (by decide) hm hk C2 K2 e0 (by simp)
 have t0:=vq 0 b cW n0 d0 cX (fT W f0 kk o 0)
 have g0:=pl p1
 obtain ⟨ae,n1,d1,pP,s2,x7,x8,x9,YM,E2,l2,b2,r2,q2,u2,v2,p2,k2⟩:=vm (t:=1) (o:=o) (b:=b) (z7:=y7) (z8:=y8) (z9:=y9) (z10:=ik) w (by decide) hm hk C2 K2 l1 (by simp at t0 ⊢;omega)
 have t1:=vq 1 b ae n1 d1 pP (fT W f0 kk o 1)
 have g1:=pl p2
 obtain ⟨aQ,n2,d2,pQ,s3,w7,w8,w9,YN,E3,l3,b3,r3,q3,u3,v3,p3,k3⟩:=vm (t:=2) (o:=o) (b:=b) (z7:=x7) (z8:=x8) (z9:=x9) (z10:=YM) w (by decide) hm hk C2 K2 l2 (by simp at t0 t1 ⊢;omega)
 have t2:=vq 2 b aQ n2 d2 pQ (fT W f0 kk o 2)
 have g2:=pl p3
 obtain ⟨bq,n3,d3,gv,s4,a7,a8,a9,ZV,E4,l4,b4,r4,q4,u4,v4,p4,k4⟩:=vm (t:=3) (o:=o) (b:=b) (z7:=w7) (z8:=w8) (z9:=w9) (z10:=YN) w (by decide) hm hk C2 K2 l3 (by simp at t0 t1 t2 ⊢;omega)
 have t3:=vq 3 b bq n3 d3 gv (fT W f0 kk o 3)
 have g3:=pl p4
 have ek:[]++turnL 0 b cW n0 d0 cX (fT W f0 kk o 0)++turnL 1 b ae n1 d1 pP (fT W f0 kk o 1)++turnL 2 b aQ n2 d2 pQ (fT W f0 kk o 2)++turnL 3 b bq n3 d3 gv (fT W f0 kk o 3)=j0 b (pick cW ae aQ bq) (pick n0 n1 n2 n3) (pick d0 d1 d2 d3) (pick cX pP pQ gv) (fT W f0 kk o):=by
  generalize e0:turnL 0 b cW n0 d0 cX (fT W f0 kk o 0)=A0
  generalize e1:turnL 1 b ae n1 d1 pP (fT W f0 kk o 1)=A1
  generalize e2:turnL 2 b aQ n2 d2 pQ (fT W f0 kk o 2)=A2
  generalize e3:turnL 3 b bq n3 d3 gv (fT W f0 kk o 3)=A3
  show _=turnL 0 b cW n0 d0 cX (fT W f0 kk o 0)++(turnL 1 b ae n1 d1 pP (fT W f0 kk o 1)++(turnL 2 b aQ n2 d2 pQ (fT W f0 kk o 2)++turnL 3 b bq n3 d3 gv (fT W f0 kk o 3)))
  rw [e0,e1,e2,e3]
  simp
 rw [ek] at l4
 have N:∀{q:Nat},q≠s.length->q∉[s.length]:=λh=>by simpa using h
 refine ⟨pick cW ae aQ bq,pick n0 n1 n2 n3,pick d0 d1 d2 d3,pick cX pP pQ gv,s4,zZ rfl (zu (zQ (jm jS (by simp))) (zu (zQ rfl) (zu (YK (zF rfl) (yU rfl E1 (yU rfl E2 (yU rfl E3 (yU rfl E4 rfl))))) (zY (zy (zF (ze rfl)) (by rw [jC,ym l4])))))),?_,CH (k4 _ _ (N u1) (k3 _ _ (N u1) (k2 _ _ (N u1) r1))) (k4 _ _ (N u2) (k3 _ _ (N u2) r2)) (k4 _ _ (N u3) r3) r4,CH (P:=λt=>pick cW ae aQ bq t=true->s4[pick d0 d1 d2 d3 t]?=some (.dic [] [])) (λh=>k4 _ _ (N v1) (k3 _ _ (N v1) (k2 _ _ (N v1) (q1 h)))) (λh=>k4 _ _ (N v2) (k3 _ _ (N v2) (q2 h))) (λh=>k4 _ _ (N v3) (q3 h)) q4,CH p1 p2 p3 p4,?_,λq so e=>?_⟩
 ·intro t
  match t with
  |0=>exact b1
  |1=>exact b2
  |2=>exact b3
  |t+3=>exact b4
 ·rw [<-ek]
  simp only [List.nil_append,ww]
  simp only [ww] at t0 t1 t2 t3
  omega
 ·have hq:q≠s.length:=by have:=zR e;omega
  exact k4 _ _ (N hq) (k3 _ _ (N hq) (k2 _ _ (N hq) (k1 _ _ (N hq) (zT _ _ _ _ e))))
end
def YO:qN 0 = "q0" := by decide +kernel
def Kt:qN 1 = "q1" := by decide +kernel
def YQ:qN 2 = "q2" := by decide +kernel
def Ku:cN 3 = "c3" := by decide +kernel
def YR:(["x", "c0", "c1", "c2"]:Ae)=[nm 0,nm 1,nm 2,nm 3]:=by decide +kernel
def Kv (q:Str) (i:Int) (s:aa):uP [.str q,.int i] s=.ok (.tup [.str q,.tup [.str "x"],mJ i]) s:=by kernel_rfl
def YS {e:zf}{s:aa}{oth:Bool}{a n:Nat}(ha:s[a]?=some (.lst [.str (qN 1),.str (qN 1),.str (qN 1),.str (qN (if oth then 2 else 1))])) (hn:s[n]?=some (.lst [.str (nm 0),.str (nm 1),.str (nm 2),.str (nm 3)])) (e1:e[10]?=some (Av a)) (e2:e[11]?=some (Av n)) :
  ∃s1,(zt ji (zd (jk (dz (zd (At 4) zj)) (zI (zd (Au "call") (zd (zk yh (Au "c") (zt jR (zd (zc 0) zj))) (zd (zk zp (zc 11) (zc 0)) (zd (zI (zd (zI (zd (Au "of") (zd (zk zp (zc 12) (zc 0)) zj))) zj)) zj)))))) zj)) e s=.ok (.tup (ie oth)) s1/\Old s s1:=by
 obtain ⟨ys,s',C,hy,hs⟩:=VO (fe:=(zI (zd (Au "call") (zd (zk yh (Au "c") (zt jR (zd (zc 0) zj))) (zd (zk zp (zc 11) (zc 0)) (zd (zI (zd (zI (zd (Au "of") (zd (zk zp (zc 12) (zc 0)) zj))) zj)) zj)))))) (fs:=(zd (At 4) zj)) (env:=e) (st:=s) 4 (by decide) (zF rfl) (λi ys s'=>ys=(ie oth).take i/\s'=s) (λi ys s' hi ⟨h1,h2⟩=>by
  subst h2
  have A:∃q,([PV.str (qN 1),.str (qN 1),.str (qN 1),.str (qN (if oth then 2 else 1))])[i]?=some (.str q)/\([PV.str (nm 0),.str (nm 1),.str (nm 2),.str (nm 3)])[i]?=some (.str (nm i))/\(ie oth)[i]?=some (bf (cN i) q [aZ (nm i)]):=by
   match i,hi with
   |0,_=>exact ⟨_,rfl,rfl,rfl⟩
   |1,_=>exact ⟨_,rfl,rfl,rfl⟩
   |2,_=>exact ⟨_,rfl,rfl,rfl⟩
   |3,_=>exact ⟨_,rfl,rfl,rfl⟩
  obtain ⟨q,a1,a2,a3⟩:=A
  exact ⟨bf (cN i) q [aZ (nm i)],_,zP (jj rfl (zo rfl (zy (zF (ze rfl)) (sg (by omega) _)) (CB (by omega) _)) (zo (ze (by rw [List.getElem?_cons_succ];exact e1)) (ze rfl) (pH ha a1)) (zP (zF (zP (zD rfl (zo (ze (by rw [List.getElem?_cons_succ];exact e2)) (ze rfl) (pH hn a2))) (by simp))) (by simp))) (by simp),by rw [h1,iS a3],rfl⟩) ⟨rfl,rfl⟩
 subst hs
 have hy:ys=ie oth:=hy
 subst hy
 exact ⟨_,zy (zF C) u_,zT _ _⟩
def zxv (ns:List Int):∃st,HH [.frl (ns.map .int)] []=.ok (.bl true) st:=by
 obtain ⟨W,f0,w⟩:=Yk ns
 obtain ⟨c0,C0⟩:=mK ns 0
 have C0:∀st,jc [dN ns,.int 0] st=.ok (.int c0) st:=C0
 obtain ⟨c2,C2⟩:=mK ns 2
 have C2:∀st,jc [dN ns,.int 2] st=.ok (.int c2) st:=C2
 obtain ⟨c8,C8⟩:=mK ns 8
 have C8:∀st,jc [dN ns,.int 8] st=.ok (.int c8) st:=C8
 obtain ⟨c9,C9⟩:=mK ns 9
 have C9:∀st,jc [dN ns,.int 9] st=.ok (.int c9) st:=C9
 obtain ⟨a,ha,A⟩:=lC c0 (j:=4) (by decide)
 have A:∀st,ja (.int c0) (.int 4) st=.ok (nV a) st:=A
 obtain ⟨o,ho,O⟩:=lC c2 (j:=2) (by decide)
 have O:∀st,ja (.int c2) (.int 2) st=.ok (nV o) st:=O
 let m:=2+a
 obtain ⟨kk,hk,K2⟩:=lC (wj c2 2) (j:=m) (by omega)
 obtain ⟨j9,h9,J9⟩:=lC c9 (j:=m) (by omega)
 obtain ⟨r,hr,R⟩:=lC c8 (j:=190) (by decide)
 have R:∀st,ja (.int c8) (.int 190) st=.ok (nV r) st:=R
 have hm:m<=5:=by omega
 let b:Bool:=decide (wQ (wj c0 4) 3=1)
 have B:∀st,yx (.int (wQ (wj c0 4) 3)) (.int 1) st=.ok (.bl b) st:=λst=>uk _ _
 let oth:Bool:=decide (o=1)
 let f:Nat->Str->Int:=fT W f0 kk o
 let L:=2+o+r
 have W9:=w.wd.run j9 (by omega) ([]:aa)
 generalize hs0:([]:aa)++[SO.lst (five.map PV.str)]=s0 at W9
 obtain ⟨st,n,d,ks,s1,E1,b1,n1,d1,p1,l1,o1⟩:=YL (b:=b) (o:=o) w hm hk C2 K2 s0
 obtain ⟨s2,E2,o2⟩:=YE b (W j9) s1
 obtain ⟨Jo,t1,AM,YT⟩:=Yx (b:=b) (st:=st) (n:=n) (d:=d) (ks:=ks) (f:=f)
 obtain ⟨nu,AO⟩:=YB b (W j9)
 have lO:(f_ b (W j9)).length<=900:=by cases hb:b<;>simp [f_]
 have Kw:(j0 b st n d ks f).length<=900:=by show (j0 b st n d ks (fT W f0 kk o)).length<=900;omega
 obtain ⟨s3,E3,o3⟩:=Xq (Yw (b:=b) (st:=st) (n:=n) (d:=d) (ks:=ks) (f:=f)) AM YT Kw (YA b (W j9)) AO lO s2
 have BK:=XC (Yy (b:=b) (st:=st) (n:=n) (d:=d) (ks:=ks) (f:=f)) Yz Kw (by simp) (YC b (W j9)) YD lO (by simp) s3
 have gd:∀t,t<4->Gd (ks t) (f t):=λt ht=>Yl w hm (by omega) hk (p1 t ht)
 have ol:=o2.trans o3
 have F:f9 b oth st n d ks f s3.length s3:=by
  have e0:f 1=f 0:=rfl
  have e2:f 2=f 0:=rfl
  have pp:∀t,t<4->(ks t).Perm (ks 0):=λt ht=>(p1 t ht).trans (p1 0 (by decide)).symm
  refine ⟨gd,b1,λt ht=>⟨ol _ _ (n1 t ht),zR (ol _ _ (n1 t ht))⟩,λt ht h=>⟨ol _ _ (d1 t ht h),zR (ol _ _ (d1 t ht h))⟩,by rw [e0];exact B7 (pp 1 (by decide)),by rw [e2];exact B7 (pp 2 (by decide)),?_⟩
  by_cases h1:o=1
  ·rw [zx (show oth=true from jV h1)]
   intro h
   have h:=Wo h
   rw [Ir (pp 3 (by decide))] at h
   refine Wl (ks:=ks 0) (f:=f 0) (g:=f 3) (z:=W kk) (gd 0 (by decide)).nd ((p1 0 (by decide)).mem_iff.mpr (jI.mpr ⟨kk,wx.mpr hk,rfl⟩)) ?_ ?_ h.symm
   ·show f3 W f0 kk o (W kk)=f0 (W kk)+1
    unfold f3
    rw [zx rfl,h1];rfl
   ·intro k A7
    show f3 W f0 kk o k=f0 k
    unfold f3
    rw [zK A7]
  ·rw [zK (by show ¬oth=true;simp [oth,h1])]
   have e3:f 3=f 0:=by
    show f3 W f0 kk o=f0
    have h0:o=0:=by omega
    funext z
    unfold f3
    subst h0
    split<;>simp
   rw [e3]
   exact B7 (pp 3 (by decide))
 have hw:∀t,t<4->W j9∈ks t:=λt ht=>(p1 t ht).mem_iff.mpr (jI.mpr ⟨j9,wx.mpr h9,rfl⟩)
 have h3:3<=L\/(2<=L/\oth=false):=by
  by_cases h1:o=1
  ·left;show 3<=2+o+r;omega
  ·right;exact ⟨by show 2<=2+o+r;omega,jp h1⟩
 obtain ⟨n0,n3,s4,E4,r0,r3,o4⟩:=X_ (L:=L) (w:=W j9) F hw h3 (by show 2+o+r<=900;omega) BK
 obtain ⟨p0,s5,cX,E5,Ky,Kz,_,o5⟩:=Cz (t:=0) (o:=o) w hm hk C2 K2 s4
 obtain ⟨p3,s6,gv,E6,KA,KC,_,o6⟩:=Cz (t:=3) (o:=o) w hm hk C2 K2 s5
 have YU:qN (1+o)=qN (if oth then 2 else 1):=by
  by_cases h1:o=1
  ·rw [zx (show oth=true from jV h1),h1]
  ·rw [zK (by show ¬oth=true;simp [oth,h1])]
   have:o=0:=by omega
   rw [this]
 let s7:=s6++[SO.lst [.str "q1", .str "q1", .str "q1", .str (qN (1+o))]]
 have h7:s7[s6.length]?=some (.lst [.str (qN 1),.str (qN 1),.str (qN 1),.str (qN (if oth then 2 else 1))]):=by rw [<-YU,Kt];exact ye _ _
 have o7:Old s6 s7:=zT _ _
 let s8:=s7++[SO.lst ((["x", "c0", "c1", "c2"]:Ae).map PV.str)]
 have o8:Old s7 s8:=zT _ _
 have h8:s8[s7.length]?=some (.lst [.str (nm 0),.str (nm 1),.str (nm 2),.str (nm 3)]):=by
  have:=ye s7 (SO.lst ((["x", "c0", "c1", "c2"]:Ae).map PV.str))
  rw [YR] at this
  exact this
 let P:=PV.tup [mI b st n d ks f,pK b (W j9)]
 let FD:=PV.tup [.tup (fF oth (f 0 (W j9)) (f 3 (W j9))),.tup (keys b oth n0 n3)]
 let e9:Option PV->Option PV->Option PV->Option PV->Option PV->zf:=λz10 vh YV YW YX=>[some (dN ns),some (nV m),some (.bl b),some (nV o),some (.str (W j9)),some (mI b st n d ks f),some P,some FD,Av p0,Av p3,z10,vh,YV,YW,YX]
 obtain ⟨s9,E9,o9⟩:=YS (e:=e9 (Av s6.length) (Av s7.length) none none none) (o8 _ _ h7) h8 rfl rfl
 have KG:=o6.trans (o7.trans (o8.trans o9))
 have m0:W j9∈cX:=Kz.mem_iff.mpr (jI.mpr ⟨j9,wx.mpr h9,rfl⟩)
 have m3:W j9∈gv:=KC.mem_iff.mpr (jI.mpr ⟨j9,wx.mpr h9,rfl⟩)
 have I0:zp (.ref p0) (.str (W j9)) s9=.ok (.int (f 0 (W j9))) s9:=wu (KG _ _ Ky) (lh (g:=λk=>PV.int (f 0 k)) m0)
 let D0:PV:=.tup [.str "q0", .tup [.str "x"],.tup [.tup (ie oth),.tup [.str "give", .tup [.str "of", .str "c3"]]]]
 let D1:PV:=.tup [.str "q1", .tup [.str "x"],mJ (f 0 (W j9))]
 let D2:PV:=.tup [.str "q2", .tup [.str "x"],mJ (f 3 (W j9))]
 have KH:D0=pL oth:=by
  show PV.tup [.str "q0", .tup [.str "x"],cM (ie oth) (aV (aZ "c3"))]=PV.tup [.str (qN 0),.tup [.str "x"],cM (ie oth) (aV (aZ (cN 3)))]
  rw [YO,<-Ku]
 have KJ:D1=lB 1 (f 0 (W j9)):=by
  show PV.tup [.str "q1", .tup [.str "x"],mJ (f 0 (W j9))]=PV.tup [.str (qN 1),.tup [.str "x"],mJ (f 0 (W j9))]
  rw [Kt]
 have YY:D2=lB 2 (f 3 (W j9)):=by
  show PV.tup [.str "q2", .tup [.str "x"],mJ (f 3 (W j9))]=PV.tup [.str (qN 2),.tup [.str "x"],mJ (f 3 (W j9))]
  rw [YQ]
 let iZ:=s9++[SO.lst [D0,D1]]
 have vt:Old s9 iZ:=zT _ _
 let il:=iZ++[SO.lst [cO,bj "other" 2 [hV b p0]]]
 have sh:Old iZ il:=zT _ _
 have vv:il[s9.length]?=some (.lst [D0,D1]):=sh _ _ (ye _ _)
 have KL:il[iZ.length]?=some (.lst [cO,bj "other" 2 [hV b p0]]):=ye _ _
 have ZW:iZ.length=s9.length+1:=by simp [iZ]
 have vJ:=KG.trans (vt.trans sh)
 have I3:zp (.ref p3) (.str (W j9)) il=.ok (.int (f 3 (W j9))) il:=wu ((o7.trans (o8.trans (o9.trans (vt.trans sh)))) _ _ KA) (lh (g:=λk=>PV.int (f 3 k)) m3)
 have eP:PV.tup [.str "main", .tup [.str "x"],.tup [.tup (j0 b st n d ks f),.tup [.str "give", .tup [.str "of", .str "c3"]]]]=mI b st n d ks f:=by
  show PV.tup [.str "main", .tup [.str "x"],cM (j0 b st n d ks f) (aV (aZ "c3"))]=PV.tup [.str "main", .tup [.str "x"],cM (j0 b st n d ks f) (aV (aZ (cN 3)))]
  rw [<-Ku]
 have T5:(zI (zd (Au "main") (zd (zI (zd (Au "x") zj)) (zd (zI (zd (zt uA (zd (zc 0) (zd (zc 1) (zd (zc 3) (zd (zc 2) zj))))) (zd (zI (zd (Au "give") (zd (zI (zd (Au "of") (zd (Au "c3") zj))) zj))) zj))) zj)))) [some (dN ns),some (nV m),some (.bl b),some (nV o),some (.str (W j9)),none,none,none,none,none,none,none,none,none,none] s0=.ok (mI b st n d ks f) s1:=by
  rw [<-eP]
  exact zP (jE rfl (zP (zF rfl) (by simp)) (zP (zD (zy (jj (ze rfl) (ze rfl) (ze rfl) (ze rfl)) E1) (zP (zD rfl (zP (zD rfl rfl) (by simp))) (by simp))) (by simp))) (by simp)
 have PRE:∀{X:Res Fl},HF (e9 (Av s6.length) (Av s7.length) (some (.tup (ie oth))) (Av s9.length) (Av iZ.length)) il=X->HG [some (dN ns),none,none,none,none,none,none,none,none,none,none,none,none,none,none] []=X:=λh =>
  zu (zQ (zo rfl (zo (zy (zD (ze rfl) rfl) (C0 _)) rfl (A _)) (iT 2 a))) (zu (zQ (zo (zo (zo (zy (zD (ze rfl) rfl) (C0 _)) rfl (qZ _ _ (by decide) (by decide))) rfl (Bl _ _ (by decide))) rfl (B _))) (zu (zQ (zo (zy (zD (ze rfl) rfl) (C2 _)) rfl (O _))) (zu (zQ (zy (zD (ze rfl) (zo (zy (zD (ze rfl) rfl) (C9 _)) (ze rfl) (J9 _))) W9)) (zu (zQ T5) (zu (zQ (zP (zD (ze rfl) (zy (zD (ze rfl) (ze rfl)) E2)) (by simp))) (zu (zQ (zy (jj (ze rfl) (zy (jE (ze rfl) rfl (zP jS (by simp))) E3) (zP jS (by simp)) (zo (zo rfl (ze rfl) (iT 2 o)) (zo (zy (zD (ze rfl) rfl) (C8 _)) rfl (R _)) (iT (2+o) r))) E4)) (zu (zQ (zy (jj (ze rfl) rfl (ze rfl) (ze rfl)) E5)) (zu (zQ (zy (jj (ze rfl) rfl (ze rfl) (ze rfl)) E6)) (zu (zQ (jm (jj rfl rfl rfl (zo rfl (zy (zF (zo rfl (ze rfl) (iT 1 o))) (sg (by omega) _)) (Yo (by omega) _))) (by simp))) (zu (zQ (jm rfl (by simp))) (zu (zQ E9) (zu (zQ (jm (zD (zP (jE rfl (zP (zF rfl) (by simp)) (zP (zD (ze rfl) (zP (zD rfl (zP (zD rfl rfl) (by simp))) (by simp))) (by simp))) (by simp)) (zy (zD rfl (zo (ze rfl) (ze rfl) I0)) (Kv _ _ _))) (by simp))) (zu (zQ (jm (zD (zP (jE rfl rfl (zP jS (by simp))) (by simp)) (zP (jE rfl rfl (zP (zF (zy (zD (ze rfl) (ze rfl)) (vk b p0 _))) (by simp))) (by simp))) (by simp))) h)))))))))))))
 have pM:=(gd 0 (by decide)).nd
 have se:=(gd 3 (by decide)).nd
 have YZ:(ks 0).Perm cX:=(p1 0 (by decide)).trans Kz.symm
 have Y0:(ks 3).Perm gv:=(p1 3 (by decide)).trans KC.symm
 have EQ:∀{u:aa},Old s5 u->Old s6 u->Old s4 u->l_ FD (.tup [.tup (fF oth (f 0 (W j9)) (f 3 (W j9))),.tup (keys b oth p0 p3)]) u=.ok (.bl true) u:=λa5 a6 a4=>YI (a4 _ _ r0) (a5 _ _ Ky) pM YZ (a4 _ _ r3) (a6 _ _ KA) se Y0
 have KN:=o7.trans (o8.trans (o9.trans (vt.trans sh)))
 by_cases h1:o=1
 ·have ho:oth=true:=jV h1
  let u1:=il.set s9.length (.lst ([D0,D1]++[D2]))
  have k1:Kx [s9.length] il u1:=yL (by simp)
  have g1:u1[s9.length]?=some (.lst [D0,D1,D2]):=yp (zR vv)
  have g2:=k1 _ _ (by simp;omega) KL
  let u2:=u1.set iZ.length (.lst ([cO,bj "other" 2 [hV b p0]]++[bj "other" 2 [hV b p3]]))
  have k2:Kx [iZ.length] u1 u2:=yL (by simp)
  have Y1:=k2 _ _ (by simp;omega) g1
  have gq:u2[iZ.length]?=some (.lst [cO,bj "other" 2 [hV b p0],bj "other" 2 [hV b p3]]):=yp (zR g2)
  have q9:=o9.len
  have ou:Old s8 u2:=λq so e=>by
   have:=zR e
   exact k2 _ _ (by simp;omega) (k1 _ _ (by simp;omega) ((o9.trans (vt.trans sh)) _ _ e))
  have Q:=EQ (o6.trans (o7.trans (o8.trans ou))) (o7.trans (o8.trans ou)) (o5.trans (o6.trans (o7.trans (o8.trans ou))))
  have em:fF oth (f 0 (W j9)) (f 3 (W j9))=[D0,D1,D2]:=by rw [KH,KJ,YY,ho];rfl
  have ek:keys b oth p0 p3=[cO,bj "other" 2 [hV b p0],bj "other" 2 [hV b p3]]:=by rw [ho];rfl
  have Q':l_ FD (.tup [.tup [D0,D1,D2],.tup [cO,bj "other" 2 [hV b p0],bj "other" 2 [hV b p3]]]) u2=.ok (.bl true) u2:=by rw [<-em,<-ek];exact Q
  exact ⟨u2,zZ rfl (PRE (zu (jb (zU (zo (ze rfl) rfl (mn true (by simp;omega) _))) (zu (jD (jL (ze rfl) vv (zy (zD rfl (zo (ze rfl) (ze rfl) I3)) (Kv _ _ _)) (j4 vv (by simp)))) (jD (jL (ze rfl) g2 (zP (jE rfl rfl (zP (zF (zy (zD (ze rfl) (ze rfl)) (vk b p3 _))) (by simp))) (by simp)) (j4 g2 (by simp)))))) (zY (zo (ze rfl) (zP (zD (zy (zF (ze rfl)) (by rw [jC,ym Y1])) (zy (zF (ze rfl)) (by rw [jC,ym gq]))) (by simp)) Q'))))⟩
 ·have ho:oth=false:=jp h1
  have Q:=EQ vJ KN (o5.trans vJ)
  have em:fF oth (f 0 (W j9)) (f 3 (W j9))=[D0,D1]:=by rw [KH,KJ,ho];rfl
  have ek:keys b oth p0 p3=[cO,bj "other" 2 [hV b p0]]:=by rw [ho];rfl
  have Q':l_ FD (.tup [.tup [D0,D1],.tup [cO,bj "other" 2 [hV b p0]]]) il=.ok (.bl true) il:=by rw [<-em,<-ek];exact Q
  exact ⟨il,zZ rfl (PRE (zu (yj (zU (zo (ze rfl) rfl (mn false (by simp;omega) _)))) (zY (zo (ze rfl) (zP (zD (zy (zF (ze rfl)) (by rw [jC,ym vv])) (zy (zF (ze rfl)) (by rw [jC,ym KL]))) (by simp)) Q'))))⟩
end FK60
open PySem PySem.W PyProof.Rows
set_option maxHeartbeats 0
namespace PySem.W.Fast
def tw618225997170164062:=()
def tw15137673992901934365:=()
local macro_rules
|`(command|#print $s:str)=>do
 let c<-(s.getString.splitOn " ").toArray.flatMapM λw=>do
  let [p,a,b]:=w.splitOn "_"|Lean.Macro.throwUnsupported
  (Array.range (b.toNat!+1-a.toNat!)).mapM λk=>do
   let n:=Lean.mkIdent (.mkSimple s!"tw{((`hdT).str s!"{p}_{a.toNat!+k}").hash}")
   `(command|theorem $n : True := trivial)
 return Lean.mkNullNode c
#print "o_0_950 sts_0_950 view_0_950 tree_0_950 heap_0_950 env_0_950"
end PySem.W.Fast
open_top hdT for PySem.Challenge.rw_foreknown_k60_one_key_for_the_same
theorem uu1 {us:List PySem.Value}(h:us.length=1):∃a,us=[a]:=match us,h with|[a],_=>⟨a,rfl⟩
theorem uu2 {us:List PySem.Value}(h:us.length=2):∃a b,us=[a,b]:=match us,h with|[a,b],_=>⟨a,b,rfl⟩
theorem uu3 {us:List PySem.Value}(h:us.length=3):∃a b c,us=[a,b,c]:=match us,h with|[a,b,c],_=>⟨a,b,c,rfl⟩
theorem uu4 {us:List PySem.Value}(h:us.length=4):∃a b c d,us=[a,b,c,d]:=match us,h with|[a,b,c,d],_=>⟨a,b,c,d,rfl⟩
theorem uu5 {us:List PySem.Value}(h:us.length=5):∃a b c d e,us=[a,b,c,d,e]:=match us,h with|[a,b,c,d,e],_=>⟨a,b,c,d,e,rfl⟩
theorem PySem.Challenge.cw_foreknown_k60_one_key_for_the_same_holds : PySem.Challenge.rw_foreknown_k60_one_key_for_the_same.Holds :=
 hdT (by
 k_fill
 refine Mi.walkM (l:=PySem.Challenge.rw_foreknown_k60_one_key_for_the_same) (k:=18) (x := "_law_script") rfl rfl ⟨rfl,by decide,by decide⟩ (λw h Y=>PySem.W.kIn_of Y) ?F
 case F =>
  intro w mg fa h KX G hmg
  have c_MOST_PARTS:∃t,mg "MOST_PARTS" = some (.int 60 t):=by
   refine' Mi.zqG KX G ?a
   (case a=>k_is)
  have kd_OPS:∀X:L2.Cx,X.K=(L2.KOf KX)->X.mg=mg->X.w=w->Mi.KdF X "OPS" FK60.wq FK60.wt FK60.zfX:=by
   dsimp only [L2.KOf]
   refine' Mi.zqE KX G ?aO ?lO ?hk ?no ?hi
   (case aO|lO=>k_is)
   case hk =>
    repeat (refine ⟨⟨_,_,rfl,rfl⟩,?_⟩)
    exact trivial
   (case no=>first|rfl|decide)
   case hi =>
    simp only [FK60.wq,FK60.wt,List.zip_cons_cons,List.zip_nil_left]
    refine Mi.all_cons ?_ ?_
    ·refine' Mi.zij KX G ?e ?l1 ?l2 ?a
     (case e|l1|l2|a=>k_is)
    refine Mi.all_cons ?_ ?_
    ·refine' Mi.zij KX G ?e ?l1 ?l2 ?a
     (case e|l1|l2|a=>k_is)
    refine Mi.all_cons ?_ ?_
    ·refine' Mi.zrL KX G ?e ?l1 ?l2 ?a
     (case e|l1|l2|a=>k_is)
    exact Mi.zqD
  have T:FK60.Txt w (L2.KOf KX) mg:=by
   constructor
   case c_MOST_PARTS=>exact c_MOST_PARTS
   case kd_OPS=>exact kd_OPS
   all_goals first
    | (show Mi.MtF _ _ _ _ _ _ [_];dsimp only [L2.KOf];refine' Mi.zdE KX G ?aC ?pg ?hd ?po ?sa ?a ?i ?l ?c ?k ?b;(case aC|pg|hd|po|sa|a|i|l|c|k=>k_is);(case b=>exact λ_ _ _ _ _ _ us hl=>by obtain ⟨_,rfl⟩:=uu1 hl;rfl))
    | (show Mi.MtF _ _ _ _ _ _ [_,_];dsimp only [L2.KOf];refine' Mi.zdE KX G ?aC ?pg ?hd ?po ?sa ?a ?i ?l ?c ?k ?b;(case aC|pg|hd|po|sa|a|i|l|c|k=>k_is);(case b=>exact λ_ _ _ _ _ _ us hl=>by obtain ⟨_,_,rfl⟩:=uu2 hl;rfl))
    | (show Mi.MtF _ _ _ _ _ _ [_,_,_];dsimp only [L2.KOf];refine' Mi.zdE KX G ?aC ?pg ?hd ?po ?sa ?a ?i ?l ?c ?k ?b;(case aC|pg|hd|po|sa|a|i|l|c|k=>k_is);(case b=>exact λ_ _ _ _ _ _ us hl=>by obtain ⟨_,_,_,rfl⟩:=uu3 hl;rfl))
    | (show Mi.MtF _ _ _ _ _ _ [_,_,_,_];dsimp only [L2.KOf];refine' Mi.zdE KX G ?aC ?pg ?hd ?po ?sa ?a ?i ?l ?c ?k ?b;(case aC|pg|hd|po|sa|a|i|l|c|k=>k_is);(case b=>exact λ_ _ _ _ _ _ us hl=>by obtain ⟨_,_,_,_,rfl⟩:=uu4 hl;rfl))
    | (show Mi.NwF _ _ _ _ _ [_,_];dsimp only [L2.KOf];refine' Mi.zfq KX G ?aC ?mk ?kc ?a ?i ?l ?c ?k ?b;(case aC|mk|kc|a|i|l|c|k=>k_is);(case b=>exact λ_ _ _ _ _ _ us hl=>by obtain ⟨_,_,rfl⟩:=uu2 hl;rfl))
    | (show Mi.NwF _ _ _ _ _ [_,_,_];dsimp only [L2.KOf];refine' Mi.zfq KX G ?aC ?mk ?kc ?a ?i ?l ?c ?k ?b;(case aC|mk|kc|a|i|l|c|k=>k_is);(case b=>exact λ_ _ _ _ _ _ us hl=>by obtain ⟨_,_,_,rfl⟩:=uu3 hl;rfl))
    | (show Mi.NwF _ _ _ _ _ [_,_,_,_,_];dsimp only [L2.KOf];refine' Mi.zfq KX G ?aC ?mk ?kc ?a ?i ?l ?c ?k ?b;(case aC|mk|kc|a|i|l|c|k=>k_is);(case b=>exact λ_ _ _ _ _ _ us hl=>by obtain ⟨_,_,_,_,_,rfl⟩:=uu5 hl;rfl))
    | (show Mi.FldF _ _ _ _ _
       refine ⟨λc hc=>?_,λc hc=>?_⟩
       ·simp [FK60.insOf,or_assoc] at hc
        rcases hc with rfl|rfl|rfl|rfl|rfl|rfl
        all_goals
         dsimp only [L2.KOf]
         refine' Mi.zqC KX G ?aC ?pg ?hd ?po ?sa ?na
         (case aC|pg|hd|po|sa|na=>k_is)
       ·simp [FK60.excOf] at hc)
    | (show Mi.FnF _ _ _ _ [_];dsimp only [L2.KOf];refine' Mi.zcx KX G ?a ?l ?c ?k ?b;(case a|l|c|k=>k_is);(case b=>exact λ_ _ _ _ _ _ us hl=>by obtain ⟨_,rfl⟩:=uu1 hl;rfl))
    | (show Mi.FnF _ _ _ _ [_,_];dsimp only [L2.KOf];refine' Mi.zcx KX G ?a ?l ?c ?k ?b;(case a|l|c|k=>k_is);(case b=>exact λ_ _ _ _ _ _ us hl=>by obtain ⟨_,_,rfl⟩:=uu2 hl;rfl))
    | (show Mi.FnF _ _ _ _ [_,_,_];dsimp only [L2.KOf];refine' Mi.zcx KX G ?a ?l ?c ?k ?b;(case a|l|c|k=>k_is);(case b=>exact λ_ _ _ _ _ _ us hl=>by obtain ⟨_,_,_,rfl⟩:=uu3 hl;rfl))
    | (show Mi.FnF _ _ _ _ [_,_,_,_];dsimp only [L2.KOf];refine' Mi.zcx KX G ?a ?l ?c ?k ?b;(case a|l|c|k=>k_is);(case b=>exact λ_ _ _ _ _ _ us hl=>by obtain ⟨_,_,_,_,rfl⟩:=uu4 hl;rfl))
    | (show Mi.FnF _ _ _ _ [_,_,_,_,_];dsimp only [L2.KOf];refine' Mi.zcx KX G ?a ?l ?c ?k ?b;(case a|l|c|k=>k_is);(case b=>exact λ_ _ _ _ _ _ us hl=>by obtain ⟨_,_,_,_,_,rfl⟩:=uu5 hl;rfl))
    | (refine' Mi.zqH KX G ?a;case a=>k_is)
  exact Mi.zqF T.f_law hmg (λ_ _ _ _ _ _ _=>rfl) (λf fd F base=>FK60.zu1 T F) (λns _=>FK60.zxv ns))
