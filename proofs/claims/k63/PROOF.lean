import PyProof.Rows.All
import Wide.All
import OpenK.AllK
import Wide.FinOn
import Lean
import PyProof.EqAt
import PyProof.EqKinds
import PyProof.TupleCall
import PySem.Challenge.RW_foreknown_k63_faults_and_ifs_made
set_option Elab.async false
set_option linter.all false
set_option maxRecDepth 100000
noncomputable section
abbrev Aa:=PySem.Value->PySem.Shared->Prop
abbrev Ab:=PySem.Str->Option PySem.Value
abbrev Ac:=List (PySem.Addr×PySem.Obj)
abbrev Ad:=List PySem.Str
abbrev Ae:=List PySem.Addr
abbrev Af:=List PySem.Value
def zu:=@PySem.wpAny_bind
def yp:=@PySem.Heap.get?_push_of_some
def ye:=@PySem.wpAny_pure
def yt:=@PySem.Heap.lt_size
def y4:=@PySem.Heap.get?_push_size
def jy:=@PySem.wpAny_field
def oz:=@PySem.wpAny_call_entry
def iN:=@PySem.wpAny_newObj_type
def mD:=@PySem.wpAny_holding
def yY:=@PySem.wpAny_mono
def wL:=@PySem.Heap.get?_update_other
def oB:=@PySem.wpAny_truthy_bool
def jV:=@PySem.lookup_relabel_local
def yx:=@List.getElem?_eq_getElem
def yr:=@List.getElem?_set_ne
def yD:=@List.getElem?_eq_some_iff
def yZ:=@List.getElem?_set_self
def yo:=@Nat.le_refl
def y9:=@List.size_toArray
def ja:=@List.mem_cons_self
def jg:=@List.mem_cons_of_mem
def yR:=@List.mem_append_right
def jC:=@List.mem_append_left
def zw:=@if_pos
def zI:=@if_neg
def jv:=@List.mem_singleton
def y3:=@List.getElem?_map
def yE:=@List.mem_cons
def w9:=@List.drop_eq_getElem_cons
def jw:=@Nat.le_trans
def pW:=@List.getElem_mem
def iO:=@List.length_append
def jJ:=@Nat.zero_le
def kW:=@List.mem_of_getElem?
def jD:=@List.length_map
def wW:=@List.map_append
def jE:=@Nat.lt_of_lt_of_le
def iP:=@or_false
def yK:=@List.map_cons
def yO:=@Nat.ne_of_lt
def jZ:=@Bool.and_eq_true
def wq:=@List.mem_map
def yU:=@List.mem_append
def wM:=@List.length_cons
def wt:=@List.nodup_cons
def iQ:=@List.getElem?_append_left
def iR:=@List.getElem?_append_right
def yP:=@decide_eq_false
def jk:=@decide_eq_true
def pX:=@List.drop_of_length_le
def yL:=@List.lookup_cons
def oE:=@List.getElem?_eq_none
def mE:=@List.getElem?_eq_none_iff
def j6:=@List.append_assoc
def oF:=@List.mem_range
def iS:=@decide_eq_true_eq
def yz:=@Ne.symm
def jW:=@Nat.lt_succ_self
namespace L2
open PySem PySem.Spec PyProof.Rows
abbrev Key:=Sum Int Str
def fC:Key->Value->Bool
 |.inl k,v=>Value.isInt k v
 |.inr x,v=>Value.isStrOf x v
def CA (w:World):Key->Int
 |.inl k=>hashInt k
 |.inr x=>hashStr w x
def hV:∀{k:Key}{v:Value},fC k v=true->(∃i t,k=Sum.inl i/\v=Value.int i t)\/(∃x t,k=Sum.inr x/\v=Value.str x t)
 |.inl i,v,h=>by
  obtain ⟨t,e⟩:=Value.isInt_shape (k:=i) (v:=v) h
  exact .inl ⟨i,t,rfl,e⟩
 |.inr x,v,h=>by
  obtain ⟨t,e⟩:=Value.isStrOf_shape (x:=x) (v:=v) h
  exact .inr ⟨x,t,rfl,e⟩
def Kb (i:Int) (t:Tok):fC (.inl i) (.int i t)=true:=by simp [fC,Value.isInt]
def Kc (x:Str) (t:Tok):fC (.inr x) (.str x t)=true:=by simp [fC,Value.isStrOf]
def Kd (a b:Int):decide ((Sum.inl a:Key)=Sum.inl b)=(a==b):=by
 by_cases e:a=b
 ·subst e;simp
 ·have h:¬(Sum.inl a:Key)=Sum.inl b:=λq=>e (Sum.inl.inj q)
  rw [yP h]
  exact (beq_eq_false_iff_ne.mpr e).symm
def Ke (a b:Str):decide ((Sum.inr a:Key)=Sum.inr b)=decide (a=b):=by
 by_cases e:a=b
 ·subst e;simp
 ·have h:¬(Sum.inr a:Key)=Sum.inr b:=λq=>e (Sum.inr.inj q)
  rw [yP h,yP e]
def Kf (a:Int) (b:Str):decide ((Sum.inl a:Key)=Sum.inr b)=false:=yP (λq=>nomatch q)
def Kg (a:Str) (b:Int):decide ((Sum.inr a:Key)=Sum.inl b)=false:=yP (λq=>nomatch q)
def aX (prog:Program) (w:World):PySem.KeyKind prog w Key where
 is:=fC
 hash:=CA w
 inj:=λv a b ha hb=>by
  rcases hV ha with ⟨i,t,rfl,rfl⟩|⟨x,t,rfl,rfl⟩
  ·rcases hV hb with ⟨j,u,rfl,e⟩|⟨y,u,rfl,e⟩
   ·injection e with e1 _;rw [e1]
   ·exact nomatch e
  ·rcases hV hb with ⟨j,u,rfl,e⟩|⟨y,u,rfl,e⟩
   ·exact nomatch e
   ·injection e with e1 _;rw [e1]
 byValue:=λk v h=>by
  rcases hV h with ⟨i,t,rfl,rfl⟩|⟨x,t,rfl,rfl⟩<;>rfl
 pyHash:=λhv h=>by
  rcases hV hv with ⟨i,t,rfl,rfl⟩|⟨x,t,rfl,rfl⟩
  ·exact wpAny_pyHash_int h
  ·exact wpAny_pyHash_str h
 eqBool:=λhu hv h=>by
  rcases hV hu with ⟨i,t,rfl,rfl⟩|⟨x,t,rfl,rfl⟩
  ·rcases hV hv with ⟨j,u,rfl,rfl⟩|⟨y,u,rfl,rfl⟩
   ·rw [Kd] at h;exact wpAny_eqBool_int h
   ·rw [Kf] at h;exact SeqAt.EqAt.int_str i t y u _ _ _ _ h
  ·rcases hV hv with ⟨j,u,rfl,rfl⟩|⟨y,u,rfl,rfl⟩
   ·rw [Kg] at h;exact SeqAt.EqAt.str_int x t j u _ _ _ _ h
   ·rw [Ke] at h;exact wpAny_eqBool_str h
 «strs» := λk x t v h=>by
  rcases hV h with ⟨i,u,rfl,e⟩|⟨y,u,rfl,e⟩
  ·exact nomatch e
  ·injection e with e1 _
   subst e1
   cases v<;>rfl
def Kh (prog:Program) (w:World) (i:Int) (t:Tok):(aX prog w).is (.inl i) (.int i t)=true:=Kb i t
def Ki (prog:Program) (w:World) (x:Str) (t:Tok):(aX prog w).is (.inr x) (.str x t)=true:=Kc x t
inductive V where
 |non|bl (b:Bool)|int (i:Int)|str (x:Str)|byt (b:Array UInt8)|flt (b:UInt64)|ref (a:Addr)|ty (n:String)
 deriving DecidableEq
def RelV:V->Value->Prop
 |.non,u=>u=Value.none
 |.bl b,u=>u=Value.bool b
 |.int i,u=>∃t,u=Value.int i t
 |.str x,u=>∃t,u=Value.str x t
 |.byt b,u=>∃t,u=Value.bytes b t
 |.flt b,u=>∃t,u=Value.float b t
 |.ref a,u=>u=Value.ref a
 |.ty n,u=>u=Value.type n
abbrev Vals:List V->List Value->Prop:=Paired RelV
def Vals.length {xs:List V}{us:Af}(r:Vals xs us):xs.length=us.length:=Paired.length r
theorem Vals.get:∀{xs:List V}{us:Af}{i:Nat}{x:V},Vals xs us->xs[i]?=some x->∃u,us[i]?=some u/\RelV x u
 |_,_,_,_,.nil,e=>by simp at e
 |_,_,0,_,.cons r _,e=>by simp at e;subst e;exact ⟨_,rfl,r⟩
 |_,_,i+1,x,.cons _ t,e=>by
  obtain ⟨u,h1,h2⟩:=Vals.get (i:=i) (x:=x) t (by simpa using e)
  exact ⟨u,by simpa using h1,h2⟩
theorem Vals.append:∀{xs ys:List V}{us ws:Af},Vals xs us->Vals ys ws->Vals (xs++ys) (us++ws)
 |_,_,_,_,.nil,s=>s
 |_,_,_,_,.cons r t,s=>.cons r (Vals.append t s)
theorem Vals.take:∀{xs:List V}{us:Af}(n:Nat),Vals xs us->Vals (xs.take n) (us.take n)
 |_,_,0,_=>.nil
 |_,_,_+1,.nil=>.nil
 |_,_,n+1,.cons r t=>.cons r (Vals.take n t)
theorem Vals.drop:∀{xs:List V}{us:Af}(n:Nat),Vals xs us->Vals (xs.drop n) (us.drop n)
 |_,_,0,r=>r
 |_,_,_+1,.nil=>.nil
 |_,_,n+1,.cons _ t=>Vals.drop n t
def cK:Option V->Option Value->Prop
 |some v,some u=>RelV v u
 |none,none=>True
 |_,_=>False
def KV {κ:Type}:List (κ×V)->List (κ×Value)->Prop:=Paired λ(p:κ×V) (q:κ×Value)=>p.1=q.1/\RelV p.2 q.2
def kV:Key->V
 |.inl i=>.int i
 |.inr x=>.str x
inductive HO where
 |lst (xs:List V)
 |tup (xs:List V)
 |dK (kvs:List (Key×V))|dT (kvs:List (List Key×V))
 |set (S:Int->Bool) (n:Nat)
 |ins (C dx:Addr) (fs:List (Str×V))
 |own (x:Addr)
 |xd (fs:List (Str×V))
 |met (f x:Addr)
 |rng (lo hi:Int)
 |frz (o:Obj) (u:HO)
 |tbl (ps:Array Value)
 |ext (φ:Program->World->Heap->Prop)
abbrev Hp:=Addr->Option HO
def upd (H:Hp) (a:Addr) (o:HO):Hp:=λb=>if b=a then some o else H b
def yN {H:Hp}{a:Addr}{o:HO}:upd H a o a=some o:=by unfold upd;rw [zw rfl]
def yi {H:Hp}{a b:Addr}{o:HO}(h:b≠a):upd H a o b=H b:=by unfold upd;rw [zI h]
def Kj {H:Hp}{a:Addr}{o u:HO}:upd (upd H a o) a u=upd H a u:=by
 funext b;unfold upd;split<;>rfl
def Kk {H:Hp}{a b:Addr}{o u:HO}(h:H a=some o) (h':H b=some u) (d:o≠u):a≠b:=by
 intro e;subst e;rw [h] at h';exact d (Option.some.inj h')
def hW {H:Hp}{a b:Addr}{o:HO}(h:H a=some o) (h':H b=none):a≠b:=by
 intro e;subst e;rw [h] at h';cases h'
section
variable (P:Program) (w:World)
def aW (H:Hp) (h:Heap) (a:Addr):HO->Prop
 |.lst xs=>xs.length<=sizeLine/\∃(its:Af) (n:Nat),Vals xs its/\h.get? a=some { cls:=.type "list", data:=.seq its.toArray n }
 |.tup xs=>xs.length<=sizeLine/\∃its:Af,Vals xs its/\IsTup h a its.toArray
 |.dK kvs=>kvs.length<=sizeLine/\(a==sysModules)=false/\∃vs,KV kvs vs/\h.DictOf (aX P w) a vs
 |.dT kvs=>kvs.length<=sizeLine/\(a==sysModules)=false/\∃xs:List (List Key×Addr×Value),
   Paired (λ(p:List Key×V) (q:List Key×Addr×Value)=>p.1=q.1/\H q.2.1=some (.tup (p.1.map kV))/\RelV p.2 q.2.2) kvs xs /\
   ∃o es ep,h.get? a=some o/\o.ExactDict/\o.data=.dict es ep/\es.toList=xs.map (entryOfKey (tupleKind (aX P w)))/\(xs.map (·.1)).Nodup
 |.set S n=>h.SetOf (intKind P w) a S n
 |.ins C dx fs=>H dx=some (.own a)/\fs.length<=1000/\dx≠a/\h.get? a=some (PySem.W.instObj C dx) /\
   ∃mA,h.Ns1 dx mA/\(∀f,cK (fs.lookup f) (mA f))/\PySem.Within mA (fs.map (·.1))
 |.own _=>∃o,h.get? a=some o
 |.xd fs=>∃mA,h.Ns1 a mA/\∀f,cK (fs.lookup f) (mA f)
 |.rng lo hi=>∃t u v,h.get? a=some { cls:=.type "range", data:=.fields #[.int lo t,.int hi u,.int 1 v] }
 |.frz o u=>h.get? a=some o/\aW H h a u
 |.tbl ps=>h.get? a=some { cls:=.none,data:=.fields ps }
 |.met f x=>h.get? a=some (PySem.W.methodObj (.ref f) (.ref x))
 |.ext φ=>φ P w h/\(∃o,h.get? a=some o)/\∀h1 h2:Heap,φ P w h1->(∀o,h1.get? a=some o->h2.get? a=some o)->φ P w h2
def cu (H:Hp) (h:Heap):Prop:=∀a o,H a=some o->aW P w H h a o
end
section
variable {P:Program} {w:World} {H H':Hp} {h h':Heap} {a:Addr} {o:HO}
def aW.lt (x:aW P w H h a o):a<h.objs.size:=by
 cases o with
 |lst xs=>obtain ⟨_,_,_,_,e⟩:=x;exact yt e
 |tup xs=>obtain ⟨_,_,_,p⟩:=x;exact p.lt
 |dK kvs=>obtain ⟨_,_,_,_,o,_,_,e,_⟩:=x;exact yt e
 |dT kvs=>obtain ⟨_,_,_,_,o,_,_,e,_⟩:=x;exact yt e
 |set S n=>obtain ⟨o,_,_,_,e,_⟩:=x;exact yt e
 |ins C dx fs=>obtain ⟨_,_,_,e,_⟩:=x;exact yt e
 |own y=>obtain ⟨_,e⟩:=x;exact yt e
 |xd fs=>obtain ⟨_,⟨_,_,_,e,_⟩,_⟩:=x;exact yt e
 |rng lo hi=>obtain ⟨_,_,_,e⟩:=x;exact yt e
 |frz ob u=>obtain ⟨e,_⟩:=x;exact yt e
 |tbl ps=>exact yt (show h.get? a=some _ from x)
 |met f y=>exact yt (show h.get? a=some _ from x)
 |ext φ=>obtain ⟨_,⟨_,e⟩,_⟩:=x;exact yt e
theorem Paired.mapP {α β:Type}{F G:α->β->Prop}:∀{aI:List α}{aJ:List β},Paired F aI aJ->(∀a b,F a b->G a b)->Paired G aI aJ
 |_,_,.nil,_=>.nil
 |_,_,.cons r t,f=>.cons (f _ _ r) (Paired.mapP t f)
def aW.stay (x:aW P w H h a o) (k:∀b u,(b=a\/H b=some (.own a))->h.get? b=some u->h'.get? b=some u)
  (ho:∀b,H b=some (.own a)->H' b=some (.own a)) (ht:∀b xs,H b=some (.tup xs)->H' b=some (.tup xs)):aW P w H' h' a o:=by
 induction o with
 |lst xs=>obtain ⟨z,its,n,r,e⟩:=x;exact ⟨z,its,n,r,k _ _ (.inl rfl) e⟩
 |tup xs=>obtain ⟨z,its,r,ob,e,c⟩:=x;exact ⟨z,its,r,ob,k _ _ (.inl rfl) e,c⟩
 |dK kvs=>obtain ⟨z,y,vs,r,ob,es,ep,e,c⟩:=x;exact ⟨z,y,vs,r,ob,es,ep,k _ _ (.inl rfl) e,c⟩
 |dT kvs =>
  obtain ⟨z,y,xs,r,ob,es,ep,e,c⟩:=x
  exact ⟨z,y,xs,Paired.mapP r λp q z=>⟨z.1,ht _ _ z.2.1,z.2.2⟩,ob,es,ep,k _ _ (.inl rfl) e,c⟩
 |set S n=>obtain ⟨ob,es,ep,t,e,c⟩:=x;exact ⟨ob,es,ep,t,k _ _ (.inl rfl) e,c⟩
 |ins C dx fs =>
  obtain ⟨d,z,ne,e,mA,⟨od,es,ep,e2,c⟩,r⟩:=x
  exact ⟨ho _ d,z,ne,k _ _ (.inl rfl) e,mA,⟨od,es,ep,k _ _ (.inr d) e2,c⟩,r⟩
 |own y=>obtain ⟨ob,e⟩:=x;exact ⟨ob,k _ _ (.inl rfl) e⟩
 |xd fs=>obtain ⟨mA,⟨od,es,ep,e,c⟩,r⟩:=x;exact ⟨mA,⟨od,es,ep,k _ _ (.inl rfl) e,c⟩,r⟩
 |rng lo hi=>obtain ⟨t,u,v,e⟩:=x;exact ⟨t,u,v,k _ _ (.inl rfl) e⟩
 |frz ob u ih=>obtain ⟨e,q⟩:=x;exact ⟨k _ _ (.inl rfl) e,ih q⟩
 |tbl ps =>
  have e:h.get? a=some { cls:=.none,data:=.fields ps }:=x
  show h'.get? a=some { cls:=.none,data:=.fields ps }
  exact k a _ (.inl rfl) e
 |met f y =>
  have e:h.get? a=some (PySem.W.methodObj (.ref f) (.ref y)):=x
  show h'.get? a=some (PySem.W.methodObj (.ref f) (.ref y))
  exact k a _ (.inl rfl) e
 |ext φ=>obtain ⟨p,⟨o,e⟩,st⟩:=x;exact ⟨st _ _ p λo q=>k _ _ (.inl rfl) q,⟨o,k _ _ (.inl rfl) e⟩,st⟩
def cu.lt (x:cu P w H h) (e:H a=some o):a<h.objs.size:=(x a o e).lt
def cu.fresh (x:cu P w H h) (e:h.objs.size<=a):H a=none:=by
 cases q:H a with
 |none=>rfl
 |some u=>exact absurd (jE (x.lt q) e) (Nat.lt_irrefl _)
def cu.kept (x:cu P w H h) (k:∀b u,h.get? b=some u->h'.get? b=some u):cu P w H h':=λa o e =>
 (x a o e).stay (λb u _ q=>k b u q) (λ_ q=>q) λ_ _ q=>q
def cu.laid (x:cu P w H h) (k:∀b u,h.get? b=some u->h'.get? b=some u) (hp:h.objs.size<=a) (new:aW P w (upd H a o) h' a o):cu P w (upd H a o) h':=λb u e=>by
 have hn:=x.fresh hp
 by_cases hb:b=a
 ·subst hb;rw [yN] at e;cases e;exact new
 ·rw [yi hb] at e
  exact (x b u e).stay (λc v _ q=>k c v q) (λc q=>by rw [yi (hW q hn)];exact q) λc xs q=>by rw [yi (hW q hn)];exact q
end
def Rd (H:Hp) (a:Addr) (u:HO):Prop:=H a=some u\/∃o,H a=some (.frz o u)
def Rd.ok {P:Program}{w:World}{H:Hp}{h:Heap}{a:Addr}{u:HO}(r:Rd H a u) (x:cu P w H h):aW P w H h a u:=by
 rcases r with r|⟨o,r⟩
 ·exact x a u r
 ·obtain ⟨_,q⟩:=x a _ r
  exact q
def pY:Option HO->Prop
 |some (.lst _)=>True
 |some (.dK _)=>True
 |some (.dT _)=>True
 |some (.set _ _)=>True
 |some (.ins _ _ _)=>True
 |some (.ext _)=>True
 |_=>False
section
variable {P:Program} {w:World} {H:Hp} {h h':Heap} {x e:Addr} {o':HO}
def cu.write (ok:cu P w H h) (mu:pY (H x)) (he:e=x\/H e=some (.own x)) (k:∀b u,b≠e->h.get? b=some u->h'.get? b=some u) (oG:∃u,h'.get? e=some u)
  (new:aW P w (upd H x o') h' x o'):cu P w (upd H x o') h':=λb u q=>by
 have nown:∀c y,H c=some (.own y)->c≠x:=λc y r z=>by subst z;rw [r] at mu;exact mu
 have CB:∀c xs,H c=some (.tup xs)->c≠x:=λc xs r z=>by subst z;rw [r] at mu;exact mu
 by_cases hb:b=x
 ·subst hb;rw [yN] at q;cases q;exact new
 ·rw [yi hb] at q
  by_cases hbe:b=e
  ·have q':H b=some (.own x):=by
    rcases he with z|z
    ·exact absurd (hbe.trans z) hb
    ·rw [hbe];exact z
   rw [q] at q';cases q'
   obtain ⟨v,hv⟩:=oG
   exact ⟨v,by rw [hbe];exact hv⟩
  ·refine (ok b u q).stay (λc v hc r=>k c v ?_ r) (λc r=>by rw [yi (nown c b r)];exact r) λc xs r=>by rw [yi (CB c xs r)];exact r
   rcases hc with rfl|hc
   ·exact hbe
   ·rintro rfl
    rcases he with z|z
    ·exact nown c b hc z
    ·rw [hc] at z;cases z;exact hb rfl
end
structure Un (fs ex:Ae) (H H':Hp) (h h':Heap):Prop where
 keep:∀b o,h.get? b=some o->H b=none->b∉fs->b∉ex->h'.get? b=some o
 slot:∀b o,h.get? b=some o->H b=none->b∈fs->b∉ex->∃sl,h'.get? b=some { o with slots:=sl }
 free:∀b o,h.get? b=some o->H b=none->b∉ex->H' b=none
 there:∀b o,h.get? b=some o->b∉ex->∃o',h'.get? b=some o'
 tups:∀b xs,H b=some (.tup xs)->H' b=some (.tup xs)
 frzs:∀b o u,H b=some (.frz o u)->H' b=some (.frz o u)
 tbls:∀b ps,H b=some (.tbl ps)->∃more,H' b=some (.tbl (ps++more))
section
variable {fs ex:Ae} {H H1 H2:Hp} {h h1 h2 h':Heap} {a x e:Addr} {o:HO}
def Un.any (u:Un fs ex H H1 h h1) {b:Addr}{ob:Obj}(q:h.get? b=some ob) (n:H b=none) (hx:b∉ex):∃sl,h1.get? b=some { ob with slots:=sl }:=by
 by_cases hb:b∈fs
 ·exact u.slot b ob q n hb hx
 ·exact ⟨ob.slots,u.keep b ob q n hb hx⟩
def Un.trans (a:Un fs ex H H1 h h1) (b:Un fs ex H1 H2 h1 h2):Un fs ex H H2 h h2 where
 keep:=λc ob q n hc hx=>b.keep c ob (a.keep c ob q n hc hx) (a.free c ob q n hx) hc hx
 slot:=λc ob q n hc hx=>by
  obtain ⟨sl,e1⟩:=a.slot c ob q n hc hx
  obtain ⟨sH,e2⟩:=b.slot c _ e1 (a.free c ob q n hx) hc hx
  exact ⟨sH,e2⟩
 free:=λc ob q n hx=>by
  obtain ⟨o',e1⟩:=a.there c ob q hx
  exact b.free c o' e1 (a.free c ob q n hx) hx
 there:=λc ob q hx=>by
  obtain ⟨o',e1⟩:=a.there c ob q hx
  exact b.there c o' e1 hx
 tups:=λc xs q=>b.tups c xs (a.tups c xs q)
 frzs:=λc ob xs q=>b.frzs c ob xs (a.frzs c ob xs q)
 tbls:=λc ps q=>by
  obtain ⟨m1,e1⟩:=a.tbls c ps q
  obtain ⟨m2,e2⟩:=b.tbls c _ e1
  exact ⟨m1++m2,by rw [e2,Array.append_assoc]⟩
def Un.kept (k:∀b u,h.get? b=some u->h'.get? b=some u):Un fs ex H H h h' :=
 ⟨λb ob q _ _ _=>k b ob q,λb ob q _ _ _=>⟨ob.slots,k b ob q⟩,λ_ _ _ n _=>n,λb ob q _=>⟨ob,k b ob q⟩,λ_ _ q=>q,λ_ _ _ q=>q,λ_ ps q=>⟨#[],by rw [q];simp⟩⟩
def Un.refl:Un fs ex H H h h:=Un.kept λ_ _ q=>q
def Un.laid (k:∀b u,h.get? b=some u->h'.get? b=some u) (hp:h.objs.size<=a) (hn:H a=none):Un fs ex H (upd H a o) h h' where
 keep:=λb u q _ _ _=>k b u q
 slot:=λb u q _ _ _=>⟨u.slots,k b u q⟩
 free:=λb u q n _=>by rw [yi (yO (jE (yt q) hp))];exact n
 there:=λb u q _=>⟨u,k b u q⟩
 tups:=λb xs q=>by rw [yi (hW q hn)];exact q
 frzs:=λb u xs q=>by rw [yi (hW q hn)];exact q
 tbls:=λb ps q=>⟨#[],by rw [yi (hW q hn),q];simp⟩
def Un.write (mu:pY (H x)) (he:e=x\/H e=some (.own x)) (k:∀b u,b≠e->h.get? b=some u->h'.get? b=some u) (oG:∃u,h'.get? e=some u):Un fs ex H (upd H x o) h h':=by
 have hx:∀b,H b=none->b≠x:=λb n z=>by subst z;rw [n] at mu;exact mu
 have hb:∀b,H b=none->b≠e:=λb n z=>by
  subst z
  rcases he with r|r
  ·exact hx b n r
  ·rw [n] at r;cases r
 have hm:∀b u,H b=some u->¬pY (some u)->b≠x:=λb u q nm z=>by subst z;rw [q] at mu;exact nm mu
 refine ⟨λb u q n _ _=>k b u (hb b n) q,λb u q n _ _=>⟨u.slots,k b u (hb b n) q⟩,λb u q n _=>by rw [yi (hx b n)];exact n,λb u q _=>?_,
  λb xs q=>by rw [yi (hm b _ q λz=>z)];exact q,λb u xs q=>by rw [yi (hm b _ q λz=>z)];exact q,λb ps q=>⟨#[],by rw [yi (hm b _ q λz=>z),q];simp⟩⟩
 by_cases hbe:b=e
 ·subst hbe;exact oG
 ·exact ⟨u,k b u hbe q⟩
end
def sI (h:Heap) (H:Hp):Ae:=(List.range h.objs.size).filter λa=>(H a).isSome
def fN (h:Heap) (H:Hp):Heap:=PySem.W.hideAll h (sI h H)
def Km (h:Heap) (H:Hp):(fN h H).objs.size=h.objs.size:=PySem.W.hideAll_size _ _
def Ko {h:Heap}{H:Hp}{b:Addr}{o:Obj}(e:h.get? b=some o) (n:H b=none):(fN h H).get? b=some o :=
 PySem.W.hideAll_get _ e λhm=>by
  have q:(H b).isSome=true:=(List.mem_filter.mp hm).2
  rw [n] at q;simp at q
def Kp {h:Heap}{H:Hp}{b:Addr}{o:Obj}(e:(fN h H).get? b=some o):h.get? b=some o/\H b=none:=by
 have e':h.get? b=some o:=PySem.W.of_hideAll (sI h H) e
 refine ⟨e',?_⟩
 cases q:H b with
 |none=>rfl
 |some x =>
  have hm:b∈sI h H:=List.mem_filter.mpr ⟨oF.mpr (yt e'),by simp [q]⟩
  have z:(fN h H).get? b=none:=PySem.W.hideAll_none (sI h H) hm
  rw [z] at e;cases e
def pZ (g h:Heap) (L:Addr):Ac:=(List.range h.objs.size).filterMap λa=>if a=L\/(g.get? a).isSome=true then none else (h.get? a).map λo=>(a,o)
def rest (g h:Heap) (L d:Addr):Ac:=(pZ g h L).filter λp=>decide (p.1≠d)
structure Mod (K:PySem.W.Frag) (mg:Ab) (base:Heap):Prop where
 kin:K.In base
 glob:base.Ns mainGlobals mg
 blt:∃mb,base.Ns builtinsNs mb/\∀x:Str,x ≠ "__name__" -> mb x=bootBuiltins x
 nolimit:base.NoLimit
structure Cx where
 prog:Program
 w:World
 K:PySem.W.Frag
 mg:Ab
 base:Heap
 A:Around
 N:Ad
 s₀:Shared
 H₀:Hp
 env:Env
 outer:List Env
 stack:List Env
 ex:Ae
 fn:Str->Bool
 calm:Bool
 pn:Ac
 xe:Aa
def dr (l:List Env):Ae:=l.filterMap (·.frame)
abbrev Cx.fs (X:Cx):Ae:=dr X.outer
def p5 (sc:Scope) (x:Str):Prop:=sc.names.lookup x=some .local\/sc.names.lookup x=some .cell\/sc.names.lookup x=some .free
def Loc (sc:Scope) (x:Str):Prop:=sc.names.lookup x=some .local\/sc.names.lookup x=some .cell
def Look (env:Env) (h:Heap) (m:Ab) (x:Str) (u:Value):Prop :=
 (env.kindOf x=some .local/\m x=some u)\/((env.kindOf x=some .cell\/env.kindOf x=some .free)/\∃c,env.cells.lookup x=some c/\h.IsCell c (some u))
structure Cx.Ok (X:Cx):Prop where
 mod:Mod X.K X.mg X.base
 kind:X.env.scope.kind=.function
 glob:X.env.globals=mainGlobals
 blt:X.env.builtins=builtinsNs
 above:X.s₀.heap.objs.size<=X.env.locals
 inj:∀x y c,X.env.cells.lookup x=some c->X.env.cells.lookup y=some c->x=y
 has:∀x,(X.env.kindOf x=some .cell\/X.env.kindOf x=some .free)->∃c,X.env.cells.lookup x=some c
 cab:∀x c,X.fn x=true->X.env.cells.lookup x=some c->X.s₀.heap.objs.size<=c
 hd:X.calm=true->X.A.handled=none
 frames:X.A.frames=some X.stack
 stk:X.stack=X.outer\/(X.stack=X.env::X.outer/\X.env.frame=some X.env.locals)
 exf:∀b∈X.ex,b≠X.env.locals/\∀x c,X.env.cells.lookup x=some c->c≠b
 bs:∀b o,X.base.get? b=some o->X.s₀.heap.get? b=some o/\X.H₀ b=none
 bsz:X.base.objs.size<=X.s₀.heap.objs.size
 noex:∀b o,X.base.get? b=some o->b∉X.ex
 exfs:∀b∈X.ex,b∉X.fs
 funs:X.s₀.heap.FunFrames X.base X.outer
 frf:∀b∈X.fs,X.H₀ b=none
structure Inv (X:Cx) (pins:Ac) (U:List (Option V)) (H:Hp) (s:Shared):Prop where
 ok:X.Ok
 os:s.os=X.s₀.os
 bare:AllBare s.gens
 base:Un X.fs X.ex X.H₀ H X.s₀.heap s.heap
 loc:∃m,s.heap.Ns X.env.locals m/\∀(i:Nat) (x:Str) (v:V),X.N[i]?=some x->U[i]?=some (some v)->p5 X.env.scope x->∃u,RelV v u/\Look X.env s.heap m x u
 cell:∀x c,X.env.cells.lookup x=some c->∃v,s.heap.IsCell c v
 free:H X.env.locals=none
 freeC:∀x c,X.env.cells.lookup x=some c->H c=none
 pin:∀p∈X.pn++pins,s.heap.get? p.1=some p.2/\H p.1=none/\p.1≠X.env.locals/\p.1∉X.fs/\∀v,p.2.data ≠ .cell v
 hok:cu X.prog X.w H s.heap
 len:U.length=X.N.length
section
variable {X:Cx} {pins:Ac} {U:List (Option V)} {H H':Hp} {s:Shared} {h':Heap}
def Cx.Ok.nofr (ok:X.Ok) {b:Addr}{o:Obj}(e:X.base.get? b=some o):b∉X.fs:=λhb=>by
 have:=(ok.funs.mem hb).1
 rw [e] at this;cases this
def Inv.bs (I:Inv X pins U H s):∀b o,X.base.get? b=some o->s.heap.get? b=some o/\H b=none:=λb o e =>
 ⟨I.base.keep b o (I.ok.bs b o e).1 (I.ok.bs b o e).2 (I.ok.nofr e) (I.ok.noex b o e),I.base.free b o (I.ok.bs b o e).1 (I.ok.bs b o e).2 (I.ok.noex b o e)⟩
def Inv.bk (I:Inv X pins U H s):∀b o,X.base.get? b=some o->s.heap.get? b=some o:=λb o e=>(I.bs b o e).1
def Inv.mod (I:Inv X pins U H s):Mod X.K X.mg X.base:=I.ok.mod
def Inv.kIn (I:Inv X pins U H s):X.K.In s.heap:=I.ok.mod.kin.keeps I.bk
def Inv.fr (I:Inv X pins U H s):∃m,Fr X.base X.env.locals s.heap m :=
 let ⟨m,hn,_⟩:=I.loc
 ⟨m,hn,I.bk,jw I.ok.bsz I.ok.above⟩
def Inv.lt (I:Inv X pins U H s):X.env.locals<s.heap.objs.size:=let ⟨_,hn,_⟩:=I.loc;hn.lt
def Inv.sz (I:Inv X pins U H s):X.s₀.heap.objs.size<=s.heap.objs.size:=jw I.ok.above (Nat.le_of_lt I.lt)
def Inv.nofs (I:Inv X pins U H s) {a:Addr}(h:s.heap.objs.size<=a):a∉X.fs:=λhb=>by
 obtain ⟨_,o,ho,_⟩:=I.ok.funs.mem hb
 exact absurd (jE (yt ho) (jw I.sz h)) (Nat.lt_irrefl _)
def Inv.cne (I:Inv X pins U H s):∀x c,X.env.cells.lookup x=some c->c≠X.env.locals:=λx c e z=>by
 obtain ⟨v,o,ho,hd⟩:=I.cell x c e
 obtain ⟨m,⟨o',es,ep,ho',cW,_⟩,_⟩:=I.loc
 rw [z,ho'] at ho;cases ho;rw [cW] at hd;cases hd
def Inv.funs (I:Inv X pins U H s):s.heap.FunFrames X.base X.outer:=by
 have all:∀(l:List Env),(∀b∈dr l,b∈X.fs)->X.s₀.heap.FunFrames X.base l->s.heap.FunFrames X.base l:=by
  intro l
  induction l with
  |nil=>intro _ _;trivial
  |cons env r ih =>
   intro hs hl
   obtain ⟨hk,⟨L,o,hf,hn,ho,hd⟩,hr⟩:=hl
   have hL:L∈X.fs:=hs L (by unfold dr;rw [List.filterMap_cons,hf];exact ja)
   obtain ⟨sl,e⟩:=I.base.slot L o ho (I.ok.frf L hL) hL λz=>I.ok.exfs L z hL
   exact ⟨hk,⟨L,_,hf,hn,e,hd⟩,ih (λb hb=>hs b (by unfold dr;rw [List.filterMap_cons,hf];exact jg _ hb)) hr⟩
 exact all X.outer (λ_ hb=>hb) I.ok.funs
def Inv.stack (I:Inv X pins U H s):s.heap.FunFrames X.base X.stack:=by
 rcases I.ok.stk with e|⟨e,hf⟩
 ·rw [e];exact I.funs
 ·rw [e]
  obtain ⟨m,hn,_⟩:=I.loc
  refine .cons (by rw [I.ok.kind];decide) hf hn ?_ I.funs
  exact Heap.get?_none_of_le (jw I.ok.bsz I.ok.above)
def Inv.stkSub (I:Inv X pins U H s):∀b∈dr X.stack,b∈X.env.locals::X.fs:=λb hb=>by
 rcases I.ok.stk with e|⟨e,hf⟩
 ·rw [e] at hb;exact jg _ hb
 ·rw [e] at hb
  unfold dr at hb
  rw [List.filterMap_cons,hf] at hb
  exact hb
def Inv.stkFree (I:Inv X pins U H s):∀b∈dr X.stack,H b=none:=λb hb=>by
 rcases yE.mp (I.stkSub b hb) with e|hb
 ·rw [e];exact I.free
 ·obtain ⟨_,o,ho,_⟩:=I.ok.funs.mem hb
  exact I.base.free b o ho (I.ok.frf b hb) λz=>I.ok.exfs b z hb
def Inv.step {g':Array GenState}{t':Nat}{d':Drawn}{ch:Ae}(I:Inv X pins U H s)
  (hZ:∀b∈ch,(b∈X.ex\/X.s₀.heap.objs.size<=b)/\b≠X.env.locals/\(∀x c,X.env.cells.lookup x=some c->c≠b)/\∀p∈X.pn++pins,p.1≠b)
  (keep:∀b o,b≠X.env.locals->b∉X.fs->b∉ch->s.heap.get? b=some o->H b=none->h'.get? b=some o)
  (slot:∀b o,b≠X.env.locals->b∈X.fs->b∉ch->s.heap.get? b=some o->H b=none->∃sl,h'.get? b=some { o with slots:=sl }) (free:∀b o,b∉ch->s.heap.get? b=some o->H b=none->H' b=none)
  (there:∀b o,b∉ch->s.heap.get? b=some o->∃o',h'.get? b=some o')
  (tups:∀b xs,H b=some (.tup xs)->H' b=some (.tup xs)) (frzs:∀b o u,H b=some (.frz o u)->H' b=some (.frz o u)) (tbls:∀b ps,H b=some (.tbl ps)->∃more,H' b=some (.tbl (ps++more)))
  (ns:∀m,s.heap.Ns X.env.locals m->h'.Ns X.env.locals m) (hok:cu X.prog X.w H' h') (hg:AllBare g') :
  Inv X pins U H' { s with heap:=h',gens:=g',drawn:=d',toks:=t' }:=by
 have CD:∀b o,X.s₀.heap.get? b=some o->b≠X.env.locals:=λb o e=>yO (jE (yt e) I.ok.above)
 have h_:∀b o,X.s₀.heap.get? b=some o->b∉X.ex->b∉ch:=λb o e hx hb=>by
  rcases (hZ b hb).1 with z|z
  ·exact hx z
  ·exact absurd (jE (yt e) z) (Nat.lt_irrefl _)
 have cellK:∀x c,X.env.cells.lookup x=some c->∀v,s.heap.IsCell c v->h'.IsCell c v:=λx c e v ⟨o,ho,hd⟩=>by
  have gF:c∉ch:=λz=>(hZ c z).2.2.1 x c e rfl
  by_cases hc:c∈X.fs
  ·obtain ⟨sl,q⟩:=slot c o (I.cne x c e) hc gF ho (I.freeC x c e)
   exact ⟨_,q,hd⟩
  ·exact ⟨o,keep c o (I.cne x c e) hc gF ho (I.freeC x c e),hd⟩
 refine ⟨I.ok,I.os,hg,⟨λb o e n hb hx=>?_,λb o e n hb hx=>?_,λb o e n hx=>?_,λb o e hx=>?_,λb xs e=>tups b xs (I.base.tups b xs e),λb o xs e=>frzs b o xs (I.base.frzs b o xs e),λb ps e=>?_⟩,?_,λx c e=>?_,?_,λx c e=>?_,λp hp=>?_,hok,I.len⟩
 ·exact keep b o (CD b o e) hb (h_ b o e hx) (I.base.keep b o e n hb hx) (I.base.free b o e n hx)
 ·obtain ⟨sl,e1⟩:=I.base.slot b o e n hb hx
  obtain ⟨sH,e2⟩:=slot b _ (CD b o e) hb (h_ b o e hx) e1 (I.base.free b o e n hx)
  exact ⟨sH,e2⟩
 ·obtain ⟨o',e1⟩:=I.base.there b o e hx
  exact free b o' (h_ b o e hx) e1 (I.base.free b o e n hx)
 ·obtain ⟨o',e1⟩:=I.base.there b o e hx
  exact there b o' (h_ b o e hx) e1
 ·obtain ⟨m1,e1⟩:=I.base.tbls b ps e
  obtain ⟨m2,e2⟩:=tbls b _ e1
  exact ⟨m1++m2,by rw [e2,Array.append_assoc]⟩
 ·obtain ⟨m,hn,hl⟩:=I.loc
  refine ⟨m,ns m hn,λi x v e1 e2 e3=>?_⟩
  obtain ⟨u,r,l⟩:=hl i x v e1 e2 e3
  refine ⟨u,r,?_⟩
  rcases l with l|⟨k,c,e,z⟩
  ·exact .inl l
  ·exact .inr ⟨k,c,e,cellK x c e _ z⟩
 ·obtain ⟨v,z⟩:=I.cell x c e
  exact ⟨v,cellK x c e v z⟩
 ·obtain ⟨m,⟨o,_,_,ho,_⟩,_⟩:=I.loc
  exact free _ o (λz=>(hZ _ z).2.1 rfl) ho I.free
 ·obtain ⟨v,o,ho,hd⟩:=I.cell x c e
  exact free c o (λz=>(hZ c z).2.2.1 x c e rfl) ho (I.freeC x c e)
 ·obtain ⟨e,n,ne,nf,d⟩:=I.pin p hp
  have gF:p.1∉ch:=λz=>(hZ p.1 z).2.2.2 p hp rfl
  exact ⟨keep p.1 p.2 ne nf gF e n,free p.1 p.2 gF e n,ne,nf,d⟩
def Inv.un {t':Nat}(I:Inv X pins U H s) (u:Un X.fs [] H H' s.heap h') (hok:cu X.prog X.w H' h'):Inv X pins U H' { s with heap:=h',toks:=t' }:=by
 obtain ⟨m,⟨o,es,ep,ho,r⟩,_⟩:=id I.loc
 obtain ⟨sl,hL⟩:=u.any ho I.free (by simp)
 exact I.step (g':=s.gens) (d':=s.drawn) (ch:=[]) (λ_ z=>nomatch z) (λb o _ hb _ e n=>u.keep b o e n hb (by simp)) (λb o _ hb _ e n=>u.slot b o e n hb (by simp)) (λb o _ e n=>u.free b o e n (by simp)) (λb o _ e=>u.there b o e (by simp)) u.tups u.frzs u.tbls (λm' hm=>by
  obtain ⟨o',vJ,vK,ho',r'⟩:=hm
  rw [ho] at ho';cases ho'
  exact ⟨_,vJ,vK,hL,r'⟩) hok I.bare
def Inv.call {g':Array GenState}{t':Nat}{d':Drawn}{ch:Ae}(I:Inv X pins U H s) (u:Un (dr X.stack) ch H H' s.heap h') (hok:cu X.prog X.w H' h') (hg:AllBare g')
  (hZ:∀b∈ch,(b∈X.ex\/X.s₀.heap.objs.size<=b)/\b≠X.env.locals/\(∀x c,X.env.cells.lookup x=some c->c≠b)/\∀p∈X.pn++pins,p.1≠b) :
  Inv X pins U H' { s with heap:=h',gens:=g',drawn:=d',toks:=t' }:=by
 obtain ⟨m,⟨o,es,ep,ho,r⟩,_⟩:=id I.loc
 obtain ⟨sl,hL⟩:=u.any ho I.free λz=>(hZ _ z).2.1 rfl
 exact I.step (ch:=ch) hZ (λb o hL hb hc e n=>u.keep b o e n (λz=>(yE.mp (I.stkSub b z)).elim hL hb) hc) (λb o _ _ hc e n=>u.any e n hc) (λb o hc e n=>u.free b o e n hc) (λb o hc e=>u.there b o e hc) u.tups u.frzs u.tbls (λm' hm=>by
  obtain ⟨o',vJ,vK,ho',r'⟩:=hm
  rw [ho] at ho';cases ho'
  exact ⟨_,vJ,vK,hL,r'⟩) hok hg
def Inv.turned {t':Nat}{it:Addr}(I:Inv X pins U H s) (k:∀b o,b≠it->s.heap.get? b=some o->h'.get? b=some o) (hn:H it=none) (hL:it≠X.env.locals)
  (h1:it∈X.ex\/X.s₀.heap.objs.size<=it) (h2:∀x c,X.env.cells.lookup x=some c->c≠it) (h3:∀p∈X.pn++pins,p.1≠it):Inv X pins U H { s with heap:=h',toks:=t' }:=by
 have CF:∀b u,H b=some u->b≠it:=λb u e z=>by rw [z,hn] at e;cases e
 refine I.step (g':=s.gens) (d':=s.drawn) (ch:=[it]) (λb hb=>?_) (λb o _ _ hc e _=>k b o (λz=>hc (by simp [z])) e) (λb o _ _ hc e _=>⟨o.slots,k b o (λz=>hc (by simp [z])) e⟩) (λ_ _ _ _ n=>n)
  (λb o hc e=>⟨o,k b o (λz=>hc (by simp [z])) e⟩) (λ_ _ e=>e) (λ_ _ _ e=>e) (λb ps e=>⟨#[],by rw [e];simp⟩) (λm hm=>?_) (λb u e=>?_) I.bare
 ·have e:b=it:=by simpa using hb
  subst e
  exact ⟨h1,hL,h2,h3⟩
 ·obtain ⟨o,es,ep,ho,r⟩:=hm
  exact ⟨o,es,ep,k _ o (yz hL) ho,r⟩
 ·refine (I.hok b u e).stay (λc v hc q=>k c v ?_ q) (λ_ q=>q) λ_ _ q=>q
  rcases hc with z|z
  ·rw [z];exact CF b u e
  ·exact CF c _ z
def Inv.tok (I:Inv X pins U H s) (t:Nat):Inv X pins U H { s with toks:=t }:=I.un (h':=s.heap) (t':=t) Un.refl I.hok
def Inv.kept {t':Nat}(I:Inv X pins U H s) (k:∀b u,s.heap.get? b=some u->h'.get? b=some u):Inv X pins U H { s with heap:=h',toks:=t' }:=I.un (Un.kept k) (I.hok.kept k)
def Inv.laid {a:Addr}{o:HO}{t':Nat}(I:Inv X pins U H s) (k:∀b u,s.heap.get? b=some u->h'.get? b=some u) (hp:s.heap.objs.size<=a) (new:aW X.prog X.w (upd H a o) h' a o) :
  Inv X pins U (upd H a o) { s with heap:=h',toks:=t' }:=I.un (Un.laid k hp (I.hok.fresh hp)) (I.hok.laid k hp new)
def Inv.write {x e:Addr}{o:HO}{t':Nat}(I:Inv X pins U H s) (mu:pY (H x)) (he:e=x\/H e=some (.own x)) (k:∀b u,b≠e->s.heap.get? b=some u->h'.get? b=some u) (oG:∃u,h'.get? e=some u)
  (new:aW X.prog X.w (upd H x o) h' x o):Inv X pins U (upd H x o) { s with heap:=h',toks:=t' }:=I.un (Un.write mu he k oG) (I.hok.write mu he k oG new)
def Inv.weak {ai:List (Option V)}(I:Inv X pins U H s) (hl:ai.length=U.length) (w:∀(i:Nat) v,ai[i]?=some (some v)->U[i]?=some (some v)):Inv X pins ai H s :=
 ⟨I.ok,I.os,I.bare,I.base,let ⟨m,hn,kX⟩:=I.loc;⟨m,hn,λi x v e1 e2 e3=>kX i x v e1 (w i v e2) e3⟩,I.cell,I.free,I.freeC,I.pin,I.hok,hl.trans I.len⟩
def Inv.pins_of {pins':Ac}(I:Inv X pins U H s) (h:∀p∈pins',s.heap.get? p.1=some p.2/\H p.1=none/\p.1≠X.env.locals/\p.1∉X.fs/\∀v,p.2.data ≠ .cell v):Inv X pins' U H s :=
 ⟨I.ok,I.os,I.bare,I.base,I.loc,I.cell,I.free,I.freeC,λp hp=>(yU.mp hp).elim (λz=>I.pin p (jC _ z)) (h p),I.hok,I.len⟩
def vL {N:Ad}(hN:N.Nodup) {i j:Nat}{x:Str}(a:N[i]?=some x) (b:N[j]?=some x):i=j:=by
 obtain ⟨h1,e1⟩:=yD.mp a
 obtain ⟨h2,e2⟩:=yD.mp b
 exact (List.getElem_inj hN).mp (e1.trans e2.symm)
def Kq {M:Model}{A:Around}{E:Aa}{i:Nat}{x:Str}{v:V}{u:Value}{Q:Unit->Shared->Prop}(I:Inv X pins U H s) (hN:X.N.Nodup) (hi:X.N[i]?=some x) (hx:Loc X.env.scope x) (r:RelV v u)
  (h:∀s',Inv X pins (U.set i (some v)) H s'->(∃a,Heap.SameBut a s.heap s'.heap/\(a=X.env.locals\/X.env.cells.lookup x=some a))->Q () s') (hf:X.fn x=true\/X.env.scope.names.lookup x=some .local:=by first|exact .inl rfl|exact .inr rfl|assumption):wpAny M A (storeName X.env x u) Q E s:=by
 obtain ⟨m,hn,hl⟩:=id I.loc
 have gG:(X.env.scope.kind == .class||(X.env.scope.kind == .module&&X.env.locals != X.env.globals))=false:=by rw [I.ok.kind];rfl
 have aG:i<U.length:=by rw [I.len];exact (yD.mp hi).1
 have cne:=I.cne
 have tracked:∀{a:Addr} {h':Heap},(∃o,s.heap.get? a=some o/\H a=none)->Heap.SameBut a s.heap h'->cu X.prog X.w H h':=λ{a h'} ha hs b ob e=>by
  obtain ⟨_,_,iT⟩:=ha
  refine (I.hok b ob e).stay (λc w' hc q=>(hs.2 c ?_).trans q) (λ_ q=>q) λ_ _ q=>q
  rintro rfl
  rcases hc with rfl|hc
  ·rw [iT] at e;cases e
  ·rw [iT] at hc;cases hc
 rcases hx with hk|hk
 ·refine wpAny_storeName_local hk hn (λh' mF hs=>?_) gG
  obtain ⟨oL,_,_,CG,_⟩:=id hn
  refine h _ ⟨I.ok,I.os,I.bare,⟨λb o e n hb hx=>?_,λb o e n hb hx=>?_,I.base.free,λb o e hx=>?_,I.base.tups,I.base.frzs,I.base.tbls⟩,⟨_,mF,λj y v' e1 e2 e3=>?_⟩,λy c e=>?_,I.free,I.freeC,λp hp=>?_,tracked ⟨oL,CG,I.free⟩ hs,by simpa using I.len⟩ ⟨_,hs,.inl rfl⟩
  ·exact (hs.2 b (yO (jE (yt e) I.ok.above))).trans (I.base.keep b o e n hb hx)
  ·obtain ⟨sl,e1⟩:=I.base.slot b o e n hb hx
   exact ⟨sl,(hs.2 b (yO (jE (yt e) I.ok.above))).trans e1⟩
  ·obtain ⟨o',e1⟩:=I.base.there b o e hx
   exact ⟨o',(hs.2 b (yO (jE (yt e) I.ok.above))).trans e1⟩
  ·by_cases hj:j=i
   ·subst hj
    rw [hi] at e1;cases e1
    rw [yZ aG] at e2
    cases e2
    exact ⟨u,r,.inl ⟨hk,by simp⟩⟩
   ·rw [yr (yz hj)] at e2
    obtain ⟨u',r',q⟩:=hl j y v' e1 e2 e3
    refine ⟨u',r',?_⟩
    rcases q with ⟨k,e⟩|⟨k,c,e,z⟩
    ·refine .inl ⟨k,?_⟩
     have:y≠x:=λe=>hj (vL hN e1 (e▸hi))
     simp [this,e]
    ·exact .inr ⟨k,c,e,z.sameBut hs (cne y c e)⟩
  ·obtain ⟨w',z⟩:=I.cell y c e
   exact ⟨w',z.sameBut hs (cne y c e)⟩
  ·obtain ⟨e,n,ne,nf,d⟩:=I.pin p hp
   exact ⟨(hs.2 p.1 ne).trans e,n,ne,nf,d⟩
 ·have p6:X.fn x=true:=by
   rcases hf with z|z
   ·exact z
   ·rw [z] at hk;cases hk
  obtain ⟨c,hc⟩:=I.ok.has x (.inl hk)
  obtain ⟨w',z⟩:=I.cell x c hc
  refine wpAny_storeName_cell I.ok.kind hk hc z (λh' dg hs=>?_)
  obtain ⟨oc,CH,CI⟩:=id z
  refine h { s with heap:=h' } ⟨I.ok,I.os,I.bare,⟨λb o e n hb hx=>?_,λb o e n hb hx=>?_,I.base.free,λb o e hx=>?_,I.base.tups,I.base.frzs,I.base.tbls⟩,⟨m,hn.sameBut hs (yz (cne x c hc)),λj y v' e1 e2 e3=>?_⟩,λy c' e=>?_,I.free,I.freeC,λp hp=>?_,tracked ⟨oc,CH,I.freeC x c hc⟩ hs,by simpa using I.len⟩ ⟨c,hs,.inr hc⟩
  ·exact (hs.2 b (yO (jE (yt e) (I.ok.cab x c p6 hc)))).trans (I.base.keep b o e n hb hx)
  ·obtain ⟨sl,e1⟩:=I.base.slot b o e n hb hx
   exact ⟨sl,(hs.2 b (yO (jE (yt e) (I.ok.cab x c p6 hc)))).trans e1⟩
  ·obtain ⟨o',e1⟩:=I.base.there b o e hx
   exact ⟨o',(hs.2 b (yO (jE (yt e) (I.ok.cab x c p6 hc)))).trans e1⟩
  ·by_cases hj:j=i
   ·subst hj
    rw [hi] at e1;cases e1
    rw [yZ aG] at e2
    cases e2
    exact ⟨u,r,.inr ⟨.inl hk,c,hc,dg⟩⟩
   ·rw [yr (yz hj)] at e2
    obtain ⟨u',r',q⟩:=hl j y v' e1 e2 e3
    refine ⟨u',r',?_⟩
    rcases q with q|⟨k,c',e,z'⟩
    ·exact .inl q
    ·refine .inr ⟨k,c',e,z'.sameBut hs ?_⟩
     rintro rfl
     exact hj (vL hN e1 (I.ok.inj _ _ _ e hc▸hi))
  ·by_cases oH:c'=c
   ·subst oH;exact ⟨_,dg⟩
   ·obtain ⟨w2,z2⟩:=I.cell y c' e
    exact ⟨w2,z2.sameBut hs oH⟩
  ·obtain ⟨e,n,ne,nf,d⟩:=I.pin p hp
   refine ⟨(hs.2 p.1 ?_).trans e,n,ne,nf,d⟩
   intro q
   rw [q,CH] at e
   have q':oc=p.2:=Option.some.inj e
   exact d w' (by rw [<-q'];exact CI)
def mG {M:Model}{A:Around}{E:Aa}{i:Nat}{x:Str}{v:V}{u:Value}{Q:Unit->Shared->Prop}(I:Inv X pins U H s) (hN:X.N.Nodup) (hi:X.N[i]?=some x) (hx:Loc X.env.scope x) (r:RelV v u)
  (h:∀s',Inv X pins (U.set i (some v)) H s'->Q () s') (hf:X.fn x=true\/X.env.scope.names.lookup x=some .local:=by first|exact .inl rfl|exact .inr rfl|assumption):wpAny M A (storeName X.env x u) Q E s :=
 Kq I hN hi hx r (λs' I' _=>h s' I') hf
def Inv.call' {s':Shared}{ch:Ae}(I:Inv X pins U H s) (ho:s'.os=s.os) (u:Un (dr X.stack) ch H H' s.heap s'.heap) (hok:cu X.prog X.w H' s'.heap) (hg:AllBare s'.gens)
  (hZ:∀b∈ch,(b∈X.ex\/X.s₀.heap.objs.size<=b)/\b≠X.env.locals/\(∀x c,X.env.cells.lookup x=some c->c≠b)/\∀p∈X.pn++pins,p.1≠b):Inv X pins U H' s':=by
 obtain ⟨h',g',d',t',o'⟩:=s'
 have e:o'=s.os:=ho
 subst e
 exact I.call (g':=g') (t':=t') (d':=d') u hok hg hZ
end
abbrev XK:=Value->Option Addr->Hp->Prop
abbrev St:=List (Option V)
abbrev VK:=V->Hp->Prop
abbrev TE:=St->Hp->VK->Prop
abbrev TT:=St->Hp->(Bool->Hp->Prop)->Prop
abbrev TA:=St->Hp->(List V->Hp->Prop)->Prop
structure Ends where
 nx:St->Hp->Prop
 rt:VK
 bk:St->Hp->Prop:=λ_ _=>False
 ct:St->Hp->Prop:=λ_ _=>False
abbrev TS:=Ends->St->Hp->Prop
def EP (X:Cx) (pins:Ac) (U:St) (Q:VK) (u:Value) (s':Shared):Prop:=∃v H',Inv X pins U H' s'/\RelV v u/\Q v H'
def TP (X:Cx) (pins:Ac) (U:St) (Q:Bool->Hp->Prop) (b:Bool) (s':Shared):Prop:=∃H',Inv X pins U H' s'/\Q b H'
def AP (X:Cx) (pins:Ac) (U:St) (Q:List V->Hp->Prop) (us:Af) (s':Shared):Prop:=∃vs H',Inv X pins U H' s'/\Vals vs us/\Q vs H'
def SP (X:Cx) (pins:Ac) (D:Ends) (f:Flow) (s':Shared):Prop :=
 match f with
 |.next=>∃ai H',Inv X pins ai H' s'/\D.nx ai H'
 |.brk=>∃ai H',Inv X pins ai H' s'/\D.bk ai H'
 |.cont=>∃ai H',Inv X pins ai H' s'/\D.ct ai H'
 |.ret u=>∃v ai H',Inv X pins ai H' s'/\RelV v u/\D.rt v H'
def PE (X:Cx) (e:Expr) (t:TE):Prop :=
 ∀(pins:Ac) (s:Shared) (U:St) (H:Hp) (Q:VK),Inv X pins U H s->t U H Q->wpAny (model X.prog X.w) X.A (eval e X.env) (EP X pins U Q) X.xe s
def PT (X:Cx) (e:Expr) (t:TT):Prop :=
 ∀(pins:Ac) (s:Shared) (U:St) (H:Hp) (Q:Bool->Hp->Prop),Inv X pins U H s->t U H Q->wpAny (model X.prog X.w) X.A (isTrue e X.env (eval e X.env)) (TP X pins U Q) X.xe s
def PW (X:Cx) (e:Expr) (t:TT):Prop :=
 ∀(whole:Sem Value) (pins:Ac) (s:Shared) (U:St) (H:Hp) (Q:Bool->Hp->Prop),Inv X pins U H s->t U H Q->wpAny (model X.prog X.w) X.A (isTrue e X.env whole) (TP X pins U Q) X.xe s
def PW.pt {X:Cx}{e:Expr}{t:TT}(h:PW X e t):PT X e t:=h _
def PA (X:Cx) (es:List Expr) (t:TA):Prop :=
 ∀(pos:Pos) (pins:Ac) (s:Shared) (U:St) (H:Hp) (Q:List V->Hp->Prop),Inv X pins U H s->t U H Q->wpAny (model X.prog X.w) X.A (spliced (backTo pos (starEach es X.env))) (AP X pins U Q) X.xe s
def PS (X:Cx) (st:Stmt) (t:TS):Prop :=
 ∀(pins:Ac) (s:Shared) (U:St) (H:Hp) (D:Ends),Inv X pins U H s->t D U H->wpAny (model X.prog X.w) X.A (exec st X.env) (SP X pins D) X.xe s
def cA (X:Cx) (st:List Stmt) (t:TS):Prop :=
 ∀(pins:Ac) (s:Shared) (U:St) (H:Hp) (D:Ends),Inv X pins U H s->t D U H->wpAny (model X.prog X.w) X.A (execs st X.env) (SP X pins D) X.xe s
def aS {α:Type}{t:Sem α}{Q Q':α->Shared->Prop}{M:Model}{A:Around}{E:Aa}{s:Shared}(h:wpAny M A t Q E s) (hQ:∀a s,Q a s->Q' a s):wpAny M A t Q' E s:=yY h hQ λ_ _ x=>x
section
variable {X:Cx}
def sJ (i:Nat):TE:=λU H Q=>∃v,U[i]?=some (some v)/\Q v H
def tC (v:V):TE:=λ_ H Q=>Q v H
def CJ {i:Nat} {x:Str} {pos:Pos} (hN:X.N[i]?=some x) (hv:p5 X.env.scope x) (hd:(x==("__debug__" : Str))=false:=by decide) (fD:(x==("__classdict__" : Str))=false:=by decide):PE X (.Name x pos) (sJ i):=by
 intro pins s U H Q I h
 obtain ⟨v,e,h⟩:=h
 obtain ⟨m,hn,hl⟩:=I.loc
 obtain ⟨u,r,l⟩:=hl i x v hN e hv
 have fin:EP X pins U Q u s:=⟨v,H,I,r,h⟩
 rcases l with ⟨hk,hm⟩|⟨hk,c,hc,eI⟩
 ·exact wpAny_Name (wpAny_loadName_local I.ok.kind hk hn hm fin) hd
 ·rcases hk with hk|hk
  ·exact wpAny_Name (wpAny_loadName_cell I.ok.kind hk hc eI fin) hd
  ·exact wpAny_Name (wpAny_loadName_free I.ok.kind hk hc eI fin fD) hd
def Kr {i j pos}:PE X (.Constant (.int i) j pos) (tC (.int i)):=λ_ _ _ H _ I h=>wpAny_Constant_int ⟨.int i,H,I.tok _,⟨_,rfl⟩,h⟩
def Ks {b j pos}:PE X (.Constant (.bool b) j pos) (tC (.bl b)):=λ_ _ _ H _ I h=>Constant_bool ⟨.bl b,H,I,rfl,h⟩
def Kt {j pos}:PE X (.Constant .none j pos) (tC .non):=λ_ _ _ H _ I h=>Constant_none ⟨.non,H,I,rfl,h⟩
def Ku {x j pos}:PE X (.Constant (.str x) j pos) (tC (.str x)):=λ_ _ _ H _ I h=>Calls.Constant_str ⟨.str x,H,I.tok _,⟨_,rfl⟩,h⟩
def Gl (X:Cx) (x:Str):Prop:=X.env.kindOf x=some .globalImplicit
def kY {E:Aa}{pins:Ac}{s:Shared}{U:St}{H:Hp}{x:Str}{u:Value}{pos:Pos}{Q:Aa}(I:Inv X pins U H s) (hg:Gl X x) (hm:X.mg x=some u) (h:Q u s)
  (hd:(x==("__debug__" : Str))=false:=by decide):wpAny (model X.prog X.w) X.A (eval (.Name x pos) X.env) Q E s :=
 Calls.Name_function_global I.ok.kind hg (Calls.loadGlobal_global (by rw [I.ok.glob];exact I.mod.glob.keeps I.bk) hm h) hd
def mH {E:Aa}{pins:Ac}{s:Shared}{U:St}{H:Hp}{x:Str}{u:Value}{pos:Pos}{Q:Aa}(I:Inv X pins U H s) (hg:Gl X x) (hm:X.mg x=none) (hv:bootBuiltins x=some u) (h:Q u s)
  (hn:x ≠ "__name__" := by decide) (hd:(x==("__debug__" : Str))=false:=by decide):wpAny (model X.prog X.w) X.A (eval (.Name x pos) X.env) Q E s:=by
 obtain ⟨mb,h1,h2⟩:=I.mod.blt
 exact Calls.Name_function_global I.ok.kind hg (Calls.loadGlobal_builtin (by rw [I.ok.glob];exact I.mod.glob.keeps I.bk) hm (by rw [I.ok.blt];exact h1.keeps I.bk) ((h2 x hn).trans hv) h) hd
def vM {x:Str} {v:V} {u:Value} {pos:Pos} (hg:Gl X x) (hm:X.mg x=some u) (r:RelV v u) (hd:(x==("__debug__" : Str))=false:=by decide):PE X (.Name x pos) (tC v) :=
 λ_ _ _ H _ I h=>kY I hg hm ⟨v,H,I,r,h⟩ hd
def Kv {x:Str} {v:V} {u:Value} {pos:Pos} (hg:Gl X x) (hm:X.mg x=none) (hv:bootBuiltins x=some u) (r:RelV v u) (hn:x ≠ "__name__" := by decide) (hd:(x==("__debug__" : Str))=false:=by decide):PE X (.Name x pos) (tC v) :=
 λ_ _ _ H _ I h=>mH I hg hm hv ⟨v,H,I,r,h⟩ hn hd
variable {a b:Expr} {ta tb:TE} {pos:Pos}
def tB (t:TE):TT:=λU H Q=>t U H λx H1=>∃c,x=.bl c/\Q c H1
def Kw {e:Expr}{t:TE}(h:PE X e t) (he:∀whole,isTrue e X.env whole=(do let v <-whole;standAt e.pos;holding [v] (truthy v)):=by intro _;rfl):PT X e (tB t):=by
 intro pins s U H Q I hw
 refine isTrue_plain (aS (h pins s U H _ I hw) λv s1 ⟨x,H1,I1,r1,q1⟩=>?_) (he _)
 obtain ⟨d,rfl,q⟩:=q1
 cases r1
 exact oB ⟨H1,I1,q⟩
variable {tA sL:TT} {rest:List Expr}
def Ky (t u:TT):TT:=λU H Q=>t U H λc H1=>if c=true then u U H1 Q else Q false H1
def Kz (t u:TT):TT:=λU H Q=>t U H λc H1=>if c=true then Q true H1 else u U H1 Q
def KA (t:TT):TT:=λU H Q=>t U H λc H1=>Q (!c) H1
def KC (ha:PT X a tA):PW X (.BoolOp .And [a] pos) tA:=by
 intro wh pins s U H Q I h
 refine isTrue_and (aS (ha pins s U H Q I h) λc s1 e=>?_)
 cases c with
 |true=>exact isTrue_and_nil e
 |false=>exact e
def KG (ha:PT X a tA):PW X (.BoolOp .Or [a] pos) tA:=by
 intro wh pins s U H Q I h
 refine isTrue_or (aS (ha pins s U H Q I h) λc s1 e=>?_)
 cases c with
 |false=>exact isTrue_or_nil e
 |true=>exact e
def KH (ha:PT X a tA) (hb:PW X (.BoolOp .And (b::rest) pos) sL):PW X (.BoolOp .And (a::b::rest) pos) (Ky tA sL):=by
 intro wh pins s U H Q I h
 refine isTrue_and (aS (ha pins s U H _ I h) λc s1 ⟨H1,I1,q1⟩=>?_)
 cases c with
 |true=>exact hb wh pins s1 U H1 Q I1 q1
 |false=>exact ⟨H1,I1,q1⟩
def KJ (ha:PT X a tA) (hb:PW X (.BoolOp .Or (b::rest) pos) sL):PW X (.BoolOp .Or (a::b::rest) pos) (Kz tA sL):=by
 intro wh pins s U H Q I h
 refine isTrue_or (aS (ha pins s U H _ I h) λc s1 ⟨H1,I1,q1⟩=>?_)
 cases c with
 |true=>exact ⟨H1,I1,q1⟩
 |false=>exact hb wh pins s1 U H1 Q I1 q1
def KL (ha:PT X a tA):PT X (.UnaryOp .Not a pos) (KA tA):=by
 intro pins s U H Q I h
 exact isTrue_not (ha pins s U H (λc H1=>Q (!c) H1) I h)
def KN (ta tb:TE):TE:=λU H Q=>ta U H λx H1=>∃c,x=.bl c/\if c=true then tb U H1 Q else Q (.bl false) H1
def KO {op}{t:TE}(h:PE X a t):PE X (.BoolOp op [a] pos) t:=λpins s U H Q I hw=>BoolOp_one (h pins s U H Q I hw)
def KQ (ha:PE X a ta) (hb:PE X (.BoolOp .And (b::rest) pos) tb):PE X (.BoolOp .And (a::b::rest) pos) (KN ta tb):=by
 intro pins s U H Q I h
 refine BoolOp_and (aS (ha pins s U H _ I h) λv s1 ⟨x,H1,I1,r1,q1⟩=>?_)
 obtain ⟨c,rfl,q1⟩:=q1
 cases r1
 refine oB ?_
 cases c with
 |true=>exact hb pins s1 U H1 Q I1 q1
 |false=>exact ⟨.bl false,H1,I1,rfl,q1⟩
def KR (t:TT) (ta tb:TE):TE:=λU H Q=>t U H λc H1=>if c=true then ta U H1 Q else tb U H1 Q
def KS {c:Expr}(hc:PT X c tA) (ha:PE X a ta) (hb:PE X b tb):PE X (.IfExp c a b pos) (KR tA ta tb):=by
 intro pins s U H Q I h
 refine wpAny_IfExp (aS (hc pins s U H _ I h) λd s1 ⟨H1,I1,q1⟩=>?_)
 cases d with
 |true=>exact ha pins s1 U H1 Q I1 q1
 |false=>exact hb pins s1 U H1 Q I1 q1
end
def aZ (K:PySem.W.Frag) (H:Hp) (a:Addr) (xs:List V):Prop :=
 Rd H a (.lst xs) \/
  ∃(o:Obj) (its:Array Value) (n:Nat),K.lookup a=some o/\o.cls=.type "list" /\ o.dict=none/\o.data=.seq its n/\its.size<=sizeLine/\Vals xs its.toList
def ba (K:PySem.W.Frag) (H:Hp) (a:Addr) (xs:List V):Prop :=
 Rd H a (.tup xs) \/
  ∃(o:Obj) (its:Array Value) (n:Nat),K.lookup a=some o/\o.cls=.type "tuple" /\ o.data=.seq its n/\its.size<=sizeLine/\Vals xs its.toList
def CK:Value->Option V
 |.none=>some .non
 |.bool b=>some (.bl b)
 |.int i _=>some (.int i)
 |.str x _=>some (.str x)
 |.bytes b _=>some (.byt b)
 |.float b _=>some (.flt b)
 |.ref a=>some (.ref a)
 |.type n=>some (.ty n)
 |_=>none
def RelV.abs {x:V}{u:Value}(r:RelV x u):CK u=some x:=by
 cases x with
 |non=>cases r;rfl
 |bl _=>cases r;rfl
 |int _=>obtain ⟨t,rfl⟩:=r;rfl
 |str _=>obtain ⟨t,rfl⟩:=r;rfl
 |byt _=>obtain ⟨t,rfl⟩:=r;rfl
 |flt _=>obtain ⟨t,rfl⟩:=r;rfl
 |ref _=>cases r;rfl
 |ty _=>cases r;rfl
def RelV.inj {x y:V}{u:Value}(r:RelV x u) (q:RelV y u):x=y:=Option.some.inj (r.abs.symm.trans q.abs)
theorem Vals.inj:∀{xs ys:List V}{us:Af},Vals xs us->Vals ys us->xs=ys
 |_,_,_,.nil,.nil=>rfl
 |_,_,_,.cons r t,.cons r' t'=>by rw [r.inj r',Vals.inj t t']
section
variable {X:Cx} {pins:Ac} {U:St} {H:Hp} {s:Shared} {a:Addr} {xs ys:List V}
def aZ.of {K:PySem.W.Frag}(h:H a=some (.lst xs)):aZ K H a xs:=.inl (.inl h)
def ba.of {K:PySem.W.Frag}(h:H a=some (.tup xs)):ba K H a xs:=.inl (.inl h)
theorem Inv.list (I:Inv X pins U H s) (h:aZ X.K H a xs):∃its:Af,Vals xs its/\PlainL s.heap a its.toArray/\xs.length<=sizeLine:=by
 rcases h with h|⟨o,its,n,hk,hc,hd,hs,hz,r⟩
 ·obtain ⟨z,its,n,r,e⟩:=h.ok I.hok
  exact ⟨its,r,⟨_,n,e,rfl,rfl,rfl⟩,z⟩
 ·refine ⟨its.toList,r,⟨o,n,I.kIn a o hk,hc,hd,by simpa using hs⟩,?_⟩
  have e:=r.length
  simp only [Array.length_toList] at e
  omega
def Inv.tuple (I:Inv X pins U H s) (h:ba X.K H a xs):∃its:Af,Vals xs its/\IsTup s.heap a its.toArray/\xs.length<=sizeLine:=by
 rcases h with h|⟨o,its,n,hk,hc,hs,hz,r⟩
 ·obtain ⟨z,its,r,p⟩:=h.ok I.hok
  exact ⟨its,r,p,z⟩
 ·refine ⟨its.toList,r,⟨o,I.kIn a o hk,hc,n,by simpa using hs⟩,?_⟩
  have e:=r.length
  simp only [Array.length_toList] at e
  omega
def Inv.list_inj (I:Inv X pins U H s) (h:aZ X.K H a xs) (h':aZ X.K H a ys):xs=ys:=by
 obtain ⟨its,r,⟨o,n,e,_,_,d⟩,_⟩:=I.list h
 obtain ⟨its',r',⟨o',n',e',_,_,d'⟩,_⟩:=I.list h'
 rw [e] at e';cases e'
 rw [d] at d'
 injection d' with d1 _
 have:its=its':=by simpa using congrArg Array.toList d1
 subst this
 exact r.inj r'
def Inv.tuple_inj (I:Inv X pins U H s) (h:ba X.K H a xs) (h':ba X.K H a ys):xs=ys:=by
 obtain ⟨its,r,⟨o,e,_,n,d⟩,_⟩:=I.tuple h
 obtain ⟨its',r',⟨o',e',_,n',d'⟩,_⟩:=I.tuple h'
 rw [e] at e';cases e'
 rw [d] at d'
 injection d' with d1 _
 have:its=its':=by simpa using congrArg Array.toList d1
 subst this
 exact r.inj r'
end
abbrev Cx.wish (X:Cx) (E:Aa):Cx:={ X with xe:=E }
abbrev Cx.nox (X:Cx):Cx:=X.wish λ_ _=>False
def Cx.Ok.wish {X:Cx}(ok:X.Ok) (E:Aa):(X.wish E).Ok :=
 ⟨ok.mod,ok.kind,ok.glob,ok.blt,ok.above,ok.inj,ok.has,ok.cab,ok.hd,ok.frames,ok.stk,ok.exf,ok.bs,ok.bsz,ok.noex,ok.exfs,ok.funs,ok.frf⟩
def Cx.Ok.unwish {X:Cx}{E:Aa}(ok:(X.wish E).Ok):X.Ok :=
 ⟨ok.mod,ok.kind,ok.glob,ok.blt,ok.above,ok.inj,ok.has,ok.cab,ok.hd,ok.frames,ok.stk,ok.exf,ok.bs,ok.bsz,ok.noex,ok.exfs,ok.funs,ok.frf⟩
section
variable {X:Cx} {pins:Ac} {U:St} {H:Hp} {s:Shared} {E:Aa}
def Inv.wish (I:Inv X pins U H s) (E:Aa):Inv (X.wish E) pins U H s:=⟨I.ok.wish E,I.os,I.bare,I.base,I.loc,I.cell,I.free,I.freeC,I.pin,I.hok,I.len⟩
def Inv.unwish (I:Inv (X.wish E) pins U H s):Inv X pins U H s:=⟨I.ok.unwish,I.os,I.bare,I.base,I.loc,I.cell,I.free,I.freeC,I.pin,I.hok,I.len⟩
def SP.unwish {D:Ends}{f:Flow}{s':Shared}(h:SP (X.wish E) pins D f s'):SP X pins D f s':=by
 cases f with
 |next=>obtain ⟨ai,H',I,q⟩:=h;exact ⟨ai,H',I.unwish,q⟩
 |brk=>obtain ⟨ai,H',I,q⟩:=h;exact ⟨ai,H',I.unwish,q⟩
 |cont=>obtain ⟨ai,H',I,q⟩:=h;exact ⟨ai,H',I.unwish,q⟩
 |ret u=>obtain ⟨v,ai,H',I,r,q⟩:=h;exact ⟨v,ai,H',I.unwish,r,q⟩
def PE.nox {e:Expr}{t:TE}(h:PE X.nox e t):PE X e t:=λpins s U H Q I hw =>
 yY (h pins s U H Q (I.wish _) hw) (λ_ _ ⟨v,H',I',r,q⟩=>⟨v,H',I'.unwish,r,q⟩) λ_ _ z=>z.elim
def PT.nox {e:Expr}{t:TT}(h:PT X.nox e t):PT X e t:=λpins s U H Q I hw =>
 yY (h pins s U H Q (I.wish _) hw) (λ_ _ ⟨H',I',q⟩=>⟨H',I'.unwish,q⟩) λ_ _ z=>z.elim
def cA.nox {st:List Stmt}{t:TS}(h:cA X.nox st t):cA X st t:=λpins s U H D I hw =>
 yY (h pins s U H D (I.wish _) hw) (λ_ _ q=>q.unwish) λ_ _ z=>z.elim
end
section
variable {X:Cx} {st:Stmt} {rest:List Stmt} {t u:TS} {e:Expr} {te:TE} {pos:Pos}
def KU:TS:=λD U H=>D.nx U H
def KW (t u:TS):TS:=λD U H=>t { D with nx:=u D } U H
def KY:cA X [] KU:=λ_ _ U H _ I h=>wpAny_execs_nil ⟨U,H,I,h⟩
def KZ (h1:PS X st t) (h2:cA X rest u):cA X (st::rest) (KW t u):=by
 intro pins s U H D I h
 refine wpAny_execs_cons (aS (h1 pins s U H { D with nx:=u D } I h) λf s1 q=>?_)
 cases f with
 |next =>
  obtain ⟨ai,H',I',q⟩:=q
  exact h2 pins s1 ai H' D I' q
 |ret v=>exact q
 |brk=>exact q
 |cont=>exact q
def CM (h1:PS X st t):cA X [st] t:=by
 intro pins s U H D I h
 refine wpAny_execs_cons (aS (h1 pins s U H D I h) λf s1 q=>?_)
 cases f with
 |next=>exact wpAny_execs_nil q
 |ret v=>exact q
 |brk=>exact q
 |cont=>exact q
def Inv.quiet {pins:Ac}{U:St}{H:Hp}{s:Shared}(I:Inv X pins U H s):interactive X.env=false:=by simp [interactive,I.ok.kind]
def K4 (te:TE):TS:=λD U H=>te U H λ_ H1=>D.nx U H1
def K5 (he:PE X e te) (hs:swapsWith e none pos.line X.env=pure false:=by rfl):PS X (.Expr e pos) (K4 te):=by
 intro pins s U H D I h
 exact wpAny_Expr_any (aS (he pins s U H _ I h) λv s1 ⟨x,H1,I1,r1,q1⟩=>⟨U,H1,I1,q1⟩) I.quiet hs
def K6 (te:TE):TS:=λD U H=>te U H D.rt
def K7 (he:PE X e te):PS X (.Return (some e) pos) (K6 te):=by
 intro pins s U H D I h
 exact wpAny_Return_some (aS (he pins s U H _ I h) λv s1 ⟨x,H1,I1,r1,q1⟩=>⟨x,U,H1,I1,r1,q1⟩)
def K9 (c:TT) (t u:TS):TS:=λD U H=>c U H λb H1=>if b=true then t D U H1 else u D U H1
def K_ {c:Expr}{a b:List Stmt}{tc:TT}(hc:PT X c tc) (ha:cA X a t) (hb:cA X b u):PS X (.If c a b pos) (K9 tc t u):=by
 intro pins s U H D I h
 refine wpAny_If (aS (hc pins s U H _ I h) λd s1 ⟨H1,I1,q1⟩=>?_)
 cases d with
 |true=>exact ha pins s1 U H1 D I1 q1
 |false=>exact hb pins s1 U H1 D I1 q1
def CN:TS:=λ_ _ _=>False
def Lc:PS X st CN:=λ_ _ _ _ _ _ h=>h.elim
def Ld {eJ:List Stmt}:cA X eJ CN:=λ_ _ _ _ _ _ h=>h.elim
end
abbrev TG:=V->St->Hp->(St->Hp->Prop)->Prop
abbrev mI:=List V->St->Hp->(St->Hp->Prop)->Prop
def PG (X:Cx) (target:Expr) (t:TG):Prop :=
 ∀(pins:Ac) (s:Shared) (U:St) (H:Hp) (v:V) (u:Value) (Q:St->Hp->Prop),Inv X pins U H s->RelV v u->t v U H Q ->
  wpAny (model X.prog X.w) X.A (assign target X.env u) (λ_ s'=>∃ai H',Inv X pins ai H' s'/\Q ai H') X.xe s
def sO (X:Cx) (ts:List Expr) (t:mI):Prop :=
 ∀(pins:Ac) (s:Shared) (U:St) (H:Hp) (vs:List V) (us:Af) (Q:St->Hp->Prop),Inv X pins U H s->Vals vs us->t vs U H Q ->
  wpAny (model X.prog X.w) X.A (assignInOrder ((assignEach ts X.env).map (·.2)) us) (λ_ s'=>∃ai H',Inv X pins ai H' s'/\Q ai H') X.xe s
abbrev sP:=V->V->Hp->VK->Prop
def vN (X:Cx) (op:Operator) (t:sP):Prop :=
 ∀(pins:Ac) (s:Shared) (U:St) (H:Hp) (x y:V) (v u:Value) (Q:VK),Inv X pins U H s->RelV x v->RelV y u->t x y H Q ->
  wpAny (model X.prog X.w) X.A (inplaceOp op v u) (EP X pins U Q) X.xe s
section
variable {X:Cx} {pos:Pos}
def wu (i:Nat):TG:=λv U H Q=>Q (U.set i (some v)) H
def wN {i:Nat}{x:Str}(hN:X.N.Nodup) (hi:X.N[i]?=some x) (hx:Loc X.env.scope x) (hf:X.fn x=true\/X.env.scope.names.lookup x=some .local:=by first|exact .inl rfl|exact .inr rfl|assumption):PG X (.Name x pos) (wu i):=by
 intro pins s U H v u Q I r h
 exact wpAny_assign_Name (mG I hN hi hx r (λs' I'=>⟨_,H,I',h⟩) hf)
def sQ:mI:=λvs U H Q=>vs=[]/\Q U H
def mJ (t:TG) (u:mI):mI:=λvs U H Q=>∃v r,vs=v::r/\t v U H λai H'=>u r ai H' Q
def sR:sO X [] sQ:=by
 intro pins s U H vs us Q I r h
 obtain ⟨e,h⟩:=h
 subst e
 cases r
 exact assignInOrder_nil ⟨U,H,I,h⟩
def kZ {e:Expr}{es:List Expr}{t:TG}{u:mI}(h1:PG X e t) (h2:sO X es u)
  (hs:(assignEach (e::es) X.env).map (·.2)=assign e X.env::(assignEach es X.env).map (·.2):=by rfl):sO X (e::es) (mJ t u):=by
 intro pins s U H vs us Q I r h
 obtain ⟨v,vr,e1,h⟩:=h
 subst e1
 cases r with
 |cons r rr =>
  rw [hs]
  refine assignInOrder_cons (aS (h1 pins s U H _ _ _ I r h) λ_ s1 ⟨aw,H1,I1,q1⟩=>?_)
  exact h2 pins s1 aw H1 _ _ Q I1 rr q1
def sS (K:PySem.W.Frag) (n:Nat) (t:mI):TG:=λv U H Q=>∃a xs,v=.ref a/\ba K H a xs/\xs.length=n/\t xs U H Q
def sT {es:List Expr}{k:Nat}{t:mI}{n:Nat}(hc:X.calm=true) (h:sO X es t)
  (hn:(assignEach es X.env).length=n:=by rfl) (bD:(assignEach es X.env).findIdx? (·.1)=none:=by rfl):PG X (.Tuple es k pos) (sS X.K n t):=by
 intro pins s U H v u Q I r hw
 obtain ⟨a,xs,e1,hq,hl,hw⟩:=hw
 subst e1
 cases r
 obtain ⟨its,rv,ht,hz⟩:=I.tuple hq
 refine assign_Tuple_tuple (I.ok.hd hc) ht (by simp [hn,<-hl,rv.length]) bD λh' hx=>?_
 have I1:Inv X pins U H { s with heap:=h' }:=I.kept (t':=s.toks) λb o e=>hx b o (yO (yt e)) e
 exact h pins _ U H xs _ Q I1 (by simpa using rv) hw
def CO (te:TE) (g:TG):TS:=λD U H=>te U H λx H1=>g x U H1 D.nx
def Le {tg e:Expr}{te:TE}{g:TG}(he:PE X e te) (hg:PG X tg g) (hs:swapsWithSole [tg] e pos.line X.env=pure false:=by rfl) (hw:swappedStores [tg] e X.env=pure none:=by rfl)
  (h1:(assignEach [tg] X.env).map (·.2)=[assign tg X.env]:=by rfl):PS X (.Assign [tg] e pos) (CO te g):=by
 intro pins s U H D I h
 refine wpAny_Assign_stores (aS (he pins s U H _ I h) λv s1 ⟨x,H1,I1,r1,q1⟩=>?_) hs hw
 rw [h1]
 exact aS (hg pins s1 U H1 x v _ I1 r1 q1) λ_ s2 q=>q
def Lf {i:Nat}{x:Str}{e:Expr}{te:TE}{pos':Pos}(hN:X.N.Nodup) (hi:X.N[i]?=some x) (hx:Loc X.env.scope x) (he:PE X e te) (hs:swapsWith e (some (.Name x pos')) pos.line X.env=pure false:=by rfl) (hf:X.fn x=true\/X.env.scope.names.lookup x=some .local:=by first|exact .inl rfl|exact .inr rfl|assumption) :
  PS X (.Assign [.Name x pos'] e pos) (CO te (wu i)):=by
 intro pins s U H D I h
 refine wpAny_Assign_Name (aS (he pins s U H _ I h) λv s1 ⟨y,H1,I1,r1,q1⟩=>?_) hs
 exact mG I1 hN hi hx r1 (λs2 I2=>⟨_,H1,I2,q1⟩) hf
def Lg (i:Nat) (te:TE) (ti:sP):TS:=λD U H=>∃x,U[i]?=some (some x)/\te U H λy H1=>ti x y H1 λz H2=>D.nx (U.set i (some z)) H2
def Lh {i:Nat}{x:Str}{e:Expr}{te:TE}{op:Operator}{ti:sP}{pos':Pos}(hN:X.N.Nodup) (hi:X.N[i]?=some x) (hx:Loc X.env.scope x) (he:PE X e te) (ho:vN X op ti) (hf:X.fn x=true\/X.env.scope.names.lookup x=some .local:=by first|exact .inl rfl|exact .inr rfl|assumption) :
  PS X (.AugAssign (.Name x pos') op e pos) (Lg i te ti):=by
 intro pins s U H D I h
 obtain ⟨v,e1,h⟩:=h
 obtain ⟨m,hn,hl⟩:=I.loc
 have Li:p5 X.env.scope x:=by rcases hx with k|k;exact .inl k;exact .inr (.inl k)
 obtain ⟨u,r,l⟩:=hl i x v hi e1 Li
 refine wpAny_AugAssign_Name ?_
 have go:wpAny (model X.prog X.w) X.A (eval e X.env) (λw af=>wpAny (model X.prog X.w) X.A (inplaceOp op u w) (λr aP=>wpAny (model X.prog X.w) X.A (storeName X.env x r) (λ_=>SP X pins D .next) X.xe aP) X.xe af) X.xe s:=by
  refine aS (he pins s U H _ I h) λw s1 ⟨y,H1,I1,r1,q1⟩=>?_
  refine aS (ho pins s1 U H1 v y u w _ I1 r r1 q1) λz s2 ⟨zv,H2,I2,r2,q2⟩=>?_
  exact mG I2 hN hi hx r2 (λs3 I3=>⟨_,H2,I3,q2⟩) hf
 rcases l with ⟨hk,hm⟩|⟨hk,c,hc,eI⟩
 ·exact wpAny_loadName_local I.ok.kind hk hn hm go
 ·rcases hk with hk|hk
  ·exact wpAny_loadName_cell I.ok.kind hk hc eI go
  ·rcases hx with k|k
   ·have:X.env.scope.names.lookup x=some .free:=hk
    rw [k] at this;cases this
   ·have:X.env.scope.names.lookup x=some .free:=hk
    rw [k] at this;cases this
def Lj (f:Int->Int->Int):sP:=λx y H Q=>∃i j,x=.int i/\y=.int j/\Q (.int (f i j)) H
def Lk:vN X .Add (Lj λi j=>i+j):=by
 intro pins s U H x y v u Q I r1 r2 h
 obtain ⟨i,j,e1,e2,q⟩:=h
 subst e1;subst e2
 obtain ⟨t,rfl⟩:=r1
 obtain ⟨t',rfl⟩:=r2
 exact iadd_int ⟨.int _,H,I.tok _,⟨_,rfl⟩,q⟩
def Ll (c:TT) (tb:TS):TS:=λD U H=>∃W:Nat->St->Hp->Prop,(∃m,W m U H)/\∀m U H,W m U H ->
 c U H λb H1=>if b=true then ∃N:St->Hp->Prop,(∀ai H',N ai H'->∃m',m'<m/\W m' ai H')/\tb { D with nx:=N,ct:=N,bk:=D.nx } U H1 else D.nx U H1
def Lo {c:Expr}{body:List Stmt}{tc:TT}{tb:TS}(hp:PassesOwn (model X.prog X.w) X.A X.env X.xe) (hc:PT X c tc) (hb:cA X body tb):PS X (.While c body [] pos) (Ll tc tb):=by
 intro pins s U H D I h
 obtain ⟨W,⟨m0,w0⟩,turn⟩:=h
 refine wpAny_While (codeAny_whileLoop (λn s'=>∃ai H',Inv X pins ai H' s'/\W n ai H') ?_ m0 ⟨U,H,I,w0⟩)
 rintro n s1 ⟨aw,H1,I1,w1⟩
 refine wpAny_passesOwn hp (aS (hc pins s1 aw H1 _ I1 (turn n aw H1 w1)) λb s2 ⟨H2,I2,q2⟩=>?_)
 cases b with
 |true =>
  obtain ⟨N,hN,q2⟩:=q2
  rw [zw rfl]
  refine wpAny_passesOwn hp (aS (hb pins s2 aw H2 _ I2 q2) λf s3 q3=>?_)
  cases f with
  |next =>
   obtain ⟨az,H3,I3,n3⟩:=q3
   obtain ⟨m',hm,w3⟩:=hN az H3 n3
   exact ⟨m',hm,az,H3,I3,w3⟩
  |cont =>
   obtain ⟨az,H3,I3,n3⟩:=q3
   obtain ⟨m',hm,w3⟩:=hN az H3 n3
   exact ⟨m',hm,az,H3,I3,w3⟩
  |brk=>exact q3
  |ret v=>exact q3
 |false =>
  rw [zI Bool.false_ne_true]
  exact wpAny_execs_nil ⟨aw,H2,I2,q2⟩
end
structure It where
 go:Nat->Hp->Prop
 yld:Nat->Hp->V->Hp->Prop
 stop:Nat->Hp->Prop
def du (X:Cx) (pins:Ac) (H:Hp) (b:Addr):Prop :=
 H b=none/\b≠X.env.locals/\b∉X.fs/\(b∈X.ex\/X.s₀.heap.objs.size<=b)/\(∀x c,X.env.cells.lookup x=some c->c≠b)/\∀p∈X.pn++pins,p.1≠b
def Inv.fpOk {X:Cx}{pins:Ac}{U:St}{H H':Hp}{s:Shared}{b:Addr}(I:Inv X pins U H s) (hb:s.heap.objs.size<=b) (hn:H' b=none):du X pins H' b:=by
 refine ⟨hn,Nat.ne_of_gt (jE I.lt hb),I.nofs hb,.inr (jw I.sz hb),λx c e z=>?_,λp hp z=>?_⟩
 ·obtain ⟨v,q⟩:=I.cell x c e
  exact absurd (jE q.lt (by rw [z];exact hb)) (Nat.lt_irrefl _)
 ·exact absurd (jE (yt (I.pin p hp).1) (by rw [z];exact hb)) (Nat.lt_irrefl _)
structure Turn (P:Program) (w:World) (K:PySem.W.Frag) (tg:Expr) (J:It) (fp:Ae) (it:Addr) (tn:Nat->Heap->Prop):Prop where
 mem:it∈fp
 obj:∀i h,tn i h->∀b∈fp,∃o,h.get? b=some o/\∀v,o.data ≠ .cell v
 keep:∀i h h',tn i h->(∀b∈fp,∀o,h.get? b=some o->h'.get? b=some o)->tn i h'
 item:∀(X:Cx),X.prog=P->X.w=w->X.K=K->X.calm=true->∀(i:Nat) (pins:Ac) (s:Shared) (U:St) (H:Hp) (E:Aa),Inv X pins U H s->(∀b∈fp,du X pins H b)->tn i s.heap->J.go i H ->
  wpAny (model P w) X.A (pyNext (.ref it)) (λr s1=>∃u,r=some u /\
   wpAny (model P w) X.A (letOwnedTupleGo tg (.ref it) u) (λ_ s2=>∃x H',Inv X pins U H' s2/\RelV x u/\J.yld i H x H'/\tn (i+1) s2.heap/\∀b∈fp,H' b=none) E s1) E s
 done:∀(X:Cx),X.prog=P->X.w=w->X.K=K->X.calm=true->∀(i:Nat) (pins:Ac) (s:Shared) (U:St) (H:Hp) (E:Aa),Inv X pins U H s->(∀b∈fp,du X pins H b)->tn i s.heap->J.stop i H ->
  wpAny (model P w) X.A (pyNext (.ref it)) (λr s1=>r=none/\Inv X pins U H s1) E s
 self:∀(A:Around) (i:Nat) (s:Shared) (Q:Aa) (E:Aa),tn i s.heap->Q (.ref it) s->wpAny (model P w) A (pyIter (.ref it)) Q E s
abbrev TI:=St->Hp->(It->Hp->Prop)->Prop
def CQ (X:Cx) (pins:Ac) (U:St) (tg:Expr) (R:It->Hp->Prop) (sU:Value) (s2:Shared):Prop :=
 ∃(it:Addr) (fp:Ae) (tn:Nat->Heap->Prop) (J:It) (H':Hp),sU=.ref it/\Inv X pins U H' s2/\Turn X.prog X.w X.K tg J fp it tn/\tn 0 s2.heap/\(∀b∈fp,du X pins H' b)/\R J H'
def PI (X:Cx) (tg iter:Expr) (wi:TI):Prop :=
 ∀(pins:Ac) (s:Shared) (U:St) (H:Hp) (R:It->Hp->Prop),Inv X pins U H s->wi U H R ->
  wpAny (model X.prog X.w) X.A (eval iter X.env) (λv s1=>wpAny (model X.prog X.w) X.A (pyIter v) (CQ X pins U tg R) X.xe s1) X.xe s
def sV {M:Model}{A:Around}{E:Aa}{s:Shared}{tg:Expr}{it:Addr}{u:Value}{o:Obj}{n:String}{vs:Array Value}{Q:Unit->Shared->Prop}(ho:s.heap.get? it=some o) (hc:o.cls=.type n) (hd:o.data=.fields vs)
  (hn:["enumerate", "zip", "dict_itemiterator", "dict_reverseitemiterator", "odict_iterator", "itertools.zip_longest", "itertools.pairwise"].contains n=false) (hQ:Q () s):wpAny M A (letOwnedTupleGo tg (.ref it) u) Q E s:=by
 unfold letOwnedTupleGo
 cases tg<;>first
  |exact ye hQ
  | (cases u<;>first
    |exact ye hQ
    | (refine zu (wpAny_load ho ?_)
       rw [hc,hd]
       show wpAny M A (if (["enumerate", "zip", "dict_itemiterator", "dict_reverseitemiterator", "odict_iterator", "itertools.zip_longest", "itertools.pairwise"].contains n&&vs[0]?==some (rawInt _))=true then _ else _) Q E s
       rw [zI (by intro h;rw [hn,Bool.false_and] at h;cases h)]
       exact ye hQ))
def sW (K:PySem.W.Frag) (a:Addr):It :=
 ⟨λi H=>∃xs x,aZ K H a xs/\xs[i]?=some x,λi H x H'=>H'=H/\∀xs,aZ K H a xs->xs[i]?=some x,λi H=>∃xs,aZ K H a xs/\xs.length<=i⟩
def oI (K:PySem.W.Frag) (a:Addr):It :=
 ⟨λi H=>∃xs x,ba K H a xs/\xs[i]?=some x,λi H x H'=>H'=H/\∀xs,ba K H a xs->xs[i]?=some x,λi H=>∃xs,ba K H a xs/\xs.length<=i⟩
def p7 (lo:Int) (n:Nat):It:=⟨λi _=>i<n,λi H x H'=>H'=H/\x=.int (lo+i),λi _=>n<=i⟩
theorem Lp {P:Program}{w:World}{K:PySem.W.Frag}{tg:Expr}(a it:Addr):Turn P w K tg (sW K a) [it] it (λi h=>h.IsListIter it a i) where
 mem:=by simp
 obj:=λi h st b hb=>by
  have e:b=it:=by simpa using hb
  subst e
  obtain ⟨o,e,c,d⟩:=st
  exact ⟨o,e,λv z=>by rw [d] at z;cases z⟩
 keep:=λi h h' st k=>st.at λo e=>k it (by simp) o e
 item:=by
  intro X hP hw hK hc i pins s U H E I hf st hg
  subst hP hw hK
  obtain ⟨xs,x,hq,hx⟩:=hg
  obtain ⟨its,rv,p,hz⟩:=I.list hq
  obtain ⟨u,hu,ru⟩:=rv.get hx
  obtain ⟨f0,f1,f2,f3,f4,f5⟩:=hf it (by simp)
  refine wpAny_pyNext_list_item st p.isList (x:=u) (by simpa using hu) λh' bt sb=>?_
  have I1:Inv X pins U H { s with heap:=h' }:=I.turned (t':=s.toks) (λb o hb e=>(sb.2 b hb).trans e) f0 f1 f3 f4 f5
  obtain ⟨o,e,c,d⟩:=id bt
  exact ⟨u,rfl,sV (s:={ s with heap:=h' }) e c d (by decide) ⟨x,H,I1,ru,⟨rfl,λys hy=>by rw [I.list_inj hy hq];exact hx⟩,bt,λb hb=>(hf b hb).1⟩⟩
 done:=by
  intro X hP hw hK hc i pins s U H E I hf st hg
  subst hP hw hK
  obtain ⟨xs,hq,hx⟩:=hg
  obtain ⟨its,rv,p,hz⟩:=I.list hq
  obtain ⟨f0,f1,f2,f3,f4,f5⟩:=hf it (by simp)
  have hl:=rv.length
  exact wpAny_pyNext_list_end (I.ok.hd hc) st p.isList (by simp;omega) λh' eb=>⟨rfl,I.turned (t':=s.toks) (λb o hb e=>eb b o hb e) f0 f1 f3 f4 f5⟩
 self:=λ_ _ _ _ _ st h=>wpAny_pyIter_listiter st h
def Lq {P:Program}{w:World}{K:PySem.W.Frag}{tg:Expr}(a it:Addr):Turn P w K tg (oI K a) [it] it (λi h=>h.IsTupleIter it a i) where
 mem:=by simp
 obj:=λi h st b hb=>by
  have e:b=it:=by simpa using hb
  subst e
  obtain ⟨o,e,c,d⟩:=st
  exact ⟨o,e,λv z=>by rw [d] at z;cases z⟩
 keep:=λi h h' st k=>st.at λo e=>k it (by simp) o e
 item:=by
  intro X hP hw hK hc i pins s U H E I hf st hg
  subst hP hw hK
  obtain ⟨xs,x,hq,hx⟩:=hg
  obtain ⟨its,rv,p,hz⟩:=I.tuple hq
  obtain ⟨u,hu,ru⟩:=rv.get hx
  obtain ⟨f0,f1,f2,f3,f4,f5⟩:=hf it (by simp)
  refine wpAny_pyNext_tuple_item st (show s.heap.IsTuple a its.toArray from p) (x:=u) (by simpa using hu) λh' bt sb=>?_
  have I1:Inv X pins U H { s with heap:=h' }:=I.turned (t':=s.toks) (λb o hb e=>(sb.2 b hb).trans e) f0 f1 f3 f4 f5
  obtain ⟨o,e,c,d⟩:=id bt
  exact ⟨u,rfl,sV (s:={ s with heap:=h' }) e c d (by decide) ⟨x,H,I1,ru,⟨rfl,λys hy=>by rw [I.tuple_inj hy hq];exact hx⟩,bt,λb hb=>(hf b hb).1⟩⟩
 done:=by
  intro X hP hw hK hc i pins s U H E I hf st hg
  subst hP hw hK
  obtain ⟨xs,hq,hx⟩:=hg
  obtain ⟨its,rv,p,hz⟩:=I.tuple hq
  obtain ⟨f0,f1,f2,f3,f4,f5⟩:=hf it (by simp)
  have hl:=rv.length
  exact wpAny_pyNext_tuple_end (I.ok.hd hc) st (show s.heap.IsTuple a its.toArray from p) (by simp;omega) λh' eb=>⟨rfl,I.turned (t':=s.toks) (λb o hb e=>eb b o hb e) f0 f1 f3 f4 f5⟩
 self:=λ_ _ _ _ _ st h=>wpAny_pyIter_tupleiter st h
theorem Ls {P:Program}{w:World}{K:PySem.W.Frag}{tg:Expr}(it:Addr) (lo:Int) (n:Nat):Turn P w K tg (p7 lo n) [it] it (λi h=>IsRangeIter h it (lo+(i:Nat)*1) ((n:Int)-(i:Nat)) 1) where
 mem:=by simp
 obj:=λi h st b hb=>by
  have e:b=it:=by simpa using hb
  subst e
  exact ⟨_,st,λv z=>by
   have z':Data.fields _=Data.cell v:=z
   cases z'⟩
 keep:=λi h h' st k=>k it (by simp) _ st
 item:=by
  intro X hP hw hK hc i pins s U H E I hf st hg
  subst hP hw hK
  obtain ⟨f0,f1,f2,f3,f4,f5⟩:=hf it (by simp)
  have W:=Walks.range (prog:=X.prog) (w:=X.w) (I.ok.hd hc) it lo 1 n
  refine W.item i s _ _ hg st λv h' tk hv bt kk=>?_
  obtain ⟨t,rfl⟩:=hv
  have I1:Inv X pins U H { s with heap:=h',toks:=tk }:=I.turned (λb o hb e=>kk b o (by simpa using hb) e) f0 f1 f3 f4 f5
  refine ⟨_,rfl,sV (s:={ s with heap:=h',toks:=tk }) (n := "range_iterator") bt rfl rfl (by decide) ⟨.int (lo+i),H,I1,⟨t,?_⟩,⟨rfl,rfl⟩,bt,λb hb=>(hf b hb).1⟩⟩
  rw [Int.mul_one]
 done:=by
  intro X hP hw hK hc i pins s U H E I hf st hg
  subst hP hw hK
  obtain ⟨f0,f1,f2,f3,f4,f5⟩:=hf it (by simp)
  exact wpAny_pyNext_range_end (I.ok.hd hc) st (by have:n<=i:=hg;omega) λh' eb=>⟨rfl,I.turned (t':=s.toks) (λb o hb e=>eb b o hb e) f0 f1 f3 f4 f5⟩
 self:=λ_ _ _ _ _ st h=>wpAny_pyIter_rangeiter st h
section
variable {X:Cx} {tg:Expr}
theorem Lu {pins:Ac}{U:St}{H:Hp}{s:Shared}{R:It->Hp->Prop}{E:Aa}{lo hi:Int}{t u v:Tok}{tk:Nat}(I:Inv X pins U H s) (h1 : -(2 ^ 62)<=lo) (h2:lo<2 ^ 62) (h3 : -(2 ^ 62)<=hi) (h4:hi<2 ^ 62)
  (q:R (p7 lo (hi-lo).toNat) H):wpAny (model X.prog X.w) X.A (pyIter (.ref s.heap.objs.size)) (CQ X pins U tg R) E { s with heap:=s.heap.push { cls:=.type "range", data:=.fields #[.int lo t,.int hi u,.int 1 v] },toks:=tk }:=by
 refine wpAny_pyIter_range (IsRange.new ..) (small_one h1 h2 h3 h4) ?_
 have I1:Inv X pins U H { s with heap:=s.heap.push { cls:=.type "range", data:=.fields #[.int lo t,.int hi u,.int 1 v] },toks:=tk }:=I.kept λb o e=>yp _ e
 refine ⟨(s.heap.push { cls:=.type "range", data:=.fields #[.int lo t,.int hi u,.int 1 v] }).objs.size,[(s.heap.push { cls:=.type "range", data:=.fields #[.int lo t,.int hi u,.int 1 v] }).objs.size],_,_,H,rfl,
  I1.kept (t':=tk) λb o e=>yp _ e,Ls _ lo (hi-lo).toNat,?_,λb hb=>?_,q⟩
 ·have e1:lo+((0:Nat):Int)*1=lo:=by simp
  have e2:(((hi-lo).toNat:Nat):Int)-((0:Nat):Int)=Builtin.Range.rangeSize lo hi 1:=by rw [rangeSize_one];split<;>omega
  show IsRangeIter _ _ (lo+((0:Nat):Int)*1) ((((hi-lo).toNat:Nat):Int)-((0:Nat):Int)) 1
  rw [e1,e2]
  exact y4 _ rfl
 ·have e:b=(s.heap.push { cls:=.type "range", data:=.fields #[.int lo t,.int hi u,.int 1 v] }).objs.size:=by simpa using hb
  subst e
  exact I1.fpOk (yo _) (I1.hok.fresh (yo _))
def eL (ta:TA):TI:=λU H R=>ta U H λvs H1=>∃j:Int,vs=[.int j] /\ -(2 ^ 62)<=j/\j<2 ^ 62/\R (p7 0 j.toNat) H1
def vO (ta:TA):TI:=λU H R=>ta U H λvs H1=>∃i j:Int,vs=[.int i,.int j]/\(-(2 ^ 62)<=i/\i<2 ^ 62 /\ -(2 ^ 62)<=j/\j<2 ^ 62)/\R (p7 i (j-i).toNat) H1
theorem Lv {a:Expr} {ta:TA} {p pos:Pos} (hg:Gl X "range") (hm:X.mg "range" = none) (ha:PA X [a] ta) (hs:starEach [a] X.env=[(false,eval a X.env)]:=by rfl):PI X tg (.Call (.Name "range" p) [a] [] pos) (eL ta):=by
 intro pins s U H R I h
 refine Call_ (mH I hg hm boot_range (PyProof.Rows.callWith_type1 (aS (ha pos pins s U H _ I h) λus s1 ⟨vs,H1,I1,r1,q1⟩=>?_) hs rfl))
 obtain ⟨j,e,q1,q2,q⟩:=q1
 subst e
 cases r1 with
 |cons r rr =>
  cases rr
  obtain ⟨t,rfl⟩:=r
  exact call_range_1 (Lu I1 (by omega) (by omega) q1 q2 (by simpa using q))
def Lw (wi:TI) (g:TG) (tb:TS):TS:=λD U H=>wi U H λJ H1=>∃W:Nat->Nat->St->Hp->Prop,(∃m,W 0 m U H1)/\∀i m U H,W i m U H ->
 (J.stop i H/\D.nx U H)\/(J.go i H/\∃N:St->Hp->Prop,(∀ai H',N ai H'->∃m',m'<m/\W (i+1) m' ai H')/\∀x H',J.yld i H x H'->g x U H' λaD H2=>tb { D with nx:=N,ct:=N,bk:=D.nx } aD H2)
def gA (fp:Ae) (h:Heap):Ac:=fp.filterMap λb=>(h.get? b).map λo=>(b,o)
def p8 {fp:Ae}{h:Heap}{b:Addr}{o:Obj}(hb:b∈fp) (e:h.get? b=some o):(b,o)∈gA fp h:=List.mem_filterMap.mpr ⟨b,hb,by rw [e];rfl⟩
def Lx {fp:Ae}{h:Heap}{p:Addr×Obj}(hp:p∈gA fp h):p.1∈fp/\h.get? p.1=some p.2:=by
 obtain ⟨b,hb,e⟩:=List.mem_filterMap.mp hp
 cases q:h.get? b with
 |none=>rw [q] at e;cases e
 |some o =>
  rw [q] at e
  have e':(b,o)=p:=Option.some.inj e
  subst e'
  exact ⟨hb,q⟩
def Inv.pinned {pins:Ac}{U:St}{H:Hp}{s:Shared}{fp:Ae}(I:Inv X pins U H s) (hf:∀b∈fp,du X pins H b) (ho:∀b∈fp,∃o,s.heap.get? b=some o/\∀v,o.data ≠ .cell v):Inv X (pins++gA fp s.heap) U H s :=
 I.pins_of λp hp=>(yU.mp hp).elim (λz=>I.pin p (yR _ z)) λz=>by
  obtain ⟨hb,e⟩:=Lx z
  obtain ⟨f0,f1,f2,_⟩:=hf p.1 hb
  obtain ⟨o,e',d⟩:=ho p.1 hb
  rw [e] at e';cases e'
  exact ⟨e,f0,f1,f2,d⟩
def Inv.unpinned {pins pl:Ac}{U:St}{H:Hp}{s:Shared}(I:Inv X (pins++pl) U H s):Inv X pins U H s:=I.pins_of λp hp=>I.pin p (yR _ (jC _ hp))
def CS {iter:Expr}{body:List Stmt}{wi:TI}{g:TG}{tb:TS}{pos:Pos}(hp:PassesOwn (model X.prog X.w) X.A X.env X.xe) (hc:X.calm=true) (hi:PI X tg iter wi) (hg:PG X tg g) (hb:cA X body tb)
  (hs:∀x,foldedSetIterable iter X.env x=pure x:=by intro _;rfl):PS X (.For tg iter body [] pos) (Lw wi g tb):=by
 intro pins s U H D I h
 refine wpAny_For (aS (hi pins s U H _ I h) λv s1 h1=>aS h1 λsU s2 h2=>?_) hs
 obtain ⟨it,fp,tn,J,H2,e,I2,T,au,f2,W,⟨m0,w0⟩,turn⟩:=h2
 subst e
 have stat:∀{H':Hp},(∀b∈fp,H' b=none)->∀b∈fp,du X pins H' b:=λhn b hb=>⟨hn b hb,(f2 b hb).2⟩
 refine codeAny_forLoop_any (λn s'=>∃i ai H',Inv X pins ai H' s'/\tn i s'.heap/\(∀b∈fp,H' b=none)/\W i n ai H') ?_ m0 ⟨0,U,H2,I2,au,λb hb=>(f2 b hb).1,w0⟩
 rintro n s3 ⟨i,az,H3,I3,aY,k7,w3⟩
 rcases turn i n az H3 w3 with ⟨stop,qn⟩|⟨go,N,hN,step⟩
 ·refine wpAny_passesOwn hp (aS (T.done X rfl rfl rfl hc i pins s3 az H3 X.xe I3 (stat k7) aY stop) λr s4 ⟨hr,I4⟩=>?_)
  subst hr
  exact wpAny_execs_nil ⟨az,H3,I4,qn⟩
 ·refine wpAny_passesOwn hp (aS (T.item X rfl rfl rfl hc i pins s3 az H3 X.xe I3 (stat k7) aY go) λr s4 ⟨u,hr,h4⟩=>?_)
  subst hr
  refine wpAny_passesOwn hp (aS h4 λ_ s5 ⟨x,H5,I5,r5,y5,dN,p9⟩=>?_)
  have p_:=I5.pinned (stat p9) (T.obj _ _ dN)
  refine wpAny_passesOwn hp (aS (hg _ s5 az H5 x u _ p_ r5 (step x H5 y5)) λ_ s6 ⟨aH,H6,I6,q6⟩=>?_)
  refine wpAny_passesOwn hp (aS (hb _ s6 aH H6 _ I6 q6) λf s7 q7=>?_)
  have again:∀{ay:St} {H7:Hp},Inv X (pins++gA fp s5.heap) ay H7 s7->N ay H7->∃m,m<n/\∃i ai H',Inv X pins ai H' s7/\tn i s7.heap/\(∀b∈fp,H' b=none)/\W i m ai H':=λ{ay H7} I7 n7=>by
   obtain ⟨m',hm,w7⟩:=hN ay H7 n7
   refine ⟨m',hm,i+1,ay,H7,I7.unpinned,T.keep _ _ _ dN λb hb o e=>(I7.pin (b,o) (yR _ (yR _ (p8 hb e)))).1,λb hb=>?_,w7⟩
   obtain ⟨o,e,d⟩:=T.obj _ _ dN b hb
   exact (I7.pin (b,o) (yR _ (yR _ (p8 hb e)))).2.1
  cases f with
  |next=>obtain ⟨ay,H7,I7,n7⟩:=q7;exact again I7 n7
  |cont=>obtain ⟨ay,H7,I7,n7⟩:=q7;exact again I7 n7
  |brk=>obtain ⟨ay,H7,I7,q7⟩:=q7;exact ⟨ay,H7,I7.unpinned,q7⟩
  |ret v=>obtain ⟨x7,ay,H7,I7,r7,q7⟩:=q7;exact ⟨x7,ay,H7,I7.unpinned,r7,q7⟩
end
theorem dO {K:PySem.W.Frag}{a:Addr}{xs:List V}{g:TG}{tb:TS}{D:Ends}{U:St}{H:Hp}(Pv:Nat->St->Hp->Prop) (h0:Pv 0 U H) (hl:∀i U H,i<=xs.length->Pv i U H->ba K H a xs)
  (hs:∀i x U H,xs[i]?=some x->Pv i U H->g x U H λaD H2=>tb { D with nx:=Pv (i+1),ct:=Pv (i+1),bk:=D.nx } aD H2) (hd:∀U H,Pv xs.length U H->D.nx U H) :
  ∃W:Nat->Nat->St->Hp->Prop,(∃m,W 0 m U H)/\∀i m U H,W i m U H ->
   ((oI K a).stop i H/\D.nx U H)\/((oI K a).go i H/\∃N:St->Hp->Prop,(∀ai H',N ai H'->∃m',m'<m/\W (i+1) m' ai H')/\∀x H',(oI K a).yld i H x H'->g x U H' λaD H2=>tb { D with nx:=N,ct:=N,bk:=D.nx } aD H2):=by
 refine ⟨λi m U H=>m=xs.length-i/\i<=xs.length/\Pv i U H,⟨xs.length,by simp,jJ _,h0⟩,?_⟩
 rintro i m U H ⟨rfl,hi,p⟩
 have q:=hl i U H hi p
 by_cases bz:i<xs.length
 ·refine .inr ⟨⟨xs,xs[i],q,by simp [bz]⟩,Pv (i+1),λai H' p'=>⟨xs.length-(i+1),by omega,rfl,bz,p'⟩,λx H' y=>?_⟩
  obtain ⟨e,y⟩:=y
  subst e
  exact hs i x U _ (y xs q) p
 ·have e:i=xs.length:=by omega
  subst e
  exact .inl ⟨⟨xs,q,yo _⟩,hd U H p⟩
abbrev R2:=V->V->Hp->VK->Prop
def bh (X:Cx) (f:Value->Value->Sem Value) (r:R2):Prop :=
 ∀(pins:Ac) (s:Shared) (U:St) (H:Hp) (x y:V) (v u:Value) (Q:VK),Inv X pins U H s->RelV x v->RelV y u->r x y H Q ->
  wpAny (model X.prog X.w) X.A (f v u) (EP X pins U Q) X.xe s
def qa (X:Cx) (f:Value->Sem Value) (r:V->Hp->VK->Prop):Prop :=
 ∀(pins:Ac) (s:Shared) (U:St) (H:Hp) (x:V) (v:Value) (Q:VK),Inv X pins U H s->RelV x v->r x H Q ->
  wpAny (model X.prog X.w) X.A (f v) (EP X pins U Q) X.xe s
def bP (X:Cx) (f:Value) (r:List V->Hp->VK->Prop):Prop :=
 ∀(pins:Ac) (s:Shared) (U:St) (H:Hp) (xs:List V) (us:Af) (Q:VK),Inv X pins U H s->Vals xs us->r xs H Q ->
  wpAny (model X.prog X.w) X.A (call f us) (EP X pins U Q) X.xe s
def qb (r:R2) (ta tb:TE):TE:=λU H Q=>ta U H λx H1=>tb U H1 λy H2=>r x y H2 Q
def Ly (r:V->Hp->VK->Prop) (ta:TE):TE:=λU H Q=>ta U H λx H1=>r x H1 Q
def rI (C:Int->Int->Prop) (g:Int->Int->V):R2:=λx y H Q=>∃i j,x=.int i/\y=.int j/\C i j/\Q (g i j) H
def ia (g:Int->Int->V):R2:=λx y H Q=>∃i j,x=.int i/\y=.int j/\Q (g i j) H
def rU (g:Int->V):V->Hp->VK->Prop:=λx H Q=>∃i,x=.int i/\Q (g i) H
section
variable {X:Cx} {a b c:Expr} {ta tb tc:TE} {pos:Pos}
def qc (ha:PE X a ta) (hb:PE X b tb) {pins:Ac}{s:Shared}{U:St}{H:Hp}{R:V->V->Hp->Prop}(I:Inv X pins U H s)
  (h:ta U H λx H1=>tb U H1 λy H2=>R x y H2) {Q:Aa} {f:Value->Value->Sem Value}
  (hf:∀v u s2 x y H2,Inv X pins U H2 s2->RelV x v->RelV y u->R x y H2->wpAny (model X.prog X.w) X.A (f v u) Q X.xe s2) :
  wpAny (model X.prog X.w) X.A (eval a X.env) (λv ak=>wpAny (model X.prog X.w) X.A (eval b X.env) (λu af=>wpAny (model X.prog X.w) X.A (f v u) Q X.xe af) X.xe ak) X.xe s:=by
 refine aS (ha pins s U H _ I h) λv s1 ⟨x,H1,I1,r1,q1⟩=>?_
 refine aS (hb pins s1 U H1 _ I1 q1) λu s2 ⟨y,H2,I2,r2,q2⟩=>?_
 exact hf v u s2 x y H2 I2 r1 r2 q2
def Lz {op:Operator}{r:R2}(ho:bh X (binaryOp op) r) (ha:PE X a ta) (hb:PE X b tb):PE X (.BinOp a op b pos) (qb r ta tb):=by
 intro pins s U H Q I h
 exact wpAny_BinOp (qc ha hb I h λv u s2 x y H2 I2 rx ry q=>ho pins s2 U H2 x y v u Q I2 rx ry q)
def LA {op:UnaryOp}{r:V->Hp->VK->Prop}(ho:qa X (unaryOp op) r) (ha:PE X a ta):PE X (.UnaryOp op a pos) (Ly r ta):=by
 intro pins s U H Q I h
 exact UnaryOp_ (aS (ha pins s U H _ I h) λv s1 ⟨x,H1,I1,r1,q1⟩=>ho pins s1 U H1 x v Q I1 r1 q1)
def opI {f:Value->Value->Sem Value}{C:Int->Int->Prop}{g:Int->Int->Int}
  (rule:∀(i j:Int) (t u:Tok) (s:Shared) (Q:Aa) (E:Aa),C i j->Q (.int (g i j) s.toks) { s with toks:=s.toks+1 }->wpAny (model X.prog X.w) X.A (f (.int i t) (.int j u)) Q E s) :
  bh X f (rI C λi j=>.int (g i j)):=by
 intro pins s U H x y v u Q I rx ry h
 obtain ⟨i,j,rfl,rfl,hc,q⟩:=h
 obtain ⟨t,rfl⟩:=rx
 obtain ⟨t',rfl⟩:=ry
 exact rule i j t t' s _ _ hc ⟨.int (g i j),H,I.tok _,⟨_,rfl⟩,q⟩
def sX {f:Value->Value->Sem Value}{g:Int->Int->Int}
  (rule:∀(i j:Int) (t u:Tok) (s:Shared) (Q:Aa) (E:Aa),Q (.int (g i j) s.toks) { s with toks:=s.toks+1 }->wpAny (model X.prog X.w) X.A (f (.int i t) (.int j u)) Q E s) :
  bh X f (ia λi j=>.int (g i j)):=by
 intro pins s U H x y v u Q I rx ry h
 obtain ⟨i,j,rfl,rfl,q⟩:=h
 obtain ⟨t,rfl⟩:=rx
 obtain ⟨t',rfl⟩:=ry
 exact rule i j t t' s _ _ ⟨.int (g i j),H,I.tok _,⟨_,rfl⟩,q⟩
def CT {f:Value->Value->Sem Value}{g:Int->Int->Bool}
  (rule:∀(i j:Int) (t u:Tok) (s:Shared) (Q:Aa) (E:Aa),Q (.bool (g i j)) s->wpAny (model X.prog X.w) X.A (f (.int i t) (.int j u)) Q E s) :
  bh X f (ia λi j=>.bl (g i j)):=by
 intro pins s U H x y v u Q I rx ry h
 obtain ⟨i,j,rfl,rfl,q⟩:=h
 obtain ⟨t,rfl⟩:=rx
 obtain ⟨t',rfl⟩:=ry
 exact rule i j t t' s _ _ ⟨.bl (g i j),H,I,rfl,q⟩
def vw (i j:Int):Prop:=0<=j/\j<=1000000/\i.natAbs<2 ^ 64
def n_ (i j:Int):Prop:=(-(2 ^ 64)<i/\i<2 ^ 64)\/(-(2 ^ 64)<j/\j<2 ^ 64)
def n_.ok {i j:Int}(h:n_ i j):IntMulOk i j:=by
 rcases h with ⟨h1,h2⟩|⟨h1,h2⟩
 ·exact .of_left (intBits_le_64 h1 h2)
 ·exact .of_right (intBits_le_64 h1 h2)
def LC (k:Nat):(0:Int)<=2 ^ k:=by
 rw [two_pow_cast]
 exact Int.natCast_nonneg _
def fO:bh X (binaryOp .Add) (ia λi j=>.int (i+j)):=sX λ_ _ _ _ _ _ _ q=>add_int q
def LD:bh X (binaryOp .Sub) (ia λi j=>.int (i-j)):=sX λ_ _ _ _ _ _ _ q=>sub_int q
def fP:bh X (binaryOp .Mult) (rI n_ λi j=>.int (i*j)):=opI λ_ _ _ _ _ _ _ hc q=>mul_int q hc.ok
def LF:bh X (binaryOp .Mod) (rI (λ_ j=>j≠0) λi j=>.int (i.fmod j)):=opI λ_ _ _ _ _ _ _ hc q=>mod_int' hc q
def LG:bh X (binaryOp .Pow) (rI vw λi j=>.int (i ^ j.toNat)):=opI λ_ _ _ _ _ _ _ hc q=>pow_int_small hc.1 hc.2.1 hc.2.2 q
def LH:bh X (binaryOp .LShift) (rI vw λi j=>.int (i*2 ^ j.toNat)):=opI λ_ _ _ _ _ _ _ hc q=>lshift_int_small hc.1 hc.2.1 hc.2.2 q
def LI:bh X (binaryOp .RShift) (rI (λ_ j=>0<=j) λi j=>.int (i/2 ^ j.toNat)):=opI λi j _ _ _ _ _ hc q =>
 rshift_int hc (by rw [Int.fdiv_eq_ediv_of_nonneg i (LC _)];exact q)
def LJ:bh X (binaryOp .BitAnd) (ia λi j=>.int (Builtin.bitAnd i j)):=sX λ_ _ _ _ _ _ _ q=>and_int q
def LK:bh X (binaryOp .BitOr) (ia λi j=>.int (Builtin.bitOr i j)):=sX λ_ _ _ _ _ _ _ q=>or_int q
def LM {f:Value->Sem Value}{g:Int->Int}
  (rule:∀(i:Int) (t:Tok) (s:Shared) (Q:Aa) (E:Aa),Q (.int (g i) s.toks) { s with toks:=s.toks+1 }->wpAny (model X.prog X.w) X.A (f (.int i t)) Q E s) :
  qa X f (rU λi=>.int (g i)):=by
 intro pins s U H x v Q I rx h
 obtain ⟨i,rfl,q⟩:=h
 obtain ⟨t,rfl⟩:=rx
 exact rule i t s _ _ ⟨.int (g i),H,I.tok _,⟨_,rfl⟩,q⟩
def LO:qa X (unaryOp .USub) (rU λi=>.int (-i)):=LM λ_ _ _ _ _ q=>neg_int q
def CU {pins:Ac}{U:St}{H:Hp}{s:Shared}{Q:VK}{k k':Bool}(I:Inv X pins U H s) (q:Q (.bl k) H) (e:k=k'):EP X pins U Q (.bool k') s:=by
 subst e
 exact ⟨.bl k,H,I,rfl,q⟩
def LU:bh X (compareOp .Lt) (ia λi j=>.bl (decide (i<j))):=CT λ_ _ _ _ _ _ _ q=>lt_int q
def LV:bh X (compareOp .Gt) (ia λi j=>.bl (decide (j<i))):=CT λ_ _ _ _ _ _ _ q=>gt_int q
def LW:bh X (compareOp .In) (λx y H Q=>∃i j,x=.str i/\y=.str j/\Q (.bl (!(Builtin.Str.occurrences j i 0 j.length 1).isEmpty)) H):=by
 intro pins s U H x y v u Q I rx ry h
 obtain ⟨i,j,rfl,rfl,q⟩:=h
 obtain ⟨t,rfl⟩:=rx
 obtain ⟨t',rfl⟩:=ry
 exact in_str (CU I q rfl)
def LX:bh X (compareOp .IsNot) (λx y H Q=>y=.non/\Q (.bl (!decide (x=.non))) H):=by
 intro pins s U H x y v u Q I rx ry h
 obtain ⟨rfl,q⟩:=h
 cases ry
 refine isnot_none_gen (CU I q ?_)
 cases x<;>first
  | (cases rx;rfl)
  | (obtain ⟨t,rfl⟩:=rx;rfl)
def bh.or {f:Value->Value->Sem Value}{r r':R2}(h:bh X f r) (h':bh X f r'):bh X f (λx y H Q=>r x y H Q\/r' x y H Q):=by
 intro pins s U H x y v u Q I rx ry q
 rcases q with q|q
 ·exact h pins s U H x y v u Q I rx ry q
 ·exact h' pins s U H x y v u Q I rx ry q
def og (b:Expr) {op:CmpOp}(h:op ≠ .In:=by decide) (h2:op ≠ .NotIn:=by decide):behindInMarks op b=false:=by
 have e1:(op==CmpOp.In)=false:=by cases op<;>first|rfl|exact absurd rfl h
 have e2:(op==CmpOp.NotIn)=false:=by cases op<;>first|rfl|exact absurd rfl h2
 cases b<;>simp [behindInMarks,e1,e2]
def LY {op:CmpOp}{r:R2}(ho:bh X (compareOp op) r) (ha:PE X a ta) (hb:PE X b tb) (hm:behindInMarks op b=false):PE X (.Compare a [op] [b] pos) (qb r ta tb):=by
 intro pins s U H Q I h
 exact wpAny_Compare1 (qc ha hb I h λv u s2 x y H2 I2 rx ry q=>ho pins s2 U H2 x y v u Q I2 rx ry q) hm
def LZ (t:TE):TT:=λU H Q=>t U H λx H'=>∃k,x=.bl k/\Q k H'
def CV {op:CmpOp}{r:R2}(ho:bh X (compareOp op) r) (ha:PE X a ta) (hb:PE X b tb) (hm:behindInMarks op b=false):PT X (.Compare a [op] [b] pos) (LZ (qb r ta tb)):=by
 intro pins s U H Q I h
 refine wpAny_isTrue_Compare1 (aS (ha pins s U H _ I h) λv s1 ⟨x,H1,I1,r1,q1⟩=>aS (hb pins s1 U H1 _ I1 q1) λu s2 ⟨y,H2,I2,r2,q2⟩ =>
  aS (ho pins s2 U H2 x y v u _ I2 r1 r2 q2) λc s3 ⟨z,H3,I3,r3,k,e,q3⟩=>?_) hm
 subst e
 cases r3
 exact oB ⟨H3,I3,q3⟩
def CW (r r':R2) (ta tb tc:TE):TE:=λU H Q=>ta U H λx H1=>tb U H1 λy H2=>r x y H2 λz H3=>∃k,z=.bl k /\
 (if k=true then tc U H3 λw' H4=>r' y w' H4 Q else Q (.bl false) H3)
def L3 {op er:CmpOp}{r r':R2}(ho:bh X (compareOp op) r) (ho':bh X (compareOp er) r') (ha:PE X a ta) (hb:PE X b tb) (hc:PE X c tc)
  (hm:lastMarks [op,er] [b,c]=false:=by with_unfolding_all rfl):PE X (.Compare a [op,er] [b,c] pos) (CW r r' ta tb tc):=by
 intro pins s U H Q I h
 refine Compare_chain (aS (ha pins s U H _ I h) λv s1 ⟨x,H1,I1,r1,q1⟩=>chain_link (aS (hb pins s1 U H1 _ I1 q1) λu s2 ⟨y,H2,I2,r2,q2⟩ =>
  aS (ho pins s2 U H2 x y v u _ I2 r1 r2 q2) λd s3 ⟨z,H3,I3,r3,k,e,q3⟩=>?_)) hm
 subst e
 cases r3
 refine oB ?_
 cases k with
 |false=>exact ite_ff ⟨.bl false,H3,I3,rfl,q3⟩
 |true=>exact ite_tt (chain_last (aS (hc pins s3 U H3 _ I3 q3) λw' s4 ⟨z',H4,I4,r4,q4⟩=>ho' pins s4 U H4 y z' u w' Q I4 r2 r4 q4))
def sY:(sizeLine:Nat)<2 ^ 63:=by rw [sizeLine_eq];decide
def L4:bh X (binaryOp .Add) (λx y H Q=>∃i j,x=.str i/\y=.str j/\i.length+j.length<=sizeLine/\Q (.str (i++j)) H):=by
 intro pins s U H x y v u Q I rx ry h
 obtain ⟨i,j,rfl,rfl,hz,q⟩:=h
 obtain ⟨t,rfl⟩:=rx
 obtain ⟨t',rfl⟩:=ry
 exact add_str (λt' tk=>⟨.str (i++j),H,I.tok _,⟨_,rfl⟩,q⟩) hz
def wD {x:V}{us:Af}(r:Vals [x] us):∃u,us=[u]/\RelV x u:=by
 cases r with
 |cons r1 r2=>cases r2;exact ⟨_,rfl,r1⟩
def CY {x y:V}{us:Af}(r:Vals [x,y] us):∃u w',us=[u,w']/\RelV x u/\RelV y w':=by
 cases r with
 |cons r1 r2 =>
  cases r2 with
  |cons r3 r4=>cases r4;exact ⟨_,_,rfl,r1,r3⟩
def L5:bP X (.builtin "abs") (λxs H Q=>∃i,xs=[.int i]/\Q (.int (if i<0 then -i else i)) H):=by
 intro pins s U H xs us Q I r h
 obtain ⟨i,rfl,q⟩:=h
 obtain ⟨u,rfl,t,rfl⟩:=wD r
 exact call_abs_int λu tk=>⟨.int (if i<0 then -i else i),H,I.tok _,⟨_,rfl⟩,q⟩
def L6:bP X (.type "int") (λxs H Q=>(∃i,xs=[.int i]/\Q (.int i) H)\/∃k,xs=[.bl k]/\Q (.int (if k then 1 else 0)) H):=by
 intro pins s U H xs us Q I r h
 rcases h with ⟨i,rfl,q⟩|⟨k,rfl,q⟩
 ·obtain ⟨u,rfl,t,rfl⟩:=wD r
  exact call_int_int ⟨.int i,H,I,⟨_,rfl⟩,q⟩
 ·obtain ⟨u,rfl,r1⟩:=wD r
  cases r1
  exact call_int_bool ⟨.int (if k then 1 else 0),H,I.tok _,⟨_,rfl⟩,q⟩
def L7:bP X (.type "str") (λxs H Q=>∃i,xs=[.int i]/\i.natAbs.log2<1920/\Q (.str (toString i)) H):=by
 intro pins s U H xs us Q I r h
 obtain ⟨i,rfl,hz,q⟩:=h
 obtain ⟨u,rfl,t,rfl⟩:=wD r
 exact PySem.P.str_of_int hz ⟨.str _,H,I.tok _,⟨_,rfl⟩,q⟩
def CZ (K:PySem.W.Frag) (x:V) (H:Hp) (n:Nat):Prop :=
 match x with
 |.str y=>y.length<=sizeLine/\n=y.length
 |.byt y=>y.size<=sizeLine/\n=y.size
 |.ref p=>(∃xs,aZ K H p xs/\n=xs.length)\/∃xs,ba K H p xs/\n=xs.length
 |_=>False
theorem L8:bP X (.builtin "len") (λxs H Q=>∃x n,xs=[x]/\CZ X.K x H n/\Q (.int n) H):=by
 intro pins s U H xs us Q I r h
 obtain ⟨x,n,rfl,e,q⟩:=h
 obtain ⟨u,rfl,rx⟩:=wD r
 have hl:=sY
 have hs:sizeLine=16777216:=sizeLine_eq
 cases x with
 |str y =>
  obtain ⟨t,rfl⟩:=rx
  obtain ⟨hy,e'⟩:y.length<=sizeLine/\n=y.length:=e
  subst e'
  exact len_str (by omega) ⟨.int _,H,I.tok _,⟨_,rfl⟩,q⟩
 |byt y =>
  obtain ⟨t,rfl⟩:=rx
  obtain ⟨hy,e'⟩:y.size<=sizeLine/\n=y.size:=e
  subst e'
  exact PySem.W.len_bytes (by omega) ⟨.int _,H,I.tok _,⟨_,rfl⟩,q⟩
 |ref p =>
  cases rx
  have e':(∃xs,aZ X.K H p xs/\n=xs.length)\/∃xs,ba X.K H p xs/\n=xs.length:=e
  rcases e' with ⟨xs,hx,e'⟩|⟨xs,hx,e'⟩
  ·subst e'
   obtain ⟨its,r',pl,hz⟩:=I.list hx
   have hlen:=r'.length
   exact Calls.call_len_list pl.isList (by simp only [y9];omega) ⟨.int xs.length,H,I.tok _,⟨_,by simp only [y9];rw [hlen]⟩,q⟩
  ·subst e'
   obtain ⟨its,r',pl,hz⟩:=I.tuple hx
   have hlen:=r'.length
   exact len_tuple pl (by simp only [y9];omega) ⟨.int xs.length,H,I.tok _,⟨_,by simp only [y9];rw [hlen]⟩,q⟩
 |_=>exact (show False from e).elim
end
structure gH (h:Heap) (x dx C:Addr) (mA:Ab):Prop where
 obj:h.get? x=some (PySem.W.instObj C dx)
 ns:h.Ns1 dx mA
 ne:dx≠x
def C4 {h:Heap}{dx:Addr}{mA:Ab}(n:h.Ns1 dx mA):∃od,h.get? dx=some od/\∀name,PySem.W.lookIn name od=some (mA name):=by
 obtain ⟨o,es,ep,ho,hd,hk,_,hm⟩:=n
 refine ⟨o,ho,λname=>?_⟩
 have e:=hm name
 unfold nsFind findBy at e
 rw [<-Array.find?_toList] at e
 unfold PySem.W.lookIn
 rw [hd]
 dsimp only
 split
 ·rename_i y q
  rw [q] at e
  exact congrArg some e
 ·rename_i q
  rw [q] at e
  have a:es.toList.any (·.refKey)=false:=by
   rw [List.any_eq_false]
   intro y hy
   obtain ⟨z,t,C5⟩:=hk y (Array.mem_toList_iff.mp hy)
   simp [DictEntry.refKey,C5]
  have a':¬es.toList.any (·.refKey)=true:=by rw [a];exact Bool.false_ne_true
  rw [zI a']
  exact congrArg some e
def gH.look {h:Heap}{x dx C:Addr}{mA:Ab}(I:gH h x dx C mA):∃od,PySem.W.InstAt h x (PySem.W.instObj C dx) C (some od)/\∀name,PySem.W.lookIn name od=some (mA name) :=
 let ⟨od,ho,hl⟩:=C4 I.ns
 ⟨od,⟨I.obj,rfl,rfl,ho⟩,hl⟩
section
variable {prog:Program} {w:World} {A:Around} {E:Aa} {s:Shared} {K:PySem.W.Frag} {x dx C f:Addr} {mA:Ab} {name:Str} {v:Value}
def L9 {expr:Bool}{Q:Aa}(X:K.In s.heap) (I:gH s.heap x dx C mA) (hg:PySem.W.plainGet K C name=true) (hh:PySem.W.hasDictIn K C=true)
  (ha:PySem.W.findIn K (.ref C) name=some none) (hv:mA name=some v) (L_:PySem.W.handedIn v=true) (h:Q v { s with toks:=s.toks+1 }) :
  wpAny (model prog w) A (getAttr (.ref x) name expr) Q E s:=by
 obtain ⟨od,J,hl⟩:=I.look
 exact PySem.W.get_value X J (PySem.W.plainGet_of hg).1 (PySem.W.findObj_own hh ha rfl (by rw [hl,hv])) L_ h
def Ma {pl:Sem Bool}{Q:Value×List Value->Shared->Prop}(X:K.In s.heap) (I:gH s.heap x dx C mA) (hg:PySem.W.plainGet K C name=true)
  (hf:PySem.W.findIn K (.ref C) name=some (some (.ref f))) (ht:PySem.W.isFn K (.ref f)=true) (hv:mA name=none) (h:Q (.ref f,[.ref x]) s) :
  wpAny (model prog w) A (getMethod (.ref x) name pl) Q E s:=by
 obtain ⟨od,J,hl⟩:=I.look
 exact PySem.W.method_fn X J (PySem.W.plainGet_of hg).1 (PySem.W.plainGet_of hg).2 hf (beq_iff_eq.mp ht) (by show (PySem.W.lookIn name od).map (·.isSome)=some false;rw [hl,hv];rfl) h
theorem Mb {ns:Ad}{Q:Unit->Shared->Prop}(X:K.In s.heap) (I:gH s.heap x dx C mA)
  (hs:PySem.W.findIn K (.ref C) "__setattr__" = some (some (.builtin "object.__setattr__"))) (hp:PySem.W.plainOver K C=true) (ht:PySem.W.takerIn K C name=some none) (hh:PySem.W.hasDictIn K C=true)
  (hw:PySem.Within mA ns) (hsz:ns.length<=sizeLine)
  (h:∀h',gH h' x dx C (λy=>if y=name then some v else mA y)->Heap.SameBut dx s.heap h'->Q () { s with heap:=h',toks:=s.toks+2 }) :
  wpAny (model prog w) A (setAttr (.ref x) name v) Q E s:=by
 obtain ⟨od,J,hl⟩:=I.look
 refine PySem.W.set_plain X J hs (PySem.W.osa_open (s:={ s with toks:=s.toks+1 }) (r:=none) X J hp ht λb=>?_)
 obtain ⟨cd,hc,cW⟩:=PySem.W.any_some hh
 have hx:s.heap.get? x=some ⟨.ref C,some dx,.plain,#[]⟩:=I.obj
 refine zu (ye (zu (zu (wpAny_loadPart hx (zu (PySem.W.Looks.here (s:={ s with toks:=s.toks+1 }) (PySem.W.looks_clsIn X hc) ?_))))))
 rw [cW]
 refine ye (a:=some dx) (zu (ye (zu ?_)))
 refine wpAny_nsSet1 (s:={ s with toks:=s.toks+1 }) I.ns λh' f_ ib=>?_
 obtain ⟨oD,Mc,Md,vP,vQ,vR⟩:=f_.count (PySem.Within.cons name v hw)
 refine zu (wpAny_lookBehind vP (by rw [vQ];exact pastItsLine_dict (jw vR (by rw [wM];omega))) ?_)
 exact ye (h _ ⟨(ib.2 _ (yz I.ne)).trans I.obj,f_,I.ne⟩ ib)
def Me {R:Result->Shared->Prop}{vs:Af}{kw:List (Str×Value)}(X:K.In s.heap) (hm:PySem.W.makesIn K C=true)
  (hi:PySem.W.findIn K (.ref C) "__init__" = some (some (.ref f))) (hf:PySem.W.typeIn K (.ref f)=some (.type "function"))
  (h:codeAny (model prog w) (A.under (.builtin "type.__call__" ⟨.ref C::vs,kw⟩)) (.call (.ref f) ⟨.ref (s.heap.objs.size+1)::vs,kw⟩) (PySem.W.InitBack (s.heap.objs.size+1) R)
   { s with heap:=(s.heap.push PySem.W.emptyDict).push (PySem.W.instObj C s.heap.objs.size) }) :
  codeAny (model prog w) A (.call (.ref C) ⟨vs,kw⟩) R s:=by
 obtain ⟨hh,g,d,t,os⟩:=s
 exact PySem.W.make_core (PySem.W.makes_of X hm) (PySem.W.looks_findIn X hi) (λself=>PySem.W.bind_fn X self hf) (.inl rfl) h
end
def cL (f:Str) (v:V):List (Str×V)->List (Str×V)
 |[]=>[(f,v)]
 | (g,x)::r=>if g=f then (g,v)::r else (g,x)::cL f v r
theorem C6 (f g:Str) (v:V):∀fs:List (Str×V),(cL f v fs).lookup g=if g=f then some v else fs.lookup g
 |[]=>by
  show List.lookup g [(f,v)]=_
  by_cases h:g=f
  ·have hb:(g==f)=true:=beq_iff_eq.mpr h
   simp only [List.lookup,hb,zw h]
  ·have hb:(g==f)=false:=beq_eq_false_iff_ne.mpr h
   simp only [List.lookup,hb,zI h]
 | (k,x)::r=>by
  have ih:=C6 f g v r
  rw [show cL f v ((k,x)::r)=(if k=f then (k,v)::r else (k,x)::cL f v r) from rfl]
  by_cases hk:k=f
  ·rw [zw hk]
   by_cases h:g=k
   ·have hb:(g==k)=true:=beq_iff_eq.mpr h
    simp only [List.lookup,hb,zw (h.trans hk)]
   ·have hb:(g==k)=false:=beq_eq_false_iff_ne.mpr h
    simp only [List.lookup,hb,zI (λe:g=f=>h (e.trans hk.symm))]
  ·rw [zI hk]
   by_cases h:g=k
   ·have hb:(g==k)=true:=beq_iff_eq.mpr h
    simp only [List.lookup,hb,zI (λe:g=f=>hk (h.symm.trans e))]
   ·have hb:(g==k)=false:=beq_eq_false_iff_ne.mpr h
    simp only [List.lookup,hb]
    exact ih
theorem vS (f:Str) (v:V):∀fs:List (Str×V),f∈(cL f v fs).map (·.1)/\∀g,g∈fs.map (·.1)->g∈(cL f v fs).map (·.1)
 |[]=>⟨by simp [cL],λg h=>by simp at h⟩
 | (k,x)::r=>by
  obtain ⟨i1,i2⟩:=vS f v r
  rw [show cL f v ((k,x)::r)=(if k=f then (k,v)::r else (k,x)::cL f v r) from rfl]
  by_cases hk:k=f
  ·rw [zw hk]
   subst hk
   exact ⟨by simp,λg h=>by simpa using h⟩
  ·rw [zI hk]
   refine ⟨?_,λg h=>?_⟩
   ·rw [yK]
    exact jg _ i1
   ·rw [yK] at h ⊢
    rcases yE.mp h with e|e
    ·exact yE.mpr (.inl e)
    ·exact jg _ (i2 g e)
theorem C7 (f:Str) (v:V):∀fs:List (Str×V),(cL f v fs).length<=fs.length+1
 |[]=>by simp [cL]
 | (k,x)::r=>by
  have ih:=C7 f v r
  rw [show cL f v ((k,x)::r)=(if k=f then (k,v)::r else (k,x)::cL f v r) from rfl]
  by_cases hk:k=f
  ·rw [zw hk,wM,wM];omega
  ·rw [zI hk,wM,wM];omega
def cK.some_of {v:V}{o:Option Value}(r:cK (some v) o):∃u,o=some u/\RelV v u:=by
 cases o with
 |none=>exact (show False from r).elim
 |some u=>exact ⟨u,rfl,r⟩
def cK.none_of {o:Option Value}(r:cK none o):o=none:=by
 cases o with
 |none=>rfl
 |some u=>exact (show False from r).elim
def C8 {v:V}{u:Value}(r:RelV v u):PySem.W.handedIn u=true:=by
 cases v with
 |non=>cases (show u=Value.none from r);rfl
 |bl b=>cases (show u=Value.bool b from r);rfl
 |int i=>obtain ⟨t,e⟩:=(show ∃t,u=Value.int i t from r);cases e;rfl
 |str x=>obtain ⟨t,e⟩:=(show ∃t,u=Value.str x t from r);cases e;rfl
 |byt b=>obtain ⟨t,e⟩:=(show ∃t,u=Value.bytes b t from r);cases e;rfl
 |flt b=>obtain ⟨t,e⟩:=(show ∃t,u=Value.float b t from r);cases e;rfl
 |ref a=>cases (show u=Value.ref a from r);rfl
 |ty n=>cases (show u=Value.type n from r);rfl
section
variable {P:Program} {w:World} {H:Hp} {h:Heap} {a C dx:Addr} {fs:List (Str×V)}
def sZ (hok:cu P w H h) (e:H a=some (.ins C dx fs)):∃mA,gH h a dx C mA/\(∀f,cK (fs.lookup f) (mA f))/\PySem.Within mA (fs.map (·.1))/\fs.length<=1000/\H dx=some (.own a):=by
 obtain ⟨d,z,ne,ob,mA,n,r,q⟩:=(show aW P w H h a (.ins C dx fs) from hok a _ e)
 exact ⟨mA,⟨ob,n,ne⟩,r,q,z,d⟩
end
structure fE (K:PySem.W.Frag) (C:Addr):Prop where
 pg:PySem.W.plainGet K C Str.empty=true
 hd:PySem.W.hasDictIn K C=true
 po:PySem.W.plainOver K C=true
 sa:PySem.W.findIn K (.ref C) "__setattr__" = some (some (.builtin "object.__setattr__"))
def fE.get {K:PySem.W.Frag}{C:Addr}(c:fE K C) (f:Str):PySem.W.plainGet K C f=true:=c.pg
def dH (K:PySem.W.Frag) (C:Addr) (f:Str):Prop:=PySem.W.findIn K (.ref C) f=some none
def dH.taker {K:PySem.W.Frag}{C:Addr}{f:Str}(n:dH K C f):PySem.W.takerIn K C f=some none:=by
 unfold PySem.W.takerIn
 rw [show PySem.W.findIn K (.ref C) f=some none from n]
 rfl
structure Y_ (K:PySem.W.Frag) (C:Addr) (f:Str) (v:V) (u:Value):Prop where
 at_:PySem.W.findIn K (.ref C) f=some (some u)
 rel:RelV v u
 get:PySem.W.specialIn K u "__get__" = some none
 cp:PySem.W.copiedNames.contains f=false
structure Meth (K:PySem.W.Frag) (C:Addr) (m:Str) (f:Addr):Prop where
 at_:PySem.W.findIn K (.ref C) m=some (some (.ref f))
 fn:PySem.W.isFn K (.ref f)=true
 kp:PySem.W.keepIn K (.ref f)=true
section
variable {X:Cx} {pins:Ac} {U:St} {H:Hp} {s:Shared} {a C dx:Addr} {fs:List (Str×V)} {f:Str} {v:V} {A:Around} {E:Aa}
def Mf {b:Bool}{Q:Aa}(I:Inv X pins U H s) (e:H a=some (.ins C dx fs)) (c:fE X.K C) (n:dH X.K C f) (l:fs.lookup f=some v)
  (h:∀u s',Inv X pins U H s'->RelV v u->Q u s'):wpAny (model X.prog X.w) A (getAttr (.ref a) f b) Q E s:=by
 obtain ⟨mA,O,r,_,_,_⟩:=sZ I.hok e
 obtain ⟨u,hu,ru⟩:=cK.some_of (v:=v) (o:=mA f) (by rw [<-l];exact r f)
 exact L9 I.kIn O (c.get f) c.hd n hu (C8 ru) (h u _ (I.tok _) ru)
def vU {m:Str}{g:Addr}{pl:Sem Bool}{Q:Value×List Value->Shared->Prop}(I:Inv X pins U H s) (e:H a=some (.ins C dx fs)) (c:fE X.K C) (k:Meth X.K C m g) (l:fs.lookup m=none)
  (h:Q (.ref g,[.ref a]) s):wpAny (model X.prog X.w) A (getMethod (.ref a) m pl) Q E s:=by
 obtain ⟨mA,O,r,_,_,_⟩:=sZ I.hok e
 have hn:mA m=none:=cK.none_of (by rw [<-l];exact r m)
 exact Ma I.kIn O (c.get m) k.at_ k.fn hn h
theorem Mh {y:V}{u:Value}{Q:Unit->Shared->Prop}(I:Inv X pins U H s) (e:H a=some (.ins C dx fs)) (c:fE X.K C) (n:dH X.K C f) (hl:fs.length<1000) (ry:RelV y u)
  (h:∀s',Inv X pins U (upd H a (.ins C dx (cL f y fs))) s'->Q () s'):wpAny (model X.prog X.w) A (setAttr (.ref a) f u) Q E s:=by
 obtain ⟨mA,O,r,wi,_,ho⟩:=sZ I.hok e
 have hz:(fs.map (·.1)).length<=sizeLine:=by rw [jD,sizeLine_eq];omega
 refine Mb I.kIn O c.sa c.po n.taker c.hd wi hz λh' O' sb=>h _ ?_
 have hd:∃o,h'.get? dx=some o:=let ⟨o,_,_,e',_⟩:=O'.ns;⟨o,e'⟩
 refine I.write (x:=a) (e:=dx) (by rw [e];exact True.intro) (.inr ho) (λb q hb z=>(sb.2 b hb).trans z) hd ?_
 refine ⟨by rw [yi O.ne];exact ho,?_,O.ne,O'.obj,_,O'.ns,λg=>?_,λg hg=>?_⟩
 ·have:=C7 f y fs;omega
 ·show cK ((cL f y fs).lookup g) (if g=f then some u else mA g)
  rw [C6]
  by_cases q:g=f
  ·rw [zw q,zw q];exact ry
  ·rw [zI q,zI q];exact r g
 ·by_cases q:g=f
  ·rw [q];exact (vS f y fs).1
  ·refine (vS f y fs).2 g (wi g λz=>hg ?_)
   show (if g=f then some u else mA g)=none
   rw [zI q];exact z
def Inv.made (I:Inv X pins U H s):Inv X pins U (upd (upd H s.heap.objs.size (.own (s.heap.objs.size+1))) (s.heap.objs.size+1) (.ins C s.heap.objs.size []))
  { s with heap:=(s.heap.push PySem.W.emptyDict).push (PySem.W.instObj C s.heap.objs.size) }:=by
 have e1:(s.heap.push PySem.W.emptyDict).get? s.heap.objs.size=some PySem.W.emptyDict:=y4 s.heap rfl
 have e2:((s.heap.push PySem.W.emptyDict).push (PySem.W.instObj C s.heap.objs.size)).get? (s.heap.objs.size+1)=some (PySem.W.instObj C s.heap.objs.size):=by
  have:=y4 (s.heap.push PySem.W.emptyDict) (o:=PySem.W.instObj C s.heap.objs.size) rfl
  rwa [Heap.size_push] at this
 have e3:(s.heap.push PySem.W.emptyDict).Ns s.heap.objs.size (λ_=>none):=⟨PySem.W.emptyDict,#[],_,e1,rfl,(λe he=>absurd he (by simp)),λ_=>rfl⟩
 have I1:=I.laid (a:=s.heap.objs.size) (o:=.own (s.heap.objs.size+1)) (h':=s.heap.push PySem.W.emptyDict) (t':=s.toks) (λb u q=>yp _ q) (yo _) ⟨_,e1⟩
 refine I1.laid (a:=s.heap.objs.size+1) (o:=.ins C s.heap.objs.size []) (t':=s.toks) (λb u q=>yp _ q) (Nat.le_of_eq (Heap.size_push _ _)) ?_
 have ne:s.heap.objs.size≠s.heap.objs.size+1:=yO (jW _)
 refine ⟨by rw [yi ne,yN],jJ _,ne,e2,λ_=>none,(Heap.Ns1.of_empty e3).at λo q=>yp _ q,λ_=>True.intro,λy hy=>absurd rfl hy⟩
def Mj {prog:Program}{w:World}{env:Env}{e:Expr}{f:Str}{pos:Pos}{s:Shared}{Q:Aa}(hb:attributeBase e f env (eval e env)=eval e env)
  (h:wpAny (model prog w) A (eval e env) (λo ak=>wpAny (model prog w) A (getAttr o f true) Q E ak) E s):wpAny (model prog w) A (eval (.Attribute e f pos) env) Q E s :=
 Attribute_any_ h (by rw [arm_eval_Attribute,hb])
end
def sFld (K:PySem.W.Frag) (ta tv:TE) (f:Str):TS:=λD U H=>tv U H λy H1=>ta U H1 λx H2=>∃a C dx fs,x=.ref a/\H2 a=some (.ins C dx fs)/\fE K C/\dH K C f/\fs.length<1000 /\
 D.nx U (upd H2 a (.ins C dx (cL f y fs)))
section
variable {X:Cx} {o value:Expr} {f:Str} {pos pos':Pos} {ta tv:TE}
def Ml (ha:PE X o ta) (hv:PE X value tv) (hs:swapsWith value (some (.Attribute o f pos')) pos.line X.env=pure false):PS X (.Assign [.Attribute o f pos'] value pos) (sFld X.K ta tv f):=by
 intro pins s U H D I h
 refine plainObj_wpAny_Assign_Attribute (aS (hv pins s U H _ I h) λu s1 ⟨y,H1,I1,ry,q⟩=>aS (ha pins s1 U H1 _ I1 q) λov s2 gg=>?_) hs
 obtain ⟨x,H2,I2,rx,a,C,dx,fs,ex,ea,c,n,l,q2⟩:=gg
 subst ex
 obtain rfl:ov=Value.ref a:=rx
 exact Mh I2 ea c n l ry λs3 I3=>⟨U,_,I3,q2⟩
end
section
variable {X:Cx} {pins:Ac} {U:St} {H:Hp} {s:Shared} {A:Around} {E:Aa} {Q:Aa} {c:Value} {b:Bool}
inductive dP (K:PySem.W.Frag) (H:Hp):V->Value->Prop where
 |non:dP K H .non (.type "NoneType")
 |bl (x:Bool):dP K H (.bl x) (.type "bool")
 |int (i:Int):dP K H (.int i) (.type "int")
 |str (x:Str):dP K H (.str x) (.type "str")
 |flt (x:UInt64):dP K H (.flt x) (.type "float")
 |lst {a:Addr} {xs:List V} (e:H a=some (.lst xs)):dP K H (.ref a) (.type "list")
 |frz {a:Addr} {o:Obj} {xs:List V} (e:H a=some (.frz o (.lst xs))):dP K H (.ref a) (.type "list")
 |tup {a:Addr} {xs:List V} (e:H a=some (.tup xs)):dP K H (.ref a) (.type "tuple")
 |dK {a:Addr} {kvs:List (Key×V)} (e:H a=some (.dK kvs)):dP K H (.ref a) (.type "dict")
 |dT {a:Addr} {kvs:List (List Key×V)} (e:H a=some (.dT kvs)):dP K H (.ref a) (.type "dict")
 |ins {a C dx:Addr} {fs:List (Str×V)} (e:H a=some (.ins C dx fs)) (cl:fE K C) (ha:PySem.W.findIn K (.ref C) "__class__" = some (some (.builtin "object.__class__")))
   (hn:PySem.W.specialIn K (.builtin "object.__class__") "__get__" = some (some (.builtin "getset_descriptor.__get__"))) (C_:PySem.W.takesIn K (.builtin "object.__class__")=some true)
   (hm:PySem.W.mroIn K C (.type "object")=some true):dP K H (.ref a) (.ref C)
def Mm {x:V}{u t:Value}(I:Inv X pins U H s) (rx:RelV x u) (ty:dP X.K H x t) (e:PySem.W.kitOne X.K t c=some b) (h:∀tk,Q (.bool b) { s with toks:=tk }) :
  wpAny (model X.prog X.w) A (call (.builtin "isinstance") [u,c]) Q E s:=by
 cases ty with
 |non=>cases (show u=Value.none from rx);exact PySem.W.kia_one PySem.W.kitx_none I.kIn True.intro e (λz=>nomatch z) h
 |bl y=>cases (show u=Value.bool y from rx);exact PySem.W.kia_one PySem.W.kitx_bool I.kIn True.intro e (λz=>nomatch z) h
 |int i=>obtain ⟨t,q⟩:=(show ∃t,u=Value.int i t from rx);cases q;exact PySem.W.kia_one PySem.W.kitx_int I.kIn True.intro e (λz=>nomatch z) h
 |str y=>obtain ⟨t,q⟩:=(show ∃t,u=Value.str y t from rx);cases q;exact PySem.W.kia_one PySem.W.kitx_str I.kIn True.intro e (λz=>nomatch z) h
 |flt y=>obtain ⟨t,q⟩:=(show ∃t,u=Value.float y t from rx);cases q;exact PySem.W.kia_one PySem.W.kitx_float I.kIn True.intro e (λz=>nomatch z) h
 |@lst a xs ea =>
  cases (show u=Value.ref a from rx)
  obtain ⟨_,_,n,_,h1⟩:=(show aW X.prog X.w H s.heap a (.lst xs) from I.hok a _ ea)
  exact PySem.W.kia_one PySem.W.kitx_list I.kIn ⟨_,h1,rfl⟩ e (λz=>nomatch z) h
 |@frz a ob xs ea =>
  cases (show u=Value.ref a from rx)
  obtain ⟨_,_,_,n,_,h1⟩:=(show aW X.prog X.w H s.heap a (.frz ob (.lst xs)) from I.hok a _ ea)
  exact PySem.W.kia_one PySem.W.kitx_list I.kIn ⟨_,h1,rfl⟩ e (λz=>nomatch z) h
 |@tup a xs ea =>
  cases (show u=Value.ref a from rx)
  obtain ⟨_,_,_,p⟩:=(show aW X.prog X.w H s.heap a (.tup xs) from I.hok a _ ea)
  obtain ⟨o,h1,h2,_⟩:=p
  exact PySem.W.kia_one PySem.W.kitx_tuple I.kIn ⟨o,h1,h2⟩ e (λz=>nomatch z) h
 |@dK a kvs ea =>
  cases (show u=Value.ref a from rx)
  obtain ⟨_,_,vs,_,p⟩:=(show aW X.prog X.w H s.heap a (.dK kvs) from I.hok a _ ea)
  obtain ⟨o,es,ep,h1,h2,_⟩:=p
  exact PySem.W.kia_one PySem.W.kitx_dict I.kIn ⟨o,h1,h2.1⟩ e (λz=>nomatch z) h
 |@dT a kvs ea =>
  cases (show u=Value.ref a from rx)
  obtain ⟨_,_,xs,_,o,es,ep,h1,h2,_⟩:=(show aW X.prog X.w H s.heap a (.dT kvs) from I.hok a _ ea)
  exact PySem.W.kia_one PySem.W.kitx_dict I.kIn ⟨o,h1,h2.1⟩ e (λz=>nomatch z) h
 |@ins a C dx fs ea cl ha hn C_ hm =>
  cases (show u=Value.ref a from rx)
  obtain ⟨mA,O,_⟩:=sZ I.hok ea
  obtain ⟨od,J,_⟩:=O.look
  exact PySem.W.kia_one (PySem.W.kitx_own (cl.get _) cl.hd ha hn C_ hm) I.kIn J e (λz=>nomatch z) h
end
structure aV (k:Nat) (A:Around):Prop where
 hd:A.handled=none
 dp:A.depth+3*k+5<recursionLimit
 un:A.units+16*k+200<cLine
theorem aV.mono {j k:Nat}{A:Around}(r:aV k A) (h:j<=k):aV j A:=⟨r.hd,by have:=r.dp;omega,by have:=r.un;omega⟩
theorem aV.deeper {k:Nat}{A:Around}(r:aV (k+1) A) (env:Env):aV k (A.deeper env) :=
 ⟨r.hd,by have:=r.dp;show A.depth+1+3*k+5<_;omega,by have:=r.un;show A.units+3+16*k+200<_;omega⟩
theorem aV.in1 {k:Nat}{A:Around}(r:aV (k+1) A):aV k A.in1 :=
 ⟨r.hd,by have:=r.dp;show A.depth+3*k+5<_;omega,by have:=r.un;show A.units+1+16*k+200<_;omega⟩
def Mn {A:Around} {C:Addr} {us:Af} {kw:List (Str×Value)}:(A.under (.builtin "type.__call__" ⟨.ref C::us,kw⟩)).depth=A.depth+1:=by
 first|rfl|simp [Around.under,Code.weight,Code.isCreation,Code.isGuard,Code.isCaller,Code.frames,Code.isFrame,guardIds]
def Mp {A:Around} {C:Addr} {us:Af} {kw:List (Str×Value)}:(A.under (.builtin "type.__call__" ⟨.ref C::us,kw⟩)).units=A.units+1:=by
 first|rfl|simp [Around.under,Code.cUnits,Code.frames,Code.isFrame]
theorem aV.make {k:Nat} {A:Around} (r:aV (k+1) A) (C:Addr) (us:Af) (kw:List (Str×Value)):aV k (A.under (.builtin "type.__call__" ⟨.ref C::us,kw⟩)) :=
 ⟨r.hd,by have:=r.dp;rw [Mn];omega,by have:=r.un;rw [Mp];omega⟩
theorem aV.depth {k:Nat}{A:Around}(r:aV k A):A.depth<recursionLimit:=by have:=r.dp;omega
theorem aV.units {k:Nat}{A:Around}(r:aV k A):A.units+64<cLine:=by have:=r.un;omega
def Dc:TA:=λ_ H Q=>Q [] H
def Mq (ta:TE) (tr:TA):TA:=λU H Q=>ta U H λx H1=>tr U H1 λxs H2=>Q (x::xs) H2
section
variable {X:Cx} {e:Expr} {es:List Expr} {te:TE} {t:TA} {pos:Pos}
def tj:PA X [] Dc:=λ_ _ _ _ H Q I h=>Calls.spliced_nil ⟨[],H,I,.nil,h⟩
def tm (ha:PE X e te) (hr:PA X es t) (hs:starEach (e::es) X.env=(false,eval e X.env)::starEach es X.env:=by rfl):PA X (e::es) (Mq te t):=by
 intro pos pins s U H Q I h
 rw [hs]
 show wpAny _ _ (spliced ((false,eval e X.env)::backTo pos (starEach es X.env))) _ _ s
 refine Calls.spliced_cons (aS (ha pins s U H _ I h) λu s1 ⟨x,H1,I1,r1,q1⟩=>?_)
 exact aS (hr pos pins s1 U H1 _ I1 q1) λus s2 ⟨xs,H2,I2,r2,q2⟩=>⟨x::xs,H2,I2,.cons r1 r2,q2⟩
def Mr (t:TA):TE:=λU H Q=>t U H λxs H1=>xs.length<=sizeLine/\∀p,H1 p=none->Q (.ref p) (upd H1 p (.tup xs))
def Ms (t:TA):TE:=λU H Q=>t U H λxs H1=>xs.length<=sizeLine/\∀p,H1 p=none->Q (.ref p) (upd H1 p (.lst xs))
def Mt {x1}(h:PA X es t):PE X (.Tuple es x1 pos) (Mr t):=by
 intro pins s U H Q I hq
 refine wpAny_Tuple_spliced (aS (h pos pins s U H _ I hq) λus s1 ⟨xs,H1,I1,r,z,q⟩=>⟨by rw [<-r.length];exact z,?_⟩)
 have hf:H1 s1.heap.objs.size=none:=I1.hok.fresh (yo _)
 refine ⟨.ref s1.heap.objs.size,upd H1 s1.heap.objs.size (.tup xs),I1.laid (t':=s1.toks) (λb u e=>yp _ e) (yo _) ?_,rfl,q _ hf⟩
 exact ⟨z,us,r,⟨_,y4 _ rfl,rfl,_,rfl⟩⟩
def Mu (h:PA X es t):PE X (.List es pos) (Ms t):=by
 intro pins s U H Q I hq
 refine wpAny_List_spliced (aS (h pos pins s U H _ I hq) λus s1 ⟨xs,H1,I1,r,z,q⟩=>⟨by rw [<-r.length];exact z,?_⟩)
 have hf:H1 s1.heap.objs.size=none:=I1.hok.fresh (yo _)
 refine ⟨.ref s1.heap.objs.size,upd H1 s1.heap.objs.size (.lst xs),I1.laid (t':=s1.toks) (λb u e=>yp _ e) (yo _) ?_,rfl,q _ hf⟩
 exact ⟨z,us,0,r,y4 _ rfl⟩
end
abbrev Sp:=List V->Hp->VK->XK->Prop
abbrev eA:=List Env->Hp->Shared->XK->Aa
structure fz (P:Program) (w:World) (K:PySem.W.Frag) (mg:Ab) (base:Heap) (A:Around) (outer:List Env) (s:Shared) (H:Hp):Prop where
 frames:A.frames=some outer
 mod:Mod K mg base
 bs:∀b o,base.get? b=some o->s.heap.get? b=some o/\H b=none
 bsz:base.objs.size<=s.heap.objs.size
 funs:s.heap.FunFrames base outer
 frf:∀b∈dr outer,H b=none
 hok:cu P w H s.heap
 bare:AllBare s.gens
def CE (outer:List Env) (P:Program) (w:World) (H:Hp) (s:Shared) (Q:VK) (u:Value) (s':Shared):Prop :=
 ∃v H',s'.os=s.os/\AllBare s'.gens/\Un (dr outer) [] H H' s.heap s'.heap/\cu P w H' s'.heap/\RelV v u/\Q v H'
def CR (CX:eA) (outer:List Env) (P:Program) (w:World) (H:Hp) (s:Shared) (Q:VK) (E:XK) (r:Result) (s':Shared):Prop :=
 match r with
 |.ok (.ret u)=>CE outer P w H s Q u s'
 |.ok _=>False
 |.error e=>CX outer H s E e s'
structure bp (P:Program) (w:World) (K:PySem.W.Frag) (mg:Ab) (base:Heap) (CX:eA) (k:Nat) (f:Addr) (fd:FuncData) (ps:Ad) (sp:Sp):Prop where
 len:∀vs H Q E,sp vs H Q E->vs.length=ps.length
 run:∀(A:Around) (outer:List Env) (s:Shared) (H:Hp) (args:Args) (us:Af) (vs:List V) (Q:VK) (E:XK),aV k A->fz P w K mg base A outer s H->BindsTo s fd args (ps.zip us)->Vals vs us->sp vs H Q E ->
  codeAny (model P w) A (.call (.ref f) args) (CR CX outer P w H s Q E) s
def bp.mono {P:Program}{w:World}{K:PySem.W.Frag}{mg:Ab}{base:Heap}{CX:eA}{j k:Nat}{f:Addr}{fd:FuncData}{ps:Ad}{sp:Sp}(F:bp P w K mg base CX j f fd ps sp) (h:j<=k) :
  bp P w K mg base CX k f fd ps sp:=⟨F.len,λA outer s H args us vs Q E hr=>F.run A outer s H args us vs Q E (hr.mono h)⟩
def bp.imp {P:Program}{w:World}{K:PySem.W.Frag}{mg:Ab}{base:Heap}{CX:eA}{k:Nat}{f:Addr}{fd:FuncData}{ps:Ad}{sp Dd:Sp}(F:bp P w K mg base CX k f fd ps sp)
  (h:∀vs H Q E,Dd vs H Q E->sp vs H Q E):bp P w K mg base CX k f fd ps Dd :=
 ⟨λvs H Q E q=>F.len vs H Q E (h _ _ _ _ q),λA outer s H args us vs Q E hr he hb hv hs=>F.run A outer s H args us vs Q E hr he hb hv (h _ _ _ _ hs)⟩
def fz.make {P:Program}{w:World}{K:PySem.W.Frag}{mg:Ab}{base:Heap}{A:Around}{outer:List Env}{s:Shared}{H:Hp}(e:fz P w K mg base A outer s H) (C:Addr) (us:Af) (kw:List (Str×Value)) :
  fz P w K mg base (A.under (.builtin "type.__call__" ⟨.ref C::us,kw⟩)) outer s H:=⟨by first|exact e.frames|(simpa [Around.under,Code.envs,Code.isFrame,pushEnvs] using e.frames),e.mod,e.bs,e.bsz,e.funs,e.frf,e.hok,e.bare⟩
def fz.in1 {P:Program}{w:World}{K:PySem.W.Frag}{mg:Ab}{base:Heap}{A:Around}{outer:List Env}{s:Shared}{H:Hp}(e:fz P w K mg base A outer s H) :
  fz P w K mg base A.in1 outer s H:=⟨e.frames,e.mod,e.bs,e.bsz,e.funs,e.frf,e.hok,e.bare⟩
section
variable {X:Cx} {pins:Ac} {U:St} {H:Hp} {s s':Shared}
def Inv.env0 (I:Inv X pins U H s):fz X.prog X.w X.K X.mg X.base X.A X.stack s H :=
 ⟨I.ok.frames,I.ok.mod,I.bs,jw I.ok.bsz I.sz,I.stack,I.stkFree,I.hok,I.bare⟩
def Inv.after {Q:VK}{u:Value}(I:Inv X pins U H s) (h:CE X.stack X.prog X.w H s Q u s'):EP X pins U Q u s':=by
 obtain ⟨v,H',os,bare,un,hok,r,q⟩:=h
 obtain ⟨hh,g,d,t,Mv⟩:=s'
 obtain rfl:Mv=s.os:=os
 exact ⟨v,H',I.call (h':=hh) (g':=g) (d':=d) (t':=t) (ch:=[]) un hok bare (λb z=>absurd z (by simp)),r,q⟩
end
def Mw (sp:Sp) (dh:List V) (E:XK) (t:TA):TE:=λU H Q=>t U H λvs H1=>sp (vs++dh) H1 Q E
def Mx (C:Addr) (sp:Sp) (dh:List V) (E:XK) (t:TA):TE:=λU H Q=>t U H λvs H1=>∀x dx,H1 x=none->H1 dx=none->dx≠x ->
 sp (.ref x::(vs++dh)) (upd (upd H1 dx (.own x)) x (.ins C dx [])) (λv H2=>v=.non/\Q (.ref x) H2) E
def Binds (K:PySem.W.Frag) (fd:FuncData) (ps:Ad) (ds:Af):Prop :=
 ∀(s:Shared) (us:Af),K.In s.heap->(us++ds).length=ps.length->BindsTo s fd ⟨us,[]⟩ (ps.zip (us++ds))
def Binds.all {K:PySem.W.Frag}{fd:FuncData}{ps:Ad}(h:∀us:Af,us.length=ps.length->bindArgs fd ⟨us,[]⟩=pure (ps.zip us)):Binds K fd ps []:=λs us _ hl=>by
 rw [List.append_nil] at hl ⊢
 exact .of_eq (h us hl)
def Passes (CX:eA) (X:Cx) (E:XK):Prop:=∀(pins:Ac) (U:St) (H:Hp) (s:Shared) (e:Value) (s':Shared),Inv X pins U H s->CX X.stack H s E e s'->X.xe e s'
section
variable {X:Cx} {CX:eA} {k:Nat} {f C:Addr} {fd:FuncData} {ps:Ad} {sp:Sp} {dh:List V} {ds:Af} {E:XK} {x:Str} {p pos:Pos} {e:Expr} {es:List Expr} {t:TA}
def tq {pins:Ac}{U:St}{H:Hp}{s:Shared}{Q:VK}{us:Af}{vs:List V}(F:bp X.prog X.w X.K X.mg X.base CX k f fd ps sp) (hr:aV k X.A) (hb:Binds X.K fd ps ds) (hd:Vals dh ds) (hx:Passes CX X E)
  (I:Inv X pins U H s) (r:Vals vs us) (h:sp (vs++dh) H Q E):wpAny (model X.prog X.w) X.A (call (.ref f) us) (EP X pins U Q) X.xe s:=by
 have r2:Vals (vs++dh) (us++ds):=r.append hd
 have hl:(us++ds).length=ps.length:=by rw [<-r2.length];exact F.len _ _ _ _ h
 refine wpAny_call (codeAny_mono (F.run X.A X.stack s H ⟨us,[]⟩ (us++ds) (vs++dh) Q E hr I.env0 (hb s us I.kIn hl) r2 h) λr s' hq=>?_)
 cases r with
 |error e=>exact hx pins U H s e s' I hq
 |ok fl =>
  cases fl with
  |ret u=>exact I.after hq
  |next=>exact hq.elim
  |brk=>exact hq.elim
  |cont=>exact hq.elim
def My (F:bp X.prog X.w X.K X.mg X.base CX k f fd ps sp) (hr:aV k X.A) (hg:Gl X x) (hm:X.mg x=some (.ref f)) (hk:PySem.W.keepIn X.K (.ref f)=true) (hb:Binds X.K fd ps ds) (hd:Vals dh ds) (hx:Passes CX X E)
  (ha:PA X (e::es) t) (bR:(x==("__debug__" : Str))=false:=by decide) (he:starEach (e::es) X.env=(false,eval e X.env)::starEach es X.env:=by rfl) (br:(backTo pos (starEach es X.env)).any (·.1)=false:=by rfl) :
  PE X (.Call (.Name x p) (e::es) [] pos) (Mw sp dh E t):=by
 intro pins s U H Q I h
 refine wpAny_Call_Name_kw (kY I hg hm ?_ bR)
 refine PySem.W.callWith_K (h₀:=X.base) I.ok.mod.kin hk (aS (ha pos pins s U H _ I h) λus s1 ⟨vs,H1,I1,r,q⟩=>⟨I1.kIn,?_⟩) he br
 exact tq F hr hb hd hx I1 r q
structure Mk (K:PySem.W.Frag) (C f:Addr):Prop where
 makes:PySem.W.makesIn K C=true
 init:PySem.W.findIn K (.ref C) "__init__" = some (some (.ref f))
 fn:PySem.W.isFn K (.ref f)=true
 kp:PySem.W.keepIn K (.ref C)=true
def De {pins:Ac}{U:St}{H:Hp}{s:Shared}{Q:VK}{us:Af}{vs:List V}(M:Mk X.K C f) (F:bp X.prog X.w X.K X.mg X.base CX k f fd ps sp) (hr:aV (k+1) X.A) (hb:Binds X.K fd ps ds) (hd:Vals dh ds)
  (hx:Passes CX X E) (I:Inv X pins U H s) (r:Vals vs us)
  (h:∀x dx,H x=none->H dx=none->dx≠x->sp (.ref x::(vs++dh)) (upd (upd H dx (.own x)) x (.ins C dx [])) (λv H2=>v=.non/\Q (.ref x) H2) E) :
  wpAny (model X.prog X.w) X.A (call (.ref C) us) (EP X pins U Q) X.xe s:=by
 have hq:=h (s.heap.objs.size+1) s.heap.objs.size (I.hok.fresh (Nat.le_succ _)) (I.hok.fresh (yo _)) (yO (jW _))
 have I2:=Inv.made (C:=C) I
 have r2:Vals (V.ref (s.heap.objs.size+1)::(vs++dh)) (Value.ref (s.heap.objs.size+1)::(us++ds)):=.cons rfl (r.append hd)
 have hl:(Value.ref (s.heap.objs.size+1)::us++ds).length=ps.length:=by
  have e:=r2.length
  rw [F.len _ _ _ _ hq] at e
  exact e.symm
 refine wpAny_call (Me (f:=f) I.kIn M.makes M.init (beq_iff_eq.mp M.fn) (codeAny_mono (F.run _ X.stack _ _ ⟨Value.ref (s.heap.objs.size+1)::us,[]⟩ (Value.ref (s.heap.objs.size+1)::(us++ds)) _ _ E (hr.make C us [])
  (I2.env0.make C us []) (hb _ (Value.ref (s.heap.objs.size+1)::us) I2.kIn hl) r2 hq) λr s' gI=>?_))
 cases r with
 |error e=>exact hx pins U _ _ e s' I2 gI
 |ok fl =>
  cases fl with
  |ret u =>
   obtain ⟨v,H',I3,rv,ev,q3⟩:=I2.after gI
   subst ev
   exact ⟨rv,⟨V.ref (s.heap.objs.size+1),H',I3,rfl,q3⟩⟩
  |next=>exact gI.elim
  |brk=>exact gI.elim
  |cont=>exact gI.elim
def Mz (M:Mk X.K C f) (F:bp X.prog X.w X.K X.mg X.base CX k f fd ps sp) (hr:aV (k+1) X.A) (hg:Gl X x) (hm:X.mg x=some (.ref C)) (hb:Binds X.K fd ps ds) (hd:Vals dh ds) (hx:Passes CX X E)
  (ha:PA X (e::es) t) (bR:(x==("__debug__" : Str))=false:=by decide) (he:starEach (e::es) X.env=(false,eval e X.env)::starEach es X.env:=by rfl) (br:(backTo pos (starEach es X.env)).any (·.1)=false:=by rfl) :
  PE X (.Call (.Name x p) (e::es) [] pos) (Mx C sp dh E t):=by
 intro pins s U H Q I h
 refine wpAny_Call_Name_kw (kY I hg hm ?_ bR)
 refine PySem.W.callWith_K (h₀:=X.base) I.ok.mod.kin M.kp (aS (ha pos pins s U H _ I h) λus s1 ⟨vs,H1,I1,r,q⟩=>⟨I1.kIn,?_⟩) he br
 exact De M F hr hb hd hx I1 r q
end
section
variable {fd:FuncData} {ps ks:Ad}
structure J_ (K:PySem.W.Frag) (fd:FuncData) (ps ks:Ad) (g:List Value->List Value->Af) (gV:List V->List V->List V):Prop where
 to:∀(s:Shared) (us ws:Af),K.In s.heap->(g us ws).length=ps.length->BindsTo s fd ⟨us,ks.zip ws⟩ (ps.zip (g us ws))
 rel:∀{vs:List V} {us:Af} {zs:List V} {ws:Af},Vals vs us->Vals zs ws->Vals (gV vs zs) (g us ws)
end
structure aq (N P:Ad) (sc:Scope):Prop where
 kind:sc.kind=.function
 co:sc.isCoroutine=false
 gen:sc.isGenerator=false
 nd:N.Nodup
 pre:N.take P.length=P
 par:∀x∈P,sc.names.lookup x=some .local\/sc.names.lookup x=some .cell
 nofree:∀y∈sc.names,y.2 ≠ .free
theorem Df {kindOf:Str->Option NameKind}{x:Str}:∀{binds:List (Str×Value)}{m:Ab},(∀v,(x,v)∉binds)->bindL kindOf binds m x=m x
 |[],_,_=>rfl
 | (n,v)::r,m,h=>by
  unfold bindL
  rw [Df λw hw=>h w (jg _ hw)]
  split
  ·have:x≠n:=by rintro rfl;exact h v ja
   simp [this]
  ·rfl
theorem Dg {kindOf:Str->Option NameKind}{x:Str}:∀{binds:List (Str×Value)}{m:Ab},(∀v,(x,v)∉binds)->bindC kindOf binds m x=m x
 |[],_,_=>rfl
 | (n,v)::r,m,h=>by
  unfold bindC
  rw [Dg λw hw=>h w (jg _ hw)]
  split
  ·rfl
  ·have:x≠n:=by rintro rfl;exact h v ja
   simp [this]
theorem Dh {kindOf:Str->Option NameKind}{x:Str}{v:Value}:∀{P:Ad}{vs:Af}{i:Nat}{m:Ab},P.Nodup->P[i]?=some x->vs[i]?=some v->kindOf x=some .local ->
  bindL kindOf (P.zip vs) m x=some v
 |[],_,_,_,_,h,_,_=>by simp at h
 |_::_,[],_,_,_,_,h,_=>by simp at h
 |p::P,w::vs,0,m,nd,h1,h2,hk=>by
  simp at h1 h2;subst h1;subst h2
  show bindL kindOf ((p,w)::P.zip vs) m p=_
  unfold bindL
  rw [Df λv hv=>(wt.mp nd).1 (List.of_mem_zip hv).1,zw hk]
  simp
 |p::P,w::vs,i+1,m,nd,h1,h2,hk=>by
  show bindL kindOf ((p,w)::P.zip vs) m x=_
  unfold bindL
  exact Dh (i:=i) (wt.mp nd).2 (by simpa using h1) (by simpa using h2) hk
theorem Di {kindOf:Str->Option NameKind}{x:Str}{v:Value}:∀{P:Ad}{vs:Af}{i:Nat}{m:Ab},P.Nodup->P[i]?=some x->vs[i]?=some v->kindOf x≠some .local ->
  bindC kindOf (P.zip vs) m x=some v
 |[],_,_,_,_,h,_,_=>by simp at h
 |_::_,[],_,_,_,_,h,_=>by simp at h
 |p::P,w::vs,0,m,nd,h1,h2,hk=>by
  simp at h1 h2;subst h1;subst h2
  show bindC kindOf ((p,w)::P.zip vs) m p=_
  unfold bindC
  rw [Dg λv hv=>(wt.mp nd).1 (List.of_mem_zip hv).1,zI hk]
  simp
 |p::P,w::vs,i+1,m,nd,h1,h2,hk=>by
  show bindC kindOf ((p,w)::P.zip vs) m x=_
  unfold bindC
  exact Di (i:=i) (wt.mp nd).2 (by simpa using h1) (by simpa using h2) hk
def start (N:Ad) (vs:List V):St:=vs.map some++List.replicate (N.length-vs.length) none
def dQ (CX:eA) (P:Program) (w:World) (K:PySem.W.Frag) (mg:Ab) (base:Heap) (N:Ad) (qual:Str) (scope:Scope) (f:Addr) (cd:Value) (A:Around) (outer:List Env) (s:Shared) (H:Hp) (E:XK):Cx where
 prog:=P
 w:=w
 K:=K
 mg:=mg
 base:=base
 A:=A.deeper (envOfC qual scope s.heap.objs.size f cd)
 N:=N
 s₀:=s
 H₀:=H
 env:=envOfC qual scope s.heap.objs.size f cd
 outer:=outer
 stack:=envOfC qual scope s.heap.objs.size f cd::outer
 ex:=[]
 calm:=true
 fn:=λ_=>true
 pn:=[]
 xe:=λe s'=>wpAny (model P w) (A.deeper (envOfC qual scope s.heap.objs.size f cd)) (leaving (envOfC qual scope s.heap.objs.size f cd) e) (λ_ vV=>CX outer H s E e vV) (λe' vV=>CX outer H s E e' vV) s'
def Dj {sc:Scope}{n:Nat}{x:Str}(h:sc.names.lookup x=some .cell):∃c,(cellsFrom n sc.names []).lookup x=some c:=by
 have q:=PySem.W.cellsFrom_some sc.names n [] (.inl h)
 exact Option.isSome_iff_exists.mp q
theorem MC {CX:eA}{P:Program}{w:World}{K:PySem.W.Frag}{mg:Ab}{base:Heap}{N ps:Ad}{qual:Str}{scope:Scope}{f:Addr}{cd:Value}{A:Around}{outer:List Env}{s s1:Shared}{H:Hp}{E:XK}{us:Af}{vs:List V}
  (S:aq N ps scope) (hd:A.handled=none) (e0:fz P w K mg base A outer s H) (hl:vs.length=ps.length) (r:Vals vs us)
  (x:InCallC s s.heap.objs.size (bindL (envOfC qual scope s.heap.objs.size f cd).kindOf (ps.zip us) λ_=>none) (cellsFrom (s.heap.objs.size+1) scope.names []) (bindC (envOfC qual scope s.heap.objs.size f cd).kindOf (ps.zip us) λ_=>none) s1) :
  Inv (dQ CX P w K mg base N qual scope f cd A outer s H E) [] (start N vs) H s1:=by
 have br:ps.length<=N.length:=by have:=congrArg List.length S.pre;rw [List.length_take] at this;omega
 obtain ⟨h1,tk,rfl,hk⟩:=x.done
 have qd:∀b:Addr,b∉(dQ CX P w K mg base N qual scope f cd A outer s H E).ex:=λb z=>absurd (show b∈([]:Ae) from z) (by simp)
 refine ⟨⟨e0.mod,S.kind,rfl,rfl,yo _,λy z c h1 h2=>?_,λy hy=>?_,λy c _ h=>?_,λ_=>hd,Around.frames_deeper e0.frames,.inr ⟨rfl,rfl⟩,λb z=>absurd z (qd b),e0.bs,e0.bsz,λb _ _=>qd b,λb z=>absurd z (qd b),e0.funs,e0.frf⟩,
  rfl,e0.bare,Un.kept hk,⟨_,x.toInCall.ns,λi y v h1 h2 h3=>?_⟩,λy c h=>⟨_,x.cell y c h⟩,e0.hok.fresh (yo _),λy c h=>?_,λp hp=>absurd (show p∈([]:Ac) from hp) (by simp),e0.hok.kept hk,?_⟩
 ·exact name_of_addr x.apart (PySem.mem_of_lookup h1) (PySem.mem_of_lookup h2)
 ·have hy:scope.names.lookup y=some .cell\/scope.names.lookup y=some .free:=hy
  rcases hy with hy|hy
  ·exact Dj hy
  ·exact absurd rfl (S.nofree _ (PySem.mem_of_lookup hy))
 ·exact Nat.le_of_lt (x.above y c (PySem.mem_of_lookup h))
 ·have hi:i<vs.length:=by
   unfold start at h2
   by_cases hi:i<vs.length
   ·exact hi
   ·rw [iR (by simpa using hi)] at h2
    rw [List.getElem?_replicate] at h2
    split at h2<;>cases h2
  have ha:vs[i]?=some v:=by
   unfold start at h2
   rw [iQ (by simpa using hi),y3] at h2
   cases e:vs[i]? with
   |none=>rw [e] at h2;cases h2
   |some a=>rw [e] at h2;cases h2;rfl
  obtain ⟨u,hu,rv⟩:=r.get ha
  have hp:ps[i]?=some y:=by
   rw [<-S.pre,List.getElem?_take_of_lt (by omega)];exact h1
  have Dk:ps.Nodup:=by rw [<-S.pre];exact S.nd.sublist (List.take_sublist _ _)
  refine ⟨u,rv,?_⟩
  rcases S.par y (kW hp) with k|k
  ·exact .inl ⟨k,Dh Dk hp hu k⟩
  ·obtain ⟨c,e⟩:=Dj (n:=s.heap.objs.size+1) k
   refine .inr ⟨.inl k,c,e,?_⟩
   have q:=x.cell y c e
   rw [Di Dk hp hu (by show scope.names.lookup y≠_;rw [k];decide)] at q
   exact q
 ·exact e0.hok.fresh (Nat.le_of_lt (x.above y c (PySem.mem_of_lookup h)))
 ·unfold start
  show _=N.length
  rw [iO,jD,List.length_replicate]
  omega
def Dl {CX:eA}{P:Program}{w:World}{K:PySem.W.Frag}{mg:Ab}{base:Heap}{k:Nat}{f:Addr}{name qual:Str}{params:Arguments}{body:List Stmt}{scope:Scope}{dV kV doc pm aU ct oc:Value}{an od:Option Addr}
  {fF:Array (Option Value)} {N ps:Ad} {sp:Sp} (lk:K.lookup f=some ⟨oc,od,.func (PySem.W.fnOf name qual params body scope dV kV doc pm an aU ct),fF⟩) (fD:PySem.W.codeIn K aU qual=true) (S:aq N ps scope)
  (len:∀vs H Q E,sp vs H Q E->vs.length=ps.length)
  (fG:∀(A:Around) (outer:List Env) (s:Shared) (H:Hp) (vs:List V) (Q:VK) (E:XK),aV k (A.deeper (envOfC qual scope s.heap.objs.size f aU))->sp vs H Q E ->
   ∃t,cA (dQ CX P w K mg base N qual scope f aU A outer s H E) body t/\t { nx:=λ_ H'=>Q .non H',rt:=Q } (start N vs) H) :
  bp P w K mg base CX (k+1) f (PySem.W.fnOf name qual params body scope dV kV doc pm an aU ct) ps sp:=by
 refine ⟨len,λA outer s H args us vs Q E hr e0 hb r ic=>?_⟩
 have hl:=len _ _ _ _ ic
 have KX:K.In s.heap:=e0.mod.kin.keeps λb o e=>(e0.bs b o e).1
 have lim:s.heap.NoLimit:=e0.mod.nolimit.keeps λb o e=>(e0.bs b o e).1
 have vW:∀y∈ps.zip us,scope.names.lookup y.1=some .local\/(scope.names.lookup y.1=some .cell/\((cellsFrom (s.heap.objs.size+1) scope.names []).lookup y.1).isSome=true):=λ⟨n,v⟩ hy=>by
  rcases S.par n (List.of_mem_zip hy).1 with q|q
  ·exact .inl q
  ·exact .inr ⟨q,PySem.W.cellsFrom_some _ _ _ (.inl q)⟩
 refine codeAny_call_function hr.depth (KX _ _ lk) rfl S.co S.gen rfl (PySem.W.codeRec_of KX fD) (hb _ _ _ _ ?_)
 refine wpAny_newFunctionEnv_cells S.kind vW λenv he s1 x=>?_
 subst he
 refine ⟨lim.keeps x.toInCall.keep,codeAny_func ?_⟩
 obtain ⟨t,ht,hq⟩:=fG A outer s H vs Q E (hr.deeper _) ic
 have I:Inv (dQ CX P w K mg base N qual scope f aU A outer s H E) [] (start N vs) H s1:=MC S hr.hd e0 hl r x
 refine yY (ht [] s1 (start N vs) H _ I hq) (λfl s' hs=>?_) λe s' hs=>hs
 have fin:∀{ai:St} {H':Hp} {v:V} {u:Value},Inv (dQ CX P w K mg base N qual scope f aU A outer s H E) [] ai H' s'->RelV v u->Q v H'->CE outer P w H s Q u s' :=
  λ{ai H' v u} J rv q=>⟨v,H',J.os,J.bare,J.base,J.hok,rv,q⟩
 cases fl with
 |ret u =>
  obtain ⟨v,ai,H',J,rv,q⟩:=hs
  exact fin J rv q
 |next =>
  obtain ⟨ai,H',J,q⟩:=hs
  exact fin (v:=V.non) (u:=Value.none) J rfl q
 |brk =>
  obtain ⟨_,_,_,q⟩:=hs
  exact q.elim
 |cont =>
  obtain ⟨_,_,_,q⟩:=hs
  exact q.elim
section
variable {X:Cx} {x:Str} {p pos:Pos} {e:Expr} {es:List Expr} {t:TA} {id T:String} {r:List V->Hp->VK->Prop}
def Dm (r:List V->Hp->VK->Prop) (t:TA):TE:=λU H Q=>t U H λvs H1=>r vs H1 Q
def MD (hc:bP X (.builtin id) r) (hg:Gl X x) (hm:X.mg x=none) (hv:bootBuiltins x=some (.builtin id)) (ha:PA X (e::es) t) (hn:x ≠ "__name__" := by decide) (bR:(x==("__debug__" : Str))=false:=by decide)
  (he:starEach (e::es) X.env=(false,eval e X.env)::starEach es X.env:=by rfl) (br:(backTo pos (starEach es X.env)).any (·.1)=false:=by rfl):PE X (.Call (.Name x p) (e::es) [] pos) (Dm r t):=by
 intro pins s U H Q I h
 refine wpAny_Call_Name_kw (mH I hg hm hv ?_ hn bR)
 exact PyProof.Rows.callWith_builtin1 (aS (ha pos pins s U H _ I h) λus s1 ⟨vs,H1,I1,r1,q1⟩=>hc pins s1 U H1 vs us Q I1 r1 q1) he br
def MF (hc:bP X (.type T) r) (hg:Gl X x) (hm:X.mg x=none) (hv:bootBuiltins x=some (.type T)) (ha:PA X (e::es) t) (hn:x ≠ "__name__" := by decide) (bR:(x==("__debug__" : Str))=false:=by decide)
  (he:starEach (e::es) X.env=(false,eval e X.env)::starEach es X.env:=by rfl) (br:(backTo pos (starEach es X.env)).any (·.1)=false:=by rfl):PE X (.Call (.Name x p) (e::es) [] pos) (Dm r t):=by
 intro pins s U H Q I h
 refine wpAny_Call_Name_kw (mH I hg hm hv ?_ hn bR)
 exact PyProof.Rows.callWith_type1 (aS (ha pos pins s U H _ I h) λus s1 ⟨vs,H1,I1,r1,q1⟩=>hc pins s1 U H1 vs us Q I1 r1 q1) he br
end
end L2
namespace HT
open PySem PyProof.Rows
section
open PySem.SeqAt
open PySem.AutoSeq1 (wpAny_loadPart')
open PySem.MeetsSeq PySem.MeetsSeq2 PySem.MeetsSeq3
end
section
variable {prog:Program} {w:World} {A:Around} {E:Aa} {s:Shared}
def cat_tup {t b:Addr}{vs ws:Af}{Q:Aa}(ht:IsTup s.heap t vs.toArray) (hb:IsTup s.heap b ws.toArray) (hv:vs≠[])
  (h1:ws=[]->Q (.ref t) s) (h2:ws≠[]->Q (.ref s.heap.objs.size) { s with heap:=s.heap.push { cls:=.type "tuple", data:=.seq (vs++ws).toArray } })
  (hsz:vs.length+ws.length<=sizeLine):wpAny (model prog w) A (binaryOp .Add (.ref t) (.ref b)) Q E s:=by
 obtain ⟨⟨cls,dd,data,sl⟩,ho,hc,n,hd⟩:=id ht
 obtain ⟨⟨Dp,tu,data2,k8⟩,mK,qe,n2,hd2⟩:=id hb
 simp only at hc hd qe hd2
 subst hc hd qe hd2
 have e:vs.toArray++ws.toArray=(vs++ws).toArray:=by simp
 by_cases hw:ws=[]
 ·exact concat_meets ⟨_,ho,rfl⟩ ⟨_,mK,rfl⟩ noFill_tuple_add seq_tuple_add PySem.F.slot_tuple_add PySem.F.entry_tuple_add (PySem.F.args_tuple_add_2 _ _)
   (tuple_addW1 t b vs.toArray ws.toArray n n2 dd tu sl k8 (by simpa using hv) (by simp [hw])) ⟨ho,mK,h1 hw⟩
 ·refine concat_meets ⟨_,ho,rfl⟩ ⟨_,mK,rfl⟩ noFill_tuple_add seq_tuple_add PySem.F.slot_tuple_add PySem.F.entry_tuple_add (PySem.F.args_tuple_add_2 _ _)
   (tuple_addW2 t b vs.toArray ws.toArray n n2 dd tu sl k8 (by simpa using hv) (by simpa using hw) (by rw [y9,y9];exact hsz)) ⟨ho,mK,?_⟩
  rw [e]
  exact h2 hw
def sIx (n d:Nat):Option Int->Nat
 |none=>d
 |some v=>if v<0 then (v+(n:Int)).toNat else min v.toNat n
theorem ML (n d:Nat) (hd:d<=n) (o:Option Int):sIx n d o<=n:=by
 cases o with
 |none=>exact hd
 |some v =>
  show (if v<0 then (v+(n:Int)).toNat else min v.toNat n)<=n
  by_cases hv:v<0
  ·rw [zw hv];omega
  ·rw [zI hv];exact Nat.min_le_right _ _
theorem Dq (v:Int) (n d:Nat):(if v<0 then max (v+(n:Int)) 0 else min v (n:Int))=((sIx n d (some v):Nat):Int):=by
 show (if v<0 then max (v+(n:Int)) 0 else min v (n:Int))=(((if v<0 then (v+(n:Int)).toNat else min v.toNat n):Nat):Int)
 by_cases hv:v<0
 ·simp only [zw hv];omega
 ·simp only [zI hv];omega
theorem MM (lo hi:Option Int) (n:Nat):Builtin.Slice.sliceAdjust lo hi 1 (n:Int)=(((sIx n 0 lo:Nat):Int),((sIx n n hi:Nat):Int)):=by
 have h1:¬((1:Int)<0):=by omega
 unfold Builtin.Slice.sliceAdjust
 simp only [h1,if_false]
 refine Prod.ext ?_ ?_
 ·cases lo with
  |none=>rfl
  |some v=>exact Dq v n 0
 ·cases hi with
  |none=>rfl
  |some v=>exact Dq v n n
theorem MP (i j:Nat):Builtin.Slice.slicePlaces (i:Int) (j:Int) 1=j-i:=by
 unfold Builtin.Slice.slicePlaces
 have h1:(1:Int)>0:=by omega
 simp only [h1,if_true,Int.ediv_one]
 split<;>omega
def Ds {v:Value}{o:Option Int}{Q:Option Int->Shared->Prop}(p:IsPart v o) (h:Q o s):wpAny (model prog w) A (Builtin.Slice.slicePartIndex v) Q E s:=by
 cases p with
 |none=>exact slicePart_none h
 |int i t=>exact slicePart_int h
def Du {sl:Addr}{vl vu:Value}{lo hi:Option Int}{n:Nat}{Q:Int×Int×Nat->Shared->Prop}(hs:s.heap.IsSliceOf sl vl vu .none) (pl:IsPart vl lo) (pu:IsPart vu hi)
  (h:Q (((sIx n 0 lo:Nat):Int),1,sIx n n hi-sIx n 0 lo) s):wpAny (model prog w) A (Builtin.Slice.sliceApplied (.ref sl) (pure (n:Int))) Q E s:=by
 obtain ⟨os,mL,qf,qg⟩:=id hs
 unfold Builtin.Slice.sliceApplied Builtin.Slice.sliceFields
 refine zu (zu (jy mL qg (x:=vl) rfl (zu (jy mL qg (x:=vu) rfl (zu (jy mL qg (x:=.none) rfl (ye ?_)))))))
 refine zu (slicePart_none ?_)
 show wpAny _ _ (if ((1:Int)==0)=true then _ else _) _ _ s
 rw [zI (by decide)]
 refine zu (Ds pl (zu (Ds pu (zu (ye ?_)))))
 show wpAny _ _ (match Builtin.Slice.sliceAdjust lo hi 1 (n:Int) with|(lo,hi)=>pure (lo,(1:Int),Builtin.Slice.slicePlaces lo hi 1)) _ _ s
 rw [MM lo hi n]
 show wpAny _ _ (pure (((sIx n 0 lo:Nat):Int),(1:Int),Builtin.Slice.slicePlaces ((sIx n 0 lo:Nat):Int) ((sIx n n hi:Nat):Int) 1)) _ _ s
 rw [MP]
 exact ye h
theorem MQ (xs:Array Value) (i k:Nat):((List.range k).filterMap λ(m:Nat)=>xs[((i:Int)+(m:Int)*1).toNat]?).toArray=((xs.toList.drop i).take k).toArray:=by
 have e:(λ(m:Nat)=>xs[((i:Int)+(m:Int)*1).toNat]?)=λm=>xs[i+m]?:=by
  funext m
  have:((i:Int)+(m:Int)*1).toNat=i+m:=by omega
  rw [this]
 rw [e]
 have:=pick_run xs i k
 rw [List.filterMap_map] at this
 have e2:((λx=>xs[x]?)∘λx=>i+x)=λm=>xs[i+m]?:=rfl
 rw [e2] at this
 rw [this]
theorem getItem_tuple_cut {t sl:Addr}{items:Array Value}{vl vu:Value}{lo hi:Option Int}{Q:Aa}(ht:IsTup s.heap t items) (hs:s.heap.IsSliceOf sl vl vu .none) (pl:IsPart vl lo) (pu:IsPart vu hi)
  (hw:¬(sIx items.size 0 lo=0/\sIx items.size items.size hi=items.size))
  (h:Q (.ref s.heap.objs.size) { s with heap:=s.heap.push { cls:=.type "tuple", data:=.seq ((items.toList.drop (sIx items.size 0 lo)).take (sIx items.size items.size hi-sIx items.size 0 lo)).toArray } })
  (hsz:items.size<=sizeLine):wpAny (model prog w) A (getItem (.ref t) (.ref sl)) Q E s:=by
 have iU:sizeOk (.seq ((items.toList.drop (sIx items.size 0 lo)).take (sIx items.size items.size hi-sIx items.size 0 lo)).toArray):=by
  show ((items.toList.drop (sIx items.size 0 lo)).take (sIx items.size items.size hi-sIx items.size 0 lo)).toArray.size<=sizeLine
  rw [y9,List.length_take,List.length_drop,Array.length_toList]
  omega
 have hj:sIx items.size items.size hi<=items.size:=ML _ _ (yo _) hi
 obtain ⟨os,mL,qf,qg⟩:=id hs
 have vX:s.TypeIs (.ref sl) "slice" := ⟨os,mL,qf⟩
 unfold getItem
 try with_reducible refine mD ?_
 first|refine zu (ye ?_)|skip
 refine zu (wpAny_sequenceKey ht.typeIs (by decide) ?_)
 refine zu (wpAny_callSpecial?_slot (name:=Str.ofString "__getitem__") ht.typeIs PyProof.Rows.slot_tuple_getitem
  (oz PyProof.Rows.slot_tuple_getitem ht.typeIs entry_tuple_getitem ?_ (args_tuple_getitem _ _)))
 show wpAny _ _ (Builtin.Tuple.tupleItemsOf (.ref t) >>= _) _ _ s
 refine zu (tupleItemsOf_ ht ?_)
 refine zu (wpAny_typeOf vX ?_)
 rw [zw (by decide)]
 refine zu (Du hs pl pu ?_)
 have MR:¬((((sIx items.size 0 lo:Nat):Int)==0&&(1:Int)==1&&(sIx items.size items.size hi-sIx items.size 0 lo)==items.size)=true):=by
  intro q
  rw [jZ,jZ] at q
  have q1:((sIx items.size 0 lo:Nat):Int)=0:=eq_of_beq q.1.1
  have q2:sIx items.size items.size hi-sIx items.size 0 lo=items.size:=eq_of_beq q.2
  exact hw ⟨by omega,by omega⟩
 show wpAny _ _ (if (((sIx items.size 0 lo:Nat):Int)==0&&(1:Int)==1&&(sIx items.size items.size hi-sIx items.size 0 lo)==items.size)=true then _ else _) _ _ s
 rw [zI MR,MQ]
 first
  |exact zu (m:=Builtin.Tuple.tupleExact _) (iN (ye ⟨_,rfl,ye h⟩) iU)
  |exact zu (m:=Builtin.Tuple.tupleExact _) (iN (zu (ye (ye ⟨_,rfl,ye h⟩))) iU)
  |exact zu (zu (m:=Builtin.Tuple.tupleExact _) (iN (ye (ye ⟨_,rfl,ye h⟩)) iU))
  |exact zu (zu (m:=Builtin.Tuple.tupleExact _) (iN (ye ⟨_,rfl,ye h⟩) iU))
end
end HT
namespace L2
open PySem PySem.Spec PyProof.Rows
abbrev TO:=St->Hp->(Option Int->Hp->Prop)->Prop
def PO (X:Cx) (e:Option Expr) (t:TO):Prop :=
 ∀(pins:Ac) (s:Shared) (U:St) (H:Hp) (Q:Option Int->Hp->Prop),Inv X pins U H s->t U H Q ->
  wpAny (model X.prog X.w) X.A (evalPart e X.env) (λu s'=>∃o H',Inv X pins U H' s'/\IsPart u o/\Q o H') X.xe s
def MU:TO:=λ_ H Q=>Q none H
def MV (t:TE):TO:=λU H Q=>t U H λx H1=>∃i,x=.int i/\Q (some i) H1
section
variable {X:Cx} {e:Expr} {te:TE} {lo hi:Option Expr} {tl th:TO} {pos p2:Pos}
def MY:PO X none MU:=by
 intro pins s U H Q I h
 rw [evalPart_none]
 exact ye ⟨none,H,I,.none,h⟩
def MZ (h:PE X e te):PO X (some e) (MV te):=by
 intro pins s U H Q I hw
 rw [evalPart_some]
 refine aS (h pins s U H _ I hw) λu s1 ⟨x,H1,I1,r1,q1⟩=>?_
 obtain ⟨i,rfl,q⟩:=q1
 obtain ⟨t,rfl⟩:=r1
 exact ⟨some i,H1,I1,.int i t,q⟩
def iV (X:Cx) (r:V->Option Int->Option Int->Hp->VK->Prop):Prop :=
 ∀(pins:Ac) (s:Shared) (U:St) (H:Hp) (x:V) (v vl vu:Value) (lo hi:Option Int) (sl:Addr) (Q:VK),Inv X pins U H s->RelV x v->s.heap.IsSliceOf sl vl vu .none->IsPart vl lo->IsPart vu hi->r x lo hi H Q ->
  ∃T id,typeLookup (.type T) "__getitem__" = pure (some (.builtin id))/\s.TypeIs v T/\wpAny (model X.prog X.w) X.A (getItem v (.ref sl)) (EP X pins U Q) X.xe s
def iV.or {r r':V->Option Int->Option Int->Hp->VK->Prop}(h:iV X r) (h':iV X r'):iV X (λx lo hi H Q=>r x lo hi H Q\/r' x lo hi H Q):=by
 intro pins s U H x v vl vu lo hi sl Q I rx hs pl pu q
 rcases q with q|q
 ·exact h pins s U H x v vl vu lo hi sl Q I rx hs pl pu q
 ·exact h' pins s U H x v vl vu lo hi sl Q I rx hs pl pu q
def M0 (r:V->Option Int->Option Int->Hp->VK->Prop) (te:TE) (tl th:TO):TE:=λU H Q=>te U H λx H1=>tl U H1 λl H2=>th U H2 λu H3=>r x l u H3 Q
def M5 {r:V->Option Int->Option Int->Hp->VK->Prop}(hr:iV X r) (he:PE X e te) (hl:PO X lo tl) (hu:PO X hi th):PE X (.Subscript e (.Slice lo hi none p2) pos) (M0 r te tl th):=by
 intro pins s U H Q I h
 refine Subscript_ (aS (he pins s U H _ I h) λv s1 ⟨x,H1,I1,r1,q1⟩=>?_)
 refine wpAny_Slice (aS (hl pins s1 U H1 _ I1 q1) λvl s2 ⟨l,H2,I2,pl,q2⟩=>aS (hu pins s2 U H2 _ I2 q2) λvu s3 ⟨u,H3,I3,pu,q3⟩=>?_)
 rw [evalPart_none]
 refine ye ?_
 have I4:Inv X pins U H3 { s3 with heap:=s3.heap.push { cls:=.type "slice", data:=.fields #[vl,vu,.none] } }:=I3.kept (t':=s3.toks) λb ob q=>yp _ q
 obtain ⟨T,id,hT,ht,hg⟩:=hr pins { s3 with heap:=s3.heap.push { cls:=.type "slice", data:=.fields #[vl,vu,.none] } } U H3 x v vl vu l u s3.heap.objs.size Q I4 r1 (Heap.IsSliceOf.new ..) pl pu q3
 show wpAny (model X.prog X.w) X.A (subscriptTail e (.Slice lo hi none p2) v (.ref s3.heap.objs.size)) (EP X pins U Q) X.xe { s3 with heap:=s3.heap.push { cls:=.type "slice", data:=.fields #[vl,vu,.none] } }
 exact tail_any (ops:=[.ref s3.heap.objs.size,v]) ht hT hg (by with_unfolding_all rfl)
def gv (xs:List V) (lo hi:Option Int):List V:=(xs.drop (HT.sIx xs.length 0 lo)).take (HT.sIx xs.length xs.length hi-HT.sIx xs.length 0 lo)
theorem Dv (xs:List V) (lo hi:Option Int):(gv xs lo hi).length<=xs.length:=by
 unfold gv
 rw [List.length_take,List.length_drop]
 omega
def M6 (K:PySem.W.Frag):V->Option Int->Option Int->Hp->VK->Prop:=λx lo hi H Q=>∃a xs,x=.ref a/\ba K H a xs /\
 ¬(HT.sIx xs.length 0 lo=0/\HT.sIx xs.length xs.length hi=xs.length)/\∀p,H p=none->Q (.ref p) (upd H p (.tup (gv xs lo hi)))
def M_:iV X (M6 X.K):=by
 intro pins s U H x v vl vu lo hi sl Q I rx hs pl pu h
 obtain ⟨a,xs,rfl,hx,hw,q⟩:=h
 cases rx
 obtain ⟨its,r,ht,hz⟩:=I.tuple hx
 have hlen:its.toArray.size=xs.length:=by rw [y9];exact r.length.symm
 refine ⟨"tuple", _,PyProof.Rows.slot_tuple_getitem.lookup,ht.typeIs,?_⟩
 refine HT.getItem_tuple_cut ht hs pl pu (by rw [hlen];exact hw) ?_ (by rw [hlen];exact hz)
 rw [hlen]
 refine ⟨.ref s.heap.objs.size,_,I.laid (t':=s.toks) (o:=.tup (gv xs lo hi)) (λb ob q=>yp _ q) (yo _) ?_,rfl,q _ (I.hok.fresh (yo _))⟩
 exact ⟨jw (Dv xs lo hi) hz,_,(r.drop (HT.sIx xs.length 0 lo)).take (HT.sIx xs.length xs.length hi-HT.sIx xs.length 0 lo),IsTup.new _ _⟩
def Na (K:PySem.W.Frag):R2:=λx y H Q=>∃a b xs ys,x=.ref a/\y=.ref b/\ba K H a xs/\ba K H b ys/\xs≠[]/\xs.length+ys.length<=sizeLine /\
 (ys=[]->Q (.ref a) H)/\(ys≠[]->∀p,H p=none->Q (.ref p) (upd H p (.tup (xs++ys))))
def Vals.nil_iff {xs:List V}{us:Af}(r:Vals xs us):us=[]↔xs=[]:=by
 cases r with
 |nil=>simp
 |cons _ _=>simp
def Nb:bh X (binaryOp .Add) (Na X.K):=by
 intro pins s U H x y v u Q I rx ry h
 obtain ⟨a,b,xs,ys,rfl,rfl,ha,hb,hx,hz,q1,q2⟩:=h
 cases rx
 cases ry
 obtain ⟨its,r1,p1,_⟩:=I.tuple ha
 obtain ⟨cM,r2,p2,_⟩:=I.tuple hb
 refine HT.cat_tup p1 p2 (λz=>hx (r1.nil_iff.mp z)) (λz=>⟨.ref a,H,I,rfl,q1 (r2.nil_iff.mp z)⟩) (λz=>?_) (by rw [<-r1.length,<-r2.length];exact hz)
 refine ⟨.ref s.heap.objs.size,_,I.laid (t':=s.toks) (o:=.tup (xs++ys)) (λb ob q=>yp _ q) (yo _) ?_,rfl,q2 (λw=>z (r2.nil_iff.mpr w)) _ (I.hok.fresh (yo _))⟩
 exact ⟨by rw [iO];exact hz,_,r1.append r2,IsTup.new _ _⟩
end
def fH (n:Nat) (i:Int):Option Nat:=if 0<=i then (if i<n then some i.toNat else none) else if -(n:Int)<=i then some (i+n).toNat else none
def cN {α:Type}(xs:List α) (i:Int):Option α:=(fH xs.length i).bind λj=>xs[j]?
theorem Nc {n:Nat}{i:Int}{j:Nat}(h:fH n i=some j):seqIndex? i n=some j/\j<n /\ -(n:Int)<=i/\i<n:=by
 unfold fH at h
 by_cases h0:0<=i
 ·rw [zw h0] at h
  by_cases h1:i<n
  ·rw [zw h1] at h
   have e:i.toNat=j:=Option.some.inj h
   exact ⟨by rw [seqIndex_of h0 h1,e],by omega,by omega,h1⟩
  ·rw [zI h1] at h;cases h
 ·rw [zI h0] at h
  by_cases h1 : -(n:Int)<=i
  ·rw [zw h1] at h
   have e:(i+n).toNat=j:=Option.some.inj h
   exact ⟨by rw [seqIndex_neg (by omega) h1,e],by omega,h1,by omega⟩
  ·rw [zI h1] at h;cases h
def bJ {α:Type}{xs:List α}{i:Int}{v:α}(h:cN xs i=some v):∃j,seqIndex? i xs.length=some j/\xs[j]?=some v/\j<xs.length /\ -(xs.length:Int)<=i/\i<xs.length:=by
 unfold cN at h
 cases e:fH xs.length i with
 |none=>rw [e] at h;cases h
 |some j =>
  rw [e] at h
  obtain ⟨h1,h2,h3,h4⟩:=Nc e
  exact ⟨j,h1,h,h2,h3,h4⟩
theorem iL {α:Type}(xs:List α) (v:α):cN (xs++[v]) (-1)=some v:=by
 have hl:(xs++[v]).length=xs.length+1:=by simp
 have e:fH (xs++[v]).length (-1)=some xs.length:=by
  unfold fH
  rw [hl,zI (by decide),zw (by omega)]
  congr 1
  omega
 unfold cN
 rw [e]
 show (xs++[v])[xs.length]?=some v
 simp
def fQ (b:Expr):Prop:=∀o i,subscripted b false o i=operate [o,i] (getItem o i)
def fR (X:Cx) (r:R2):Prop :=
 ∀(value slice:Expr) (pins:Ac) (s:Shared) (U:St) (H:Hp) (x y:V) (v u:Value) (Q:VK),Inv X pins U H s->RelV x v->RelV y u->r x y H Q ->
  subscripted slice false v u=operate [v,u] (getItem v u)->wpAny (model X.prog X.w) X.A (subscriptTail value slice v u) (EP X pins U Q) X.xe s
def Dw (X:Cx) (id:String) (r:V->List V->Hp->VK->Prop):Prop :=
 ∀(pins:Ac) (s:Shared) (U:St) (H:Hp) (x:V) (xs:List V) (v:Value) (us:Af) (Q:VK),Inv X pins U H s->RelV x v->Vals xs us->r x xs H Q ->
  wpAny (model X.prog X.w) X.A (call (.builtin id) (v::us)) (EP X pins U Q) X.xe s
section
variable {X:Cx} {a b:Expr} {ta tb:TE} {pos:Pos}
def fR.or {r r':R2}(h:fR X r) (h':fR X r'):fR X (λx y H Q=>r x y H Q\/r' x y H Q):=by
 intro value slice pins s U H x y v u Q I rx ry q hs
 rcases q with q|q
 ·exact h value slice pins s U H x y v u Q I rx ry q hs
 ·exact h' value slice pins s U H x y v u Q I rx ry q hs
def Dx {r:R2}(hr:fR X r) (ha:PE X a ta) (hb:PE X b tb) (hs:fQ b):PE X (.Subscript a b pos) (qb r ta tb):=by
 intro pins s U H Q I h
 exact Subscript_ (qc ha hb I h λv u s2 x y H2 I2 rx ry q=>hr a b pins s2 U H2 x y v u Q I2 rx ry q (hs _ _))
def Dy (K:PySem.W.Frag):R2:=λx y H Q=>∃p xs i v,x=.ref p/\y=.int i/\aZ K H p xs/\cN xs i=some v/\Q v H
def Dz (K:PySem.W.Frag):R2:=λx y H Q=>∃p xs i v,x=.ref p/\y=.int i/\ba K H p xs/\cN xs i=some v/\Q v H
def DA:R2:=λx y H Q=>∃z i c,x=.str z/\y=.int i/\z.length<=sizeLine/\cN z.cps.toList i=some c/\Q (.str ⟨#[c]⟩) H
theorem Nd:fR X (Dy X.K):=by
 intro value slice pins s U H x y v u Q I rx ry h hs
 obtain ⟨p,xs,i,z,rfl,rfl,hq,he,q⟩:=h
 cases rx
 obtain ⟨t,rfl⟩:=ry
 obtain ⟨its,r,pl,hz⟩:=I.list hq
 obtain ⟨j,h1,h2,h3,h4,h5⟩:=bJ he
 obtain ⟨w,ew,dX⟩:=r.get h2
 have hl:=r.length
 have hn:=sY
 have fin:EP X pins U Q w s:=⟨z,H,I,dX,q⟩
 by_cases h0:0<=i
 ·have hj:i.toNat=j:=by
   rw [seqIndex_of h0 h5] at h1
   exact Option.some.inj h1
  exact item_listR pl.isList h0 (by omega) (by rw [hj];simpa using ew) fin hs
 ·have hj:(i+(its.toArray.size:Int)).toNat=j:=by
   rw [seqIndex_neg (by omega) h4] at h1
   rw [y9,<-hl]
   exact Option.some.inj h1
  exact subscriptTail_builtinR (x:=w) pl.isList.typeIs slot_list_getitem.lookup
   (wpAny_getItem_list_neg (Q:=λr s'=>r=w/\EP X pins U Q r s') pl.isList (by omega) (by rw [y9]<;>omega) (by omega) (by rw [hj];simpa using ew) ⟨rfl,fin⟩) hs
theorem Nf:fR X (Dz X.K):=by
 intro value slice pins s U H x y v u Q I rx ry h hs
 obtain ⟨p,xs,i,z,rfl,rfl,hq,he,q⟩:=h
 cases rx
 obtain ⟨t,rfl⟩:=ry
 obtain ⟨its,r,pl,hz⟩:=I.tuple hq
 obtain ⟨j,h1,h2,h3,h4,h5⟩:=bJ he
 obtain ⟨w,ew,dX⟩:=r.get h2
 have hl:=r.length
 have hn:=sY
 have fin:EP X pins U Q w s:=⟨z,H,I,dX,q⟩
 exact subscriptTail_builtinR (x:=w) pl.typeIs slot_tuple_getitem.lookup
  (getItem_tuple (j:=j) (Q:=λr s'=>r=w/\EP X pins U Q r s') pl (by omega) (by omega) (by rw [y9,<-hl];exact h1) (by simpa using ew) ⟨rfl,fin⟩) hs
theorem Ng:fR X DA:=by
 intro value slice pins s U H x y v u Q I rx ry h hs
 obtain ⟨z,i,c,rfl,rfl,hz,he,q⟩:=h
 obtain ⟨t,rfl⟩:=rx
 obtain ⟨t',rfl⟩:=ry
 obtain ⟨j,h1,h2,h3,h4,h5⟩:=bJ he
 have hl:z.cps.toList.length=z.length:=by simp [Str.length]
 rw [hl] at h1 h4 h5
 have hn:=sY
 exact tail_any (typeIs_str s z t) slot_str_getitem.lookup (getItem_str (c:=c) (by
  have e1:decide (i < -(2 ^ 63:Int))=false:=yP (by omega)
  have e2:decide (i>=2 ^ 63)=false:=yP (by omega)
  rw [e1,e2,Bool.or_false]) (by rw [h1];simpa using h2) ⟨.str ⟨#[c]⟩,H,I.tok _,⟨_,rfl⟩,q⟩) hs
def Nh (K:PySem.W.Frag):R2:=λx y H Q=>Dy K x y H Q\/Dz K x y H Q\/DA x y H Q
def Ni:fR X (Nh X.K):=Nd.or (Nf.or Ng)
def Inv.lst {pins:Ac}{U:St}{H:Hp}{s:Shared}{p:Addr}{xs:List V}(I:Inv X pins U H s) (h:H p=some (.lst xs)) :
  ∃(its:Af) (n:Nat),Vals xs its/\s.heap.get? p=some { cls:=.type "list", data:=.seq its.toArray n }/\xs.length<=sizeLine:=by
 obtain ⟨z,its,n,r,e⟩:=I.hok p _ h
 exact ⟨its,n,r,e,z⟩
theorem Nj (lo hi:Option Int) (n:Nat):(sliceBounds lo hi none n).1=((HT.sIx n 0 lo:Nat):Int)/\(sliceBounds lo hi none n).2.1=((HT.sIx n n hi:Nat):Int)/\(sliceBounds lo hi none n).2.2=1:=by
 refine ⟨?_,?_,rfl⟩
 ·cases lo with
  |none=>simp [sliceBounds,HT.sIx]
  |some i =>
   simp only [sliceBounds,HT.sIx,Option.getD_none,show (1:Int)>0 by decide,if_true]
   by_cases h:i<0
   ·simp only [h,if_true]<;>omega
   ·simp only [h,if_false]<;>omega
 ·cases hi with
  |none=>simp [sliceBounds,HT.sIx]
  |some i =>
   simp only [sliceBounds,HT.sIx,Option.getD_none,show (1:Int)>0 by decide,if_true]
   by_cases h:i<0
   ·simp only [h,if_true]<;>omega
   ·simp only [h,if_false]<;>omega
def Nk (its:Af) (lo hi:Option Int):slicePick its.toArray lo hi none=((its.drop (HT.sIx its.length 0 lo)).take (HT.sIx its.length its.length hi-HT.sIx its.length 0 lo)).toArray:=by
 obtain ⟨h1,h2,h3⟩:=Nj lo hi its.toArray.size
 unfold slicePick
 rw [h1,h2,h3]
 simp only [sliceRange_one,pick_run,y9]<;>rfl
def Nl (K:PySem.W.Frag):V->Option Int->Option Int->Hp->VK->Prop:=λx lo hi H Q=>∃a xs,x=.ref a/\aZ K H a xs/\∀p,H p=none->Q (.ref p) (upd H p (.lst (gv xs lo hi)))
theorem Nm:iV X (Nl X.K):=by
 intro pins s U H x v vl vu lo hi sl Q I rx hs pl pu h
 obtain ⟨a,xs,rfl,hx,q⟩:=h
 cases rx
 obtain ⟨its,r,ht,hz⟩:=I.list hx
 have hlen:=r.length
 refine ⟨"list", _,slot_list_getitem.lookup,ht.isList.typeIs,?_⟩
 refine wpAny_getItem_list_slice ht.isList hs pl pu .none (by simp) ?_ (by rw [y9]<;>omega)
 rw [Nk,<-hlen]
 refine ⟨.ref s.heap.objs.size,_,I.laid (t':=s.toks) (o:=.lst (gv xs lo hi)) (λb ob q=>yp _ q) (yo _) ?_,rfl,q _ (I.hok.fresh (yo _))⟩
 exact ⟨jw (Dv xs lo hi) hz,_,0,(r.drop (HT.sIx xs.length 0 lo)).take (HT.sIx xs.length xs.length hi-HT.sIx xs.length 0 lo),y4 _ rfl⟩
def zoB:bh X (compareOp .NotIn) (λx y H Q=>∃i j,x=.str i/\y=.str j/\Q (.bl (!(!(Builtin.Str.occurrences j i 0 j.length 1).isEmpty))) H):=by
 intro pins s U H x y v u Q I rx ry h
 obtain ⟨i,j,rfl,rfl,q⟩:=h
 obtain ⟨t,rfl⟩:=rx
 obtain ⟨t',rfl⟩:=ry
 exact notIn_str ⟨.bl _,H,I,rfl,q⟩
def bP.or {f:Value}{r r':List V->Hp->VK->Prop}(h:bP X f r) (h':bP X f r'):bP X f (λxs H Q=>r xs H Q\/r' xs H Q):=by
 intro pins s U H xs us Q I rs q
 rcases q with q|q
 ·exact h pins s U H xs us Q I rs q
 ·exact h' pins s U H xs us Q I rs q
def Nn:bP X (.type "list") (λxs H Q=>∃p ys,xs=[.ref p]/\(aZ X.K H p ys\/ba X.K H p ys)/\∀l,H l=none->Q (.ref l) (upd H l (.lst ys))):=by
 intro pins s U H xs us Q I r h
 obtain ⟨p,ys,rfl,hq,q⟩:=h
 obtain ⟨u,rfl,rx⟩:=wD r
 cases rx
 have fin:∀(its:Af),Vals ys its->ys.length<=sizeLine->∀(h':Heap) (c':Nat),(∀b o',s.heap.get? b=some o'->h'.get? b=some o') ->
   h'.get? s.heap.objs.size=some { cls:=.type "list", dict:=none,data:=.seq its.toArray c',slots:=#[] }->EP X pins U Q (.ref s.heap.objs.size) { s with heap:=h' }:=λits r' hz h' c' kp e =>
  ⟨.ref s.heap.objs.size,_,I.laid (t':=s.toks) kp (yo _) (show aW X.prog X.w _ h' _ (.lst ys) from ⟨hz,its,c',r',e⟩),rfl,q _ (I.hok.fresh (yo _))⟩
 rcases hq with hq|hq
 ·obtain ⟨its,r',pl,hz⟩:=I.list hq
  have hlen:=r'.length
  obtain ⟨o,ho,hc,n,hd⟩:=pl.isList
  exact call_list_seq p (.inl rfl) ho hc hd (λh' c' kp e=>fin its r' hz h' c' kp e) (by simp only [y9]<;>omega)
 ·obtain ⟨its,r',pl,hz⟩:=I.tuple hq
  have hlen:=r'.length
  obtain ⟨o,ho,hc,n,hd⟩:=pl
  exact call_list_seq p (.inr rfl) ho hc hd (λh' c' kp e=>fin its r' hz h' c' kp e) (by simp only [y9]<;>omega)
def Np:bP X (.type "tuple") (λxs H Q=>∃p ys,xs=[.ref p]/\((aZ X.K H p ys/\∀l,H l=none->Q (.ref l) (upd H l (.tup ys)))\/(ba X.K H p ys/\Q (.ref p) H))):=by
 intro pins s U H xs us Q I r h
 obtain ⟨p,ys,rfl,h⟩:=h
 obtain ⟨u,rfl,rx⟩:=wD r
 cases rx
 rcases h with ⟨hq,q⟩|⟨hq,q⟩
 ·obtain ⟨its,r',pl,hz⟩:=I.list hq
  have hlen:=r'.length
  refine call_tuple_list pl.isList (λh' kp=>?_) (by simp only [y9]<;>omega)
  have I1:Inv X pins U H { s with heap:=h' }:=I.kept (t':=s.toks) kp
  have I2:Inv X pins U (upd H h'.objs.size (.tup ys)) { s with heap:=h'.push { cls:=.type "tuple", data:=.seq its.toArray } } :=
   I1.laid (t':=s.toks) (λb o e=>yp _ e) (yo _) (show aW X.prog X.w _ _ _ (.tup ys) from ⟨hz,its,r',IsTup.new _ _⟩)
  exact ⟨.ref h'.objs.size,_,I2,rfl,q _ (I1.hok.fresh (yo _))⟩
 ·obtain ⟨its,r',pl,hz⟩:=I.tuple hq
  exact call_tuple_same pl ⟨.ref p,H,I,rfl,q⟩
def DB (K:PySem.W.Frag) (T:String) (x:V) (H:Hp):Prop:=match x with
 |.str _=>T = "str"
 |.int _=>T = "int"
 |.ref p=>(T = "list" /\ ∃xs,aZ K H p xs)\/(T = "tuple" /\ ∃o,K.lookup p=some o/\o.cls=.type "tuple" /\ o.dict=none) \/
   (T = "dict" /\ ((∃kvs,H p=some (.dK kvs))\/∃kvs,H p=some (.dT kvs)))\/(T = "set" /\ ∃S n,H p=some (.set S n))
 |_=>False
def Nq {pins:Ac}{U:St}{H:Hp}{s:Shared}{T:String}{x:V}{v:Value}(I:Inv X pins U H s) (r:RelV x v) (ty:DB X.K T x H) :
  s.TypeIs v T/\∀a,v=.ref a->∃ob,s.heap.get? a=some ob/\ob.dict=none:=by
 cases x with
 |str z =>
  obtain ⟨t,rfl⟩:=r
  cases (show T = "str" from ty)
  exact ⟨typeIs_str s z t,λ_ e=>nomatch e⟩
 |int i =>
  obtain ⟨t,rfl⟩:=r
  cases (show T = "int" from ty)
  exact ⟨typeIs_int s i t,λ_ e=>nomatch e⟩
 |ref p =>
  cases r
  rcases ty with ⟨rfl,xs,hq⟩|⟨rfl,o,hk,hc,hd⟩|⟨rfl,hk⟩|⟨rfl,S,n,hk⟩
  ·obtain ⟨its,_,pl,_⟩:=I.list hq
   refine ⟨pl.isList.typeIs,λa e=>?_⟩
   cases e
   obtain ⟨o,n,e,c,hd,_⟩:=pl
   exact ⟨o,e,hd⟩
  ·refine ⟨⟨o,I.kIn p o hk,hc⟩,λa e=>?_⟩
   cases e
   exact ⟨o,I.kIn _ o hk,hd⟩
  ·have z:∃o,s.heap.get? p=some o/\o.ExactDict:=by
    rcases hk with ⟨kvs,hk⟩|⟨kvs,hk⟩
    ·obtain ⟨_,_,_,_,o,_,_,e,ex,_⟩:=I.hok p _ hk
     exact ⟨o,e,ex⟩
    ·obtain ⟨_,_,_,_,o,_,_,e,ex,_⟩:=I.hok p _ hk
     exact ⟨o,e,ex⟩
   obtain ⟨o,e,ex⟩:=z
   refine ⟨⟨o,e,ex.1⟩,λa e2=>?_⟩
   cases e2
   exact ⟨o,e,ex.2.1⟩
  ·obtain ⟨o,_,_,_,e,ex,_⟩:=I.hok p _ hk
   refine ⟨⟨o,e,ex.1⟩,λa e2=>?_⟩
   cases e2
   exact ⟨o,e,ex.2.1⟩
 |_=>exact ty.elim
def Nr (K:PySem.W.Frag) (T:String) (r:V->List V->Hp->VK->Prop) (to:TE) (t:TA):TE:=λU H Q=>to U H λx H1=>DB K T x H1/\t U H1 λxs H2=>r x xs H2 Q
variable {o e:Expr} {es:List Expr} {to:TE} {t:TA} {name:Str} {apos a0:Pos} {T id:String} {r:V->List V->Hp->VK->Prop}
def vY (pa:PlainAttrs T) (slot:Slot T name id) (oJ:typeOf (.builtin id)=pure (.type "method_descriptor")) (hm:Dw X id r) (ho:PE X o to) (ha:PA X (e::es) t)
  (cU:attributeBase o name X.env (eval o X.env)=eval o X.env:=by rfl)
  (gJ:((backTo a0 (starEach (e::es) X.env)).all (λx=>!x.1)&&(backToKw a0 (keywordEach [] X.env)).all (λx=>x.1.isSome)
   && decide ((e::es).length+([]:List Keyword).length+(if ([]:List Keyword).isEmpty then 0 else 1)<30))=true:=by rfl)
  (fI:(apos.endLine==a0.line)=true:=by rfl) (hs:starEach (e::es) X.env=(false,eval e X.env)::starEach es X.env:=by rfl) (tE:(backTo a0 (starEach es X.env)).any (·.1)=false:=by rfl) :
  PE X (.Call (.Attribute o name apos) (e::es) [] a0) (Nr X.K T r to t):=by
 intro pins s U H Q I h
 refine wpAny_Call_method_late cU gJ fI rfl (aS (ho pins s U H _ I h) λv s1 ⟨x,H1,I1,r1,ty,q1⟩=>?_)
 obtain ⟨h1,h2⟩:=Nq I1 r1 ty
 refine ⟨T,id,pa,slot,oJ,h1,h2,?_⟩
 have hA:=ha a0 pins s1 U H1 _ I1 q1
 rw [hs] at hA ⊢
 refine Calls.callWith_builtin (by show (false||(backTo a0 (starEach es X.env)).any (·.1))=false;rw [tE]<;>rfl) (Calls.evalArgs_plain ?_)
 exact aS hA λus s2 ⟨vs,H2,I2,r2,q2⟩=>hm pins s2 U H2 x vs v us Q I2 r1 r2 q2
end
def DD (X:Cx) (id:String) (r:V->List V->Hp->VK->Prop):Prop :=
 ∀(pins:Ac) (s:Shared) (U:St) (H:Hp) (x:V) (xs:List V) (v:Value) (us:Af) (Q:VK),Inv X pins U H s->RelV x v->Vals xs us->r x xs H Q ->
  wpAny (model X.prog X.w) X.A (call (.builtin id) (v::us)) (EP X pins U Q) X.xe s
def Vals.one:∀{x:V}{us:Af},Vals [x] us->∃u,us=[u]/\RelV x u
 |_,_,.cons r .nil=>⟨_,rfl,r⟩
def Vals.reverse {xs:List V}{us:Af}(h:Vals xs us):Vals xs.reverse us.reverse:=by
 induction h with
 |nil=>exact .nil
 |cons r t ih=>rw [List.reverse_cons,List.reverse_cons];exact Vals.append ih (.cons r .nil)
section
variable {X:Cx} {pins:Ac} {U:St} {H:Hp} {s:Shared} {l:Addr} {xs ys:List V}
def Inv.lset {its its':Af}{n:Nat}{f:Array Value->Array Value}{t':Nat}(I:Inv X pins U H s) (hH:H l=some (.lst xs))
  (e:s.heap.get? l=some { cls:=.type "list", data:=.seq its.toArray n }) (hf:f its.toArray=its'.toArray) (hv:Vals ys its') (hz:ys.length<=sizeLine) :
  Inv X pins U (upd H l (.lst ys)) { s with heap:=s.heap.update l (Obj.mapSeq f),toks:=t' }:=by
 have q:=PySem.IsL.update e f
 rw [hf] at q
 refine I.write (x:=l) (e:=l) (by rw [hH];exact trivial) (.inl rfl) (λb' u hb hu=>(wL s.heap (Obj.mapSeq f) (yz hb)).trans hu) ⟨_,q⟩ ?_
 exact ⟨hz,its',_,hv,q⟩
def Inv.lnew {its:Af}{t':Nat}(I:Inv X pins U H s) (hv:Vals ys its) (hz:ys.length<=sizeLine) :
  Inv X pins U (upd H s.heap.objs.size (.lst ys)) { s with heap:=s.heap.push { cls:=.type "list", data:=.seq its.toArray },toks:=t' } :=
 I.laid (λ_ _ q=>yp _ q) (yo _) ⟨hz,its,0,hv,y4 _ rfl⟩
def Inv.fresh (I:Inv X pins U H s):H s.heap.objs.size=none:=I.hok.fresh (yo _)
def Inv.lstM (I:Inv X pins U H s) (hH:H l=some (.lst xs)):xs.length<=sizeLine/\∃(its:Af) (n:Nat),Vals xs its/\xs.length=its.length/\s.heap.get? l=some { cls:=.type "list", data:=.seq its.toArray n }:=by
 obtain ⟨z,its,n,r,e⟩:=I.hok l _ hH
 exact ⟨z,its,n,r,r.length,e⟩
theorem oK {n:Nat}(h:n<=sizeLine):Builtin.List.listTooLong n=false:=by
 unfold Builtin.List.listTooLong
 exact yP (by omega)
end
section
variable {X:Cx}
def Nt:V->List V->Hp->VK->Prop:=λx vs H Q=>∃l xs y,x=.ref l/\vs=[y]/\H l=some (.lst xs)/\xs.length<sizeLine/\Q .non (upd H l (.lst (xs++[y])))
theorem zoH:DD X "list.append" Nt:=by
 intro pins s U H x vs v us Q I rx rv h
 obtain ⟨l,xs,y,rfl,rfl,hH,hz,q⟩:=h
 cases rx
 obtain ⟨u,rfl,ru⟩:=rv.one
 obtain ⟨z,its,n,r,hl,e⟩:=I.lstM hH
 refine call_meets F.slot_list_append ⟨_,e,rfl⟩ F.entry_list_append (F.args_list_append_2 _ _) (PySem.list_append l its.toArray n u (by rw [y9];omega)) ⟨e,?_⟩
 refine ⟨.non,_,I.lset (its':=its++[u]) hH e (by simp) (r.append (.cons ru .nil)) ?_,rfl,q⟩
 rw [iO,List.length_singleton]
 omega
def Nu:V->List V->Hp->VK->Prop:=λx vs H Q=>∃l b xs zs,x=.ref l/\vs=[.ref b]/\H l=some (.lst xs)/\H b=some (.lst zs)/\xs.length+zs.length<=sizeLine/\Q .non (upd H l (.lst (xs++zs)))
theorem zoJ:DD X "list.extend" Nu:=by
 intro pins s U H x vs v us Q I rx rv h
 obtain ⟨l,b,xs,zs,rfl,rfl,hH,hB,hz,q⟩:=h
 cases rx
 obtain ⟨u,rfl,ru⟩:=rv.one
 cases ru
 obtain ⟨z,its,n,r,hl,e⟩:=I.lstM hH
 obtain ⟨z2,cM,n2,r2,Nv,e2⟩:=I.lstM hB
 have hsz:its.toArray.size+cM.toArray.size<=sizeLine:=by rw [y9,y9];omega
 have vZ:¬(!its.toArray.isEmpty&&Builtin.List.listTooLong (its.toArray.size+cM.toArray.size))=true:=by
  rw [oK hsz,Bool.and_false]
  exact Bool.false_ne_true
 refine call_meets F.slot_list_extend ⟨_,e,rfl⟩ F.entry_list_extend (F.args_list_extend_2 _ _)
  (AutoSeq1.list_extend_list_list_0 l its.toArray n b cM.toArray n2 vZ (by rw [y9];omega) (by omega)) ⟨e,e2,?_⟩
 refine ⟨.non,_,I.lset (its':=its++cM) hH e (by simp) (r.append r2) ?_,rfl,q⟩
 rw [iO]
 omega
def Nw:R2:=λx y H Q=>∃l b xs zs,x=.ref l/\y=.ref b/\H l=some (.lst xs)/\H b=some (.lst zs)/\xs.length+zs.length<=sizeLine/\∀p,H p=none->Q (.ref p) (upd H p (.lst (xs++zs)))
def Nx:bh X (binaryOp .Add) Nw:=by
 intro pins s U H x y v u Q I rx ry h
 obtain ⟨l,b,xs,zs,rfl,rfl,hH,hB,hz,q⟩:=h
 cases rx
 cases ry
 obtain ⟨z,its,n,r,hl,e⟩:=I.lstM hH
 obtain ⟨z2,cM,n2,r2,Nv,e2⟩:=I.lstM hB
 refine PySem.P.add_list e e2 ?_ (by rw [y9,y9];omega)
 have ea:its.toArray++cM.toArray=(its++cM).toArray:=by simp
 rw [ea]
 exact ⟨.ref _,_,I.lnew (t':=s.toks) (r.append r2) (by rw [iO];omega),rfl,q _ I.fresh⟩
end
end L2
namespace Att
open PySem PySem.W PySem.Calls PyProof.Rows
def Ny {P:Params}{h:Heap}:∀(ns:List Int) (vs:Af),WellAll P h vs (ns.map WData.int)->IntsAre vs ns:=by
 intro ns
 induction ns with
 |nil =>
  intro vs w
  rw [List.map_nil] at w
  cases w
  exact .nil
 |cons n ns ih =>
  intro vs w
  rw [yK] at w
  cases w with
  |cons a b =>
   cases a
   exact .cons _ _ (ih _ b)
theorem Nz {l:OpenLaw}{n:Nat}(hn:l.most=some n) {P:Params}{h:Heap}{args:List WData}{vals:Af}
  (oh:l.row.toRowW.claim.pre args=true) (hwl:WellAll P h vals args) :
  ∃a vs ns,vals=[Value.ref a]/\args=[WData.list (ns.map WData.int)]/\h.get? a=some { cls:=.type "list", data:=.seq vs.toArray }/\IntsAre vs ns/\ns.length<=n:=by
 have NA:WShape.hasAll [] args [.list .int]=true:=(pre_splitW oh).1
 have hc:l.pre.holds [] { args:=args }=true:=(pre_splitW oh).2
 obtain ⟨d,r,rfl,h1,h2⟩:=hasAllW_cons NA
 obtain rfl:=hasAllW_nil h2
 obtain ⟨xs,rfl,h3⟩:=hasW_list h1
 obtain ⟨ns,rfl⟩:=items_int h3
 have hlen:ns.length<=n:=by
  unfold OpenLaw.pre at hc
  have h4:(WTm.not (.lt (.lit (.int (n:Int))) (.len (.arg 0)))).holds [] { args:=[.list (ns.map .int)] }=true:=by
   have h4:=(holds_andW hc).1
   rw [hn] at h4
   exact h4
  have h5:=condW_of h4 (w_not (w_lt w_lit (w_len_list (w_arg rfl))))
  rw [jD] at h5
  refine Nat.le_of_not_lt λq=>?_
  have q':(n:Int)<((ns.length:Nat):Int):=by omega
  first
   | (rw [jk q'] at h5;exact absurd h5 (by decide))
   | (simp at h5;omega)
 cases hwl with
 |cons w1 w2 =>
  cases w2
  cases w1 with
  |list ho gK=>exact ⟨_,_,ns,rfl,rfl,ho,Ny ns _ gK,hlen⟩
def NB (l:OpenLaw) (args:List WData):l.row.toRowW.claim.post args (.bool true) args=true :=
 postW_of (r:=l.row.toRowW) (X:=(true==true))
  (show WShape.has [] (.bool true) .bool=true by first|rfl|decide|simp [WShape.has,WShape.arms,WShape.armsAll])
  (show (WTm.eq .res (.lit (.bool true))).value [] { args:=args,res:=some (.bool true),after:=args }=some (.bool (true==true)) from w_eq_bool (w_res rfl) w_lit) rfl
def attach_call {l:OpenLaw}{n:Nat}{q:Program}{loose:Ad}{XP:(Ab)->Heap->Prop}{YP:World->Heap->Prop}{d:DefRec}
  (hn:l.most=some n) (qh:d.params.defaults=[])
  (call:∀(w:World) (s₀ ak:Shared) (mg mb:Ab) (fa:Addr) (o:Obj) (pm cd doc:Value) (a:Addr) (vs:Af) (ns:List Int),
   Ground q loose [] XP w s₀ mg mb ak.heap->YP w ak.heap ->
   ak.heap.get? fa=some o->o.data=.func (docDef d.name d.params d.body d.scope pm cd doc)->ak.heap.CodeRec cd d.name->mg d.name=some (.ref fa) ->
   ak.heap.get? a=some { cls:=.type "list", data:=.seq vs.toArray }->IntsAre vs ns->ns.length<=n->ak.gens=#[] ->
   codeAny (model l.prog w) callerA (.call (.ref fa) ⟨[.ref a],[]⟩) (λr s'=>r=.ok (.ret (.bool true))/\OldK ak.heap s'.heap/\s'.os=ak.os/\AllBare s'.gens) ak) :
  WalkO q loose XP YP l.row.toRowW d [] (λf vs=>PySem.call f vs):=by
 intro w s₀ ak mg mb G Y fa o pm cd doc dV kV ho hd fD hD hmg hg args vals as oh hlay hrd hwl hlo
 obtain rfl:dV=.none:=Dflts.none hD qh
 obtain rfl:kV=.none:=Dflts.noKw hD
 obtain ⟨a,vs,ns,rfl,rfl,qi,hints,hlen⟩:=Nz hn oh hwl
 refine enter_call (codeAny_mono (call w s₀ ak mg mb fa o pm cd doc a vs ns G Y ho (fd_plain hd) fD hmg qi hints hlen hg) λr s' hq=>?_)
 obtain ⟨rfl,h2,h3,h4⟩:=hq
 exact ⟨.inl ⟨.bool true,.bool true,[],rfl,λ_=>rfl,.bool true,NB l _,λ_=>⟨List.Pairwise.nil,λ_ hm=>(nomatch hm)⟩⟩,h2,h3,h4⟩
end Att
namespace L2
open PySem PySem.Spec PyProof.Rows
theorem DE:∀{vs:Af}{ns:List Int},IntsAre vs ns->Vals (ns.map V.int) vs
 |_,_,.nil=>.nil
 |_,_,.cons n t h=>.cons ⟨t,rfl⟩ (DE h)
def Only (H:Hp):Prop:=∀b,H b=none\/∃o xs,H b=some (.frz o (.lst xs))
def NC {P:Program}{w:World}{K:PySem.W.Frag}{mg mb:Ab}{CX:eA}{k:Nat}{fa a:Addr}{fd:FuncData}{x:Str}{sp:Sp}{ak:Shared}{vs:Af}{ns:List Int}
  (KX:K.In ak.heap) (DF:ak.heap.Ns mainGlobals mg) (hb:ak.heap.Ns builtinsNs mb) (ND:∀x:Str,x ≠ "__name__" -> mb x=bootBuiltins x) (vx:ak.heap.NoLimit) (hg:ak.gens=#[])
  (ha:ak.heap.get? a=some { cls:=.type "list", data:=.seq vs.toArray }) (hi:IntsAre vs ns) (hl:ns.length<=sizeLine) (hr:aV k callerA)
  (F:∀base:Heap,K.In base->base.Ns mainGlobals mg->bp P w K mg base CX k fa fd [x] sp) (v5:∀(s:Shared) (u:Value),BindsTo s fd ⟨[u],[]⟩ [(x,u)])
  (ic:∀H:Hp,Only H->aZ K H a (ns.map V.int)->sp [.ref a] H (λv _=>v=.bl true) λ_ _ _=>False)
  (v7:∀H e s',CX [] H ak (λ_ _ _=>False) e s'->False) :
  codeAny (model P w) callerA (.call (.ref fa) ⟨[.ref a],[]⟩) (λr s'=>r=.ok (.ret (.bool true))/\OldK ak.heap s'.heap/\s'.os=ak.os/\AllBare s'.gens) ak:=by
 have rv:=DE hi
 have DG:=hi.length
 have core:∀H:Hp,Only H->aZ K H a (ns.map V.int)->cu P w H ak.heap->(∀b,H b≠none->b=a)->(H a≠none->K.lookup a=none) ->
   codeAny (model P w) callerA (.call (.ref fa) ⟨[.ref a],[]⟩) (λr s'=>r=.ok (.ret (.bool true))/\OldK ak.heap s'.heap/\s'.os=ak.os/\AllBare s'.gens) ak:=by
  intro H hO hS hok hA hK
  have k_:∀{b:Addr} {o:Obj},ak.heap.get? b=some o->H b=none->(fN ak.heap H).get? b=some o:=λe n=>Ko e n
  have qd:∀{b:Addr} {o:Obj} {es:Array DictEntry} {ep:Nat},ak.heap.get? b=some o->o.data=.dict es ep->H b=none:=λ{b o es ep} e d=>by
   cases q:H b with
   |none=>rfl
   |some u =>
    have e':b=a:=hA b (by rw [q];simp)
    subst e'
    rw [ha] at e;cases e
    have d':Data.seq vs.toArray _=Data.dict es ep:=d
    cases d'
  have tF:∀{b:Addr} {m:Ab},ak.heap.Ns b m->(fN ak.heap H).Ns b m:=λ{b m} ⟨o,es,ep,e,d,r⟩=>⟨o,es,ep,k_ e (qd e d),d,r⟩
  have DH:K.In (fN ak.heap H):=λb o e=>k_ (KX b o e) (by
   cases q:H b with
   |none=>rfl
   |some u =>
    have e':b=a:=hA b (by rw [q];simp)
    subst e'
    rw [hK (by rw [q];simp)] at e;cases e)
  have hM:Mod K mg (fN ak.heap H):=⟨DH,tF DF,⟨mb,tF hb,ND⟩,let ⟨mc,h1,h2⟩:=vx;⟨mc,tF h1,h2⟩⟩
  have e0:fz P w K mg (fN ak.heap H) callerA [] ak H:=⟨rfl,hM,λb o e=>Kp e,Nat.le_of_eq (Km _ _),trivial,λb hb=>absurd (show b∈([]:Ae) from hb) (by simp),hok,.of_eq hg⟩
  refine codeAny_mono ((F _ DH (tF DF)).run callerA [] ak H ⟨[.ref a],[]⟩ [.ref a] [.ref a] _ _ hr e0 (v5 ak (.ref a)) (.cons rfl .nil) (ic H hO hS)) λr s' h=>?_
  cases r with
  |error e=>exact (v7 H e s' h).elim
  |ok fl =>
   cases fl with
   |next=>exact h.elim
   |brk=>exact h.elim
   |cont=>exact h.elim
   |ret u =>
    obtain ⟨v,H',os,bare,un,DI,r',q⟩:=h
    have q':v=.bl true:=q
    subst q'
    obtain rfl:u=Value.bool true:=r'
    refine ⟨rfl,OldK.of_keep λb o e=>?_,os,bare⟩
    cases q:H b with
    |none=>exact un.keep b o e q (by intro z;exact absurd (show b∈([]:Ae) from z) (by simp)) (by simp)
    |some u =>
     rcases hO b with z|⟨ob,xs,z⟩
     ·rw [q] at z;cases z
     ·have z2:=un.frzs b ob _ z
      obtain ⟨e1,_⟩:=hok b _ z
      obtain ⟨e2,_⟩:=DI b _ z2
      rw [e] at e1;cases e1
      exact e2
 cases hk:K.lookup a with
 |some o =>
  have e:=KX a o hk
  rw [ha] at e
  cases e
  refine core (λ_=>none) (λ_=>.inl rfl) (.inr ⟨_,vs.toArray,_,hk,rfl,rfl,rfl,by rw [y9,DG];exact hl,by simpa using rv⟩) (λb u z=>by have z':(none:Option HO)=some u:=z;cases z') (λb z=>absurd rfl z) λz=>absurd rfl z
 |none =>
  refine core (λb=>if b=a then some (.frz { cls:=.type "list", data:=.seq vs.toArray } (.lst (ns.map V.int))) else none) (λb=>?_) (.inl (.inr ⟨{ cls:=.type "list", data:=.seq vs.toArray },zw rfl⟩)) (λb u z=>?_) (λb z=>?_) λ_=>hk
  ·by_cases hb:b=a
   ·exact .inr ⟨_,_,zw hb⟩
   ·exact .inl (zI hb)
  ·by_cases hb:b=a
   ·have z':=(zw hb).symm.trans z
    cases z'
    subst hb
    exact ⟨ha,by rw [jD];exact hl,vs,_,rv,ha⟩
   ·have z':=(zI hb).symm.trans z
    cases z'
  ·by_cases hb:b=a
   ·exact hb
   ·exact absurd (zI hb) z
abbrev KOf {K:PySem.W.Frag}{h:Heap}(_:K.In h):PySem.W.Frag:=K
def zoQ {l:PySem.W.OpenLaw}{n k:Nat}{q:Program}{loose:Ad}{XP:(Ab)->Heap->Prop}{YP:World->Heap->Prop}{d:DefRec}{K:Params->PySem.W.Frag}{CX:World->eA}{sp:World->Sp}{x:Str}
  (hn:l.most=some n) (f_:n<=sizeLine) (qh:d.params.defaults=[]) (hr:aV k callerA)
  (hY:∀(w:World) (h:Heap),YP w h->(K w.params).In h)
  (F:∀(w:World) (mg:Ab) (fa:Addr) (h:Heap),(K w.params).In h->h.Ns mainGlobals mg->mg d.name=some (.ref fa) ->
   ∃fd:FuncData,(∀(s:Shared) (u:Value),BindsTo s fd ⟨[u],[]⟩ [(x,u)]) /\
    ∀base:Heap,(K w.params).In base->base.Ns mainGlobals mg->bp l.prog w (K w.params) mg base (CX w) k fa fd [x] (sp w))
  (ic:∀(w:World) (H:Hp) (a:Addr) (ns:List Int),ns.length<=n->Only H->aZ (K w.params) H a (ns.map V.int)->sp w [.ref a] H (λv _=>v=.bl true) λ_ _ _=>False)
  (v7:∀(w:World) (H:Hp) (s:Shared) (e:Value) (s':Shared),CX w [] H s (λ_ _ _=>False) e s'->False) :
  PySem.W.WalkO q loose XP YP l.row.toRowW d [] (λf vs=>PySem.call f vs):=by
 refine Att.attach_call hn qh λw s₀ ak mg mb fa o pm cd doc a vs ns G Y ho hd fD hmg qi hints hlen hg=>?_
 have KX:=hY w _ Y
 obtain ⟨fd,hb,hF⟩:=F w mg fa _ KX G.T.g hmg
 exact NC KX G.T.g G.T.b G.T.builtins G.T.nolimit hg qi hints (jw hlen f_) hr hF hb (λH hO hS=>ic w H a ns hlen hO hS) λH e s'=>v7 w H ak e s'
def inClass (s:Stmt) (j:Nat):Stmt:=match s with
 |.ClassDef _ _ _ body _ _ _ _ _ _ _=>body.getD j (.Pass ⟨0,0,0,0⟩)
 |_=>.Pass ⟨0,0,0,0⟩
def wE (s:Stmt):Arguments:=match s with
 |.FunctionDef _ a _ _ _ _ _ _ _ _=>a
 |_=>{ posonlyargs:=[],args:=[],vararg:=none,kwonlyargs:=[],kw_defaults:=[],kwarg:=none,defaults:=[] }
def jF (s:Stmt):List Stmt:=match s with
 |.FunctionDef _ _ b _ _ _ _ _ _ _=>b
 |_=>[]
def zG (s:Stmt):Scope:=match s with
 |.FunctionDef _ _ _ _ _ _ sc _ _ _=>sc
 |_=>{ kind:=.function,names:=[],isGenerator:=false,isCoroutine:=false }
abbrev DJ:eA:=λ_ _ _ _ _ _=>False
abbrev E0:XK:=λ_ _ _=>False
structure eB (K:PySem.W.Frag) (x qual:Str) (st:Stmt) (f:Addr) (fd:FuncData):Prop where
 ex:∃(oc:Value) (od:Option Addr) (kV doc pm:Value) (an:Option Addr) (aU ct:Value) (fF:Array (Option Value)),
  fd=PySem.W.fnOf x qual (wE st) (jF st) (zG st) .none kV doc pm an aU ct/\K.lookup f=some ⟨oc,od,.func fd,fF⟩/\PySem.W.codeIn K aU qual=true
 kp:PySem.W.keepIn K (.ref f)=true
section
variable {P:Program} {w:World} {K:PySem.W.Frag} {mg:Ab} {base:Heap}
def eB.ok {x qual:Str}{st:Stmt}{f:Addr}{fd:FuncData}{N ps:Ad}{k:Nat}{sp:Sp}(F:eB K x qual st f fd) (S:aq N ps (zG st)) (len:∀vs H Q E,sp vs H Q E->vs.length=ps.length)
  (fG:∀(aU:Value) (A:Around) (outer:List Env) (s:Shared) (H:Hp) (vs:List V) (Q:VK) (E:XK),aV k (A.deeper (envOfC qual (zG st) s.heap.objs.size f aU))->sp vs H Q E ->
   ∃t,cA (dQ DJ P w K mg base N qual (zG st) f aU A outer s H E).nox (jF st) t/\t { nx:=λ_ H'=>Q .non H',rt:=Q } (start N vs) H):bp P w K mg base DJ (k+1) f fd ps sp:=by
 obtain ⟨oc,od,kV,doc,pm,an,aU,ct,fF,rfl,lk,fD⟩:=F.ex
 refine Dl lk fD S len λA outer s H vs Q E hr ic=>?_
 obtain ⟨t,h,q⟩:=fG aU A outer s H vs Q E hr ic
 exact ⟨t,h.nox,q⟩
def eB.binds {x qual:Str}{st:Stmt}{f:Addr}{fd:FuncData}{ps:Ad}(F:eB K x qual st f fd)
  (h:∀(kV doc pm:Value) (an:Option Addr) (aU ct:Value) (us:Af),us.length=ps.length->bindArgs (PySem.W.fnOf x qual (wE st) (jF st) (zG st) .none kV doc pm an aU ct) ⟨us,[]⟩=pure (ps.zip us)):Binds K fd ps []:=by
 obtain ⟨oc,od,kV,doc,pm,an,aU,ct,fF,rfl,lk,fD⟩:=F.ex
 exact .all (h kV doc pm an aU ct)
def lh {x qual:Str}{st:Stmt}{f:Addr}{oc:Value}{od an:Option Addr}{fF:Array (Option Value)}{kV doc pm aU ct:Value}(l:K.lookup f=some ⟨oc,od,.func (PySem.W.fnOf x qual (wE st) (jF st) (zG st) .none kV doc pm an aU ct),fF⟩)
  (c:PySem.W.codeIn K aU qual=true) (k:PySem.W.keepIn K (.ref f)=true):eB K x qual st f (PySem.W.fnOf x qual (wE st) (jF st) (zG st) .none kV doc pm an aU ct):=⟨⟨oc,od,kV,doc,pm,an,aU,ct,fF,rfl,l,c⟩,k⟩
end
section
variable {X:Cx}
def pv (i:Nat) {x:Str} {pos:Pos} (hN:X.N[i]?=some x:=by rfl) (hv:p5 X.env.scope x:=by first|exact Or.inl rfl|exact Or.inr (Or.inl rfl)|exact Or.inr (Or.inr rfl)) (hd:(x==("__debug__" : Str))=false:=by decide)
  (fD:(x==("__classdict__" : Str))=false:=by decide):PE X (.Name x pos) (sJ i):=CJ hN hv hd fD
end
def fA (H H':Hp):Prop:=∀b o,H b=some o->H' b=some o
def fA.refl (H:Hp):fA H H:=λ_ _ h=>h
def fA.trans {H H1 H2:Hp}(a:fA H H1) (b:fA H1 H2):fA H H2:=λc o h=>b c o (a c o h)
def fA.free {H H':Hp}(e:fA H H') {l:Addr}(h:H' l=Option.none):H l=Option.none:=by
 cases q:H l with
 |none=>rfl
 |some o =>
  rw [e l o q] at h
  cases h
def fA.seq {K:PySem.W.Frag}{H H':Hp}{a:Addr}{xs:List V}(e:fA H H') (h:aZ K H a xs):aZ K H' a xs:=by
 rcases h with (h|⟨o,h⟩)|h
 ·exact .inl (.inl (e _ _ h))
 ·exact .inl (.inr ⟨o,e _ _ h⟩)
 ·exact .inr h
end L2
set_option maxHeartbeats 4000000
namespace L2
open PySem PySem.Spec PyProof.Rows
theorem DK {l z D b:Nat}(h1:l<z) (h2:z=D) (h3:D<=b) (h4:b=l):False:=by omega
theorem mM {b D C:Nat}(h1:b<D) (h2:C=D+1) (h3:b=C):False:=by omega
theorem DL {b e d:Nat}(h1:b<e) (h2:e<=d) (h3:d<=b):False:=by omega
theorem DM {b D p:Nat}(h1:b<D) (h2:p=D) (h3:p=b):False:=by omega
theorem v8 (env:Env):∀(l:List (Str×NameKind)) (acc:List (Str×Addr)),(∀p∈l,p.2=.free->∃c,env.cells.lookup p.1=some c) ->
  ∃cl,(forIn l acc (λ(x:Str×NameKind) (cs:List (Str×Addr))=>if (x.snd==NameKind.free)=true then do
            let a <-cellOf env x.fst
            pure (ForInStep.yield ((x.fst,a)::cs))
      else pure (ForInStep.yield cs)):Sem (List (Str×Addr)))=pure cl /\
   (∀y c,(y,c)∈cl->(y,c)∈acc\/(env.cells.lookup y=some c/\(y,NameKind.free)∈l))/\(∀p∈acc,p∈cl)/\(∀y,(y,NameKind.free)∈l->∃c,(y,c)∈cl)
 |[],acc,_=>⟨acc,rfl,λ_ _ h=>.inl h,λ_ h=>h,λ_ h=>nomatch h⟩
 | (n,k)::r,acc,gK=>by
  by_cases hk:k=.free
  ·subst hk
   obtain ⟨c,hc⟩:=gK (n,.free) ja rfl
   obtain ⟨cl,e,h1,h2,h3⟩:=v8 env r ((n,c)::acc) λp hp=>gK p (jg _ hp)
   refine ⟨cl,?_,λy d hy=>?_,λp hp=>h2 p (jg _ hp),λy hy=>?_⟩
   ·rw [List.forIn_cons]
    simp only [beq_self_eq_true,if_true]
    have:cellOf env n=pure c:=by unfold cellOf;rw [hc]
    rw [this]
    exact e
   ·rcases h1 y d hy with q|q
    ·rcases yE.mp q with q|q
     ·cases q
      exact .inr ⟨hc,ja⟩
     ·exact .inl q
    ·exact .inr ⟨q.1,jg _ q.2⟩
   ·rcases yE.mp hy with q|q
    ·cases q
     exact ⟨c,h2 _ ja⟩
    ·exact h3 y q
  ·obtain ⟨cl,e,h1,h2,h3⟩:=v8 env r acc λp hp=>gK p (jg _ hp)
   refine ⟨cl,?_,λy d hy=>?_,h2,λy hy=>?_⟩
   ·rw [List.forIn_cons]
    have:(k==NameKind.free)=false:=by simpa using hk
    simp only [this,Bool.false_eq_true,if_false]
    exact e
   ·rcases h1 y d hy with q|q
    ·exact .inl q
    ·exact .inr ⟨q.1,jg _ q.2⟩
   ·rcases yE.mp hy with q|q
    ·cases q
     exact absurd rfl hk
    ·exact h3 y q
theorem DN {β:Type}{y:Str}:∀{l:List (Str×β)}{c:β},(y,c)∈l->∃d,l.lookup y=some d
 | (n,b)::r,c,h=>by
  rw [yL]
  cases e:y==n with
  |true=>exact ⟨b,rfl⟩
  |false =>
   rcases yE.mp h with q|q
   ·cases q
    simp at e
   ·exact DN q
def DO (env:Env) (scope:Scope) (gK:∀p∈scope.names,p.2=.free->∃c,env.cells.lookup p.1=some c) :
  ∃cl,closureFor scope env=pure cl/\(∀y c,cl.lookup y=some c->env.cells.lookup y=some c)/\(∀y,(y,NameKind.free)∈scope.names->∃c,cl.lookup y=some c):=by
 obtain ⟨cl,e,h1,_,h3⟩:=v8 env scope.names [] gK
 refine ⟨cl,?_,λy c hy=>?_,λy hy=>?_⟩
 ·simp only [closureFor]
  rw [e]
  rfl
 ·rcases h1 y c (PySem.mem_of_lookup hy) with z|z
  ·cases z
  ·exact z.1
 ·obtain ⟨c,hc⟩:=h3 y hy
  exact DN hc
structure dI (sc scope:Scope) (x:Str):Prop where
 kind:scope.kind=.function
 ncell:∀y∈scope.names,y.2 ≠ .cell
 names:∀y∈scope.names,y.2=.local->scope.names.lookup y.1=some .local/\(y.1=x\/y.1 = ".0")
 hx:scope.names.lookup x=some .local
 free:∀y∈scope.names,y.2=.free->sc.names.lookup y.1=some .cell
def lu (X:Cx) (M:Ad) (scope:Scope) (cl:List (Str×Addr)) (x:Str) (C:Addr) (af:Shared) (ah:Hp) (fp:Ae) (E:Aa):Cx :=
 { X with N:=x::M,s₀:=af,H₀:=ah,env:=compEnvC scope cl C X.env,outer:=X.stack,ex:=fp,fn:=λ_=>false,pn:=[],xe:=E }
def Hid (scope:Scope) (M N:Ad):Prop:=M.length=N.length/\∀p∈M.zip N,p.1=p.2\/p.1∉scope.names.map Prod.fst
def Hid.refl {scope:Scope}{N:Ad}:Hid scope N N:=⟨rfl,λp hp=>.inl (by
 obtain ⟨i,hi,e⟩:=List.getElem_of_mem hp
 rw [List.getElem_zip] at e
 rw [<-e])⟩
def Hid.get {scope:Scope}{M N:Ad}(h:Hid scope M N) {i:Nat}{y:Str}(e:M[i]?=some y):N[i]?=some y\/y∉scope.names.map Prod.fst:=by
 obtain ⟨hi,ei⟩:=yD.mp e
 have hj:i<N.length:=h.1▸hi
 have hm:(M[i],N[i])∈M.zip N:=kW (i:=i) (by rw [List.getElem?_zip_eq_some];exact ⟨yx hi,yx hj⟩)
 rcases h.2 _ hm with q|q
 ·exact .inl (by rw [yx hj,<-ei];exact congrArg some q.symm)
 ·exact .inr (by rw [<-ei];exact q)
def DP (X:Cx) (scope:Scope) (cl:List (Str×Addr)) (x:Str) (C:Addr) (af:Shared) (ah:Hp) (fp:Ae) (E:Aa):Cx :=
 { X with N:=x::X.N,s₀:=af,H₀:=ah,env:=compEnvC scope cl C X.env,outer:=X.stack,ex:=fp,fn:=λ_=>false,pn:=[],xe:=E }
section
variable {X:Cx} {scope:Scope} {x:Str}
def lz {env:Env}{y:Str}{k:NameKind}(h:(relabel scope env).names.lookup y=some k):∃k0,(y,k0)∈scope.names/\((k0=.free/\env.kindOf y=some .cell/\k=.cell)\/(k=k0/\¬(k0=.free/\env.scope.kind=.function/\env.kindOf y=some .cell))):=by
 have hm:=PySem.mem_of_lookup h
 obtain ⟨⟨n,k0⟩,hn,e⟩:=wq.mp hm
 by_cases hc:(k0==NameKind.free&&env.scope.kind == .function&&env.kindOf n==some .cell)=true
 ·have e':(n,NameKind.cell)=(y,k):=by rw [<-e];simp only [hc,if_true]
  cases e'
  simp only [jZ,beq_iff_eq] at hc
  exact ⟨_,hn,.inl ⟨hc.1.1,hc.2,rfl⟩⟩
 ·have e':(n,k0)=(y,k):=by rw [<-e];simp only [hc,if_false];rfl
  cases e'
  refine ⟨_,hn,.inr ⟨rfl,λ⟨a,b,c⟩=>hc ?_⟩⟩
  simp [a,b,c]
def DQ (S:dI X.env.scope scope x) {y:Str} (h:(relabel scope X.env).names.lookup y=some .local):y=x\/y = ".0" := by
 obtain ⟨k0,hm,⟨_,_,e⟩|⟨e,_⟩⟩:=lz h
 ·cases e
 ·subst e
  exact (S.names _ hm rfl).2
def v9 (S:dI X.env.scope scope x) (hk:X.env.scope.kind=.function) {y:Str}(h:(relabel scope X.env).names.lookup y=some .cell\/(relabel scope X.env).names.lookup y=some .free):(y,NameKind.free)∈scope.names:=by
 rcases h with h|h
 ·obtain ⟨k0,hm,⟨e,_,_⟩|⟨e,_⟩⟩:=lz h
  ·subst e;exact hm
  ·subst e;exact absurd rfl (S.ncell _ hm)
 ·obtain ⟨k0,hm,⟨_,_,e⟩|⟨e,n⟩⟩:=lz h
  ·cases e
  ·subst e
   exact hm
end
def NF {P:Program}{wd:World}{B:Around}{Z:Result->Shared->Prop}{u0:Shared}{el tg iter:Expr}{sc:Scope}{ps:Pos}{iv ac:Value}{ev:Env}(J0:Nat->Shared->Prop)
  (turn:∀k u,J0 k u->wpAny (model P wd) B (pyNext iv) (λr u1=>match r with|none=>Z (.ok .next) u1|some v=>wpAny (model P wd) B (letOwnedTupleGo tg iv v) (λ_ u2 =>
   wpAny (model P wd) B (assign tg ev v) (λ_ u3=>wpAny (model P wd) B (eval el ev) (λy u4=>wpAny (model P wd) B (call (.builtin "list.append") [ac,y]) (λ_ u5=>∃m,m<k/\J0 m u5)
    (notedBy (model P wd) B ev λe u=>Z (.error e) u) u4) (notedBy (model P wd) B ev λe u=>Z (.error e) u) u3) (notedBy (model P wd) B ev λe u=>Z (.error e) u) u2) (notedBy (model P wd) B ev λe u=>Z (.error e) u) u1)
   (notedBy (model P wd) B ev λe u=>Z (.error e) u) u)
  (k0:Nat) (iW:J0 k0 u0):codeAny (model P wd) B (.compLoop (.ListComp el [⟨tg,iter,[],0⟩] sc ps) 0 iv ac ev) Z u0:=by
 refine codeAny_loop rfl J0 (λk u hJ=>wpAny_noted (E:=λe u=>Z (.error e) u) (env:=ev) (m:=compTurn (.ListComp el [⟨tg,iter,[],0⟩] sc ps) 0 iv ac ev) ?_) k0 iW
 rw [compTurn_list1]
 have one:=turn k u hJ
 refine zu (wpAny_standAt (zu (yY one (λr u1 q1=>?_) λ_ _ z=>z)))
 cases r with
 |none=>exact ye q1
 |some v =>
  refine zu (yY q1 (λ_ u2 q2=>zu (yY q2 (λ_ u3 q3=>?_) λ_ _ z=>z)) λ_ _ z=>z)
  exact zu (zu (yY q3 (λy u4 q4=>zu (yY q4 (λ_ u5 q5=>ye (ye ⟨rfl,q5⟩)) λ_ _ z=>z)) λ_ _ z=>z))
def mO (J:It) (te:TE) (U:St) (Q:VK) (H1:Hp):Prop:=∃W:Nat->Nat->List V->Hp->Prop,(∃m,W 0 m [] H1)/\∀i m ys H,W i m ys H ->
 (J.stop i H/\ys.length<=sizeLine/\∀l,H l=none->Q (.ref l) (upd H l (.lst ys))) \/
 (J.go i H/\ys.length<=sizeLine/\∀z H',J.yld i H z H'->te (some z::U) H' λy H2=>∃m',m'<m/\W (i+1) m' (ys++[y]) H2)
def DR (wi:TI) (te:TE):TE:=λU H Q=>wi U H λJ H1=>mO J te U Q H1
end L2
namespace L2
open PySem PySem.Spec PyProof.Rows PySem.W
structure di (sc scope:Scope) (xs:Ad):Prop where
 kind:scope.kind=.function
 ncell:∀y∈scope.names,y.2 ≠ .cell
 names:∀y∈scope.names,y.2=.local->scope.names.lookup y.1=some .local/\(y.1∈xs\/y.1 = ".0")
 free:∀y∈scope.names,y.2=.free->sc.names.lookup y.1=some .cell
def fj (X:Cx) (scope:Scope) (cl:List (Str×Addr)) (xs:Ad) (C:Addr) (af:Shared) (ah:Hp) (fp:Ae) (E:Aa):Cx :=
 { X with N:=xs++X.N,s₀:=af,H₀:=ah,env:=compEnvC scope cl C X.env,outer:=X.stack,ex:=fp,fn:=λ_=>false,pn:=[],xe:=E }
def dR (X:Cx) (M:Ad) (scope:Scope) (cl:List (Str×Addr)) (xs:Ad) (C:Addr) (af:Shared) (ah:Hp) (fp:Ae) (E:Aa):Cx :=
 { X with N:=xs++M,s₀:=af,H₀:=ah,env:=compEnvC scope cl C X.env,outer:=X.stack,ex:=fp,fn:=λ_=>false,pn:=[],xe:=E }
section
variable {X:Cx} {scope:Scope} {xs:Ad}
def DS (S:di X.env.scope scope xs) {y:Str} (h:(relabel scope X.env).names.lookup y=some .local):y∈xs\/y = ".0" := by
 obtain ⟨k0,hm,⟨_,_,e⟩|⟨e,_⟩⟩:=lz h
 ·cases e
 ·subst e
  exact (S.names _ hm rfl).2
def v_ (S:di X.env.scope scope xs) (hk:X.env.scope.kind=.function) {y:Str}(h:(relabel scope X.env).names.lookup y=some .cell\/(relabel scope X.env).names.lookup y=some .free):(y,NameKind.free)∈scope.names:=by
 rcases h with h|h
 ·obtain ⟨k0,hm,⟨e,_,_⟩|⟨e,_⟩⟩:=lz h
  ·subst e;exact hm
  ·subst e;exact absurd rfl (S.ncell _ hm)
 ·obtain ⟨k0,hm,⟨_,_,e⟩|⟨e,n⟩⟩:=lz h
  ·cases e
  ·subst e
   exact hm
end
def iX (X:Cx) (ifs:List Expr) (t:TT):Prop:=∀(pins:Ac) (s:Shared) (U:St) (H:Hp) (Q:Bool->Hp->Prop),Inv X pins U H s->t U H Q ->
 wpAny (model X.prog X.w) X.A (forIn ifs true λc r=>if r=true then do let ok <-isTrue c X.env (eval c X.env);pure (ForInStep.yield ok) else pure (ForInStep.yield r)) (TP X pins U Q) X.xe s
def oM:TT:=λ_ H Q=>Q true H
def DT {X:Cx}:iX X [] oM:=λpins s U H Q I h=>wpAny_tests_nil ⟨H,I,h⟩
def w_ {X:Cx}{c:Expr}{t:TT}(h:PT X c t):iX X [c] t:=λpins s U H Q I q=>wpAny_tests_one (h pins s U H Q I q)
def iX.nox {X:Cx}{ifs:List Expr}{t:TT}(h:iX X.nox ifs t):iX X ifs t:=λpins s U H Q I hw =>
 yY (h pins s U H Q (I.wish _) hw) (λb s' ⟨H',I',q⟩=>⟨H',I'.unwish,q⟩) λ_ _ z=>z.elim
def NG {P:Program}{wd:World}{B:Around}{Z:Result->Shared->Prop}{u0:Shared}{el tg iter:Expr}{ifs:List Expr}{sc:Scope}{ps:Pos}{iv ac:Value}{ev:Env}(J0:Nat->Shared->Prop)
  (turn:∀k u,J0 k u->wpAny (model P wd) B (pyNext iv) (λr u1=>match r with|none=>Z (.ok .next) u1|some v=>wpAny (model P wd) B (letOwnedTupleGo tg iv v) (λ_ u2 =>
   wpAny (model P wd) B (assign tg ev v) (λ_ u3=>wpAny (model P wd) B (forIn ifs true λc r=>if r=true then do let ok <-isTrue c ev (eval c ev);pure (ForInStep.yield ok) else pure (ForInStep.yield r)) (λok u4 =>
    if ok=true then wpAny (model P wd) B (eval el ev) (λy u5=>wpAny (model P wd) B (call (.builtin "list.append") [ac,y]) (λ_ u6=>∃m,m<k/\J0 m u6)
    (notedBy (model P wd) B ev λe u=>Z (.error e) u) u5) (notedBy (model P wd) B ev λe u=>Z (.error e) u) u4 else ∃m,m<k/\J0 m u4) (notedBy (model P wd) B ev λe u=>Z (.error e) u) u3) (notedBy (model P wd) B ev λe u=>Z (.error e) u) u2) (notedBy (model P wd) B ev λe u=>Z (.error e) u) u1)
   (notedBy (model P wd) B ev λe u=>Z (.error e) u) u)
  (k0:Nat) (iW:J0 k0 u0):codeAny (model P wd) B (.compLoop (.ListComp el [⟨tg,iter,ifs,0⟩] sc ps) 0 iv ac ev) Z u0:=by
 refine codeAny_loop rfl J0 (λk u hJ=>wpAny_noted (E:=λe u=>Z (.error e) u) (env:=ev) (m:=compTurn (.ListComp el [⟨tg,iter,ifs,0⟩] sc ps) 0 iv ac ev) ?_) k0 iW
 rw [compTurn_list]
 have one:=turn k u hJ
 refine zu (wpAny_standAt (zu (yY one (λr u1 q1=>?_) λ_ _ z=>z)))
 cases r with
 |none=>exact ye q1
 |some v =>
  refine zu (yY q1 (λ_ u2 q2=>zu (yY q2 (λ_ u3 q3=>zu (yY q3 (λok u4 q4=>?_) λ_ _ z=>z)) λ_ _ z=>z)) λ_ _ z=>z)
  cases ok with
  |true=>exact zu (zu (yY q4 (λy u4 q4=>zu (yY q4 (λ_ u5 q5=>ye (ye ⟨rfl,q5⟩)) λ_ _ z=>z)) λ_ _ z=>z))
  |false=>exact zu (ye (ye ⟨rfl,q4⟩))
def iY (J:It) (gt:TG) (tt:TT) (te:TE) (n:Nat) (U:St) (Q:VK) (H1:Hp):Prop:=∃W:Nat->Nat->List V->Hp->Prop,(∃m,W 0 m [] H1)/\∀i m ys H,W i m ys H ->
 (J.stop i H/\ys.length<=sizeLine/\∀l,H l=none->Q (.ref l) (upd H l (.lst ys))) \/
 (J.go i H/\ys.length<=sizeLine/\∀z H',J.yld i H z H'->gt z (List.replicate n none++U) H' λaw H1=>∃own:St,aw=own++U/\own.length=n/\tt aw H1 λb H2 =>
  if b=true then te aw H2 λy H3=>∃m',m'<m/\W (i+1) m' (ys++[y]) H3 else ∃m',m'<m/\W (i+1) m' ys H2)
def xb (wi:TI) (gt:TG) (tt:TT) (te:TE) (n:Nat):TE:=λU H Q=>wi U H λJ H1=>iY J gt tt te n U Q H1
theorem xf {X:Cx} {elt iter tg:Expr} {ifs:List Expr} {xs:Ad} {pos:Pos} {scope:Scope} {wi:TI} {gt:TG} {tt:TT} {te:TE} {M:Ad} (hc:X.calm=true) (S:di X.env.scope scope xs) (eN:Hid scope M X.N) (cD:((".0" : Str)::(xs++M)).Nodup)
  (hi:PI X tg iter wi) (xg:∀cl C af ah fp E,PG (dR X M scope cl xs C af ah fp E) tg gt) (iZ:∀cl C af ah fp,iX (dR X M scope cl xs C af ah fp (λ_ _=>False)) ifs tt) (he:∀cl C af ah fp,PE (dR X M scope cl xs C af ah fp (λ_ _=>False)) elt te)
  (hs:∀v,foldedSetIterable iter X.env v=pure v:=by intro _;rfl):PE X (.ListComp elt [⟨tg,iter,ifs,0⟩] scope pos) (xb wi gt tt te xs.length):=by
 intro pins s U H Q I h
 have hN:(xs++M).Nodup:=(wt.mp cD).2
 have xh:(".0" : Str)∉M:=λz=>(wt.mp cD).1 (yR _ z)
 obtain ⟨cl,mP,dv,lA⟩:=DO X.env scope λp hp hf=>I.ok.has p.1 (.inl (S.free p hp hf))
 have mQ:X.env.scope.kind=.function:=I.ok.kind
 rw [eval_ListComp]
 refine wpAny_comprehension_free (use:=none) rfl hs mP S.kind (λy hy hl=>(S.names y hy hl).1) ?_
 refine aS (hi pins s U H _ I h) λv s1 h1=>aS h1 λsU af h2=>?_
 obtain ⟨it,fp,tn,J,H2,e,I2,T,au,f2,W,⟨m0,w0⟩,turn⟩:=h2
 subst e
 refine iN (wpAny_newFunctionEnv S.ncell (by intro y hy;simp at hy) (λax aF aA=>?_) S.kind)
 dsimp only at aF aA ⊢
 generalize hH2:af.heap.push { cls:=.type "list", dict:=none,data:=.seq ([]:Af).toArray }=G2 at aF aA ⊢
 have hC:G2.objs.size=af.heap.objs.size+1:=by rw [<-hH2,Heap.size_push]
 have ie:af.heap.objs.size≠G2.objs.size:=by rw [hC];exact yO (jW _)
 have DU:af.heap.objs.size<=G2.objs.size:=by rw [hC];exact Nat.le_succ _
 have old:∀b o,af.heap.get? b=some o->ax.get? b=some o:=λb o e=>by
  have hb:b≠G2.objs.size:=by rw [hC];exact yO (Nat.lt_succ_of_lt (yt e))
  exact aA.extBut b o hb (yp _ (hH2▸yp _ e))
 have fS:ax.get? af.heap.objs.size=some { cls:=.type "list", data:=.seq (#[]:Array Value) 0 }:=aA.extBut _ _ ie (yp _ (hH2▸y4 _ rfl))
 generalize hD:af.heap.objs.size=D at *
 generalize hCC:G2.objs.size=C at *
 have fq:∀{b:Nat} {o:Obj},af.heap.get? b=some o->b<D:=λe=>by rw [<-hD];exact yt e
 have nofr:∀b,D<=b->b∉dr X.stack:=λb hb z=>by
  rcases yE.mp (I2.stkSub b z) with q|q
  ·exact DK I2.lt hD hb q
  ·exact I2.nofs (by rw [hD];exact hb) q
 let E':Aa:=notedBy (model X.prog X.w) X.A (compEnvC scope cl C X.env) λe s'=>compPost (model X.prog X.w) X.A X.xe none (EP X pins U Q) (.ref D) C (.error e) s'
 let Y:Cx:=dR X M scope cl xs C af H2 fp E'
 have dY:∀b∈fp,du X pins H2 b:=f2
 have mR:Y.Ok:=by
  refine ⟨I2.ok.mod,S.kind,I2.ok.glob,I2.ok.blt,(by show af.heap.objs.size<=C;omega),λy z c h1 h2=>?_,λy hy=>?_,λy c hf=>?_,I2.ok.hd,I2.ok.frames,.inl rfl,λb hb=>?_,I2.bs,jw I2.ok.bsz I2.sz,λb o hb hx=>?_,λb hb hx=>?_,I2.stack,I2.stkFree⟩
  ·exact I2.ok.inj y z c (dv y c h1) (dv z c h2)
  ·exact lA y (v_ S mQ hy)
  ·cases hf
  ·refine ⟨λz=>?_,λy c hy=>(dY b hb).2.2.2.2.1 y c (dv y c hy)⟩
   obtain ⟨o,ho,_⟩:=T.obj 0 _ au b hb
   exact mM (fq ho) hC z
  ·rcases (dY b hx).2.2.2.1 with z|z
   ·exact I2.ok.noex b o hb z
   ·exact DL (yt hb) I2.ok.bsz z
  ·rcases yE.mp (I2.stkSub b hx) with q|q
   ·exact (dY b hb).2.1 q
   ·exact (dY b hb).2.2.1 q
 have gd:∀{s':Shared} {H':Hp} {o:Obj},s'.heap.get? D=some o->H' D=none->(∀v,o.data ≠ .cell v)->∀p∈[(D,o)],s'.heap.get? p.1=some p.2/\H' p.1=none/\p.1≠Y.env.locals/\p.1∉Y.fs/\∀v,p.2.data ≠ .cell v:=λ{s' H' o} e1 e2 e3 p hp=>by
  have ep:p=(D,o):=by simpa using hp
  subst ep
  exact ⟨e1,e2,ie,nofr D (yo _),e3⟩
 have I0:Inv Y [(D,{ cls:=.type "list", data:=.seq (#[]:Array Value) 0 })] (List.replicate xs.length none++U) H2 { af with heap:=ax,toks:=af.toks+([]:List (Str×Value)).length }:=by
  have fresh:∀b,D<=b->H2 b=none:=λb hb=>I2.hok.fresh (by rw [hD];exact hb)
  refine ⟨mR,rfl,I2.bare,Un.kept old,⟨_,aF,λi y v e1 e2 e3=>?_⟩,λy c hy=>?_,fresh C (by omega),λy c hy=>I2.freeC y c (dv y c hy),λp hp=>gd fS (fresh D (yo _)) (λv z=>by cases z) p hp,I2.hok.kept old,?_⟩
  ·by_cases bz:i<xs.length
   ·rw [iQ (by simpa using bz),List.getElem?_replicate] at e2
    simp [bz] at e2
   ·obtain ⟨j,rfl⟩:∃j,i=xs.length+j:=⟨i-xs.length,by omega⟩
    have qj:M[j]?=some y:=by
     have:(xs++M)[xs.length+j]?=some y:=e1
     rw [iR (by omega)] at this
     simpa using this
    have xi:X.N[j]?=some y:=by
     rcases eN.get qj with q|q
     ·exact q
     ·refine absurd ?_ q
      rcases e3 with e3|e3|e3<;>(obtain ⟨k0,hm,_⟩:=lz e3;exact wq.mpr ⟨_,hm,rfl⟩)
    have xj:U[j]?=some (some v):=by
     rw [iR (by simp)] at e2
     simpa using e2
    have qk:¬(y∈xs\/y = ".0"):=λz=>by
     have hm:=kW qj
     rcases z with z|z
     ·exact (List.nodup_append.mp hN).2.2 y z y hm rfl
     ·rw [z] at hm
      exact xh hm
    have dk:(y,NameKind.free)∈scope.names:=by
     rcases e3 with e3|e3|e3
     ·exact absurd (DS S e3) qk
     ·exact v_ S mQ (.inl e3)
     ·exact v_ S mQ (.inr e3)
    have ql:X.env.scope.names.lookup y=some .cell:=S.free _ dk rfl
    obtain ⟨m,hn,hl⟩:=I2.loc
    obtain ⟨u,r,l⟩:=hl j y v xi xj (.inr (.inl ql))
    refine ⟨u,r,?_⟩
    rcases l with ⟨hk,_⟩|⟨_,c,oH,eI⟩
    ·have:X.env.kindOf y=some .cell:=ql
     rw [this] at hk;cases hk
    ·obtain ⟨c',dg⟩:=lA y dk
     have:=dv y c' dg
     rw [oH] at this
     cases this
     refine .inr ⟨?_,c,dg,?_⟩
     ·rcases e3 with e3|e3|e3
      ·exact absurd (DS S e3) qk
      ·exact .inl e3
      ·exact .inr e3
     ·obtain ⟨o,ho,hd⟩:=eI
      exact ⟨o,old c o ho,hd⟩
  ·obtain ⟨v,o,ho,hd⟩:=I2.cell y c (dv y c hy)
   exact ⟨v,o,old c o ho,hd⟩
  ·show (List.replicate xs.length none++U).length=(xs++M).length
   simp [I2.len,eN.1]
 have mS:∀{pl:Ac} {H':Hp},(∀p∈pl,p.1=D)->(∀b∈fp,H' b=none)->∀b∈fp,du Y pl H' b:=λ{pl H'} br hn b hb=>by
  obtain ⟨o,ho,_⟩:=T.obj 0 _ au b hb
  refine ⟨hn b hb,λz=>?_,?_,.inl hb,(mR.exf b hb).2,λp hp z=>?_⟩
  ·exact mM (fq ho) hC z
  ·exact mR.exfs b hb
  ·have hp':p∈pl:=by simpa [Y,dR] using hp
   exact DM (fq ho) (br p hp') z
 have loop:codeAny (model X.prog X.w) X.A (.compLoop (.ListComp elt [⟨tg,iter,ifs,0⟩] scope pos) 0 (.ref it) (.ref D) (compEnvC scope cl C X.env))
   (compPost (model X.prog X.w) X.A X.xe none (EP X pins U Q) (.ref D) C) { af with heap:=ax,toks:=af.toks+([]:List (Str×Value)).length }:=by
  refine NG (λn s'=>∃i ys H' its k,Inv Y [(D,{ cls:=.type "list", data:=.seq (its:Af).toArray k })] (List.replicate xs.length none++U) H' s'/\Vals ys its/\tn i s'.heap/\(∀b∈fp,H' b=none)/\W i n ys H') ?_ m0
   ⟨0,[],H2,[],0,I0,.nil,T.keep 0 _ _ au (λb hb o e=>old b o e),λb hb=>(dY b hb).1,w0⟩
  rintro n s3 ⟨i,ys,H3,its,k,I3,rv,aY,k7,w3⟩
  have gL:∀{o:Obj},∀p∈[(D,o)],p.1=D:=λ{o} p hp=>by
   have ep:p=(D,o):=by simpa using hp
   rw [ep]
  obtain ⟨gD,nD,_,_,_⟩:=I3.pin (D,_) (yR _ ja)
  rcases turn i n ys H3 w3 with ⟨stop,hz,q⟩|⟨go,hz,step⟩
  ·refine aS (T.done Y rfl rfl rfl hc i _ s3 _ H3 E' I3 (mS gL k7) aY stop) λr s4 ⟨hr,I4⟩=>?_
   subst hr
   obtain ⟨xk,mT,_,_,_⟩:=I4.pin (D,_) (yR _ ja)
   obtain ⟨m4,xm,_⟩:=id I4.loc
   refine ⟨m4,xm,λh' dZ=>?_⟩
   refine ⟨.ref D,upd H3 D (.lst ys),?_,rfl,q D mT⟩
   have h_:∀{b:Addr} {u:HO},H3 b=some u->b≠C:=λe z=>by
    have:H3 C=none:=I4.free
    rw [z,this] at e;cases e
   refine I2.call' (s':={ s4 with heap:=h' }) (ch:=fp) (H':=upd H3 D (.lst ys)) I4.os ?_ ?_ I4.bare λb hb=>⟨(dY b hb).2.2.2.1,(dY b hb).2.1,(dY b hb).2.2.2.2.1,(dY b hb).2.2.2.2.2⟩
   ·have B:=I4.base
    have mU:∀{b:Nat} {o:Obj},af.heap.get? b=some o->b≠C:=λe z=>mM (fq e) hC z
    have mV:∀{b:Addr} {u:HO},H3 b=some u->b≠D:=λe z=>by rw [z,mT] at e;cases e
    refine ⟨λb o e nn hb hx=>(dZ.2 b (mU e)).trans (B.keep b o e nn hb hx),λb o e nn hb hx=>?_,λb o e nn hx=>?_,λb o e hx=>?_,λb xs e=>?_,λb o u e=>?_,λb ps e=>?_⟩
    ·obtain ⟨sl,z⟩:=B.slot b o e nn hb hx
     exact ⟨sl,(dZ.2 b (mU e)).trans z⟩
    ·have xo:b≠D:=yO (fq e)
     rw [yi xo]
     exact B.free b o e nn hx
    ·obtain ⟨o',z⟩:=B.there b o e hx
     exact ⟨o',(dZ.2 b (mU e)).trans z⟩
    ·have z:=B.tups b xs e
     rw [yi (mV z)];exact z
    ·have z:=B.frzs b o u e
     rw [yi (mV z)];exact z
    ·obtain ⟨more,z⟩:=B.tbls b ps e
     exact ⟨more,by rw [yi (mV z)];exact z⟩
   ·intro a o e
    by_cases ha:a=D
    ·subst ha
     rw [yN] at e
     cases e
     exact ⟨hz,its,k,rv,(dZ.2 _ ie).trans xk⟩
    ·rw [yi ha] at e
     have fU:∀b u,H3 b=some u->(upd H3 D (.lst ys)) b=some u:=λb u z=>by
      have hb:b≠D:=λw=>by rw [w,mT] at z;cases z
      rw [yi hb];exact z
     refine (I4.hok a o e).stay (λb u hb z=>(dZ.2 b ?_).trans z) (λb z=>fU b _ z) λb xs z=>fU b _ z
     rcases hb with hb|hb
     ·rw [hb];exact h_ e
     ·exact h_ hb
  ·refine aS (T.item Y rfl rfl rfl hc i _ s3 _ H3 E' I3 (mS gL k7) aY go) λr s4 ⟨u,hr,h4⟩=>?_
   subst hr
   refine aS h4 λ_ s5 ⟨z,H5,I5,r5,y5,dN,p9⟩=>?_
   have p_:=I5.pinned (mS gL p9) (T.obj _ _ dN)
   have gf:PG Y tg gt:=xg cl C af H2 fp E'
   have xq:PE Y elt te:=PE.nox (X:=Y) (he cl C af H2 fp)
   have NH:iX Y ifs tt:=iX.nox (X:=Y) (iZ cl C af H2 fp)
   refine aS (gf _ s5 (List.replicate xs.length none++U) H5 z u _ p_ r5 (step z _ y5)) λ_ s6 ⟨aH,H6,I6,own,e1,e2,q6⟩=>?_
   subst e1
   have wk:∀(j:Nat) v,(List.replicate xs.length none++U)[j]?=some (some v)->(own++U)[j]?=some (some v):=λj v e=>by
    by_cases bz:j<xs.length
    ·rw [iQ (by simpa using bz),List.getElem?_replicate] at e
     simp [bz] at e
    ·rw [iR (by simp;omega)] at e
     rw [iR (by omega),e2]
     simpa using e
   have wl:(List.replicate xs.length none++U).length=(own++U).length:=by simp [e2]
   refine aS (NH _ s6 _ _ _ I6 q6) λb s7 ⟨H7,I7,q7⟩=>?_
   cases b with
   |true =>
    refine aS (xq _ s7 _ _ _ I7 q7) λuy s7 ⟨y,H7,I7,ry,m',hm,w7⟩=>?_
    obtain ⟨qm,mW,_,_,_⟩:=I7.pin (D,_) (yR _ (jC _ ja))
    refine wpAny_list_append_plain ⟨k,qm⟩ (λh' br dZ=>?_) (by rw [y9,<-rv.length];exact hz)
    obtain ⟨k',qo⟩:=br
    have I8:Inv Y [] (own++U) H7 { s7 with heap:=h' }:=(I7.pins_of (pins':=[]) (λp hp=>nomatch hp)).turned (it:=D) (t':=s7.toks) (λb o hb e=>(dZ.2 b hb).trans e) mW ie
     (.inr (by show af.heap.objs.size<=D;omega)) (λa c hy xt=>by
      obtain ⟨v',o',ho',_⟩:=I2.cell a c (dv a c hy)
      exact yO (fq ho') xt) (λp hp=>by simp [Y,dR] at hp)
    have I9:Inv Y [] (List.replicate xs.length none++U) H7 { s7 with heap:=h' }:=I8.weak wl wk
    have eM:∀b∈fp,∃o,s5.heap.get? b=some o/\s7.heap.get? b=some o/\H7 b=none:=λb hb=>by
     obtain ⟨o,e,_⟩:=T.obj _ _ dN b hb
     have q:=I7.pin (b,o) (yR _ (yR _ (p8 hb e)))
     exact ⟨o,e,q.1,q.2.1⟩
    have xv:∀b∈fp,b≠D:=λb hb=>by
     obtain ⟨o,ho,_⟩:=T.obj 0 _ au b hb
     exact yO (fq ho)
    have eT:its.toArray.push uy=(its++[uy]).toArray:=by simp
    rw [eT] at qo
    refine ⟨m',hm,i+1,ys++[y],H7,its++[uy],k',I9.pins_of (gd qo mW λv e=>by cases e),rv.append (.cons ry .nil),T.keep (i+1) _ _ dN λb hb o e=>?_,λb hb=>?_,w7⟩
    ·obtain ⟨o',e1,e2,_⟩:=eM b hb
     rw [e] at e1
     cases e1
     exact (dZ.2 b (xv b hb)).trans e2
    ·obtain ⟨_,_,_,q⟩:=eM b hb
     exact q
   |false =>
    obtain ⟨m',hm,w7⟩:=q7
    obtain ⟨qm,mW,_,_,_⟩:=I7.pin (D,_) (yR _ (jC _ ja))
    have I9:Inv Y [] (List.replicate xs.length none++U) H7 s7:=(I7.pins_of (pins':=[]) (λp hp=>nomatch hp)).weak wl wk
    have eM:∀b∈fp,∃o,s5.heap.get? b=some o/\s7.heap.get? b=some o/\H7 b=none:=λb hb=>by
     obtain ⟨o,e,_⟩:=T.obj _ _ dN b hb
     have q:=I7.pin (b,o) (yR _ (yR _ (p8 hb e)))
     exact ⟨o,e,q.1,q.2.1⟩
    refine ⟨m',hm,i+1,ys,H7,its,k,I9.pins_of (gd qm mW λv e=>by cases e),rv,T.keep (i+1) _ _ dN λb hb o e=>?_,λb hb=>?_,w7⟩
    ·obtain ⟨o',e1,e2,_⟩:=eM b hb
     rw [e] at e1
     cases e1
     exact e2
    ·obtain ⟨_,_,_,q⟩:=eM b hb
     exact q
 exact codeAny_compStart_list loop (T.self X.A 0 _ _ _ (T.keep 0 _ _ au (λb hb o e=>old b o e)) loop)
def xw {X:Cx} {elt iter tg:Expr} {ifs:List Expr} {xs:Ad} {pos:Pos} {scope:Scope} {wi:TI} {gt:TG} {tt:TT} {te:TE} {N:Ad} (hc:X.calm=true) (S:di X.env.scope scope xs) (eN:X.N=N) (cD:((".0" : Str)::(xs++N)).Nodup)
  (hi:PI X tg iter wi) (xg:∀cl C af ah fp E,PG (fj X scope cl xs C af ah fp E) tg gt) (iZ:∀cl C af ah fp,iX (fj X scope cl xs C af ah fp (λ_ _=>False)) ifs tt) (he:∀cl C af ah fp,PE (fj X scope cl xs C af ah fp (λ_ _=>False)) elt te)
  (hs:∀v,foldedSetIterable iter X.env v=pure v:=by intro _;rfl):PE X (.ListComp elt [⟨tg,iter,ifs,0⟩] scope pos) (xb wi gt tt te xs.length) :=
 xf (M:=X.N) hc S Hid.refl (by rw [eN];exact cD) hi xg iZ he hs
def NI {X:Cx} {elt iter:Expr} {x:Str} {px pos:Pos} {scope:Scope} {wi:TI} {te:TE} {M:Ad} (hc:X.calm=true) (S:dI X.env.scope scope x) (eN:Hid scope M X.N) (cD:((".0" : Str)::x::M).Nodup)
  (hi:PI X (.Name x px) iter wi) (he:∀cl C af ah fp,PE (lu X M scope cl x C af ah fp (λ_ _=>False)) elt te)
  (hs:∀v,foldedSetIterable iter X.env v=pure v:=by intro _;rfl):PE X (.ListComp elt [⟨.Name x px,iter,[],0⟩] scope pos) (DR wi te):=by
 have hN:([x]++M).Nodup:=(wt.mp cD).2
 have S':di X.env.scope scope [x]:=⟨S.kind,S.ncell,λy hy h=>⟨(S.names y hy h).1,(S.names y hy h).2.imp (λe=>by rw [e];exact List.mem_singleton_self _) id⟩,S.free⟩
 have gf:∀cl C af ah fp E,PG (dR X M scope cl [x] C af ah fp E) (.Name x px) (wu 0):=λcl C af ah fp E=>wN (X:=dR X M scope cl [x] C af ah fp E) (i:=0) hN rfl (.inl (jV S.hx)) (.inr (jV S.hx))
 have e:∀U Q,(λJ H1=>mO J te U Q H1)=λJ H1=>iY J (wu 0) oM te 1 U Q H1:=λU Q=>by
  funext J H1
  exact propext (exists_congr λW=>and_congr Iff.rfl (forall_congr' λi=>forall_congr' λm=>forall_congr' λys=>forall_congr' λH=>imp_congr Iff.rfl (or_congr Iff.rfl (and_congr Iff.rfl (and_congr Iff.rfl (forall_congr' λz=>forall_congr' λH'=>imp_congr Iff.rfl
   ⟨λh=>⟨[some z],rfl,rfl,h⟩,λ⟨_,_,_,h⟩=>h⟩))))))
 intro pins s U H Q I h
 refine xf (te:=te) (tt:=oM) hc S' eN cD hi gf (λcl C af ah fp=>DT) (λcl C af ah fp=>he cl C af ah fp) hs pins s U H Q I ?_
 show wi U H λJ H1=>iY J (wu 0) oM te 1 U Q H1
 rw [<-e]
 exact h
end L2
namespace L2
open PySem PySem.Spec PyProof.Rows
def xx (z:Str):It:=⟨λi _=>i<z.cps.size,λi H v H'=>H'=H/\∃c,z.cps[i]?=some c/\v=.str ⟨#[c]⟩,λi _=>z.cps.size<=i⟩
def DV {P:Program} {w:World} {K:PySem.W.Frag} {tg:Expr} (z:Str) (t:Tok) (it:Addr) (ty:String) (oJ:ty = "str_ascii_iterator" \/ ty = "str_iterator"):Turn P w K tg (xx z) [it] it (λi h=>h.IsStrIter it ty z t i) where
 mem:=by simp
 obj:=λi h st b hb=>by
  have e:b=it:=by simpa using hb
  subst e
  obtain ⟨o,e,c,d⟩:=st
  exact ⟨o,e,λv z=>by rw [d] at z;cases z⟩
 keep:=λi h h' st k=>by
  obtain ⟨o,e,r⟩:=st
  exact ⟨o,k it (by simp) o e,r⟩
 item:=by
  intro X hP hw hK hc i pins s U H E I hf st hg
  subst hP hw hK
  obtain ⟨f0,f1,f2,f3,f4,f5⟩:=hf it (by simp)
  have W:Walks X.prog X.w X.A it [it] [it] z.cps.size (SignAt z) (λi h=>h.IsStrIter it ty z t i):=by
   rcases oJ with e|e
   ·rw [e];exact Walks.strAscii (I.ok.hd hc) it z t
   ·rw [e];exact Walks.strWide (I.ok.hd hc) it z t
  refine W.item i s _ _ hg st λv h' tk hv bt kk=>?_
  obtain ⟨c,u,NJ,rfl⟩:=hv
  have I1:Inv X pins U H { s with heap:=h',toks:=tk }:=I.turned (λb o hb e=>kk b o (by simpa using hb) e) f0 f1 f3 f4 f5
  obtain ⟨o,e,cc,d⟩:=id bt
  exact ⟨_,rfl,sV (s:={ s with heap:=h',toks:=tk }) e cc d (by rcases oJ with e|e<;>rw [e]<;>decide) ⟨.str ⟨#[c]⟩,H,I1,⟨u,rfl⟩,⟨rfl,c,NJ,rfl⟩,bt,λb hb=>(hf b hb).1⟩⟩
 done:=by
  intro X hP hw hK hc i pins s U H E I hf st hg
  subst hP hw hK
  obtain ⟨f0,f1,f2,f3,f4,f5⟩:=hf it (by simp)
  have hn:z.cps[i]?=none:=by
   have NK:z.cps.size<=i:=hg
   simpa using NK
  rcases oJ with e|e
  ·rw [e] at st
   exact wpAny_pyNext_ascii_end (I.ok.hd hc) st hn λh' eb=>⟨rfl,I.turned (t':=s.toks) (λb o hb e=>eb b o hb e) f0 f1 f3 f4 f5⟩
  ·rw [e] at st
   exact wpAny_pyNext_wide_end (I.ok.hd hc) st hn λh' eb=>⟨rfl,I.turned (t':=s.toks) (λb o hb e=>eb b o hb e) f0 f1 f3 f4 f5⟩
 self:=λA i s Q E st h=>by
  rcases oJ with e|e
  ·rw [e] at st;exact wpAny_pyIter_striter_ascii st h
  ·rw [e] at st;exact wpAny_pyIter_striter_wide st h
section
variable {X:Cx}
def NL:iV X (λx lo hi H Q=>∃z,x=.str z/\z.length<=sizeLine/\Q (.str (Txt.slice z lo hi)) H):=by
 intro pins s U H x v vl vu lo hi sl Q I rx hs pl pu h
 obtain ⟨z,rfl,hz,q⟩:=h
 obtain ⟨t,rfl⟩:=rx
 refine ⟨"str", _,F.slot_str_getitem.lookup,typeIs_str _ _ _,?_⟩
 have fin:∀t' k,EP X pins U Q (.str (Txt.slice z lo hi) t') { s with toks:=k }:=λt' k=>⟨.str _,H,I.tok _,⟨_,rfl⟩,q⟩
 cases pl with
 |none =>
  cases pu with
  |none=>exact wpAny_getItem_str_slice (l:=none) (u:=none) (st:=none) hs rfl (post_val_or_str ⟨jw (Txt.slice_le z _ _) hz,fin⟩)
  |int j uj=>exact wpAny_getItem_str_slice (l:=none) (u:=some (j,uj)) (st:=none) hs rfl (post_val_or_str ⟨jw (Txt.slice_le z _ _) hz,fin⟩)
 |int i ui =>
  cases pu with
  |none=>exact wpAny_getItem_str_slice (l:=some (i,ui)) (u:=none) (st:=none) hs rfl (post_val_or_str ⟨jw (Txt.slice_le z _ _) hz,fin⟩)
  |int j uj=>exact wpAny_getItem_str_slice (l:=some (i,ui)) (u:=some (j,uj)) (st:=none) hs rfl (post_val_or_str ⟨jw (Txt.slice_le z _ _) hz,fin⟩)
theorem xy:∀{bs:List Bool}{us:Af},Vals (bs.map V.bl) us->us=bs.map Value.bool
 |[],us,r=>by rw [List.map_nil] at r;cases r;rfl
 |b::bs,us,r=>by
  rw [yK] at r
  cases r with
  |cons r1 r2 =>
   have e:_=Value.bool b:=r1
   rw [yK,<-xy r2,e]
theorem dw:∀{ys:Ad}{us:Af},Vals (ys.map V.str) us->StrsAre us ys
 |[],us,r=>by rw [List.map_nil] at r;cases r;exact .nil
 |y::ys,us,r=>by
  rw [yK] at r
  cases r with
  |cons r1 r2 =>
   obtain ⟨t,e⟩:=r1
   subst e
   exact .cons y t (dw r2)
def NM (hc:X.calm=true):bP X (.builtin "all") (λxs H Q=>∃(a:Addr) (bs:List Bool),xs=[.ref a]/\aZ X.K H a (bs.map V.bl)/\Q (.bl (bs.all id)) H):=by
 intro pins s U H xs us Q I r h
 obtain ⟨a,bs,rfl,hl,q⟩:=h
 obtain ⟨u,rfl,ru⟩:=wD r
 cases ru
 obtain ⟨its,rv,pl,hz⟩:=I.list hl
 have e:=xy rv
 subst e
 refine call_all_walk (wpAny_pyIter_list pl.isList ?_)
 have hh:X.A.in1.handled=none:=I.ok.hd hc
 have bz:a<s.heap.objs.size:=by
  obtain ⟨o,e,_⟩:=pl.isList
  exact yt e
 have xA:a≠s.heap.objs.size:=yO bz
 refine ⟨s.heap.objs.size,_,_,_,_,_,λi=>(bs[i]?).getD true,rfl,Walks.list hh s.heap.objs.size a xA (bs.map Value.bool).toArray,⟨⟨_,y4 _ rfl,rfl,rfl⟩,pl.isList.at λo e=>yp _ e⟩,?_,λh' tk kk=>?_⟩
 ·intro i v s' Q' E' hp hq
  have hp':(bs.map Value.bool)[i]?=some v:=by simpa using hp
  rw [y3] at hp'
  cases eb:bs[i]? with
  |none=>rw [eb] at hp';cases hp'
  |some b =>
   rw [eb] at hp'
   have:Value.bool b=v:=Option.some.inj hp'
   subst this
   refine oB ?_
   dsimp only at hq
   rw [eb] at hq
   exact hq
 ·have e1:(List.range (bs.map Value.bool).toArray.size).all (λi=>(bs[i]?).getD true)=bs.all id:=by
   rw [y9,jD]
   rw [Bool.eq_iff_iff,List.all_eq_true,List.all_eq_true]
   constructor
   ·intro hh b hb
    obtain ⟨i,hi,e⟩:=List.getElem_of_mem hb
    have:=hh i (oF.mpr hi)
    rw [yx hi,e] at this
    exact this
   ·intro hh i hi
    have i5:=oF.mp hi
    rw [yx i5]
    exact hh _ (pW i5)
  rw [e1]
  refine ⟨.bl (bs.all id),H,?_,rfl,q⟩
  exact I.kept (t':=tk) λb o e=>kk b o (λz=>by
   have z':b=s.heap.objs.size:=by simpa using z
   exact absurd (yt e) (by rw [z'];exact Nat.lt_irrefl _)) (yp _ e)
def NP:Dw X "str.join" (λx xs H Q=>∃(z:Str) (a:Addr) (ys:Ad),x=.str z/\xs=[.ref a]/\aZ X.K H a (ys.map V.str)/\(ys.map (·.length)).sum+ys.length*z.length<=16777216/\Q (.str (Txt.join z ys)) H):=by
 intro pins s U H x xs v us Q I rx r h
 obtain ⟨z,a,ys,rfl,rfl,hl,hz,q⟩:=h
 obtain ⟨t,rfl⟩:=rx
 obtain ⟨u,rfl,ru⟩:=wD r
 cases ru
 obtain ⟨its,rv,pl,_⟩:=I.list hl
 exact join_list pl.isList (by simpa using dw rv) hz λt' k=>⟨.str _,H,I.tok _,⟨_,rfl⟩,q⟩
def NQ:bh X (compareOp .In) (λx y H Q=>∃(c:Nat) (z:Str),x=.str ⟨#[c]⟩/\y=.str z/\Q (.bl (decide (c∈z.cps.toList))) H):=by
 intro pins s U H x y v u Q I rx ry h
 obtain ⟨c,z,rfl,rfl,q⟩:=h
 refine LW pins s U H _ _ v u Q I rx ry ⟨_,_,rfl,rfl,?_⟩
 rw [StrLaws.found_one]
 exact q
end
section
variable {κ:Type} [DecidableEq κ]
def dy (kvs:List (κ×V)) (k:κ):Option V:=(kvs.find? λkv=>decide (kv.1=k)).map (·.2)
def putK (kvs:List (κ×V)) (k:κ) (v:V):List (κ×V) :=
 if (kvs.any λkv=>decide (kv.1=k))=true then kvs.map (λkv=>if kv.1=k then (kv.1,v) else kv) else kvs++[(k,v)]
def tG {p:κ×V}{r:List (κ×V)}{k:κ}(e:p.1=k):dy (p::r) k=some p.2:=by simp [dy,List.find?_cons,e]
def tH {p:κ×V}{r:List (κ×V)}{k:κ}(e:¬p.1=k):dy (p::r) k=dy r k:=by simp [dy,List.find?_cons,e]
theorem DW (k:κ):∀kvs:List (κ×V),(kvs.any λkv=>decide (kv.1=k))=(dy kvs k).isSome
 |[]=>rfl
 |p::r=>by
  rw [List.any_cons]
  by_cases e:p.1=k
  ·simp only [tG e,jk e,Bool.true_or,Option.isSome_some]
  ·rw [tH e,yP e,Bool.false_or];exact DW k r
theorem DX (kvs:List (κ×V)) (k:κ) (v:V):(putK kvs k v).length<=kvs.length+1:=by
 unfold putK
 split
 ·rw [jD];omega
 ·rw [iO,wM,List.length_nil];omega
def cK.isSome_eq {o:Option V}{u:Option Value}(r:cK o u):o.isSome=u.isSome:=by
 cases o with
 |none=>cases u with
  |none=>rfl
  |some _=>exact (show False from r).elim
 |some _=>cases u with
  |none=>exact (show False from r).elim
  |some _=>rfl
def KV.val {kvs:List (κ×V)}{vs:List (κ×Value)}(r:KV kvs vs) (k:κ):cK (dy kvs k) (valueAt vs k):=by
 unfold KV at r
 induction r with
 |nil=>exact True.intro
 |@cons p q ps qs h t ih =>
  obtain ⟨h1,h2⟩:=h
  by_cases e:p.1=k
  ·have e':q.1=k:=h1.symm.trans e
   have b:valueAt (q::qs) k=some q.2:=by simp [valueAt,List.find?_cons,e']
   rw [tG e,b];exact h2
  ·have e':¬q.1=k:=λz=>e (h1.trans z)
   have b:valueAt (q::qs) k=valueAt qs k:=by simp [valueAt,List.find?_cons,e']
   rw [tH e,b];exact ih
def KV.any {kvs:List (κ×V)}{vs:List (κ×Value)}(r:KV kvs vs) (k:κ):(kvs.any λkv=>decide (kv.1=k))=vs.any λkv=>decide (kv.1=k):=by
 unfold KV at r
 induction r with
 |nil=>rfl
 |cons h t ih=>rw [List.any_cons,List.any_cons,ih,h.1]
def KV.repl {kvs:List (κ×V)}{vs:List (κ×Value)}(r:KV kvs vs) (k:κ) {y:V}{u:Value}(ry:RelV y u) :
  KV (kvs.map λkv=>if kv.1=k then (kv.1,y) else kv) (vs.map λkv=>if kv.1=k then (kv.1,u) else kv):=by
 unfold KV at r ⊢
 induction r with
 |nil=>exact .nil
 |@cons p q ps qs h t ih =>
  rw [yK,yK]
  refine .cons ?_ ih
  obtain ⟨h1,h2⟩:=h
  by_cases e:p.1=k
  ·rw [zw e,zw (h1.symm.trans e)];exact ⟨h1,ry⟩
  ·rw [zI e,zI (λz=>e (h1.trans z))];exact ⟨h1,h2⟩
def KV.put {kvs:List (κ×V)}{vs:List (κ×Value)}(r:KV kvs vs) (k:κ) {y:V}{u:Value}(ry:RelV y u):KV (putK kvs k y) (stored vs k u):=by
 unfold putK stored
 rw [r.any k]
 by_cases e:(vs.any λkv=>decide (kv.1=k))=true
 ·rw [zw e,zw e];exact r.repl k ry
 ·rw [zI e,zI e];exact Paired.snoc r ⟨rfl,ry⟩
def KV.keys {kvs:List (κ×V)}{vs:List (κ×Value)}(r:KV kvs vs):kvs.map (·.1)=vs.map (·.1):=by
 unfold KV at r
 induction r with
 |nil=>rfl
 |cons h t ih=>rw [yK,yK,ih,h.1]
def KV.length {kvs:List (κ×V)}{vs:List (κ×Value)}(r:KV kvs vs):kvs.length=vs.length:=Paired.length r
end
def qp {P:Program}{w:World}{k:Key}{u:Value}(r:RelV (kV k) u):(aX P w).is k u=true:=by
 cases k with
 |inl i=>obtain ⟨t,e⟩:=(show ∃t,u=Value.int i t from r);subst e;exact Kh P w i t
 |inr x=>obtain ⟨t,e⟩:=(show ∃t,u=Value.str x t from r);subst e;exact Ki P w x t
theorem xB {P:Program}{w:World}:∀{ks:List Key}{us:Af},Vals (ks.map kV) us->ItemsAre (aX P w) ks us
 |[],_,r=>by rw [List.map_nil] at r;cases r;exact .nil
 |k::ks,_,r=>by
  rw [yK] at r
  cases r with
  |cons h t=>exact .cons (qp h) (xB t)
abbrev KT (H:Hp):List (List Key×V)->List (List Key×Addr×Value)->Prop:=Paired λp q=>p.1=q.1/\H q.2.1=some (.tup (p.1.map kV))/\RelV p.2 q.2.2
def KT.val {H:Hp}{kvs:List (List Key×V)}{xs:List (List Key×Addr×Value)}(r:KT H kvs xs) (k:List Key):cK (dy kvs k) ((atKey xs k).map (·.2)):=by
 induction r with
 |nil=>exact True.intro
 |@cons p q ps qs h t ih =>
  obtain ⟨h1,_,h2⟩:=h
  by_cases e:p.1=k
  ·have e':q.1=k:=h1.symm.trans e
   have b:atKey (q::qs) k=some q.2:=by simp [atKey,List.find?_cons,e']
   rw [tG e,b];exact h2
  ·have e':¬q.1=k:=λz=>e (h1.trans z)
   have b:atKey (q::qs) k=atKey qs k:=by simp [atKey,List.find?_cons,e']
   rw [tH e,b];exact ih
def KT.repl {H:Hp}{kvs:List (List Key×V)}{xs:List (List Key×Addr×Value)}(r:KT H kvs xs) (k:List Key) {y:V}{u:Value}(ry:RelV y u) :
  KT H (kvs.map λkv=>if kv.1=k then (kv.1,y) else kv) (xs.map (putAt k u)):=by
 induction r with
 |nil=>exact .nil
 |@cons p q ps qs h t ih =>
  rw [yK,yK]
  refine .cons ?_ ih
  obtain ⟨h1,h2,h3⟩:=h
  unfold putAt
  by_cases e:p.1=k
  ·rw [zw e,zw (h1.symm.trans e)];exact ⟨h1,h2,ry⟩
  ·rw [zI e,zI (λz=>e (h1.trans z))];exact ⟨h1,h2,h3⟩
def KT.put {H:Hp}{kvs:List (List Key×V)}{xs:List (List Key×Addr×Value)}(r:KT H kvs xs) (k:List Key) {b:Addr}{y:V}{u:Value}(hb:H b=some (.tup (k.map kV))) (ry:RelV y u) :
  KT H (putK kvs k y) (storedH xs k b u):=by
 have e:(kvs.any λkv=>decide (kv.1=k))=(atKey xs k).isSome:=by
  rw [DW,(r.val k).isSome_eq,Option.isSome_map]
 unfold putK storedH
 rw [e]
 by_cases q:(atKey xs k).isSome=true
 ·rw [zw q,zw q];exact r.repl k ry
 ·rw [zI q,zI q];exact Paired.snoc r ⟨rfl,hb,ry⟩
def KT.keeps {H H':Hp}{kvs:List (List Key×V)}{xs:List (List Key×Addr×Value)}(r:KT H kvs xs) (ht:∀b ys,H b=some (.tup ys)->H' b=some (.tup ys)):KT H' kvs xs :=
 Paired.mapP r λ_ _ z=>⟨z.1,ht _ _ z.2.1,z.2.2⟩
section
variable {P:Program} {w:World} {H:Hp} {h:Heap} {a:Addr}
def DY {u:HO}(ok:cu P w H h) (e:Rd H a u):aW P w H h a u:=e.ok ok
def mX {kvs:List (Key×V)}(ok:cu P w H h) (e:Rd H a (.dK kvs)):kvs.length<=sizeLine/\(a==sysModules)=false/\∃vs,KV kvs vs/\h.DictOf (aX P w) a vs :=
 show aW P w H h a (.dK kvs) from DY ok e
def xC {kvs:List (Key×V)}(ok:cu P w H h) (e:H a=some (.dK kvs)):kvs.length<=sizeLine/\(a==sysModules)=false/\∃vs,KV kvs vs/\h.DictOf (aX P w) a vs:=mX ok (.inl e)
def qq {ks:List Key}(ok:cu P w H h) (e:H a=some (.tup (ks.map kV))):(tupleKind (aX P w)).is h ks a:=by
 obtain ⟨_,its,r,o,h1,h2,n,h3⟩:=(show aW P w H h a (.tup (ks.map kV)) from ok a _ e)
 exact ⟨o,its.toArray,n,h1,h2,h3,by simpa using xB r⟩
def qr {kvs:List (List Key×V)}(ok:cu P w H h) (e:Rd H a (.dT kvs)):kvs.length<=sizeLine/\(a==sysModules)=false /\
  ∃xs,KT H kvs xs/\h.DictOfH (tupleKind (aX P w)) a xs:=by
 obtain ⟨z,y,xs,r,o,es,ep,h1,h2,h3,h4,h5⟩:=(show aW P w H h a (.dT kvs) from DY ok e)
 refine ⟨z,y,xs,r,o,es,ep,h1,h2,h3,h4,λx hx=>?_,h5⟩
 have all:∀{l:List (List Key×V)} {m:List (List Key×Addr×Value)},KT H l m->∀x∈m,(tupleKind (aX P w)).is h x.1 x.2.1:=by
  intro l m q
  induction q with
  |nil=>intro x hx;exact nomatch hx
  |@cons p q ps qs hq t ih =>
   intro x hx
   rcases yE.mp hx with e|hx
   ·subst e
    exact qq ok (by rw [<-hq.1];exact hq.2.1)
   ·exact ih x hx
 exact all r x hx
def NR {kvs:List (List Key×V)}(ok:cu P w H h) (e:H a=some (.dT kvs)):kvs.length<=sizeLine/\(a==sysModules)=false /\
  ∃xs,KT H kvs xs/\h.DictOfH (tupleKind (aX P w)) a xs:=qr ok (.inl e)
end
def d_ (H:Hp) (a:Addr) (y:V) (r:Option V):Prop :=
 (∃kvs k,Rd H a (.dK kvs)/\y=kV k/\r=dy kvs k)\/∃kvs k b,Rd H a (.dT kvs)/\y=.ref b/\H b=some (.tup (k.map kV))/\r=dy kvs k
def eh (H:Hp) (a:Addr) (y v:V) (H':Hp):Prop :=
 (∃kvs k,H a=some (.dK kvs)/\y=kV k/\kvs.length<sizeLine/\H'=upd H a (.dK (putK kvs k v))) \/
 ∃kvs k b,H a=some (.dT kvs)/\y=.ref b/\H b=some (.tup (k.map kV))/\kvs.length<sizeLine/\H'=upd H a (.dT (putK kvs k v))
def d_.k {H:Hp}{a:Addr}{kvs:List (Key×V)}{k:Key}(e:H a=some (.dK kvs)):d_ H a (kV k) (dy kvs k):=.inl ⟨kvs,k,.inl e,rfl,rfl⟩
def d_.t {H:Hp}{a b:Addr}{kvs:List (List Key×V)}{k:List Key}(e:H a=some (.dT kvs)) (eb:H b=some (.tup (k.map kV))):d_ H a (.ref b) (dy kvs k):=.inr ⟨kvs,k,b,.inl e,rfl,eb,rfl⟩
def eh.k {H:Hp}{a:Addr}{kvs:List (Key×V)}{k:Key}{v:V}(e:H a=some (.dK kvs)) (hl:kvs.length<sizeLine):eh H a (kV k) v (upd H a (.dK (putK kvs k v))):=.inl ⟨kvs,k,e,rfl,hl,rfl⟩
def eh.t {H:Hp}{a b:Addr}{kvs:List (List Key×V)}{k:List Key}{v:V}(e:H a=some (.dT kvs)) (eb:H b=some (.tup (k.map kV))) (hl:kvs.length<sizeLine) :
  eh H a (.ref b) v (upd H a (.dT (putK kvs k v))):=.inr ⟨kvs,k,b,e,rfl,eb,hl,rfl⟩
section
variable {X:Cx} {pins:Ac} {U:St} {H:Hp} {s:Shared} {a:Addr} {y v:V} {u r:Value} {o:Option V} {A:Around} {E:Aa}
def Inv.big (I:Inv X pins U H s):sysModules<s.heap.objs.size:=by
 have h:mainGlobals<s.heap.objs.size:=(I.mod.glob.keeps I.bk).lt
 exact Nat.lt_trans (by decide) h
def NS {Q:Aa}(hu:A.units+1<cLine) (I:Inv X pins U H s) (g:d_ H a y (some v)) (ry:RelV y u) (h:∀w' s',Inv X pins U H s'->RelV v w'->Q w' s') :
  wpAny (model X.prog X.w) A (getItem (.ref a) u) Q E s:=by
 rcases g with ⟨kvs,k,e,ey,l⟩|⟨kvs,k,b,e,ey,eb,l⟩
 ·subst ey
  obtain ⟨z,hd,vs,rel,dd⟩:=mX I.hok e
  obtain ⟨w',hw,dX⟩:=cK.some_of (v:=v) (o:=valueAt vs k) (by rw [l];exact rel.val k)
  exact wpAny_getItem_of (qp ry) dd.mapOf hw (h w' _ (I.tok _) dX)
 ·subst ey
  cases (show u=Value.ref b from ry)
  obtain ⟨z,hd,xs,rel,dd⟩:=qr I.hok e
  obtain ⟨w',hw,dX⟩:=cK.some_of (v:=v) (o:=(atKey xs k).map (·.2)) (by rw [l];exact rel.val k)
  obtain ⟨p,hp,qt⟩:=Option.map_eq_some_iff.mp hw
  refine wpAny_getItem_heap (tupleKind_room_in1 hu) (qq I.hok eb) dd hp ?_
  rw [qt]
  exact h w' _ (I.tok _) dX
def NT {Q:Aa}(hu:A.units+1<cLine) (I:Inv X pins U H s) (g:d_ H a y o) (ry:RelV y u) (h:∀s',Inv X pins U H s'->Q (.bool o.isSome) s') :
  wpAny (model X.prog X.w) A (compareOp .In u (.ref a)) Q E s:=by
 rcases g with ⟨kvs,k,e,ey,l⟩|⟨kvs,k,b,e,ey,eb,l⟩
 ·subst ey
  obtain ⟨z,hd,vs,rel,dd⟩:=mX I.hok e
  refine wpAny_in_of (qp ry) hd dd.mapOf ?_
  rw [<-(rel.val k).isSome_eq,<-l]
  exact h _ (I.tok _)
 ·subst ey
  cases (show u=Value.ref b from ry)
  obtain ⟨z,hd,xs,rel,dd⟩:=qr I.hok e
  refine wpAny_in_heap (tupleKind_room_in1 hu) (qq I.hok eb) hd dd ?_
  have q:=(rel.val k).isSome_eq
  rw [Option.isSome_map] at q
  rw [<-q,<-l]
  exact h _ (I.tok _)
def NU {Q:Aa}(hu:A.units+1<cLine) (I:Inv X pins U H s) (g:d_ H a y o) (ry:RelV y u) (h:∀s',Inv X pins U H s'->Q (.bool (!o.isSome)) s') :
  wpAny (model X.prog X.w) A (compareOp .NotIn u (.ref a)) Q E s:=by
 rcases g with ⟨kvs,k,e,ey,l⟩|⟨kvs,k,b,e,ey,eb,l⟩
 ·subst ey
  obtain ⟨z,hd,vs,rel,dd⟩:=mX I.hok e
  refine wpAny_notIn_of (qp ry) hd dd.mapOf ?_
  rw [<-(rel.val k).isSome_eq,<-l]
  exact h _ (I.tok _)
 ·subst ey
  cases (show u=Value.ref b from ry)
  obtain ⟨z,hd,xs,rel,dd⟩:=qr I.hok e
  refine wpAny_notIn_heap (tupleKind_room_in1 hu) (qq I.hok eb) hd dd ?_
  have q:=(rel.val k).isSome_eq
  rw [Option.isSome_map] at q
  rw [<-q,<-l]
  exact h _ (I.tok _)
def xD {h':Heap}{t':Nat}{ob:HO}(I:Inv X pins U H s) (mu:pY (H a)) (hs:Heap.SameBut a s.heap h') (he:∃q,h'.get? a=some q) (new:aW X.prog X.w (upd H a ob) h' a ob) :
  Inv X pins U (upd H a ob) { s with heap:=h',toks:=t' } :=
 I.write (x:=a) (e:=a) mu (.inl rfl) (λb q hb z=>(hs.2 b hb).trans z) he new
def DZ {P:Program}{w:World}{H':Hp}{h':Heap}{kvs:List (Key×V)}{vs:List (Key×Value)}(z:kvs.length<=sizeLine) (hd:(a==sysModules)=false) (rel:KV kvs vs) (dd:h'.DictOf (aX P w) a vs) :
  aW P w H' h' a (.dK kvs):=⟨z,hd,vs,rel,dd⟩
theorem xE {H':Hp}{Q:Unit->Shared->Prop}(hu:A.units+1<cLine) (I:Inv X pins U H s) (g:eh H a y v H') (ry:RelV y u) (rv:RelV v r) (h:∀s',Inv X pins U H' s'->Q () s') :
  wpAny (model X.prog X.w) A (setItem (.ref a) u r) Q E s:=by
 rcases g with ⟨kvs,k,e,ey,l,eH⟩|⟨kvs,k,b,e,ey,eb,l,eH⟩
 ·subst ey eH
  obtain ⟨z,hd,vs,rel,dd⟩:=xC I.hok e
  have hz:vs.length<=sizeLine:=by rw [<-rel.length];exact z
  have hl:(putK kvs k v).length<=sizeLine:=by have:=DX kvs k v;omega
  refine wpAny_setItem_pairs (hsz:=hz) (qp ry) dd λh' mY hs=>h _ ?_
  have he:∃q,h'.get? a=some q:=let ⟨q,_,_,hq,_⟩:=mY;⟨q,hq⟩
  exact xD I (by rw [e];exact True.intro) hs he (DZ hl hd (rel.put k rv) mY)
 ·subst ey eH
  cases (show u=Value.ref b from ry)
  obtain ⟨z,hd,xs,rel,dd⟩:=NR I.hok e
  have hz:xs.length<=sizeLine:=by rw [<-Paired.length rel];exact z
  have hl:(putK kvs k v).length<=sizeLine:=by have:=DX kvs k v;omega
  refine wpAny_setItem_heap (hsz:=hz) (tupleKind_room_in1 hu) (qq I.hok eb) dd λh' mY hs=>h _ ?_
  obtain ⟨q,es,ep,hq,h2,h3,h4,_,h5⟩:=mY
  refine xD I (by rw [e];exact True.intro) hs ⟨q,hq⟩ ⟨hl,hd,_,(rel.put k eb rv).keeps λc ys ec=>?_,q,es,ep,hq,h2,h3,h4,h5⟩
  rw [yi (Kk ec e (λz=>nomatch z))]
  exact ec
end
section
variable {X:Cx} {pins:Ac} {U:St} {H:Hp} {s:Shared} {a:Addr} {kvs:List (Key×V)} {A:Around} {E:Aa}
theorem NV {Q:Aa} (I:Inv X pins U H s) (e:Rd H a (.dK kvs)) (h:∀t s',Inv X pins U H s'->Q (.int kvs.length t) s'):wpAny (model X.prog X.w) A (call (.builtin "len") [.ref a]) Q E s:=by
 obtain ⟨z,hd,vs,rel,dd⟩:=mX I.hok e
 refine call_len_dict hd dd (by rw [<-rel.length];rw [sizeLine_eq] at z;omega) ?_
 rw [<-rel.length]
 exact h _ _ (I.tok _)
end
def NW {X:Cx} {pins:Ac} {U:St} {H:Hp} {s:Shared} {a:Addr} {y:V} {o:Option V} (I:Inv X pins U H s) (g:d_ H a y o):s.TypeIs (.ref a) "dict" := by
 rcases g with ⟨kvs,k,e,_,_⟩|⟨kvs,k,b,e,_,_,_⟩
 ·obtain ⟨_,_,vs,_,dd⟩:=mX I.hok e
  exact dd.typeIs
 ·obtain ⟨_,_,xs,_,dd⟩:=qr I.hok e
  exact dd.typeIs
def NX (td ty tv:TE):TS:=λD U H=>tv U H λv H1=>td U H1 λx H2=>ty U H2 λy H3=>∃a H4,x=.ref a/\eh H3 a y v H4/\D.nx U H4
section
variable {X:Cx} {o i value:Expr} {pos pos':Pos} {td ty tv:TE}
def NY (hu:X.A.units+1<cLine) (ho:PE X o td) (hi:PE X i ty) (hv:PE X value tv) (hs:swapsWith value (some (.Subscript o i pos')) pos.line X.env=pure false) :
  PS X (.Assign [.Subscript o i pos'] value pos) (NX td ty tv):=by
 intro pins s U H D I h
 refine wpAny_Assign_Subscript (aS (hv pins s U H _ I h) λr s1 ⟨v,H1,I1,rv,q1⟩=>aS (ho pins s1 U H1 _ I1 q1) λu s2 ⟨x,H2,I2,rx,q2⟩=>aS (hi pins s2 U H2 _ I2 q2) λiv s3 gg=>?_) hs
 obtain ⟨y,H3,I3,ry,a,H4,ex,g,q3⟩:=gg
 subst ex
 obtain rfl:u=Value.ref a:=rx
 exact xE hu I3 g ry rv λs4 I4=>⟨U,H4,I4,q3⟩
end
def NZ {P:Program} {w:World} {H:Hp} (h:Heap) (hb:sysModules<h.objs.size):aW P w H (h.push { cls:=.type "dict", data:=.dict #[] }) h.objs.size (.dK []) :=
 ⟨jJ _,beq_eq_false_iff_ne.mpr (yz (yO hb)),[],.nil,Heap.DictOf.new h⟩
def N1:TE:=λ_ H Q=>∀p,H p=none->Q (.ref p) (upd H p (.dK []))
section
variable {X:Cx} {pos:Pos}
def N2:PE X (.Dict [] [] pos) N1:=λpins s U H Q I h =>
 wpAny_Dict_empty ⟨.ref s.heap.objs.size,_,I.laid (a:=s.heap.objs.size) (o:=.dK []) (t':=s.toks) (λ_ _ q=>yp _ q) (yo _) (NZ s.heap I.big),rfl,h _ (I.hok.fresh (yo _))⟩
end
structure M1 (X:Cx) (o:Expr) (m:Str) (apos:Pos) (e:Expr) (a0:Pos):Prop where
 base:attributeBase o m X.env (eval o X.env)=eval o X.env
 few:((backTo a0 (starEach [e] X.env)).all (λx=>!x.1)&&(backToKw a0 (keywordEach [] X.env)).all (λx=>x.1.isSome)
  && decide (([e]:List Expr).length+([]:List Keyword).length+(if ([]:List Keyword).isEmpty then 0 else 1)<30))=true
 line:(apos.endLine==a0.line)=true
 trees:backTo a0 (starEach [e] X.env)=[(false,eval e X.env)]
structure M2 (X:Cx) (o:Expr) (m:Str) (apos:Pos) (e f:Expr) (a0:Pos):Prop where
 base:attributeBase o m X.env (eval o X.env)=eval o X.env
 few:((backTo a0 (starEach [e,f] X.env)).all (λx=>!x.1)&&(backToKw a0 (keywordEach [] X.env)).all (λx=>x.1.isSome)
  && decide (([e,f]:List Expr).length+([]:List Keyword).length+(if ([]:List Keyword).isEmpty then 0 else 1)<30))=true
 line:(apos.endLine==a0.line)=true
 trees:backTo a0 (starEach [e,f] X.env)=[(false,eval e X.env),(false,eval f X.env)]
def XO (h:Heap) (a:Addr) (C:Value) (d:Option Addr) (head:Value):Prop :=
 ∃oe vs,h.get? a=some oe/\oe.cls=C/\oe.dict=d/\oe.data=.fields vs/\vs.size=6/\vs[1]?=some head
def TB (h:Heap) (T:Addr) (fl:Value):Prop:=∃oT ts,h.get? T=some oT/\oT.data=.fields ts/\ts[3]?=some fl
def N3 (o:Obj) (f):(o.mapFields f).dict=o.dict:=by
 obtain ⟨c,d,dt,sl⟩:=o
 cases dt<;>rfl
def XO.keeps {h h':Heap}{a:Addr}{C:Value}{d:Option Addr}{head:Value}(x:XO h a C d head) (k:∀o,h.get? a=some o->h'.get? a=some o):XO h' a C d head:=by
 obtain ⟨oe,vs,e,r⟩:=x
 exact ⟨oe,vs,k _ e,r⟩
def TB.keeps {h h':Heap}{T:Addr}{fl:Value}(x:TB h T fl) (k:∀o,h.get? T=some o->h'.get? T=some o):TB h' T fl:=by
 obtain ⟨oT,ts,e,r⟩:=x
 exact ⟨oT,ts,k _ e,r⟩
theorem XO.set1 {h:Heap}{a:Addr}{C:Value}{d:Option Addr}{head:Value}(x:XO h a C d head) (u:Value):XO (h.update a (Obj.mapFields (·.setIfInBounds 1 u))) a C d u:=by
 obtain ⟨oe,vs,e,hc,oN,hd,hz,h1⟩:=x
 have cW:=Obj.data_mapFields hd (·.setIfInBounds 1 u)
 refine ⟨_,_,Heap.get?_update_self _ e (Obj.isFreed_of_fields cW),(Obj.cls_mapFields _ _).trans hc,(N3 _ _).trans oN,cW,?_,?_⟩
 ·rw [Array.size_setIfInBounds];exact hz
 ·have:1<vs.size:=by omega
  simp [this]
def TB.set3 {h:Heap}{T:Addr}{fl:Value}(x:TB h T fl) (u:Value):TB (h.update T (Obj.mapFields (·.setIfInBounds 3 u))) T u:=by
 obtain ⟨oT,ts,e,hd,h3⟩:=x
 have cW:=Obj.data_mapFields hd (·.setIfInBounds 3 u)
 refine ⟨_,_,Heap.get?_update_self _ e (Obj.isFreed_of_fields cW),cW,?_⟩
 have:3<ts.size:=(Array.getElem?_eq_some_iff.mp h3).1
 simp [this]
section
variable {M:Model} {A:Around} {E:Aa} {s:Shared} {base:Heap} {env:Env} {outer:List Env} {L a:Addr} {C:Value} {d:Option Addr} {head:Value} {Q:Unit->Shared->Prop}
theorem D0 {b2:Bool}(dk:A.frames=some (env::outer)) (hl:s.heap.FunFrames base (env::outer)) (hf:env.frame=some L) (x:XO s.heap a C d head)
  (h:∀h' T,s.heap.objs.size<=T->XO h' a C d (.ref T)->TB h' T (rawInt L)->(∀b o,b≠a->b∉dr (env::outer)->s.heap.get? b=some o->h'.get? b=some o) ->
   (∀b o,b≠a->b∈dr (env::outer)->s.heap.get? b=some o->∃sl,h'.get? b=some { o with slots:=sl })->Q () { s with heap:=h' }) :
  wpAny M A (do let fr <-frameOf env;let pl <-entryPlaceOf L b2;let tb <-EntryCells.newEntry head fr .none (rawInt L) .none pl;setField (.ref a) 1 tb) Q E s:=by
 obtain ⟨oe,vs,e,hc,oN,hd,hz,h1⟩:=id x
 have aN:a∉dr (env::outer):=λhm=>by
  obtain ⟨_,o,ho,nf⟩:=hl.mem hm
  rw [e] at ho
  cases ho
  exact nf vs hd
 refine zu (wpAny_frameOf_fun dk hl hf λg1 tI=>zu (wpAny_entryPlaceOf λpl D4=>?_))
 unfold EntryCells.newEntry newFields
 refine zu (iN ?_ (D4.sizeOk5 _ _ _ _ _))
 have x1:XO g1 a C d head:=⟨oe,vs,(tI.2.1 a aN).trans e,hc,oN,hd,hz,h1⟩
 generalize oO:({ cls:=.type "traceback", dict:=none,data:=.fields ([head,.ref L,.none,rawInt L,.none]++(if pl.isEmpty then List.replicate 6 Value.none else pl)).toArray }:Obj)=ob
 have x2:XO (g1.push ob) a C d head:=x1.keeps λo q=>yp _ q
 obtain ⟨Zb,lB,e2,_,_,hd2,Zc,_⟩:=id x2
 refine wpAny_setField e2 hd2 (by omega) ?_
 have aT:g1.objs.size≠a:=λz=>by
  obtain ⟨_,_,q,_⟩:=x1
  have:=yt q
  rw [<-z] at this
  exact Nat.lt_irrefl _ this
 have D6:s.heap.objs.size<=g1.objs.size:=Nat.le_of_eq tI.1.symm
 refine h _ g1.objs.size D6 (x2.set1 _) ?_ (λb o nb nf q=>?_) (λb o nb nf q=>?_)
 ·have t0:TB (g1.push ob) g1.objs.size (rawInt L):=by
   refine ⟨ob,_,y4 _ (by rw [<-oO];rfl),by rw [<-oO],?_⟩
   rcases D4 with rfl|⟨_,_,_,_,_,_,_,rfl⟩<;>simp
  exact t0.keeps λo q=>(wL _ _ (yz aT)).trans q
 ·exact (wL _ _ (yz nb)).trans (yp _ ((tI.2.1 b nf).trans q))
 ·obtain ⟨sl,z⟩:=tI.2.2 b o q
  exact ⟨sl,(wL _ _ (yz nb)).trans (yp _ z)⟩
def N4 (dk:A.frames=some (env::outer)) (hl:s.heap.FunFrames base (env::outer)) (hf:env.frame=some L) (x:XO s.heap a C d head)
  (ht:head=.none\/∃T0,head=.ref T0/\T0≠a/\TB s.heap T0 .none)
  (h:∀h' T,s.heap.objs.size<=T->XO h' a C d (.ref T)->TB h' T (rawInt L)->(∀b o,b≠a->.ref b≠head->b∉dr (env::outer)->s.heap.get? b=some o->h'.get? b=some o) ->
   (∀b o,b∈dr (env::outer)->s.heap.get? b=some o->∃sl,h'.get? b=some { o with slots:=sl })->Q () { s with heap:=h' }) :
  wpAny M A (noteFrame (.ref a) env) Q E s:=by
 obtain ⟨oe,vs,e,hc,oN,hd,hz,h1⟩:=id x
 have aN:a∉dr (env::outer):=λhm=>by
  obtain ⟨_,o,ho,nf⟩:=hl.mem hm
  rw [e] at ho
  cases ho
  exact nf vs hd
 unfold noteFrame
 simp only [hf]
 refine zu (jy e hd h1 ?_)
 rcases ht with rfl|⟨T0,rfl,nT,t0⟩
 ·rw [zI (by decide)]
  exact D0 dk hl hf x λh' T k1 k2 k3 k4 k5=>h h' T k1 k2 k3 (λb o nb _ nf q=>k4 b o nb nf q) λb o hb q=>k5 b o (λz=>aN (z▸hb)) hb q
 ·obtain ⟨oT,ts,eT,hdT,h3⟩:=id t0
  have TN:T0∉dr (env::outer):=λhm=>by
   obtain ⟨_,o,ho,nf⟩:=hl.mem hm
   rw [eT] at ho
   cases ho
   exact nf ts hdT
  rw [zw (show (Value.ref T0 != Value.none)=true from by simp)]
  refine zu (jy eT hdT h3 ?_)
  rw [zI (show ¬((Value.none==rawInt L)=true) from by simp [rawInt])]
  refine zu (wpAny_setField eT hdT (Array.getElem?_eq_some_iff.mp h3).1 ?_)
  have mZ:∀b,b≠T0->(s.heap.update T0 (Obj.mapFields (·.setIfInBounds 3 Value.none))).get? b=s.heap.get? b:=λb hb=>wL _ _ (yz hb)
  refine D0 (s:={ s with heap:=s.heap.update T0 (Obj.mapFields (·.setIfInBounds 3 Value.none)) }) dk (hl.of_keeps λb o hb nf=>⟨o,(mZ b λq=>?_).trans hb,rfl⟩) hf (x.keeps λo q=>(mZ a (yz nT)).trans q) λh' T k1 k2 k3 k4 k5 =>
   h h' T (by simpa using k1) k2 k3 (λb o nb nh nf q=>k4 b o nb nf ((mZ b λz=>nh (by rw [z])).trans q)) λb o hb q=>k5 b o (λz=>aN (z▸hb)) hb ((mZ b λz=>TN (z▸hb)).trans q)
  rw [q,eT] at hb
  cases hb
  exact nf ts hdT
def N5 {T:Addr}{fl:Value}(x:XO s.heap a C d (.ref T)) (t:TB s.heap T fl) (ne:T≠a)
  (h:∀h',XO h' a C d (.ref T)->TB h' T .none->(∀b o,b≠T->s.heap.get? b=some o->h'.get? b=some o)->h'.objs.size=s.heap.objs.size->Q () { s with heap:=h' }):wpAny M A (setFlight (.ref a) none) Q E s:=by
 obtain ⟨oe,vs,e,_,_,hd,_,h1⟩:=id x
 obtain ⟨oT,ts,eT,hdT,h3⟩:=id t
 unfold setFlight
 refine zu (jy e hd h1 ?_)
 rw [zw (show (Value.ref T != Value.none)=true from by simp)]
 refine wpAny_setField eT hdT (Array.getElem?_eq_some_iff.mp h3).1 ?_
 exact h _ (x.keeps λo q=>(wL _ _ ne).trans q) (t.set3 _) (λb o nb q=>(wL _ _ (yz nb)).trans q) (by simp)
end
def a7 (X:Cx) (pins:Ac) (H:Hp) (b:Addr):Prop :=
 H b=none/\X.s₀.heap.objs.size<=b/\b≠X.env.locals/\(∀x c,X.env.cells.lookup x=some c->c≠b)/\∀p∈X.pn++pins,p.1≠b
def a7.new {X:Cx}{pins:Ac}{U:St}{H H':Hp}{s:Shared}{b:Addr}(I:Inv X pins U H s) (hb:s.heap.objs.size<=b) (hn:H' b=none):a7 X pins H' b:=by
 obtain ⟨f0,f1,f2,f3,f4,f5⟩:=I.fpOk (H':=H') hb hn
 exact ⟨hn,jw I.sz hb,f1,f4,f5⟩
def tJ (X:Cx) (pins:Ac) (H:Hp) (h:Heap) (a C:Addr) (d:Option Addr):Prop :=
 ∃head,XO h a (.ref C) d head/\a7 X pins H a/\(head=.none\/∃T,head=.ref T/\T≠a/\TB h T .none/\a7 X pins H T)
def Throws (X:Cx) (E:XK):Prop:=∀(pins:Ac) (U:St) (H:Hp) (s:Shared) (a C:Addr) (d:Option Addr),Inv X pins U H s->tJ X pins H s.heap a C d->E (.ref C) d H->X.xe (.ref a) s
def cv (P:Program) (w:World):eA:=λouter H s E e s'=>∃(a C T:Addr) (d:Option Addr) (H':Hp),e=.ref a/\s'.os=s.os/\AllBare s'.gens/\Un (dr outer) [] H H' s.heap s'.heap/\cu P w H' s'.heap /\
 XO s'.heap a (.ref C) d (.ref T)/\T≠a/\TB s'.heap T .none/\(s.heap.objs.size<=a/\H' a=none)/\(s.heap.objs.size<=T/\H' T=none)/\E (.ref C) d H'
def N6 {X:Cx}{E:XK}(t:Throws X E):Passes (cv X.prog X.w) X E:=by
 rintro pins U H s e s' I ⟨a,C,T,d,H',rfl,os,bare,un,hok,x,ne,tb,⟨a1,a2⟩,⟨t1,t2⟩,q⟩
 have I':Inv X pins U H' s':=I.call' (ch:=[]) os un hok bare λb z=>absurd z (by simp)
 exact t pins U H' s' a C d I' ⟨_,x,a7.new I a1 a2,.inr ⟨T,rfl,ne,tb,a7.new I t1 t2⟩⟩ q
def gM (a:Addr):Value->Ae
 |.ref T0=>[a,T0]
 |_=>[a]
def D7 (a:Addr) (v:Value):a∈gM a v:=by cases v<;>simp [gM]
def D9 (a T0:Addr):T0∈gM a (.ref T0):=by simp [gM]
section
variable {X:Cx} {pins:Ac} {U:St} {H:Hp} {s:Shared} {a C:Addr} {d:Option Addr} {A:Around} {E:Aa} {Q:Unit->Shared->Prop}
def xF (I:Inv X pins U H s) (dk:A.frames=some X.stack) (bD:X.stack=X.env::X.outer) (hf:X.env.frame=some X.env.locals) (F:tJ X pins H s.heap a C d)
  (h:∀s' T,Inv X pins U H s'->XO s'.heap a (.ref C) d (.ref T)->T≠a->TB s'.heap T (rawInt X.env.locals)->a7 X pins H a->a7 X pins H T->Q () s'):wpAny (model X.prog X.w) A (noteFrame (.ref a) X.env) Q E s:=by
 obtain ⟨head,x,oa,ht⟩:=F
 have hl:s.heap.FunFrames X.base (X.env::X.outer):=bD▸I.stack
 have D_:A.frames=some (X.env::X.outer):=dk.trans (congrArg some bD)
 have Ea:dr (X.env::X.outer)=X.env.locals::X.fs:=by
  unfold dr
  rw [List.filterMap_cons,hf]
  rfl
 have iT:∀b∈X.env.locals::X.fs,H b=none:=λb hb=>I.stkFree b (by rw [bD,Ea];exact hb)
 have xG:∀b u,H b=some u->Value.ref b≠head:=λb u e z=>by
  rcases ht with rfl|⟨T0,rfl,_,_,r⟩
  ·cases z
  ·cases z
   rw [r.1] at e
   cases e
 refine N4 D_ hl hf x (ht.imp id λ⟨T0,e1,e2,e3,_⟩=>⟨T0,e1,e2,e3⟩) λh' T k1 k2 k3 k4 k5=>?_
 rw [Ea] at k4 k5
 have oT:a7 X pins H T:=a7.new I k1 (I.hok.fresh k1)
 have neT:T≠a:=λz=>by
  obtain ⟨_,_,e,_⟩:=x
  have:=yt e
  rw [<-z] at this
  exact Nat.lt_irrefl _ (jE this k1)
 refine h { s with heap:=h' } T ?_ k2 neT k3 oa oT
 refine I.step (g':=s.gens) (t':=s.toks) (d':=s.drawn) (ch:=gM a head) (λb hb=>?_) (λb o n1 n2 n3 e n=>k4 b o (λz=>n3 ?_) (λz=>n3 ?_) (λz=>(yE.mp z).elim n1 n2) e)
  (λb o n1 n2 n3 e n=>k5 b o (jg _ n2) e) (λ_ _ _ _ n=>n) (λb o n3 e=>?_) (λ_ _ e=>e) (λ_ _ _ e=>e) (λb ps e=>⟨#[],by rw [e];simp⟩) (λm hm=>?_) (λb u e=>?_) I.bare
 ·have own:a7 X pins H b:=by
   rcases ht with rfl|⟨T0,rfl,_,_,r⟩
   ·have z:b=a:=by simpa [gM] using hb
    rw [z];exact oa
   ·have z:b=a\/b=T0:=by simpa [gM] using hb
    rcases z with z|z
    ·rw [z];exact oa
    ·rw [z];exact r
  exact ⟨.inr own.2.1,own.2.2.1,own.2.2.2.1,own.2.2.2.2⟩
 ·rw [z]
  exact D7 a head
 ·rw [<-z]
  exact D9 a b
 ·by_cases hb:b∈X.env.locals::X.fs
  ·obtain ⟨sl,z⟩:=k5 b o hb e
   exact ⟨_,z⟩
  ·exact ⟨o,k4 b o (λz=>n3 (by rw [z];exact D7 a head)) (λz=>n3 (by rw [<-z];exact D9 a b)) hb e⟩
 ·obtain ⟨o,es,ep,ho,r⟩:=hm
  obtain ⟨sl,z⟩:=k5 _ o ja ho
  exact ⟨_,es,ep,z,r⟩
 ·refine (I.hok b u e).stay (λc v hc q=>?_) (λ_ q=>q) λ_ _ q=>q
  have tr:∃u',H c=some u':=by
   rcases hc with z|z
   ·exact ⟨u,by rw [z];exact e⟩
   ·exact ⟨_,z⟩
  obtain ⟨u',eu⟩:=tr
  exact k4 c v (λz=>by rw [z,oa.1] at eu;cases eu) (xG c u' eu) (λz=>by rw [iT c z] at eu;cases eu) q
def qu {T:Addr}{fl:Value}(I:Inv X pins U H s) (x:XO s.heap a (.ref C) d (.ref T)) (ne:T≠a) (tb:TB s.heap T fl) (oa:a7 X pins H a) (oT:a7 X pins H T)
  (h:∀s',Inv X pins U H s'->XO s'.heap a (.ref C) d (.ref T)->TB s'.heap T .none->Q () s'):wpAny (model X.prog X.w) A (setFlight (.ref a) none) Q E s:=by
 refine N5 x tb ne λh' k1 k2 k3 _=>h { s with heap:=h' } ?_ k1 k2
 exact I.turned (t':=s.toks) (it:=T) (λb o nb e=>k3 b o nb e) oT.1 oT.2.2.1 (.inr oT.2.1) oT.2.2.2.1 oT.2.2.2.2
end
section
variable {P:Program} {w:World} {K:PySem.W.Frag} {mg:Ab} {base:Heap}
def eB.okX {x qual:Str}{st:Stmt}{f:Addr}{fd:FuncData}{N ps:Ad}{k:Nat}{sp:Sp}(F:eB K x qual st f fd) (S:aq N ps (zG st)) (len:∀vs H Q E,sp vs H Q E->vs.length=ps.length)
  (fG:∀(aU:Value) (A:Around) (outer:List Env) (s:Shared) (H:Hp) (vs:List V) (Q:VK) (E:XK),aV k (A.deeper (envOfC qual (zG st) s.heap.objs.size f aU))->sp vs H Q E ->
   ∃t,cA (dQ (cv P w) P w K mg base N qual (zG st) f aU A outer s H E) (jF st) t/\t { nx:=λ_ H'=>Q .non H',rt:=Q } (start N vs) H):bp P w K mg base (cv P w) (k+1) f fd ps sp:=by
 obtain ⟨oc,od,kV,doc,pm,an,aU,ct,fF,rfl,lk,fD⟩:=F.ex
 exact Dl lk fD S len λA outer s H vs Q E hr ic=>fG aU A outer s H vs Q E hr ic
end
end L2
namespace L2
open PySem PySem.Spec PyProof.Rows PySem.W PySem.Builtin PySem.Builtin.ObjectAttr
def N7 (self:Value):refuseLoop self "__setattr__" [.type "ValueError", .type "Exception", .type "BaseException", .type "object"]=pure ():=by kernel_rfl
def cX:List Value->Bool
 |[.type a,.type b,.type c,.type d]=>a == "ValueError" && b == "Exception" && c == "BaseException" && d == "object"
 |.ref _::r=>cX r
 |_=>false
theorem Eb (self:Value):∀{l:Af},cX l=true->refuseLoop self "__setattr__" l=pure ()
 |[.type a,.type b,.type c,.type d],e=>by
  simp only [cX,jZ,beq_iff_eq] at e
  obtain ⟨⟨⟨rfl,rfl⟩,rfl⟩,rfl⟩:=e
  exact N7 self
 |.ref c::r,e=>by
  rw [refuseLoop_ref]
  exact Eb self (by cases r<;>first|exact e|cases e)
theorem Ec:∀{l:Af},cX l=true->l.contains (.type "object")=true
 |[.type a,.type b,.type c,.type d],e=>by
  simp only [cX,jZ,beq_iff_eq] at e
  obtain ⟨⟨⟨rfl,rfl⟩,rfl⟩,rfl⟩:=e
  simp
 |.ref c::r,e=>by
  rw [List.contains_cons,Ec (l:=r) (by cases r<;>first|exact e|cases e),Bool.or_true]
def fV (K:Frag) (C:Addr):Bool:=(clsIn K C).any λcd=>cX cd.mro
section
variable {prog:Program} {w:World} {A:Around} {E:Aa} {K:Frag} {x C:Addr} {s:Shared} {R:Result->Shared->Prop}
def N8 {ox:Obj}{od:Option Obj}{name:Str}{tk:Tok}{v:Value}(X:K.In s.heap) (I:InstAt s.heap x ox C od) (hp:fV K C=true) (ht:takerIn K C name=some none)
  (h:∀b,wpAny (model prog w) A.in1 (storeInOwnDict (.ref x) (.ref C) (.str name tk) name v b)
   (λfin s'=>match fin with | .done f=>R (.ok f) s' | .again c'=>c'.quiet=true/\codeAny (model prog w) A c' R s') (λe s'=>R (.error e) s') s) :
  codeAny (model prog w) A (.call (.builtin "object.__setattr__") ⟨[.ref x,.str name tk,v],[]⟩) R s:=by
 have SO:=PySem.F.store_object
 obtain ⟨cd,hc,ho⟩:=any_some hp
 have ne:cd.mro.isEmpty=false:=by
  cases q:cd.mro with
  |nil=>rw [q] at ho;cases ho
  |cons _ _=>rfl
 have N9:Looks (model prog w) s.heap (isInstance (.ref x) (.type "object")) true:=I.type.andThen (looks_mroIn X (by unfold mroIn;rw [hc,Option.bind_some,zI (by rw [ne];decide),Ec ho]))
 refine codeAny_call_builtin SO.slot.plain SO.entry (@check_slot (model prog w) _ _ s "object.__setattr__" "object" "__setattr__" (.ref x) [.str name tk,v] [] _ SO.kind SO.split N9 (SO.args (.ref x) (.str name tk) v) ?_)
 obtain ⟨attr,ha,hr⟩:=Option.bind_eq_some_iff.mp ht
 have mr:Looks (model prog w) s.heap (mroOf (.ref C)) cd.mro:=(looks_clsIn X hc).andThen .now
 have N_:Looks (model prog w) s.heap (storeTaker? attr) none:=by
  cases attr with
  |none=>exact .now
  |some a =>
   obtain ⟨b,hb,e⟩:=Option.map_eq_some_iff.mp hr
   refine (looks_takesIn X hb).andThen ?_
   cases b with
   |true=>cases e
   |false=>exact .now
 rw [osa_eq,refuse_eq]
 refine zu (zu (I.type.here (zu (mr.here ?_))))
 rw [Eb _ ho]
 refine ye (zu (I.type.here (zu ((looks_findIn X ha).here (zu (N_.here ?_))))))
 exact h _
def Oa {t:Addr}{name:Str}{v:Value}{Q:Unit->Shared->Prop}(X:K.In s.heap) (he:s.heap.get? x=some { cls:=.ref C,data:=.fields #[.ref t,.none,.none,.none,.bool false,.none] })
  (hs:findIn K (.ref C) "__setattr__" = some (some (.builtin "object.__setattr__"))) (hp:fV K C=true) (ht:takerIn K C name=some none) (hh:hasDictIn K C=true)
  (h:∀h',h'.get? x=some { cls:=.ref C,dict:=some s.heap.objs.size,data:=.fields #[.ref t,.none,.none,.none,.bool false,.none] }->h'.Ns1 s.heap.objs.size (λy=>if y=name then some v else none) ->
   (∀b o,b≠x->s.heap.get? b=some o->h'.get? b=some o)->∀tk,Q () { s with heap:=h',toks:=tk }):wpAny (model prog w) A (setAttr (.ref x) name v) Q E s:=by
 have J:InstAt s.heap x { cls:=.ref C,data:=.fields #[.ref t,.none,.none,.none,.bool false,.none] } C none:=⟨he,rfl,rfl,trivial⟩
 refine set_plain X J hs (N8 (s:={ s with toks:=s.toks+1 }) X J hp ht λb=>?_)
 obtain ⟨cd,hc,cW⟩:=any_some hh
 have xl:=yt he
 refine zu (ye (zu (zu (wpAny_loadPart he (zu (Looks.here (s:={ s with toks:=s.toks+1 }) (looks_clsIn X hc) ?_))))))
 rw [cW]
 show wpAny (model prog w) A.in1 (do
  let d <-alloc { cls:=.type "dict", data:=.dict #[] }
  update x λo=>{ o with dict:=some d }
  dictMade (.ref C) x d) _ _ _
 refine zu (wpAny_alloc (zu (wpAny_update (yp _ he) ?_)))
 refine ye (a:=some s.heap.objs.size) (zu (ye (zu ?_)))
 have xn:s.heap.objs.size≠x:=Nat.ne_of_gt xl
 have ex:((s.heap.push { cls:=.type "dict", data:=.dict #[] }).update x λo=>{ o with dict:=some s.heap.objs.size }).get? x=some { cls:=.ref C,dict:=some s.heap.objs.size,data:=.fields #[.ref t,.none,.none,.none,.bool false,.none] } :=
  Heap.get?_update_self _ (yp _ he) rfl
 have ed:((s.heap.push { cls:=.type "dict", data:=.dict #[] }).update x λo=>{ o with dict:=some s.heap.objs.size }).get? s.heap.objs.size=some { cls:=.type "dict", data:=.dict #[] } :=
  (wL _ _ (yz xn)).trans (y4 _ rfl)
 have en:((s.heap.push { cls:=.type "dict", data:=.dict #[] }).update x λo=>{ o with dict:=some s.heap.objs.size }).Ns1 s.heap.objs.size (λ_=>none) :=
  Heap.Ns1.of_empty ⟨_,#[],_,ed,rfl,(λe he=>absurd he (by simp)),λ_=>rfl⟩
 refine wpAny_nsSet1 (s:={ s with heap:=(s.heap.push { cls:=.type "dict", data:=.dict #[] }).update x λo=>{ o with dict:=some s.heap.objs.size },toks:=s.toks+1 }) en λh' f_ ib=>?_
 obtain ⟨oD,Mc,Md,vP,vQ,vR⟩:=f_.count (PySem.Within.cons (ns:=[]) name v λy hy=>absurd rfl hy)
 refine zu (wpAny_lookBehind vP (by rw [vQ];exact pastItsLine_dict (jw vR (by simp))) ?_)
 refine ye (h h' ((ib.2 x (yz xn)).trans ex) f_ (λb o nb e=>(ib.2 b (yO (yt e))).trans ((wL _ _ (yz nb)).trans (yp _ e))) _)
end
section
variable {prog:Program} {w:World} {A:Around} {h:Heap} {g:Array GenState} {d:Drawn} {t:Nat} {os:OsState} {R:Result->Shared->Prop}
variable {nm q:Str} {C N f:Addr} {bs bm xH:Af} {cT:Bool} {sn:Ad} {sub:Af} {ab:Bool} {col:Option Bool} {dd:Option Addr} {k0 k1 k2 k3 k5:Option Value} {B newId oi:String}
theorem Oc (F:ExcBaseFacts B newId oi xH) (T:OwnTail h xH bm) {mN:Ab}{rest:Af}
  (hC:h.get? C=some (excClassObj nm q C N bs bm cT sn sub ab col dd k0 k1 k2 k3 k5 newId)) (hn:h.Ns N mN) (hi:mN "__init__" = some (.ref f))
  (hb:∀self,Looks (model prog w) h (bindSpecial (.ref f) self) (.ref f,[self])) (xI:rest.length<=sizeLine)
  (hq:codeAny (model prog w) (A.under (.builtin "type.__call__" ⟨.ref C::rest,[]⟩)) (.call (.ref f) ⟨.ref (h.objs.size+1)::rest,[]⟩) (InitBack (h.objs.size+1) R)
   ⟨(h.push { cls:=.type "tuple", data:=.seq rest.toArray }).push { cls:=.ref C,data:=.fields #[.ref h.objs.size,.none,.none,.none,.bool false,.none] },g,d,t,os⟩) :
  codeAny (model prog w) A (.call (.ref C) ⟨rest,[]⟩) R ⟨h,g,d,t,os⟩:=by
 have u1:=tc_lookup
 have u2:=tc_bind (.ref C)
 have hT:(⟨h,g,d,t,os⟩:Shared).TypeIs (.ref C) "type" := ⟨_,hC,rfl⟩
 refine codeAny_of_tree ?_
 show wpAny _ _ (callAny (.ref C) _) _ _ _
 repeat (any_goals (first|assumption|with_reducible refine wpAny_loadPart_at hC ?_|wp_step))
 refine ⟨rfl,codeAny_call_builtin_at (Code.quiet_builtin _ (by decide +kernel)) entry_typeCall (wpAny_check_type_call_sub hC ?_)⟩
 repeat (first|with_reducible refine wpAny_loadPart_at hC ?_|with_reducible refine wpAny_madeBy_exc hC ?_|wp_step)
 refine codeAny_call_builtin_code (Code.quiet_builtin _ F.quiet) (wpAny_check_new_subT F T hC (codeAny_exc_new_subT F T hC ?_ xI))
 change wpAny (model prog w) (A.under (.builtin "type.__call__" ⟨.ref C::rest,[]⟩)) _ _ _ ⟨(h.push { cls:=.type "tuple", data:=.seq rest.toArray }).push { cls:=.ref C,data:=.fields #[.ref h.objs.size,.none,.none,.none,.bool false,.none] },g,d,t,os⟩
 generalize hg2:(h.push { cls:=.type "tuple", data:=.seq rest.toArray }).push { cls:=.ref C,data:=.fields #[.ref h.objs.size,.none,.none,.none,.bool false,.none] }=h2 at hq ⊢
 have kp:∀b o,h.get? b=some o->h2.get? b=some o:=λb o e=>hg2▸yp _ (yp _ e)
 have gx:h2.get? (h.objs.size+1)=some { cls:=.ref C,data:=.fields #[.ref h.objs.size,.none,.none,.none,.bool false,.none] }:=by
  rw [<-hg2]
  heap_get
 have C2:=kp _ _ hC
 have T2:=T.keeps kp
 have n2:=hn.keeps kp
 have cC:(Value.ref C::bm).contains (.ref C)=true:=by simp
 unfold isInstance
 repeat (first|with_reducible refine wpAny_loadPart_at gx ?_|(with_reducible refine wpAny_isSubtype_exc C2 ?_;rw [cC])|wp_step)
 show wpAny _ _ (typeLookup (.ref C) _) _ _ _
 refine wpAny_typeLookup_tail C2 n2 T2 F.mroIs F.init.lookup ?_
 rw [hi]
 refine mD (zu (((hb _).keeps kp).here (s:=⟨h2,g,d,t,os⟩) (zu (wpAny_call (codeAny_mono hq λr s' z=>?_)))))
 cases r with
 |error e=>exact z
 |ok fl =>
  cases fl with
  |ret v =>
   obtain ⟨rfl,z⟩:=z
   exact ye (ye z)
  |next=>exact z.elim
  |brk=>exact z.elim
  |cont=>exact z.elim
end
def gO (C t:Addr) (d:Option Addr) (a:Addr):HO:=.ext λ_ _ h=>h.get? a=some { cls:=.ref C,dict:=d,data:=.fields #[.ref t,.none,.none,.none,.bool false,.none] }
structure m9 (K:PySem.W.Frag) (C:Addr) (f:Str):Prop where
 sa:PySem.W.findIn K (.ref C) "__setattr__" = some (some (.builtin "object.__setattr__"))
 line:fV K C=true
 no:PySem.W.takerIn K C f=some none
 hd:PySem.W.hasDictIn K C=true
def Ee (K:PySem.W.Frag) (ta tv:TE) (f:Str):TS:=λD U H=>tv U H λy H1=>ta U H1 λx H2=>∃a C t,x=.ref a/\H2 a=some (gO C t none a)/\m9 K C f /\
 ∀d,H2 d=none->D.nx U (upd (upd H2 d (.xd [(f,y)])) a (gO C t (some d) a))
def Od {X:Cx}{o value:Expr}{f:Str}{pos pos':Pos}{ta tv:TE}(ha:PE X o ta) (hv:PE X value tv) (hs:swapsWith value (some (.Attribute o f pos')) pos.line X.env=pure false):PS X (.Assign [.Attribute o f pos'] value pos) (Ee X.K ta tv f):=by
 intro pins s U H D I h
 refine plainObj_wpAny_Assign_Attribute (aS (hv pins s U H _ I h) λu s1 ⟨y,H1,I1,ry,q⟩=>aS (ha pins s1 U H1 _ I1 q) λov s2 gg=>?_) hs
 obtain ⟨x,H2,I2,rx,a,C,t,ex,ea,c,q2⟩:=gg
 subst ex
 obtain rfl:ov=Value.ref a:=rx
 have he:s2.heap.get? a=some { cls:=.ref C,dict:=none,data:=.fields #[.ref t,.none,.none,.none,.bool false,.none] }:=(I2.hok a _ ea).1
 refine Oa I2.kIn he c.sa c.line c.no c.hd λh' g1 g2 g3 tk=>?_
 have fr:H2 s2.heap.objs.size=none:=I2.hok.fresh (yo _)
 have na:a≠s2.heap.objs.size:=yO (yt he)
 refine ⟨U,_,?_,q2 s2.heap.objs.size fr⟩
 have old:∀b o,s2.heap.get? b=some o->b≠s2.heap.objs.size:=λb o e=>yO (yt e)
 have qv:∀b,H2 b=none->b≠a:=λb n z=>by rw [z,ea] at n;cases n
 have iM:∀b,b≠a->b≠s2.heap.objs.size->(upd (upd H2 s2.heap.objs.size (.xd [(f,y)])) a (gO C t (some s2.heap.objs.size) a)) b=H2 b:=λb n1 n2=>by rw [yi n1,yi n2]
 have qw:∀b u,H2 b=some u->b≠s2.heap.objs.size:=λb u e z=>by rw [z,fr] at e;cases e
 refine I2.un (t':=tk) ⟨λb o e n _ _=>g3 b o (qv b n) e,λb o e n _ _=>⟨o.slots,g3 b o (qv b n) e⟩,λb o e n _=>by rw [iM b (qv b n) (old b o e)];exact n,λb o e _=>?_,λb xs e=>?_,λb o u e=>?_,λb ps e=>?_⟩ λb uo e=>?_
 ·by_cases z:b=a
  ·exact ⟨_,z▸g1⟩
  ·exact ⟨o,g3 b o z e⟩
 ·have z:b≠a:=λz=>by rw [z,ea] at e;cases e
  rw [iM b z (qw b _ e)];exact e
 ·have z:b≠a:=λz=>by rw [z,ea] at e;cases e
  rw [iM b z (qw b _ e)];exact e
 ·have z:b≠a:=λz=>by rw [z,ea] at e;cases e
  exact ⟨#[],by rw [iM b z (qw b _ e),e];simp⟩
 ·by_cases z:b=a
  ·rw [z] at e ⊢
   rw [yN] at e
   cases e
   exact ⟨g1,⟨_,g1⟩,λh1 h2 p k=>k _ p⟩
  ·rw [yi z] at e
   by_cases z2:b=s2.heap.objs.size
   ·rw [z2] at e ⊢
    rw [yN] at e
    cases e
    refine ⟨_,g2,λn=>?_⟩
    show cK (List.lookup n [(f,y)]) (if n=f then some u else none)
    rw [yL]
    by_cases w':n=f
    ·rw [zw w',w',beq_self_eq_true]
     exact ry
    ·rw [zI w',beq_eq_false_iff_ne.mpr w']
     exact True.intro
   ·rw [yi z2] at e
    refine (I2.hok b uo e).stay (λc v hc w'=>g3 c v ?_ w') (λc w'=>?_) λc xs w'=>?_
    ·rcases hc with w2|w2
     ·rw [w2];exact z
     ·intro w3
      rw [w3,ea] at w2
      cases w2
    ·have n1:c≠a:=λw3=>by rw [w3,ea] at w';cases w'
     rw [iM c n1 (qw c _ w')];exact w'
    ·have n1:c≠a:=λw3=>by rw [w3,ea] at w';cases w'
     rw [iM c n1 (qw c _ w')];exact w'
abbrev dJ:Af:=[.type "ValueError", .type "Exception", .type "BaseException", .type "object"]
def Oe {K:Frag}{h:Heap}{N:Addr}{mN:Ab}{n:Str}{v:Value}(X:K.In h) (G:h.Ns N mN) (e:nsIn K N n=some (some v)):mN n=some v:=by
 obtain ⟨o,es,ep,ho,hd,_,hf⟩:=G
 unfold nsIn at e
 split at e
 ·rename_i q
  have:=X _ _ q
  rw [ho] at this
  cases this
  cases hd
  split at e
  ·rename_i he
   cases e
   rw [<-hf]
   unfold nsFind findBy
   rw [<-Array.find?_toList,he]
   rfl
  ·split at e<;>cases e
 ·cases e
structure fW (K:Frag) (C:Addr):Prop where
 ob:∃nm q N bs bm cT sn sub ab col dd k0 k1 k2 k3 k5,K.lookup C=some (excClassObj nm q C N bs bm cT sn sub ab col dd k0 k1 k2 k3 k5 "ValueError.__new__")/\tailIn K dJ bm=true/\nsOkIn K N=true
 kp:keepIn K (.ref C)=true
structure fX (K:Frag) (C f:Addr):Prop where
 ob:∃nm q N bs bm cT sn sub ab col dd k0 k1 k2 k3 k5,K.lookup C=some (excClassObj nm q C N bs bm cT sn sub ab col dd k0 k1 k2 k3 k5 "ValueError.__new__")/\tailIn K dJ bm=true/\nsOkIn K N=true/\nsIn K N "__init__" = some (some (.ref f))
 fn:isFn K (.ref f)=true
 kp:keepIn K (.ref C)=true
def fX.of {K:Frag}{C f:Addr}(x:fX K C f):fW K C:=by
 obtain ⟨⟨nm,q,N,bs,bm,cT,sn,sub,ab,col,dd,k0,k1,k2,k3,k5,a,b,c,_⟩,_,k⟩:=x
 exact ⟨⟨nm,q,N,bs,bm,cT,sn,sub,ab,col,dd,k0,k1,k2,k3,k5,a,b,c⟩,k⟩
def del (H:Hp) (a:Addr):Hp:=λb=>if b=a then none else H b
def xJ {H:Hp}{a:Addr}:del H a a=none:=zw rfl
def ng {H:Hp}{a b:Addr}(h:b≠a):del H a b=H b:=zI h
def Of {H:Hp}{a:Addr}{o:HO}(h:H a=none):del (upd H a o) a=H:=by
 funext b
 by_cases z:b=a
 ·rw [z,xJ,h]
 ·rw [ng z,yi z]
def Og {H:Hp}{a b:Addr}{o o':HO}(n:a≠b):upd (upd H a o) b o'=upd (upd H b o') a o:=by
 funext c
 by_cases z:c=a
 ·rw [z,yi n,yN,yN]
 ·by_cases z2:c=b
  ·rw [z2,yN,yi (yz n),yN]
  ·rw [yi z2,yi z,yi z,yi z2]
def Inv.drop {X:Cx}{pins:Ac}{U:St}{H:Hp}{s:Shared}{a:Addr}{φ:Program->World->Heap->Prop}(I:Inv X pins U H s) (ha:H a=some (.ext φ)):Inv X pins U (del H a) s:=by
 have ne:∀b u,H b=some u->(∀φ,u ≠ .ext φ)->b≠a:=λb u e n z=>by
  rw [z,ha] at e
  cases e
  exact n _ rfl
 have t:Inv X pins U (del H a) { s with heap:=s.heap,toks:=s.toks }:=I.un ⟨λb o e _ _ _=>e,λb o e _ _ _=>⟨o.slots,e⟩,λb o e n _=>?_,λb o e _=>⟨o,e⟩,λb xs e=>?_,λb o u e=>?_,λb ps e=>?_⟩ λb u e=>?_
 ·exact t
 ·unfold del
  split<;>first|rfl|exact n
 ·rw [ng (ne b _ e λ_ z=>by cases z)];exact e
 ·rw [ng (ne b _ e λ_ z=>by cases z)];exact e
 ·exact ⟨#[],by rw [ng (ne b _ e λ_ z=>by cases z),e];simp⟩
 ·have z:b≠a:=λz=>by rw [z,xJ] at e;cases e
  rw [ng z] at e
  refine (I.hok b u e).stay (λ_ _ _ q=>q) (λc q=>?_) λc xs q=>?_
  ·rw [ng (ne c _ q λ_ z=>by cases z)];exact q
  ·rw [ng (ne c _ q λ_ z=>by cases z)];exact q
section
variable {M:Model} {A:Around} {E:Aa} {env:Env} {s:Shared}
def Oh {K:Frag}{x:Sem Value}{Q:Flow->Shared->Prop}(hh:A.handled=none)
  (h:wpAny M A x (λv ak=>∃e C t d,v=.ref e/\K.In ak.heap/\fW K C/\ak.heap.get? e=some { cls:=.ref C,dict:=d,data:=.fields #[.ref t,.none,.none,.none,.bool false,.none] }/\E (.ref e) ak) E s):wpAny M A (raiseStmt env (some x) none) Q E s:=by
 unfold raiseStmt
 refine zu (yY h (λv ak ax=>?_) λ_ _ x=>x)
 obtain ⟨e,C,tt,dx,rfl,kin,⟨⟨nm,q,N,bs,bm,cT,sn,sub,ab,col,dd,k0,k1,k2,k3,k5,hC,ht,_⟩,_⟩,he,hE⟩:=ax
 have hC:=kin _ _ hC
 have cU:bm.contains (.type "BaseException")=true:=(tail_of_in kin ht).hasType (by decide)
 have Oi:(Value.ref C::bm).contains (.type "BaseException")=true:=by rw [List.contains_cons,cU,Bool.or_true]
 obtain ⟨hp,g,d,tk,os⟩:=ak
 repeat (first|with_reducible refine wpAny_loadPart_at he ?_|with_reducible refine wpAny_loadPart_at hC ?_|(with_reducible refine wpAny_isSubtype_exc hC ?_;rw [Oi])|wp_step)
 exact wpAny_raiseNew_none hh hE
end
section
variable {X:Cx} {CX:eA} {k:Nat} {f C:Addr} {fd:FuncData} {ps:Ad} {sp:Sp} {E:XK}
def Oj {pins:Ac}{U:St}{H:Hp}{s:Shared}{Q:VK}{us:Af}{vs:List V}(M:fX X.K C f) (F:bp X.prog X.w X.K X.mg X.base CX k f fd ps sp) (hr:aV (k+1) X.A) (hb:Binds X.K fd ps [])
  (hx:Passes CX X E) (I:Inv X pins U H s) (r:Vals vs us) (hz:us.length<=sizeLine)
  (h:∀x t,a7 X pins H x->sp (.ref x::vs) (upd H x (gO C t none x)) (λv H2=>v=.non/\Q (.ref x) H2) E) :
  wpAny (model X.prog X.w) X.A (call (.ref C) us) (EP X pins U Q) X.xe s:=by
 obtain ⟨⟨nm,q,N,bs,bm,cT,sn,sub,ab,col,dd,k0,k1,k2,k3,k5,hC,ht,hok,hi⟩,p6,_⟩:=M
 have Ef:s.heap.objs.size<=s.heap.objs.size+1:=Nat.le_succ _
 have Ol:H (s.heap.objs.size+1)=none:=I.hok.fresh Ef
 have hq:=h (s.heap.objs.size+1) s.heap.objs.size (a7.new I Ef Ol)
 let o1:Obj:={ cls:=.type "tuple", data:=.seq us.toArray }
 let o2:Obj:={ cls:=.ref C,data:=.fields #[.ref s.heap.objs.size,.none,.none,.none,.bool false,.none] }
 have e2:((s.heap.push o1).push o2).get? (s.heap.objs.size+1)=some o2:=by
  have:=y4 (s.heap.push o1) (o:=o2) rfl
  rwa [Heap.size_push] at this
 have I1:Inv X pins U H { s with heap:=s.heap.push o1,toks:=s.toks }:=I.kept λb u q=>yp _ q
 have I2:Inv X pins U (upd H (s.heap.objs.size+1) (gO C s.heap.objs.size none (s.heap.objs.size+1))) { s with heap:=(s.heap.push o1).push o2 } :=
  I1.laid (a:=s.heap.objs.size+1) (o:=gO C s.heap.objs.size none (s.heap.objs.size+1)) (t':=s.toks) (λb u q=>yp _ q) (Nat.le_of_eq (Heap.size_push _ _)) ⟨e2,⟨_,e2⟩,λh1 h2 p k=>k _ p⟩
 have r2:Vals (V.ref (s.heap.objs.size+1)::vs) (Value.ref (s.heap.objs.size+1)::us):=.cons rfl r
 have hl:(Value.ref (s.heap.objs.size+1)::us++[]).length=ps.length:=by
  have e:=r2.length
  rw [F.len _ _ _ _ hq] at e
  rw [List.append_nil]
  exact e.symm
 have Eg:=hb { s with heap:=(s.heap.push o1).push o2 } (Value.ref (s.heap.objs.size+1)::us) I2.kIn hl
 rw [List.append_nil] at Eg
 obtain ⟨hp,g,d,tk,os⟩:=s
 refine wpAny_call (Oc (f:=f) PySem.F.excBase_ValueError (tail_of_in I.kIn ht) (I.kIn _ _ hC) (.of_isNs (isNs_of_in I.kIn hok)) (Oe I.kIn (.of_isNs (isNs_of_in I.kIn hok)) hi)
  (λself=>bind_fn I.kIn self (beq_iff_eq.mp p6)) hz (codeAny_mono (F.run _ X.stack _ _ ⟨Value.ref (hp.objs.size+1)::us,[]⟩ (Value.ref (hp.objs.size+1)::us) _ _ E (hr.make C us [])
  (I2.env0.make C us []) Eg r2 hq) λr s' gI=>?_))
 cases r with
 |error e=>exact hx pins U _ _ e s' I2 gI
 |ok fl =>
  cases fl with
  |ret u =>
   obtain ⟨v,H',I3,rv,ev,q3⟩:=I2.after gI
   subst ev
   exact ⟨rv,⟨V.ref (hp.objs.size+1),H',I3,rfl,q3⟩⟩
  |next=>exact gI.elim
  |brk=>exact gI.elim
  |cont=>exact gI.elim
def Eh (C:Addr) (f:Str):Sp:=λvs H Q _=>∃a t y,vs=[.ref a,y]/\H a=some (gO C t none a)/\∀d,H d=none->Q .non (upd (upd H d (.xd [(f,y)])) a (gO C t (some d) a))
def Om (C:Addr) (f:Str) (te:TE) (Er:XK):TS:=λ_ U H=>te U H λy H1=>∀d,H1 d=none->Er (.ref C) (some d) (upd H1 d (.xd [(f,y)]))
def Oo {x fld:Str}{e:Expr}{te:TE}{np a0 pos:Pos}{Er:XK}(he:PE X e te) (M:fX X.K C f) (F:bp X.prog X.w X.K X.mg X.base CX k f fd ps (Eh C fld)) (hr:aV (k+1) X.A) (hg:Gl X x) (hm:X.mg x=some (.ref C))
  (hb:Binds X.K fd ps []) (hx:Passes CX X Er) (ht:Throws X Er) (hc:X.calm=true) (bR:(x==("__debug__" : Str))=false:=by decide)
  (hs:starEach [e] X.env=(false,eval e X.env)::starEach [] X.env:=by rfl):PS X (.Raise (some (.Call (.Name x np) [e] [] a0)) none pos) (Om C fld te Er):=by
 intro pins s U H D I h
 rw [arm_exec_Raise]
 refine zu (wpAny_standAt ?_)
 refine Oh (K:=X.K) (I.ok.hd hc) ?_
 refine zu (aS (Q:=EP X pins U λv H2=>∃a t d,v=.ref a/\a7 X pins (del H2 a) a/\H2 a=some (gO C t (some d) a)/\Er (.ref C) (some d) (del H2 a)) ?_ λu s1 ⟨v,H2,I2,rv,a,t,d,ev,ow,ha,q⟩=>zu (wpAny_standAt (ye ?_)))
 ·refine wpAny_Call_Name_kw (kY I hg hm ?_ bR)
  refine PySem.W.callWith_K (h₀:=X.base) I.ok.mod.kin M.kp (spliced_more (aS (he pins s U H _ I h) λu s1 ⟨y,H1,I1,ry,q⟩=>?_) hs) hs rfl
  refine spliced_none ⟨I1.kIn,?_⟩
  refine Oj (vs:=[y]) M F hr hb hx I1 (.cons ry .nil) (show 1<=sizeLine by decide) λa t ow=>⟨a,t,y,rfl,yN,λd hd=>⟨rfl,a,t,d,rfl,?_,yN,?_⟩⟩
  ·exact ⟨xJ,ow.2⟩
  ·have n:d≠a:=λz=>by rw [z,yN] at hd;cases hd
   rw [yi n] at hd
   have e1:del (upd (upd (upd H1 a (gO C t none a)) d (.xd [(fld,y)])) a (gO C t (some d) a)) a=upd H1 d (.xd [(fld,y)]):=by
    rw [Og (yz n),Kj]
    exact Of (by rw [yi (yz n)];exact ow.1)
   rw [e1]
   exact q d hd
 ·subst ev
  obtain rfl:u=Value.ref a:=rv
  have he:s1.heap.get? a=some { cls:=.ref C,dict:=some d,data:=.fields #[.ref t,.none,.none,.none,.bool false,.none] }:=(I2.hok a _ ha).1
  exact ⟨a,C,t,some d,rfl,I2.kIn,M.of,he,ht pins U _ s1 a C (some d) (Inv.drop I2 ha) ⟨.none,⟨_,_,he,rfl,rfl,rfl,rfl,rfl⟩,ow,.inl rfl⟩ q⟩
end
def XP (X:Cx) (pins:Ac) (U:St) (E:XK) (u:Value) (s':Shared):Prop:=∃(a C:Addr) (d:Option Addr) (H':Hp),u=.ref a/\Inv X pins U H' s'/\tJ X pins H' s'.heap a C d/\E (.ref C) d H'
abbrev TX:=St->Hp->VK->XK->Prop
def PX (X:Cx) (e:Expr) (t:TX):Prop :=
 ∀(pins:Ac) (s:Shared) (U:St) (H:Hp) (Q:VK) (E:XK),Inv X pins U H s->t U H Q E->wpAny (model X.prog X.w) X.A (eval e X.env) (EP X pins U Q) (XP X pins U E) s
def Oq (sp:Sp) (dh:List V) (t:TA):TX:=λU H Q E=>t U H λvs H1=>sp (vs++dh) H1 Q E
section
variable {X:Cx} {k:Nat} {f C:Addr} {fd:FuncData} {ps:Ad} {sp:Sp} {dh:List V} {ds:Af} {E:XK} {x:Str} {p pos:Pos} {e:Expr} {es:List Expr} {t:TA}
def Ei {pins:Ac}{U:St}{H:Hp}{s:Shared}{Q:VK}{us:Af}{vs:List V}(F:bp X.prog X.w X.K X.mg X.base (cv X.prog X.w) k f fd ps sp) (hr:aV k X.A) (hb:Binds X.K fd ps ds) (hd:Vals dh ds)
  (I:Inv X pins U H s) (r:Vals vs us) (h:sp (vs++dh) H Q E):wpAny (model X.prog X.w) X.A (call (.ref f) us) (EP X pins U Q) (XP X pins U E) s:=by
 have r2:Vals (vs++dh) (us++ds):=r.append hd
 have hl:(us++ds).length=ps.length:=by rw [<-r2.length];exact F.len _ _ _ _ h
 refine wpAny_call (codeAny_mono (F.run X.A X.stack s H ⟨us,[]⟩ (us++ds) (vs++dh) Q E hr I.env0 (hb s us I.kIn hl) r2 h) λr s' hq=>?_)
 cases r with
 |error e =>
  obtain ⟨a,C,T,d,H',rfl,os,bare,un,hok,x,ne,tb,⟨a1,a2⟩,⟨t1,t2⟩,q⟩:=hq
  have I':Inv X pins U H' s':=I.call' (ch:=[]) os un hok bare λb z=>absurd z (by simp)
  exact ⟨a,C,d,H',rfl,I',⟨_,x,a7.new I a1 a2,.inr ⟨T,rfl,ne,tb,a7.new I t1 t2⟩⟩,q⟩
 |ok fl =>
  cases fl with
  |ret u=>exact I.after hq
  |next=>exact hq.elim
  |brk=>exact hq.elim
  |cont=>exact hq.elim
def Ot (F:bp X.prog X.w X.K X.mg X.base (cv X.prog X.w) k f fd ps sp) (hr:aV k X.A) (hg:Gl X x) (hm:X.mg x=some (.ref f)) (hk:PySem.W.keepIn X.K (.ref f)=true) (hb:Binds X.K fd ps ds) (hd:Vals dh ds)
  (ha:PA X.nox (e::es) t) (bR:(x==("__debug__" : Str))=false:=by decide) (he:starEach (e::es) X.env=(false,eval e X.env)::starEach es X.env:=by rfl) (br:(backTo pos (starEach es X.env)).any (·.1)=false:=by rfl) :
  PX X (.Call (.Name x p) (e::es) [] pos) (Oq sp dh t):=by
 intro pins s U H Q E I h
 refine wpAny_Call_Name_kw (kY I hg hm ?_ bR)
 refine PySem.W.callWith_K (h₀:=X.base) I.ok.mod.kin hk (yY (ha pos pins s U H _ (I.wish _) h) (λus s1 ⟨vs,H1,I1,r,q⟩=>⟨I1.unwish.kIn,?_⟩) λ_ _ z=>z.elim) he br
 exact Ei F hr hb hd I1.unwish r q
end
def gg (C:Addr) (d:Option Addr) (a:Addr):HO:=.ext λ_ _ h=>∃T:Addr,XO h a (.ref C) d (.ref T)
abbrev Cx.caught (X:Cx) (a:Addr):Cx:={ X with A:=X.A.mark (some (.ref a)),calm:=false,xe:=λ_ _=>False }
section
variable {X:Cx} {pins:Ac} {U:St} {H:Hp} {s:Shared} {a C:Addr} {d:Option Addr}
def Inv.caught (I:Inv X pins U H s) (a:Addr):Inv (X.caught a) pins U H s :=
 ⟨⟨I.ok.mod,I.ok.kind,I.ok.glob,I.ok.blt,I.ok.above,I.ok.inj,I.ok.has,I.ok.cab,(λz=>nomatch z),I.ok.frames,I.ok.stk,I.ok.exf,I.ok.bs,I.ok.bsz,I.ok.noex,I.ok.exfs,I.ok.funs,I.ok.frf⟩,I.os,I.bare,I.base,I.loc,I.cell,I.free,I.freeC,I.pin,I.hok,I.len⟩
def Inv.uncaught (J:X.Ok) (I:Inv (X.caught a) pins U H s):Inv X pins U H s:=⟨J,I.os,I.bare,I.base,I.loc,I.cell,I.free,I.freeC,I.pin,I.hok,I.len⟩
def Inv.track {o:HO}(I:Inv X pins U H s) (ow:a7 X pins H a) (new:aW X.prog X.w (upd H a o) s.heap a o):Inv X pins U (upd H a o) s:=by
 have ne:∀b u,H b=some u->b≠a:=λb u e z=>by rw [z,ow.1] at e;cases e
 have t:=I.step (h':=s.heap) (H':=upd H a o) (g':=s.gens) (t':=s.toks) (d':=s.drawn) (ch:=[a]) (λb hb=>?_) (λb u _ _ _ e _=>e) (λb u _ _ _ e _=>⟨u.slots,e⟩) (λb u nb e n=>?_) (λb u _ e=>⟨u,e⟩) (λb xs e=>?_) (λb u v e=>?_) (λb ps e=>?_) (λm hm=>hm) (λb u e=>?_) I.bare
 ·exact t
 ·have z:b=a:=by simpa using hb
  rw [z]
  exact ⟨.inr ow.2.1,ow.2.2.1,ow.2.2.2.1,ow.2.2.2.2⟩
 ·rw [yi (λz=>nb (by simp [z]))];exact n
 ·rw [yi (ne b _ e)];exact e
 ·rw [yi (ne b _ e)];exact e
 ·exact ⟨#[],by rw [yi (ne b _ e),e];simp⟩
 ·by_cases z:b=a
  ·rw [z] at e ⊢
   rw [yN] at e
   cases e
   exact new
  ·rw [yi z] at e
   exact (I.hok b u e).stay (λ_ _ _ q=>q) (λc q=>by rw [yi (ne c _ q)];exact q) λc xs q=>by rw [yi (ne c _ q)];exact q
def Inv.catch {T:Addr}(I:Inv X pins U H s) (ow:a7 X pins H a) (x:XO s.heap a (.ref C) d (.ref T)):Inv X pins U (upd H a (gg C d a)) s :=
 Inv.track I ow ⟨⟨T,x⟩,(let ⟨oe,_,e,_⟩:=x;⟨oe,e⟩),λh1 h2 p k=>let ⟨T,z⟩:=p;⟨T,z.keeps λo q=>k o q⟩⟩
def tK {M:Model}{A:Around}{E:Aa}{j:Nat}{n:Str}{pos:Pos}{Q:Unit->Shared->Prop}(I:Inv X pins U H s) (hN:X.N.Nodup) (hj:X.N[j]?=some n) (hk:X.env.scope.names.lookup n=some .local)
  (h:∀s',Inv X pins (U.set j none) H s'->Q () s'):wpAny M A (do bindName X.env n .none;unbindBehindTheSuite X.env n pos) Q E s:=by
 obtain ⟨m,hn,hl⟩:=id I.loc
 have gG:(X.env.scope.kind == .class||(X.env.scope.kind == .module&&X.env.locals != X.env.globals))=false:=by rw [I.ok.kind];rfl
 have aG:j<U.length:=by rw [I.len];exact (yD.mp hj).1
 have cne:=I.cne
 obtain ⟨oL,_,_,CG,_⟩:=id hn
 refine wpAny_nameGoes_keeps hk hn gG λh' v mF hs=>?_
 refine h _ ⟨I.ok,I.os,I.bare,⟨λb o e n hb hx=>?_,λb o e n hb hx=>?_,I.base.free,λb o e hx=>?_,I.base.tups,I.base.frzs,I.base.tbls⟩,⟨_,mF,λi y v' e1 e2 e3=>?_⟩,λy c e=>?_,I.free,I.freeC,λp hp=>?_,λb ob e=>?_,by simpa using I.len⟩
 ·exact (hs.2 b (yO (jE (yt e) I.ok.above))).trans (I.base.keep b o e n hb hx)
 ·obtain ⟨sl,e1⟩:=I.base.slot b o e n hb hx
  exact ⟨sl,(hs.2 b (yO (jE (yt e) I.ok.above))).trans e1⟩
 ·obtain ⟨o',e1⟩:=I.base.there b o e hx
  exact ⟨o',(hs.2 b (yO (jE (yt e) I.ok.above))).trans e1⟩
 ·by_cases hi:i=j
  ·subst hi
   rw [yZ aG] at e2
   cases e2
  ·rw [yr (yz hi)] at e2
   obtain ⟨u',r',q⟩:=hl i y v' e1 e2 e3
   refine ⟨u',r',?_⟩
   rcases q with ⟨k,e⟩|⟨k,c,e,z⟩
   ·refine .inl ⟨k,?_⟩
    have:y≠n:=λe=>hi (vL hN e1 (e▸hj))
    simp [this,e]
   ·exact .inr ⟨k,c,e,z.sameBut hs (cne y c e)⟩
 ·obtain ⟨w',z⟩:=I.cell y c e
  exact ⟨w',z.sameBut hs (cne y c e)⟩
 ·obtain ⟨e,n,ne,nf,d⟩:=I.pin p hp
  exact ⟨(hs.2 p.1 ne).trans e,n,ne,nf,d⟩
 ·refine (I.hok b ob e).stay (λc w' hc q=>(hs.2 c ?_).trans q) (λ_ q=>q) λ_ _ q=>q
  rintro rfl
  rcases hc with rfl|hc
  ·rw [I.free] at e;cases e
  ·rw [I.free] at hc;cases hc
end
section
variable {X:Cx} {pins:Ac} {U:St} {H:Hp} {s:Shared} {a C d:Addr} {fs:List (Str×V)}
def Ej (I:Inv X pins U H s) (ha:H a=some (gg C (some d) a)) (hd:H d=some (.xd fs)):∃ox od,InstAt s.heap a ox C (some od)/\∀n,∃o,lookIn n od=some o/\cK (fs.lookup n) o:=by
 obtain ⟨T,oe,vs,e,hc,oN,xK,_⟩:=(show aW X.prog X.w H s.heap a (gg C (some d) a) from I.hok a _ ha).1
 obtain ⟨mA,hn,r⟩:=(show aW X.prog X.w H s.heap d (.xd fs) from I.hok d _ hd)
 obtain ⟨od,ho,hl⟩:=C4 hn
 refine ⟨oe,od,⟨e,hc,by unfold notCls;rw [xK],by rw [oN];exact ho⟩,λn=>⟨mA n,hl n,r n⟩⟩
end
def fX.mk' {K:Frag}{C B N f:Addr}{nm q:Str}{bs:Af}{cT:Bool}{sn:Ad}{sub:Af}{ab:Bool}{col:Option Bool}{dd:Option Addr}{k0 k1 k2 k3 k5:Option Value}{c:Value}{d:Option Addr}{es:Array DictEntry}{n:Nat}{sl:Array (Option Value)}
  (hC:K.lookup C=some (excClassObj nm q C N bs (.ref B::dJ) cT sn sub ab col dd k0 k1 k2 k3 k5 "ValueError.__new__")) (hB:excIn K B dJ "ValueError.__new__" = true)
  (hN:K.lookup N=some ⟨c,d,.dict es n,sl⟩) (he:(es.all λe=>match e.key with | .str _ _=>true|_=>false)=true) (hi:nsIn K N "__init__" = some (some (.ref f))) (fn:isFn K (.ref f)=true) (kp:keepIn K (.ref C)=true):fX K C f:=by
 refine ⟨⟨nm,q,N,bs,_,cT,sn,sub,ab,col,dd,k0,k1,k2,k3,k5,hC,?_,?_,hi⟩,fn,kp⟩
 ·unfold excIn at hB
  split at hB
  ·rename_i dd cd sl ho
   split at hB
   ·simp only [jZ,beq_iff_eq,Bool.not_eq_true'] at hB
    obtain ⟨⟨_,hok⟩,Ou⟩:=hB
    unfold tailIn
    dsimp only
    rw [ho]
    have t0:tailIn K dJ dJ=true:=by unfold tailIn;rw [beq_self_eq_true,Bool.true_or]
    simp only [hok,Ou,beq_self_eq_true,Bool.true_and,t0,Bool.or_true]
   ·cases hB
  ·cases hB
 ·unfold nsOkIn
  rw [hN]
  exact he
def Ov (X:Cx) (CX:eA) (k:Nat) (f:Addr) (sp:Sp):Prop:=∃fd ps,bp X.prog X.w X.K X.mg X.base CX k f fd ps sp/\keepIn X.K (.ref f)=true/\Binds X.K fd ps []
def Ow (X:Cx) (CX:eA) (k:Nat) (E:XK) (tf:TE) (t:TA):TE:=λU H Q=>tf U H λv H0=>∃f sp,v=.ref f/\Ov X CX k f sp/\t U H0 λvs H1=>sp vs H1 Q E
def Ox {X:Cx}{CX:eA}{k:Nat}{E:XK}{x:Str}{p pos:Pos}{e:Expr}{es:List Expr}{tf:TE}{t:TA}(hf:PE X (.Name x p) tf) (hr:aV k X.A) (hx:Passes CX X E) (ha:PA X (e::es) t)
  (he:starEach (e::es) X.env=(false,eval e X.env)::starEach es X.env:=by rfl) (br:(backTo pos (starEach es X.env)).any (·.1)=false:=by rfl):PE X (.Call (.Name x p) (e::es) [] pos) (Ow X CX k E tf t):=by
 intro pins s U H Q I h
 refine wpAny_Call_Name_kw (aS (hf pins s U H _ I h) λu s1 gg=>?_)
 obtain ⟨v,H0,I0,rv,f,sp,ev,⟨fd,ps,F,hk,hb⟩,q⟩:=gg
 subst ev
 obtain rfl:u=Value.ref f:=rv
 refine PySem.W.callWith_K (h₀:=X.base) I.ok.mod.kin hk (aS (ha pos pins s1 U H0 _ I0 q) λus s2 ⟨vs,H1,I1,r,q1⟩=>⟨I1.kIn,?_⟩) he br
 exact tq F hr hb .nil hx I1 r (by rw [List.append_nil];exact q1)
def qx (C:Addr) (Er:XK):TS:=λ_ _ H=>Er (.ref C) none H
end L2
namespace L2
open PySem PySem.Spec PyProof.Rows PySem.W
def xM (X:Cx) (pins:Ac) (H:Hp) (h:Heap) (a C:Addr) (d:Option Addr):Prop :=
 ∃T,XO h a (.ref C) d (.ref T)/\T≠a/\TB h T (rawInt X.env.locals)/\a7 X pins H a/\a7 X pins H T
def xN (X:Cx) (pins:Ac) (H:Hp) (h:Heap) (a C:Addr) (d:Option Addr):Prop:=tJ X pins H h a C d\/xM X pins H h a C d
def wv (X:Cx) (E:XK):Prop:=∀(pins:Ac) (U:St) (H:Hp) (s:Shared) (a C:Addr) (d:Option Addr),Inv X pins U H s->xN X pins H s.heap a C d->E (.ref C) d H->X.xe (.ref a) s
def wv.one {X:Cx}{E:XK}(t:wv X E):Throws X E:=λpins U H s a C d I F q=>t pins U H s a C d I (.inl F) q
def XA (X:Cx) (Er:XK) (e:Value) (s:Shared):Prop:=∃(pins:Ac) (U:St) (H:Hp) (a C:Addr) (d:Option Addr),e=.ref a/\Inv X pins U H s/\xN X pins H s.heap a C d/\Er (.ref C) d H
section
variable {X:Cx} {pins:Ac} {U:St} {H:Hp} {s:Shared} {a C:Addr} {d:Option Addr} {A:Around} {E:Aa} {Q:Unit->Shared->Prop} {Er:XK}
def zO:wv (X.wish (XA X Er)) Er:=λpins U H s a C d I F q=>⟨pins,U,H,a,C,d,rfl,I.unwish,F,q⟩
def Ek (I:Inv X pins U H s) (dk:A.frames=some X.stack) (bD:X.stack=X.env::X.outer) (hf:X.env.frame=some X.env.locals) (F:xN X pins H s.heap a C d)
  (h:∀s' T,Inv X pins U H s'->XO s'.heap a (.ref C) d (.ref T)->T≠a->TB s'.heap T (rawInt X.env.locals)->a7 X pins H a->a7 X pins H T->Q () s'):wpAny (model X.prog X.w) A (noteFrame (.ref a) X.env) Q E s:=by
 rcases F with F|⟨T,x,ne,tb,oa,oT⟩
 ·exact xF I dk bD hf F h
 ·obtain ⟨oe,vs,e,_,_,hd,_,h1⟩:=id x
  obtain ⟨ot,ts,et,xK,h3⟩:=id tb
  unfold noteFrame
  simp only [hf]
  refine zu (jy e hd h1 ?_)
  rw [zw (show (Value.ref T != Value.none)=true by simp)]
  refine zu (jy et xK h3 ?_)
  rw [zw (by simp)]
  exact ye (h s T I x ne tb oa oT)
def Oy {T f:Addr}{fl:Value}(x:XO s.heap a (.ref C) d (.ref T)) (t:TB s.heap T fl) (ne:T≠a)
  (h:∀h',XO h' a (.ref C) d (.ref T)->TB h' T (rawInt f)->(∀b o,b≠T->s.heap.get? b=some o->h'.get? b=some o)->Q () { s with heap:=h' }) {M:Model}:wpAny M A (setFlight (.ref a) (some f)) Q E s:=by
 obtain ⟨oe,vs,e,_,_,hd,_,h1⟩:=id x
 obtain ⟨oT,ts,eT,hdT,h3⟩:=id t
 unfold setFlight
 refine zu (jy e hd h1 ?_)
 rw [zw (show (Value.ref T != Value.none)=true by simp)]
 refine wpAny_setField eT hdT (Array.getElem?_eq_some_iff.mp h3).1 ?_
 exact h _ (x.keeps λo q=>(wL _ _ ne).trans q) (t.set3 _) λb o nb q=>(wL _ _ (yz nb)).trans q
def jK (bD:X.stack=X.env::X.outer) (hf:X.env.frame=some X.env.locals):PassesOwn (model X.prog X.w) X.A X.env (XA X Er):=by
 rintro e s ⟨pins,U,H,a,C,d,rfl,I,F,q⟩
 unfold notedBy
 refine Ek I I.ok.frames bD hf F λs2 T I2 x2 ne qy oa oT=>?_
 unfold cameBackBy
 obtain ⟨oe,vs,e2,_,_,hd,_,h1⟩:=id x2
 refine zu (jy e2 hd h1 ?_)
 rw [zI (show ¬((Value.ref T==Value.none)=true) by simp),hf]
 refine Oy x2 qy ne λh' x3 ni k3=>⟨pins,U,H,a,C,d,rfl,?_,.inr ⟨T,x3,ne,ni,oa,oT⟩,q⟩
 exact I2.turned (t':=s2.toks) (it:=T) (λb o nb e=>k3 b o nb e) oT.1 oT.2.2.1 (.inr oT.2.1) oT.2.2.2.1 oT.2.2.2.2
def cA.throwing {st:List Stmt}{t:TS}(h:cA (X.wish (XA X Er)) st t) (ht:wv X Er):cA X st t:=λpins s U H D I hw =>
 yY (h pins s U H D (I.wish _) hw) (λ_ _ q=>q.unwish) λe s' ⟨pins,U,H,a,C,d,ee,I1,F,q⟩=>ee▸ht pins U H s' a C d I1 F q
def nj (t:wv X Er):Passes (cv X.prog X.w) X Er:=N6 t.one
end
def Oz {P:Program}{w:World}{K:PySem.W.Frag}{mg:Ab}{base:Heap}{N:Ad}{qual:Str}{scope:Scope}{f:Addr}{cd:Value}{A:Around}{outer:List Env}{s:Shared}{H:Hp}{E:XK} :
  wv (dQ (cv P w) P w K mg base N qual scope f cd A outer s H E) E:=by
 intro pins U H1 s1 a C d I F q
 show wpAny (model P w) (A.deeper (envOfC qual scope s.heap.objs.size f cd)) (leaving (envOfC qual scope s.heap.objs.size f cd) (.ref a)) _ _ s1
 unfold leaving
 refine zu (Ek I I.ok.frames rfl rfl F λs2 T I2 x ne tb oa oT=>qu I2 x ne tb oa oT λs3 I3 x3 ni=>?_)
 exact ⟨a,C,T,d,H1,rfl,I3.os,I3.bare,I3.base,I3.hok,x3,ne,ni,⟨oa.2.1,oa.1⟩,⟨oT.2.1,oT.1⟩,q⟩
section
variable {P:Program} {w:World} {K:PySem.W.Frag} {mg:Ab} {base:Heap}
def eB.okT {x qual:Str}{st:Stmt}{f:Addr}{fd:FuncData}{N ps:Ad}{k:Nat}{sp:Sp}(F:eB K x qual st f fd) (S:aq N ps (zG st)) (len:∀vs H Q E,sp vs H Q E->vs.length=ps.length)
  (fG:∀(aU:Value) (A:Around) (outer:List Env) (s:Shared) (H:Hp) (vs:List V) (Q:VK) (E:XK),aV k (A.deeper (envOfC qual (zG st) s.heap.objs.size f aU))->sp vs H Q E ->
   ∃t,cA ((dQ (cv P w) P w K mg base N qual (zG st) f aU A outer s H E).wish (XA (dQ (cv P w) P w K mg base N qual (zG st) f aU A outer s H E) E)) (jF st) t/\t { nx:=λ_ H'=>Q .non H',rt:=Q } (start N vs) H):bp P w K mg base (cv P w) (k+1) f fd ps sp :=
 eB.okX F S len λaU A outer s H vs Q E hr hs=>let ⟨t,h1,h2⟩:=fG aU A outer s H vs Q E hr hs;⟨t,cA.throwing h1 Oz,h2⟩
end
end L2
namespace L2
open PySem PySem.Spec PyProof.Rows PySem.W PySem.Builtin PySem.Builtin.ObjectAttr
section
variable {prog:Program} {w:World} {A:Around} {E:Aa} {K:Frag} {x C:Addr} {s:Shared} {ox:Obj} {od:Option Obj} {name:Str} {tk:Tok}
structure gP (K:Frag) (C:Addr):Prop where
 ga:findIn K (.ref C) "__getattribute__" = some (some (.builtin "BaseException.__getattribute__"))
 hk:findIn K (.ref C) "__getattr__" = some none
 hB:mroIn K C (.type "BaseException")=some true
theorem Em {fill expr:Bool}{Q:Aa}(X:K.In s.heap) (I:InstAt s.heap x ox C od) (G:gP K C)
  (h:wpAny (model prog w) A.in1 (Builtin.«object.__getattribute__» ⟨[.ref x,.str name tk],[]⟩) (λfin s'=>∃v,fin=.done (.ret v)/\handedIn v=true/\Q v s') (λ_ _=>False) s) :
  wpAny (model prog w) A (getAttrBy (.ref x) (.str name tk) fill expr) Q E s:=by
 have L0:=I.type (M:=model prog w)
 have L1:=looks_findIn (M:=model prog w) X G.ga
 have L2:=looks_findIn (M:=model prog w) X G.hk
 have OA:Looks (model prog w) s.heap (isInstance (.ref x) (.type "BaseException")) true:=I.type.andThen (looks_mroIn X G.hB)
 unfold getAttrBy
 refine mD (zu (L0.here (zu (L1.here ?_))))
 dsimp only
 rw [zI (show ¬((onTheHeap (Value.ref C)&&Value.builtin "BaseException.__getattribute__" == Value.builtin "object.__getattribute__")=true) by
  rw [show (Value.builtin "BaseException.__getattribute__" == Value.builtin "object.__getattribute__")=false by decide +kernel,Bool.and_false];exact Bool.false_ne_true)]
 unfold getAttrByItsOwn hookBefore
 rw [zw (show onTheHeap (Value.ref C)=true from rfl)]
 refine zu (L2.here (zu (wpAny_attempt (mD ?_))))
 unfold callGetattribute
 rw [zI (show ¬((expr&&onTheHeap (Value.builtin "BaseException.__getattribute__"))=true) by cases expr<;>exact Bool.false_ne_true)]
 unfold boundAndCalled
 refine zu (wpAny_of_eq (PySem.F.excAttr_ValueError.ga.bind (.ref x)) ?_)
 refine wpAny_call (codeAny_call_builtin PySem.F.excAttr_ValueError.ga.plain PySem.F.entry_bexc_ga (@check_slot (model prog w) _ _ s "BaseException.__getattribute__" "BaseException" "__getattribute__" (.ref x) [.str name tk] [] _ (by decide +kernel) (by decide +kernel) OA (PySem.F.args_bexc_ga (.ref x) (.str name tk)) ?_))
 refine yY h (λfin s' ⟨v,ef,hv,q⟩=>?_) λ_ _ z=>z.elim
 subst ef
 show wpAny _ _ (handedOut v) _ _ _
 rw [handedOut_of hv]
 exact ye q
def OB {v:Value}{Q:Fin->Shared->Prop}(X:K.In s.heap) (I:InstAt s.heap x ox C od) (hf:findObj K C od name=some (.value v)) (h:Q (.done (.ret v)) s) :
  wpAny (model prog w) A (Builtin.«object.__getattribute__» ⟨[.ref x,.str name tk],[]⟩) Q E s:=by
 have L0:=I.type (M:=model prog w)
 have L1:=looks_find (M:=model prog w) X I hf
 exact zu (ye (zu (ye (zu (L0.here (zu (L1.here (ye h))))))))
def OC {Q:Fin->Shared->Prop} (X:K.In s.heap) (I:InstAt s.heap x ox C od) (hf:findObj K C od "__class__" = some (.bind (.builtin "getset_descriptor.__get__") (.builtin "object.__class__"))) (hm:mroIn K C (.type "object")=some true)
  (h:Q (.done (.ret (.ref C))) s):wpAny (model prog w) A (Builtin.«object.__getattribute__» ⟨[.ref x,.str "__class__" tk],[]⟩) Q E s:=by
 have L0:=I.type (M:=model prog w)
 have L1:=looks_find (M:=model prog w) X I hf
 refine zu (ye (zu (ye (zu (L0.here (zu (L1.here ?_)))))))
 show wpAny _ _ (holding [.builtin "object.__class__"] (call (.builtin "getset_descriptor.__get__") [.builtin "object.__class__", .ref x,.ref C]) >>= ret) _ _ _
 exact zu (mD (wpAny_call (class_get (ox:=ox) (od:=od) X I hm (ye h))))
end
def OD {K:Frag} {x D:Addr} {ox:Obj} {od:Option Obj} (G:gP K D) (hcl:(clsIn K D).isSome=true) (hf:findObj K D od "__class__" = some (.bind (.builtin "getset_descriptor.__get__") (.builtin "object.__class__"))) (hm:mroIn K D (.type "object")=some true) :
  KitX K (.ref x) (.ref D) (λh=>InstAt h x ox D od):=by
 obtain ⟨cd,hc⟩:=Option.isSome_iff_exists.mp hcl
 unfold clsIn at hc
 split at hc
 ·rename_i c' d' Zd sH ho
  refine ⟨λ_ _ _ I=>I.type,λM h X _=>?_,λh tp dd its n sl X OE=>?_,λ{prog w A E Q s} X I k=>?_⟩
  ·intro A' Q' E' s' k q
   unfold isType loadHead
   exact zu (wpAny_loadPart (k _ _ (X _ _ ho)) (ye q))
  ·refine Bool.eq_false_iff.mpr λq=>?_
   obtain rfl:D=tp:=Value.ref.inj (beq_iff_eq.mp q)
   have z:=(X _ _ ho).symm.trans OE
   cases z
  ·unfold getAttr? getAttrBy?
   refine zu (wpAny_mkText (zu (wpAny_attempt ?_)))
   exact Em (s:={ s with toks:=s.toks+1 }) X I G (OC (s:={ s with toks:=s.toks+1 }) X I hf hm ⟨_,rfl,rfl,ye k⟩)
 ·cases hc
structure oj (K:Frag) (C:Addr):Prop where
 g:gP K C
 hd:hasDictIn K C=true
 ha:findIn K (.ref C) "__class__" = some (some (.builtin "object.__class__"))
 hn:specialIn K (.builtin "object.__class__") "__get__" = some (some (.builtin "getset_descriptor.__get__"))
 tk:takesIn K (.builtin "object.__class__")=some true
 hm:mroIn K C (.type "object")=some true
section
variable {X:Cx} {pins:Ac} {U:St} {H:Hp} {s:Shared} {a C d:Addr} {fs:List (Str×V)} {A:Around} {E:Aa}
def OG {b:Bool}{f:Str}{v:V}{Q:Aa}(I:Inv X pins U H s) (ha:H a=some (gg C (some d) a)) (hd:H d=some (.xd fs)) (g:gP X.K C) (hh:hasDictIn X.K C=true) (no:findIn X.K (.ref C) f=some none) (l:fs.lookup f=some v)
  (h:∀u s',Inv X pins U H s'->RelV v u->Q u s'):wpAny (model X.prog X.w) A (getAttr (.ref a) f b) Q E s:=by
 obtain ⟨ox,od,J,hl⟩:=Ej I ha hd
 obtain ⟨o,ho,r⟩:=hl f
 rw [l] at r
 obtain ⟨u,rfl,ru⟩:=cK.some_of (v:=v) (o:=o) r
 unfold getAttr
 refine zu (wpAny_mkText ?_)
 exact Em (s:={ s with toks:=s.toks+1 }) I.kIn J g (OB (s:={ s with toks:=s.toks+1 }) I.kIn J (findObj_own hh no rfl ho) ⟨u,rfl,C8 ru,h u _ (I.tok _) ru⟩)
def OH {c:Value}{b:Bool}{Q:Aa}(I:Inv X pins U H s) (ha:H a=some (gg C (some d) a)) (hd:H d=some (.xd fs)) (k:oj X.K C) (e:kitOne X.K (.ref C) c=some b) (h:∀tk,Q (.bool b) { s with toks:=tk }) :
  wpAny (model X.prog X.w) A (call (.builtin "isinstance") [.ref a,c]) Q E s:=by
 obtain ⟨ox,od,J,_⟩:=Ej I ha hd
 have cl:(clsIn X.K C).isSome=true:=by obtain ⟨cd,hc,_⟩:=any_some k.hd;rw [hc];rfl
 exact kia_one (OD k.g cl (findObj_data cl k.ha k.hn k.tk) k.hm) I.kIn J e (λz=>nomatch z) h
end
end L2
namespace L2
open PySem PySem.Spec PyProof.Rows PySem.W
structure nk (prog:Program) (w:World) (it src:Addr) (xs:Array Value) (St:Nat->Heap->Prop):Prop where
 at_:∀{k h h'},St k h->(∀o,h.get? it=some o->h'.get? it=some o)->(∀o,h.get? src=some o->h'.get? src=some o)->St k h'
 lt:∀{k h},St k h->it<h.objs.size
 item:∀{A:Around} {E:Aa} {s:Shared} {k:Nat} {x:Value} {Q:Aa},St k s.heap->xs[k]?=some x->(∀h',St (k+1) h'->Heap.SameBut it s.heap h'->Q x { s with heap:=h' }) ->
  wpAny (model prog w) A (Builtin.SmallTypes.nextOf (.ref it)) Q E s
 stop:∀{A:Around} {E:Aa} {s:Shared} {k:Nat} {Q:Aa},A.handled=none->St k s.heap->xs[k]?=none ->
  (∀h' e,Heap.ExtBut it s.heap h'->(∃o,h'.get? e=some o/\o.cls=.type "StopIteration")->E (.ref e) { s with heap:=h' })->wpAny (model prog w) A (Builtin.SmallTypes.nextOf (.ref it)) Q E s
def qz (it t:Addr) (xs:Array Value) (k:Nat) (h:Heap):Prop:=IsTupIter h it t k/\IsTup h t xs
def i6 {prog:Program}{w:World}{it t:Addr}{xs:Array Value}(ne:t≠it):nk prog w it t xs (qz it t xs) where
 at_:=λ{k h h'} q k1 k2=>by
  obtain ⟨⟨o,ho,r⟩,⟨o',ho',r'⟩⟩:=q
  exact ⟨⟨o,k1 o ho,r⟩,⟨o',k2 o' ho',r'⟩⟩
 lt:=λq=>let ⟨⟨_,ho,_⟩,_⟩:=q;yt ho
 item:=λ{A E s k x Q} q hx hQ=>by
  obtain ⟨hit,ht⟩:=q
  obtain ⟨o,ho,hc,hd⟩:=id hit
  obtain ⟨ol,xO,_,nl,xP⟩:=id ht
  unfold Builtin.SmallTypes.nextOf
  refine zu (wpAny_callSpecial?_slot (name:=Str.ofString "__next__") hit.typeIs slot_tupleiter_next (oz slot_tupleiter_next hit.typeIs entry_tupleiter_next ?_ (args_tupleiter_next _)))
  change wpAny _ _ (field (.ref it) 0 >>= _) _ _ s
  refine zu (jy ho hd (x:=.ref t) rfl ?_)
  rw [zI (by simp)]
  change wpAny _ _ (field (.ref it) 1 >>= _) _ _ s
  refine zu (jy ho hd (x:=.int k 0) rfl ?_)
  change wpAny _ _ (seqItems? (.ref t) >>= _) _ _ s
  refine zu (wpAny_seqItems xO xP ?_)
  simp only [hx,Int.toNat_natCast]
  have fl:=Obj.data_mapFields hd (·.setIfInBounds 1 (rawInt (k+1)))
  refine zu (wpAny_setField ho hd (by simp) (ye ⟨x,rfl,ye (hQ _ ⟨⟨_,Heap.get?_update_self _ ho (Obj.isFreed_of_fields fl),(Obj.cls_mapFields ..).trans hc,?_⟩,?_⟩ (Heap.SameBut.update ..))⟩))
  ·rw [fl];simp [rawInt]
  ·exact ht.extBut (Heap.SameBut.update ..).extBut ne
 stop:=λ{A E s k Q} hh q hx hE=>by
  obtain ⟨hit,ht⟩:=q
  obtain ⟨o,ho,hc,hd⟩:=id hit
  obtain ⟨ol,xO,_,nl,xP⟩:=id ht
  unfold Builtin.SmallTypes.nextOf
  refine zu (wpAny_callSpecial?_slot (name:=Str.ofString "__next__") hit.typeIs slot_tupleiter_next (oz slot_tupleiter_next hit.typeIs entry_tupleiter_next ?_ (args_tupleiter_next _)))
  change wpAny _ _ (field (.ref it) 0 >>= _) _ _ s
  refine zu (jy ho hd (x:=.ref t) rfl ?_)
  rw [zI (by simp)]
  change wpAny _ _ (field (.ref it) 1 >>= _) _ _ s
  refine zu (jy ho hd (x:=.int k 0) rfl ?_)
  change wpAny _ _ (seqItems? (.ref t) >>= _) _ _ s
  refine zu (wpAny_seqItems xO xP ?_)
  simp only [hx,Int.toNat_natCast]
  refine zu (wpAny_rule (zu (wpAny_setField ho hd (by simp) ?_)))
  change wpAny _ _ (newExc (.type "StopIteration") [] >>= _) _ _ _
  refine zu ?_
  simp only [newExc,newTuple]
  refine zu (iN (zu (m:=firstArgMember _ _) (wpAny_of_eq (a:=Value.none) (by first|rfl|(simp only [firstArgMember];rfl)) (iN ?_ (by size_fits)))) (by size_fits))
  simp only [raiseNew]
  refine zu (wpAny_handled ?_)
  first|rw [show A.in1.handled=none from hh]|rw [hh]
  exact zu (ye (wpAny_throw (hE _ _ (((Heap.SameBut.update ..).extBut.push _).push _) ⟨_,y4 _ rfl,rfl⟩)))
section
variable {prog:Program} {w:World} {A:Around} {E:Aa} {s:Shared} {z TI TO i1 i2 t1 t2:Addr} {k:Nat} {xs ys:Array Value} {x y a b:Value} {S1 S2:Nat->Heap->Prop}
def nk.by_same (S:nk prog w i1 t1 xs S1) {h h':Heap}{c:Addr}(q:S1 k h) (hs:Heap.SameBut c h h') (n1:i1≠c) (n2:t1≠c):S1 k h' :=
 S.at_ q (λo e=>hs.extBut _ _ n1 e) λo e=>hs.extBut _ _ n2 e
theorem OI {Q:Aa}(D:ZipApart z TI TO i1 i2 t1 t2) (U1:nk prog w i1 t1 xs S1) (U2:nk prog w i2 t2 ys S2) (hz:IsZip s.heap z TI TO .none) (gh:IsPair s.heap TI (.ref i1) (.ref i2)) (fw:IsPair s.heap TO a b)
  (q1:S1 k s.heap) (q2:S2 k s.heap) (hx:xs[k]?=some x) (hy:ys[k]?=some y)
  (hQ:∀h',IsZip h' z TI TO (rawInt s.heap.objs.size)->IsPair h' TO x y->S1 (k+1) h'->S2 (k+1) h'->IsPair h' s.heap.objs.size x y ->
   (∀c o,c≠z->c≠TO->c≠i1->c≠i2->s.heap.get? c=some o->h'.get? c=some o)->Q (.ref s.heap.objs.size) { s with heap:=h' }) :
  wpAny (model prog w) A (Builtin.«zip.__next__» ⟨[.ref z],[]⟩) (λfin s'=>∃v,fin=.done (.ret v)/\Q v s') E s:=by
 change wpAny _ _ (field (.ref z) 2 >>= _) _ _ _
 refine zu (jy hz rfl (x:=.bool false) rfl ?_)
 change wpAny _ _ (field (.ref z) 3 >>= _) _ _ _
 refine zu (jy hz rfl (x:=.ref TI) rfl (zu (wpAny_seqItems gh rfl ?_)))
 change wpAny _ _ (Builtin.SmallTypes.ownedTupleIsFree (.ref z) >>= _) _ _ _
 refine zu ?_
 unfold Builtin.SmallTypes.ownedTupleIsFree
 refine zu (jy hz rfl (x:=.none) rfl (ye ?_))
 rw [zw rfl]
 refine zu (wpAny_rule (zu (jy hz rfl (x:=.ref TO) rfl (zu (wpAny_setField_rec hz (by simp) λh1 z1 e1=>?_)))))
 replace z1:IsZip h1 z TI TO .ellipsis:=z1
 refine zu ?_
 simp only [List.zipIdx_cons,List.zipIdx_nil,List.forIn_cons,List.forIn_nil]
 refine zu (zu (wpAny_onRaise ?_))
 change wpAny _ _ (Builtin.SmallTypes.nextOf (.ref i1) >>= _) _ _ _
 refine zu (U1.item (U1.by_same q1 e1 D.i1z D.l1z) hx λh2 p2 e2=>ye ?_)
 have o2:IsPair h2 TO a b:=e2.extBut _ _ D.TOi1 (e1.extBut _ _ D.TOz fw)
 refine zu (wpAny_seqItems o2 rfl (zu (wpAny_updateSeq_pair o2 λh3 o3 e3=>?_)))
 replace o3:IsPair h3 TO x b:=o3
 refine zu (wpAny_letGo (ye (zu (zu (wpAny_onRaise ?_)))))
 change wpAny _ _ (Builtin.SmallTypes.nextOf (.ref i2) >>= _) _ _ _
 have r3:S2 k h3:=U2.by_same (U2.by_same (U2.by_same q2 e1 D.i2z D.l2z) e2 D.i12.symm D.l2i1) e3 D.TOi2.symm D.l2TO
 refine zu (U2.item r3 hy λh4 p4 e4=>ye ?_)
 have o4:IsPair h4 TO x b:=e4.extBut _ _ D.TOi2 o3
 refine zu (wpAny_seqItems o4 rfl (zu (wpAny_updateSeq_pair o4 λh5 o5 e5=>?_)))
 replace o5:IsPair h5 TO x y:=o5
 refine zu (wpAny_letGo (ye (ye (zu (wpAny_seqItems o5 rfl (zu (wpAny_newTuple ?_)))))))
 have sz:h5.objs.size=s.heap.objs.size:=by rw [e5.1,e4.1,e3.1,e2.1,e1.1]
 have z5:IsZip h5 z TI TO .ellipsis:=e5.extBut _ _ D.TOz.symm (e4.extBut _ _ D.i2z.symm (e3.extBut _ _ D.TOz.symm (e2.extBut _ _ D.i1z.symm z1)))
 have k5:∀c o,c≠z->c≠TO->c≠i1->c≠i2->s.heap.get? c=some o->h5.get? c=some o:=λc o c1 c2 c3 c4 e=>e5.extBut _ _ c2 (e4.extBut _ _ c4 (e3.extBut _ _ c2 (e2.extBut _ _ c3 (e1.extBut _ _ c1 e))))
 have f1:S1 (k+1) h5:=U1.by_same (U1.by_same (U1.by_same p2 e3 D.TOi1.symm D.l1TO) e4 D.i12 D.l1i2) e5 D.TOi1.symm D.l1TO
 have f2:S2 (k+1) h5:=U2.by_same p4 e5 D.TOi2.symm D.l2TO
 change wpAny _ _ (Builtin.SmallTypes.ownedTupleHandOut (.ref z) (.ref h5.objs.size) >>= _) _ _ _
 refine zu ?_
 unfold Builtin.SmallTypes.ownedTupleHandOut
 have z6:IsZip (h5.push { cls:=.type "tuple", data:=.seq #[x,y] }) z TI TO .ellipsis:=yp _ z5
 refine zu (wpAny_setField_rec z6 (by simp) λh7 z7 e7=>?_)
 replace z7:IsZip h7 z TI TO (rawInt h5.objs.size):=z7
 refine wpAny_setField_rec z7 (by simp) λh8 z8 e8=>?_
 replace z8:IsZip h8 z TI TO (rawInt h5.objs.size):=z8
 have up:∀c o,c≠z->h5.get? c=some o->h8.get? c=some o:=λc o c1 e=>e8.extBut _ _ c1 (e7.extBut _ _ c1 (yp _ e))
 have nz:h5.objs.size≠z:=Nat.ne_of_gt (yt z5)
 have pT:IsPair h8 h5.objs.size x y:=e8.extBut _ _ nz (e7.extBut _ _ nz (y4 _ rfl))
 rw [sz] at z8 pT
 refine ye ⟨_,rfl,?_⟩
 change Q (.ref h5.objs.size) _
 rw [sz]
 exact hQ h8 z8 (up _ _ D.TOz o5) (U1.at_ f1 (λo e=>up _ o D.i1z e) λo e=>up _ o D.l1z e) (U2.at_ f2 (λo e=>up _ o D.i2z e) λo e=>up _ o D.l2z e) pT λc o c1 c2 c3 c4 e=>up c o c1 (k5 c o c1 c2 c3 c4 e)
def OJ {Q:Fin->Shared->Prop}(hh:A.handled=none) (D:ZipApart z TI TO i1 i2 t1 t2) (U1:nk prog w i1 t1 xs S1) (U2:nk prog w i2 t2 ys S2) (hz:IsZip s.heap z TI TO .none) (gh:IsPair s.heap TI (.ref i1) (.ref i2)) (fw:IsPair s.heap TO a b)
  (q1:S1 k s.heap) (q2:S2 k s.heap) (he:xs[k]?=none\/ys[k]?=none)
  (hE:∀h' e,(∀c o,c≠z->c≠TO->c≠i1->c≠i2->s.heap.get? c=some o->h'.get? c=some o)->(∃o,h'.get? e=some o/\o.cls=.type "StopIteration")->E (.ref e) { s with heap:=h' }) :
  wpAny (model prog w) A (Builtin.«zip.__next__» ⟨[.ref z],[]⟩) Q E s:=by
 change wpAny _ _ (field (.ref z) 2 >>= _) _ _ _
 refine zu (jy hz rfl (x:=.bool false) rfl ?_)
 change wpAny _ _ (field (.ref z) 3 >>= _) _ _ _
 refine zu (jy hz rfl (x:=.ref TI) rfl (zu (wpAny_seqItems gh rfl ?_)))
 change wpAny _ _ (Builtin.SmallTypes.ownedTupleIsFree (.ref z) >>= _) _ _ _
 refine zu ?_
 unfold Builtin.SmallTypes.ownedTupleIsFree
 refine zu (jy hz rfl (x:=.none) rfl (ye ?_))
 rw [zw rfl]
 refine zu (wpAny_rule (zu (jy hz rfl (x:=.ref TO) rfl (zu (wpAny_setField_rec hz (by simp) λh1 z1 e1=>?_)))))
 replace z1:IsZip h1 z TI TO .ellipsis:=z1
 refine zu ?_
 simp only [List.zipIdx_cons,List.zipIdx_nil,List.forIn_cons,List.forIn_nil]
 refine zu (zu (wpAny_onRaise ?_))
 change wpAny _ _ (Builtin.SmallTypes.nextOf (.ref i1) >>= _) _ _ _
 have p1:=U1.by_same q1 e1 D.i1z D.l1z
 have En:∀{h:Heap} {e:Addr} {oe:Obj},IsZip h z TI TO .ellipsis->h.get? e=some oe->oe.cls=.type "StopIteration" -> e≠z:=λiz ho hc x=>by
  rw [x,iz] at ho
  cases ho
  simp at hc
 cases hx:xs[k]? with
 |none =>
  refine zu (U1.stop hh p1 hx λh2 e e2 ⟨oe,qA,qB⟩=>?_)
  have z2:IsZip h2 z TI TO .ellipsis:=e2 _ _ D.i1z.symm z1
  exact wpAny_setField_rec z2 (by simp) λh3 _ e3=>hE h3 e (λc o c1 _ c3 _ x=>e3.extBut _ _ c1 (e2 _ _ c3 (e1.extBut _ _ c1 x))) ⟨oe,e3.extBut _ _ (En z2 qA qB) qA,qB⟩
 |some x =>
  have hy:ys[k]?=none:=by
   rcases he with h|h
   ·rw [hx] at h;cases h
   ·exact h
  refine zu (U1.item p1 hx λh2 p2 e2=>ye ?_)
  have o2:IsPair h2 TO a b:=e2.extBut _ _ D.TOi1 (e1.extBut _ _ D.TOz fw)
  refine zu (wpAny_seqItems o2 rfl (zu (wpAny_updateSeq_pair o2 λh3 o3 e3=>?_)))
  refine zu (wpAny_letGo (ye (zu (zu (wpAny_onRaise ?_)))))
  change wpAny _ _ (Builtin.SmallTypes.nextOf (.ref i2) >>= _) _ _ _
  have r3:S2 k h3:=U2.by_same (U2.by_same (U2.by_same q2 e1 D.i2z D.l2z) e2 D.i12.symm D.l2i1) e3 D.TOi2.symm D.l2TO
  refine zu (U2.stop hh r3 hy λh4 e e4 ⟨oe,qA,qB⟩=>?_)
  have z4:IsZip h4 z TI TO .ellipsis:=e4 _ _ D.i2z.symm (e3.extBut _ _ D.TOz.symm (e2.extBut _ _ D.i1z.symm z1))
  exact wpAny_setField_rec z4 (by simp) λh5 _ e5=>hE h5 e (λc o c1 c2 c3 c4 x=>e5.extBut _ _ c1 (e4 _ _ c4 (e3.extBut _ _ c2 (e2.extBut _ _ c3 (e1.extBut _ _ c1 x))))) ⟨oe,e5.extBut _ _ (En z4 qA qB) qA,qB⟩
end
section
variable {X:Cx} {pins:Ac} {U:St} {H:Hp} {s:Shared} {h':Heap}
def Inv.turnL {ch:Ae}{t':Nat}(I:Inv X pins U H s) (hc:∀b∈ch,du X pins H b) (k:∀b o,b∉ch->s.heap.get? b=some o->h'.get? b=some o):Inv X pins U H { s with heap:=h',toks:=t' }:=by
 have gF:∀b u,H b=some u->b∉ch:=λb u e z=>by rw [(hc b z).1] at e;cases e
 refine I.step (g':=s.gens) (d':=s.drawn) (ch:=ch) (λb hb=>?_) (λb o _ _ nb e _=>k b o nb e) (λb o _ _ nb e _=>⟨o.slots,k b o nb e⟩) (λ_ _ _ _ n=>n)
  (λb o nb e=>⟨o,k b o nb e⟩) (λ_ _ e=>e) (λ_ _ _ e=>e) (λb ps e=>⟨#[],by rw [e];simp⟩) (λm hm=>?_) (λb u e=>?_) I.bare
 ·obtain ⟨_,f1,_,f3,f4,f5⟩:=hc b hb
  exact ⟨f3,f1,f4,f5⟩
 ·obtain ⟨o,es,ep,ho,r⟩:=hm
  exact ⟨o,es,ep,k _ o (λz=>(hc _ z).2.1 rfl) ho,r⟩
 ·refine (I.hok b u e).stay (λc v dg q=>k c v ?_ q) (λ_ q=>q) λ_ _ q=>q
  rcases dg with z|z
  ·rw [z];exact gF b u e
  ·exact gF c _ z
def Inv.turnN {ch:Ae}{T:Addr}{o:HO}{t':Nat}(I:Inv X pins U H s) (hc:∀b∈ch,du X pins H b) (k:∀b o,b∉ch->s.heap.get? b=some o->h'.get? b=some o) (hT:s.heap.objs.size<=T)
  (new:aW X.prog X.w (upd H T o) h' T o):Inv X pins U (upd H T o) { s with heap:=h',toks:=t' }:=by
 have fT:H T=none:=I.hok.fresh hT
 have gF:∀b u,H b=some u->b∉ch:=λb u e z=>by rw [(hc b z).1] at e;cases e
 have nT:∀b u,H b=some u->b≠T:=λb u e z=>by rw [z,fT] at e;cases e
 refine I.step (g':=s.gens) (d':=s.drawn) (ch:=ch) (λb hb=>?_) (λb o _ _ nb e _=>k b o nb e) (λb o _ _ nb e _=>⟨o.slots,k b o nb e⟩) (λb u _ e n=>?_)
  (λb o nb e=>⟨o,k b o nb e⟩) (λb xs e=>?_) (λb u v e=>?_) (λb ps e=>⟨#[],?_⟩) (λm hm=>?_) (λb u e=>?_) I.bare
 ·obtain ⟨_,f1,_,f3,f4,f5⟩:=hc b hb
  exact ⟨f3,f1,f4,f5⟩
 ·rw [yi (yO (jE (yt e) hT))];exact n
 ·rw [yi (nT b _ e)];exact e
 ·rw [yi (nT b _ e)];exact e
 ·rw [yi (nT b _ e),e];simp
 ·obtain ⟨o,es,ep,ho,r⟩:=hm
  exact ⟨o,es,ep,k _ o (λz=>(hc _ z).2.1 rfl) ho,r⟩
 ·by_cases z:b=T
  ·rw [z] at e ⊢
   rw [yN] at e
   cases e
   exact new
  ·rw [yi z] at e
   refine (I.hok b u e).stay (λc v dg q=>k c v ?_ q) (λc q=>by rw [yi (nT c _ q)];exact q) λc xs q=>by rw [yi (nT c _ q)];exact q
   rcases dg with z|z
   ·rw [z];exact gF b u e
   ·exact gF c _ z
end
def xQ (K:Frag) (a b:Addr):It :=
 ⟨λi H=>∃xs ys x y,ba K H a xs/\ba K H b ys/\xs[i]?=some x/\ys[i]?=some y,
  λi H v H'=>∃T x y,H T=none/\v=.ref T/\H'=upd H T (.tup [x,y])/\(∀xs,ba K H a xs->xs[i]?=some x)/\∀ys,ba K H b ys->ys[i]?=some y,
  λi H=>∃xs ys,ba K H a xs/\ba K H b ys/\(xs.length<=i\/ys.length<=i)⟩
def Eo (z TI TO i1 i2 a b:Addr) (k:Nat) (h:Heap):Prop:=IsZip h z TI TO .none/\IsPair h TI (.ref i1) (.ref i2)/\(∃u v,IsPair h TO u v)/\IsTupIter h i1 a k/\IsTupIter h i2 b k
def oP {X:Cx}{pins:Ac}{U:St}{H:Hp}{s:Shared}{a c:Addr}{xs:List V}(I:Inv X pins U H s) (hf:du X pins H c) (hq:ba X.K H a xs):a≠c:=by
 rintro rfl
 rcases hq with q|⟨o,its,n,hl,_⟩
 ·rcases q with q|⟨ob,q⟩<;>(rw [hf.1] at q;cases q)
 ·have e:=I.ok.mod.kin _ _ hl
  rcases hf.2.2.2.1 with z|z
  ·exact I.ok.noex _ _ e z
  ·exact absurd (jE (yt (I.ok.bs _ _ e).1) z) (Nat.lt_irrefl _)
structure Ep (z TI TO i1 i2:Addr):Prop where
 TIz:TI≠z
 TOz:TO≠z
 i1z:i1≠z
 i2z:i2≠z
 TITO:TI≠TO
 TIi1:TI≠i1
 TIi2:TI≠i2
 TOi1:TO≠i1
 TOi2:TO≠i2
 i12:i1≠i2
theorem OK {P:Program}{w:World}{K:Frag}{elts:List Expr}{kt:Nat}{pos:Pos}{z TI TO i1 i2 a b:Addr}(V5:Ep z TI TO i1 i2):Turn P w K (.Tuple elts kt pos) (xQ K a b) [z,TI,TO,i1,i2] z (Eo z TI TO i1 i2 a b) where
 mem:=by simp
 obj:=λi h st c hc=>by
  obtain ⟨hz,gh,⟨u,v,fw⟩,⟨o1,e1,_,d1⟩,⟨o2,e2,_,d2⟩⟩:=st
  simp only [yE,List.not_mem_nil,iP] at hc
  rcases hc with q|q|q|q|q<;>rw [q]
  ·exact ⟨_,hz,λv z=>by cases z⟩
  ·exact ⟨_,gh,λv z=>by cases z⟩
  ·exact ⟨_,fw,λv z=>by cases z⟩
  ·exact ⟨_,e1,λv z=>by rw [d1] at z;cases z⟩
  ·exact ⟨_,e2,λv z=>by rw [d2] at z;cases z⟩
 keep:=λi h h' st k=>by
  obtain ⟨hz,gh,⟨u,v,fw⟩,⟨o1,e1,r1⟩,⟨o2,e2,r2⟩⟩:=st
  exact ⟨k z (by simp) _ hz,k TI (by simp) _ gh,⟨u,v,k TO (by simp) _ fw⟩,⟨o1,k i1 (by simp) _ e1,r1⟩,⟨o2,k i2 (by simp) _ e2,r2⟩⟩
 item:=by
  intro X hP hw hK hc i pins s U H E I hf st hg
  subst hP hw hK
  obtain ⟨xs,ys,x,y,lC,i7,hx,hy⟩:=hg
  obtain ⟨hz,gh,⟨u0,v0,fw⟩,oQ,tL⟩:=st
  obtain ⟨vy,xR,p1,_⟩:=I.tuple lC
  obtain ⟨cM,xS,p2,_⟩:=I.tuple i7
  obtain ⟨u,hu,ru⟩:=xR.get hx
  obtain ⟨v,hv,rv⟩:=xS.get hy
  have n1:∀c∈[z,TI,TO,i1,i2],a≠c:=λc h=>oP I (hf c h) lC
  have n2:∀c∈[z,TI,TO,i1,i2],b≠c:=λc h=>oP I (hf c h) i7
  have D:ZipApart z TI TO i1 i2 a b:=⟨V5.TIz,V5.TOz,V5.i1z,V5.i2z,V5.TITO,V5.TIi1,V5.TIi2,V5.TOi1,V5.TOi2,V5.i12,n1 z (by simp),n1 TO (by simp),n1 i1 (by simp),n1 i2 (by simp),n2 z (by simp),n2 TO (by simp),n2 i1 (by simp),n2 i2 (by simp)⟩
  have hT:s.TypeIs (.ref z) "zip" := ⟨_,hz,rfl⟩
  unfold pyNext
  refine zu (wpAny_attempt (wpAny_callSpecial?_slot (name:=Str.ofString "__next__") hT F.slot_zip_next (oz F.slot_zip_next hT F.entry_zip_next
   (OI D (i6 D.l1i1) (i6 D.l2i2) hz gh fw ⟨oQ,p1⟩ ⟨tL,p2⟩ (by simpa using hu) (by simpa using hv) λh1 z1 o1 f1 f2 pT kk=>ye ⟨_,rfl,?_⟩) (F.args_zip_next_1 _))))
  refine wpAny_letOwnedTupleGo_zip (s:={ s with heap:=h1 }) z1 λh2 z2 e2=>?_
  have fr:H s.heap.objs.size=none:=I.hok.fresh (yo _)
  have up:∀c o,c≠z->h1.get? c=some o->h2.get? c=some o:=λc o n e=>e2.extBut _ _ n e
  have nz:s.heap.objs.size≠z:=Nat.ne_of_gt (yt hz)
  have k2:∀c o,c∉[z,TI,TO,i1,i2]->s.heap.get? c=some o->h2.get? c=some o:=λc o nc e =>
   up c o (λq=>nc (by simp [q])) (kk c o (λq=>nc (by simp [q])) (λq=>nc (by simp [q])) (λq=>nc (by simp [q])) (λq=>nc (by simp [q])) e)
  refine ⟨.ref s.heap.objs.size,upd H s.heap.objs.size (.tup [x,y]),?_,rfl,⟨s.heap.objs.size,x,y,fr,rfl,rfl,λfy h'=>by rw [I.tuple_inj h' lC];exact hx,λgi h'=>by rw [I.tuple_inj h' i7];exact hy⟩,?_,λc dg=>?_⟩
  ·exact Inv.turnN (s:=s) (h':=h2) (t':=s.toks) I hf k2 (yo _) ⟨show 2<=sizeLine by decide,[u,v],.cons ru (.cons rv .nil),_,up _ _ nz pT,rfl,_,rfl⟩
  ·exact ⟨z2,up _ _ D.TIz (kk _ _ D.TIz D.TITO D.TIi1 D.TIi2 gh),⟨_,_,up _ _ D.TOz o1⟩,(let ⟨o,e,r⟩:=f1.1;⟨o,up _ _ D.i1z e,r⟩),(let ⟨o,e,r⟩:=f2.1;⟨o,up _ _ D.i2z e,r⟩)⟩
  ·have q:c≠s.heap.objs.size:=by
    have lt:∃o,s.heap.get? c=some o:=by
     simp only [yE,List.not_mem_nil,iP] at dg
     rcases dg with q|q|q|q|q<;>rw [q]
     ·exact ⟨_,hz⟩
     ·exact ⟨_,gh⟩
     ·exact ⟨_,fw⟩
     ·exact let ⟨o,e,_⟩:=oQ;⟨o,e⟩
     ·exact let ⟨o,e,_⟩:=tL;⟨o,e⟩
    obtain ⟨o,e⟩:=lt
    exact yO (yt e)
   rw [yi q]
   exact (hf c dg).1
 done:=by
  intro X hP hw hK hc i pins s U H E I hf st hg
  subst hP hw hK
  obtain ⟨xs,ys,lC,i7,hx⟩:=hg
  obtain ⟨hz,gh,⟨u0,v0,fw⟩,oQ,tL⟩:=st
  obtain ⟨vy,xR,p1,_⟩:=I.tuple lC
  obtain ⟨cM,xS,p2,_⟩:=I.tuple i7
  have l1:=xR.length
  have l2:=xS.length
  have n1:∀c∈[z,TI,TO,i1,i2],a≠c:=λc h=>oP I (hf c h) lC
  have n2:∀c∈[z,TI,TO,i1,i2],b≠c:=λc h=>oP I (hf c h) i7
  have D:ZipApart z TI TO i1 i2 a b:=⟨V5.TIz,V5.TOz,V5.i1z,V5.i2z,V5.TITO,V5.TIi1,V5.TIi2,V5.TOi1,V5.TOi2,V5.i12,n1 z (by simp),n1 TO (by simp),n1 i1 (by simp),n1 i2 (by simp),n2 z (by simp),n2 TO (by simp),n2 i1 (by simp),n2 i2 (by simp)⟩
  have hT:s.TypeIs (.ref z) "zip" := ⟨_,hz,rfl⟩
  unfold pyNext
  refine zu (wpAny_attempt (wpAny_callSpecial?_slot (name:=Str.ofString "__next__") hT F.slot_zip_next (oz F.slot_zip_next hT F.entry_zip_next
   (OJ (I.ok.hd hc) D (i6 D.l1i1) (i6 D.l2i2) hz gh fw ⟨oQ,p1⟩ ⟨tL,p2⟩ (hx.imp (λh=>by simp;omega) λh=>by simp;omega) λh1 e kk he=>?_) (F.args_zip_next_1 _))))
  obtain ⟨o,ho,OL⟩:=he
  refine zu (wpAny_isInstance (T := "StopIteration") (b:=true) ⟨o,ho,OL⟩ isSubtype_stop ?_)
  exact ye ⟨rfl,Inv.turnL (t':=s.toks) I hf λc o nc e=>kk c o (λq=>nc (by simp [q])) (λq=>nc (by simp [q])) (λq=>nc (by simp [q])) (λq=>nc (by simp [q])) e⟩
 self:=λ_ _ _ _ _ st h=>wpAny_pyIter_zip st.1 h
abbrev tN (h:Heap) (a:Addr):Heap:=h.push { cls:=.type "tuple_iterator", data:=.fields #[.ref a,.int 0 0] }
abbrev tO (h:Heap) (a b:Addr):Heap:=(tN h a).push { cls:=.type "tuple_iterator", data:=.fields #[.ref b,.int 0 0] }
abbrev tP (h:Heap) (a b:Addr):Heap:=(tO h a b).push { cls:=.type "tuple", data:=.seq #[.ref h.objs.size,.ref (tN h a).objs.size] }
abbrev tQ (h:Heap) (a b:Addr):Heap:=(tP h a b).push { cls:=.type "tuple", data:=.seq #[.none,.none] }
abbrev i9 (h:Heap) (a b:Addr):Heap:=(tQ h a b).push { cls:=.type "zip", data:=.fields #[.none,.bool false,.bool false,.ref (tO h a b).objs.size,.ref (tP h a b).objs.size] }
def OM (a b:Addr) (xs ys:Array Value) :
  Meets (Builtin.«zip.__new__» ⟨[.type "zip", .ref a,.ref b],[]⟩) (λ_ R s=>IsTup s.heap a xs/\IsTup s.heap b ys/\R (.ok (.ret (.ref (tQ s.heap a b).objs.size))) { s with heap:=i9 s.heap a b }) :=
 .of_wp λprog w A R s h=>by
  obtain ⟨hp,g,d,tk,os⟩:=s
  obtain ⟨h1,h2,h⟩:=h
  have Es:=sub_zip
  have H1:IsTup (Shared.heap ⟨hp,g,d,tk,os⟩) a xs:=h1
  have H2:IsTup (Shared.heap ⟨hp.push { cls:=.type "tuple_iterator", data:=.fields #[.ref a,.int 0 0] },g,d,tk,os⟩) b ys:=h2.push _
  wp_walk using iter_tuple H1,iter_tuple H2
  exact ⟨_,rfl,h⟩
section
variable {prog:Program} {w:World} {A:Around} {E:Aa} {s:Shared}
def OO {a b:Addr}{xs ys:Array Value}{Q:Aa}(h1:IsTup s.heap a xs) (h2:IsTup s.heap b ys)
  (h:Eo (s.heap.objs.size+4) (s.heap.objs.size+2) (s.heap.objs.size+3) s.heap.objs.size (s.heap.objs.size+1) a b 0 (i9 s.heap a b)->Q (.ref (s.heap.objs.size+4)) { s with heap:=i9 s.heap a b }) :
  wpAny (model prog w) A (call (.type "zip") [.ref a,.ref b]) Q E s:=by
 refine callType_new F.called_zip (by decide) (F.typeCall_zip_2 _ _) (F.newCall_zip_2 _ _) (λobj=>F.args_object_init_3 obj _ _) F.entry_zip_new (OM a b xs ys) ⟨h1,h2,?_⟩
 have z1:(tN s.heap a).objs.size=s.heap.objs.size+1:=Heap.size_push ..
 have z2:(tO s.heap a b).objs.size=s.heap.objs.size+2:=by rw [Heap.size_push,z1]
 have z3:(tP s.heap a b).objs.size=s.heap.objs.size+3:=by rw [Heap.size_push,z2]
 have z4:(tQ s.heap a b).objs.size=s.heap.objs.size+4:=by rw [Heap.size_push,z3]
 have g5:(i9 s.heap a b).get? (tQ s.heap a b).objs.size=some _:=y4 _ rfl
 have g4:(i9 s.heap a b).get? (tP s.heap a b).objs.size=some _:=yp _ (y4 _ rfl)
 have g3:(i9 s.heap a b).get? (tO s.heap a b).objs.size=some _:=yp _ (yp _ (y4 _ rfl))
 have g2:(i9 s.heap a b).get? (tN s.heap a).objs.size=some _:=yp _ (yp _ (yp _ (y4 _ rfl)))
 have g1:(i9 s.heap a b).get? s.heap.objs.size=some _:=yp _ (yp _ (yp _ (yp _ (y4 _ rfl))))
 show _/\_
 rw [z2,z3,z4] at g5
 rw [z1,z2] at g3
 rw [z3] at g4
 rw [z1] at g2
 rw [z4]
 exact ⟨⟨_,g5,rfl⟩,h ⟨g5,g3,⟨_,_,g4⟩,⟨_,g1,rfl,rfl⟩,⟨_,g2,rfl,rfl⟩⟩⟩
end
theorem OQ:bootBuiltins "zip" = some (.type "zip"):=by decide +kernel
def OR (K:Frag) (ta:TA):TI:=λU H R=>ta U H λvs H1=>∃a b,vs=[.ref a,.ref b]/\(∃xs,ba K H1 a xs)/\(∃ys,ba K H1 b ys)/\R (xQ K a b) H1
theorem OS {X:Cx} {elts:List Expr} {kt:Nat} {tp:Pos} {x y:Expr} {ta:TA} {p pos:Pos} (hg:Gl X "zip") (hm:X.mg "zip" = none) (ha:PA X [x,y] ta) (hs:starEach [x,y] X.env=[(false,eval x X.env),(false,eval y X.env)]:=by rfl) (ib:starEach [y] X.env=[(false,eval y X.env)]:=by rfl) :
  PI X (.Tuple elts kt tp) (.Call (.Name "zip" p) [x,y] [] pos) (OR X.K ta):=by
 intro pins s U H R I h
 refine Call_ (mH I hg hm OQ (PyProof.Rows.callWith_type1 (aS (ha pos pins s U H _ I h) λus s1 ⟨vs,H1,I1,r1,q1⟩=>?_) (by rw [hs,ib]) (by rw [ib];rfl)))
 obtain ⟨a,b,e,⟨xs,lC⟩,⟨ys,i7⟩,q⟩:=q1
 subst e
 obtain ⟨u,v,rfl,ru,rv⟩:=CY r1
 obtain rfl:u=Value.ref a:=ru
 obtain rfl:v=Value.ref b:=rv
 obtain ⟨vy,_,p1,_⟩:=I1.tuple lC
 obtain ⟨cM,_,p2,_⟩:=I1.tuple i7
 refine OO p1 p2 λst=>wpAny_pyIter_zip st.1 ?_
 have kk:∀c o,s1.heap.get? c=some o->(i9 s1.heap a b).get? c=some o:=λc o e=>yp _ (yp _ (yp _ (yp _ (yp _ e))))
 refine ⟨_,[s1.heap.objs.size+4,s1.heap.objs.size+2,s1.heap.objs.size+3,s1.heap.objs.size,s1.heap.objs.size+1],_,_,H1,rfl,I1.kept (t':=s1.toks) kk,OK ?_,st,λc hc=>?_,q⟩
 ·have ne:∀(n i j:Nat),i≠j->n+i≠n+j:=λn i j h z=>h (Nat.add_left_cancel z)
  have tR:∀(n i:Nat),i≠0->n+i≠n:=λn i h z=>h (by omega)
  exact ⟨ne _ 2 4 (by decide),ne _ 3 4 (by decide),(tR _ 4 (by decide)).symm,ne _ 1 4 (by decide),ne _ 2 3 (by decide),tR _ 2 (by decide),ne _ 2 1 (by decide),tR _ 3 (by decide),ne _ 3 1 (by decide),(tR _ 1 (by decide)).symm⟩
 ·have le:s1.heap.objs.size<=c:=by
   simp only [yE,List.not_mem_nil,iP] at hc
   rcases hc with q|q|q|q|q<;>rw [q]<;>first|exact yo _|exact Nat.le_add_right _ _
  exact I1.fpOk le (I1.hok.fresh le)
structure KD (X:Cx) (a:Addr):Prop where
 ob:∃es n,X.K.lookup a=some ⟨.type "dict", none,.dict es n,#[]⟩/\KeysLit X.w.params es.toList
 no:(a==sysModules)=false
section
variable {X:Cx}
def OT:fR X (λx y H Q=>∃a z u v,x=.ref a/\y=.str z/\KD X a/\nsIn X.K a z=some (some u)/\RelV v u/\Q v H):=by
 intro a b pins s U H x y v u Q I rx ry h hs
 obtain ⟨p,z,u',v',rfl,rfl,⟨⟨es,n,hl,hk⟩,_⟩,e,rv,q⟩:=h
 obtain rfl:v=Value.ref p:=rx
 obtain ⟨t,rfl⟩:=ry
 obtain ⟨m,F⟩:=I.fr
 exact topItem_K F I.ok.mod.kin hl hk e ⟨v',H,I.tok _,rv,q⟩ hs
def OU:bh X (compareOp .NotIn) (λx y H Q=>∃a z r,x=.str z/\y=.ref a/\KD X a/\nsIn X.K a z=some r/\Q (.bl (!r.isSome)) H):=by
 intro pins s U H x y v u Q I rx ry h
 obtain ⟨p,z,r,rfl,rfl,⟨⟨es,n,hl,hk⟩,no⟩,e,q⟩:=h
 obtain rfl:u=Value.ref p:=ry
 obtain ⟨t,rfl⟩:=rx
 refine wpAny_notIn_of (strKind_is X.prog X.w z t) no (mapOf_K (prog:=X.prog) I.kIn hl hk) ?_
 rw [find_K hl e]
 exact ⟨.bl (!r.isSome),H,I.tok _,rfl,q⟩
end
end L2
namespace Mi
open PySem L2 PySem.W
inductive PV where
 |non|bl (b:Bool)|int (i:Int)|str (x:Str)|ty (n:String)
 |tup (xs:List PV)|frl (xs:List PV)|ref (n:Nat)|fn (x:Str)|kd (ks:Ad) (xs:List PV)|exo (c:Str) (ks:Ad) (xs:List PV)
inductive SO where
 |lst (xs:List PV)|dic (ks:Ad) (xs:List PV)|ins (c:Str) (ks:Ad) (xs:List PV)|fdi (ks:Ad) (xs:List PV)|dit (ks:List (List Key)) (xs:List PV)
abbrev aa:=List SO
inductive Res (α:Type) where
 |ok (a:α) (st:aa)|err (c:Str) (ks:Ad) (xs:List PV) (st:aa)|stuck
abbrev Mo (α:Type):=aa->Res α
noncomputable def Res.bind {α β:Type}:Res α->(α->Mo β)->Res β
 |.ok a st,f=>f a st
 |.err c ks xs st,_=>.err c ks xs st
 |.stuck,_=>.stuck
abbrev zb:=List (Option PV)
def OV (K:Frag) (a:Addr) (ks:Ad) (us:Af):Prop:=∀z,nsIn K a z=some ((ks.zip us).lookup z)
def i_ (K:Frag) (H:Hp) (a:Addr) (vs:List V):Prop :=
 (∃o,H a=some (.frz o (.lst vs)))\/∃(o:Obj) (its:Array Value) (n:Nat),K.lookup a=some o/\o.cls=.type "list" /\ o.dict=none/\o.data=.seq its n/\its.size<=sizeLine/\Vals vs its.toList
def i_.sq {K:Frag}{H:Hp}{a:Addr}{vs:List V}(h:i_ K H a vs):aZ K H a vs:=by
 rcases h with ⟨o,h⟩|h
 ·exact .inl (.inr ⟨o,h⟩)
 ·exact .inr h
section
variable (K:Frag) (mg:Ab)
mutual
def R (ρ:Ae) (H:Hp):PV->V->Prop
 |.non,v=>v=.non
 |.bl b,v=>v=.bl b
 |.int i,v=>v=.int i
 |.str x,v=>v=.str x
 |.ty n,v=>v=.ty n
 |.tup xs,v=>∃a vs,v=.ref a/\ba K H a vs/\Rs ρ H xs vs
 |.frl xs,v=>∃a vs,v=.ref a/\i_ K H a vs/\Rs ρ H xs vs
 |.ref n,v=>∃a,v=.ref a/\ρ[n]?=some a
 |.fn x,v=>∃f,v=.ref f/\mg x=some (.ref f)
 |.kd ks xs,v=>∃a us vs,v=.ref a/\OV K a ks us/\Vals vs us/\Rs ρ H xs vs
 |.exo c ks xs,v=>∃a C d vs,v=.ref a/\mg c=some (.ref C)/\H a=some (gg C (some d) a)/\H d=some (.xd (ks.zip vs))/\Rs ρ H xs vs/\ks.length=vs.length
def Rs (ρ:Ae) (H:Hp):List PV->List V->Prop
 |[],vs=>vs=[]
 |x::xs,vs=>∃v r,vs=v::r/\R ρ H x v/\Rs ρ H xs r
end
def dE (a:Addr) (its:List (List Key×Addr×Value)):HO:=.ext λP w h=>its.length<=sizeLine/\(a==sysModules)=false /\
 ∃o es ep,h.get? a=some o/\o.ExactDict/\o.data=.dict es ep/\es.toList=its.map (entryOfKey (tupleKind (aX P w)))/\(its.map (·.1)).Nodup
def ig (ρ:Ae) (H:Hp):SO->Addr->Prop
 |.lst xs,a=>∃vs,H a=some (.lst vs)/\Rs K mg ρ H xs vs
 |.dic ks xs,a=>∃vs,H a=some (.dK ((ks.map Sum.inr).zip vs))/\Rs K mg ρ H xs vs/\ks.length=vs.length
 |.ins c ks xs,a=>∃C dx vs,mg c=some (.ref C)/\H a=some (.ins C dx (ks.zip vs))/\Rs K mg ρ H xs vs/\ks.length=vs.length
 |.fdi ks xs,a=>∃o vs,H a=some (.frz o (.dK ((ks.map Sum.inr).zip vs)))/\Rs K mg ρ H xs vs/\ks.length=vs.length
 |.dit ks xs,a=>∃its vs,H a=some (dE a its)/\its.map (·.1)=ks/\(∀x,x∈its->ba K H x.2.1 (x.1.map kV))/\Vals vs (its.map (·.2.2))/\Rs K mg ρ H xs vs
structure bf (ρ:Ae) (H:Hp) (st:aa):Prop where
 len:ρ.length=st.length
 nd:ρ.Nodup
 at_:∀(n:Nat) so,st[n]?=some so->∃a,ρ[n]?=some a/\ig K mg ρ H so a
def Still (φ:Program->World->Heap->Prop):Prop:=∀P w,∃h:Heap,φ P w h/\∀b o es ep,h.get? b=some o->o.data ≠ .dict es ep
open Classical in
def tS:HO->Bool
 |.tup _=>true
 |.frz _ _=>true
 |.xd _=>true
 |.ext φ=>decide (Still φ)
 |_=>false
structure Ext (ρ:Ae) (H:Hp) (aj:Ae) (H':Hp):Prop where
 pre:∃δ,aj=ρ++δ
 imm:∀a o,H a=some o->tS o=true->H' a=some o
def OW {C:Addr}{d:Option Addr}{a:Addr}:tS (gg C d a)=true:=by
 have st:Still λ_ _ h=>∃T:Addr,XO h a (.ref C) d (.ref T):=λP w=>by
  have g:∀b,(Heap.mk (Array.replicate (a+1) { cls:=.ref C,dict:=d,data:=.fields #[.none,.ref 0,.none,.none,.none,.none] }) {}).get? b=if b<a+1 then some { cls:=.ref C,dict:=d,data:=.fields #[.none,.ref 0,.none,.none,.none,.none] } else none:=by
   intro b
   unfold Heap.get?
   by_cases hb:b<a+1
   ·simp [Array.getElem?_replicate,hb]
   ·simp [Array.getElem?_replicate,hb]
  refine ⟨_,⟨0,_,_,(g a).trans (zw (jW a)),rfl,rfl,rfl,rfl,rfl⟩,λb o es ep e=>?_⟩
  rw [g b] at e
  split at e
  ·cases e;intro z;cases z
  ·cases e
 exact @decide_eq_true _ (Classical.propDecidable _) st
def OX (P:Program) (w:World) {a:Addr}{its:List (List Key×Addr×Value)}:tS (dE a its)=false:=by
 refine @decide_eq_false _ (Classical.propDecidable _) λst=>?_
 obtain ⟨h,⟨_,_,o,es,ep,e,_,d,_⟩,n⟩:=st P w
 exact n _ _ _ _ e d
def XR (ρ:Ae) (H:Hp) (c:Str) (ks:Ad) (xs:List PV) (Cv:Value) (d:Option Addr):Prop :=
 ∃C,Cv=.ref C/\mg c=some (.ref C)/\((ks=[]/\d=none)\/∃dd vs,d=some dd/\H dd=some (.xd (ks.zip vs))/\Rs K mg ρ H xs vs/\ks.length=vs.length)
def Out {α:Type}(ρ:Ae) (H:Hp) (r:Res α) (good:List Addr->Hp->α->aa->Prop) (E:XK):Prop :=
 match r with
 |.ok x st=>∀aj H',Ext ρ H aj H'->bf K mg aj H' st->good aj H' x st
 |.err c ks xs st=>∀aj H' C d,Ext ρ H aj H'->bf K mg aj H' st->XR K mg aj H' c ks xs C d->E C d H'
 |.stuck=>False
structure a8 (ρ:Ae) (H:Hp) (env:zb) (U:St):Prop where
 len:env.length=U.length
 at_:∀(i:Nat) x,env[i]?=some (some x)->∃v,U[i]?=some (some v)/\R K mg ρ H x v
def gV (Q:VK):List Addr->Hp->PV->aa->Prop:=fun ρ H x _=>∀v,R K mg ρ H x v->Q v H
def OY (Q:List V->Hp->Prop):List Addr->Hp->List PV->aa->Prop:=fun ρ H x _=>∀v,Rs K mg ρ H x v->Q v H
def gB (Q:Bool->Hp->Prop):List Addr->Hp->Bool->aa->Prop:=λ_ H x _=>Q x H
inductive Fl where
 |nx (env:zb)|rt (x:PV)|bk (env:zb)|ct (env:zb)
abbrev Ag:=List (List Key)
abbrev Ah:=zb->Mo (List PV)
abbrev Ai:=zb->Mo PV
abbrev Aj:=zb->Mo Fl
abbrev Ak:=zb->Mo Bool
abbrev Al:=List PV->Mo PV
abbrev Am:=PV->PV->Mo PV
abbrev An:=List PV
abbrev Ao:=Option PV
def gS (D:Ends):List Addr->Hp->Fl->aa->Prop:=fun ρ H x _ =>
 match x with
 |.nx env=>∀U,a8 K mg ρ H env U->D.nx U H
 |.rt x=>∀v,R K mg ρ H x v->D.rt v H
 |.bk env=>∀U,a8 K mg ρ H env U->D.bk U H
 |.ct env=>∀U,a8 K mg ρ H env U->D.ct U H
end
section
variable {K:Frag} {mg:Ab} {ρ ag ao:Ae} {H H1 H2:Hp}
def Ext.refl:Ext ρ H ρ H:=⟨⟨[],by simp⟩,λ_ _ h _=>h⟩
def Ext.trans (a:Ext ρ H ag H1) (b:Ext ag H1 ao H2):Ext ρ H ao H2:=by
 obtain ⟨⟨d,hd⟩,i⟩:=a
 obtain ⟨⟨d',cW⟩,i'⟩:=b
 exact ⟨⟨d++d',by rw [cW,hd,j6]⟩,λa o h m=>i' a o (i a o h m) m⟩
def Ext.get (a:Ext ρ H ag H1) {n:Nat}{p:Addr}(h:ρ[n]?=some p):ag[n]?=some p:=by
 obtain ⟨⟨d,hd⟩,_⟩:=a
 rw [hd,iQ (yD.mp h).1]
 exact h
def Ext.sqT (e:Ext ρ H ag H1) {a:Addr}{xs:List V}(h:ba K H a xs):ba K H1 a xs:=by
 rcases h with (h|⟨o,h⟩)|h
 ·exact .inl (.inl (e.imm _ _ h rfl))
 ·exact .inl (.inr ⟨o,e.imm _ _ h rfl⟩)
 ·exact .inr h
def Ext.frl (e:Ext ρ H ag H1) {a:Addr}{xs:List V}(h:i_ K H a xs):i_ K H1 a xs:=by
 rcases h with ⟨o,h⟩|h
 ·exact .inl ⟨o,e.imm _ _ h rfl⟩
 ·exact .inr h
mutual
theorem R.ext (e:Ext ρ H ag H1):∀(x:PV) {v:V},R K mg ρ H x v->R K mg ag H1 x v
 |.non,_,h=>h
 |.bl _,_,h=>h
 |.int _,_,h=>h
 |.str _,_,h=>h
 |.ty _,_,h=>h
 |.tup xs,_,h=>by
  obtain ⟨a,vs,h1,h2,h3⟩:=h
  exact ⟨a,vs,h1,e.sqT h2,Rs.ext e xs h3⟩
 |.frl xs,_,h=>by
  obtain ⟨a,vs,h1,h2,h3⟩:=h
  exact ⟨a,vs,h1,e.frl h2,Rs.ext e xs h3⟩
 |.ref n,_,h=>by
  obtain ⟨a,h1,h2⟩:=h
  exact ⟨a,h1,e.get h2⟩
 |.fn _,_,h=>h
 |.kd ks xs,_,h=>by
  obtain ⟨a,us,vs,h1,h2,h4,h3⟩:=h
  exact ⟨a,us,vs,h1,h2,h4,Rs.ext e xs h3⟩
 |.exo c ks xs,_,h=>by
  obtain ⟨a,C,d,vs,h1,h2,h3,h4,h5,h6⟩:=h
  exact ⟨a,C,d,vs,h1,h2,e.imm _ _ h3 OW,e.imm _ _ h4 rfl,Rs.ext e xs h5,h6⟩
theorem Rs.ext (e:Ext ρ H ag H1):∀(xs:An) {vs:List V},Rs K mg ρ H xs vs->Rs K mg ag H1 xs vs
 |[],_,h=>h
 |x::xs,_,h=>by
  obtain ⟨v,r,h1,h2,h3⟩:=h
  exact ⟨v,r,h1,R.ext e x h2,Rs.ext e xs h3⟩
end
def a8.ext (e:Ext ρ H ag H1) {env:zb}{U:St}(h:a8 K mg ρ H env U):a8 K mg ag H1 env U :=
 ⟨h.len,λi x hx=>let ⟨v,a,b⟩:=h.at_ i x hx;⟨v,a,R.ext e x b⟩⟩
theorem Rs.len:∀{xs:An}{vs:List V},Rs K mg ρ H xs vs->xs.length=vs.length
 |[],_,h=>by cases h;rfl
 |x::xs,_,h=>by
  obtain ⟨v,r,rfl,_,h3⟩:=h
  simp [Rs.len h3]
theorem Rs.get:∀{xs:An}{vs:List V}{i:Nat}{x:PV},Rs K mg ρ H xs vs->xs[i]?=some x->∃v,vs[i]?=some v/\R K mg ρ H x v
 |[],_,_,_,_,e=>by simp at e
 |x::xs,_,0,_,h,e=>by
  obtain ⟨v,r,rfl,h2,h3⟩:=h
  simp at e
  subst e
  exact ⟨v,by simp,h2⟩
 |x::xs,_,i+1,y,h,e=>by
  obtain ⟨v,r,rfl,h2,h3⟩:=h
  simp at e
  obtain ⟨v',h4,h5⟩:=Rs.get h3 e
  exact ⟨v',by simpa using h4,h5⟩
theorem Rs.append:∀{xs ys:An}{vs ws:List V},Rs K mg ρ H xs vs->Rs K mg ρ H ys ws->Rs K mg ρ H (xs++ys) (vs++ws)
 |[],_,_,_,h,h'=>by cases h;exact h'
 |x::xs,_,_,_,h,h'=>by
  obtain ⟨v,r,rfl,h2,h3⟩:=h
  exact ⟨v,r++_,rfl,h2,Rs.append h3 h'⟩
theorem Rs.take:∀{xs:An}{vs:List V}(n:Nat),Rs K mg ρ H xs vs->Rs K mg ρ H (xs.take n) (vs.take n)
 |[],_,n,h=>by cases h;simp [Rs]
 |x::xs,_,0,h=>by simp [Rs]
 |x::xs,_,n+1,h=>by
  obtain ⟨v,r,rfl,h2,h3⟩:=h
  exact ⟨v,_,rfl,h2,Rs.take n h3⟩
theorem Rs.drop:∀{xs:An}{vs:List V}(n:Nat),Rs K mg ρ H xs vs->Rs K mg ρ H (xs.drop n) (vs.drop n)
 |[],_,n,h=>by cases h;simp [Rs]
 |x::xs,_,0,h=>h
 |x::xs,_,n+1,h=>by
  obtain ⟨v,r,rfl,h2,h3⟩:=h
  exact Rs.drop n h3
def a8.set {env:zb}{U:St}{x:PV}{v:V}(h:a8 K mg ρ H env U) (i:Nat) (r:R K mg ρ H x v):a8 K mg ρ H (env.set i (some x)) (U.set i (some v)):=by
 refine ⟨by simp [h.len],λj y hy=>?_⟩
 rw [List.getElem?_set] at hy ⊢
 by_cases hij:i=j
 ·subst hij
  by_cases hl:i<env.length
  ·rw [zw rfl,zw hl] at hy
   rw [zw rfl,zw (by rw [<-h.len];exact hl)]
   cases hy
   exact ⟨v,rfl,r⟩
  ·rw [zw rfl,zI hl] at hy
   cases hy
 ·rw [zI hij] at hy ⊢
  exact h.at_ j y hy
def a8.unset {env:zb}{U:St}(h:a8 K mg ρ H env U) (i:Nat):a8 K mg ρ H (env.set i none) (U.set i none):=by
 refine ⟨by simp [h.len],λj y hy=>?_⟩
 rw [List.getElem?_set] at hy ⊢
 by_cases hij:i=j
 ·subst hij
  by_cases hl:i<env.length
  ·rw [zw rfl,zw hl] at hy
   cases hy
  ·rw [zw rfl,zI hl] at hy
   cases hy
 ·rw [zI hij] at hy ⊢
  exact h.at_ j y hy
def a8.cons {env:zb}{U:St}{x:PV}{v:V}(h:a8 K mg ρ H env U) (r:R K mg ρ H x v):a8 K mg ρ H (some x::env) (some v::U):=by
 refine ⟨by simp [h.len],λj y hy=>?_⟩
 cases j with
 |zero=>simp at hy;subst hy;exact ⟨v,by simp,r⟩
 |succ j=>simp at hy;simpa using h.at_ j y hy
def bf.addr {st:aa}{n:Nat}{so:SO}(s:bf K mg ρ H st) (e:st[n]?=some so) {a:Addr}(ha:ρ[n]?=some a):ig K mg ρ H so a:=by
 obtain ⟨b,hb,h⟩:=s.at_ n so e
 rw [ha] at hb
 cases hb
 exact h
def ig.some {so:SO}{a:Addr}(h:ig K mg ρ H so a):∃o,H a=some o/\True:=by
 cases so with
 |lst xs=>obtain ⟨vs,h,_⟩:=h;exact ⟨_,h,trivial⟩
 |dic ks xs=>obtain ⟨vs,h,_⟩:=h;exact ⟨_,h,trivial⟩
 |ins c ks xs=>obtain ⟨C,dx,vs,_,h,_⟩:=h;exact ⟨_,h,trivial⟩
 |fdi ks xs=>obtain ⟨o,vs,h,_⟩:=h;exact ⟨_,h,trivial⟩
 |dit ks xs=>obtain ⟨its,vs,h,_⟩:=h;exact ⟨_,h,trivial⟩
def bf.in_ {st:aa}{n:Nat}{a:Addr}(s:bf K mg ρ H st) (h:ρ[n]?=some a):∃so,st[n]?=some so/\ig K mg ρ H so a:=by
 have hl:n<st.length:=by rw [<-s.len];exact (yD.mp h).1
 refine ⟨st[n],by simp [hl],s.addr (by simp [hl]) h⟩
def ig.ext' {so:SO}{a:Addr}(e:Ext ρ H ag H1) (h:ig K mg ρ H so a) (k:H1 a=H a):ig K mg ag H1 so a:=by
 cases so with
 |lst xs=>obtain ⟨vs,h1,h2⟩:=h;exact ⟨vs,by rw [k];exact h1,Rs.ext e xs h2⟩
 |dic ks xs=>obtain ⟨vs,h1,h2,h3⟩:=h;exact ⟨vs,by rw [k];exact h1,Rs.ext e xs h2,h3⟩
 |ins c ks xs=>obtain ⟨C,dx,vs,h0,h1,h2,h3⟩:=h;exact ⟨C,dx,vs,h0,by rw [k];exact h1,Rs.ext e xs h2,h3⟩
 |fdi ks xs=>obtain ⟨o,vs,h1,h2,h3⟩:=h;exact ⟨o,vs,by rw [k];exact h1,Rs.ext e xs h2,h3⟩
 |dit ks xs=>obtain ⟨its,vs,h1,h2,h3,h4,h5⟩:=h;exact ⟨its,vs,by rw [k];exact h1,h2,λx hx=>e.sqT (h3 x hx),h4,Rs.ext e xs h5⟩
def Ext.new {p:Addr}{o:HO}(hp:H p=none):Ext ρ H ρ (upd H p o) :=
 ⟨⟨[],by simp⟩,λa o' h _=>by rw [yi (hW h hp)];exact h⟩
def bf.new {st:aa}{p:Addr}{o:HO}(s:bf K mg ρ H st) (hp:H p=none):bf K mg ρ (upd H p o) st :=
 ⟨s.len,s.nd,λn so e=>by
  obtain ⟨a,ha,h⟩:=s.at_ n so e
  obtain ⟨o',ho,_⟩:=h.some
  exact ⟨a,ha,h.ext' (Ext.new hp) (yi (hW ho hp))⟩⟩
def Ext.push {p:Addr}{o:HO}(hp:H p=none):Ext ρ H (ρ++[p]) (upd H p o) :=
 ⟨⟨[p],rfl⟩,λa o' h _=>by rw [yi (hW h hp)];exact h⟩
theorem bf.push {st:aa}{p:Addr}{o:HO}{so:SO}(s:bf K mg ρ H st) (hp:H p=none) (n:ig K mg (ρ++[p]) (upd H p o) so p):bf K mg (ρ++[p]) (upd H p o) (st++[so]):=by
 refine ⟨by simp [s.len],?_,λi oR e=>?_⟩
 ·refine List.nodup_append.mpr ⟨s.nd,by simp,λa ha b hb=>?_⟩
  obtain rfl:b=p:=by simpa using hb
  obtain ⟨n,hn⟩:=List.getElem?_of_mem ha
  obtain ⟨oR,_,h⟩:=s.in_ hn
  obtain ⟨o',ho,_⟩:=h.some
  exact hW ho hp
 ·by_cases hi:i<st.length
  ·rw [iQ hi] at e
   obtain ⟨a,ha,h⟩:=s.at_ i oR e
   obtain ⟨o',ho,_⟩:=h.some
   exact ⟨a,(Ext.push (o:=o) hp).get ha,h.ext' (Ext.push hp) (yi (hW ho hp))⟩
  ·rw [iR (by omega)] at e
   have i5:i=st.length:=by
    have:=(yD.mp e).1
    simp at this
    omega
   subst i5
   simp at e
   subst e
   exact ⟨p,by rw [<-s.len];simp,n⟩
def Ext.write {a:Addr}{o o':HO}(ha:H a=some o) (hi:tS o=false):Ext ρ H ρ (upd H a o') :=
 ⟨⟨[],by simp⟩,λb u h m=>by
  rw [yi]
  ·exact h
  ·intro z;subst z;rw [ha] at h;cases h;rw [hi] at m;cases m⟩
def bf.write {st:aa}{n:Nat}{a:Addr}{o':HO}{so:SO}(s:bf K mg ρ H st) (hn:ρ[n]?=some a) (ew:Ext ρ H ρ (upd H a o')) (h:ig K mg ρ (upd H a o') so a):bf K mg ρ (upd H a o') (st.set n so):=by
 refine ⟨by simp [s.len],s.nd,λi oR e=>?_⟩
 rw [List.getElem?_set] at e
 by_cases hij:n=i
 ·subst hij
  rw [zw rfl] at e
  split at e
  ·cases e;exact ⟨a,hn,h⟩
  ·cases e
 ·rw [zI hij] at e
  obtain ⟨b,hb,q⟩:=s.at_ i oR e
  have ne:b≠a:=by
   intro z
   subst z
   obtain ⟨h1,h2⟩:=yD.mp hn
   obtain ⟨h3,h4⟩:=yD.mp hb
   have pw:=List.pairwise_iff_getElem.mp s.nd
   rcases Nat.lt_trichotomy n i with c|c|c
   ·exact pw n i h1 h3 c (h2.trans h4.symm)
   ·exact hij c
   ·exact pw i n h3 h1 c (h4.trans h2.symm)
  exact ⟨b,hb,q.ext' ew (yi ne)⟩
section
variable {α β:Type} {E:XK} {good:List Addr->Hp->α->aa->Prop}
def Out.ext {r:Res α}(h:Out K mg ρ H r good E) (e:Ext ρ H ag H1):Out K mg ag H1 r good E:=by
 cases r with
 |ok x st=>exact λaj H' e' s=>h aj H' (e.trans e') s
 |err c ks xs st=>exact λaj H' C d e' s x=>h aj H' C d (e.trans e') s x
 |stuck=>exact h
def Out.mono {r:Res α}{eO:List Addr->Hp->α->aa->Prop}(h:Out K mg ρ H r good E) (g:∀aj H' x st,Ext ρ H aj H'->bf K mg aj H' st->good aj H' x st->eO aj H' x st):Out K mg ρ H r eO E:=by
 cases r with
 |ok x st=>exact λaj H' e' s=>g aj H' x st e' s (h aj H' e' s)
 |err c ks xs st=>exact h
 |stuck=>exact h
def Out.bind {r:Res β}{f:β->Mo α}(h:Out K mg ρ H (r.bind f) good E):Out K mg ρ H r (λaj H' x st=>Out K mg aj H' (f x st) good E) E:=by
 cases r with
 |ok x st=>exact λaj H' e' s=>Out.ext h e'
 |err c ks xs st=>exact h
 |stuck=>exact h
def Out.then {r:Res β}{f:β->Mo α}{eO:List Addr->Hp->β->aa->Prop}(h:Out K mg ρ H (r.bind f) good E) (g:∀aj H' x st,Ext ρ H aj H'->bf K mg aj H' st->Out K mg aj H' (f x st) good E->eO aj H' x st):Out K mg ρ H r eO E:=h.bind.mono g
def Out.now {x:α}{st:aa}(h:Out K mg ρ H (.ok x st) good E) (s:bf K mg ρ H st):good ρ H x st:=h ρ H Ext.refl s
end
end
end Mi
namespace Mi
open PySem L2 PySem.W PySem.Spec
abbrev lim:Nat:=1000000
def jb {n:Nat}(h:n<=lim):n<=sizeLine:=by rw [sizeLine_eq];show n<=16777216;exact jw h (by decide)
section
variable (K:Frag) (mg:Ab)
def tM (Er:XK) (f:Ai):TE:=λU H Q=>∃env st ρ,a8 K mg ρ H env U/\bf K mg ρ H st/\Out K mg ρ H (f env st) (gV K mg Q) Er
def nq (Er:XK) (f:Ak):TT:=λU H Q=>∃env st ρ,a8 K mg ρ H env U/\bf K mg ρ H st/\Out K mg ρ H (f env st) (gB Q) Er
def OZ (Er:XK) (f:Ah):TA:=λU H Q=>∃env st ρ,a8 K mg ρ H env U/\bf K mg ρ H st/\Out K mg ρ H (f env st) (OY K mg Q) Er
def sM (Er:XK) (f:Aj):TS:=λD U H=>∃env st ρ,a8 K mg ρ H env U/\bf K mg ρ H st/\Out K mg ρ H (f env st) (gS K mg D) Er
end
def ME (X:Cx) (Er:XK) (e:Expr) (f:Ai):Prop:=PE X e (tM X.K X.mg Er f)
def MT (X:Cx) (Er:XK) (e:Expr) (f:Ak):Prop:=PT X e (nq X.K X.mg Er f)
def MW (X:Cx) (Er:XK) (e:Expr) (f:Ak):Prop:=PW X e (nq X.K X.mg Er f)
def MA (X:Cx) (Er:XK) (e:List Expr) (f:Ah):Prop:=PA X e (OZ X.K X.mg Er f)
def MS (X:Cx) (Er:XK) (e:Stmt) (f:Aj):Prop:=PS X e (sM X.K X.mg Er f)
def eP (X:Cx) (Er:XK) (e:List Stmt) (f:Aj):Prop:=cA X e (sM X.K X.mg Er f)
section
variable {X:Cx} {Er:XK} {e a b c:Expr} {es:List Expr} {pos:Pos} {t t':TE}
def PE.weak (h:PE X e t) (w:∀U H Q,t' U H Q->t U H Q):PE X e t':=λpins s U H Q I q=>h pins s U H Q I (w U H Q q)
def PT.weak {t t':TT}(h:PT X e t) (w:∀U H Q,t' U H Q->t U H Q):PT X e t':=λpins s U H Q I q=>h pins s U H Q I (w U H Q q)
def PW.weak {t t':TT}(h:PW X e t) (w:∀U H Q,t' U H Q->t U H Q):PW X e t':=λwh pins s U H Q I q=>h wh pins s U H Q I (w U H Q q)
def PA.weak {t t':TA}(h:PA X es t) (w:∀U H Q,t' U H Q->t U H Q):PA X es t':=λpos pins s U H Q I q=>h pos pins s U H Q I (w U H Q q)
def PS.weak {st:Stmt}{t t':TS}(h:PS X st t) (w:∀D U H,t' D U H->t D U H):PS X st t':=λpins s U H D I q=>h pins s U H D I (w D U H q)
def cA.weak {st:List Stmt}{t t':TS}(h:cA X st t) (w:∀D U H,t' D U H->t D U H):cA X st t':=λpins s U H D I q=>h pins s U H D I (w D U H q)
def za (i:Nat):Ai:=λenv st=>match env[i]? with
 |some (some x)=>.ok x st
 |_=>.stuck
def mC (x:PV):Ai:=λ_ st=>.ok x st
def ze (i:Nat) {x:Str} {pos:Pos} (hN:X.N[i]?=some x:=by rfl) (hv:p5 X.env.scope x:=by first|exact Or.inl rfl|exact Or.inr (Or.inl rfl)|exact Or.inr (Or.inr rfl)) (hd:(x==("__debug__" : Str))=false:=by decide)
  (fD:(x==("__classdict__" : Str))=false:=by decide):ME X Er (.Name x pos) (za i):=PE.weak (CJ hN hv hd fD) λU H Q ⟨env,st,ρ,re,rs,h⟩=>by
 unfold za at h
 split at h
 ·rename_i x' hx
  obtain ⟨v,h1,h2⟩:=re.at_ i x' hx
  exact ⟨v,h1,h.now rs v h2⟩
 ·exact h.elim
def oS {x:PV}{v:V}(hp:PE X e (tC v)) (hr:∀ρ H,R X.K X.mg ρ H x v):ME X Er e (mC x):=PE.weak hp λU H Q ⟨env,st,ρ,re,rs,h⟩=>h.now rs v (hr ρ H)
def zo {i:Int}{j}:ME X Er (.Constant (.int i) j pos) (mC (.int i)):=oS Kr λ_ _=>rfl
def yc {x:Str}{j}:ME X Er (.Constant (.str x) j pos) (mC (.str x)):=oS Ku λ_ _=>rfl
def zb2 {b:Bool}{j}:ME X Er (.Constant (.bool b) j pos) (mC (.bl b)):=oS Ks λ_ _=>rfl
def jz {j}:ME X Er (.Constant .none j pos) (mC .non):=oS Kt λ_ _=>rfl
def O0 {x:Str} {p:PV} {v:V} {u:Value} (hm:X.mg x=some u) (r:RelV v u) (hr:∀ρ H,R X.K X.mg ρ H p v) (hg:Gl X x:=by rfl) (hd:(x==("__debug__" : Str))=false:=by decide):ME X Er (.Name x pos) (mC p):=oS (vM hg hm r hd) hr
def eE (K:Frag) (mg:Ab) (r:R2) (op:Am):Prop:=∀ρ H st x y v w (Q:VK) (E:XK),bf K mg ρ H st->R K mg ρ H x v->R K mg ρ H y w->Out K mg ρ H (op x y st) (gV K mg Q) E->r v w H Q
def zf (op:Am) (fa fb:Ai):Ai:=λenv st=>(fa env st).bind λx ae=>(fb env ae).bind λy au=>op x y au
variable {fa fb fc:Ai}
def tT {r:R2}{op:Am}{K:Frag}{mg:Ab}(hm:eE K mg r op) {U:St}{H:Hp}{Q:VK}(h:tM K mg Er (zf op fa fb) U H Q):qb r (tM K mg Er fa) (tM K mg Er fb) U H Q:=by
 obtain ⟨env,st,ρ,re,rs,h⟩:=h
 exact ⟨env,st,ρ,re,rs,h.then λag H1 x ae e1 s1 h1 v rv=>⟨env,ae,ag,re.ext e1,s1,h1.then λao H2 y au e2 s2 h2 w rw=>hm ao H2 au x y v w Q Er s2 (R.ext e2 x rv) rw h2⟩⟩
def O3 {o:Operator}{r:R2}{op:Am}(ho:bh X (binaryOp o) r) (hm:eE X.K X.mg r op) (ha:ME X Er a fa) (hb:ME X Er b fb):ME X Er (.BinOp a o b pos) (zf op fa fb) :=
 PE.weak (Lz ho ha hb) λU H Q h=>tT hm h
def O5 {o:CmpOp}{r:R2}{op:Am}(ho:bh X (compareOp o) r) (hm:eE X.K X.mg r op) (ha:ME X Er a fa) (hb:ME X Er b fb) (hk:behindInMarks o b=false):ME X Er (.Compare a [o] [b] pos) (zf op fa fb) :=
 PE.weak (LY ho ha hb hk) λU H Q h=>tT hm h
def ik:PV->Mo Bool
 |.bl b,st=>.ok b st
 |_,_=>.stuck
def mB (f:Ai):Ak:=λenv st=>(f env st).bind ik
def O6 {K:Frag}{mg:Ab}{ρ:Ae}{H:Hp}{x:PV}{st:aa}{Q:Bool->Hp->Prop}(s:bf K mg ρ H st) (h:Out K mg ρ H (ik x st) (gB Q) Er) {v:V}(r:R K mg ρ H x v):∃k,v=.bl k/\Q k H:=by
 unfold ik at h
 split at h
 ·cases r;exact ⟨_,rfl,h.now s⟩
 ·exact h.elim
def Et {α:Type}{K:Frag}{mg:Ab}{ρ:Ae}{H:Hp}{x:PV}{st:aa}{f:Bool->Mo α}{good:List Addr->Hp->α->aa->Prop}(h:Out K mg ρ H ((ik x st).bind f) good Er):∃k,x=.bl k/\Out K mg ρ H (f k st) good Er:=by
 cases x with
 |bl k=>exact ⟨k,rfl,h⟩
 |_=>exact h.elim
def xT {f:Ai}{K:Frag}{mg:Ab}{U:St}{H:Hp}{Q:Bool->Hp->Prop}(h:nq K mg Er (mB f) U H Q):tM K mg Er f U H λx H1=>∃c,x=.bl c/\Q c H1:=by
 obtain ⟨env,st,ρ,re,rs,h⟩:=h
 exact ⟨env,st,ρ,re,rs,h.then λag H1 x ae e1 s1 h1 v rv=>O6 s1 h1 rv⟩
def O7 {o:CmpOp}{r:R2}{op:Am}(ho:bh X (compareOp o) r) (hm:eE X.K X.mg r op) (ha:ME X Er a fa) (hb:ME X Er b fb) (hk:behindInMarks o b=false):MT X Er (.Compare a [o] [b] pos) (mB (zf op fa fb)) :=
 PT.weak (CV ho ha hb hk) λU H Q h=>tT hm (xT h)
def jQ (h:ME X Er e fa) (he:∀whole,isTrue e X.env whole=(do let v <-whole;standAt e.pos;holding [v] (truthy v)):=by intro _;rfl):MT X Er e (mB fa) :=
 PT.weak (Kw h he) λU H Q h=>xT h
def qC (op er:Am) (fa fb fc:Ai):Ai:=λenv st=>(fa env st).bind λx ae=>(fb env ae).bind λy au=>(op x y au).bind λk aY=>(ik k aY).bind λb dn =>
 if b=true then (fc env dn).bind λz dN=>er y z dN else .ok (.bl false) dn
def O8 {r r':R2}{op er:Am}{K:Frag}{mg:Ab}(hm:eE K mg r op) (hm':eE K mg r' er) {U:St}{H:Hp}{Q:VK}(h:tM K mg Er (qC op er fa fb fc) U H Q):CW r r' (tM K mg Er fa) (tM K mg Er fb) (tM K mg Er fc) U H Q:=by
 obtain ⟨env,st,ρ,re,rs,h⟩:=h
 refine ⟨env,st,ρ,re,rs,h.then λag H1 x ae e1 s1 h1 v rv=>⟨env,ae,ag,re.ext e1,s1,h1.then λao H2 y au e2 s2 h2 w rw=>?_⟩⟩
 refine hm ao H2 au x y v w _ Er s2 (R.ext e2 x rv) rw (h2.then λam H3 z aY e3 s3 h3 u ru=>?_)
 obtain ⟨b,rfl,h4⟩:=Et h3
 cases ru
 refine ⟨b,rfl,?_⟩
 cases b with
 |true=>exact ⟨env,aY,am,((re.ext e1).ext e2).ext e3,s3,Out.then (f:=λz dN=>er y z dN) h4 λaL H5 z dN e5 s5 h5 w' dX=>hm' aL H5 dN y z w w' Q Er s5 (R.ext e5 y (R.ext e3 y rw)) dX h5⟩
 |false=>exact Out.now (x:=PV.bl false) h4 s3 _ rfl
def O9 {o o':CmpOp}{r r':R2}{op er:Am}(ho:bh X (compareOp o) r) (hm:eE X.K X.mg r op) (ho':bh X (compareOp o') r') (hm':eE X.K X.mg r' er) (ha:ME X Er a fa) (hb:ME X Er b fb) (hc:ME X Er c fc)
  (hk:lastMarks [o,o'] [b,c]=false:=by with_unfolding_all rfl):ME X Er (.Compare a [o,o'] [b,c] pos) (qC op er fa fb fc):=PE.weak (L3 ho ho' ha hb hc hk) λU H Q h=>O8 hm hm' h
def Eu (K:Frag) (mg:Ab) (r:V->Hp->VK->Prop) (op:PV->Mo PV):Prop:=∀ρ H st x v (Q:VK) (E:XK),bf K mg ρ H st->R K mg ρ H x v->Out K mg ρ H (op x st) (gV K mg Q) E->r v H Q
def yq (op:PV->Mo PV) (fa:Ai):Ai:=λenv st=>(fa env st).bind op
def O_ {o:UnaryOp}{r:V->Hp->VK->Prop}{op:PV->Mo PV}(ho:qa X (unaryOp o) r) (hm:Eu X.K X.mg r op) (ha:ME X Er a fa):ME X Er (.UnaryOp o a pos) (yq op fa) :=
 PE.weak (LA ho ha) λU H Q ⟨env,st,ρ,re,rs,h⟩=>⟨env,st,ρ,re,rs,h.then λag H1 x ae e1 s1 h1 v rv=>hm ag H1 ae x v Q Er s1 rv h1⟩
variable {ga gb:Ak} {rest:List Expr}
def j0 (ga gb:Ak):Ak:=λenv st=>(ga env st).bind λc ae=>if c=true then gb env ae else .ok false ae
def j_ (ga gb:Ak):Ak:=λenv st=>(ga env st).bind λc ae=>if c=true then .ok true ae else gb env ae
def ka (ga:Ak):Ak:=λenv st=>(ga env st).bind λc ae=>.ok (!c) ae
def zbw (ha:MT X Er a ga):MW X Er (.BoolOp .And [a] pos) ga:=KC ha
def zio (ha:MT X Er a ga):MW X Er (.BoolOp .Or [a] pos) ga:=KG ha
def zaX (ha:MT X Er a ga) (hb:MW X Er (.BoolOp .And (b::rest) pos) gb):MW X Er (.BoolOp .And (a::b::rest) pos) (j0 ga gb) :=
 PW.weak (KH ha hb) λU H Q ⟨env,st,ρ,re,rs,h⟩=>⟨env,st,ρ,re,rs,h.then λag H1 k ae e1 s1 h1=>by
  cases k with
  |true=>exact ⟨env,ae,ag,re.ext e1,s1,h1⟩
  |false=>exact h1.now s1⟩
def ziq (ha:MT X Er a ga) (hb:MW X Er (.BoolOp .Or (b::rest) pos) gb):MW X Er (.BoolOp .Or (a::b::rest) pos) (j_ ga gb) :=
 PW.weak (KJ ha hb) λU H Q ⟨env,st,ρ,re,rs,h⟩=>⟨env,st,ρ,re,rs,h.then λag H1 k ae e1 s1 h1=>by
  cases k with
  |false=>exact ⟨env,ae,ag,re.ext e1,s1,h1⟩
  |true=>exact h1.now s1⟩
def zaA {op:BoolOp}(h:MW X Er (.BoolOp op es pos) ga):MT X Er (.BoolOp op es pos) ga:=PW.pt h
def zdZ (ha:MT X Er a ga):MT X Er (.UnaryOp .Not a pos) (ka ga):=PT.weak (KL ha) λU H Q ⟨env,st,ρ,re,rs,h⟩=>⟨env,st,ρ,re,rs,h.then λag H1 k ae e1 s1 h1=>h1.now s1⟩
def lD (fa fb:Ai):Ai:=λenv st=>(fa env st).bind λx ae=>(ik x ae).bind λc au=>if c=true then fb env au else .ok (.bl false) au
def zir {op}(h:ME X Er a fa):ME X Er (.BoolOp op [a] pos) fa:=KO h
def zis (ha:ME X Er a fa) (hb:ME X Er (.BoolOp .And (b::rest) pos) fb):ME X Er (.BoolOp .And (a::b::rest) pos) (lD fa fb) :=
 PE.weak (KQ ha hb) λU H Q ⟨env,st,ρ,re,rs,h⟩=>⟨env,st,ρ,re,rs,h.then λag H1 x ae e1 s1 h1 v rv=>by
  obtain ⟨k,rfl,h1⟩:=Et h1
  cases rv
  refine ⟨k,rfl,?_⟩
  cases k with
  |true=>exact ⟨env,ae,ag,re.ext e1,s1,h1⟩
  |false=>exact Out.now (x:=PV.bl false) h1 s1 _ rfl⟩
def Ew (g:Ak) (fa fb:Ai):Ai:=λenv st=>(g env st).bind λc ae=>if c=true then fa env ae else fb env ae
def Pa {c:Expr}(hc:MT X Er c ga) (ha:ME X Er a fa) (hb:ME X Er b fb):ME X Er (.IfExp c a b pos) (Ew ga fa fb) :=
 PE.weak (KS hc ha hb) λU H Q ⟨env,st,ρ,re,rs,h⟩=>⟨env,st,ρ,re,rs,h.then λag H1 k ae e1 s1 h1=>by
  cases k with
  |true=>exact ⟨env,ae,ag,re.ext e1,s1,h1⟩
  |false=>exact ⟨env,ae,ag,re.ext e1,s1,h1⟩⟩
def zh:Ah:=λ_ st=>.ok [] st
def zd (f:Ai) (fs:Ah):Ah:=λenv st=>(f env st).bind λx ae=>(fs env ae).bind λxs au=>.ok (x::xs) au
variable {fs:Ah}
def zl:MA X Er [] zh:=PA.weak tj λU H Q ⟨env,st,ρ,re,rs,h⟩=>h.now rs [] rfl
def Ex (ha:ME X Er e fa) (hr:MA X Er es fs) (hs:starEach (e::es) X.env=(false,eval e X.env)::starEach es X.env:=by rfl):MA X Er (e::es) (zd fa fs) :=
 PA.weak (tm ha hr hs) λU H Q ⟨env,st,ρ,re,rs,h⟩=>⟨env,st,ρ,re,rs,h.then λag H1 x ae e1 s1 h1 v rv=>⟨env,ae,ag,re.ext e1,s1,h1.then λao H2 xs au e2 s2 h2 vs xU =>
  h2.now s2 (v::vs) ⟨v,vs,rfl,R.ext e2 x rv,xU⟩⟩⟩
def zU (fs:Ah):Ai:=λenv st=>(fs env st).bind λxs ae=>if xs.length<=lim then .ok (.tup xs) ae else .stuck
def jA (fs:Ah):Ai:=λenv st=>(fs env st).bind λxs ae=>if xs.length<=lim then .ok (.ref ae.length) (ae++[.lst xs]) else .stuck
def R.tup_of {K:Frag}{mg:Ab}{ρ:Ae}{H:Hp}{xs:An}{vs:List V}{p:Addr}(r:Rs K mg ρ H xs vs) (hp:H p=none):R K mg ρ (upd H p (.tup vs)) (.tup xs) (.ref p) :=
 ⟨p,vs,rfl,ba.of yN,Rs.ext (Ext.new hp) xs r⟩
def yg {x1}(h:MA X Er es fs):ME X Er (.Tuple es x1 pos) (zU fs) :=
 PE.weak (Mt h) λU H Q ⟨env,st,ρ,re,rs,h⟩=>⟨env,st,ρ,re,rs,h.then λag H1 xs ae e1 s1 h1 vs rv=>by
  split at h1
  ·rename_i hl
   exact ⟨by rw [<-rv.len];exact jb hl,λp hp=>h1 ag _ (Ext.new hp) (s1.new hp) _ (R.tup_of rv hp)⟩
  ·exact h1.elim⟩
def Out.newList {K:Frag}{mg:Ab}{ρ:Ae}{H:Hp}{st:aa}{xs:An}{vs:List V}{p:Addr}{Q:VK}(h:Out K mg ρ H (.ok (.ref st.length) (st++[.lst xs])) (gV K mg Q) Er) (s:bf K mg ρ H st) (r:Rs K mg ρ H xs vs) (hp:H p=none):Q (.ref p) (upd H p (.lst vs)) :=
 h (ρ++[p]) _ (Ext.push hp) (s.push hp ⟨vs,yN,Rs.ext (Ext.push hp) xs r⟩) _ ⟨p,rfl,by rw [<-s.len];simp⟩
def j8 (h:MA X Er es fs):ME X Er (.List es pos) (jA fs) :=
 PE.weak (Mu h) λU H Q ⟨env,st,ρ,re,rs,h⟩=>⟨env,st,ρ,re,rs,h.then λag H1 xs ae e1 s1 h1 vs rv=>by
  split at h1
  ·rename_i hl
   exact ⟨by rw [<-rv.len];exact jb hl,λp hp=>Out.newList h1 s1 rv hp⟩
  ·exact h1.elim⟩
def Pb {r:R2}{op:Am}(ho:fR X r) (hm:eE X.K X.mg r op) (ha:ME X Er a fa) (hb:ME X Er b fb) (hs:fQ b:=by exact λ_ _=>rfl):ME X Er (.Subscript a b pos) (zf op fa fb) :=
 PE.weak (Dx ho ha hb hs) λU H Q h=>tT hm h
end
end Mi
namespace HT
open PySem PySem.Spec PyProof.Rows
section
variable {prog:Program} {w:World} {A:Around} {E:Aa} {s:Shared}
def getItem_tuple_all {t sl:Addr}{items:Array Value}{vl vu:Value}{lo hi:Option Int}{Q:Aa}(ht:IsTup s.heap t items) (hs:s.heap.IsSliceOf sl vl vu .none) (pl:IsPart vl lo) (pu:IsPart vu hi)
  (hw:sIx items.size 0 lo=0/\sIx items.size items.size hi=items.size) (h:Q (.ref t) s)
  (hsz:items.size<=sizeLine):wpAny (model prog w) A (getItem (.ref t) (.ref sl)) Q E s:=by
 obtain ⟨os,mL,qf,qg⟩:=id hs
 have vX:s.TypeIs (.ref sl) "slice" := ⟨os,mL,qf⟩
 unfold getItem
 try with_reducible refine mD ?_
 first|refine zu (ye ?_)|skip
 refine zu (wpAny_sequenceKey ht.typeIs (by decide) ?_)
 refine zu (wpAny_callSpecial?_slot (name:=Str.ofString "__getitem__") ht.typeIs PyProof.Rows.slot_tuple_getitem
  (oz PyProof.Rows.slot_tuple_getitem ht.typeIs entry_tuple_getitem ?_ (args_tuple_getitem _ _)))
 show wpAny _ _ (Builtin.Tuple.tupleItemsOf (.ref t) >>= _) _ _ s
 refine zu (tupleItemsOf_ ht ?_)
 refine zu (wpAny_typeOf vX ?_)
 rw [zw (by decide)]
 refine zu (Du hs pl pu ?_)
 have Ey:(((sIx items.size 0 lo:Nat):Int)==0&&(1:Int)==1&&(sIx items.size items.size hi-sIx items.size 0 lo)==items.size)=true:=by
  rw [hw.1,hw.2];simp
 show wpAny _ _ (if (((sIx items.size 0 lo:Nat):Int)==0&&(1:Int)==1&&(sIx items.size items.size hi-sIx items.size 0 lo)==items.size)=true then _ else _) _ _ s
 rw [zw Ey]
 unfold Builtin.Tuple.tupleIsExact
 refine zu (zu (wpAny_typeOf ht.typeIs (ye ?_)))
 rw [zw (by decide)]
 exact zu (wpAny_rule (ye ⟨_,rfl,ye h⟩))
def cat_tup0 {t b:Addr}{ws:Af}{Q:Aa}(ht:IsTup s.heap t #[]) (hb:IsTup s.heap b ws.toArray) (h1:Q (.ref b) s):wpAny (model prog w) A (binaryOp .Add (.ref t) (.ref b)) Q E s:=by
 obtain ⟨⟨cls,dd,data,sl⟩,ho,hc,n,hd⟩:=id ht
 obtain ⟨⟨Dp,tu,data2,k8⟩,mK,qe,n2,hd2⟩:=id hb
 simp only at hc hd qe hd2
 subst hc hd qe hd2
 exact concat_meets ⟨_,ho,rfl⟩ ⟨_,mK,rfl⟩ noFill_tuple_add seq_tuple_add PySem.F.slot_tuple_add PySem.F.entry_tuple_add (PySem.F.args_tuple_add_2 _ _)
   (tuple_addW0 t b #[] ws.toArray n n2 dd tu sl k8 (by simp)) ⟨ho,mK,h1⟩
end
end HT
namespace Mi
open PySem L2 PySem.W PySem.Spec
section
variable {X:Cx} {Er:XK} {K:Frag} {mg:Ab}
def da (X:Cx) (o:Operator) (op:Am):Prop:=∃r,bh X (binaryOp o) r/\eE X.K X.mg r op
def cq (X:Cx) (o:CmpOp) (op:Am):Prop:=∃r,bh X (compareOp o) r/\eE X.K X.mg r op
def lE (X:Cx) (op:Am):Prop:=∃r,fR X r/\eE X.K X.mg r op
def vz (X:Cx) (o:UnaryOp) (op:PV->Mo PV):Prop:=∃r,qa X (unaryOp o) r/\Eu X.K X.mg r op
variable {a b c e:Expr} {pos:Pos} {fa fb fc:Ai}
def yd {o:Operator}{op:Am}(h:da X o op) (ha:ME X Er a fa) (hb:ME X Er b fb):ME X Er (.BinOp a o b pos) (zf op fa fb):=let ⟨_,h1,h2⟩:=h;O3 h1 h2 ha hb
def wO {o:CmpOp}{op:Am}(h:cq X o op) (ha:ME X Er a fa) (hb:ME X Er b fb) (hk:behindInMarks o b=false:=by first|exact og _|with_unfolding_all rfl):ME X Er (.Compare a [o] [b] pos) (zf op fa fb):=let ⟨_,h1,h2⟩:=h;O5 h1 h2 ha hb hk
def yk {o:CmpOp}{op:Am}(h:cq X o op) (ha:ME X Er a fa) (hb:ME X Er b fb) (hk:behindInMarks o b=false:=by first|exact og _|with_unfolding_all rfl):MT X Er (.Compare a [o] [b] pos) (mB (zf op fa fb)):=let ⟨_,h1,h2⟩:=h;O7 h1 h2 ha hb hk
def Pc {o o':CmpOp}{op er:Am}(h:cq X o op) (h':cq X o' er) (ha:ME X Er a fa) (hb:ME X Er b fb) (hc:ME X Er c fc)
  (hk:lastMarks [o,o'] [b,c]=false:=by with_unfolding_all rfl):ME X Er (.Compare a [o,o'] [b,c] pos) (qC op er fa fb fc):=let ⟨_,h1,h2⟩:=h;let ⟨_,h3,h4⟩:=h';O9 h1 h2 h3 h4 ha hb hc hk
def zB {op:Am}(h:lE X op) (ha:ME X Er a fa) (hb:ME X Er b fb) (hs:fQ b:=by exact λ_ _=>rfl):ME X Er (.Subscript a b pos) (zf op fa fb):=let ⟨_,h1,h2⟩:=h;Pb h1 h2 ha hb hs
def Pd {o:UnaryOp}{op:PV->Mo PV}(h:vz X o op) (ha:ME X Er a fa):ME X Er (.UnaryOp o a pos) (yq op fa):=let ⟨_,h1,h2⟩:=h;O_ h1 h2 ha
def Out.ifp {α:Type}{ρ:Ae}{H:Hp}{p:Prop} [Decidable p] {r:Res α}{good:List Addr->Hp->α->aa->Prop}(h:Out K mg ρ H (if p then r else .stuck) good Er):p/\Out K mg ρ H r good Er:=by
 split at h
 ·rename_i hp;exact ⟨hp,h⟩
 ·exact h.elim
def yu {α:Type}(st:aa) (n:Nat) (k:List PV->Res α):Res α:=match st[n]? with
 |some (.lst xs)=>k xs
 |_=>.stuck
def jm {α:Type}(st:aa) (n:Nat) (k:List Str->List PV->Res α):Res α:=match st[n]? with
 |some (.dic ks xs)=>k ks xs
 |_=>.stuck
def jc {α:Type}(st:aa) (n:Nat) (k:Str->List Str->List PV->Res α):Res α:=match st[n]? with
 |some (.ins c ks xs)=>k c ks xs
 |_=>.stuck
def jL {α:Type}{ρ:Ae}{H:Hp}{st:aa}{n:Nat}{k:List PV->Res α}{good:List Addr->Hp->α->aa->Prop}(h:Out K mg ρ H (yu st n k) good Er):∃xs,st[n]?=some (.lst xs)/\Out K mg ρ H (k xs) good Er:=by
 unfold yu at h
 split at h
 ·rename_i xs e;exact ⟨xs,e,h⟩
 ·exact h.elim
def Ez {α:Type}{ρ:Ae}{H:Hp}{st:aa}{n:Nat}{k:List Str->List PV->Res α}{good:List Addr->Hp->α->aa->Prop}(h:Out K mg ρ H (jm st n k) good Er):∃ks xs,st[n]?=some (.dic ks xs)/\Out K mg ρ H (k ks xs) good Er:=by
 unfold jm at h
 split at h
 ·rename_i ks xs e;exact ⟨ks,xs,e,h⟩
 ·exact h.elim
def EA {α:Type}{ρ:Ae}{H:Hp}{st:aa}{n:Nat}{k:Str->List Str->List PV->Res α}{good:List Addr->Hp->α->aa->Prop}(h:Out K mg ρ H (jc st n k) good Er):∃c ks xs,st[n]?=some (.ins c ks xs)/\Out K mg ρ H (k c ks xs) good Er:=by
 unfold jc at h
 split at h
 ·rename_i c ks xs e;exact ⟨c,ks,xs,e,h⟩
 ·exact h.elim
def opI (C:Int->Int->Bool) (g:Int->Int->Int):Am
 |.int i,.int j,st=>if C i j=true then .ok (.int (g i j)) st else .stuck
 |_,_,_=>.stuck
def kf {C:Int->Int->Bool}{g:Int->Int->Int}{P:Int->Int->Prop}(hC:∀i j,C i j=true->P i j):eE K mg (rI P λi j=>.int (g i j)) (opI C g):=by
 intro ρ H st x y v w Q E s rx ry h
 cases x with
 |int i =>
  cases y with
  |int j =>
   cases rx;cases ry
   obtain ⟨c,h⟩:=Out.ifp h
   exact ⟨i,j,rfl,rfl,hC i j c,h.now s _ rfl⟩
  |_=>exact h.elim
 |_=>exact h.elim
abbrev c0:Int->Int->Bool:=λ_ _=>true
def xV {g:Int->Int->V}{f:Value->Value->Sem Value}(h:bh X f (ia g)):bh X f (rI (λ_ _=>True) g):=λpins s U H x y v u Q I rx ry ⟨i,j,h1,h2,_,q⟩=>h pins s U H x y v u Q I rx ry ⟨i,j,h1,h2,q⟩
abbrev lF:=opI c0 λi j=>i-j
abbrev cY:Int->Int->Bool:=λi j=>(decide (-(2 ^ 64)<i)&&decide (i<2 ^ 64))||(decide (-(2 ^ 64)<j)&&decide (j<2 ^ 64))
abbrev EE:=opI cY λi j=>i*j
abbrev dS:Int->Int->Bool:=λi j=>decide (0<=j)&&decide (j<=1000000)&&decide (i.natAbs<2 ^ 64)
abbrev iq:=opI dS λi j=>i ^ j.toNat
abbrev EF:Int->Int->Bool:=λ_ j=>decide (j≠0)
def jG (i j:Int):Int:=if 0<j then i%j else i.fmod j
abbrev yF:=opI EF jG
abbrev tU:Int->Int->Bool:=λ_ j=>decide (j≠0)&&decide (j.natAbs<2 ^ 200)
def y0 (i j:Int):Int:=if 0<j then i/j else i.fdiv j
abbrev jh:=opI tU y0
theorem tV (i j:Int):jG i j=i.fmod j:=by
 unfold jG;split
 ·rename_i h;rw [Int.fmod_eq_emod_of_nonneg _ (by omega)]
 ·rfl
def EG (i j:Int):y0 i j=i.fdiv j:=by
 unfold y0;split
 ·rename_i h;rw [Int.fdiv_eq_ediv_of_nonneg _ (by omega)]
 ·rfl
def zb3:da X .Sub lF:=⟨_,xV LD,kf λ_ _ _=>trivial⟩
def Pe:da X .Mult EE:=⟨_,fP,kf λi j h=>by simpa [cY,n_] using h⟩
def zd1:da X .Pow iq:=⟨_,LG,kf λi j h=>by simp [dS] at h;exact ⟨h.1.1,h.1.2,h.2⟩⟩
def jR:da X .Mod yF:=⟨_,LF,by
 have h:(λi j=>V.int (i.fmod j))=λi j=>V.int (jG i j):=by funext i j;rw [tV]
 rw [h];exact kf λi j h=>by simpa [EF] using h⟩
theorem Pf {y:Int}(h:y.natAbs<2 ^ 200):y.natAbs.log2<9000:=by
 by_cases h0:y.natAbs=0
 ·rw [h0];decide
 ·have:=(Nat.log2_lt h0).mpr h
  omega
def Pg:bh X (binaryOp .FloorDiv) (rI (λ_ j=>j≠0/\j.natAbs<2 ^ 200) λi j=>.int (i.fdiv j)):=L2.opI λ_ _ _ _ _ _ _ hc q=>PyProof.Rows.floordiv_int hc.1 q (.inl (PyProof.noPylong_of_log2 (Pf hc.2)))
def wF:da X .FloorDiv jh:=⟨_,Pg,by
 have h:(λi j=>V.int (i.fdiv j))=λi j=>V.int (y0 i j):=by funext i j;rw [EG]
 rw [h];exact kf λi j h=>by simpa [tU] using h⟩
def oU:PV->Mo PV
 |.int i,st=>.ok (.int (-i)) st
 |_,_=>.stuck
def Ph:vz X .USub oU:=⟨_,LO,by
 intro ρ H st x v Q E s rx h
 cases x with
 |int i=>cases rx;exact ⟨i,rfl,Out.now (x:=PV.int (-i)) h s _ rfl⟩
 |_=>exact h.elim⟩
def yG:Am
 |.int i,.int j,st=>.ok (.int (i+j)) st
 |.str x,.str y,st=>if x.length+y.length<=lim then .ok (.str (x++y)) st else .stuck
 |.tup xs,.tup ys,st=>if xs.length+ys.length<=lim then .ok (.tup (xs++ys)) st else .stuck
 |.ref n,.ref m,st=>yu st n λxs=>yu st m λys=>if xs.length+ys.length<=lim then .ok (.ref st.length) (st++[.lst (xs++ys)]) else .stuck
 |_,_,_=>.stuck
def Pj (K:Frag):R2:=λx y H Q=>∃a b ys,x=.ref a/\y=.ref b/\ba K H a []/\ba K H b ys/\Q (.ref b) H
def Pk:bh X (binaryOp .Add) (Pj X.K):=by
 intro pins s U H x y v u Q I rx ry h
 obtain ⟨a,b,ys,rfl,rfl,h1,h2,q⟩:=h
 cases rx;cases ry
 obtain ⟨i1,r1,p1,_⟩:=I.tuple h1
 obtain ⟨i2,r2,p2,_⟩:=I.tuple h2
 cases r1
 exact HT.cat_tup0 p1 p2 ⟨.ref b,H,I,rfl,q⟩
def jB:da X .Add yG:=⟨_,fO.or (L4.or (Pk.or (Nb.or Nx))),by
 intro ρ H st x y v w Q E s rx ry h
 cases x with
 |int i =>
  cases y with
  |int j=>cases rx;cases ry;exact .inl ⟨i,j,rfl,rfl,Out.now (x:=PV.int (i+j)) h s _ rfl⟩
  |_=>exact h.elim
 |str i =>
  cases y with
  |str j =>
   cases rx;cases ry
   obtain ⟨c,h⟩:=Out.ifp h
   exact .inr (.inl ⟨i,j,rfl,rfl,jb c,h.now s _ rfl⟩)
  |_=>exact h.elim
 |tup xs =>
  cases y with
  |tup ys =>
   obtain ⟨p,vs,rfl,h1,h2⟩:=rx
   obtain ⟨q,ws,rfl,h3,h4⟩:=ry
   obtain ⟨c,h⟩:=Out.ifp h
   cases xs with
   |nil =>
    cases h2
    exact .inr (.inr (.inl ⟨p,q,ws,rfl,rfl,h1,h3,h.now s _ ⟨q,ws,rfl,h3,h4⟩⟩))
   |cons x0 EH =>
    refine .inr (.inr (.inr (.inl ⟨p,q,vs,ws,rfl,rfl,h1,h3,?_,?_,λe=>?_,λ_ l hl=>?_⟩)))
    ·obtain ⟨v0,r0,e0,_⟩:=h2;rw [e0];simp
    ·rw [<-h2.len,<-h4.len];exact jb c
    ·subst e
     have:ys=[]:=by have:=h4.len;simpa using this
     subst this
     exact h.now s _ ⟨p,vs,rfl,h1,by simpa using h2⟩
    ·exact h ρ _ (Ext.new hl) (s.new hl) _ (R.tup_of (h2.append h4) hl)
  |_=>exact h.elim
 |ref n =>
  cases y with
  |ref m =>
   obtain ⟨p,rfl,hp⟩:=rx
   obtain ⟨q,rfl,hq⟩:=ry
   obtain ⟨xs,e1,h⟩:=jL h
   obtain ⟨ys,e2,h⟩:=jL h
   obtain ⟨c,h⟩:=Out.ifp h
   obtain ⟨vs,h1,h2⟩:=s.addr e1 hp
   obtain ⟨ws,h3,h4⟩:=s.addr e2 hq
   exact .inr (.inr (.inr (.inr ⟨p,q,vs,ws,rfl,rfl,h1,h3,by rw [<-h2.len,<-h4.len];exact jb c,λl hl=>Out.newList h s (h2.append h4) hl⟩)))
  |_=>exact h.elim
 |_=>exact h.elim⟩
def tX (g:Int->Int->Bool):Am
 |.int i,.int j,st=>.ok (.bl (g i j)) st
 |_,_,_=>.stuck
def EI {g:Int->Int->Bool}:eE K mg (ia λi j=>.bl (g i j)) (tX g):=by
 intro ρ H st x y v w Q E s rx ry h
 cases x with
 |int i =>
  cases y with
  |int j=>cases rx;cases ry;exact ⟨i,j,rfl,rfl,Out.now (x:=PV.bl (g i j)) h s _ rfl⟩
  |_=>exact h.elim
 |_=>exact h.elim
abbrev jX:=tX λi j=>decide (i<j)
abbrev nr:=tX λi j=>decide (j<i)
def zae:cq X .Lt jX:=⟨_,LU,EI⟩
def ziA:cq X .Gt nr:=⟨_,LV,EI⟩
def gj:PV->Bool
 |.non=>true
 |_=>false
def EJ:Am
 |x,.non,st=>.ok (.bl (!gj x)) st
 |_,_,_=>.stuck
def Pl {ρ:Ae}{H:Hp}{x:PV}{v:V}(r:R K mg ρ H x v):decide (v=.non)=gj x:=by
 cases x with
 |non=>cases r;rfl
 |bl _=>cases r;rfl
 |int _=>cases r;rfl
 |str _=>cases r;rfl
 |ty _=>cases r;rfl
 |tup _=>obtain ⟨_,_,rfl,_⟩:=r;rfl
 |frl _=>obtain ⟨_,_,rfl,_⟩:=r;rfl
 |ref _=>obtain ⟨_,rfl,_⟩:=r;rfl
 |fn _=>obtain ⟨_,rfl,_⟩:=r;rfl
 |kd _ _=>obtain ⟨_,_,_,rfl,_⟩:=r;rfl
 |exo _ _ _=>obtain ⟨_,_,_,_,rfl,_⟩:=r;rfl
def Pm:cq X .IsNot EJ:=⟨_,LX,by
 intro ρ H st x y v w Q E s rx ry h
 cases y with
 |non=>cases ry;exact ⟨rfl,by rw [Pl rx];exact Out.now (x:=PV.bl (!gj x)) h s _ rfl⟩
 |_=>exact h.elim⟩
def xW {ρ:Ae}{H:Hp}{xs:An}{vs:List V}{i:Int}{x:PV}(r:Rs K mg ρ H xs vs) (h:cN xs i=some x):∃v,cN vs i=some v/\R K mg ρ H x v:=by
 unfold cN at h ⊢
 rw [<-r.len]
 cases hj:fH xs.length i with
 |none=>rw [hj] at h;cases h
 |some j =>
  rw [hj] at h
  obtain ⟨v,h1,h2⟩:=r.get (show xs[j]?=some x from h)
  exact ⟨v,h1,h2⟩
def cg:Option PV->Mo PV
 |some x,st=>.ok x st
 |none,_=>.stuck
def xX:Am
 |.tup xs,.int i,st=>cg (cN xs i) st
 |.frl xs,.int i,st=>cg (cN xs i) st
 |.str z,.int i,st=>if z.length<=lim then cg ((cN z.cps.toList i).map λc=>.str ⟨#[c]⟩) st else .stuck
 |.ref n,.int i,st=>yu st n λxs=>cg (cN xs i) st
 |_,_,_=>.stuck
def lG {ρ:Ae}{H:Hp}{o:Ao}{st:aa}{good}(h:Out K mg ρ H (cg o st) good Er):∃x,o=some x/\Out K mg ρ H (.ok x st) good Er:=by
 cases o with
 |some x=>exact ⟨x,rfl,h⟩
 |none=>exact h.elim
def Pn:lE X xX:=⟨_,Ni,by
 intro ρ H st x y v w Q E s rx ry h
 cases x with
 |tup xs =>
  cases y with
  |int i =>
   cases ry
   obtain ⟨p,vs,rfl,h1,h2⟩:=rx
   obtain ⟨x,e,h⟩:=lG h
   obtain ⟨v,h3,h4⟩:=xW h2 e
   exact .inr (.inl ⟨p,vs,i,v,rfl,rfl,h1,h3,h.now s _ h4⟩)
  |_=>exact h.elim
 |frl xs =>
  cases y with
  |int i =>
   cases ry
   obtain ⟨p,vs,rfl,h1,h2⟩:=rx
   obtain ⟨x,e,h⟩:=lG h
   obtain ⟨v,h3,h4⟩:=xW h2 e
   exact .inl ⟨p,vs,i,v,rfl,rfl,h1.sq,h3,h.now s _ h4⟩
  |_=>exact h.elim
 |str z =>
  cases y with
  |int i =>
   cases ry;cases rx
   obtain ⟨c,h⟩:=Out.ifp h
   obtain ⟨x,e,h⟩:=lG h
   cases hc:cN z.cps.toList i with
   |none=>rw [hc] at e;cases e
   |some k =>
    rw [hc] at e
    cases e
    exact .inr (.inr ⟨z,i,k,rfl,rfl,jb c,hc,h.now s _ rfl⟩)
  |_=>exact h.elim
 |ref n =>
  cases y with
  |int i =>
   cases ry
   obtain ⟨p,rfl,hp⟩:=rx
   obtain ⟨xs,e1,h⟩:=jL h
   obtain ⟨vs,h1,h2⟩:=s.addr e1 hp
   obtain ⟨x,e,h⟩:=lG h
   obtain ⟨v,h3,h4⟩:=xW h2 e
   exact .inl ⟨p,vs,i,v,rfl,rfl,aZ.of h1,h3,h.now s _ h4⟩
  |_=>exact h.elim
 |_=>exact h.elim⟩
end
mutual
def plain:PV->Bool
 |.non=>true
 |.bl _=>true
 |.int _=>true
 |.str _=>true
 |.tup xs=>bI xs
 |_=>false
def bI:List PV->Bool
 |[]=>true
 |x::xs=>plain x&&bI xs
end
mutual
def dep:PV->Nat
 |.tup xs=>dz xs+1
 |_=>0
def dz:List PV->Nat
 |[]=>0
 |x::xs=>max (dep x) (dz xs)
end
mutual
def bu:PV->PV->Bool
 |.non,.non=>true
 |.bl a,.bl b=>a==b
 |.bl a,.int b=>(if a then 1 else 0)==b
 |.int a,.bl b=>a==(if b then 1 else 0)
 |.int a,.int b=>a==b
 |.str a,.str b=>a==b
 |.tup xs,.tup ys=>eR xs ys
 |_,_=>false
def eR:List PV->List PV->Bool
 |[],[]=>true
 |x::xs,y::ys=>bu x y&&eR xs ys
 |_,_=>false
end
section
variable {X:Cx} {K:Frag} {mg:Ab} {ρ:Ae} {pins:Ac} {U:L2.St} {H:Hp} {s:Shared}
mutual
theorem EK (I:Inv X pins U H s):∀(x y:PV) {v:V},plain x=true->plain y=true->R X.K mg ρ H x v->R X.K mg ρ H y v->bu x y=true
 |.non,y,v,_,py,rx,ry=>by
  cases rx
  cases y with
  |non=>rfl
  |tup ys=>obtain ⟨_,_,e,_⟩:=ry;cases e
  |bl _=>cases ry
  |int _=>cases ry
  |str _=>cases ry
  |_=>cases py
 |.bl a,y,v,_,py,rx,ry=>by
  cases rx
  cases y with
  |bl b=>cases ry;simp [bu]
  |tup ys=>obtain ⟨_,_,e,_⟩:=ry;cases e
  |non=>cases ry
  |int _=>cases ry
  |str _=>cases ry
  |_=>cases py
 |.int a,y,v,_,py,rx,ry=>by
  cases rx
  cases y with
  |int b=>cases ry;simp [bu]
  |tup ys=>obtain ⟨_,_,e,_⟩:=ry;cases e
  |non=>cases ry
  |bl _=>cases ry
  |str _=>cases ry
  |_=>cases py
 |.str a,y,v,_,py,rx,ry=>by
  cases rx
  cases y with
  |str b=>cases ry;simp [bu]
  |tup ys=>obtain ⟨_,_,e,_⟩:=ry;cases e
  |non=>cases ry
  |bl _=>cases ry
  |int _=>cases ry
  |_=>cases py
 |.tup xs,y,v,px,py,rx,ry=>by
  obtain ⟨a,vs,rfl,h1,h2⟩:=rx
  cases y with
  |tup ys =>
   obtain ⟨b,ws,e,h3,h4⟩:=ry
   cases e
   have:=I.tuple_inj h1 h3
   subst this
   exact lH I xs ys px py h2 h4
  |non=>cases ry
  |bl _=>cases ry
  |int _=>cases ry
  |str _=>cases ry
  |_=>cases py
 |.ty _,_,_,px,_,_,_=>by cases px
 |.frl _,_,_,px,_,_,_=>by cases px
 |.ref _,_,_,px,_,_,_=>by cases px
 |.fn _,_,_,px,_,_,_=>by cases px
 |.kd _ _,_,_,px,_,_,_=>by cases px
 |.exo _ _ _,_,_,px,_,_,_=>by cases px
theorem lH (I:Inv X pins U H s):∀(xs ys:An) {vs:List V},bI xs=true->bI ys=true->Rs X.K mg ρ H xs vs->Rs X.K mg ρ H ys vs->eR xs ys=true
 |[],ys,vs,_,py,rx,ry=>by
  cases rx
  cases ys with
  |nil=>rfl
  |cons y ys=>obtain ⟨_,_,e,_⟩:=ry;cases e
 |x::xs,ys,vs,px,py,rx,ry=>by
  obtain ⟨v,r,rfl,h1,h2⟩:=rx
  cases ys with
  |nil=>cases ry
  |cons y ys =>
   obtain ⟨v',r',e,h3,h4⟩:=ry
   cases e
   simp only [bI,jZ] at px py
   simp only [eR,jZ]
   exact ⟨EK I x y px.1 py.1 h1 h3,lH I xs ys px.2 py.2 h2 h4⟩
end
def fY (xs ys:An) (j:Nat):Bool:=match xs[j]?,ys[j]? with
 |some x,some y=>bu x y
 |_,_=>true
theorem EL:∀(xs ys:An),((List.range (min xs.length ys.length)).all (fY xs ys)&&xs.length==ys.length)=eR xs ys
 |[],[]=>rfl
 |[],y::ys=>by simp [eR]
 |x::xs,[]=>by simp [eR]
 |x::xs,y::ys=>by
  have ih:=EL xs ys
  have e1:min (x::xs).length (y::ys).length=min xs.length ys.length+1:=by simp only [wM];omega
  have e2:((x::xs).length==(y::ys).length)=(xs.length==ys.length):=by
   rw [Bool.eq_iff_iff];simp
  rw [e1,e2,List.range_succ_eq_map,List.all_cons,List.all_map]
  have e3:(fY (x::xs) (y::ys)∘Nat.succ)=fY xs ys:=by
   funext j
   simp [fY]
  rw [e3,Bool.and_assoc,ih]
  simp [eR,fY]
theorem xY:∀{xs:An}{i:Nat}{x:PV},xs[i]?=some x->dep x<=dz xs
 |[],_,_,e=>by simp at e
 |y::xs,0,x,e=>by simp at e;subst e;simp only [dz];omega
 |y::xs,i+1,x,e=>by
  simp at e
  have:=xY e
  simp only [dz];omega
theorem tY:∀{xs:An}{i:Nat}{x:PV},bI xs=true->xs[i]?=some x->plain x=true
 |[],_,_,_,e=>by simp at e
 |y::xs,0,x,p,e=>by simp at e;subst e;simp only [bI,jZ] at p;exact p.1
 |y::xs,i+1,x,p,e=>by
  simp at e
  simp only [bI,jZ] at p
  exact tY p.2 e
def EM (A:Around):A.in1.units=A.units+1:=rfl
theorem xZ (I:Inv X pins U H s):∀(n:Nat) (x y:PV) {v w:V}{u u':Value}(A:Around),dep x<=n->plain x=true->plain y=true->R X.K mg ρ H x v->R X.K mg ρ H y w->RelV v u->RelV w u'->A.units+n<cLine ->
  SeqAt.EqAt A s u u' (bu x y)/\SeqAt.RcAt A s u u' (bu x y)/\SeqAt.RcNeAt A s u u' (!bu x y):=by
 intro n
 induction n with
 |zero =>
  intro x y v w u u' A hd px py rx ry rv rw hu
  cases x with
  |tup xs=>simp only [dep] at hd;omega
  |non =>
   cases rx;cases rv
   cases y with
   |non=>cases ry;cases rw;exact ⟨.same _,.none_none,.none_none⟩
   |bl b=>cases ry;cases rw;exact ⟨.none_bool b,.none_bool b,.none_bool b⟩
   |int b=>cases ry;obtain ⟨t,rfl⟩:=rw;exact ⟨.none_int b t,.none_int b t,.none_int b t⟩
   |str b=>cases ry;obtain ⟨t,rfl⟩:=rw;exact ⟨.none_str b t,.none_str b t,.none_str b t⟩
   |tup ys =>
    obtain ⟨p,ws,rfl,h1,h2⟩:=ry
    cases rw
    obtain ⟨its,_,pl,_⟩:=I.tuple h1
    exact ⟨.none_tuple pl (by omega),.none_tuple pl (by omega),.none_tuple pl (by omega)⟩
   |_=>cases py
  |bl a =>
   cases rx;cases rv
   cases y with
   |non=>cases ry;cases rw;exact ⟨.bool_none a,.bool_none a,.bool_none a⟩
   |bl b=>cases ry;cases rw;exact ⟨.bool_bool a b,.bool_bool a b,.bool_bool a b⟩
   |int b=>cases ry;obtain ⟨t,rfl⟩:=rw;exact ⟨.bool_int a b t,.bool_int a b t,.bool_int a b t⟩
   |str b=>cases ry;obtain ⟨t,rfl⟩:=rw;exact ⟨.bool_str a b t,.bool_str a b t,.bool_str a b t⟩
   |tup ys =>
    obtain ⟨p,ws,rfl,h1,h2⟩:=ry
    cases rw
    obtain ⟨its,_,pl,_⟩:=I.tuple h1
    exact ⟨.bool_tuple a pl (by omega),.bool_tuple a pl (by omega),.bool_tuple a pl (by omega)⟩
   |_=>cases py
  |int a =>
   cases rx;obtain ⟨t0,rfl⟩:=rv
   cases y with
   |non=>cases ry;cases rw;exact ⟨.int_none a t0,.int_none a t0,.int_none a t0⟩
   |bl b=>cases ry;cases rw;exact ⟨.int_bool a t0 b,.int_bool a t0 b,.int_bool a t0 b⟩
   |int b=>cases ry;obtain ⟨t,rfl⟩:=rw;exact ⟨.int_int a t0 b t,.int_int a t0 b t,.int_int a t0 b t⟩
   |str b=>cases ry;obtain ⟨t,rfl⟩:=rw;exact ⟨.int_str a t0 b t,.int_str a t0 b t,.int_str a t0 b t⟩
   |tup ys =>
    obtain ⟨p,ws,rfl,h1,h2⟩:=ry
    cases rw
    obtain ⟨its,_,pl,_⟩:=I.tuple h1
    exact ⟨.int_tuple a t0 pl (by omega),.int_tuple a t0 pl (by omega),.int_tuple a t0 pl (by omega)⟩
   |_=>cases py
  |str a =>
   cases rx;obtain ⟨t0,rfl⟩:=rv
   cases y with
   |non=>cases ry;cases rw;exact ⟨.str_none a t0,.str_none a t0,.str_none a t0⟩
   |bl b=>cases ry;cases rw;exact ⟨.str_bool a t0 b,.str_bool a t0 b,.str_bool a t0 b⟩
   |int b=>cases ry;obtain ⟨t,rfl⟩:=rw;exact ⟨.str_int a t0 b t,.str_int a t0 b t,.str_int a t0 b t⟩
   |str b=>cases ry;obtain ⟨t,rfl⟩:=rw;exact ⟨.str_str a t0 b t,.str_str a t0 b t,.str_str a t0 b t⟩
   |tup ys =>
    obtain ⟨p,ws,rfl,h1,h2⟩:=ry
    cases rw
    obtain ⟨its,_,pl,_⟩:=I.tuple h1
    exact ⟨.str_tuple a t0 pl (by omega),.str_tuple a t0 pl (by omega),.str_tuple a t0 pl (by omega)⟩
   |_=>cases py
  |_=>cases px
 |succ n ih =>
  intro x y v w u u' A hd px py rx ry rv rw hu
  cases x with
  |tup xs =>
   obtain ⟨a,vs,rfl,h1,h2⟩:=id rx
   cases rv
   obtain ⟨its,r1,p1,_⟩:=I.tuple h1
   cases y with
   |non=>cases ry;cases rw;exact ⟨.tuple_none p1 (by omega),.tuple_none p1 (by omega),.tuple_none p1 (by omega)⟩
   |bl b=>cases ry;cases rw;exact ⟨.tuple_bool b p1 (by omega),.tuple_bool b p1 (by omega),.tuple_bool b p1 (by omega)⟩
   |int b=>cases ry;obtain ⟨t,rfl⟩:=rw;exact ⟨.tuple_int b t p1 (by omega),.tuple_int b t p1 (by omega),.tuple_int b t p1 (by omega)⟩
   |str b=>cases ry;obtain ⟨t,rfl⟩:=rw;exact ⟨.tuple_str b t p1 (by omega),.tuple_str b t p1 (by omega),.tuple_str b t p1 (by omega)⟩
   |tup ys =>
    obtain ⟨b,ws,rfl,h3,h4⟩:=id ry
    cases rw
    obtain ⟨cM,r2,p2,_⟩:=I.tuple h3
    have l1:=h2.len
    have l2:=h4.len
    have l3:=r1.length
    have l4:=r2.length
    have item:∀j (g1:j<its.toArray.size) (g2:j<cM.toArray.size),SeqAt.EqAt A.in1 s its.toArray[j] cM.toArray[j] (fY xs ys j):=λj g1 g2=>by
     have k1:j<xs.length:=by rw [l1,l3];simpa using g1
     have k2:j<ys.length:=by rw [l2,l4];simpa using g2
     obtain ⟨v1,e1,Po⟩:=h2.get (yx k1)
     obtain ⟨v2,e2,Pp⟩:=h4.get (yx k2)
     obtain ⟨u1,f1,Pq⟩:=r1.get e1
     obtain ⟨u2,f2,Pr⟩:=r2.get e2
     have w1:its.toArray[j]=u1:=by
      obtain ⟨_,z⟩:=yD.mp f1
      simpa using z
     have w2:cM.toArray[j]=u2:=by
      obtain ⟨_,z⟩:=yD.mp f2
      simpa using z
     have ej:fY xs ys j=bu xs[j] ys[j]:=by
      unfold fY
      rw [yx k1,yx k2]
     rw [w1,w2,ej]
     have Ze:=xY (yx k1)
     simp only [dep] at hd
     exact (ih xs[j] ys[j] A.in1 (by omega) (tY px (yx k1)) (tY py (yx k2)) Po Pp Pq Pr (by rw [EM];omega)).1
    have vA:((List.range (min its.toArray.size cM.toArray.size)).all (fY xs ys)&&its.toArray.size==cM.toArray.size)=bu (.tup xs) (.tup ys):=by
     have e:=EL xs ys
     rw [l1,l2,l3,l4] at e
     simpa [bu] using e
    have rc:SeqAt.RcAt A s (.ref a) (.ref b) (bu (.tup xs) (.tup ys)):=by
     rw [<-vA]
     exact SeqAt.RcAt.tuples (show s.heap.IsTuple a its.toArray from p1) (show s.heap.IsTuple b cM.toArray from p2) (by omega) item
    refine ⟨?_,rc,?_⟩
    ·by_cases hab:a=b
     ·subst hab
      rw [EK I (.tup xs) (.tup ys) px py rx ry]
      exact .same _
     ·exact .of_refs hab rc
    ·rw [<-vA]
     exact SeqAt.RcNeAt.tuples (show s.heap.IsTuple a its.toArray from p1) (show s.heap.IsTuple b cM.toArray from p2) (by omega) item
   |_=>cases py
  |non=>exact ih _ y A (jJ _) px py rx ry rv rw (by omega)
  |bl a=>exact ih _ y A (jJ _) px py rx ry rv rw (by omega)
  |int a=>exact ih _ y A (jJ _) px py rx ry rv rw (by omega)
  |str a=>exact ih _ y A (jJ _) px py rx ry rv rw (by omega)
  |_=>cases px
def zZ:Am:=λx y st=>if plain x=true/\plain y=true/\dep x<=150 then .ok (.bl (bu x y)) st else .stuck
def j9:Am:=λx y st=>if plain x=true/\plain y=true/\dep x<=150 then .ok (.bl (!bu x y)) st else .stuck
def EN (K:Frag) (mg:Ab) (f:Bool->Bool):R2:=λv w H Q=>∃ρ x y,plain x=true/\plain y=true/\dep x<=150/\R K mg ρ H x v/\R K mg ρ H y w/\Q (.bl (f (bu x y))) H
theorem Pt (hu:X.A.units+200<cLine):bh X (compareOp .Eq) (EN X.K X.mg id):=by
 intro pins s U H x y v u Q I rx ry h
 obtain ⟨ρ,a,b,pa,pb,hd,ra,rb,q⟩:=h
 exact PySem.EqBoolInt.of_rc (xZ I 150 a b X.A hd pa pb ra rb rx ry (by omega)).2.1 ⟨.bl _,H,I,rfl,q⟩
def Pu (hu:X.A.units+200<cLine):bh X (compareOp .NotEq) (EN X.K X.mg not):=by
 intro pins s U H x y v u Q I rx ry h
 obtain ⟨ρ,a,b,pa,pb,hd,ra,rb,q⟩:=h
 exact PySem.EqBoolInt.of_rcne (xZ I 150 a b X.A hd pa pb ra rb rx ry (by omega)).2.2 ⟨.bl _,H,I,rfl,q⟩
def yC (hu:X.A.units+200<cLine):cq X .Eq zZ:=⟨_,Pt hu,fun ρ H st x y v w Q E s rx ry h=>by
 obtain ⟨⟨p1,p2,p3⟩,h⟩:=Out.ifp h
 exact ⟨ρ,x,y,p1,p2,p3,rx,ry,h.now s _ rfl⟩⟩
def zb5 (hu:X.A.units+200<cLine):cq X .NotEq j9:=⟨_,Pu hu,fun ρ H st x y v w Q E s rx ry h=>by
 obtain ⟨⟨p1,p2,p3⟩,h⟩:=Out.ifp h
 exact ⟨ρ,x,y,p1,p2,p3,rx,ry,h.now s _ rfl⟩⟩
end
section
variable {X:Cx} {Er:XK} {K:Frag} {mg:Ab} {a b c e:Expr} {es:List Expr} {pos:Pos} {fa:Ai} {fs:Ah}
def Pw (K:Frag) (mg:Ab) (Er:XK) (f:zb->Mo (Option Int)):TO:=λU H Q=>∃env st ρ,a8 K mg ρ H env U/\bf K mg ρ H st/\Out K mg ρ H (f env st) (λ_ H' o _=>Q o H') Er
def MO (X:Cx) (Er:XK) (e:Option Expr) (f:zb->Mo (Option Int)):Prop:=PO X e (Pw X.K X.mg Er f)
def gQ:zb->Mo (Option Int):=λ_ st=>.ok none st
def x5:PV->Mo (Option Int)
 |.int i,st=>.ok (some i) st
 |_,_=>.stuck
def dc (f:Ai):zb->Mo (Option Int):=λenv st=>(f env st).bind x5
def PO.weak {o:Option Expr}{t t':TO}(h:PO X o t) (w:∀U H Q,t' U H Q->t U H Q):PO X o t':=λpins s U H Q I q=>h pins s U H Q I (w U H Q q)
def zqa:MO X Er none gQ:=PO.weak MY λU H Q ⟨env,st,ρ,re,rs,h⟩=>h.now rs
def zfu (h:ME X Er e fa):MO X Er (some e) (dc fa):=PO.weak (MZ h) λU H Q ⟨env,st,ρ,re,rs,h⟩=>⟨env,st,ρ,re,rs,h.then λag H1 x ae e1 s1 h1 v rv=>by
 cases x with
 |int i=>cases rv;exact ⟨i,rfl,Out.now (x:=some i) h1 s1⟩
 |_=>exact h1.elim⟩
def dM (xs:An) (lo hi:Option Int):An:=(xs.drop (HT.sIx xs.length 0 lo)).take (HT.sIx xs.length xs.length hi-HT.sIx xs.length 0 lo)
def qD:PV->Option Int->Option Int->Mo PV
 |.tup xs,lo,hi,st=>.ok (.tup (dM xs lo hi)) st
 |.frl xs,lo,hi,st=>.ok (.ref st.length) (st++[.lst (dM xs lo hi)])
 |.ref n,lo,hi,st=>yu st n λxs=>.ok (.ref st.length) (st++[.lst (dM xs lo hi)])
 |.str z,lo,hi,st=>if z.length<=lim then .ok (.str (Txt.slice z lo hi)) st else .stuck
 |_,_,_,_=>.stuck
def Rs.cut {ρ:Ae}{H:Hp}{xs:An}{vs:List V}(r:Rs K mg ρ H xs vs) (lo hi:Option Int):Rs K mg ρ H (dM xs lo hi) (gv vs lo hi):=by
 unfold dM gv
 rw [r.len]
 exact (r.drop _).take _
def Px (K:Frag):V->Option Int->Option Int->Hp->VK->Prop:=λx lo hi H Q=>∃a xs,x=.ref a/\ba K H a xs/\(HT.sIx xs.length 0 lo=0/\HT.sIx xs.length xs.length hi=xs.length)/\Q (.ref a) H
def Py:iV X (Px X.K):=by
 intro pins s U H x v vl vu lo hi sl Q I rx hs pl pu h
 obtain ⟨a,xs,rfl,hx,hw,q⟩:=h
 cases rx
 obtain ⟨its,r,ht,hz⟩:=I.tuple hx
 have hlen:its.toArray.size=xs.length:=by rw [y9];exact r.length.symm
 refine ⟨"tuple", _,PyProof.Rows.slot_tuple_getitem.lookup,ht.typeIs,?_⟩
 exact HT.getItem_tuple_all ht hs pl pu (by rw [hlen];exact hw) ⟨.ref a,H,I,rfl,q⟩ (by rw [hlen];exact hz)
def kg (fa:Ai) (fl fu:zb->Mo (Option Int)):Ai:=λenv st=>(fa env st).bind λx ae=>(fl env ae).bind λl au=>(fu env au).bind λu aY=>qD x l u aY
def EO {lo hi:Option Expr}{fl fu:zb->Mo (Option Int)}{p2:Pos}(ha:ME X Er a fa) (hl:MO X Er lo fl) (hu:MO X Er hi fu):ME X Er (.Subscript a (.Slice lo hi none p2) pos) (kg fa fl fu) :=
 PE.weak (M5 (M_.or (Py.or (Nm.or NL))) ha hl hu) λU H Q ⟨env,st,ρ,re,rs,h⟩=>⟨env,st,ρ,re,rs,h.then λag H1 x ae e1 s1 h1 v rv=>⟨env,ae,ag,re.ext e1,s1,h1.then λao H2 l au e2 s2 h2 =>
  ⟨env,au,ao,(re.ext e1).ext e2,s2,h2.then λam H3 u aY e3 s3 h3=>by
  have rv:=R.ext e3 x (R.ext e2 x rv)
  cases x with
  |tup xs =>
   obtain ⟨p,vs,rfl,k1,k2⟩:=rv
   by_cases hw:HT.sIx vs.length 0 l=0/\HT.sIx vs.length vs.length u=vs.length
   ·refine .inr (.inl ⟨p,vs,rfl,k1,hw,Out.now (x:=PV.tup (dM xs l u)) h3 s3 _ ⟨p,vs,rfl,k1,?_⟩⟩)
    have:dM xs l u=xs:=by
     unfold dM
     rw [k2.len,hw.1,hw.2]
     simp [<-k2.len]
    rw [this];exact k2
   ·exact .inl ⟨p,vs,rfl,k1,hw,λq hq=>h3 am _ (Ext.new hq) (s3.new hq) _ (R.tup_of (k2.cut l u) hq)⟩
  |frl xs =>
   obtain ⟨p,vs,rfl,k1,k2⟩:=rv
   exact .inr (.inr (.inl ⟨p,vs,rfl,k1.sq,λq hq=>Out.newList (xs:=dM xs l u) h3 s3 (k2.cut l u) hq⟩))
  |ref n =>
   obtain ⟨p,rfl,hp⟩:=rv
   obtain ⟨xs,k0,h3⟩:=jL h3
   obtain ⟨vs,k1,k2⟩:=s3.addr k0 hp
   exact .inr (.inr (.inl ⟨p,vs,rfl,aZ.of k1,λq hq=>Out.newList (xs:=dM xs l u) h3 s3 (k2.cut l u) hq⟩))
  |str z =>
   cases rv
   obtain ⟨k0,h3⟩:=Out.ifp h3
   exact .inr (.inr (.inr ⟨z,rfl,jb k0,h3.now s3 _ rfl⟩))
  |_=>exact h3.elim⟩⟩⟩
def x6 (K:Frag) (mg:Ab) (r:List V->Hp->VK->Prop) (op:Al):Prop:=∀ρ H st xs vs (Q:VK) (E:XK),bf K mg ρ H st->Rs K mg ρ H xs vs->Out K mg ρ H (op xs st) (gV K mg Q) E->r vs H Q
def cO (X:Cx) (f:Value) (op:Al):Prop:=∃r,bP X f r/\x6 X.K X.mg r op
def zq (op:Al) (fs:Ah):Ai:=λenv st=>(fs env st).bind op
def ji {x:Str} {id:String} {op:Al} {p:Pos} (h:cO X (.builtin id) op) (hm:X.mg x=none) (hv:bootBuiltins x=some (.builtin id)) (ha:MA X Er (e::es) fs) (hg:Gl X x:=by rfl) (hn:x ≠ "__name__" := by decide) (bR:(x==("__debug__" : Str))=false:=by decide)
  (he:starEach (e::es) X.env=(false,eval e X.env)::starEach es X.env:=by rfl) (br:(backTo pos (starEach es X.env)).any (·.1)=false:=by rfl):ME X Er (.Call (.Name x p) (e::es) [] pos) (zq op fs):=by
 obtain ⟨r,h1,h2⟩:=h
 exact PE.weak (MD h1 hg hm hv ha hn bR he br) λU H Q ⟨env,st,ρ,re,rs,h⟩=>⟨env,st,ρ,re,rs,h.then λag H1 xs ae e1 s1 k vs rv=>h2 ag H1 ae xs vs Q Er s1 rv k⟩
def yS {x:Str} {T:String} {op:Al} {p:Pos} (h:cO X (.type T) op) (hm:X.mg x=none) (hv:bootBuiltins x=some (.type T)) (ha:MA X Er (e::es) fs) (hg:Gl X x:=by rfl) (hn:x ≠ "__name__" := by decide) (bR:(x==("__debug__" : Str))=false:=by decide)
  (he:starEach (e::es) X.env=(false,eval e X.env)::starEach es X.env:=by rfl) (br:(backTo pos (starEach es X.env)).any (·.1)=false:=by rfl):ME X Er (.Call (.Name x p) (e::es) [] pos) (zq op fs):=by
 obtain ⟨r,h1,h2⟩:=h
 exact PE.weak (MF h1 hg hm hv ha hn bR he br) λU H Q ⟨env,st,ρ,re,rs,h⟩=>⟨env,st,ρ,re,rs,h.then λag H1 xs ae e1 s1 k vs rv=>h2 ag H1 ae xs vs Q Er s1 rv k⟩
def oV {x:Str} {n:String} (hm:X.mg x=none) (hv:bootBuiltins x=some (.type n)) (hg:Gl X x:=by rfl) (hn:x ≠ "__name__" := by decide) (hd:(x==("__debug__" : Str))=false:=by decide):ME X Er (.Name x pos) (mC (.ty n)) :=
 oS (Kv (v:=.ty n) hg hm hv rfl hn hd) λ_ _=>rfl
def Rs.one {ρ:Ae}{H:Hp}{x:PV}{vs:List V}(r:Rs K mg ρ H [x] vs):∃v,vs=[v]/\R K mg ρ H x v:=by
 obtain ⟨v,r',rfl,h,h'⟩:=r
 cases h'
 exact ⟨v,rfl,h⟩
def Rs.two {ρ:Ae}{H:Hp}{x y:PV}{vs:List V}(r:Rs K mg ρ H [x,y] vs):∃v w,vs=[v,w]/\R K mg ρ H x v/\R K mg ρ H y w:=by
 obtain ⟨v,r',rfl,h,h'⟩:=r
 obtain ⟨w,rfl,h2⟩:=Rs.one h'
 exact ⟨v,w,rfl,h,h2⟩
def qE:Al
 |[.tup xs],st=>.ok (.int xs.length) st
 |[.frl xs],st=>.ok (.int xs.length) st
 |[.str z],st=>if z.length<=lim then .ok (.int z.length) st else .stuck
 |[.ref n],st=>yu st n λxs=>.ok (.int xs.length) st
 |_,_=>.stuck
def Pz:cO X (.builtin "len") qE:=⟨_,L8,fun ρ H st xs vs Q E s r h=>by
 match xs,r,h with
 |[.tup ys],r,h =>
  obtain ⟨v,rfl,p,ws,rfl,h1,h2⟩:=Rs.one r
  exact ⟨_,ws.length,rfl,.inr ⟨ws,h1,rfl⟩,by rw [<-h2.len];exact Out.now (x:=PV.int ys.length) h s _ rfl⟩
 |[.frl ys],r,h =>
  obtain ⟨v,rfl,p,ws,rfl,h1,h2⟩:=Rs.one r
  exact ⟨_,ws.length,rfl,.inl ⟨ws,h1.sq,rfl⟩,by rw [<-h2.len];exact Out.now (x:=PV.int ys.length) h s _ rfl⟩
 |[.str z],r,h =>
  obtain ⟨v,rfl,rfl⟩:=Rs.one r
  obtain ⟨c,h⟩:=Out.ifp h
  exact ⟨_,z.length,rfl,⟨jb c,rfl⟩,h.now s _ rfl⟩
 |[.ref n],r,h =>
  obtain ⟨v,rfl,p,rfl,hp⟩:=Rs.one r
  obtain ⟨ys,e,h⟩:=jL h
  obtain ⟨ws,h1,h2⟩:=s.addr e hp
  exact ⟨_,ws.length,rfl,.inl ⟨ws,aZ.of h1,rfl⟩,by rw [<-h2.len];exact h.now s _ rfl⟩
 |[],r,h=>exact h.elim
 |[.non],r,h=>exact h.elim
 |[.bl _],r,h=>exact h.elim
 |[.int _],r,h=>exact h.elim
 |[.ty _],r,h=>exact h.elim
 |[.fn _],r,h=>exact h.elim
 |[.kd _ _],r,h=>exact h.elim
 |[.exo _ _ _],r,h=>exact h.elim
 |x::y::r',r,h=>cases x<;>exact h.elim⟩
def qF:Al
 |[.int i],st=>.ok (.int i) st
 |[.bl k],st=>.ok (.int (if k then 1 else 0)) st
 |_,_=>.stuck
def ER:cO X (.type "int") qF:=⟨_,L6,fun ρ H st xs vs Q E s r h=>by
 match xs,r,h with
 |[.int i],r,h =>
  obtain ⟨v,rfl,rfl⟩:=Rs.one r
  exact .inl ⟨i,rfl,Out.now (x:=PV.int i) h s _ rfl⟩
 |[.bl k],r,h =>
  obtain ⟨v,rfl,rfl⟩:=Rs.one r
  exact .inr ⟨k,rfl,Out.now (x:=PV.int (if k then 1 else 0)) h s _ rfl⟩
 |[],r,h=>exact h.elim
 |[.non],r,h=>exact h.elim
 |[.str _],r,h=>exact h.elim
 |[.tup _],r,h=>exact h.elim
 |[.frl _],r,h=>exact h.elim
 |[.ref _],r,h=>exact h.elim
 |[.ty _],r,h=>exact h.elim
 |[.fn _],r,h=>exact h.elim
 |[.kd _ _],r,h=>exact h.elim
 |[.exo _ _ _],r,h=>exact h.elim
 |x::y::r',r,h=>cases x<;>exact h.elim⟩
def t_:Al
 |[.tup xs],st=>.ok (.ref st.length) (st++[.lst xs])
 |[.frl xs],st=>.ok (.ref st.length) (st++[.lst xs])
 |[.ref n],st=>yu st n λxs=>.ok (.ref st.length) (st++[.lst xs])
 |_,_=>.stuck
def PB:cO X (.type "list") t_:=⟨_,Nn,fun ρ H st xs vs Q E s r h=>by
 match xs,r,h with
 |[.tup ys],r,h =>
  obtain ⟨v,rfl,p,ws,rfl,h1,h2⟩:=Rs.one r
  exact ⟨p,ws,rfl,.inr h1,λl hl=>Out.newList (xs:=ys) h s h2 hl⟩
 |[.frl ys],r,h =>
  obtain ⟨v,rfl,p,ws,rfl,h1,h2⟩:=Rs.one r
  exact ⟨p,ws,rfl,.inl h1.sq,λl hl=>Out.newList (xs:=ys) h s h2 hl⟩
 |[.ref n],r,h =>
  obtain ⟨v,rfl,p,rfl,hp⟩:=Rs.one r
  obtain ⟨ys,e,h⟩:=jL h
  obtain ⟨ws,h1,h2⟩:=s.addr e hp
  exact ⟨p,ws,rfl,.inl (aZ.of h1),λl hl=>Out.newList (xs:=ys) h s h2 hl⟩
 |[],r,h=>exact h.elim
 |[.non],r,h=>exact h.elim
 |[.bl _],r,h=>exact h.elim
 |[.int _],r,h=>exact h.elim
 |[.str _],r,h=>exact h.elim
 |[.ty _],r,h=>exact h.elim
 |[.fn _],r,h=>exact h.elim
 |[.kd _ _],r,h=>exact h.elim
 |[.exo _ _ _],r,h=>exact h.elim
 |x::y::r',r,h=>cases x<;>exact h.elim⟩
def yQ:Al
 |[.tup xs],st=>.ok (.tup xs) st
 |[.frl xs],st=>.ok (.tup xs) st
 |[.ref n],st=>yu st n λxs=>.ok (.tup xs) st
 |_,_=>.stuck
def jx:cO X (.type "tuple") yQ:=⟨_,Np,fun ρ H st xs vs Q E s r h=>by
 match xs,r,h with
 |[.tup ys],r,h =>
  obtain ⟨v,rfl,p,ws,rfl,h1,h2⟩:=Rs.one r
  exact ⟨p,ws,rfl,.inr ⟨h1,Out.now (x:=PV.tup ys) h s _ ⟨p,ws,rfl,h1,h2⟩⟩⟩
 |[.frl ys],r,h =>
  obtain ⟨v,rfl,p,ws,rfl,h1,h2⟩:=Rs.one r
  exact ⟨p,ws,rfl,.inl ⟨h1.sq,λl hl=>h ρ _ (Ext.new hl) (s.new hl) _ (R.tup_of h2 hl)⟩⟩
 |[.ref n],r,h =>
  obtain ⟨v,rfl,p,rfl,hp⟩:=Rs.one r
  obtain ⟨ys,e,h⟩:=jL h
  obtain ⟨ws,h1,h2⟩:=s.addr e hp
  exact ⟨p,ws,rfl,.inl ⟨aZ.of h1,λl hl=>h ρ _ (Ext.new hl) (s.new hl) _ (R.tup_of h2 hl)⟩⟩
 |[],r,h=>exact h.elim
 |[.non],r,h=>exact h.elim
 |[.bl _],r,h=>exact h.elim
 |[.int _],r,h=>exact h.elim
 |[.str _],r,h=>exact h.elim
 |[.ty _],r,h=>exact h.elim
 |[.fn _],r,h=>exact h.elim
 |[.kd _ _],r,h=>exact h.elim
 |[.exo _ _ _],r,h=>exact h.elim
 |x::y::r',r,h=>cases x<;>exact h.elim⟩
def iu (T n:String):Option Bool :=
 if T = "int" then (if n = "int" then some true else if n = "bool" \/ n = "str" \/ n = "tuple" \/ n = "dict" \/ n = "list" then some false else none)
 else if T = "bool" then (if n = "int" \/ n = "bool" then some true else if n = "str" \/ n = "tuple" \/ n = "dict" \/ n = "list" then some false else none)
 else if T = "str" then (if n = "str" then some true else if n = "int" \/ n = "bool" \/ n = "tuple" \/ n = "dict" \/ n = "list" then some false else none)
 else if T = "tuple" then (if n = "tuple" then some true else if n = "int" \/ n = "bool" \/ n = "str" \/ n = "dict" \/ n = "list" then some false else none)
 else if T = "list" then (if n = "list" then some true else if n = "int" \/ n = "bool" \/ n = "str" \/ n = "dict" \/ n = "tuple" then some false else none)
 else if T = "dict" then (if n = "dict" then some true else if n = "int" \/ n = "bool" \/ n = "str" \/ n = "list" \/ n = "tuple" then some false else none)
 else if T = "NoneType" then (if n = "int" \/ n = "bool" \/ n = "str" \/ n = "list" \/ n = "tuple" \/ n = "dict" then some false else none)
 else none
def PC (K:Frag) {T n:String}{b:Bool}(h:iu T n=some b):PySem.W.kitOne K (.type T) (.type n)=some b:=by
 unfold iu at h
 split at h
 ·rename_i e;subst e
  split at h
  ·rename_i e;subst e;cases h;first|rfl|kernel_rfl
  ·split at h
   ·rename_i e;cases h;rcases e with e|e|e|e|e<;>subst e<;>first|rfl|kernel_rfl
   ·cases h
 ·split at h
  ·rename_i e;subst e
   split at h
   ·rename_i e;cases h;rcases e with e|e<;>subst e<;>first|rfl|kernel_rfl
   ·split at h
    ·rename_i e;cases h;rcases e with e|e|e|e<;>subst e<;>first|rfl|kernel_rfl
    ·cases h
  ·split at h
   ·rename_i e;subst e
    split at h
    ·rename_i e;subst e;cases h;first|rfl|kernel_rfl
    ·split at h
     ·rename_i e;cases h;rcases e with e|e|e|e|e<;>subst e<;>first|rfl|kernel_rfl
     ·cases h
   ·split at h
    ·rename_i e;subst e
     split at h
     ·rename_i e;subst e;cases h;first|rfl|kernel_rfl
     ·split at h
      ·rename_i e;cases h;rcases e with e|e|e|e|e<;>subst e<;>first|rfl|kernel_rfl
      ·cases h
    ·split at h
     ·rename_i e;subst e
      split at h
      ·rename_i e;subst e;cases h;first|rfl|kernel_rfl
      ·split at h
       ·rename_i e;cases h;rcases e with e|e|e|e|e<;>subst e<;>first|rfl|kernel_rfl
       ·cases h
     ·split at h
      ·rename_i e;subst e
       split at h
       ·rename_i e;subst e;cases h;first|rfl|kernel_rfl
       ·split at h
        ·rename_i e;cases h;rcases e with e|e|e|e|e<;>subst e<;>first|rfl|kernel_rfl
        ·cases h
      ·split at h
       ·rename_i e;subst e
        split at h
        ·rename_i e;cases h;rcases e with e|e|e|e|e|e<;>subst e<;>first|rfl|kernel_rfl
        ·cases h
       ·cases h
end
def gR (K:Frag) (mg:Ab) (m:Al):Sp:=λvs H Q E=>∃xs st ρ,Rs K mg ρ H xs vs/\bf K mg ρ H st/\Out K mg ρ H (m xs st) (gV K mg Q) E
section
variable (P:Program) (w:World) (K:Frag) (mg:Ab) (base:Heap)
def a5 (x:Str) (k:Nat) (m:Al):Prop:=∃f fd ps,mg x=some (.ref f)/\keepIn K (.ref f)=true/\Binds K fd ps []/\bp P w K mg base (cv P w) k f fd ps (gR K mg m)
def b_ (c name:Str) (k:Nat) (m:Al):Prop:=∃C f fd ps,mg c=some (.ref C)/\fE K C/\Meth K C name f/\Binds K fd ps []/\bp P w K mg base (cv P w) k f fd ps (gR K mg m)
def iw (c:Str) (k:Nat) (m:Al):Prop:=∃C f fd ps,mg c=some (.ref C)/\Mk K C f/\Binds K fd ps []/\bp P w K mg base (cv P w) k f fd ps (gR K mg m)
def x8 (c fld:Str):Prop:=∃C f fd,mg c=some (.ref C)/\fX K C f/\bp P w K mg base (cv P w) 1 f fd ["self", fld] (Eh C fld)/\Binds K fd ["self", fld] []
end
section
variable {X:Cx} {Er:XK} {K:Frag} {mg:Ab} {a b c e o:Expr} {es:List Expr} {pos p apos:Pos} {fa fc fo:Ai} {fs:Ah} {k:Nat} {x:Str} {m:Al}
def yb (C:a5 X.prog X.w X.K X.mg X.base x k m) (hr:aV k X.A) (ht:wv X Er) (ha:MA X Er (e::es) fs) (hg:Gl X x:=by rfl) (bR:(x==("__debug__" : Str))=false:=by decide)
  (he:starEach (e::es) X.env=(false,eval e X.env)::starEach es X.env:=by rfl) (br:(backTo pos (starEach es X.env)).any (·.1)=false:=by rfl):ME X Er (.Call (.Name x p) (e::es) [] pos) (zq m fs):=by
 obtain ⟨f,fd,ps,hm,hk,hb,F⟩:=C
 exact PE.weak (My F hr hg hm hk hb .nil (nj ht) ha bR he br) λU H Q ⟨env,st,ρ,re,rs,h⟩=>⟨env,st,ρ,re,rs,h.then λag H1 xs ae e1 s1 k vs rv=>by
  show gR X.K X.mg m (vs++[]) H1 Q Er
  rw [List.append_nil]
  exact ⟨xs,ae,ag,rv,s1,k⟩⟩
def x9 (tab:Str->Option (Al)) (ff:Ai) (fs:Ah):Ai:=λenv st=>(ff env st).bind λf ae=>match f with
 |.fn x=>match tab x with
  |some m=>(fs env ae).bind m
  |none=>.stuck
 |_=>.stuck
def PF {tab:Str->Option (Al)}{ff:Ai}(ht:∀y m,tab y=some m->a5 X.prog X.w X.K X.mg X.base y k m) (hf:ME X Er (.Name x p) ff) (hr:aV k X.A) (hT:wv X Er) (ha:MA X Er (e::es) fs)
  (he:starEach (e::es) X.env=(false,eval e X.env)::starEach es X.env:=by rfl) (br:(backTo pos (starEach es X.env)).any (·.1)=false:=by rfl):ME X Er (.Call (.Name x p) (e::es) [] pos) (x9 tab ff fs) :=
 PE.weak (Ox (CX:=cv X.prog X.w) hf hr (nj hT) ha he br) λU H Q ⟨env,st,ρ,re,rs,h⟩=>⟨env,st,ρ,re,rs,h.then λag H1 f ae e1 s1 h1 v rv=>by
  cases f with
  |fn y =>
   cases hy:tab y with
   |none=>simp only [hy] at h1;exact h1.elim
   |some m =>
    simp only [hy] at h1
    obtain ⟨f,rfl,hm⟩:=rv
    obtain ⟨f',fd,ps,hm',hk,hb,F⟩:=ht y m hy
    rw [hm] at hm'
    cases hm'
    exact ⟨f,_,rfl,⟨fd,ps,F,hk,hb⟩,env,ae,ag,re.ext e1,s1,Out.then h1 λao H2 xs au e2 s2 h2 vs xU=>⟨xs,au,ao,xU,s2,h2⟩⟩
  |_=>exact h1.elim⟩
theorem qG {ρ:Ae}{H:Hp}{f:Str}:∀{ks:Ad}{xs:An}{vs:List V}{x:PV},Rs K mg ρ H xs vs->(ks.zip xs).lookup f=some x->∃v,(ks.zip vs).lookup f=some v/\R K mg ρ H x v
 |[],_,_,_,_,h=>by simp at h
 |k::ks,[],_,_,_,h=>by simp at h
 |k::ks,y::xs,_,x,r,h=>by
  obtain ⟨v,r',rfl,h1,h2⟩:=r
  simp only [List.zip_cons_cons,yL] at h ⊢
  split at h
  ·cases h;exact ⟨v,rfl,h1⟩
  ·exact qG h2 h
theorem qH {f:Str}{β:Type}:∀{ks:Ad}{vs:List β},f∉ks->(ks.zip vs).lookup f=none
 |[],_,_=>by simp
 |k::ks,[],_=>by simp
 |k::ks,v::vs,h=>by
  simp only [yE,not_or] at h
  simp only [List.zip_cons_cons,yL]
  have:(f==k)=false:=by simpa using h.1
  rw [this]
  exact qH h.2
def ES (X:Cx) (name:Str) (k:Nat) (E:XK) (ta:TE) (t:TA):TE:=λU H Q=>ta U H λx H1=>∃a C dx fs f fd ps sp,x=.ref a/\H1 a=some (.ins C dx fs)/\fs.lookup name=none/\fE X.K C/\Meth X.K C name f/\Binds X.K fd ps []/\bp X.prog X.w X.K X.mg X.base (cv X.prog X.w) k f fd ps sp /\
 t U H1 λvs H2=>sp (x::vs) H2 Q E
def PH {pl:Sem Bool}{name:Str}{ta:TE}{t:TA}{E:XK}(he:PE X o ta) (hr:aV k X.A) (hx:Passes (cv X.prog X.w) X E) (ha:PA X (e::es) t)
  (bD:starEach (e::es) X.env=(false,eval e X.env)::starEach es X.env:=by rfl) (br:(backTo pos (starEach es X.env)).any (·.1)=false:=by rfl)
  (ht:eval (.Call (.Attribute o name apos) (e::es) [] pos) X.env=(do
   let ov <-eval o X.env
   standAt apos.atName
   let (f,first) <-holding [ov] (getMethod ov name pl)
   callWith pos f first (backTo pos (starEach (e::es) X.env)) (backToKw pos (keywordEach [] X.env))):=by rfl) :
  PE X (.Call (.Attribute o name apos) (e::es) [] pos) (ES X name k E ta t):=by
 intro pins s U H Q I h
 refine PySem.W.methodCall_KW (pl:=pl) (aS (he pins s U H _ I h) λu s1 gg=>?_) ht
 obtain ⟨x,H1,I1,rx,a,C,dx,fs,f,fd,ps,sp,ex,ea,l,c,hm,hb,F,q⟩:=gg
 subst ex
 obtain rfl:u=Value.ref a:=rx
 refine vU I1 ea c hm l ?_
 refine PySem.W.callWith_K (first:=[.ref a]) (h₀:=X.base) I.ok.mod.kin hm.kp (aS (ha pos pins s1 U H1 _ I1 q) λus s2 ⟨vs,H2,I2,r,q2⟩=>⟨I2.kIn,?_⟩) bD br
 exact tq (us:=.ref a::us) (vs:=.ref a::vs) F hr hb .nil hx I2 (.cons rfl r) (by rw [List.append_nil];exact q2)
def PJ {pl:Sem Bool}{name:Str}{ta:TE}{E:XK}(he:PE X o ta) (hr:aV k X.A) (hx:Passes (cv X.prog X.w) X E)
  (ht:eval (.Call (.Attribute o name apos) [] [] pos) X.env=(do
   let ov <-eval o X.env
   standAt apos.atName
   let (f,first) <-holding [ov] (getMethod ov name pl)
   callWith pos f first (backTo pos (starEach [] X.env)) (backToKw pos (keywordEach [] X.env))):=by rfl) :
  PE X (.Call (.Attribute o name apos) [] [] pos) (ES X name k E ta Dc):=by
 intro pins s U H Q I h
 refine PySem.W.methodCall_KW (pl:=pl) (aS (he pins s U H _ I h) λu s1 gg=>?_) ht
 obtain ⟨x,H1,I1,rx,a,C,dx,fs,f,fd,ps,sp,ex,ea,l,c,hm,hb,F,q⟩:=gg
 subst ex
 obtain rfl:u=Value.ref a:=rx
 refine vU I1 ea c hm l ?_
 exact PySem.W.callWith_K0 (first:=[.ref a]) I1.kIn hm.kp (tq (us:=[.ref a]) (vs:=[.ref a]) F hr hb .nil hx I1 (.cons rfl .nil) (by rw [List.append_nil];exact q))
def kh (name:Str) (tab:Str->Option (Al)) (o:PV) (st:aa) (k:Nat->(Al)->Res PV):Res PV:=match o with
 |.ref n=>jc st n λc ks _=>if name∈ks then .stuck else match tab c with
  |some m=>k n m
  |none=>.stuck
 |_=>.stuck
def yV (name:Str) (tab:Str->Option (Al)) (fo:Ai) (fs:Ah):Ai:=λenv st=>(fo env st).bind λo ae=>kh name tab o ae λn m=>(fs env ae).bind λys au=>m (.ref n::ys) au
def x_ {name:Str}{tab:Str->Option (Al)}{o:PV}{st:aa}{kk:Nat->(Al)->Res PV}{ρ:Ae}{H:Hp}{good}(h:Out K mg ρ H (kh name tab o st kk) good Er) :
  ∃n c ks xs m,o=.ref n/\st[n]?=some (.ins c ks xs)/\name∉ks/\tab c=some m/\Out K mg ρ H (kk n m) good Er:=by
 cases o with
 |ref n =>
  obtain ⟨c,ks,xs,e,h⟩:=EA h
  split at h
  ·exact h.elim
  ·rename_i hn
   cases hc:tab c with
   |none=>rw [hc] at h;exact h.elim
   |some m=>rw [hc] at h;exact ⟨n,c,ks,xs,m,rfl,e,hn,hc,h⟩
 |_=>exact h.elim
def wc {pl:Sem Bool}{name:Str}{tab:Str->Option (Al)}(hT:∀c m,tab c=some m->b_ X.prog X.w X.K X.mg X.base c name k m) (ho:ME X Er o fo) (hr:aV k X.A) (ht:wv X Er) (ha:MA X Er (e::es) fs)
  (bD:starEach (e::es) X.env=(false,eval e X.env)::starEach es X.env:=by rfl) (br:(backTo pos (starEach es X.env)).any (·.1)=false:=by rfl)
  (qI:eval (.Call (.Attribute o name apos) (e::es) [] pos) X.env=(do
   let ov <-eval o X.env
   standAt apos.atName
   let (f,first) <-holding [ov] (getMethod ov name pl)
   callWith pos f first (backTo pos (starEach (e::es) X.env)) (backToKw pos (keywordEach [] X.env))):=by rfl) :
  ME X Er (.Call (.Attribute o name apos) (e::es) [] pos) (yV name tab fo fs) :=
 PE.weak (PH (pl:=pl) ho hr (nj ht) ha bD br qI) λU H Q ⟨env,st,ρ,re,rs,h⟩=>⟨env,st,ρ,re,rs,h.then λag H1 x ae e1 s1 h1 v rv=>by
  obtain ⟨n,c,ks,xs,m,rfl,hn,hk,hc,h1⟩:=x_ h1
  obtain ⟨C,f,fd,ps,hC,cl,hm,hb,F⟩:=hT c m hc
  obtain ⟨p,rfl,hp⟩:=rv
  obtain ⟨C',dx,vs,hC',hH,hR,hl⟩:=s1.addr hn hp
  rw [hC] at hC'
  cases hC'
  exact ⟨p,C,dx,_,f,fd,ps,_,rfl,hH,qH hk,cl,hm,hb,F,env,ae,ag,re.ext e1,s1,Out.then h1 λao H2 ys au e2 s2 h2 ws rws=>⟨.ref n::ys,au,ao,⟨_,_,rfl,⟨p,rfl,e2.get hp⟩,rws⟩,s2,h2⟩⟩⟩
def ET {pl:Sem Bool}{name:Str}{tab:Str->Option (Al)}(hT:∀c m,tab c=some m->b_ X.prog X.w X.K X.mg X.base c name k m) (ho:ME X Er o fo) (hr:aV k X.A) (ht:wv X Er)
  (qI:eval (.Call (.Attribute o name apos) [] [] pos) X.env=(do
   let ov <-eval o X.env
   standAt apos.atName
   let (f,first) <-holding [ov] (getMethod ov name pl)
   callWith pos f first (backTo pos (starEach [] X.env)) (backToKw pos (keywordEach [] X.env))):=by rfl) :
  ME X Er (.Call (.Attribute o name apos) [] [] pos) (yV name tab fo zh) :=
 PE.weak (PJ (pl:=pl) ho hr (nj ht) qI) λU H Q ⟨env,st,ρ,re,rs,h⟩=>⟨env,st,ρ,re,rs,h.then λag H1 x ae e1 s1 h1 v rv=>by
  obtain ⟨n,c,ks,xs,m,rfl,hn,hk,hc,h1⟩:=x_ h1
  obtain ⟨C,f,fd,ps,hC,cl,hm,hb,F⟩:=hT c m hc
  obtain ⟨p,rfl,hp⟩:=rv
  obtain ⟨C',dx,vs,hC',hH,hR,hl⟩:=s1.addr hn hp
  rw [hC] at hC'
  cases hC'
  exact ⟨p,C,dx,_,f,fd,ps,_,rfl,hH,qH hk,cl,hm,hb,F,⟨[.ref n],ae,ag,⟨_,_,rfl,⟨p,rfl,hp⟩,rfl⟩,s1,h1⟩⟩⟩
def bO (c:Str) (m:Al) (ys:An):Mo PV:=λst=>(m (.ref st.length::ys) (st++[.ins c [] []])).bind λr au=>if gj r=true then .ok (.ref st.length) au else .stuck
def PK {x:PV}(h:gj x=true):x=.non:=by cases x<;>first|rfl|cases h
def EU {cn:Str}{C f:Addr}{ρ:Ae}{H:Hp}{st:aa}{ys:An}{vs:List V}{Q:VK}(hC:mg cn=some (.ref C)) (s:bf K mg ρ H st) (r:Rs K mg ρ H ys vs) (h:Out K mg ρ H (bO cn m ys st) (gV K mg Q) Er) :
  ∀x dx,H x=none->H dx=none->dx≠x->gR K mg m (.ref x::vs) (upd (upd H dx (.own x)) x (.ins C dx [])) (λv H2=>v=.non/\Q (.ref x) H2) Er:=λx dx hx oW ne=>by
 have ua:upd H dx (.own x) x=none:=by rw [yi (yz ne)];exact hx
 have s1:=s.new (o:=.own x) oW
 have e1:Ext ρ H ρ (upd H dx (.own x)):=Ext.new oW
 have e2:Ext ρ H (ρ++[x]) (upd (upd H dx (.own x)) x (.ins C dx [])):=e1.trans (Ext.push ua)
 have s2:bf K mg (ρ++[x]) (upd (upd H dx (.own x)) x (.ins C dx [])) (st++[.ins cn [] []]):=s1.push ua ⟨C,dx,[],hC,yN,rfl,rfl⟩
 have gx:(ρ++[x])[st.length]?=some x:=by rw [<-s.len];simp
 refine ⟨.ref st.length::ys,_,ρ++[x],⟨_,_,rfl,⟨x,rfl,gx⟩,Rs.ext e2 ys r⟩,s2,Out.then (Out.ext h e2) λam H3 r3 aY e3 s3 h3 v rv=>?_⟩
 obtain ⟨hn,h3⟩:=Out.ifp h3
 obtain rfl:=PK hn
 exact ⟨rv,h3.now s3 _ ⟨x,rfl,e3.get gx⟩⟩
def fh {cn:Str} (C:iw X.prog X.w X.K X.mg X.base cn k m) (hr:aV (k+1) X.A) (ht:wv X Er) (ha:MA X Er (e::es) fs) (hg:Gl X cn:=by rfl) (bR:(cn==("__debug__" : Str))=false:=by decide)
  (he:starEach (e::es) X.env=(false,eval e X.env)::starEach es X.env:=by rfl) (br:(backTo pos (starEach es X.env)).any (·.1)=false:=by rfl):ME X Er (.Call (.Name cn p) (e::es) [] pos) (zq (bO cn m) fs):=by
 obtain ⟨C,f,fd,ps,hm,M,hb,F⟩:=C
 exact PE.weak (Mz M F hr hg hm hb .nil (nj ht) ha bR he br) λU H Q ⟨env,st,ρ,re,rs,h⟩=>⟨env,st,ρ,re,rs,h.then λag H1 xs ae e1 s1 k vs rv x dx hx oW ne=>by
  rw [List.append_nil]
  exact EU (f:=f) hm s1 rv k x dx hx oW ne⟩
def aK (f:Str) (ins exc:Str->Bool):PV->Mo PV
 |.ref n,st=>jc st n λc ks xs=>if ins c=true then cg ((ks.zip xs).lookup f) st else .stuck
 |.exo c ks xs,st=>if exc c=true then cg ((ks.zip xs).lookup f) st else .stuck
 |_,_=>.stuck
structure FldF (K:Frag) (mg:Ab) (f:Str) (ins exc:Str->Bool):Prop where
 i:∀c,ins c=true->∃C,mg c=some (.ref C)/\fE K C/\dH K C f
 x:∀c,exc c=true->∃C,mg c=some (.ref C)/\gP K C/\hasDictIn K C=true/\findIn K (.ref C) f=some none
def PL (K:Frag) (ta:TE) (f:Str):TE:=λU H Q=>ta U H λx H1=>(∃a C dx fs v,x=.ref a/\H1 a=some (.ins C dx fs)/\fE K C/\dH K C f/\fs.lookup f=some v/\Q v H1) \/
 ∃a C d fs v,x=.ref a/\H1 a=some (gg C (some d) a)/\H1 d=some (.xd fs)/\gP K C/\hasDictIn K C=true/\findIn K (.ref C) f=some none/\fs.lookup f=some v/\Q v H1
def PN {f:Str}{ta:TE}(he:PE X e ta) (hb:attributeBase e f X.env (eval e X.env)=eval e X.env):PE X (.Attribute e f pos) (PL X.K ta f):=by
 intro pins s U H Q I h
 refine Mj hb (aS (he pins s U H _ I h) λu s1 ⟨x,H1,I1,rx,h1⟩=>?_)
 rcases h1 with ⟨a,C,dx,fs,v,ex,ea,c,n,l,q⟩|⟨a,C,dx,fs,v,ex,ea,ed,g,hh,no,l,q⟩
 ·subst ex
  obtain rfl:u=Value.ref a:=rx
  exact Mf I1 ea c n l λu' s2 I2 ru=>⟨v,H1,I2,ru,q⟩
 ·subst ex
  obtain rfl:u=Value.ref a:=rx
  exact OG I1 ea ed g hh no l λu' s2 I2 ru=>⟨v,H1,I2,ru,q⟩
def jd {f:Str}{ins exc:Str->Bool}(F:FldF X.K X.mg f ins exc) (he:ME X Er e fa) (hb:attributeBase e f X.env (eval e X.env)=eval e X.env:=by rfl):ME X Er (.Attribute e f pos) (yq (aK f ins exc) fa) :=
 PE.weak (PN he hb) λU H Q ⟨env,st,ρ,re,rs,h⟩=>⟨env,st,ρ,re,rs,h.then λag H1 x ae e1 s1 h1 v rv=>by
  cases x with
  |ref n =>
   obtain ⟨c,ks,xs,hn,h1⟩:=EA h1
   obtain ⟨hc,h1⟩:=Out.ifp h1
   obtain ⟨y,hy,h1⟩:=lG h1
   obtain ⟨p,rfl,hp⟩:=rv
   obtain ⟨C',dx,vs,hC',hH,hR,hl⟩:=s1.addr hn hp
   obtain ⟨C,hC,cl,na⟩:=F.i c hc
   rw [hC] at hC'
   cases hC'
   obtain ⟨v,hv,rv⟩:=qG hR hy
   exact .inl ⟨p,_,dx,_,v,rfl,hH,cl,na,hv,h1.now s1 _ rv⟩
  |exo c ks xs =>
   obtain ⟨hc,h1⟩:=Out.ifp h1
   obtain ⟨y,hy,h1⟩:=lG h1
   obtain ⟨a,C',d,vs,rfl,hC',hH,hd,hR,hl⟩:=rv
   obtain ⟨C,hC,g,hh,no⟩:=F.x c hc
   rw [hC] at hC'
   cases hC'
   obtain ⟨v,hv,rv⟩:=qG hR hy
   exact .inr ⟨a,_,d,_,v,rfl,hH,hd,g,hh,no,hv,h1.now s1 _ rv⟩
  |_=>exact h1.elim⟩
def nu:Option SO->Option (String ⊕ (Bool×Str))
 |some (.lst _)=>some (.inl "list")
 |some (.dic _ _)=>some (.inl "dict")
 |some (.ins c _ _)=>some (.inr (false,c))
 |some (.fdi _ _)=>none
 |some (.dit _ _)=>none
 |none=>none
def lI (st:aa):PV->Option (String ⊕ (Bool×Str))
 |.non=>some (.inl "NoneType")
 |.bl _=>some (.inl "bool")
 |.int _=>some (.inl "int")
 |.str _=>some (.inl "str")
 |.tup _=>some (.inl "tuple")
 |.ref n=>nu st[n]?
 |.exo c _ _=>some (.inr (true,c))
 |_=>none
def fZ (o:Option Bool):Mo PV:=λst=>match o with
 |some b=>.ok (.bl b) st
 |none=>.stuck
def ub {ρ:Ae}{H:Hp}{o:Option Bool}{st:aa}{good}(h:Out K mg ρ H (fZ o st) good Er):∃b,o=some b/\Out K mg ρ H (.ok (.bl b) st) good Er:=by
 cases o with
 |some x=>exact ⟨x,rfl,h⟩
 |none=>exact h.elim
structure IsT where
 isx:Str->Bool
 sub:Str->Str->Option Bool
 subT:Str->String->Option Bool
 tyC:String->Str->Option Bool
def vB (t:IsT) (st:aa):PV->Option (String ⊕ (Bool×Str))->Mo PV
 |.ty n,some (.inl T),st=>fZ (iu T n) st
 |.ty n,some (.inr (f,c)),st=>if t.isx c=f then fZ (t.subT c n) st else .stuck
 |.fn B,some (.inl T),st=>fZ (t.tyC T B) st
 |.fn B,some (.inr (f,c)),st=>if t.isx c=f then fZ (t.sub c B) st else .stuck
 |_,_,_=>.stuck
def j7 (t:IsT):Al
 |[x,y],st=>vB t st y (lI st x) st
 |_,_=>.stuck
structure vC (K:Frag) (C:Addr):Prop where
 cl:fE K C
 ha:findIn K (.ref C) "__class__" = some (some (.builtin "object.__class__"))
 hn:specialIn K (.builtin "object.__class__") "__get__" = some (some (.builtin "getset_descriptor.__get__"))
 tk:takesIn K (.builtin "object.__class__")=some true
 hm:mroIn K C (.type "object")=some true
structure IsF (K:Frag) (mg:Ab) (t:IsT):Prop where
 s:∀c B b,t.sub c B=some b->∃C D,mg c=some (.ref C)/\mg B=some (.ref D)/\kitOne K (.ref C) (.ref D)=some b
 tt:∀c n b,t.subT c n=some b->∃C,mg c=some (.ref C)/\kitOne K (.ref C) (.type n)=some b
 u:∀T B b,t.tyC T B=some b->∃D,mg B=some (.ref D)/\kitOne K (.type T) (.ref D)=some b
 x:∀c C,t.isx c=true->mg c=some (.ref C)->((∃B b,t.sub c B=some b)\/∃n b,t.subT c n=some b)->oj K C
 i:∀c C,t.isx c=false->mg c=some (.ref C)->((∃B b,t.sub c B=some b)\/∃n b,t.subT c n=some b)->vC K C
inductive nv (K:Frag) (H:Hp):V->Value->Prop where
 |of {v:V} {t:Value} (h:dP K H v t):nv K H v t
 |tup {a:Addr} {vs:List V} (h:ba K H a vs):nv K H (.ref a) (.type "tuple")
 |exc {a C d:Addr} {fs:List (Str×V)} (ha:H a=some (gg C (some d) a)) (hd:H d=some (.xd fs)) (k:oj K C):nv K H (.ref a) (.ref C)
def PQ {pins:Ac}{U:L2.St}{H:Hp}{s:Shared}{v:V}{u t c:Value}{b:Bool}{Q:Aa}{A:Around}{E:Aa}(I:Inv X pins U H s) (r:RelV v u) (ty:nv X.K H v t) (e:kitOne X.K t c=some b) (h:∀tk,Q (.bool b) { s with toks:=tk }) :
  wpAny (model X.prog X.w) A (call (.builtin "isinstance") [u,c]) Q E s:=by
 cases ty with
 |of ty=>exact Mm I r ty e h
 |@tup a vs hq =>
  obtain rfl:u=Value.ref a:=r
  obtain ⟨its,_,p,_⟩:=I.tuple hq
  obtain ⟨o,h1,h2,_⟩:=p
  exact PySem.W.kia_one PySem.W.kitx_tuple I.kIn ⟨o,h1,h2⟩ e (λz=>nomatch z) h
 |@exc a C d fs ha hd k =>
  obtain rfl:u=Value.ref a:=r
  exact OH I ha hd k e h
def PR:bP X (.builtin "isinstance") (λxs H Q=>∃v w t c b,xs=[v,w]/\nv X.K H v t/\RelV w c/\(∀c',RelV w c'->c'=c)/\kitOne X.K t c=some b/\Q (.bl b) H):=by
 intro pins s U H xs us Q I r h
 obtain ⟨v,w,t,c,b,rfl,ty,rw,un,e,q⟩:=h
 obtain ⟨u,w',rfl,ru,dX⟩:=CY r
 obtain rfl:=un w' dX
 exact PQ I ru ty e λtk=>⟨.bl b,H,I.tok _,rfl,q⟩
def EV {ρ:Ae}{H:Hp}{st:aa}{x:PV}{v:V}{T:String}(s:bf K mg ρ H st) (r:R K mg ρ H x v) (h:lI st x=some (.inl T)):nv K H v (.type T):=by
 cases x with
 |non=>cases h;cases r;exact .of .non
 |bl b=>cases h;cases r;exact .of (.bl b)
 |int i=>cases h;cases r;exact .of (.int i)
 |str z=>cases h;cases r;exact .of (.str z)
 |tup xs=>cases h;obtain ⟨a,vs,rfl,h1,_⟩:=r;exact .tup h1
 |frl xs=>cases h
 |ref n =>
  obtain ⟨a,rfl,ha⟩:=r
  have h:nu st[n]?=some (.inl T):=h
  cases e:st[n]? with
  |none=>rw [e] at h;cases h
  |some so =>
   rw [e] at h
   cases so with
   |lst xs=>cases h;obtain ⟨vs,h1,_⟩:=s.addr e ha;exact .of (.lst h1)
   |dic ks xs=>cases h;obtain ⟨vs,h1,_⟩:=s.addr e ha;exact .of (.dK h1)
   |ins c ks xs=>cases h
   |fdi ks xs=>cases h
   |dit ks xs=>cases h
 |ty _=>cases h
 |fn _=>cases h
 |kd _ _=>cases h
 |exo _ _ _=>cases h
def EW {ρ:Ae}{H:Hp}{st:aa}{x:PV}{v:V}{f:Bool}{c:Str}(hx:∀C,f=true->mg c=some (.ref C)->oj K C) (hi:∀C,f=false->mg c=some (.ref C)->vC K C) (s:bf K mg ρ H st) (r:R K mg ρ H x v) (h:lI st x=some (.inr (f,c))):∃C,mg c=some (.ref C)/\nv K H v (.ref C):=by
 cases x with
 |ref n =>
  obtain ⟨a,rfl,ha⟩:=r
  have h:nu st[n]?=some (.inr (f,c)):=h
  cases e:st[n]? with
  |none=>rw [e] at h;cases h
  |some so =>
   rw [e] at h
   cases so with
   |lst xs=>cases h
   |dic ks xs=>cases h
   |fdi ks xs=>cases h
   |dit ks xs=>cases h
   |ins c' ks xs =>
    cases h
    obtain ⟨C,dx,vs,hC,hH,_⟩:=s.addr e ha
    have q:=hi C rfl hC
    exact ⟨C,hC,.of (.ins hH q.cl q.ha q.hn q.tk q.hm)⟩
 |exo c' ks xs =>
  cases h
  obtain ⟨a,C,d,vs,rfl,hC,hH,hd,_⟩:=r
  exact ⟨C,hC,.exc hH hd (hx C rfl hC)⟩
 |non=>cases h
 |bl _=>cases h
 |int _=>cases h
 |str _=>cases h
 |tup _=>cases h
 |frl _=>cases h
 |ty _=>cases h
 |fn _=>cases h
 |kd _ _=>cases h
def PU {t:IsT} (F:IsF X.K X.mg t):cO X (.builtin "isinstance") (j7 t):=⟨_,PR,fun ρ H st xs vs Q E s r h=>by
 match xs,r,h with
 |[x,y],r,h =>
  obtain ⟨v,w,rfl,rx,ry⟩:=Rs.two r
  have h:Out X.K X.mg ρ H (vB t st y (lI st x) st) (gV X.K X.mg Q) E:=h
  cases hc:lI st x with
  |none=>rw [hc] at h;cases y<;>exact h.elim
  |some cc =>
   rw [hc] at h
   cases cc with
   |inl T =>
    cases y with
    |ty n =>
     cases ry
     obtain ⟨b,hb,h⟩:=ub h
     exact ⟨v,_,_,_,b,rfl,EV s rx hc,rfl,λc' h=>h,PC X.K hb,h.now s _ rfl⟩
    |fn B =>
     obtain ⟨D,rfl,hD⟩:=ry
     obtain ⟨b,hb,h⟩:=ub h
     obtain ⟨D',hD',k⟩:=F.u T B b hb
     rw [hD] at hD'
     cases hD'
     exact ⟨v,_,_,_,b,rfl,EV s rx hc,rfl,λc' h=>h,k,h.now s _ rfl⟩
    |_=>exact h.elim
   |inr fc =>
    obtain ⟨f,c⟩:=fc
    cases y with
    |ty n =>
     cases ry
     obtain ⟨hf,h⟩:=Out.ifp h
     obtain ⟨b,hb,h⟩:=ub h
     obtain ⟨C,hC,k⟩:=F.tt c n b hb
     obtain ⟨C',hC',ty⟩:=EW (λC e hC=>F.x c C (hf.trans e) hC (.inr ⟨n,b,hb⟩)) (λC e hC=>F.i c C (hf.trans e) hC (.inr ⟨n,b,hb⟩)) s rx hc
     rw [hC] at hC'
     cases hC'
     exact ⟨v,_,_,_,b,rfl,ty,rfl,λc' h=>h,k,h.now s _ rfl⟩
    |fn B =>
     obtain ⟨D,rfl,hD⟩:=ry
     obtain ⟨hf,h⟩:=Out.ifp h
     obtain ⟨b,hb,h⟩:=ub h
     obtain ⟨C,D',hC,hD',k⟩:=F.s c B b hb
     rw [hD] at hD'
     cases hD'
     obtain ⟨C',hC',ty⟩:=EW (λC e hC=>F.x c C (hf.trans e) hC (.inl ⟨B,b,hb⟩)) (λC e hC=>F.i c C (hf.trans e) hC (.inl ⟨B,b,hb⟩)) s rx hc
     rw [hC] at hC'
     cases hC'
     exact ⟨v,_,_,_,b,rfl,ty,rfl,λc' h=>h,k,h.now s _ rfl⟩
    |_=>exact h.elim
 |[],r,h=>exact h.elim
 |[_],r,h=>exact h.elim
 |_::_::_::_,r,h=>exact h.elim⟩
end
section
variable {X:Cx} {Er:XK} {K:Frag} {mg:Ab} {a c e o:Expr} {st:Stmt} {eJ:List Stmt} {pos p pos':Pos} {fa fo:Ai} {k:Nat} {x:Str} {m:Al}
variable {g g' gb:Aj} {ga:Ak}
def Out.fl {ρ:Ae}{H:Hp}{st:aa}{D:Ends}{fl:Fl}{E:XK}(h:Out K mg ρ H (.ok fl st) (gS K mg D) E) (s:bf K mg ρ H st):gS K mg D ρ H fl st:=h.now s
def z0:Aj:=λenv st=>.ok (.nx env) st
def gE (g:Aj):Fl->Mo Fl
 |.nx env,st=>g env st
 |fl,st=>.ok fl st
def zt (g g':Aj):Aj:=λenv st=>(g env st).bind (gE g')
def yl:eP X Er [] z0:=cA.weak KY λD U H ⟨env,st,ρ,re,rs,h⟩=>h.now rs U re
def zx (h1:MS X Er st g) (h2:eP X Er eJ g'):eP X Er (st::eJ) (zt g g') :=
 cA.weak (KZ h1 h2) λD U H ⟨env,st,ρ,re,rs,h⟩=>⟨env,st,ρ,re,rs,h.then λag H1 fl ae e1 s1 h1=>by
  cases fl with
  |nx cz=>exact λaw PY=>⟨cz,ae,ag,PY,s1,h1⟩
  |rt v=>exact Out.fl (D:=D) (fl:=.rt v) (E:=Er) h1 s1
  |bk cz=>exact Out.fl (D:=D) (fl:=.bk cz) (E:=Er) h1 s1
  |ct cz=>exact Out.fl (D:=D) (fl:=.ct cz) (E:=Er) h1 s1⟩
def zA (h1:MS X Er st g):eP X Er [st] g:=CM h1
def zQ (i:Nat) (f:Ai):Aj:=λenv st=>(f env st).bind λx ae=>.ok (.nx (env.set i (some x))) ae
def yf (i:Nat) {x:Str}(he:ME X Er e fa) (hN:X.N.Nodup) (hi:X.N[i]?=some x:=by rfl) (hx:Loc X.env.scope x:=by first|exact Or.inl rfl|exact Or.inr rfl) (hs:swapsWith e (some (.Name x pos')) pos.line X.env=pure false:=by rfl)
  (hf:X.fn x=true\/X.env.scope.names.lookup x=some .local:=by first|exact .inl rfl|exact .inr rfl|assumption):MS X Er (.Assign [.Name x pos'] e pos) (zQ i fa) :=
 PS.weak (Lf hN hi hx he hs hf) λD U H ⟨env,st,ρ,re,rs,h⟩=>⟨env,st,ρ,re,rs,h.then λag H1 x ae e1 s1 h1 v rv=>h1.now s1 _ ((re.ext e1).set i rv)⟩
def je (f:Ai):Aj:=λenv st=>(f env st).bind λ_ ae=>.ok (.nx env) ae
def ww (he:ME X Er e fa) (hs:swapsWith e none pos.line X.env=pure false:=by rfl):MS X Er (.Expr e pos) (je fa) :=
 PS.weak (K5 he hs) λD U H ⟨env,st,ρ,re,rs,h⟩=>⟨env,st,ρ,re,rs,h.then λag H1 x ae e1 s1 h1 v rv=>h1.now s1 _ (re.ext e1)⟩
def zJ (f:Ai):Aj:=λenv st=>(f env st).bind λx ae=>.ok (.rt x) ae
def zS (he:ME X Er e fa):MS X Er (.Return (some e) pos) (zJ fa) :=
 PS.weak (K7 he) λD U H ⟨env,st,ρ,re,rs,h⟩=>⟨env,st,ρ,re,rs,h.then λag H1 x ae e1 s1 h1 v rv=>h1.now s1 _ rv⟩
def zW (t:Ak) (g g':Aj):Aj:=λenv st=>(t env st).bind λc ae=>if c=true then g env ae else g' env ae
def yj {A B:List Stmt}(hc:MT X Er c ga) (ha:eP X Er A g) (hb:eP X Er B g'):MS X Er (.If c A B pos) (zW ga g g') :=
 PS.weak (K_ hc ha hb) λD U H ⟨env,st,ρ,re,rs,h⟩=>⟨env,st,ρ,re,rs,h.then λag H1 k ae e1 s1 h1=>by
  cases k with
  |true=>exact ⟨env,ae,ag,re.ext e1,s1,h1⟩
  |false=>exact ⟨env,ae,ag,re.ext e1,s1,h1⟩⟩
def kj:Am
 |.int i,.int j,st=>.ok (.int (i+j)) st
 |_,_,_=>.stuck
def qJ (i:Nat) (op:Am) (f:Ai):Aj:=λenv st=>(za i env st).bind λx dC=>(f env dC).bind λy ae=>(op x y ae).bind λz au=>.ok (.nx (env.set i (some z))) au
def vD (X:Cx) (o:Operator) (op:Am):Prop:=∃r,vN X o r/\eE X.K X.mg r op
def EX:vD X .Add kj:=⟨_,Lk,by
 intro ρ H st x y v w Q E s rx ry h
 cases x with
 |int i =>
  cases y with
  |int j=>cases rx;cases ry;exact ⟨i,j,rfl,rfl,Out.now (x:=PV.int (i+j)) h s _ rfl⟩
  |_=>exact h.elim
 |_=>exact h.elim⟩
def EY (i:Nat) {x:Str}{o:Operator}{op:Am}(ho:vD X o op) (he:ME X Er e fa) (hN:X.N.Nodup) (hi:X.N[i]?=some x:=by rfl) (hx:Loc X.env.scope x:=by first|exact Or.inl rfl|exact Or.inr rfl)
  (hf:X.fn x=true\/X.env.scope.names.lookup x=some .local:=by first|exact .inl rfl|exact .inr rfl|assumption):MS X Er (.AugAssign (.Name x pos') o e pos) (qJ i op fa):=by
 obtain ⟨r,h1,h2⟩:=ho
 refine PS.weak (Lh hN hi hx he h1 hf) λD U H ⟨env,st,ρ,re,rs,h⟩=>?_
 unfold qJ za at h
 cases hx:env[i]? with
 |none=>simp only [hx] at h;exact h.elim
 |some q =>
  cases q with
  |none=>simp only [hx] at h;exact h.elim
  |some x0 =>
   simp only [hx] at h
   obtain ⟨v,hv,rv⟩:=re.at_ i x0 hx
   exact ⟨v,hv,env,st,ρ,re,rs,Out.then (f:=λy ae=>(op x0 y ae).bind λz au=>Res.ok (Fl.nx (env.set i (some z))) au) (good:=gS X.K X.mg D) h λag H1 y ae e1 s1 k1 w rw=>h2 ag H1 ae x0 y v w _ Er s1 (R.ext e1 x0 rv) rw (k1.then λao H2 z au e2 s2 k2 u ru=>k2.now s2 _ (((re.ext e1).ext e2).set i ru))⟩
def putK (f:Str) (x:PV):List Str->List PV->List Str×List PV
 |k::ks,y::ys=>if k=f then (k::ks,x::ys) else (k::(putK f x ks ys).1,y::(putK f x ks ys).2)
 |_,_=>([f],[x])
theorem EZ {ρ:Ae}{H:Hp}{f:Str}{x:PV}{v:V}(r:R K mg ρ H x v):∀{ks:Ad}{xs:An}{vs:List V},ks.length=vs.length->Rs K mg ρ H xs vs->∃ws,cL f v (ks.zip vs)=(putK f x ks xs).1.zip ws/\Rs K mg ρ H (putK f x ks xs).2 ws/\(putK f x ks xs).1.length=ws.length
 |[],xs,vs,hl,h=>by
  have:vs=[]:=by cases vs with|nil=>rfl|cons=>simp at hl
  subst this
  have:xs=[]:=by cases xs with|nil=>rfl|cons=>obtain ⟨_,_,e,_⟩:=h;cases e
  subst this
  exact ⟨[v],rfl,⟨v,[],rfl,r,rfl⟩,rfl⟩
 |k::ks,xs,vs,hl,h=>by
  cases vs with
  |nil=>simp at hl
  |cons v0 vs =>
   cases xs with
   |nil=>cases h
   |cons y ys =>
    obtain ⟨Zf,r',e,h1,h2⟩:=h
    cases e
    simp only [putK,List.zip_cons_cons,cL]
    by_cases hk:k=f
    ·rw [zw hk,zw hk]
     exact ⟨v::vs,rfl,⟨v,vs,rfl,r,h2⟩,by simpa using hl⟩
    ·rw [zI hk,zI hk]
     obtain ⟨ws,e1,e2,e3⟩:=EZ r (by simpa using hl) h2
     exact ⟨v0::ws,by rw [e1];rfl,⟨v0,ws,rfl,h1,e2⟩,by simp [e3]⟩
def putAt (f:Str) (ins:Str->Bool) (x:PV):PV->Mo Unit
 |.ref n,st=>jc st n λc ks xs=>if ins c=true/\ks.length<1000 then .ok () (st.set n (.ins c (putK f x ks xs).1 (putK f x ks xs).2)) else .stuck
 |_,_=>.stuck
def sFld (f:Str) (ins:Str->Bool) (fo fv:Ai):Aj:=λenv st=>(fv env st).bind λx ae=>(fo env ae).bind λo au=>(putAt f ins x o au).bind λ_ aY=>.ok (.nx env) aY
theorem wG {f:Str}{ins exc:Str->Bool}(F:FldF X.K X.mg f ins exc) (ho:ME X Er o fo) (he:ME X Er e fa) (hs:swapsWith e (some (.Attribute o f pos')) pos.line X.env=pure false:=by rfl):MS X Er (.Assign [.Attribute o f pos'] e pos) (sFld f ins fo fa) :=
 PS.weak (Ml ho he hs) λD U H ⟨env,st,ρ,re,rs,h⟩=>⟨env,st,ρ,re,rs,h.then λag H1 x ae e1 s1 h1 v rv=>⟨env,ae,ag,re.ext e1,s1,h1.then λao H2 y au e2 s2 h2 w rw=>by
  cases y with
  |ref n =>
   cases hn:au[n]? with
   |none=>simp only [putAt,jc,hn] at h2;exact h2.elim
   |some so =>
    cases so with
    |lst _=>simp only [putAt,jc,hn] at h2;exact h2.elim
    |dic _ _=>simp only [putAt,jc,hn] at h2;exact h2.elim
    |fdi _ _=>simp only [putAt,jc,hn] at h2;exact h2.elim
    |dit _ _=>simp only [putAt,jc,hn] at h2;exact h2.elim
    |ins c ks xs =>
     simp only [putAt,jc,hn] at h2
     by_cases hc:ins c=true/\ks.length<1000
     ·rw [zw hc] at h2
      obtain ⟨p,rfl,hp⟩:=rw
      obtain ⟨C',dx,vs,hC',hH,hR,hl⟩:=s2.addr hn hp
      obtain ⟨C,hC,cl,na⟩:=F.i c hc.1
      rw [hC] at hC'
      cases hC'
      obtain ⟨ws,k1,k2,k3⟩:=EZ (f:=f) (R.ext e2 x rv) hl hR
      refine ⟨p,_,dx,_,rfl,hH,cl,na,?_,?_⟩
      ·rw [List.length_zip,<-hl];have:=hc.2;omega
      ·have ew:Ext ao H2 ao (upd H2 p (.ins C' dx (cL f v (ks.zip vs)))):=Ext.write hH rfl
       exact h2 ao _ ew (s2.write hp ew ⟨_,dx,ws,hC,by rw [yN,k1],Rs.ext ew _ k2,k3⟩) U (((re.ext e1).ext e2).ext ew)
     ·rw [zI hc] at h2;exact h2.elim
  |_=>exact h2.elim⟩⟩
def MG (X:Cx) (Er:XK) (e:Expr) (g:PV->zb->Option zb):Prop:=PG X e λv U H Q=>∃x env bw ρ,R X.K X.mg ρ H x v/\a8 X.K X.mg ρ H env U/\g x env=some bw/\∀ai,a8 X.K X.mg ρ H bw ai->Q ai H
def PG.weak {t t':TG}(h:PG X e t) (w:∀v U H Q,t' v U H Q->t v U H Q):PG X e t':=λpins s U H v u Q I r q=>h pins s U H v u Q I r (w v U H Q q)
def gN (i:Nat):PV->zb->Option zb:=λx env=>some (env.set i (some x))
def wP (i:Nat) {x:Str}(hN:X.N.Nodup) (hi:X.N[i]?=some x:=by rfl) (hx:Loc X.env.scope x:=by first|exact Or.inl rfl|exact Or.inr rfl) (hf:X.fn x=true\/X.env.scope.names.lookup x=some .local:=by first|exact .inl rfl|exact .inr rfl|assumption):MG X Er (.Name x pos) (gN i) :=
 PG.weak (wN hN hi hx hf) λv U H Q ⟨x,env,bw,ρ,rx,re,hg,q⟩=>by
  cases hg
  exact q _ (re.set i rx)
def g2 (i j:Nat):PV->zb->Option zb
 |.tup [x,y],env=>some ((env.set i (some x)).set j (some y))
 |_,_=>none
def PZ {i j:Nat}{x:PV}{env bw:zb}(h:g2 i j x env=some bw):∃y z,x=.tup [y,z]/\bw=(env.set i (some y)).set j (some z):=by
 unfold g2 at h
 split at h
 ·cases h;exact ⟨_,_,rfl,rfl⟩
 ·cases h
def qK (i j:Nat) {x y:Str}{kt:Nat}{px py:Pos}(hc:X.calm=true) (hN:X.N.Nodup) (hi:X.N[i]?=some x:=by rfl) (hj:X.N[j]?=some y:=by rfl) (hx:Loc X.env.scope x:=by first|exact Or.inl rfl|exact Or.inr rfl) (hy:Loc X.env.scope y:=by first|exact Or.inl rfl|exact Or.inr rfl)
  (hf:X.fn x=true\/X.env.scope.names.lookup x=some .local:=by first|exact .inl rfl|exact .inr rfl|assumption) (P0:X.fn y=true\/X.env.scope.names.lookup y=some .local:=by first|exact .inl rfl|exact .inr rfl|assumption):MG X Er (.Tuple [.Name x px,.Name y py] kt pos) (g2 i j) :=
 PG.weak (sT (n:=2) hc (kZ (wN hN hi hx hf) (kZ (wN hN hj hy P0) sR))) λv U H Q ⟨x,env,bw,ρ,rx,re,hg,q⟩=>by
  obtain ⟨y,z,rfl,rfl⟩:=PZ hg
  obtain ⟨a,vs,rfl,h1,h2⟩:=rx
  obtain ⟨u,w,rfl,r1,r2⟩:=Rs.two h2
  exact ⟨a,_,rfl,h1,rfl,u,[w],rfl,w,[],rfl,rfl,q _ ((re.set i r1).set j r2)⟩
def g3 (i j k:Nat):PV->zb->Option zb
 |.tup [x,y,z],env=>some (((env.set i (some x)).set j (some y)).set k (some z))
 |_,_=>none
def qL (g:PV->zb->Option zb) (f:Ai):Aj:=λenv st=>(f env st).bind λx ae=>match g x env with
 |some bw=>.ok (.nx bw) ae
 |none=>.stuck
def zqp {tg:Expr}{gt:PV->zb->Option zb}(hg:MG X Er tg gt) (he:ME X Er e fa) (hs:swapsWithSole [tg] e pos.line X.env=pure false:=by rfl) (hw:swappedStores [tg] e X.env=pure none:=by rfl)
  (h1:(assignEach [tg] X.env).map (·.2)=[assign tg X.env]:=by rfl):MS X Er (.Assign [tg] e pos) (qL gt fa) :=
 PS.weak (Le he hg hs hw h1) λD U H ⟨env,st,ρ,re,rs,h⟩=>⟨env,st,ρ,re,rs,h.then λag H1 x ae e1 s1 h1 v rv=>by
  cases hx:gt x env with
  |none=>simp only [hx] at h1;exact h1.elim
  |some bw =>
   simp only [hx] at h1
   exact ⟨x,env,bw,ag,rv,re.ext e1,hx,λai r'=>Out.now (x:=Fl.nx bw) h1 s1 ai r'⟩⟩
inductive Sq where
 |im (xs:An)|rf (n:Nat)
def Walk (K:Frag) (mg:Ab) (J:It) (ρ:Ae) (H:Hp):Sq->Prop
 |.im xs=>(∀i aj H',Ext ρ H aj H'->i<xs.length->J.go i H')/\(∀i aj H',Ext ρ H aj H'->xs.length<=i->J.stop i H') /\
  ∀i aj H' st v H2,Ext ρ H aj H'->bf K mg aj H' st->i<xs.length->J.yld i H' v H2->∃x,xs[i]?=some x/\Ext aj H' aj H2/\bf K mg aj H2 st/\R K mg aj H2 x v
 |.rf n=>∃a,ρ[n]?=some a/\J=sW K a
def MI (X:Cx) (Er:XK) (tg iter:Expr) (src:zb->Mo Sq):Prop:=PI X tg iter λU H R=>∃env st ρ,a8 X.K X.mg ρ H env U/\bf X.K X.mg ρ H st/\Out X.K X.mg ρ H (src env st) (λaj H' q bt=>∀J,Walk X.K X.mg J aj H' q->R J H') Er
def forL (g:PV->zb->Option zb) (body:Aj):List PV->Aj
 |[],env,st=>.ok (.nx env) st
 |x::xs,env,st=>match g x env with
  |none=>.stuck
  |some cz=>(body cz st).bind λfl au=>match fl with
   |.nx e=>forL g body xs e au
   |.ct e=>forL g body xs e au
   |.bk e=>.ok (.nx e) au
   |.rt v=>.ok (.rt v) au
def forR (g:PV->zb->Option zb) (body:Aj) (n:Nat):Nat->Nat->Aj
 |0,_,_,_=>.stuck
 |m+1,i,env,st=>yu st n λxs=>match xs[i]? with
  |none=>.ok (.nx env) st
  |some x=>match g x env with
   |none=>.stuck
   |some cz=>(body cz st).bind λfl au=>match fl with
    |.nx e=>forR g body n m (i+1) e au
    |.ct e=>forR g body n m (i+1) e au
    |.bk e=>.ok (.nx e) au
    |.rt v=>.ok (.rt v) au
def qM (g:PV->zb->Option zb) (body:Aj):Sq->Aj
 |.im xs=>forL g body xs
 |.rf n=>forR g body n (lim+1) 0
def jq (src:zb->Mo Sq) (g:PV->zb->Option zb) (body:Aj):Aj:=λenv st=>(src env st).bind λq ae=>qM g body q env ae
theorem wz {tg iter:Expr}{src:zb->Mo Sq}{gt:PV->zb->Option zb}(hp:PassesOwn (model X.prog X.w) X.A X.env X.xe) (hc:X.calm=true) (hi:MI X Er tg iter src) (hg:MG X Er tg gt) (hb:eP X Er eJ gb)
  (hs:∀x,foldedSetIterable iter X.env x=pure x:=by intro _;rfl):MS X Er (.For tg iter eJ [] pos) (jq src gt gb) :=
 PS.weak (CS hp hc hi hg hb hs) λD U H ⟨env,st,ρ,re,rs,h⟩=>⟨env,st,ρ,re,rs,h.then λar H0 q dC e0 s0 h0 J wk=>by
  cases q with
  |im xs =>
   obtain ⟨w1,w2,w3⟩:=wk
   refine ⟨λi m U H=>m=xs.length-i/\i<=xs.length/\∃env st ρ,a8 X.K X.mg ρ H env U/\bf X.K X.mg ρ H st/\Ext ar H0 ρ H/\Out X.K X.mg ρ H (forL gt gb (xs.drop i) env st) (gS X.K X.mg D) Er,⟨xs.length,by simp,jJ _,env,dC,ar,re.ext e0,s0,Ext.refl,h0⟩,?_⟩
   rintro i m U H ⟨rfl,hi,env,st,ρ,re,rs,ex,h⟩
   by_cases bz:i<xs.length
   ·refine .inr ⟨w1 i ρ H ex bz,_,λai H' p'=>⟨xs.length-(i+1),by omega,rfl,bz,p'⟩,λv H' y=>?_⟩
    obtain ⟨x,hx,bH,s2,rx⟩:=w3 i ρ H st v H' ex rs bz y
    have hd:xs.drop i=x::xs.drop (i+1):=by
     rw [w9 bz]
     have:=(yD.mp hx).2
     rw [this]
    rw [hd] at h
    cases hgx:gt x env with
    |none=>simp only [forL,hgx] at h;exact h.elim
    |some cz =>
     simp only [forL,hgx] at h
     refine ⟨x,env,cz,ρ,rx,re.ext bH,hgx,λaw r1=>⟨cz,st,ρ,r1,s2,Out.then (Out.ext h bH) λam H3 fl aY e3 s3 h3=>?_⟩⟩
     cases fl with
     |nx e=>exact λaE r4=>⟨e,aY,am,r4,s3,(ex.trans bH).trans e3,h3⟩
     |ct e=>exact λaE r4=>⟨e,aY,am,r4,s3,(ex.trans bH).trans e3,h3⟩
     |bk e=>exact Out.fl (D:=D) (fl:=.nx e) (E:=Er) h3 s3
     |rt v=>exact Out.fl (D:=D) (fl:=.rt v) (E:=Er) h3 s3
   ·have e:i=xs.length:=by omega
    subst e
    rw [List.drop_length] at h
    exact .inl ⟨w2 _ ρ H ex (yo _),Out.now (x:=Fl.nx env) h rs U re⟩
  |rf n =>
   obtain ⟨a,ha,rfl⟩:=wk
   refine ⟨λi m U H=>∃env st ρ,a8 X.K X.mg ρ H env U/\bf X.K X.mg ρ H st/\ρ[n]?=some a/\Out X.K X.mg ρ H (forR gt gb n m i env st) (gS X.K X.mg D) Er,⟨lim+1,env,dC,ar,re.ext e0,s0,ha,h0⟩,?_⟩
   rintro i m U H ⟨env,st,ρ,re,rs,ha,h⟩
   cases m with
   |zero=>exact h.elim
   |succ m =>
    obtain ⟨xs,hn,h⟩:=jL h
    obtain ⟨vs,hH,hR⟩:=rs.addr hn ha
    cases hx:xs[i]? with
    |none =>
     simp only [hx] at h
     have:vs.length<=i:=by rw [<-hR.len];exact mE.mp hx
     exact .inl ⟨⟨vs,aZ.of hH,this⟩,Out.now (x:=Fl.nx env) h rs U re⟩
    |some x =>
     simp only [hx] at h
     obtain ⟨v,hv,rv⟩:=hR.get hx
     refine .inr ⟨⟨vs,v,aZ.of hH,hv⟩,_,λai H' p'=>⟨m,jW m,p'⟩,λv' H' y=>?_⟩
     obtain ⟨e1,y⟩:=y
     subst e1
     have e2:=y vs (aZ.of hH)
     rw [hv] at e2
     cases e2
     cases hgx:gt x env with
     |none=>simp only [hgx] at h;exact h.elim
     |some cz =>
      simp only [hgx] at h
      refine ⟨x,env,cz,ρ,rv,re,hgx,λaw r1=>⟨cz,st,ρ,r1,rs,Out.then h λam H3 fl aY e3 s3 h3=>?_⟩⟩
      cases fl with
      |nx e=>exact λaE r4=>⟨e,aY,am,r4,s3,e3.get ha,h3⟩
      |ct e=>exact λaE r4=>⟨e,aY,am,r4,s3,e3.get ha,h3⟩
      |bk e=>exact Out.fl (D:=D) (fl:=.nx e) (E:=Er) h3 s3
      |rt v=>exact Out.fl (D:=D) (fl:=.rt v) (E:=Er) h3 s3⟩
end
section
variable {X:Cx} {Er:XK} {K:Frag} {mg:Ab} {a b c e o tg:Expr} {es:List Expr} {st:Stmt} {eJ:List Stmt} {pos p apos:Pos} {fa fb fo:Ai} {fs:Ah} {k:Nat} {x:Str} {m:Al}
variable {g gb:Aj} {ga:Ak}
def PI.weak {t t':TI}(h:PI X tg e t) (w:∀U H Q,t' U H Q->t U H Q):PI X tg e t':=λpins s U H Q I q=>h pins s U H Q I (w U H Q q)
def P5 (K:Frag) (tl:TE):TI:=λU H R=>tl U H λx H1=>(∃a,x=.ref a/\(∃xs,aZ K H1 a xs)/\R (sW K a) H1)\/(∃a,x=.ref a/\(∃xs,ba K H1 a xs)/\R (oI K a) H1)\/∃z,x=.str z/\R (xx z) H1
def P6 {l:Expr}{tl:TE}(hl:PE X l tl):PI X tg l (P5 X.K tl):=by
 intro pins s U H R I h
 refine aS (hl pins s U H _ I h) λv s1 ⟨x,H1,I1,r1,q1⟩=>?_
 have fin:∀b∈[s1.heap.objs.size],du X pins H1 b:=λb hb=>by
  have e:b=s1.heap.objs.size:=by simpa using hb
  subst e
  exact I1.fpOk (yo _) (I1.hok.fresh (yo _))
 rcases q1 with ⟨a,e,⟨xs,hq⟩,q⟩|⟨a,e,⟨xs,hq⟩,q⟩|⟨z,rfl,q⟩
 ·subst e
  cases r1
  obtain ⟨its,rv,p,hz⟩:=I1.list hq
  exact wpAny_pyIter_list p.isList ⟨s1.heap.objs.size,[s1.heap.objs.size],_,_,H1,rfl,I1.kept (t':=s1.toks) (λb o e=>yp _ e),Lp a _,⟨_,y4 _ rfl,rfl,rfl⟩,fin,q⟩
 ·subst e
  cases r1
  obtain ⟨its,rv,p,hz⟩:=I1.tuple hq
  exact wpAny_pyIter_tuple (show s1.heap.IsTuple a its.toArray from p) ⟨s1.heap.objs.size,[s1.heap.objs.size],_,_,H1,rfl,I1.kept (t':=s1.toks) (λb o e=>yp _ e),Lq a _,⟨_,y4 _ rfl,rfl,rfl⟩,fin,q⟩
 ·obtain ⟨t,rfl⟩:=r1
  cases ha:z.cps.all (·<128) with
  |false=>exact wpAny_pyIter_wide ha ⟨s1.heap.objs.size,[s1.heap.objs.size],_,_,H1,rfl,I1.kept (t':=s1.toks) (λb o e=>yp _ e),DV z t _ "str_iterator" (.inr rfl),⟨_,y4 _ rfl,rfl,rfl⟩,fin,q⟩
  |true=>exact wpAny_pyIter_ascii ha ⟨s1.heap.objs.size,[s1.heap.objs.size],_,_,H1,rfl,I1.kept (t':=s1.toks) (λb o e=>yp _ e),DV z t _ "str_ascii_iterator" (.inl rfl),⟨_,y4 _ rfl,rfl,rfl⟩,fin,q⟩
def P7 {ρ:Ae}{H:Hp}{a:Addr}{xs:An}{vs:List V}(h:ba K H a vs) (r:Rs K mg ρ H xs vs):Walk K mg (oI K a) ρ H (.im xs):=by
 refine ⟨λi aj H' e hi=>?_,λi aj H' e hi=>⟨vs,e.sqT h,by rw [<-r.len];exact hi⟩,λi aj H' st v H2 e s hi y=>?_⟩
 ·obtain ⟨v,hv,_⟩:=r.get (yx hi)
  exact ⟨vs,v,e.sqT h,hv⟩
 ·obtain ⟨e1,y⟩:=y
  subst e1
  obtain ⟨v',hv,rv⟩:=r.get (yx hi)
  have:=y vs (e.sqT h)
  rw [hv] at this
  cases this
  exact ⟨_,yx hi,Ext.refl,s,R.ext e _ rv⟩
def P8 {ρ:Ae}{H:Hp}{a:Addr}{xs:An}{vs:List V}(h:i_ K H a vs) (r:Rs K mg ρ H xs vs):Walk K mg (sW K a) ρ H (.im xs):=by
 have hs:∀{aj H'},Ext ρ H aj H'->aZ K H' a vs:=λe=>(e.frl h).sq
 refine ⟨λi aj H' e hi=>?_,λi aj H' e hi=>⟨vs,hs e,by rw [<-r.len];exact hi⟩,λi aj H' st v H2 e s hi y=>?_⟩
 ·obtain ⟨v,hv,_⟩:=r.get (yx hi)
  exact ⟨vs,v,hs e,hv⟩
 ·obtain ⟨e1,y⟩:=y
  subst e1
  obtain ⟨v',hv,rv⟩:=r.get (yx hi)
  have:=y vs (hs e)
  rw [hv] at this
  cases this
  exact ⟨_,yx hi,Ext.refl,s,R.ext e _ rv⟩
def signs (z:Str):An:=z.cps.toList.map λc=>.str ⟨#[c]⟩
def P_ {ρ:Ae}{H:Hp}(z:Str):Walk K mg (xx z) ρ H (.im (signs z)):=by
 have hl:(signs z).length=z.cps.size:=by simp [signs]
 refine ⟨λi aj H' e hi=>by rw [hl] at hi;exact hi,λi aj H' e hi=>by rw [hl] at hi;exact hi,λi aj H' st v H2 e s hi y=>?_⟩
 obtain ⟨e1,c,hc,e2⟩:=y
 subst e1 e2
 refine ⟨.str ⟨#[c]⟩,?_,Ext.refl,s,rfl⟩
 simp [signs,hc]
def nums (lo:Int) (n:Nat):An:=(List.range n).map λi=>.int (lo+(i:Nat))
def Qa {ρ:Ae}{H:Hp}(lo:Int) (n:Nat):Walk K mg (p7 lo n) ρ H (.im (nums lo n)):=by
 have hl:(nums lo n).length=n:=by simp [nums]
 refine ⟨λi aj H' e hi=>by rw [hl] at hi;exact hi,λi aj H' e hi=>by rw [hl] at hi;exact hi,λi aj H' st v H2 e s hi y=>?_⟩
 obtain ⟨e1,e2⟩:=y
 subst e1 e2
 rw [hl] at hi
 exact ⟨.int (lo+i),by simp [nums,hi],Ext.refl,s,rfl⟩
def nA:PV->Mo Sq
 |.tup xs,st=>.ok (.im xs) st
 |.frl xs,st=>.ok (.im xs) st
 |.str z,st=>.ok (.im (signs z)) st
 |.ref n,st=>yu st n λ_=>.ok (.rf n) st
 |_,_=>.stuck
def yA (f:Ai):zb->Mo Sq:=λenv st=>(f env st).bind nA
def jo (h:ME X Er e fa):MI X Er tg e (yA fa):=PI.weak (P6 h) λU H Q ⟨env,st,ρ,re,rs,h⟩=>⟨env,st,ρ,re,rs,h.then λag H1 x ae e1 s1 h1 v rv=>by
 cases x with
 |tup xs =>
  obtain ⟨a,vs,rfl,k1,k2⟩:=rv
  exact .inr (.inl ⟨a,rfl,⟨vs,k1⟩,Out.now (x:=Sq.im xs) h1 s1 _ (P7 k1 k2)⟩)
 |frl xs =>
  obtain ⟨a,vs,rfl,k1,k2⟩:=rv
  exact .inl ⟨a,rfl,⟨vs,k1.sq⟩,Out.now (x:=Sq.im xs) h1 s1 _ (P8 k1 k2)⟩
 |str z =>
  cases rv
  exact .inr (.inr ⟨z,rfl,Out.now (x:=Sq.im (signs z)) h1 s1 _ (P_ z)⟩)
 |ref n =>
  obtain ⟨a,rfl,ha⟩:=rv
  obtain ⟨xs,hn,h1⟩:=jL h1
  obtain ⟨vs,k1,k2⟩:=s1.addr hn ha
  exact .inl ⟨a,rfl,⟨vs,aZ.of k1⟩,h1.now s1 _ ⟨a,ha,rfl⟩⟩
 |_=>exact h1.elim⟩
abbrev cR (j:Int):Bool:=decide (-(2 ^ 62)<=j)&&decide (j<2 ^ 62)
def nB:List PV->Mo Sq
 |[.int j],st=>if cR j=true then .ok (.im (nums 0 j.toNat)) st else .stuck
 |_,_=>.stuck
def Qb:List PV->Mo Sq
 |[.int i,.int j],st=>if cR i=true/\cR j=true then .ok (.im (nums i (j-i).toNat)) st else .stuck
 |_,_=>.stuck
def Qc {ρ:Ae}{H:Hp}{xs:An}{st:aa}{good:List Addr->Hp->Sq->aa->Prop}(h:Out K mg ρ H (nB xs st) good Er):∃j,xs=[.int j] /\ -(2 ^ 62)<=j/\j<2 ^ 62/\Out K mg ρ H (.ok (.im (nums 0 j.toNat)) st) good Er:=by
 unfold nB at h
 split at h
 ·obtain ⟨c,h⟩:=Out.ifp h
  simp [cR] at c
  exact ⟨_,rfl,c.1,c.2,h⟩
 ·exact h.elim
def eL (fs:Ah):zb->Mo Sq:=λenv st=>(fs env st).bind nB
def vO (fs:Ah):zb->Mo Sq:=λenv st=>(fs env st).bind Qb
def E_ {a:Expr} (hm:X.mg "range" = none) (ha:MA X Er [a] fs) (hg:Gl X "range" := by rfl) (hs:starEach [a] X.env=[(false,eval a X.env)]:=by rfl):MI X Er tg (.Call (.Name "range" p) [a] [] pos) (eL fs) :=
 PI.weak (Lv hg hm ha hs) λU H Q ⟨env,st,ρ,re,rs,h⟩=>⟨env,st,ρ,re,rs,h.then λag H1 xs ae e1 s1 h1 vs rv=>by
  obtain ⟨j,rfl,c1,c2,h1⟩:=Qc h1
  obtain ⟨v,rfl,rfl⟩:=Rs.one rv
  exact ⟨j,rfl,c1,c2,h1.now s1 _ (Qa 0 j.toNat)⟩⟩
def wA (xs ys:An):An:=(xs.zip ys).map λq=>.tup [q.1,q.2]
def qN:List PV->Mo Sq
 |[.tup xs,.tup ys],st=>.ok (.im (wA xs ys)) st
 |_,_=>.stuck
def Qd {ρ:Ae}{H:Hp}{xs:An}{st:aa}{good:List Addr->Hp->Sq->aa->Prop}(h:Out K mg ρ H (qN xs st) good Er):∃ys zs,xs=[.tup ys,.tup zs]/\Out K mg ρ H (.ok (.im (wA ys zs)) st) good Er:=by
 unfold qN at h
 split at h
 ·exact ⟨_,_,rfl,h⟩
 ·exact h.elim
theorem Qe {ρ:Ae}{H:Hp}{a b:Addr}{xs ys:An}{vs ws:List V}(h:ba K H a vs) (r:Rs K mg ρ H xs vs) (h':ba K H b ws) (r':Rs K mg ρ H ys ws):Walk K mg (xQ K a b) ρ H (.im (wA xs ys)):=by
 have hl:(wA xs ys).length=min xs.length ys.length:=by simp [wA]
 have l1:=r.len
 have l2:=r'.len
 refine ⟨λi aj H' e hi=>?_,λi aj H' e hi=>⟨vs,ws,e.sqT h,e.sqT h',by rw [hl] at hi;omega⟩,λi aj H' st v H2 e s hi y=>?_⟩
 ·rw [hl] at hi
  obtain ⟨v,hv,_⟩:=r.get (yx (show i<xs.length by omega))
  obtain ⟨w,hw,_⟩:=r'.get (yx (show i<ys.length by omega))
  exact ⟨vs,ws,v,w,e.sqT h,e.sqT h',hv,hw⟩
 ·rw [hl] at hi
  obtain ⟨T,v',w',hT,rfl,rfl,y1,y2⟩:=y
  have k1:i<xs.length:=by omega
  have k2:i<ys.length:=by omega
  obtain ⟨v,hv,rv⟩:=r.get (yx k1)
  obtain ⟨w,hw,dX⟩:=r'.get (yx k2)
  have q1:=y1 vs (e.sqT h)
  have q2:=y2 ws (e.sqT h')
  rw [hv] at q1
  rw [hw] at q2
  cases q1;cases q2
  refine ⟨.tup [xs[i],ys[i]],?_,Ext.new hT,s.new hT,R.tup_of ⟨_,[_],rfl,R.ext e _ rv,_,[],rfl,R.ext e _ dX,rfl⟩ hT⟩
  rw [wA,y3,yx (by simp;omega)]
  simp
def oX (fs:Ah):zb->Mo Sq:=λenv st=>(fs env st).bind qN
def Qf {elts:List Expr} {kt:Nat} {tp:Pos} {x y:Expr} (hm:X.mg "zip" = none) (ha:MA X Er [x,y] fs) (hg:Gl X "zip" := by rfl) (hs:starEach [x,y] X.env=[(false,eval x X.env),(false,eval y X.env)]:=by rfl) (ib:starEach [y] X.env=[(false,eval y X.env)]:=by rfl) :
  MI X Er (.Tuple elts kt tp) (.Call (.Name "zip" p) [x,y] [] pos) (oX fs) :=
 PI.weak (OS hg hm ha hs ib) λU H Q ⟨env,st,ρ,re,rs,h⟩=>⟨env,st,ρ,re,rs,h.then λag H1 xs ae e1 s1 h1 vs rv=>by
  obtain ⟨ys,zs,rfl,h1⟩:=Qd h1
  obtain ⟨v,w,rfl,⟨a,us,rfl,k1,k2⟩,⟨b,ws,rfl,k3,k4⟩⟩:=Rs.two rv
  exact ⟨a,b,rfl,⟨us,k1⟩,⟨ws,k3⟩,h1.now s1 _ (Qe k1 k2 k3 k4)⟩⟩
def bX (t:Ak) (b:Aj):Nat->Aj
 |0,_,_=>.stuck
 |n+1,env,st=>(t env st).bind λc ae=>if c=true then (b env ae).bind λfl au=>match fl with
   |.nx e=>bX t b n e au
   |.ct e=>bX t b n e au
   |.bk e=>.ok (.nx e) au
   |.rt v=>.ok (.rt v) au
  else .ok (.nx env) ae
def qO (t:Ak) (b:Aj):Aj:=bX t b lim
def Qg (hp:PassesOwn (model X.prog X.w) X.A X.env X.xe) (hc:MT X Er c ga) (hb:eP X Er eJ gb):MS X Er (.While c eJ [] pos) (qO ga gb) :=
 PS.weak (Lo hp hc hb) λD U H ⟨env,st,ρ,re,rs,h⟩=>by
  refine ⟨λm U H=>∃env st ρ,a8 X.K X.mg ρ H env U/\bf X.K X.mg ρ H st/\Out X.K X.mg ρ H (bX ga gb m env st) (gS X.K X.mg D) Er,⟨lim,env,st,ρ,re,rs,h⟩,?_⟩
  rintro m U H ⟨env,st,ρ,re,rs,h⟩
  cases m with
  |zero=>exact h.elim
  |succ m =>
   refine ⟨env,st,ρ,re,rs,Out.then h λag H1 k ae e1 s1 h1=>?_⟩
   cases k with
   |true =>
    change (if true=true then _ else D.nx U H1)
    rw [zw rfl]
    refine ⟨_,λai H' p'=>⟨m,jW m,p'⟩,env,ae,ag,re.ext e1,s1,Out.then h1 λam H3 fl aY e3 s3 h3=>?_⟩
    cases fl with
    |nx e=>exact λaE r4=>⟨e,aY,am,r4,s3,h3⟩
    |ct e=>exact λaE r4=>⟨e,aY,am,r4,s3,h3⟩
    |bk e=>exact Out.fl (D:=D) (fl:=.nx e) (E:=Er) h3 s3
    |rt v=>exact Out.fl (D:=D) (fl:=.rt v) (E:=Er) h3 s3
   |false =>
    have z:D.nx U H1:=Out.fl (D:=D) (fl:=.nx env) (E:=Er) h1 s1 U (re.ext e1)
    exact z
def oY (cn fld:Str) (f:Ai):Aj:=λenv st=>(f env st).bind λx ae=>.err cn [fld] [x] ae
def Qh {cn fld:Str} {np a0:Pos} (C:x8 X.prog X.w X.K X.mg X.base cn fld) (he:ME X Er e fa) (hr:aV 2 X.A) (ht:wv X Er) (hc:X.calm=true) (hg:Gl X cn:=by rfl) (bR:(cn==("__debug__" : Str))=false:=by decide)
  (hs:starEach [e] X.env=(false,eval e X.env)::starEach [] X.env:=by rfl):MS X Er (.Raise (some (.Call (.Name cn np) [e] [] a0)) none pos) (oY cn fld fa):=by
 obtain ⟨C,f,fd,hm,M,F,hb⟩:=C
 exact PS.weak (Oo he M F hr hg hm hb (nj ht) ht.one hc bR hs) λD U H ⟨env,st,ρ,re,rs,h⟩=>⟨env,st,ρ,re,rs,h.then λag H1 x ae e1 s1 h1 v rv d hd=>by
  exact h1 ag _ _ _ (Ext.new hd) (s1.new hd) ⟨C,rfl,hm,.inr ⟨d,[v],rfl,yN,⟨v,[],rfl,R.ext (Ext.new hd) x rv,rfl⟩,rfl⟩⟩⟩
def qx (cn:Str):Aj:=λ_ st=>.err cn [] [] st
def bE {α:Type}:Res α->Res α
 |.err _ _ _ _=>.stuck
 |r=>r
def jM {α β:Type}{ρ:Ae}{H:Hp}{r:Res β}{f:β->Mo α}{good:List Addr->Hp->α->aa->Prop}{eO:List Addr->Hp->β->aa->Prop}{E E':XK}(h:Out K mg ρ H ((bE r).bind f) good E) (g:∀aj H' x st,Ext ρ H aj H'->bf K mg aj H' st->Out K mg aj H' (f x st) good E->eO aj H' x st):Out K mg ρ H r eO E':=by
 cases r with
 |ok x st=>exact λaj H' e s=>g aj H' x st e s (Out.ext h e)
 |err=>exact h.elim
 |stuck=>exact h.elim
def Qi (K:Frag) (mg:Ab) (f:Ai):TX:=λU H Q E=>∃env st ρ,a8 K mg ρ H env U/\bf K mg ρ H st/\Out K mg ρ H (f env st) (gV K mg Q) E
def MX (X:Cx) (e:Expr) (f:Ai):Prop:=PX X e (Qi X.K X.mg f)
def PX.weak {t t':TX}(h:PX X e t) (w:∀U H Q E,t' U H Q E->t U H Q E):PX X e t':=λpins s U H Q E I q=>h pins s U H Q E I (w U H Q E q)
def km (m:Al) (fs:Ah):Ai:=λenv st=>(bE (fs env st)).bind m
def Qj (C:a5 X.prog X.w X.K X.mg X.base x k m) (hr:aV k X.A) (ha:MA X.nox E0 (e::es) fs) (hg:Gl X x:=by rfl) (bR:(x==("__debug__" : Str))=false:=by decide)
  (he:starEach (e::es) X.env=(false,eval e X.env)::starEach es X.env:=by rfl) (br:(backTo pos (starEach es X.env)).any (·.1)=false:=by rfl):MX X (.Call (.Name x p) (e::es) [] pos) (km m fs):=by
 obtain ⟨f,fd,ps,hm,hk,hb,F⟩:=C
 exact PX.weak (Ot F hr hg hm hk hb .nil ha bR he br) λU H Q E ⟨env,st,ρ,re,rs,h⟩=>⟨env,st,ρ,re,rs,jM h λag H1 xs ae e1 s1 k vs rv=>by
  show gR X.K X.mg m (vs++[]) H1 Q E
  rw [List.append_nil]
  exact ⟨xs,ae,ag,rv,s1,k⟩⟩
def Qk (X:Cx) (name:Str) (k:Nat) (ta:TE) (t:TA):TX:=λU H Q E=>ta U H λx H1=>∃a C dx fs f fd ps sp,x=.ref a/\H1 a=some (.ins C dx fs)/\fs.lookup name=none/\fE X.K C/\Meth X.K C name f/\Binds X.K fd ps []/\bp X.prog X.w X.K X.mg X.base (cv X.prog X.w) k f fd ps sp /\
 t U H1 λvs H2=>sp (x::vs) H2 Q E
def Ql {pl:Sem Bool}{name:Str}{ta:TE}{t:TA}(he:PE X.nox o ta) (hr:aV k X.A) (ha:PA X.nox (e::es) t)
  (bD:starEach (e::es) X.env=(false,eval e X.env)::starEach es X.env:=by rfl) (br:(backTo pos (starEach es X.env)).any (·.1)=false:=by rfl)
  (ht:eval (.Call (.Attribute o name apos) (e::es) [] pos) X.env=(do
   let ov <-eval o X.env
   standAt apos.atName
   let (f,first) <-holding [ov] (getMethod ov name pl)
   callWith pos f first (backTo pos (starEach (e::es) X.env)) (backToKw pos (keywordEach [] X.env))):=by rfl) :
  PX X (.Call (.Attribute o name apos) (e::es) [] pos) (Qk X name k ta t):=by
 intro pins s U H Q E I h
 refine PySem.W.methodCall_KW (pl:=pl) (yY (he pins s U H _ (I.wish _) h) (λu s1 gg=>?_) λ_ _ z=>z.elim) ht
 obtain ⟨x,H1,I1,rx,a,C,dx,fs,f,fd,ps,sp,ex,ea,l,c,hm,hb,F,q⟩:=gg
 subst ex
 obtain rfl:u=Value.ref a:=rx
 refine vU I1.unwish ea c hm l ?_
 refine PySem.W.callWith_K (first:=[.ref a]) (h₀:=X.base) I.ok.mod.kin hm.kp (yY (ha pos pins s1 U H1 _ I1 q) (λus s2 ⟨vs,H2,I2,r,q2⟩=>⟨I2.unwish.kIn,?_⟩) λ_ _ z=>z.elim) bD br
 exact Ei (us:=.ref a::us) (vs:=.ref a::vs) F hr hb .nil I2.unwish (.cons rfl r) (by rw [List.append_nil];exact q2)
def gT (name:Str) (tab:Str->Option (Al)) (fo:Ai) (fs:Ah):Ai:=λenv st=>(bE (fo env st)).bind λo ae=>kh name tab o ae λn m=>(bE (fs env ae)).bind λys au=>m (.ref n::ys) au
def Qm {pl:Sem Bool}{name:Str}{tab:Str->Option (Al)}(hT:∀c m,tab c=some m->b_ X.prog X.w X.K X.mg X.base c name k m) (ho:ME X.nox E0 o fo) (hr:aV k X.A) (ha:MA X.nox E0 (e::es) fs)
  (bD:starEach (e::es) X.env=(false,eval e X.env)::starEach es X.env:=by rfl) (br:(backTo pos (starEach es X.env)).any (·.1)=false:=by rfl)
  (qI:eval (.Call (.Attribute o name apos) (e::es) [] pos) X.env=(do
   let ov <-eval o X.env
   standAt apos.atName
   let (f,first) <-holding [ov] (getMethod ov name pl)
   callWith pos f first (backTo pos (starEach (e::es) X.env)) (backToKw pos (keywordEach [] X.env))):=by rfl) :
  MX X (.Call (.Attribute o name apos) (e::es) [] pos) (gT name tab fo fs) :=
 PX.weak (Ql (pl:=pl) ho hr ha bD br qI) λU H Q E ⟨env,st,ρ,re,rs,h⟩=>⟨env,st,ρ,re,rs,jM h λag H1 x ae e1 s1 h1 v rv=>by
  obtain ⟨n,c,ks,xs,m,rfl,hn,hk,hc,h1⟩:=x_ h1
  obtain ⟨C,f,fd,ps,hC,cl,hm,hb,F⟩:=hT c m hc
  obtain ⟨p,rfl,hp⟩:=rv
  obtain ⟨C',dx,vs,hC',hH,hR,hl⟩:=s1.addr hn hp
  rw [hC] at hC'
  cases hC'
  exact ⟨p,C,dx,_,f,fd,ps,_,rfl,hH,qH hk,cl,hm,hb,F,env,ae,ag,re.ext e1,s1,jM h1 λao H2 ys au e2 s2 h2 ws rws=>⟨.ref n::ys,au,ao,⟨_,_,rfl,⟨p,rfl,e2.get hp⟩,rws⟩,s2,h2⟩⟩⟩
def lJ (ks:Ad) (ps:An):PV->Mo PV
 |.str z,st=>cg ((ks.zip ps).lookup z) st
 |_,_=>.stuck
def KdF (X:Cx) (name:Str) (ks:Ad) (ps:An) (full:Bool):Prop:=∃O,X.mg name=some (.ref O)/\KD X O/\(∀z q,(ks.zip ps).lookup z=some q->∃u v,nsIn X.K O z=some (some u)/\RelV v u/\∀ρ H,R X.K X.mg ρ H q v)/\(full=true->∀z,(ks.zip ps).lookup z=none->nsIn X.K O z=some none)
def zfy {name:Str} {ks:Ad} {ps:An} {full:Bool} (F:KdF X name ks ps full) (hb:ME X Er b fb) (hs:fQ b:=by exact λ_ _=>rfl) (hg:Gl X name:=by rfl) (hd:(name==("__debug__" : Str))=false:=by decide):ME X Er (.Subscript (.Name name p) b pos) (yq (lJ ks ps) fb):=by
 obtain ⟨O,hm,kd,hl,_⟩:=F
 refine PE.weak (Dx OT (vM (v:=.ref O) hg hm rfl hd) hb hs) λU H Q ⟨env,st,ρ,re,rs,h⟩=>⟨env,st,ρ,re,rs,h.then λag H1 x ae e1 s1 h1 v rv=>?_⟩
 cases x with
 |str z =>
  cases rv
  obtain ⟨q,hq,h1⟩:=lG h1
  obtain ⟨u,v,h2,h3,h4⟩:=hl z q hq
  exact ⟨O,z,u,v,rfl,rfl,kd,h2,h3,h1.now s1 _ (h4 _ _)⟩
 |_=>exact h1.elim
def gU (neg:Bool) (ks:Ad) (ps:An) (full:Bool):PV->Mo PV
 |.str z,st=>if ((ks.zip ps).lookup z).isSome=true\/full=true then .ok (.bl (neg.xor ((ks.zip ps).lookup z).isSome)) st else .stuck
 |_,_=>.stuck
def Qn {name:Str}{ks:Ad}{ps:An}{full:Bool}{O:Addr}(hl:∀z q,(ks.zip ps).lookup z=some q->∃u v,nsIn X.K O z=some (some u)/\RelV v u/\∀ρ H,R X.K X.mg ρ H q v) (hf:full=true->∀z,(ks.zip ps).lookup z=none->nsIn X.K O z=some none) {z:Str}(h:((ks.zip ps).lookup z).isSome=true\/full=true):∃r,nsIn X.K O z=some r/\r.isSome=((ks.zip ps).lookup z).isSome:=by
 cases hq:(ks.zip ps).lookup z with
 |some q=>obtain ⟨u,v,h2,_⟩:=hl z q hq;exact ⟨_,h2,rfl⟩
 |none =>
  rw [hq] at h
  rcases h with h|h
  ·cases h
  ·exact ⟨none,hf h z hq,rfl⟩
def zqG {name:Str} {ks:Ad} {ps:An} {full:Bool} (F:KdF X name ks ps full) (ha:ME X Er a fa) (hg:Gl X name:=by rfl) (hd:(name==("__debug__" : Str))=false:=by decide) (hk:behindInMarks .NotIn (.Name name p)=false:=by with_unfolding_all rfl):MT X Er (.Compare a [.NotIn] [.Name name p] pos) (mB (yq (gU true ks ps full) fa)):=by
 obtain ⟨O,hm,kd,hl,hf⟩:=F
 refine PT.weak (CV OU ha (vM (v:=.ref O) hg hm rfl hd) hk) λU H Q h=>?_
 obtain ⟨env,st,ρ,re,rs,h⟩:=xT h
 refine ⟨env,st,ρ,re,rs,h.then λag H1 x ae e1 s1 h1 v rv=>?_⟩
 cases x with
 |str z =>
  cases rv
  obtain ⟨q,h1⟩:=Out.ifp h1
  obtain ⟨r,h2,h3⟩:=Qn (name:=name) hl hf q
  have:=Out.now h1 s1 _ rfl
  exact ⟨O,z,r,rfl,rfl,kd,h2,by rw [h3];simpa using this⟩
 |_=>exact h1.elim
def jp:Am
 |.ref n,y,st=>yu st n λxs=>if xs.length<lim then .ok .non (st.set n (.lst (xs++[y]))) else .stuck
 |_,_,_=>.stuck
def y_:Am
 |.ref n,.ref k,st=>yu st n λxs=>yu st k λys=>if xs.length+ys.length<=lim then .ok .non (st.set n (.lst (xs++ys))) else .stuck
 |_,_,_=>.stuck
def R.refL {ρ:Ae}{H:Hp}{st:aa}{n:Nat}{xs:An}{v:V}(s:bf K mg ρ H st) (r:R K mg ρ H (.ref n) v) (h:st[n]?=some (.lst xs)):∃a vs,v=.ref a/\ρ[n]?=some a/\H a=some (.lst vs)/\Rs K mg ρ H xs vs:=by
 obtain ⟨a,rfl,ha⟩:=r
 obtain ⟨vs,h1,h2⟩:=s.addr h ha
 exact ⟨a,vs,rfl,ha,h1,h2⟩
def lK:PV->Mo PV
 |.ref n,st=>yu st n λ_=>.ok (.ref n) st
 |_,_=>.stuck
def jr (op:Am) (fo fv:Ai):Ai:=λenv st=>(fo env st).bind λo ae=>(lK o ae).bind λo ae=>(fv env ae).bind λy au=>op o y au
def Fb {α:Type}{ρ:Ae}{H:Hp}{x:PV}{st:aa}{f:PV->Mo α}{good:List Addr->Hp->α->aa->Prop}(h:Out K mg ρ H ((lK x st).bind f) good Er):∃n xs,x=.ref n/\st[n]?=some (.lst xs)/\Out K mg ρ H (f (.ref n) st) good Er:=by
 cases x with
 |ref n =>
  unfold lK yu at h
  cases hn:st[n]? with
  |none=>simp only [hn] at h;exact h.elim
  |some so =>
   cases so with
   |lst xs=>simp only [hn] at h;exact ⟨n,xs,rfl,hn,h⟩
   |_=>simp only [hn] at h;exact h.elim
 |_=>exact h.elim
theorem zaf {a0:Pos} (ho:ME X Er o fo) (he:ME X Er e fa) (cU:attributeBase o "append" X.env (eval o X.env)=eval o X.env:=by rfl)
  (gJ:((backTo a0 (starEach [e] X.env)).all (λx=>!x.1)&&(backToKw a0 (keywordEach [] X.env)).all (λx=>x.1.isSome)&&decide ([e].length+([]:List Keyword).length+(if ([]:List Keyword).isEmpty then 0 else 1)<30))=true:=by rfl)
  (fI:(apos.endLine==a0.line)=true:=by rfl) (hs:starEach [e] X.env=(false,eval e X.env)::starEach [] X.env:=by rfl) (br:(backTo a0 (starEach [] X.env)).any (·.1)=false:=by rfl):ME X Er (.Call (.Attribute o "append" apos) [e] [] a0) (jr jp fo fa) :=
 PE.weak (vY PySem.F.plainAttrs_list PySem.F.slot_list_append PySem.F.type_list_append zoH ho (tm he tj hs) cU gJ fI hs br) λU H Q ⟨env,st,ρ,re,rs,h⟩=>⟨env,st,ρ,re,rs,h.then λag H1 x ae e1 s1 h1 v rv=>by
  obtain ⟨n,xs,rfl,hn,h1⟩:=Fb h1
  obtain ⟨p,vs,rfl,hp,k1,k2⟩:=R.refL s1 rv hn
  refine ⟨.inl ⟨rfl,vs,aZ.of k1⟩,env,ae,ag,re.ext e1,s1,h1.then λao H2 y au e2 s2 h2 w rw=>?_⟩
  obtain ⟨Fc,f_,h2⟩:=jL h2
  obtain ⟨c,h2⟩:=Out.ifp h2
  obtain ⟨p',lB,e3,qt,k3,k4⟩:=R.refL s2 (R.ext e2 _ rv) f_
  cases e3
  have ew:Ext ao H2 ao (upd H2 p (.lst (lB++[w]))):=Ext.write k3 rfl
  refine ⟨p,lB,w,rfl,rfl,k3,?_,h2 ao _ ew (s2.write qt ew ⟨lB++[w],yN,Rs.ext ew _ (k4.append ⟨w,[],rfl,rw,rfl⟩)⟩) _ rfl⟩
  rw [<-k4.len,sizeLine_eq];have:Fc.length<1000000:=c;omega⟩
def zqH {a0:Pos} (ho:ME X Er o fo) (he:ME X Er e fa) (cU:attributeBase o "extend" X.env (eval o X.env)=eval o X.env:=by rfl)
  (gJ:((backTo a0 (starEach [e] X.env)).all (λx=>!x.1)&&(backToKw a0 (keywordEach [] X.env)).all (λx=>x.1.isSome)&&decide ([e].length+([]:List Keyword).length+(if ([]:List Keyword).isEmpty then 0 else 1)<30))=true:=by rfl)
  (fI:(apos.endLine==a0.line)=true:=by rfl) (hs:starEach [e] X.env=(false,eval e X.env)::starEach [] X.env:=by rfl) (br:(backTo a0 (starEach [] X.env)).any (·.1)=false:=by rfl):ME X Er (.Call (.Attribute o "extend" apos) [e] [] a0) (jr y_ fo fa) :=
 PE.weak (vY PySem.F.plainAttrs_list PySem.F.slot_list_extend PySem.F.type_list_extend zoJ ho (tm he tj hs) cU gJ fI hs br) λU H Q ⟨env,st,ρ,re,rs,h⟩=>⟨env,st,ρ,re,rs,h.then λag H1 x ae e1 s1 h1 v rv=>by
  obtain ⟨n,xs,rfl,hn,h1⟩:=Fb h1
  obtain ⟨p,vs,rfl,hp,k1,k2⟩:=R.refL s1 rv hn
  refine ⟨.inl ⟨rfl,vs,aZ.of k1⟩,env,ae,ag,re.ext e1,s1,h1.then λao H2 y au e2 s2 h2 w rw=>?_⟩
  cases y with
  |ref m =>
   obtain ⟨Fc,f_,h2⟩:=jL h2
   obtain ⟨Zg,Qo,h2⟩:=jL h2
   obtain ⟨c,h2⟩:=Out.ifp h2
   obtain ⟨p',lB,e3,qt,k3,k4⟩:=R.refL s2 (R.ext e2 _ rv) f_
   cases e3
   obtain ⟨q,z_,rfl,i7,k5,k6⟩:=R.refL s2 rw Qo
   have ew:Ext ao H2 ao (upd H2 p (.lst (lB++z_))):=Ext.write k3 rfl
   exact ⟨p,q,lB,z_,rfl,rfl,k3,k5,by rw [<-k4.len,<-k6.len];exact jb c,h2 ao _ ew (s2.write qt ew ⟨lB++z_,yN,Rs.ext ew _ (k4.append k6)⟩) _ rfl⟩
  |_=>exact h2.elim⟩
end
def endOf:Fl->Mo PV
 |.rt v,st=>.ok v st
 |.nx _,st=>.ok .non st
 |_,_=>.stuck
def zK (np nN:Nat) (g:Aj):Al:=λxs st=>if xs.length=np then (g (xs.map some++List.replicate (nN-np) none) st).bind endOf else .stuck
section
variable {P:Program} {w:World} {K:Frag} {mg:Ab} {base:Heap}
abbrev uc (P:Program) (w:World) (K:Frag) (mg:Ab) (base:Heap) (N:Ad) (qual:Str) (scope:Scope) (f:Addr) (cd:Value) (A:Around) (outer:List Env) (s:Shared) (H:Hp) (E:XK):Cx :=
 (dQ (cv P w) P w K mg base N qual scope f cd A outer s H E).wish (XA (dQ (cv P w) P w K mg base N qual scope f cd A outer s H E) E)
theorem Qp {N:Ad}{np:Nat}{ρ:Ae}{H:Hp}{xs:An}{vs:List V}(r:Rs K mg ρ H xs vs) (h:xs.length=np):a8 K mg ρ H (xs.map some++List.replicate (N.length-np) none) (L2.start N vs):=by
 have hl:=r.len
 refine ⟨by simp [L2.start,<-hl,h],λi x hx=>?_⟩
 by_cases hi:i<xs.length
 ·rw [iQ (by simpa using hi)] at hx
  simp only [y3] at hx
  cases hq:xs[i]? with
  |none=>rw [hq] at hx;cases hx
  |some y =>
   rw [hq] at hx
   cases hx
   obtain ⟨v,hv,rv⟩:=r.get hq
   refine ⟨v,?_,rv⟩
   unfold L2.start
   rw [iQ (by simp;omega)]
   simp [hv]
 ·rw [iR (by simpa using hi)] at hx
  rw [List.getElem?_replicate] at hx
  split at hx<;>cases hx
def ud {x qual:Str}{sm:Stmt}{f:Addr}{fd:FuncData}{N ps:Ad}{k:Nat}{g:Aj}(F:eB K x qual sm f fd) (S:aq N ps (zG sm))
  (hb:∀(aU:Value) (A:Around) (outer:List Env) (s:Shared) (H:Hp) (E:XK),aV k (A.deeper (PyProof.Rows.envOfC qual (zG sm) s.heap.objs.size f aU))->eP (uc P w K mg base N qual (zG sm) f aU A outer s H E) E (jF sm) g) :
  bp P w K mg base (cv P w) (k+1) f fd ps (gR K mg (zK ps.length N.length g)):=by
 refine F.okT S (λvs H Q E h=>?_) λaU A outer s H vs Q E hr h=>⟨_,hb aU A outer s H E hr,?_⟩
 ·obtain ⟨xs,st,ρ,r,_,h⟩:=h
  obtain ⟨hl,_⟩:=Out.ifp h
  rw [<-r.len];exact hl
 ·obtain ⟨xs,st,ρ,r,rs,h⟩:=h
  obtain ⟨hl,h⟩:=Out.ifp h
  refine ⟨_,st,ρ,Qp r hl,rs,h.then λag H1 fl ae e1 s1 h1=>?_⟩
  cases fl with
  |rt v=>exact λu ru=>Out.now (x:=v) h1 s1 u ru
  |nx e=>exact λai _=>Out.now (x:=PV.non) h1 s1 _ rfl
  |_=>exact h1.elim
def Qq {x:Str}{f:Addr}{fd:FuncData}{ps:Ad}{k:Nat}{m:Al}{sm:Stmt}{qual nm:Str}(hm:mg x=some (.ref f)) (F:eB K nm qual sm f fd) (hb:Binds K fd ps []) (h:bp P w K mg base (cv P w) k f fd ps (gR K mg m)):a5 P w K mg base x k m:=⟨f,fd,ps,hm,F.kp,hb,h⟩
end
section
variable {X:Cx} {Er:XK} {P:Program} {w:World} {K:Frag} {mg:Ab} {base:Heap} {pos:Pos} {x:Str} {st:Stmt}
theorem zm {k:Nat}{A:Around}(hr:aV k A):A.units+200<cLine:=by have:=hr.un;omega
def yT:Aj:=λ_ _=>.stuck
def jN:MS X Er st yT:=PS.weak Lc λD U H ⟨env,st,ρ,re,rs,h⟩=>h
def Aq {n:Int} (h:∃t,X.mg x=some (.int n t)) (hg:Gl X x:=by rfl) (hd:(x==("__debug__" : Str))=false:=by decide):ME X Er (.Name x pos) (mC (.int n)):=let ⟨t,h⟩:=h;O0 (v:=.int n) h ⟨t,rfl⟩ (λ_ _=>rfl) hg hd
def FnF (K:Frag) (mg:Ab) (x:Str) (sm:Stmt) (ps:Ad):Prop:=∃f fd,mg x=some (.ref f)/\eB K x x sm f fd/\Binds K fd ps []
def MtF (K:Frag) (mg:Ab) (c name qual:Str) (sm:Stmt) (ps:Ad):Prop:=∃C f fd,mg c=some (.ref C)/\fE K C/\Meth K C name f/\eB K name qual sm f fd/\Binds K fd ps []
def NwF (K:Frag) (mg:Ab) (c qual:Str) (sm:Stmt) (ps:Ad):Prop:=∃C f fd,mg c=some (.ref C)/\Mk K C f/\eB K "__init__" qual sm f fd/\Binds K fd ps []
def XnF (K:Frag) (mg:Ab) (c fld qual:Str) (sm:Stmt):Prop:=∃C f fd,mg c=some (.ref C)/\fX K C f/\m9 K C fld/\eB K "__init__" qual sm f fd/\Binds K fd ["self", fld] []
def FnF.ok {sm:Stmt}{N ps:Ad}{k:Nat}{g:Aj}(h:FnF K mg x sm ps) (S:aq N ps (zG sm))
  (hb:∀(f:Addr) (aU:Value) (A:Around) (outer:List Env) (s:Shared) (H:Hp) (E:XK),aV k (A.deeper (PyProof.Rows.envOfC x (zG sm) s.heap.objs.size f aU))->eP (uc P w K mg base N x (zG sm) f aU A outer s H E) E (jF sm) g) :
  a5 P w K mg base x (k+1) (zK ps.length N.length g):=by
 obtain ⟨f,fd,hm,F,b⟩:=h
 exact Qq hm F b (ud F S (hb f))
def MtF.ok {c name qual:Str}{sm:Stmt}{N ps:Ad}{k:Nat}{g:Aj}(h:MtF K mg c name qual sm ps) (S:aq N ps (zG sm))
  (hb:∀(f:Addr) (aU:Value) (A:Around) (outer:List Env) (s:Shared) (H:Hp) (E:XK),aV k (A.deeper (PyProof.Rows.envOfC qual (zG sm) s.heap.objs.size f aU))->eP (uc P w K mg base N qual (zG sm) f aU A outer s H E) E (jF sm) g) :
  b_ P w K mg base c name (k+1) (zK ps.length N.length g):=by
 obtain ⟨C,f,fd,hm,cl,mt,F,b⟩:=h
 exact ⟨C,f,fd,ps,hm,cl,mt,b,ud F S (hb f)⟩
def NwF.ok {c qual:Str}{sm:Stmt}{N ps:Ad}{k:Nat}{g:Aj}(h:NwF K mg c qual sm ps) (S:aq N ps (zG sm))
  (hb:∀(f:Addr) (aU:Value) (A:Around) (outer:List Env) (s:Shared) (H:Hp) (E:XK),aV k (A.deeper (PyProof.Rows.envOfC qual (zG sm) s.heap.objs.size f aU))->eP (uc P w K mg base N qual (zG sm) f aU A outer s H E) E (jF sm) g) :
  iw P w K mg base c (k+1) (zK ps.length N.length g):=by
 obtain ⟨C,f,fd,hm,mk,F,b⟩:=h
 exact ⟨C,f,fd,ps,hm,mk,b,ud F S (hb f)⟩
def XnF.ok {c fld qual:Str} {sm:Stmt} (h:XnF K mg c fld qual sm) (S:aq ["self", fld] ["self", fld] (zG sm))
  (hb:∀(C f:Addr) (aU:Value) (A:Around) (outer:List Env) (s:Shared) (H:Hp) (E:XK),m9 K C fld->cA (dQ (cv P w) P w K mg base ["self", fld] qual (zG sm) f aU A outer s H E) (jF sm) (Ee K (sJ 0) (sJ 1) fld)) :
  x8 P w K mg base c fld:=by
 obtain ⟨C,f,fd,hm,M,xc,F,b⟩:=h
 refine ⟨C,f,fd,hm,M,F.okX S (λvs H Q E h=>?_) (λaU A outer s H vs Q E hr h=>⟨_,hb C f aU A outer s H E xc,?_⟩),b⟩
 ·obtain ⟨a,t,y,rfl,_⟩:=h;rfl
 ·obtain ⟨a,t,y,rfl,ha,q⟩:=h
  exact ⟨y,rfl,.ref a,rfl,a,C,t,rfl,ha,xc,λd hd=>q d hd⟩
def XnF.tr {c fld qual:Str}{sm:Stmt}(h:XnF K mg c fld qual sm):∃C,mg c=some (.ref C)/\fW K C:=by
 obtain ⟨C,f,fd,hm,M,_⟩:=h
 exact ⟨C,hm,M.of⟩
theorem ue {p:Addr} {oc:Value} {od:Option Addr} {its:Array Value} {n:Nat} {sl:Array (Option Value)} {xs:An} {vs:List V} (hl:K.lookup p=some ⟨oc,od,.seq its n,sl⟩) (hc:oc=.type "tuple") (hz:its.size<=1000) (hv:Vals vs its.toList) (hr:∀ρ H,Rs K mg ρ H xs vs):∀ρ H,R K mg ρ H (.tup xs) (.ref p) :=
 fun ρ H=>⟨p,vs,rfl,.inr ⟨_,its,n,hl,hc,rfl,by rw [sizeLine_eq];omega,hv⟩,hr ρ H⟩
theorem we:bootBuiltins "len" = some (.builtin "len"):=by decide +kernel
theorem Qr:bootBuiltins "isinstance" = some (.builtin "isinstance"):=by decide +kernel
theorem uf:bootBuiltins "int" = some (.type "int"):=by decide +kernel
theorem Fd:bootBuiltins "str" = some (.type "str"):=by decide +kernel
theorem jj:bootBuiltins "tuple" = some (.type "tuple"):=by decide +kernel
theorem ug:bootBuiltins "dict" = some (.type "dict"):=by decide +kernel
theorem Qs:bootBuiltins "list" = some (.type "list"):=by decide +kernel
end
def a5.mono {P:Program}{w:World}{K:Frag}{mg:Ab}{base:Heap}{x:Str}{j k:Nat}{m:Al}(h:a5 P w K mg base x j m) (Aw:j<=k):a5 P w K mg base x k m:=by
 obtain ⟨f,fd,ps,h1,h2,h3,h4⟩:=h
 exact ⟨f,fd,ps,h1,h2,h3,h4.mono Aw⟩
def b_.mono {P:Program}{w:World}{K:Frag}{mg:Ab}{base:Heap}{c x:Str}{j k:Nat}{m:Al}(h:b_ P w K mg base c x j m) (Aw:j<=k):b_ P w K mg base c x k m:=by
 obtain ⟨C,f,fd,ps,h1,h2,h3,h4,h5⟩:=h
 exact ⟨C,f,fd,ps,h1,h2,h3,h4,h5.mono Aw⟩
def ko (K:Frag):Sp:=λvs H Q _=>∃(a:Addr) (ns:List Int),vs=[.ref a]/\aZ K H a (ns.map V.int)/\Only H/\ns.length<=63/\∀H',Q (.bl true) H'
theorem Fe {K:Frag}{mg:Ab}{ρ:Ae}{H:Hp}:∀ns:List Int,Rs K mg ρ H (ns.map PV.int) (ns.map V.int)
 |[]=>rfl
 |n::ns=>⟨_,_,rfl,rfl,Fe ns⟩
def Qt {K:Frag}{H:Hp}{a:Addr}{vs:List V}(h:aZ K H a vs) (o:Only H):i_ K H a vs:=by
 rcases h with (h|⟨ob,h⟩)|h
 ·rcases o a with z|⟨ob,xs,z⟩
  ·rw [h] at z;cases z
  ·rw [h] at z;cases z
 ·exact .inl ⟨ob,h⟩
 ·exact .inr h
def Qu {P:Program}{w:World}{K:Frag}{mg:Ab}{base:Heap}{k:Nat}{f:Addr}{fd:FuncData}{ps:Ad}{m:Al}(F:bp P w K mg base (cv P w) k f fd ps (gR K mg m)) (h:∀ns:List Int,ns.length<=63->∃st,m [.frl (ns.map PV.int)] []=.ok (.bl true) st):bp P w K mg base (cv P w) k f fd ps (ko K) :=
 F.imp λvs H Q E ⟨a,ns,e,hs,ho,hl,q⟩=>by
  subst e
  obtain ⟨st,hm⟩:=h ns hl
  refine ⟨[.frl (ns.map PV.int)],[],[],⟨_,[],rfl,⟨a,_,rfl,Qt hs ho,Fe ns⟩,rfl⟩,⟨rfl,List.nodup_nil,λn so e=>by simp at e⟩,?_⟩
  rw [hm]
  intro aj H' _ _ v rv
  cases rv
  exact q H'
def walkM {l:PySem.W.OpenLaw}{k:Nat}{x:Str}{q:Program}{loose:Ad}{XP:(Ab)->Heap->Prop}{YP:World->Heap->Prop}{d:DefRec}{K:Params->PySem.W.Frag}(hn:l.most=some 63) (qh:d.params.defaults=[]) (hr:aV k callerA)
  (hY:∀(w:World) (h:Heap),YP w h->(K w.params).In h)
  (F:∀(w:World) (mg:Ab) (fa:Addr) (h:Heap),(K w.params).In h->h.Ns mainGlobals mg->mg d.name=some (.ref fa) ->
   ∃fd:FuncData,(∀(s:Shared) (u:Value),BindsTo s fd ⟨[u],[]⟩ [(x,u)])/\∀base:Heap,(K w.params).In base->base.Ns mainGlobals mg->bp l.prog w (K w.params) mg base (cv l.prog w) k fa fd [x] (ko (K w.params))) :
  PySem.W.WalkO q loose XP YP l.row.toRowW d [] (λf vs=>PySem.call f vs) :=
 L2.zoQ (n:=63) (k:=k) (x:=x) (CX:=λw=>cv l.prog w) (sp:=λw=>ko (K w.params)) hn (by decide) qh hr hY F (λ_ _ a ns hl ho hS=>⟨a,ns,rfl,hS,ho,hl,λ_=>rfl⟩) λw H s e s' g=>by obtain ⟨_,_,_,_,_,_,_,_,_,_,_,_,_,_,_,z⟩:=g;exact z
section
variable {α β:Type} {env:zb} {st ae:aa} {fa fb fc fo fv:Ai} {fs:Ah} {ga gb:Ak} {g g':Aj} {op er:Am} {o1:PV->Mo PV} {m:Al}
@[simp] def zH (a:α) (f:α->Mo β):(Res.ok a st).bind f=f a st:=(rfl)
@[simp] def uh (c:Str) (ks:Ad) (xs:An) (f:α->Mo β):(Res.err c ks xs st:Res α).bind f=.err c ks xs st:=(rfl)
@[simp] def Zh (f:α->Mo β):(Res.stuck:Res α).bind f=.stuck:=(rfl)
@[simp] def Zi (p:Prop) [Decidable p] (a b:Res α) (f:α->Mo β):(if p then a else b).bind f=if p then a.bind f else b.bind f:=by split<;>rfl
@[simp] def Qv (i:Nat):za i env st=(match env[i]? with|some (some x)=>.ok x st|_=>.stuck):=(rfl)
@[simp] def Zj (x:PV):mC x env st=.ok x st:=(rfl)
@[simp] def Qw:zf op fa fb env st=(fa env st).bind λx ae=>(fb env ae).bind λy au=>op x y au:=(rfl)
@[simp] def Qx:yq o1 fa env st=(fa env st).bind o1:=(rfl)
@[simp] def Qy:mB fa env st=(fa env st).bind ik:=(rfl)
@[simp] def Ax (b:Bool):ik (.bl b) st=.ok b st:=(rfl)
@[simp] def Zk:qC op er fa fb fc env st=(fa env st).bind λx ae=>(fb env ae).bind λy au=>(op x y au).bind λk aY=>(ik k aY).bind λb dn=>if b=true then (fc env dn).bind λz dN=>er y z dN else .ok (.bl false) dn:=(rfl)
@[simp] def Ff:j0 ga gb env st=(ga env st).bind λc ae=>if c=true then gb env ae else .ok false ae:=(rfl)
@[simp] def Fg:j_ ga gb env st=(ga env st).bind λc ae=>if c=true then .ok true ae else gb env ae:=(rfl)
@[simp] def Qz:ka ga env st=(ga env st).bind λc ae=>.ok (!c) ae:=(rfl)
@[simp] def Fh:lD fa fb env st=(fa env st).bind λx ae=>(ik x ae).bind λc au=>if c=true then fb env au else .ok (.bl false) au:=(rfl)
@[simp] def Zl:zh env st=.ok [] st:=(rfl)
@[simp] def QA:zd fa fs env st=(fa env st).bind λx ae=>(fs env ae).bind λxs au=>.ok (x::xs) au:=(rfl)
@[simp] def QB:zU fs env st=(fs env st).bind λxs ae=>if xs.length<=lim then .ok (.tup xs) ae else .stuck:=(rfl)
@[simp] def QC:jA fs env st=(fs env st).bind λxs ae=>if xs.length<=lim then .ok (.ref ae.length) (ae++[.lst xs]) else .stuck:=(rfl)
@[simp] def QD (fl fu:zb->Mo (Option Int)):kg fa fl fu env st=(fa env st).bind λx ae=>(fl env ae).bind λl au=>(fu env au).bind λu aY=>qD x l u aY:=(rfl)
@[simp] def QE:dc fa env st=(fa env st).bind x5:=(rfl)
@[simp] def QF (i:Int):x5 (.int i) st=.ok (some i) st:=(rfl)
@[simp] def QG:zq m fs env st=(fs env st).bind m:=(rfl)
@[simp] def Zm (C:Int->Int->Bool) (f:Int->Int->Int) (i j:Int):opI C f (.int i) (.int j) st=if C i j=true then .ok (.int (f i j)) st else .stuck:=(rfl)
@[simp] def Zn (f:Int->Int->Bool) (i j:Int):tX f (.int i) (.int j) st=.ok (.bl (f i j)) st:=(rfl)
@[simp] def Zo (i:Int):oU (.int i) st=.ok (.int (-i)) st:=(rfl)
@[simp] def Zp (i j:Int):yG (.int i) (.int j) st=.ok (.int (i+j)) st:=(rfl)
@[simp] def QH (x y:Str):yG (.str x) (.str y) st=if x.length+y.length<=lim then .ok (.str (x++y)) st else .stuck:=(rfl)
@[simp] def Zq (x:PV):cg (some x) st=.ok x st:=(rfl)
@[simp] def QI (xs:An) (l u:Option Int):qD (.tup xs) l u st=.ok (.tup (dM xs l u)) st:=(rfl)
@[simp] def QJ (xs:An) (l u:Option Int):qD (.frl xs) l u st=.ok (.ref st.length) (st++[.lst (dM xs l u)]):=(rfl)
@[simp] def QK (n:Nat):qE [.ref n] st=yu st n λxs=>.ok (.int xs.length) st:=(rfl)
@[simp] def Fi (k:Bool):qF [.bl k] st=.ok (.int (if k then 1 else 0)) st:=(rfl)
@[simp] def Zr (x y:PV):zZ x y st=if plain x=true/\plain y=true/\dep x<=150 then .ok (.bl (bu x y)) st else .stuck:=(rfl)
@[simp] def Zs (x y:PV):j9 x y st=if plain x=true/\plain y=true/\dep x<=150 then .ok (.bl (!bu x y)) st else .stuck:=(rfl)
@[simp] def QL:z0 env st=.ok (.nx env) st:=(rfl)
@[simp] def Ay:zt g g' env st=(g env st).bind (gE g'):=(rfl)
@[simp] def QM:gE g (.nx env) st=g env st:=(rfl)
@[simp] def QN (x:PV):gE g (.rt x) st=.ok (.rt x) st:=(rfl)
@[simp] def QO (i:Nat):zQ i fa env st=(fa env st).bind λx ae=>.ok (.nx (env.set i (some x))) ae:=(rfl)
@[simp] def Fj:je fa env st=(fa env st).bind λ_ ae=>.ok (.nx env) ae:=(rfl)
@[simp] def Fn:zJ fa env st=(fa env st).bind λx ae=>.ok (.rt x) ae:=(rfl)
@[simp] def Fo:zW ga g g' env st=(ga env st).bind λc ae=>if c=true then g env ae else g' env ae:=(rfl)
@[simp] def Zt (c f:Str):oY c f fa env st=(fa env st).bind λx ae=>.err c [f] [x] ae:=(rfl)
@[simp] def QP (i j:Nat) (x y:PV):g2 i j (.tup [x,y]) env=some ((env.set i (some x)).set j (some y)):=(rfl)
@[simp] def QQ (x:PV):endOf (.rt x) st=.ok x st:=(rfl)
@[simp] def Zu (e:zb):endOf (.nx e) st=.ok .non st:=(rfl)
@[simp] def wX:yA fa env st=(fa env st).bind nA:=(rfl)
@[simp] def uk (n:Nat):nA (.ref n) st=yu st n λ_=>.ok (.rf n) st:=(rfl)
@[simp] def QR:oX fs env st=(fs env st).bind qN:=(rfl)
@[simp] def Zv (xs ys:An):qN [.tup xs,.tup ys] st=.ok (.im (wA xs ys)) st:=(rfl)
@[simp] def oZ (src:zb->Mo Sq) (gt:PV->zb->Option zb):jq src gt g env st=(src env st).bind λq ae=>qM gt g q env ae:=(rfl)
@[simp] def QS (gt:PV->zb->Option zb) (xs:An):qM gt g (.im xs) env st=forL gt g xs env st:=(rfl)
@[simp] def Zw (gt:PV->zb->Option zb):forL gt g [] env st=.ok (.nx env) st:=(rfl)
@[simp] def Zx (i:Int):Mi.plain (.int i)=true:=(rfl)
@[simp] def Zy (x:Str):Mi.plain (.str x)=true:=(rfl)
@[simp] def Zz (x:PV) (xs:An):bI (x::xs)=(Mi.plain x&&bI xs):=(rfl)
@[simp] def ZA (i:Int):dep (.int i)=0:=(rfl)
@[simp] def ZC (x:Str):dep (.str x)=0:=(rfl)
@[simp] def ZD (x:PV) (xs:An):dz (x::xs)=max (dep x) (dz xs):=(rfl)
@[simp] def ZE (a b:Int):bu (.int a) (.int b)=(a==b):=(rfl)
@[simp] def ZF (a b:Str):bu (.str a) (.str b)=(a==b):=(rfl)
@[simp] def j1 (a:α):bE (Res.ok a st)=.ok a st:=(rfl)
@[simp] def ZG:gj .non=true:=(rfl)
def yv {n:Nat}{xs:An}(h:st[n]?=some (.lst xs)) (k:List PV->Res α):yu st n k=k xs:=by unfold yu;rw [h]
def o_ {n:Nat}{c:Str}{ks:Ad}{xs:An}(h:st[n]?=some (.ins c ks xs)) (k:Str->List Str->List PV->Res α):jc st n k=k c ks xs:=by unfold jc;rw [h]
@[simp] def Fp (f:Str) (i x:Str->Bool) (n:Nat):aK f i x (.ref n) st=jc st n λc ks xs=>if i c=true then cg ((ks.zip xs).lookup f) st else .stuck:=(rfl)
@[simp] def QT (f:Str) (i x:Str->Bool) (c:Str) (ks:Ad) (xs:An):aK f i x (.exo c ks xs) st=if x c=true then cg ((ks.zip xs).lookup f) st else .stuck:=(rfl)
@[simp] def ZH (ks:Ad) (ps:An) (z:Str):lJ ks ps (.str z) st=cg ((ks.zip ps).lookup z) st:=(rfl)
@[simp] def ZI (tab:Str->Option (Al)):x9 tab fa fs env st=(fa env st).bind λf ae=>match f with | .fn x=>(match tab x with|some m=>(fs env ae).bind m|none=>.stuck)|_=>.stuck:=(rfl)
@[simp] def QU (f:Str) (i:Str->Bool):Mi.sFld f i fo fv env st=(fv env st).bind λx ae=>(fo env ae).bind λo au=>(putAt f i x o au).bind λ_ aY=>.ok (.nx env) aY:=(rfl)
@[simp] def QV:jr op fo fv env st=(fo env st).bind λo ae=>(lK o ae).bind λo ae=>(fv env ae).bind λy au=>op o y au:=(rfl)
@[simp] def QW (n:Nat):lK (.ref n) st=yu st n λ_=>.ok (.ref n) st:=(rfl)
@[simp] def QX (a b:String):(Str.ofString a=Str.ofString b)↔a=b:=by
 constructor
 ·intro h
  rw [Str.ofString_eq_byList] at h
  have h1:(a.toList.map Char.toNat)=(b.toList.map Char.toNat):=by
   have:=congrArg (λz=>z.cps.toList) h
   simpa [Str.ofStringByList] using this
  apply String.ext_iff.mpr
  exact (List.map_inj_right (λc d e=>Char.toNat_inj.mp e)).mp h1
 ·intro h;rw [h]
@[simp] def ZJ (a b:String):(Str.ofString a==Str.ofString b)=(a==b):=by
 rw [Bool.eq_iff_iff];simp
def Az (n:Nat):bX ga g (n+1) env st=(ga env st).bind λc ae=>if c=true then (g env ae).bind λfl au=>match fl with
   |.nx e=>bX ga g n e au
   |.ct e=>bX ga g n e au
   |.bk e=>.ok (.nx e) au
   |.rt v=>.ok (.rt v) au
  else .ok (.nx env) ae:=rfl
@[simp] def ZK:lim=1000000:=(rfl)
@[simp] def ZL (f:Str) (i:Str->Bool) (x:PV) (n:Nat):Mi.putAt f i x (.ref n) st=jc st n λc ks xs=>if i c=true/\ks.length<1000 then .ok () (st.set n (.ins c (putK f x ks xs).1 (putK f x ks xs).2)) else .stuck:=(rfl)
end
section
variable {K:Frag} {mg:Ab} {h:Heap} {x:Str} {f C:Addr} {oc:Value} {od an:Option Addr} {fF:Array (Option Value)} {kV doc pm aU ct:Value} {sm:Stmt} {ps:Ad}
def zcV (X:K.In h) (G:h.Ns mainGlobals mg) (a:nsIn K mainGlobals x=some (some (.ref f))) (l:K.lookup f=some ⟨oc,od,.func (fnOf x x (wE sm) (jF sm) (zG sm) .none kV doc pm an aU ct),fF⟩) (c:codeIn K aU x=true) (k:keepIn K (.ref f)=true)
  (b:∀(kV doc pm:Value) (an:Option Addr) (aU ct:Value) (us:Af),us.length=ps.length->bindArgs (fnOf x x (wE sm) (jF sm) (zG sm) .none kV doc pm an aU ct) ⟨us,[]⟩=pure (ps.zip us)):FnF K mg x sm ps :=
 ⟨f,_,mg_of X G a,lh l c k,(lh l c k).binds b⟩
def zee {c name qual:Str} (X:K.In h) (G:h.Ns mainGlobals mg) (aC:nsIn K mainGlobals c=some (some (.ref C))) (pg:plainGet K C Str.empty=true) (hd:hasDictIn K C=true) (po:plainOver K C=true) (sa:findIn K (.ref C) "__setattr__" = some (some (.builtin "object.__setattr__")))
  (a:findIn K (.ref C) name=some (some (.ref f))) (i:isFn K (.ref f)=true) (l:K.lookup f=some ⟨oc,od,.func (fnOf name qual (wE sm) (jF sm) (zG sm) .none kV doc pm an aU ct),fF⟩) (cd:codeIn K aU qual=true) (k:keepIn K (.ref f)=true)
  (b:∀(kV doc pm:Value) (an:Option Addr) (aU ct:Value) (us:Af),us.length=ps.length->bindArgs (fnOf name qual (wE sm) (jF sm) (zG sm) .none kV doc pm an aU ct) ⟨us,[]⟩=pure (ps.zip us)):MtF K mg c name qual sm ps :=
 ⟨C,f,_,mg_of X G aC,⟨pg,hd,po,sa⟩,⟨a,i,k⟩,lh l cd k,(lh l cd k).binds b⟩
def zfF {c qual:Str}(X:K.In h) (G:h.Ns mainGlobals mg) (aC:nsIn K mainGlobals c=some (some (.ref C))) (mk:makesIn K C=true) (kc:keepIn K (.ref C)=true)
  (a:findIn K (.ref C) "__init__" = some (some (.ref f))) (i:isFn K (.ref f)=true) (l:K.lookup f=some ⟨oc,od,.func (fnOf "__init__" qual (wE sm) (jF sm) (zG sm) .none kV doc pm an aU ct),fF⟩) (cd:codeIn K aU qual=true) (k:keepIn K (.ref f)=true)
  (b:∀(kV doc pm:Value) (an:Option Addr) (aU ct:Value) (us:Af),us.length=ps.length->bindArgs (fnOf "__init__" qual (wE sm) (jF sm) (zG sm) .none kV doc pm an aU ct) ⟨us,[]⟩=pure (ps.zip us)):NwF K mg c qual sm ps :=
 ⟨C,f,_,mg_of X G aC,⟨mk,a,i,kc⟩,lh l cd k,(lh l cd k).binds b⟩
def QY {cd:ClassData}(h:clsIn K C=some cd) (v:cX cd.mro=true):fV K C=true:=by unfold fV;rw [h];exact v
def zrf {c fld qual:Str}{B N:Addr}{nm q:Str}{bs:Af}{cT:Bool}{sn:Ad}{sub:Af}{ab:Bool}{col:Option Bool}{dd:Option Addr}{k0 k1 k2 k3 k5:Option Value}{cc:Value}{d:Option Addr}{es:Array DictEntry}{n:Nat}{sl:Array (Option Value)}{Fq:ClassData}
  (X:K.In h) (G:h.Ns mainGlobals mg) (aC:nsIn K mainGlobals c=some (some (.ref C)))
  (hC:K.lookup C=some (excClassObj nm q C N bs (.ref B::dJ) cT sn sub ab col dd k0 k1 k2 k3 k5 "ValueError.__new__")) (hB:excIn K B dJ "ValueError.__new__" = true)
  (hN:K.lookup N=some ⟨cc,d,.dict es n,sl⟩) (he:(es.all λe=>match e.key with | .str _ _=>true|_=>false)=true) (hi:nsIn K N "__init__" = some (some (.ref f))) (fn:isFn K (.ref f)=true) (kp:keepIn K (.ref C)=true)
  (sa:findIn K (.ref C) "__setattr__" = some (some (.builtin "object.__setattr__"))) (hcl:clsIn K C=some Fq) (hl:cX Fq.mro=true) (no:takerIn K C fld=some none) (QZ:hasDictIn K C=true)
  (l:K.lookup f=some ⟨oc,od,.func (fnOf "__init__" qual (wE sm) (jF sm) (zG sm) .none kV doc pm an aU ct),fF⟩) (Ft:codeIn K aU qual=true) (k:keepIn K (.ref f)=true)
  (b:∀(kV doc pm:Value) (an:Option Addr) (aU ct:Value) (us:Af),us.length=[("self" : Str),fld].length->bindArgs (fnOf "__init__" qual (wE sm) (jF sm) (zG sm) .none kV doc pm an aU ct) ⟨us,[]⟩=pure ([("self" : Str),fld].zip us)):XnF K mg c fld qual sm :=
 ⟨C,f,_,mg_of X G aC,fX.mk' hC hB hN he hi fn kp,⟨sa,QY hcl hl,no,QZ⟩,lh l Ft k,(lh l Ft k).binds b⟩
def zrg {c fld:Str} (X:K.In h) (G:h.Ns mainGlobals mg) (aC:nsIn K mainGlobals c=some (some (.ref C))) (pg:plainGet K C Str.empty=true) (hd:hasDictIn K C=true) (po:plainOver K C=true) (sa:findIn K (.ref C) "__setattr__" = some (some (.builtin "object.__setattr__"))) (na:findIn K (.ref C) fld=some none) :
  ∃C,mg c=some (.ref C)/\fE K C/\dH K C fld:=⟨C,mg_of X G aC,⟨pg,hd,po,sa⟩,na⟩
def zrh {c fld:Str} (X:K.In h) (G:h.Ns mainGlobals mg) (aC:nsIn K mainGlobals c=some (some (.ref C))) (ga:findIn K (.ref C) "__getattribute__" = some (some (.builtin "BaseException.__getattribute__"))) (hk:findIn K (.ref C) "__getattr__" = some none) (hB:mroIn K C (.type "BaseException")=some true)
  (hd:hasDictIn K C=true) (no:findIn K (.ref C) fld=some none):∃C,mg c=some (.ref C)/\gP K C/\hasDictIn K C=true/\findIn K (.ref C) fld=some none:=⟨C,mg_of X G aC,⟨ga,hk,hB⟩,hd,no⟩
def zri {α:Type}{P:α->Prop}:∀p∈([]:List α),P p:=λ_ h=>nomatch h
def all_cons {α:Type}{P:α->Prop}{a:α}{l:List α}(h:P a) (t:∀p∈l,P p):∀p∈a::l,P p:=λp hp=>by
 rcases yE.mp hp with rfl|hp
 ·exact h
 ·exact t p hp
theorem Fu {α β:Type} [BEq α] [LawfulBEq α] {a:α}{b:β}:∀{l:List (α×β)},l.lookup a=some b->(a,b)∈l
 |[],h=>by simp at h
 | (c,d)::l,h=>by
  rw [yL] at h
  split at h
  ·rename_i e;cases h;rw [eq_of_beq e];simp
  ·exact jg _ (Fu h)
def zef {O t t2:Addr} {wd k1 k2 y:Str} {u1 u2:Tok} {n n2:Nat} {AA:Option Addr} {sl k8:Array (Option Value)} (X:K.In h) (G:h.Ns mainGlobals mg) (e:nsIn K O wd=some (some (.ref t))) (l1:K.lookup t=some ⟨.type "tuple", od,.seq #[.ref t2,.ref f] n,sl⟩)
  (l2:K.lookup t2=some ⟨.type "tuple", AA,.seq #[.str k1 u1,.str k2 u2] n2,k8⟩) (a:nsIn K mainGlobals y=some (some (.ref f))):∃u v,nsIn K O wd=some (some u)/\RelV v u/\∀ρ H,R K mg ρ H (.tup [.tup [.str k1,.str k2],.fn y]) v:=by
 refine ⟨_,.ref t,e,rfl,ue (xs:=[.tup [.str k1,.str k2],.fn y]) (vs:=[.ref t2,.ref f]) l1 rfl (by simp) (.cons rfl (.cons rfl .nil)) fun ρ H=>?_⟩
 exact ⟨_,_,rfl,ue (xs:=[.str k1,.str k2]) (vs:=[.str k1,.str k2]) l2 rfl (by simp) (.cons ⟨_,rfl⟩ (.cons ⟨_,rfl⟩ .nil)) (fun ρ H=>⟨_,_,rfl,rfl,_,_,rfl,rfl,rfl⟩) ρ H,_,_,rfl,⟨f,rfl,mg_of X G a⟩,rfl⟩
def zrj {O t t2:Addr} {wd k1 y:Str} {u1:Tok} {n n2:Nat} {AA:Option Addr} {sl k8:Array (Option Value)} (X:K.In h) (G:h.Ns mainGlobals mg) (e:nsIn K O wd=some (some (.ref t))) (l1:K.lookup t=some ⟨.type "tuple", od,.seq #[.ref t2,.ref f] n,sl⟩)
  (l2:K.lookup t2=some ⟨.type "tuple", AA,.seq #[.str k1 u1] n2,k8⟩) (a:nsIn K mainGlobals y=some (some (.ref f))):∃u v,nsIn K O wd=some (some u)/\RelV v u/\∀ρ H,R K mg ρ H (.tup [.tup [.str k1],.fn y]) v:=by
 refine ⟨_,.ref t,e,rfl,ue (xs:=[.tup [.str k1],.fn y]) (vs:=[.ref t2,.ref f]) l1 rfl (by simp) (.cons rfl (.cons rfl .nil)) fun ρ H=>?_⟩
 exact ⟨_,_,rfl,ue (xs:=[.str k1]) (vs:=[.str k1]) l2 rfl (by simp) (.cons ⟨_,rfl⟩ .nil) (fun ρ H=>⟨_,_,rfl,rfl,rfl⟩) ρ H,_,_,rfl,⟨f,rfl,mg_of X G a⟩,rfl⟩
def zrk {w:World} {name:Str} {O:Addr} {es:Array DictEntry} {n:Nat} {ks:Ad} {qs:An} (X:K.In h) (G:h.Ns mainGlobals mg) (aO:nsIn K mainGlobals name=some (some (.ref O))) (lO:K.lookup O=some ⟨.type "dict", none,.dict es n,#[]⟩) (hk:KeysLit w.params es.toList) (no:(O==sysModules)=false)
  (hi:∀p∈ks.zip qs,∃u v,nsIn K O p.1=some (some u)/\RelV v u/\∀ρ H,R K mg ρ H p.2 v):∀Y:Cx,Y.K=K->Y.mg=mg->Y.w=w->KdF Y name ks qs false:=λY e1 e2 e3=>by
 refine ⟨O,by rw [e2];exact mg_of X G aO,⟨⟨es,n,by rw [e1];exact lO,by rw [e3];exact hk⟩,no⟩,λz q hz=>?_,λz=>nomatch z⟩
 rw [e1,e2]
 exact hi _ (Fu hz)
end
def zrl {P:Program}{w:World}{K:Frag}{mg:Ab}{x y:Str}{sm:Stmt}{fa:Addr}{k:Nat}{m:Al}(h:FnF K mg x sm [y]) (hmg:mg x=some (.ref fa))
  (hb:∀(kV doc pm:Value) (an:Option Addr) (aU ct:Value) (u:Value),bindArgs (fnOf x x (wE sm) (jF sm) (zG sm) .none kV doc pm an aU ct) ⟨[u],[]⟩=pure [(y,u)])
  (hok:∀(f:Addr) (fd:FuncData),eB K x x sm f fd->∀base:Heap,bp P w K mg base (cv P w) k f fd [y] (gR K mg m)) (hp:∀ns:List Int,ns.length<=63->∃st,m [.frl (ns.map PV.int)] []=.ok (.bl true) st) :
  ∃fd:FuncData,(∀(s:Shared) (u:Value),BindsTo s fd ⟨[u],[]⟩ [(y,u)])/\∀base:Heap,K.In base->base.Ns mainGlobals mg->bp P w K mg base (cv P w) k fa fd [y] (ko K):=by
 obtain ⟨f,fd,hm,F,_⟩:=h
 rw [hmg] at hm
 cases hm
 refine ⟨fd,λs u=>?_,λbase _ _=>Qu (hok fa fd F base) hp⟩
 obtain ⟨oc,od,kV,doc,pm,an,aU,ct,fF,rfl,_⟩:=F.ex
 exact .of_eq (hb kV doc pm an aU ct u)
def zi1 {K:Frag}{mg:Ab}{h:Heap}{x:Str}{i:Int}{t:Tok}(X:K.In h) (G:h.Ns mainGlobals mg) (a:nsIn K mainGlobals x=some (some (.int i t))):∃t,mg x=some (.int i t):=⟨t,mg_of X G a⟩
def zrm {K:Frag}{mg:Ab}{h:Heap}{x:Str}(X:K.In h) (G:h.Ns mainGlobals mg) (a:nsIn K mainGlobals x=some none):mg x=none:=mg_none_of X G a
section
variable {X:Cx} {Er:XK} {K:Frag} {mg:Ab} {a e o:Expr} {pos pos':Pos} {fo:Ai}
abbrev kz (ks:Ad) (vs:List V):List (Key×V):=(ks.map Sum.inr).zip vs
theorem Fv {z:Str}:∀{ks:Ad}{vs:List V},dy (kz ks vs) (Sum.inr z)=(ks.zip vs).lookup z
 |[],_=>by simp [kz,dy]
 |k::ks,[]=>by simp [kz,dy]
 |k::ks,v::vs=>by
  have ih:=Fv (z:=z) (ks:=ks) (vs:=vs)
  by_cases h:k=z
  ·subst h
   rw [show kz (k::ks) (v::vs)=(Sum.inr k,v)::kz ks vs from rfl,tG rfl]
   simp [yL]
  ·rw [show kz (k::ks) (v::vs)=(Sum.inr k,v)::kz ks vs from rfl,tH (by simpa using h),ih]
   have:(z==k)=false:=by simpa using λq=>h q.symm
   simp [yL,this]
theorem Fw {z:Str}:∀{ks:Ad}{vs:List V},ks.length=vs.length->((kz ks vs).any λkv=>decide (kv.1=Sum.inr z))=ks.contains z
 |[],_,_=>by simp [kz]
 |k::ks,[],h=>by simp at h
 |k::ks,v::vs,h=>by
  have ih:=Fw (z:=z) (ks:=ks) (vs:=vs) (by simpa using h)
  rw [show kz (k::ks) (v::vs)=(Sum.inr k,v)::kz ks vs from rfl,List.any_cons,ih,List.contains_cons]
  congr 1
  by_cases hz:k=z
  ·subst hz;simp
  ·have:(z==k)=false:=by simpa using λq=>hz q.symm
   simp [hz,this]
def repl {α:Type}(z:Str) (x:α):List Str->List α->List α
 |k::ks,y::ys=>(if k=z then x else y)::repl z x ks ys
 |_,ys=>ys
def j2 (z:Str) (x:PV) (ks:Ad) (xs:An):List Str×List PV:=if ks.contains z=true then (ks,repl z x ks xs) else (ks++[z],xs++[x])
theorem Fx {z:Str}{v:V}:∀{ks:Ad}{vs:List V},(kz ks vs).map (λkv=>if kv.1=Sum.inr z then (kv.1,v) else kv)=kz ks (repl z v ks vs)
 |[],_=>by simp [kz]
 |k::ks,[]=>by simp [kz,repl]
 |k::ks,w::vs=>by
  rw [show kz (k::ks) (w::vs)=(Sum.inr k,w)::kz ks vs from rfl,yK,Fx,show repl z v (k::ks) (w::vs)=(if k=z then v else w)::repl z v ks vs from rfl,show ∀u us,kz (k::ks) (u::us)=(Sum.inr k,u)::kz ks us from λ_ _=>rfl]
  by_cases h:k=z
  ·subst h;simp
  ·rw [zI (by simpa using h),zI h]
theorem Fy {ρ:Ae}{H:Hp}{z:Str}{x:PV}{v:V}(r:R K mg ρ H x v):∀{ks:Ad}{xs:An}{vs:List V},Rs K mg ρ H xs vs->Rs K mg ρ H (repl z x ks xs) (repl z v ks vs)
 |[],xs,vs,h=>by cases xs<;>cases vs<;>exact h
 |k::ks,[],vs,h=>by cases h;exact rfl
 |k::ks,y::ys,vs,h=>by
  obtain ⟨w,ws,rfl,h1,h2⟩:=h
  refine ⟨_,_,rfl,?_,Fy r h2⟩
  split
  ·exact r
  ·exact h1
theorem Fz {α:Type}{z:Str}{x:α}:∀{ks:Ad}{xs:List α},(repl z x ks xs).length=xs.length
 |[],xs=>by cases xs<;>rfl
 |k::ks,[]=>rfl
 |k::ks,y::ys=>by simp [repl,Fz (ks:=ks)]
def AD {ρ:Ae}{H:Hp}{z:Str}{x:PV}{v:V}(r:R K mg ρ H x v) {ks:Ad}{xs:An}{vs:List V}(hl:ks.length=vs.length) (h:Rs K mg ρ H xs vs):∃ws,L2.putK (kz ks vs) (Sum.inr z) v=kz (j2 z x ks xs).1 ws/\Rs K mg ρ H (j2 z x ks xs).2 ws/\(j2 z x ks xs).1.length=ws.length:=by
 unfold L2.putK j2
 rw [Fw hl]
 by_cases hc:ks.contains z=true
 ·rw [zw hc,zw hc]
  exact ⟨repl z v ks vs,Fx,Fy r h,by rw [Fz];exact hl⟩
 ·rw [zI hc,zI hc]
  refine ⟨vs++[v],?_,h.append ⟨v,[],rfl,r,rfl⟩,by simp [hl]⟩
  show _=(List.map Sum.inr (ks++[z])).zip (vs++[v])
  rw [wW,List.zip_append (by simpa using hl)]
  rfl
def lP:Ai:=λ_ st=>.ok (.ref st.length) (st++[.dic [] []])
def zbz:ME X Er (.Dict [] [] pos) lP:=PE.weak N2 λU H Q ⟨env,st,ρ,re,rs,h⟩=>λq hq =>
 h (ρ++[q]) _ (Ext.push hq) (rs.push hq ⟨[],yN,rfl,rfl⟩) _ ⟨q,rfl,by rw [<-rs.len];simp⟩
def Q0:Am
 |.ref n,.str z,st=>jm st n λks xs=>cg ((ks.zip xs).lookup z) st
 |_,_,_=>.stuck
def zk:Am
 |.ref n,.str z,st=>Q0 (.ref n) (.str z) st
 |x,y,st=>xX x y st
def Q4:R2:=λx y H Q=>∃a v,x=.ref a/\d_ H a y (some v)/\Q v H
def Q6 (hu:X.A.units+1<cLine):fR X Q4:=by
 intro value slice pins s U H x y v u Q I rx ry h hs
 obtain ⟨a,w,rfl,g,q⟩:=h
 obtain rfl:v=Value.ref a:=rx
 exact PyProof.Rows.tail_any (NW I g) PySem.F.slot_dict_getitem.lookup (NS hu I g ry λw' s' I' dX=>⟨w,H,I',dX,q⟩) hs
def R.refD {ρ:Ae}{H:Hp}{st:aa}{n:Nat}{ks:Ad}{xs:An}{v:V}(s:bf K mg ρ H st) (r:R K mg ρ H (.ref n) v) (h:st[n]?=some (.dic ks xs)):∃a vs,v=.ref a/\ρ[n]?=some a/\H a=some (.dK (kz ks vs))/\Rs K mg ρ H xs vs/\ks.length=vs.length:=by
 obtain ⟨a,rfl,ha⟩:=r
 obtain ⟨vs,h1,h2,h3⟩:=s.addr h ha
 exact ⟨a,vs,rfl,ha,h1,h2,h3⟩
def FA {H:Hp}{a:Addr}{ks:Ad}{vs:List V}{z:Str}(h:H a=some (.dK (kz ks vs))):d_ H a (.str z) ((ks.zip vs).lookup z):=by
 have g:=d_.k (k:=Sum.inr z) h
 rw [Fv] at g
 exact g
theorem zC (hu:X.A.units+200<cLine):lE X zk:=by
 obtain ⟨r,h1,h2⟩:=Pn (X:=X)
 refine ⟨_,h1.or (Q6 (by omega)),fun ρ H st x y v w Q E s rx ry h=>?_⟩
 by_cases hx:∃n z,x=.ref n/\y=.str z
 ·obtain ⟨n,z,rfl,rfl⟩:=hx
  obtain ⟨ks,xs,e,h⟩:=Ez (show Out X.K X.mg ρ H (jm st n λks xs=>cg ((ks.zip xs).lookup z) st) (gV X.K X.mg Q) E from h)
  obtain ⟨q,hq,h⟩:=lG h
  obtain ⟨a,vs,rfl,_,k1,k2,_⟩:=R.refD s rx e
  cases ry
  obtain ⟨v,hv,rv⟩:=qG k2 hq
  refine .inr ⟨a,v,rfl,?_,h.now s _ rv⟩
  have g:=FA (z:=z) k1
  rw [hv] at g
  exact g
 ·refine .inl (h2 ρ H st x y v w Q E s rx ry ?_)
  have:zk x y st=xX x y st:=by
   unfold zk
   split
   ·rename_i n z;exact absurd ⟨n,z,rfl,rfl⟩ hx
   ·rfl
  rw [this] at h
  exact h
def j3 (z x:PV):PV->Mo Unit
 |.ref n,st=>match z with
  |.str z=>jm st n λks xs=>if ks.length<lim then .ok () (st.set n (.dic (j2 z x ks xs).1 (j2 z x ks xs).2)) else .stuck
  |_=>.stuck
 |_,_=>.stuck
def jH (fo fi fv:Ai):Aj:=λenv st=>(fv env st).bind λx ae=>(fo env ae).bind λo au=>(fi env au).bind λz aY=>(j3 z x o aY).bind λ_ dn=>.ok (.nx env) dn
theorem zaD {i value:Expr}{fi fv:Ai}(hu:X.A.units+200<cLine) (ho:ME X Er o fo) (hi:ME X Er i fi) (hv:ME X Er value fv) (hs:swapsWith value (some (.Subscript o i pos')) pos.line X.env=pure false:=by rfl):MS X Er (.Assign [.Subscript o i pos'] value pos) (jH fo fi fv) :=
 PS.weak (NY (by omega) ho hi hv hs) λD U H ⟨env,st,ρ,re,rs,h⟩=>⟨env,st,ρ,re,rs,h.then λag H1 x ae e1 s1 h1 v rv=>⟨env,ae,ag,re.ext e1,s1,h1.then λao H2 y au e2 s2 h2 w rw=>⟨env,au,ao,(re.ext e1).ext e2,s2,h2.then λam H3 zz aY e3 s3 h3 u ru=>by
  cases y with
  |ref n =>
   cases zz with
   |str z =>
    cases hn:aY[n]? with
    |none=>simp only [j3,jm,hn] at h3;exact h3.elim
    |some so =>
     cases so with
     |lst _=>simp only [j3,jm,hn] at h3;exact h3.elim
     |ins _ _ _=>simp only [j3,jm,hn] at h3;exact h3.elim
     |fdi _ _=>simp only [j3,jm,hn] at h3;exact h3.elim
     |dit _ _=>simp only [j3,jm,hn] at h3;exact h3.elim
     |dic ks xs =>
      simp only [j3,jm,hn] at h3
      by_cases hc:ks.length<lim
      ·rw [zw hc] at h3
       obtain ⟨a,vs,e4,ha,k1,k2,k3⟩:=R.refD s3 (R.ext e3 _ rw) hn
       subst e4
       cases ru
       obtain ⟨ws,q1,q2,q3⟩:=AD (z:=z) (R.ext e3 x (R.ext e2 x rv)) k3 k2
       have hlen:(kz ks vs).length<sizeLine:=by
        have:(kz ks vs).length=ks.length:=by simp [kz,k3]
        rw [this,sizeLine_eq]
        have:ks.length<1000000:=hc
        omega
       have g:=eh.k (k:=Sum.inr z) (v:=v) k1 hlen
       have ew:Ext am H3 am (upd H3 a (.dK (L2.putK (kz ks vs) (Sum.inr z) v))):=Ext.write k1 rfl
       refine ⟨a,_,rfl,g,h3 am _ ew (s3.write ha ew ⟨ws,by rw [yN,q1],Rs.ext ew _ q2,q3⟩) U ((((re.ext e1).ext e2).ext e3).ext ew)⟩
      ·rw [zI hc] at h3;exact h3.elim
   |_=>exact h3.elim
  |_=>exact h3.elim⟩⟩⟩
end
open Classical in
def dU (K:Frag) (mg:Ab) (ρ:Ae) (H:Hp) (ys:An) (x:PV) (u:Value):Bool:=decide (∃y v,y∈ys/\R K mg ρ H y v/\RelV v u/\bu y x=true)
section
variable {X:Cx} {K:Frag} {mg:Ab} {ρ:Ae} {pins:Ac} {U:L2.St} {H:Hp} {s:Shared}
def okIn (x:PV) (ys:An):Prop:=Mi.plain x=true/\bI ys=true/\dz ys<=150
instance (x:PV) (ys:An):Decidable (okIn x ys):=by unfold okIn;infer_instance
theorem Rs.mem:∀{xs:An}{vs:List V}{us:Af}{u:Value},Rs K mg ρ H xs vs->Vals vs us->u∈us->∃y v,y∈xs/\R K mg ρ H y v/\RelV v u
 |[],_,_,_,h,hv,hu=>by cases h;cases hv;cases hu
 |x::xs,_,_,u,h,hv,hu=>by
  obtain ⟨v,r,rfl,h1,h2⟩:=h
  cases hv with
  |cons r1 r2 =>
   rcases yE.mp hu with rfl|hu
   ·exact ⟨x,v,by simp,h1,r1⟩
   ·obtain ⟨y,w,q1,q2,q3⟩:=Rs.mem h2 r2 hu
    exact ⟨y,w,by simp [q1],q2,q3⟩
theorem Rs.mem':∀{xs:An}{vs:List V}{us:Af}{y:PV},Rs K mg ρ H xs vs->Vals vs us->y∈xs->∃u v,u∈us/\R K mg ρ H y v/\RelV v u
 |[],_,_,_,_,_,hy=>by cases hy
 |x::xs,_,_,y,h,hv,hy=>by
  obtain ⟨v,r,rfl,h1,h2⟩:=h
  cases hv with
  |cons r1 r2 =>
   rcases yE.mp hy with rfl|hy
   ·exact ⟨_,v,by simp,h1,r1⟩
   ·obtain ⟨u,w,q1,q2,q3⟩:=Rs.mem' h2 r2 hy
    exact ⟨u,w,by simp [q1],q2,q3⟩
def Q7 {ys:An}{y:PV}(h:bI ys=true) (hy:y∈ys):Mi.plain y=true:=by
 obtain ⟨i,hi⟩:=List.getElem?_of_mem hy
 exact tY h hi
def Q8 {ys:An}{y:PV}(hy:y∈ys):dep y<=dz ys:=by
 obtain ⟨i,hi⟩:=List.getElem?_of_mem hy
 exact xY hi
open Classical in
theorem um (I:Inv X pins U H s) {A:Around}(hu:A.units+200<cLine) {ys:An}{vs:List V}{us:Af}{x:PV}{w:V}{v:Value}(ok:okIn x ys) (ry:Rs X.K mg ρ H ys vs) (rv:Vals vs us) (rx:R X.K mg ρ H x w) (rw:RelV w v) :
  (∀u∈us,SeqAt.EqAt A.in1 s u v (dU X.K mg ρ H ys x u))/\us.any (dU X.K mg ρ H ys x)=ys.any λy=>bu y x:=by
 obtain ⟨px,py,hd⟩:=ok
 have one:∀y v' u,y∈ys->R X.K mg ρ H y v'->RelV v' u->SeqAt.EqAt A.in1 s u v (bu y x):=λy v' u hy r1 r2 =>
  (xZ I 150 y x A.in1 (jw (Q8 hy) hd) (Q7 py hy) px r1 rx r2 rw (by rw [EM];omega)).1
 refine ⟨λu FC=>?_,?_⟩
 ·obtain ⟨y,v',q1,q2,q3⟩:=Rs.mem ry rv FC
  by_cases h:∃y v,y∈ys/\R X.K mg ρ H y v/\RelV v u/\bu y x=true
  ·have e:dU X.K mg ρ H ys x u=true:=by simpa [dU] using h
   obtain ⟨y2,v2,z1,z2,z3,z4⟩:=h
   rw [e,<-z4]
   exact one y2 v2 u z1 z2 z3
  ·have e:dU X.K mg ρ H ys x u=false:=by unfold dU;exact yP h
   rw [e]
   have:bu y x=false:=by
    cases hq:bu y x with
    |false=>rfl
    |true=>exact absurd ⟨y,v',q1,q2,q3,hq⟩ h
   rw [<-this]
   exact one y v' u q1 q2 q3
 ·rw [Bool.eq_iff_iff]
  simp only [List.any_eq_true]
  constructor
  ·rintro ⟨u,FC,he⟩
   have h:∃y v,y∈ys/\R X.K mg ρ H y v/\RelV v u/\bu y x=true:=by unfold dU at he;exact of_decide_eq_true he
   obtain ⟨y,v',z1,_,_,z4⟩:=h
   exact ⟨y,z1,z4⟩
  ·rintro ⟨y,hy,he⟩
   obtain ⟨u,v',q1,q2,q3⟩:=Rs.mem' ry rv hy
   exact ⟨u,q1,by unfold dU;exact jk ⟨y,v',hy,q2,q3,he⟩⟩
def yI (neg:Bool):Am
 |x,.tup ys,st=>if okIn x ys then .ok (.bl (neg.xor (ys.any λy=>bu y x))) st else .stuck
 |x,.frl ys,st=>if okIn x ys then .ok (.bl (neg.xor (ys.any λy=>bu y x))) st else .stuck
 |x,.ref n,st=>match st[n]?,x with
  |some (.lst ys),x=>if okIn x ys then .ok (.bl (neg.xor (ys.any λy=>bu y x))) st else .stuck
  |some (.dic ks xs),.str z=>.ok (.bl (neg.xor ((ks.zip xs).lookup z).isSome)) st
  |_,_=>.stuck
 |.str ⟨⟨[c]⟩⟩,.str z,st=>.ok (.bl (neg.xor (decide (c∈z.cps.toList)))) st
 |_,_,_=>.stuck
def AE (K:Frag) (mg:Ab) (neg:Bool):R2:=λv w H Q =>
 (∃ρ x ys vs p,okIn x ys/\w=.ref p/\(aZ K H p vs\/ba K H p vs)/\Rs K mg ρ H ys vs/\R K mg ρ H x v/\Q (.bl (neg.xor (ys.any λy=>bu y x))) H) \/
 (∃p o,w=.ref p/\d_ H p v o/\Q (.bl (neg.xor o.isSome)) H)\/∃(c:Nat) (z:Str),v=.str ⟨#[c]⟩/\w=.str z/\Q (.bl (neg.xor (decide (c∈z.cps.toList)))) H
def Q9 (hu:X.A.units+200<cLine):bh X (compareOp .In) (AE X.K X.mg false):=by
 intro pins s U H x y v u Q I rx ry h
 rcases h with ⟨ρ,a,ys,vs,p,ok,rfl,hq,qP,ra,q⟩|⟨p,o,rfl,g,q⟩|⟨c,z,rfl,rfl,q⟩
 ·obtain rfl:u=Value.ref p:=ry
  rcases hq with hq|hq
  ·obtain ⟨its,r,pl,_⟩:=I.list hq
   obtain ⟨f1,f2⟩:=um I hu ok qP r ra rx
   refine SeqAt.in_listAt (dU X.K X.mg ρ H ys a) pl.isList (λw hw=>f1 w (by simpa using hw)) ⟨.bl _,H,I,rfl,?_⟩
   rw [show its.toArray.any (dU X.K X.mg ρ H ys a)=its.any (dU X.K X.mg ρ H ys a) by simp,f2]
   simpa using q
  ·obtain ⟨its,r,pl,_⟩:=I.tuple hq
   obtain ⟨f1,f2⟩:=um I hu ok qP r ra rx
   refine SeqAt.in_tupleAt (dU X.K X.mg ρ H ys a) pl (λw hw=>f1 w (by simpa using hw)) ⟨.bl _,H,I,rfl,?_⟩
   rw [show its.toArray.any (dU X.K X.mg ρ H ys a)=its.any (dU X.K X.mg ρ H ys a) by simp,f2]
   simpa using q
 ·obtain rfl:u=Value.ref p:=ry
  exact NT (by omega) I g rx λs' I'=>⟨.bl o.isSome,H,I',rfl,by simpa using q⟩
 ·exact NQ pins s U H _ _ v u Q I rx ry ⟨c,z,rfl,rfl,by simpa using q⟩
def Q_ (hu:X.A.units+200<cLine):bh X (compareOp .NotIn) (AE X.K X.mg true):=by
 intro pins s U H x y v u Q I rx ry h
 rcases h with ⟨ρ,a,ys,vs,p,ok,rfl,hq,qP,ra,q⟩|⟨p,o,rfl,g,q⟩|⟨c,z,rfl,rfl,q⟩
 ·obtain rfl:u=Value.ref p:=ry
  rcases hq with hq|hq
  ·obtain ⟨its,r,pl,_⟩:=I.list hq
   obtain ⟨f1,f2⟩:=um I hu ok qP r ra rx
   refine SeqAt.notIn_listAt (dU X.K X.mg ρ H ys a) pl.isList (λw hw=>f1 w (by simpa using hw)) ⟨.bl _,H,I,rfl,?_⟩
   rw [show its.toArray.any (dU X.K X.mg ρ H ys a)=its.any (dU X.K X.mg ρ H ys a) by simp,f2]
   simpa using q
  ·obtain ⟨its,r,pl,_⟩:=I.tuple hq
   obtain ⟨f1,f2⟩:=um I hu ok qP r ra rx
   refine SeqAt.notIn_tupleAt (dU X.K X.mg ρ H ys a) pl (λw hw=>f1 w (by simpa using hw)) ⟨.bl _,H,I,rfl,?_⟩
   rw [show its.toArray.any (dU X.K X.mg ρ H ys a)=its.any (dU X.K X.mg ρ H ys a) by simp,f2]
   simpa using q
 ·obtain rfl:u=Value.ref p:=ry
  exact NU (by omega) I g rx λs' I'=>⟨.bl (!o.isSome),H,I',rfl,by simpa using q⟩
 ·refine L2.zoB pins s U H _ _ v u Q I rx ry ⟨_,_,rfl,rfl,?_⟩
  rw [StrLaws.found_one]
  simpa using q
def FE {neg:Bool}:eE K mg (AE K mg neg) (yI neg):=by
 intro ρ H st x y v w Q E s rx ry h
 cases y with
 |tup ys =>
  obtain ⟨p,vs,rfl,k1,k2⟩:=ry
  obtain ⟨ok,h⟩:=Out.ifp (show Out K mg ρ H (if okIn x ys then .ok (.bl (neg.xor (ys.any λy=>bu y x))) st else .stuck) (gV K mg Q) E from by cases x<;>exact h)
  exact .inl ⟨ρ,x,ys,vs,p,ok,rfl,.inr k1,k2,rx,h.now s _ rfl⟩
 |frl ys =>
  obtain ⟨p,vs,rfl,k1,k2⟩:=ry
  obtain ⟨ok,h⟩:=Out.ifp (show Out K mg ρ H (if okIn x ys then .ok (.bl (neg.xor (ys.any λy=>bu y x))) st else .stuck) (gV K mg Q) E from by cases x<;>exact h)
  exact .inl ⟨ρ,x,ys,vs,p,ok,rfl,.inl k1.sq,k2,rx,h.now s _ rfl⟩
 |ref n =>
  cases hn:st[n]? with
  |none=>exfalso;cases x<;>(simp only [yI,hn] at h;exact h)
  |some so =>
   cases so with
   |lst ys =>
    obtain ⟨p,vs,rfl,_,k1,k2⟩:=R.refL s ry hn
    obtain ⟨ok,h⟩:=Out.ifp (show Out K mg ρ H (if okIn x ys then .ok (.bl (neg.xor (ys.any λy=>bu y x))) st else .stuck) (gV K mg Q) E from by cases x<;>(simp only [yI,hn] at h;exact h))
    exact .inl ⟨ρ,x,ys,vs,p,ok,rfl,.inl (aZ.of k1),k2,rx,h.now s _ rfl⟩
   |dic ks xs =>
    obtain ⟨p,vs,rfl,_,k1,k2,k3⟩:=R.refD s ry hn
    cases x with
    |str z =>
     simp only [yI,hn] at h
     cases rx
     refine .inr (.inl ⟨p,_,rfl,FA k1,?_⟩)
     have e:((ks.zip vs).lookup z).isSome=((ks.zip xs).lookup z).isSome:=by
      cases hq:(ks.zip xs).lookup z with
      |some q=>obtain ⟨v,hv,_⟩:=qG k2 hq;rw [hv];rfl
      |none =>
       have:z∉ks:=by
        intro hz
        obtain ⟨i,hi⟩:=List.getElem?_of_mem hz
        have hl:i<xs.length:=by rw [k2.len,<-k3];exact (yD.mp hi).1
        have:=List.lookup_eq_none_iff.mp hq (z,xs[i]) (List.mem_iff_getElem?.mpr ⟨i,by simp [List.getElem?_zip_eq_some,hi,hl]⟩)
        simp at this
       rw [qH this];rfl
     rw [e]
     exact h.now s _ rfl
    |_=>simp only [yI,hn] at h;exact h.elim
   |ins c ks xs=>exfalso;cases x<;>(simp only [yI,hn] at h;exact h)
   |fdi ks xs=>exfalso;cases x<;>(simp only [yI,hn] at h;exact h)
   |dit ks xs=>exfalso;cases x<;>(simp only [yI,hn] at h;exact h)
 |str z =>
  cases x with
  |str q =>
   obtain ⟨⟨l⟩⟩:=q
   match l,rx,h with
   |[c],rx,h=>cases rx;cases ry;exact .inr (.inr ⟨c,z,rfl,rfl,Out.now (x:=PV.bl _) h s _ rfl⟩)
   |[],rx,h=>exact h.elim
   |_::_::_,rx,h=>exact h.elim
  |_=>exact h.elim
 |non=>exfalso;cases x<;>exact h
 |bl _=>exfalso;cases x<;>exact h
 |int _=>exfalso;cases x<;>exact h
 |ty _=>exfalso;cases x<;>exact h
 |fn _=>exfalso;cases x<;>exact h
 |kd _ _=>exfalso;cases x<;>exact h
 |exo _ _ _=>exfalso;cases x<;>exact h
def zca (hu:X.A.units+200<cLine):cq X .In (yI false):=⟨_,Q9 hu,FE⟩
def zfI (hu:X.A.units+200<cLine):cq X .NotIn (yI true):=⟨_,Q_ hu,FE⟩
abbrev iA:=opI c0 λi j=>Builtin.bitAnd i j
abbrev AF:=opI c0 λi j=>Builtin.bitOr i j
abbrev qQ:=opI dS λi j=>i*2 ^ j.toNat
abbrev lR:Int->Int->Bool:=λ_ j=>decide (0<=j)
abbrev iB:=opI lR λi j=>i/2 ^ j.toNat
def zfK:da X .BitAnd iA:=⟨_,xV LJ,kf λ_ _ _=>trivial⟩
def zru:da X .BitOr AF:=⟨_,xV LK,kf λ_ _ _=>trivial⟩
def zi9:da X .LShift qQ:=⟨_,LH,kf λi j h=>by simp [dS] at h;exact ⟨h.1.1,h.1.2,h.2⟩⟩
def zfL:da X .RShift iB:=⟨_,LI,kf λi j h=>by simpa [lR] using h⟩
end
section
variable {X:Cx} {Er:XK} {pos:Pos}
abbrev XN:XK:=λ_ _ _=>False
def za5:wv X XN:=λ_ _ _ _ _ _ _ _ _ q=>q.elim
def de (fe:Ai) (env:zb):List PV->Al
 |[],ys,st=>.ok (.ref st.length) (st++[.lst ys])
 |x::xs,ys,st=>(bE (fe (some x::env) st)).bind λy ae=>de fe env xs (ys++[y]) ae
def fJ (fe:Ai) (env:zb) (n:Nat):Nat->Nat->Al
 |0,_,_,_=>.stuck
 |m+1,i,ys,st=>yu st n λxs=>match xs[i]? with
  |none=>.ok (.ref st.length) (st++[.lst ys])
  |some x=>(bE (fe (some x::env) st)).bind λy ae=>fJ fe env n m (i+1) (ys++[y]) ae
def fK (fe:Ai) (env:zb):Sq->Mo PV
 |.im xs,st=>if xs.length<=lim then de fe env xs [] st else .stuck
 |.rf n,st=>fJ fe env n (lim+1) 0 [] st
def yW (src:zb->Mo Sq) (fe:Ai):Ai:=λenv st=>(src env st).bind λq ae=>fK fe env q ae
theorem Rs.snoc {K:Frag}{mg:Ab}{ρ:Ae}{H:Hp}{x:PV}{v:V}(r:R K mg ρ H x v):∀{xs:An}{vs:List V},Rs K mg ρ H xs vs->Rs K mg ρ H (xs++[x]) (vs++[v])
 |[],_,h=>by cases h;exact ⟨v,[],rfl,r,rfl⟩
 |y::xs,_,h=>by
  obtain ⟨w,q,rfl,h1,h2⟩:=h
  exact ⟨w,q++[v],rfl,h1,Rs.snoc r h2⟩
theorem AG {elt iter:Expr} {x:Str} {px:Pos} {scope:Scope} {src:zb->Mo Sq} {fe:Ai} {M:Ad} (hc:X.calm=true) (S:dI X.env.scope scope x) (eN:Hid scope M X.N) (cD:((".0" : Str)::x::M).Nodup)
  (hi:MI X Er (.Name x px) iter src) (he:∀cl C af ah fp,ME (lu X M scope cl x C af ah fp (λ_ _=>False)) XN elt fe)
  (hs:∀v,foldedSetIterable iter X.env v=pure v:=by intro _;rfl):ME X Er (.ListComp elt [⟨.Name x px,iter,[],0⟩] scope pos) (yW src fe) :=
 PE.weak (NI (te:=tM X.K X.mg XN fe) hc S eN cD hi (λcl C af ah fp=>he cl C af ah fp) hs) λU H Q ⟨env,st,ρ,re,rs,h⟩=>⟨env,st,ρ,re,rs,h.then λar H0 q dC e0 s0 h0 J wk=>by
  cases q with
  |im xs =>
   obtain ⟨hl,h0⟩:=Out.ifp h0
   obtain ⟨w1,w2,w3⟩:=wk
   refine ⟨λi m ys H=>m=xs.length-i/\i<=xs.length/\ys.length=i/\∃ps st ρ,Rs X.K X.mg ρ H ps ys/\bf X.K X.mg ρ H st/\Ext ar H0 ρ H/\Out X.K X.mg ρ H (de fe env (xs.drop i) ps st) (gV X.K X.mg Q) Er,⟨xs.length,by simp,jJ _,rfl,[],dC,ar,rfl,s0,Ext.refl,h0⟩,?_⟩
   rintro i m ys H ⟨rfl,hi,hy,ps,st,ρ,cG,rs,ex,h⟩
   by_cases bz:i<xs.length
   ·refine .inr ⟨w1 i ρ H ex bz,jb (by omega),λv H' y=>?_⟩
    obtain ⟨x,hx,bH,s2,rx⟩:=w3 i ρ H st v H' ex rs bz y
    have hd:xs.drop i=x::xs.drop (i+1):=by
     rw [w9 bz]
     have:=(yD.mp hx).2
     rw [this]
    rw [hd] at h
    simp only [de] at h
    refine ⟨some x::env,st,ρ,(re.ext (e0.trans (ex.trans bH))).cons rx,s2,jM (Out.ext h bH) λam H3 y aY e3 s3 h3 v ry=>⟨xs.length-(i+1),by omega,rfl,bz,by simp [hy],ps++[y],aY,am,Rs.snoc ry (Rs.ext (bH.trans e3) ps cG),s3,(ex.trans bH).trans e3,h3⟩⟩
   ·have e:i=xs.length:=by omega
    subst e
    rw [List.drop_length] at h
    exact .inl ⟨w2 _ ρ H ex (yo _),jb (by omega),λl hl=>Out.newList h rs cG hl⟩
  |rf n =>
   obtain ⟨a,ha,rfl⟩:=wk
   refine ⟨λi m ys H=>m+i=lim+1/\ys.length=i/\∃ps st ρ,Rs X.K X.mg ρ H ps ys/\bf X.K X.mg ρ H st/\Ext ar H0 ρ H/\ρ[n]?=some a/\Out X.K X.mg ρ H (fJ fe env n m i ps st) (gV X.K X.mg Q) Er,⟨lim+1,rfl,rfl,[],dC,ar,rfl,s0,Ext.refl,ha,h0⟩,?_⟩
   rintro i m ys H ⟨hm,hy,ps,st,ρ,cG,rs,ex,ha,h⟩
   cases m with
   |zero=>exact h.elim
   |succ m =>
    obtain ⟨xs,hn,h⟩:=jL h
    obtain ⟨vs,hH,hR⟩:=rs.addr hn ha
    cases hx:xs[i]? with
    |none =>
     simp only [hx] at h
     have:vs.length<=i:=by rw [<-hR.len];exact mE.mp hx
     exact .inl ⟨⟨vs,aZ.of hH,this⟩,jb (by omega),λl hl=>Out.newList h rs cG hl⟩
    |some x =>
     simp only [hx] at h
     obtain ⟨v,hv,rv⟩:=hR.get hx
     refine .inr ⟨⟨vs,v,aZ.of hH,hv⟩,jb (by omega),λv' H' y=>?_⟩
     obtain ⟨e1,y⟩:=y
     subst e1
     have e2:=y vs (aZ.of hH)
     rw [hv] at e2
     cases e2
     exact ⟨some x::env,st,ρ,(re.ext (e0.trans ex)).cons rv,rs,jM h λam H3 y aY e3 s3 h3 v ry=>⟨m,jW m,by omega,by simp [hy],ps++[y],aY,am,Rs.snoc ry (Rs.ext e3 ps cG),s3,ex.trans e3,e3.get ha,h3⟩⟩⟩
def lS {elt iter:Expr} {x:Str} {px:Pos} {scope:Scope} {src:zb->Mo Sq} {fe:Ai} {N:Ad} (hc:X.calm=true) (S:dI X.env.scope scope x) (eN:X.N=N) (cD:((".0" : Str)::x::N).Nodup)
  (hi:MI X Er (.Name x px) iter src) (he:∀cl C af ah fp,ME (DP X scope cl x C af ah fp (λ_ _=>False)) XN elt fe)
  (hs:∀v,foldedSetIterable iter X.env v=pure v:=by intro _;rfl):ME X Er (.ListComp elt [⟨.Name x px,iter,[],0⟩] scope pos) (yW src fe) :=
 AG hc S Hid.refl (eN▸cD) hi he hs
end
section
variable {env:Env} {es:List Expr} {pos:Pos}
abbrev FG (e:Expr) (es:List Expr) (env:Env):Prop:=starEach (e::es) env=(false,eval e env)::starEach es env
def Ra {c j}:FG (.Constant c j pos) es env:=(rfl)
end
end Mi
namespace L2
open PySem PySem.Spec PyProof.Rows PySem.W
abbrev ZB (h:Heap) (z TI TO T:Addr) (f:Bool):Prop:=h.get? z=some { cls:=.type "zip", dict:=none,data:=.fields #[rawInt T,.bool f,.bool false,.ref TI,.ref TO],slots:=#[] }
structure ZS (z TI TO i1 i2 a b:Addr) (xs ys:Array Value) (k:Nat) (h:Heap):Prop where
 zi:(IsZip h z TI TO .none/\∃u v,IsPair h TO u v)\/∃T f o,ZB h z TI TO T f/\h.get? T=some o
 ti:IsPair h TI (.ref i1) (.ref i2)
 s1:qz i1 a xs k h
 s2:qz i2 b ys k h
section
variable {s:Shared} {z TI TO i1 i2 a b:Addr} {k:Nat} {xs ys:Array Value}
def ZS.type (st:ZS z TI TO i1 i2 a b xs ys k s.heap):s.TypeIs (.ref z) "zip" := by
 rcases st.zi with ⟨hz,_⟩|⟨T,f,o,hz,_⟩<;>exact ⟨_,hz,rfl⟩
end
structure Ap (d z TI TO i1 i2 a b:Addr):Prop where
 z:d≠z
 TI:d≠TI
 TO:d≠TO
 i1:d≠i1
 i2:d≠i2
 a:d≠a
 b:d≠b
section
variable {z TI TO i1 i2 a b d:Addr} {xs ys:Array Value}
def ZS.keep {k:Nat}{h h':Heap}(st:ZS z TI TO i1 i2 a b xs ys k h) (P:Ap d z TI TO i1 i2 a b) (hs:Heap.SameBut d h h') (hd:∃o,h'.get? d=some o):ZS z TI TO i1 i2 a b xs ys k h':=by
 have up:∀c o,c≠d->h.get? c=some o->h'.get? c=some o:=λc o n e=>hs.extBut _ _ n e
 obtain ⟨⟨⟨o1,g1,r1⟩,⟨p1,e1,t1⟩⟩,⟨⟨o2,g2,r2⟩,⟨p2,e2,t2⟩⟩⟩:=And.intro st.s1 st.s2
 refine ⟨?_,up _ _ P.TI.symm st.ti,⟨⟨o1,up _ _ P.i1.symm g1,r1⟩,⟨p1,up _ _ P.a.symm e1,t1⟩⟩,⟨⟨o2,up _ _ P.i2.symm g2,r2⟩,⟨p2,up _ _ P.b.symm e2,t2⟩⟩⟩
 rcases st.zi with ⟨hz,u,v,fw⟩|⟨T,f,o,hz,hT⟩
 ·exact .inl ⟨up _ _ P.z.symm hz,u,v,up _ _ P.TO.symm fw⟩
 ·by_cases e:T=d
  ·obtain ⟨o',ho'⟩:=hd
   exact .inr ⟨T,f,o',up _ _ P.z.symm hz,by rw [e];exact ho'⟩
  ·exact .inr ⟨T,f,o,up _ _ P.z.symm hz,up _ _ e hT⟩
end
section
variable {z TI TO i1 i2 a b:Addr} {xs ys:Array Value}
def ZS.push {k:Nat}{h h':Heap}(st:ZS z TI TO i1 i2 a b xs ys k h) (up:∀c o,h.get? c=some o->h'.get? c=some o):ZS z TI TO i1 i2 a b xs ys k h':=by
 obtain ⟨⟨⟨o1,g1,r1⟩,⟨p1,e1,t1⟩⟩,⟨⟨o2,g2,r2⟩,⟨p2,e2,t2⟩⟩⟩:=And.intro st.s1 st.s2
 refine ⟨?_,up _ _ st.ti,⟨⟨o1,up _ _ g1,r1⟩,⟨p1,up _ _ e1,t1⟩⟩,⟨⟨o2,up _ _ g2,r2⟩,⟨p2,up _ _ e2,t2⟩⟩⟩
 rcases st.zi with ⟨hz,u,v,fw⟩|⟨T,f,o,hz,hT⟩
 ·exact .inl ⟨up _ _ hz,u,v,up _ _ fw⟩
 ·exact .inr ⟨T,f,o,up _ _ hz,up _ _ hT⟩
end
end L2
namespace Mi
open PySem L2 PySem.W PySem.Spec
section
variable {e:Expr} {x:Str}
def qR (j:Nat):Fl->Mo Fl
 |.nx e,st=>.ok (.nx (e.set j none)) st
 |.rt x,st=>.ok (.rt x) st
 |_,_=>.stuck
end
section
variable {K:Frag} {mg:Ab} {e:Expr}
def strsOf:List PV->Option (Ad)
 |[]=>some []
 |.str z::r=>(strsOf r).map (z::·)
 |_::_=>none
theorem FH {ρ:Ae}{H:Hp}:∀{xs:An}{zs:Ad}{vs:List V},strsOf xs=some zs->Rs K mg ρ H xs vs->vs=(zs.map Sum.inr:List Key).map kV
 |[],zs,vs,e,h=>by cases e;cases h;rfl
 |.str z::r,zs,vs,e,h=>by
  simp only [strsOf,Option.map_eq_some_iff] at e
  obtain ⟨zr,e1,rfl⟩:=e
  obtain ⟨v,r',rfl,h1,h2⟩:=h
  cases h1
  rw [FH e1 h2]
  rfl
 |.non::_,_,_,e,_=>by cases e
 |.bl _::_,_,_,e,_=>by cases e
 |.int _::_,_,_,e,_=>by cases e
 |.ty _::_,_,_,e,_=>by cases e
 |.tup _::_,_,_,e,_=>by cases e
 |.frl _::_,_,_,e,_=>by cases e
 |.ref _::_,_,_,e,_=>by cases e
 |.fn _::_,_,_,e,_=>by cases e
 |.kd _ _::_,_,_,e,_=>by cases e
 |.exo _ _ _::_,_,_,e,_=>by cases e
end
end Mi
namespace L2
open PySem PySem.Spec PyProof.Rows PySem.W
def FI (K:Frag) (a:Addr):It :=
 ⟨λi H=>∃xs x,aZ K H a xs/\xs[i]?=some x,
  λi H v H'=>∃T x,H T=none/\v=.ref T/\H'=upd H T (.tup [.int i,x])/\∀xs,aZ K H a xs->xs[i]?=some x,
  λi H=>∃xs,aZ K H a xs/\xs.length<=i⟩
def Rb (e it a:Addr) (k:Nat) (h:Heap):Prop:=(∃old,IsEnum h e it k old)/\h.IsListIter it a k
def Rc {X:Cx}{pins:Ac}{U:St}{H:Hp}{s:Shared}{a c:Addr}{xs:List V}(I:Inv X pins U H s) (hf:du X pins H c) (hq:aZ X.K H a xs):a≠c:=by
 rintro rfl
 rcases hq with q|⟨o,its,n,hl,_⟩
 ·rcases q with q|⟨ob,q⟩<;>(rw [hf.1] at q;cases q)
 ·have e:=I.ok.mod.kin _ _ hl
  rcases hf.2.2.2.1 with z|z
  ·exact I.ok.noex _ _ e z
  ·exact absurd (jE (yt (I.ok.bs _ _ e).1) z) (Nat.lt_irrefl _)
def Rf {P:Program}{w:World}{K:Frag}{elts:List Expr}{kt:Nat}{pos:Pos}{e it a:Addr}(ne:e≠it):Turn P w K (.Tuple elts kt pos) (FI K a) [e,it] e (Rb e it a) where
 mem:=by simp
 obj:=λi h st c hc=>by
  obtain ⟨⟨old,he⟩,⟨o1,e1,_,d1⟩⟩:=st
  simp only [yE,List.not_mem_nil,iP] at hc
  rcases hc with q|q<;>rw [q]
  ·exact ⟨_,he,λv z=>by cases z⟩
  ·exact ⟨_,e1,λv z=>by rw [d1] at z;cases z⟩
 keep:=λi h h' st k=>by
  obtain ⟨⟨old,he⟩,⟨o1,e1,r1⟩⟩:=st
  exact ⟨⟨old,k e (by simp) _ he⟩,⟨o1,k it (by simp) _ e1,r1⟩⟩
 item:=by
  intro X hP hw hK hc i pins s U H E I hf st hg
  subst hP hw hK
  obtain ⟨xs,x,hq,hx⟩:=hg
  obtain ⟨⟨old,he⟩,hit⟩:=st
  obtain ⟨its,rv,p,hz⟩:=I.list hq
  obtain ⟨u,hu,ru⟩:=rv.get hx
  have n1:∀c∈[e,it],a≠c:=λc h=>Rc I (hf c h) hq
  refine wpAny_pyNext_enum_item he hit p.isList (x:=u) (by simpa using hu) ne λh1 eo qS pT hsz kk=>⟨_,rfl,?_⟩
  refine wpAny_letOwnedTupleGo_enum (s:={ s with heap:=h1,toks:=s.toks+1 }) eo λh2 e2 sb=>?_
  have fr:H s.heap.objs.size=none:=I.hok.fresh (yo _)
  have up:∀c o,c≠e->h1.get? c=some o->h2.get? c=some o:=λc o n q=>sb.extBut _ _ n q
  have nz:s.heap.objs.size≠e:=Nat.ne_of_gt (yt he)
  have k2:∀c o,c∉[e,it]->s.heap.get? c=some o->h2.get? c=some o:=λc o nc q=>up c o (λz=>nc (by simp [z])) (kk c o (λz=>nc (by simp [z])) (λz=>nc (by simp [z])) q)
  refine ⟨.ref s.heap.objs.size,upd H s.heap.objs.size (.tup [.int i,x]),?_,rfl,⟨s.heap.objs.size,x,fr,rfl,rfl,λys hy=>by rw [I.list_inj hy hq];exact hx⟩,?_,λc dg=>?_⟩
  ·exact Inv.turnN (s:=s) (h':=h2) (t':=s.toks+1) I hf k2 (yo _) ⟨show 2<=sizeLine by decide,[.int i s.toks,u],.cons ⟨_,rfl⟩ (.cons ru .nil),_,up _ _ nz pT,rfl,_,rfl⟩
  ·refine ⟨⟨u,by rw [show ((i+1:Nat):Int)=(i:Int)+1 from rfl];exact e2⟩,let ⟨o,q,r⟩:=qS;⟨o,up _ _ ne.symm q,r⟩⟩
  ·have lt:∃o,s.heap.get? c=some o:=by
    simp only [yE,List.not_mem_nil,iP] at dg
    rcases dg with q|q<;>rw [q]
    ·exact ⟨_,he⟩
    ·exact let ⟨o,q,_⟩:=hit;⟨o,q⟩
   obtain ⟨o,q⟩:=lt
   have z:c≠s.heap.objs.size:=yO (yt q)
   rw [yi z]
   exact (hf c dg).1
 done:=by
  intro X hP hw hK hc i pins s U H E I hf st hg
  subst hP hw hK
  obtain ⟨xs,hq,hx⟩:=hg
  obtain ⟨⟨old,he⟩,hit⟩:=st
  obtain ⟨its,rv,p,hz⟩:=I.list hq
  have hl:=rv.length
  refine wpAny_pyNext_enum_end (I.ok.hd hc) he hit p.isList (by simp;omega) λh' eb=>⟨rfl,?_⟩
  exact Inv.turnL (ch:=[e,it]) (t':=s.toks) I hf λc o nc q=>eb c o (λz=>nc (by simp [z])) q
 self:=λ_ _ _ _ _ st h=>by
  obtain ⟨⟨old,he⟩,_⟩:=st
  exact wpAny_pyIter_enum he h
theorem FJ:bootBuiltins "enumerate" = some (.type "enumerate"):=by decide +kernel
def Rg (K:Frag) (ta:TA):TI:=λU H R=>ta U H λvs H1=>∃a,vs=[.ref a]/\(∃xs,aZ K H1 a xs)/\R (FI K a) H1
theorem FK {X:Cx} {elts:List Expr} {kt:Nat} {tp:Pos} {x:Expr} {ta:TA} {p pos:Pos} (hg:Gl X "enumerate") (hm:X.mg "enumerate" = none) (ha:PA X [x] ta) (hs:starEach [x] X.env=[(false,eval x X.env)]:=by rfl) :
  PI X (.Tuple elts kt tp) (.Call (.Name "enumerate" p) [x] [] pos) (Rg X.K ta):=by
 intro pins s U H R I h
 refine Call_ (mH I hg hm FJ (PyProof.Rows.callWith_type1 (aS (ha pos pins s U H _ I h) λus s1 ⟨vs,H1,I1,r1,q1⟩=>?_) hs rfl))
 obtain ⟨a,e,⟨xs,hq⟩,q⟩:=q1
 subst e
 obtain ⟨u,rfl,ru⟩:=r1.one
 obtain rfl:u=Value.ref a:=ru
 obtain ⟨its,_,p1,_⟩:=I1.list hq
 refine call_enumerate_list p1.isList λh' he hit hsz kk=>wpAny_pyIter_enum he ?_
 have ne:∀(n:Nat),n+1≠n:=λn z=>by omega
 refine ⟨_,[s1.heap.objs.size+1,s1.heap.objs.size],_,_,H1,rfl,I1.kept (t':=s1.toks) kk,Rf (ne _),⟨⟨_,he⟩,hit⟩,λc hc=>?_,q⟩
 have le:s1.heap.objs.size<=c:=by
  simp only [yE,List.not_mem_nil,iP] at hc
  rcases hc with q|q<;>rw [q]<;>first|exact yo _|exact Nat.le_add_right _ _
 exact I1.fpOk le (I1.hok.fresh le)
end L2
namespace Mi
open PySem L2 PySem.W PySem.Spec
section
variable {X:Cx} {Er:XK} {pos:Pos} {eJ:List Stmt} {gb:Aj} {fs:Ah}
def ek (g:PV->zb->Option zb) (body:Aj) (n:Nat):Nat->Nat->Aj
 |0,_,_,_=>.stuck
 |m+1,i,env,st=>yu st n λxs=>match xs[i]? with
  |none=>.ok (.nx env) st
  |some x=>match g (.tup [.int i,x]) env with
   |none=>.stuck
   |some cz=>(body cz st).bind λfl au=>match fl with
    |.nx e=>ek g body n m (i+1) e au
    |.ct e=>ek g body n m (i+1) e au
    |.bk e=>.ok (.nx e) au
    |.rt v=>.ok (.rt v) au
def lU:List PV->Mo Nat
 |[.ref n],st=>yu st n λ_=>.ok n st
 |_,_=>.stuck
def uq {α:Type}{K:Frag}{mg:Ab}{ρ:Ae}{H:Hp}{vs:An}{st:aa}{f:Nat->Mo α}{good:List Addr->Hp->α->aa->Prop}(h:Out K mg ρ H ((lU vs st).bind f) good Er):∃n xs,vs=[.ref n]/\st[n]?=some (.lst xs)/\Out K mg ρ H (f n st) good Er:=by
 unfold lU at h
 split at h
 ·rename_i n
  unfold yu at h
  cases hn:st[n]? with
  |none=>simp only [hn] at h;exact h.elim
  |some so =>
   cases so with
   |lst xs=>simp only [hn] at h;exact ⟨n,xs,rfl,hn,h⟩
   |_=>simp only [hn] at h;exact h.elim
 ·exact h.elim
def qT (fs:Ah) (g:PV->zb->Option zb) (body:Aj):Aj:=λenv st=>(fs env st).bind λvs ae=>(lU vs ae).bind λn ae=>ek g body n (lim+1) 0 env ae
def Rh {elts:List Expr} {kt:Nat} {tp p ip:Pos} {x:Expr} {gt:PV->zb->Option zb} (hp:PassesOwn (model X.prog X.w) X.A X.env X.xe) (hc:X.calm=true) (hm:X.mg "enumerate" = none) (ha:MA X Er [x] fs) (hg:MG X Er (.Tuple elts kt tp) gt) (hb:eP X Er eJ gb)
  (qU:Gl X "enumerate" := by rfl) (bD:starEach [x] X.env=[(false,eval x X.env)]:=by rfl) (hs:∀v,foldedSetIterable (.Call (.Name "enumerate" p) [x] [] ip) X.env v=pure v:=by intro _;rfl) :
  MS X Er (.For (.Tuple elts kt tp) (.Call (.Name "enumerate" p) [x] [] ip) eJ [] pos) (qT fs gt gb) :=
 PS.weak (CS hp hc (FK qU hm ha bD) hg hb hs) λD U H ⟨env,st,ρ,re,rs,h⟩=>⟨env,st,ρ,re,rs,h.then λar H0 vs dC e0 s0 h0 us ru=>by
  obtain ⟨n,EH,rfl,AH,h0⟩:=uq h0
  obtain ⟨v,rfl,rv⟩:=ru.one
  obtain ⟨a,rfl,ha⟩:=rv
  obtain ⟨qV,AI,AJ⟩:=s0.addr AH ha
  refine ⟨a,rfl,⟨_,aZ.of AI⟩,?_⟩
  refine ⟨λi m U H=>∃env st ρ,a8 X.K X.mg ρ H env U/\bf X.K X.mg ρ H st/\ρ[n]?=some a/\Out X.K X.mg ρ H (ek gt gb n m i env st) (gS X.K X.mg D) Er,⟨lim+1,env,dC,ar,re.ext e0,s0,ha,h0⟩,?_⟩
  rintro i m U H ⟨env,st,ρ,re,rs,ha,h⟩
  cases m with
  |zero=>exact h.elim
  |succ m =>
   obtain ⟨xs,hn,h⟩:=jL h
   obtain ⟨vs,hH,hR⟩:=rs.addr hn ha
   cases hx:xs[i]? with
   |none =>
    simp only [hx] at h
    have:vs.length<=i:=by rw [<-hR.len];exact mE.mp hx
    exact .inl ⟨⟨vs,aZ.of hH,this⟩,Out.now (x:=Fl.nx env) h rs U re⟩
   |some x =>
    simp only [hx] at h
    obtain ⟨v,hv,rv⟩:=hR.get hx
    refine .inr ⟨⟨vs,v,aZ.of hH,hv⟩,_,λai H' p'=>⟨m,jW m,p'⟩,λv' H' y=>?_⟩
    obtain ⟨T,x',hT,rfl,rfl,y⟩:=y
    have e2:=y vs (aZ.of hH)
    rw [hv] at e2
    cases e2
    have ex:Ext ρ H ρ (upd H T (.tup [.int i,v])):=Ext.new hT
    cases hgx:gt (.tup [.int i,x]) env with
    |none=>simp only [hgx] at h;exact h.elim
    |some cz =>
     simp only [hgx] at h
     refine ⟨.tup [.int i,x],env,cz,ρ,⟨T,[.int i,v],rfl,.inl (.inl yN),_,_,rfl,rfl,_,_,rfl,R.ext ex x rv,rfl⟩,re.ext ex,hgx,λaw r1=>⟨cz,st,ρ,r1,rs.new hT,Out.then (Out.ext h ex) λam H3 fl aY e3 s3 h3=>?_⟩⟩
     cases fl with
     |nx e=>exact λaE r4=>⟨e,aY,am,r4,s3,e3.get ha,h3⟩
     |ct e=>exact λaE r4=>⟨e,aY,am,r4,s3,e3.get ha,h3⟩
     |bk e=>exact Out.fl (D:=D) (fl:=.nx e) (E:=Er) h3 s3
     |rt v=>exact Out.fl (D:=D) (fl:=.rt v) (E:=Er) h3 s3⟩
end
section
variable {fs:Ah}
def fL (ft:Ak) (fe:Ai) (env:zb) (n:Nat):Nat->Nat->Al
 |0,_,_,_=>.stuck
 |m+1,i,ys,st=>yu st n λxs=>match xs[i]? with
  |none=>.ok (.ref st.length) (st++[.lst ys])
  |some x=>(bE (ft (some (.int i)::some x::env) st)).bind λb ae=>if b=true then (bE (fe (some (.int i)::some x::env) ae)).bind λy au=>fL ft fe env n m (i+1) (ys++[y]) au
   else fL ft fe env n m (i+1) ys ae
def ur (fs:Ah) (ft:Ak) (fe:Ai):Ai:=λenv st=>(fs env st).bind λvs ae=>(lU vs ae).bind λn ae=>fL ft fe env n (lim+1) 0 [] ae
end
end Mi
namespace L2
open PySem PySem.Spec PyProof.Rows PySem.W
def eU (z:Str) (n:Int):Str:=if n<1 then Str.empty else if (n==1||z.length==0)=true then z else ⟨(List.replicate n.toNat z.cps).foldl (·++·) #[]⟩
theorem FL (c:Array Nat):∀(k:Nat) (a:Array Nat),((List.replicate k c).foldl (·++·) a).size=a.size+k*c.size
 |0,a=>by simp
 |k+1,a=>by
  rw [List.replicate_succ,List.foldl_cons,FL c k,Array.size_append,Nat.succ_mul]
  omega
theorem Ri (z:Str) (n:Int):(eU z n).length=n.toNat*z.length:=by
 unfold eU
 split
 ·rename_i h
  have:n.toNat=0:=by omega
  rw [this,Nat.zero_mul];rfl
 ·rename_i h
  split
  ·rename_i h2
   simp only [Bool.or_eq_true,beq_iff_eq] at h2
   rcases h2 with h2|h2
   ·subst h2;simp
   ·rw [h2];simp
  ·show ((List.replicate n.toNat z.cps).foldl (·++·) #[]).size=_
   rw [FL]
   show 0+n.toNat*z.cps.size=_
   rw [Nat.zero_add];rfl
def FN:R2:=λx y H Q=>∃z n,x=.str z/\y=.int n/\(0<=n/\n<=1000/\z.length<=1000)/\Q (.str (eU z n)) H
theorem Rj {X:Cx}:bh X (binaryOp .Mult) FN:=by
 intro pins s U H x y v u Q I rx ry h
 obtain ⟨z,n,rfl,rfl,⟨h0,h1,h2⟩,q⟩:=h
 obtain ⟨t,rfl⟩:=rx
 obtain ⟨t',rfl⟩:=ry
 have hb:n.toNat*z.length<=1000000:=by
  have:n.toNat<=1000:=by omega
  calc n.toNat*z.length<=1000*1000:=Nat.mul_le_mul this h2
   _=1000000:=rfl
 have hsz:=sizeLine_eq
 refine PySem.P.mul_str (by rw [yP (by omega),yP (by omega)];rfl) (λha _=>?_) (λ_ _=>?_) ?_
 ·have:(2 ^ 63-1:Int)/n>=1000:=by
   rw [ge_iff_le,Int.le_ediv_iff_mul_le (by omega)]
   omega
  omega
 ·show decide _=false
  rw [decide_eq_false_iff_not]
  have:z.length*n.toNat<=1000000:=by rw [Nat.mul_comm];exact hb
  rw [sizeLine_eq];omega
 ·by_cases c1:n<1
  ·rw [zw c1]
   have e:eU z n=Str.empty:=by unfold eU;rw [zw c1]
   rw [e] at q
   exact ⟨by decide,.str Str.empty,H,I.tok _,⟨_,rfl⟩,q⟩
  ·rw [zI c1]
   by_cases c2:(n==1||z.length==0)=true
   ·rw [zw c2]
    have e:eU z n=z:=by unfold eU;rw [zI c1,zw c2]
    rw [e] at q
    exact ⟨.str z,H,I,⟨_,rfl⟩,q⟩
   ·rw [zI c2]
    have e:eU z n=⟨(List.replicate n.toNat z.cps).foldl (·++·) #[]⟩:=by unfold eU;rw [zI c1,zI c2]
    have hl:=Ri z n
    rw [e] at q hl
    exact ⟨by rw [hl,sizeLine_eq];omega,.str _,H,I.tok _,⟨_,rfl⟩,q⟩
end L2
namespace Mi
open PySem L2 PySem.W PySem.Spec
section
variable {X:Cx} {K:Frag} {mg:Ab} {Er:XK} {e:Expr} {es:List Expr}
def wB:Am
 |.int i,.int j,st=>EE (.int i) (.int j) st
 |.str z,.int n,st=>if 0<=n/\n<=1000/\z.length<=1000 then .ok (.str (eU z n)) st else .stuck
 |_,_,_=>.stuck
def zbA:da X .Mult wB:=by
 obtain ⟨r,h1,h2⟩:=Pe (X:=X)
 refine ⟨λx y H Q=>r x y H Q\/FN x y H Q,h1.or Rj,fun ρ H st x y v w Q E s rx ry h=>?_⟩
 cases x with
 |int i =>
  cases y with
  |int j=>exact .inl (h2 ρ H st (.int i) (.int j) v w Q E s rx ry h)
  |_=>exact h.elim
 |str z =>
  cases y with
  |int n =>
   obtain ⟨c,h⟩:=Out.ifp h
   cases rx;cases ry
   exact .inr ⟨z,n,rfl,rfl,c,Out.now (x:=PV.str (eU z n)) h s _ rfl⟩
  |_=>exact h.elim
 |_=>exact h.elim
def wY:Al
 |[.int i],st=>if i.natAbs.log2<1920 then .ok (.str (toString i)) st else .stuck
 |_,_=>.stuck
def Rk:cO X (.type "str") wY:=⟨_,L7,fun ρ H st xs vs Q E s r h=>by
 unfold wY at h
 split at h
 ·rename_i i
  obtain ⟨c,h⟩:=Out.ifp h
  obtain ⟨v,rfl,rfl⟩:=r.one
  exact ⟨i,rfl,c,Out.now (x:=PV.str (toString i)) h s _ rfl⟩
 ·exact h.elim⟩
theorem Rs.reverse {ρ:Ae}{H:Hp}:∀{xs:An}{vs:List V},Rs K mg ρ H xs vs->Rs K mg ρ H xs.reverse vs.reverse
 |[],_,h=>by cases h;rfl
 |x::xs,_,h=>by
  obtain ⟨v,r,rfl,h1,h2⟩:=h
  rw [List.reverse_cons,List.reverse_cons]
  exact (Rs.reverse h2).append ⟨v,[],rfl,h1,rfl⟩
def om:List Expr->Option (Ad)
 |[]=>some []
 |.Constant (.str z) _ _::r=>(om r).map (z::·)
 |_::_=>none
def pd (zs:Ad):Ah:=λ_ st=>.ok (zs.map PV.str) st
def zjh:∀{es:List Expr}{zs:Ad},om es=some zs->MA X Er es (pd zs):=by
 intro es
 induction es with
 |nil=>intro zs h;cases h;exact zl
 |cons e r ih =>
  intro zs h
  cases e with
  |Constant c j p =>
   cases c with
   |str z =>
    simp only [om,Option.map_eq_some_iff] at h
    obtain ⟨zr,h1,rfl⟩:=h
    exact Ex yc (ih h1) Ra
   |_=>cases h
  |_=>cases h
end
section
variable {env:zb} {st:aa} {fe:Ai} {fs:Ah} {g:Aj} {src:zb->Mo Sq}
@[simp] def ZM (xs:An) (i:Int):zk (.tup xs) (.int i) st=cg (cN xs i) st:=(rfl)
@[simp] def lV:yW src fe env st=(src env st).bind λq ae=>fK fe env q ae:=(rfl)
@[simp] def nC (xs:An):fK fe env (.im xs) st=if xs.length<=lim then de fe env xs [] st else .stuck:=(rfl)
@[simp] def FP:eL fs env st=(fs env st).bind nB:=(rfl)
@[simp] def Rl (j:Int):nB [.int j] st=if cR j=true then .ok (.im (nums 0 j.toNat)) st else .stuck:=(rfl)
@[simp] def Rm (gt:PV->zb->Option zb):qT fs gt g env st=(fs env st).bind λvs ae=>(lU vs ae).bind λn ae=>ek gt g n (lim+1) 0 env ae:=(rfl)
@[simp] def ZN (n:Nat):lU [.ref n] st=yu st n λ_=>.ok n st:=(rfl)
@[simp] def FQ (i:Int):wY [.int i] st=if i.natAbs.log2<1920 then .ok (.str (toString i)) st else .stuck:=(rfl)
@[simp] def Rn (i j:Int):wB (.int i) (.int j) st=if cY i j=true then .ok (.int (i*j)) st else .stuck:=(rfl)
@[simp] def Ro (neg:Bool) (x:PV) (ys:An):yI neg x (.tup ys) st=if okIn x ys then .ok (.bl (neg.xor (ys.any λy=>bu y x))) st else .stuck:=by unfold yI;cases x<;>rfl
@[simp] def jS (n:Nat):yQ [.ref n] st=yu st n λxs=>.ok (.tup xs) st:=(rfl)
@[simp] def Rp (n:Nat) (y:PV):jp (.ref n) y st=yu st n λxs=>if xs.length<lim then .ok .non (st.set n (.lst (xs++[y]))) else .stuck:=(rfl)
end
def Pre (a b:aa):Prop:=∃d,b=a++d
def Pre.refl (st:aa):Pre st st:=⟨[],by simp⟩
def Pre.trans {a b c:aa}(h:Pre a b) (h':Pre b c):Pre a c:=by obtain ⟨d,rfl⟩:=h;obtain ⟨d',rfl⟩:=h';exact ⟨d++d',by simp⟩
def Pre.of (st d:aa):Pre st (st++d):=⟨d,rfl⟩
def Pre.get {a b:aa}(h:Pre a b) {n:Nat}{so:SO}(e:a[n]?=some so):b[n]?=some so:=by
 obtain ⟨d,rfl⟩:=h
 rw [iQ (yD.mp e).1]
 exact e
def ym (st:aa) (so:SO):(st++[so])[st.length]?=some so:=by simp
theorem AK {fe:Ai}{env:zb}{f:PV->PV}{st:aa}:∀(xs:An),(∀x∈xs,fe (some x::env) st=.ok (f x) st)->∀(ys:An),de fe env xs ys st=.ok (.ref st.length) (st++[.lst (ys++xs.map f)])
 |[],_,ys=>by simp [de]
 |x::xs,h,ys=>by
  simp only [de,h x (ja ..),j1,zH]
  rw [AK xs (λx' ua=>h x' (jg _ ua))]
  simp
def zrG {K:Frag}{mg:Ab}{t:IsT}(hs:t.sub=λ_ _=>none) (hT:t.subT=λ_ _=>none) (hC:t.tyC=λ_ _=>none):IsF K mg t where
 s c B b h:=by rw [hs] at h;cases h
 tt c n b h:=by rw [hT] at h;cases h
 u T B b h:=by rw [hC] at h;cases h
 x c C h hm z:=by
  rcases z with ⟨B,b,z⟩|⟨n,b,z⟩
  ·rw [hs] at z;cases z
  ·rw [hT] at z;cases z
 i c C h hm z:=by
  rcases z with ⟨B,b,z⟩|⟨n,b,z⟩
  ·rw [hs] at z;cases z
  ·rw [hT] at z;cases z
section
variable {X:Cx} {Er:XK}
inductive qW (X:Cx) (Er:XK):List (Option Expr)->List Expr->List Str->List (Ai)->Prop
 |nil:qW X Er [] [] [] []
 |cons {z:Str} {j} {p:Pos} {v:Expr} {f:Ai} {ks:List (Option Expr)} {vs:List Expr} {zs:Ad} {fs:List (Ai)} (hv:ME X Er v f) (hr:qW X Er ks vs zs fs):qW X Er (some (.Constant (.str z) j p)::ks) (v::vs) (z::zs) (f::fs)
def qW.len {ks:List (Option Expr)}{vs:List Expr}{zs:Ad}{fs:List (Ai)}(h:qW X Er ks vs zs fs):ks.length=vs.length/\zs.length=fs.length/\ks.length=zs.length/\ks.all (·.isSome)=true:=by
 induction h with
 |nil=>exact ⟨rfl,rfl,rfl,rfl⟩
 |cons hv hr ih=>exact ⟨by simp [ih.1],by simp [ih.2.1],by simp [ih.2.2.1],by simpa using ih.2.2.2⟩
end
section
variable {X:Cx}
def Rq:bh X (compareOp .IsNot) (λx y H Q=>∃a b,x=.bl a/\y=.bl b/\Q (.bl (!(a==b))) H):=by
 intro pins s U H x y v u Q I rx ry h
 obtain ⟨a,b,rfl,rfl,q⟩:=h
 cases rx;cases ry
 exact PyProof.Rows.isnot_bool ⟨.bl (!(a==b)),H,I,rfl,q⟩
def jT:Am
 |.bl a,.bl b,st=>.ok (.bl (!(a==b))) st
 |x,y,st=>EJ x y st
def zaE:cq X .IsNot jT:=by
 obtain ⟨r,h1,h2⟩:=Pm (X:=X)
 refine ⟨λx y H Q=>r x y H Q\/_,h1.or Rq,fun ρ H st x y v w Q E s rx ry h=>?_⟩
 unfold jT at h
 split at h
 ·rename_i a b
  cases rx;cases ry
  exact .inr ⟨_,_,rfl,rfl,Out.now (x:=PV.bl (!(a==b))) h s _ rfl⟩
 ·exact .inl (h2 ρ H st _ _ v w Q E s rx ry h)
end
def qX (f:PV->PV->Option Bool):List PV->List PV->Option Bool
 |[],[]=>some true
 |x::xs,y::ys=>match f x y,qX f xs ys with
  |some a,some b=>some (a&&b)
  |_,_=>none
 |_,_=>some false
def qY (f:PV->PV->Option Bool) (gy:Ad) (fy:An):List Str->List PV->Option Bool
 |k::ks,x::xs=>match (gy.zip fy).lookup k with
  |none=>some false
  |some y=>match f x y,qY f gy fy ks xs with
   |some a,some b=>some (a&&b)
   |_,_=>none
 |_,_=>some true
def Rr (P:Program) (W:World) (A:Around) (s:Shared) (u u':Value) (b:Bool):Prop:=∀(E:Aa) (Q:Bool->Shared->Prop),Q b s->wpAny (model P W) A (eqBool u u') Q E s
section
variable {X:Cx} {Er:XK} {K:Frag} {mg:Ab}
theorem dw:∀{ks:Ad}{us:Af},us.length=ks.length->(∀(j:Nat) v,us[j]?=some v->∃k,ks[j]?=some k/\∃t,v=Value.str k t)->Vals (ks.map V.str) us
 |[],[],_,_=>.nil
 |[],_::_,h,_=>by simp at h
 |_::_,[],h,_=>by simp at h
 |k::ks,u::us,h,hv=>by
  obtain ⟨k',e,t,ev⟩:=hv 0 u rfl
  simp at e
  subst e
  exact .cons ⟨t,ev⟩ (dw (by simpa using h) λj v e=>by simpa using hv (j+1) v (by simpa using e))
def Ru (hc:X.calm=true):bP X (.type "list") (λxs H Q=>∃p ks vs,xs=[.ref p]/\H p=some (.dK (kz ks vs))/\ks.length=vs.length/\∀l,H l=none->Q (.ref l) (upd H l (.lst (ks.map V.str)))):=by
 intro pins s U H xs us Q I r h
 obtain ⟨p,ks,vs,rfl,hp,hl,q⟩:=h
 obtain ⟨u,rfl,rx⟩:=wD r
 cases rx
 obtain ⟨hz,lo,kv,uv,hd⟩:=mX I.hok (.inl hp)
 obtain ⟨ep,Rv⟩:=hd.dictAt
 have lk:kv.length=ks.length:=by rw [<-uv.length];simp [kz,hl]
 have keys:kv.map (·.1)=ks.map Sum.inr:=by
  rw [<-uv.keys]
  simp [kz,hl,List.map_fst_zip]
 refine kdl_call (kdl_dict (knd:=aX X.prog X.w) (kvs:=kv) (ep:=ep) lo) (I.ok.hd hc) Rv (by rw [<-uv.length];exact hz) λh' tk cZ c' hk hS oo=>?_
 have hv:Vals (ks.map V.str) cZ.toList:=dw (by rw [Array.length_toList,oo.1,lk]) λj v e=>by
  obtain ⟨k,x,e1,e2⟩:=oo.2 j v (by rw [<-Array.getElem?_toList];exact e)
  have e3:(kv.map (·.1))[j]?=some k:=by rw [y3,e1];rfl
  rw [keys,y3] at e3
  cases e4:ks[j]? with
  |none=>rw [e4] at e3;cases e3
  |some k' =>
   rw [e4] at e3
   cases e3
   rcases hV (show fC (Sum.inr k') v=true from e2) with ⟨i,t,z,_⟩|⟨y,t,z,z'⟩
   ·cases z
   ·cases z;exact ⟨k',rfl,t,z'⟩
 exact ⟨.ref s.heap.objs.size,_,I.laid (t':=tk) hk (yo _) (show aW X.prog X.w _ h' _ (.lst (ks.map V.str)) from ⟨by rw [jD,<-lk,<-uv.length];exact hz,cZ.toList,c',hv,by simpa using hS⟩),rfl,q _ I.fresh⟩
def wH:Al:=λxs st=>match xs with
 |[.ref n]=>match st[n]? with
  |some (.dic ks _)=>.ok (.ref st.length) (st++[.lst (ks.map PV.str)])
  |_=>t_ xs st
 |_=>t_ xs st
theorem FR {ρ:Ae}{H:Hp}:∀{ks:Ad},Rs K mg ρ H (ks.map PV.str) (ks.map V.str)
 |[]=>rfl
 |k::ks=>⟨_,_,rfl,rfl,FR⟩
def Rw (hc:X.calm=true):cO X (.type "list") wH:=by
 obtain ⟨r,h1,h2⟩:=PB (X:=X)
 refine ⟨_,h1.or (Ru hc),fun ρ H st xs vs Q E s rx h=>?_⟩
 by_cases hx:∃n ks ys,xs=[.ref n]/\st[n]?=some (.dic ks ys)
 ·obtain ⟨n,ks,ys,rfl,e⟩:=hx
  have h:Out X.K X.mg ρ H (.ok (.ref st.length) (st++[.lst (ks.map PV.str)])) (gV X.K X.mg Q) E:=by
   simpa only [wH,e] using h
  obtain ⟨v,rfl,rv⟩:=Rs.one rx
  obtain ⟨a,vs,rfl,_,k1,_,k3⟩:=R.refD s rv e
  exact .inr ⟨a,ks,vs,rfl,k1,k3,λl hl=>Out.newList (xs:=ks.map PV.str) h s FR hl⟩
 ·refine .inl (h2 ρ H st xs vs Q E s rx ?_)
  have:wH xs st=t_ xs st:=by
   unfold wH
   split
   ·rename_i n
    split
    ·rename_i ks ys e;exact absurd ⟨n,ks,ys,rfl,e⟩ hx
    ·rfl
   ·rfl
  rw [this] at h
  exact h
def qZ {ss:List Stmt}:eP X Er ss yT:=cA.weak Ld λD U H ⟨env,st,ρ,re,rs,h⟩=>h
end
section
variable {P:Program} {W:World} {A:Around} {s:Shared} {K:Type} [DecidableEq K]
inductive kr (P:Program) (W:World) (A:Around) (s:Shared) (kb:List (K×Value)):List (K×Value)->Bool->Prop
 |nil:kr P W A s kb [] true
 |miss {k:K} {v:Value} {r:List (K×Value)} (h:valueAt kb k=none):kr P W A s kb ((k,v)::r) false
 |hit {k:K} {v y:Value} {r:List (K×Value)} {e b:Bool} (h:valueAt kb k=some y) (he:Rr P W A s v y e) (hr:kr P W A s kb r b):kr P W A s kb ((k,v)::r) (e&&b)
end
def AL:Option SO->Bool
 |some (.dic _ _)=>true
 |_=>false
def ku (st:aa):PV->Option Nat
 |.int _=>some 0
 |.str _=>some 1
 |.tup _=>some 2
 |.ref a=>if AL st[a]?=true then some 3 else none
 |_=>none
def vE (f:PV->PV->Option Bool):Option SO->Option SO->Option Bool
 |some (.dic ks xs),some (.dic gy fy)=>if ks.Nodup/\ks.length=xs.length then if ks.length=gy.length then qY f gy fy ks xs else some false else none
 |_,_=>none
def Rx:Option Nat->Option Nat->Option Bool
 |some i,some j=>if i=j then none else some false
 |_,_=>none
def eqT (st:aa):Nat->PV->PV->Option Bool
 |0,_,_=>none
 |n+1,x,y=>match x,y with
  |.int a,.int b=>some (a==b)
  |.str a,.str b=>some (a==b)
  |.tup xs,.tup ys=>qX (eqT st n) xs ys
  |.ref a,.ref b=>vE (eqT st n) st[a]? st[b]?
  |x,y=>Rx (ku st x) (ku st y)
section
variable {K:Frag} {mg:Ab} {ρ:Ae} {H:Hp} {st:aa}
inductive Kn (K:Frag) (mg:Ab) (ρ:Ae) (H:Hp) (st:aa):PV->V->Nat->Prop
 |num (i:Int):Kn K mg ρ H st (.int i) (.int i) 0
 |txt (z:Str):Kn K mg ρ H st (.str z) (.str z) 1
 |row {xs:An} {a:Addr} {vs:List V} (h:ba K H a vs) (r:Rs K mg ρ H xs vs):Kn K mg ρ H st (.tup xs) (.ref a) 2
 |rec_ {n:Nat} {a:Addr} {ks:Ad} {xs:An} {vs:List V} (e:st[n]?=some (.dic ks xs)) (ha:ρ[n]?=some a) (h:H a=some (.dK (kz ks vs))) (r:Rs K mg ρ H xs vs) (l:ks.length=vs.length):Kn K mg ρ H st (.ref n) (.ref a) 3
inductive q8 (st:aa) (f:PV->PV->Option Bool):PV->PV->Bool->Prop
 |num (a b:Int):q8 st f (.int a) (.int b) (a==b)
 |txt (a b:Str):q8 st f (.str a) (.str b) (a==b)
 |row {xs ys:An} {k:Bool} (h:qX f xs ys=some k):q8 st f (.tup xs) (.tup ys) k
 |rec_ {a b:Nat} {k:Bool} (h:vE f st[a]? st[b]?=some k):q8 st f (.ref a) (.ref b) k
 |apart {x y:PV} {i j:Nat} (hx:ku st x=some i) (hy:ku st y=some j) (h:i≠j):q8 st f x y false
end
section
variable {K:Frag} {mg:Ab} {ρ:Ae} {H:Hp} {st:aa}
open Classical in
def Y6 (K:Frag) (mg:Ab) (ρ:Ae) (H:Hp) (st:aa) (ys:An) (x:PV) (u:Value):Bool:=decide (∃y v,y∈ys/\R K mg ρ H y v/\RelV v u/\eqT st 150 y x=some true)
open Classical in
end
end Mi
namespace L2
open PySem PySem.Spec PyProof.Rows
def Ry (iy:Nat) (wi:TI) (te:TE):TS:=λD U H=>wi U H λJ H1=>mO J te U (λv H2=>D.nx (U.set iy (some v)) H2) H1
theorem Rz {X:Cx} {elt iter:Expr} {x y:Str} {px pos pos' gw:Pos} {scope:Scope} {wi:TI} {te:TE} {M:Ad} {iy:Nat} (hc:X.calm=true) (S:dI X.env.scope scope x) (eN:Hid scope M X.N) (cD:((".0" : Str)::x::M).Nodup)
  (hi:PI X (.Name x px) iter wi) (he:∀cl C af ah fp,PE (lu X M scope cl x C af ah fp (λ_ _=>False)) elt te) (q9:X.N.Nodup) (q_:X.N[iy]?=some y) (hy:Loc X.env.scope y) (rd:X.fn y=true\/X.env.scope.names.lookup y=some .local)
  (gW:swapsWith (.ListComp elt [⟨.Name x px,iter,[],0⟩] scope pos) (some (.Name y pos')) gw.line X.env=pure true) (hs:∀v,foldedSetIterable iter X.env v=pure v:=by intro _;rfl):PS X (.Assign [.Name y pos'] (.ListComp elt [⟨.Name x px,iter,[],0⟩] scope pos) gw) (Ry iy wi te):=by
 intro pins s U H Dn I h
 have hN:(x::M).Nodup:=(wt.mp cD).2
 have xh:(".0" : Str)∉M:=λz=>(wt.mp cD).1 (jg _ z)
 obtain ⟨cl,mP,dv,lA⟩:=DO X.env scope λp hp hf=>I.ok.has p.1 (.inl (S.free p hp hf))
 have mQ:X.env.scope.kind=.function:=I.ok.kind
 rw [exec_Assign_Name_used _ _ _ _ gW]
 refine zu (wpAny_standAt ?_)
 rw [arm_evalThenUse_ListComp]
 refine zu (zu (wpAny_comprehension_free (Q:=λ_ s'=>wpAny (model X.prog X.w) X.A (pure ():Sem Unit) (λ_ s'=>wpAny (model X.prog X.w) X.A (pure .next:Sem Flow) (SP X pins Dn) X.xe s') X.xe s') (use:=some (assign (.Name y pos') X.env)) rfl hs mP S.kind (λy hy hl=>(S.names y hy hl).1) ?_))
 refine aS (hi pins s U H _ I h) λv s1 h1=>aS h1 λsU af h2=>?_
 obtain ⟨it,fp,tn,J,H2,e,I2,T,au,f2,W,⟨m0,w0⟩,turn⟩:=h2
 subst e
 refine iN (wpAny_newFunctionEnv S.ncell (by intro y hy;simp at hy) (λax aF aA=>?_) S.kind)
 dsimp only at aF aA ⊢
 generalize hH2:af.heap.push { cls:=.type "list", dict:=none,data:=.seq ([]:Af).toArray }=G2 at aF aA ⊢
 have hC:G2.objs.size=af.heap.objs.size+1:=by rw [<-hH2,Heap.size_push]
 have ie:af.heap.objs.size≠G2.objs.size:=by rw [hC];exact yO (jW _)
 have DU:af.heap.objs.size<=G2.objs.size:=by rw [hC];exact Nat.le_succ _
 have old:∀b o,af.heap.get? b=some o->ax.get? b=some o:=λb o e=>by
  have hb:b≠G2.objs.size:=by rw [hC];exact yO (Nat.lt_succ_of_lt (yt e))
  exact aA.extBut b o hb (yp _ (hH2▸yp _ e))
 have fS:ax.get? af.heap.objs.size=some { cls:=.type "list", data:=.seq (#[]:Array Value) 0 }:=aA.extBut _ _ ie (yp _ (hH2▸y4 _ rfl))
 generalize hD:af.heap.objs.size=D at *
 generalize hCC:G2.objs.size=C at *
 have fq:∀{b:Nat} {o:Obj},af.heap.get? b=some o->b<D:=λe=>by rw [<-hD];exact yt e
 have nofr:∀b,D<=b->b∉dr X.stack:=λb hb z=>by
  rcases yE.mp (I2.stkSub b z) with q|q
  ·exact DK I2.lt hD hb q
  ·exact I2.nofs (by rw [hD];exact hb) q
 let E':Aa:=notedBy (model X.prog X.w) X.A (compEnvC scope cl C X.env) λe s'=>compPost (model X.prog X.w) X.A X.xe (some (assign (.Name y pos') X.env)) (λ_ s'=>wpAny (model X.prog X.w) X.A (pure ():Sem Unit) (λ_ s'=>wpAny (model X.prog X.w) X.A (pure .next:Sem Flow) (SP X pins Dn) X.xe s') X.xe s') (.ref D) C (.error e) s'
 let Y:Cx:=lu X M scope cl x C af H2 fp E'
 have dY:∀b∈fp,du X pins H2 b:=f2
 have mR:Y.Ok:=by
  refine ⟨I2.ok.mod,S.kind,I2.ok.glob,I2.ok.blt,(by show af.heap.objs.size<=C;omega),λy z c h1 h2=>?_,λy hy=>?_,λy c hf=>?_,I2.ok.hd,I2.ok.frames,.inl rfl,λb hb=>?_,I2.bs,jw I2.ok.bsz I2.sz,λb o hb hx=>?_,λb hb hx=>?_,I2.stack,I2.stkFree⟩
  ·exact I2.ok.inj y z c (dv y c h1) (dv z c h2)
  ·exact lA y (v9 S mQ hy)
  ·cases hf
  ·refine ⟨λz=>?_,λy c hy=>(dY b hb).2.2.2.2.1 y c (dv y c hy)⟩
   obtain ⟨o,ho,_⟩:=T.obj 0 _ au b hb
   exact mM (fq ho) hC z
  ·rcases (dY b hx).2.2.2.1 with z|z
   ·exact I2.ok.noex b o hb z
   ·exact DL (yt hb) I2.ok.bsz z
  ·rcases yE.mp (I2.stkSub b hx) with q|q
   ·exact (dY b hb).2.1 q
   ·exact (dY b hb).2.2.1 q
 have gd:∀{s':Shared} {H':Hp} {o:Obj},s'.heap.get? D=some o->H' D=none->(∀v,o.data ≠ .cell v)->∀p∈[(D,o)],s'.heap.get? p.1=some p.2/\H' p.1=none/\p.1≠Y.env.locals/\p.1∉Y.fs/\∀v,p.2.data ≠ .cell v:=λ{s' H' o} e1 e2 e3 p hp=>by
  have ep:p=(D,o):=by simpa using hp
  subst ep
  exact ⟨e1,e2,ie,nofr D (yo _),e3⟩
 have I0:Inv Y [(D,{ cls:=.type "list", data:=.seq (#[]:Array Value) 0 })] (none::U) H2 { af with heap:=ax,toks:=af.toks+([]:List (Str×Value)).length }:=by
  have fresh:∀b,D<=b->H2 b=none:=λb hb=>I2.hok.fresh (by rw [hD];exact hb)
  refine ⟨mR,rfl,I2.bare,Un.kept old,⟨_,aF,λi y v e1 e2 e3=>?_⟩,λy c hy=>?_,fresh C (by omega),λy c hy=>I2.freeC y c (dv y c hy),λp hp=>gd fS (fresh D (yo _)) (λv z=>by cases z) p hp,I2.hok.kept old,?_⟩
  ·cases i with
   |zero=>simp at e2
   |succ i =>
    have qj:M[i]?=some y:=by simpa [Y,lu] using e1
    have xi:X.N[i]?=some y:=by
     rcases eN.get qj with q|q
     ·exact q
     ·refine absurd ?_ q
      rcases e3 with e3|e3|e3<;>(obtain ⟨k0,hm,_⟩:=lz e3;exact wq.mpr ⟨_,hm,rfl⟩)
    have xj:U[i]?=some (some v):=by simpa using e2
    have qk:¬(y=x\/y = ".0"):=λz=>by
     have hm:=kW qj
     rcases z with z|z
     ·rw [z] at hm
      exact (wt.mp hN).1 hm
     ·rw [z] at hm
      exact xh hm
    have dk:(y,NameKind.free)∈scope.names:=by
     rcases e3 with e3|e3|e3
     ·exact absurd (DQ S e3) qk
     ·exact v9 S mQ (.inl e3)
     ·exact v9 S mQ (.inr e3)
    have ql:X.env.scope.names.lookup y=some .cell:=S.free _ dk rfl
    obtain ⟨m,hn,hl⟩:=I2.loc
    obtain ⟨u,r,l⟩:=hl i y v xi xj (.inr (.inl ql))
    refine ⟨u,r,?_⟩
    rcases l with ⟨hk,_⟩|⟨_,c,oH,eI⟩
    ·have:X.env.kindOf y=some .cell:=ql
     rw [this] at hk;cases hk
    ·obtain ⟨c',dg⟩:=lA y dk
     have:=dv y c' dg
     rw [oH] at this
     cases this
     refine .inr ⟨?_,c,dg,?_⟩
     ·rcases e3 with e3|e3|e3
      ·exact absurd (DQ S e3) qk
      ·exact .inl e3
      ·exact .inr e3
     ·obtain ⟨o,ho,hd⟩:=eI
      exact ⟨o,old c o ho,hd⟩
  ·obtain ⟨v,o,ho,hd⟩:=I2.cell y c (dv y c hy)
   exact ⟨v,o,old c o ho,hd⟩
  ·show (none::U).length=(x::M).length
   simp [I2.len,eN.1]
 have mS:∀{pl:Ac} {H':Hp},(∀p∈pl,p.1=D)->(∀b∈fp,H' b=none)->∀b∈fp,du Y pl H' b:=λ{pl H'} br hn b hb=>by
  obtain ⟨o,ho,_⟩:=T.obj 0 _ au b hb
  refine ⟨hn b hb,λz=>?_,?_,.inl hb,(mR.exf b hb).2,λp hp z=>?_⟩
  ·exact mM (fq ho) hC z
  ·exact mR.exfs b hb
  ·have hp':p∈pl:=by simpa [Y,lu] using hp
   exact DM (fq ho) (br p hp') z
 have loop:codeAny (model X.prog X.w) X.A (.compLoop (.ListComp elt [⟨.Name x px,iter,[],0⟩] scope pos) 0 (.ref it) (.ref D) (compEnvC scope cl C X.env))
   (compPost (model X.prog X.w) X.A X.xe (some (assign (.Name y pos') X.env)) (λ_ s'=>wpAny (model X.prog X.w) X.A (pure ():Sem Unit) (λ_ s'=>wpAny (model X.prog X.w) X.A (pure .next:Sem Flow) (SP X pins Dn) X.xe s') X.xe s') (.ref D) C) { af with heap:=ax,toks:=af.toks+([]:List (Str×Value)).length }:=by
  refine NF (λn s'=>∃i ys H' its k,Inv Y [(D,{ cls:=.type "list", data:=.seq (its:Af).toArray k })] (none::U) H' s'/\Vals ys its/\tn i s'.heap/\(∀b∈fp,H' b=none)/\W i n ys H') ?_ m0
   ⟨0,[],H2,[],0,I0,.nil,T.keep 0 _ _ au (λb hb o e=>old b o e),λb hb=>(dY b hb).1,w0⟩
  rintro n s3 ⟨i,ys,H3,its,k,I3,rv,aY,k7,w3⟩
  have gL:∀{o:Obj},∀p∈[(D,o)],p.1=D:=λ{o} p hp=>by
   have ep:p=(D,o):=by simpa using hp
   rw [ep]
  obtain ⟨gD,nD,_,_,_⟩:=I3.pin (D,_) (yR _ ja)
  rcases turn i n ys H3 w3 with ⟨stop,hz,q⟩|⟨go,hz,step⟩
  ·refine aS (T.done Y rfl rfl rfl hc i _ s3 _ H3 E' I3 (mS gL k7) aY stop) λr s4 ⟨hr,I4⟩=>?_
   subst hr
   obtain ⟨xk,mT,_,_,_⟩:=I4.pin (D,_) (yR _ ja)
   obtain ⟨m4,xm,_⟩:=id I4.loc
   have fin:∀h',Heap.SameBut C s4.heap h'->Inv X pins U (upd H3 D (.lst ys)) { s4 with heap:=h' }:=λh' dZ=>by
    have h_:∀{b:Addr} {u:HO},H3 b=some u->b≠C:=λe z=>by
     have:H3 C=none:=I4.free
     rw [z,this] at e;cases e
    refine I2.call' (s':={ s4 with heap:=h' }) (ch:=fp) (H':=upd H3 D (.lst ys)) I4.os ?_ ?_ I4.bare λb hb=>⟨(dY b hb).2.2.2.1,(dY b hb).2.1,(dY b hb).2.2.2.2.1,(dY b hb).2.2.2.2.2⟩
    ·have B:=I4.base
     have mU:∀{b:Nat} {o:Obj},af.heap.get? b=some o->b≠C:=λe z=>mM (fq e) hC z
     have mV:∀{b:Addr} {u:HO},H3 b=some u->b≠D:=λe z=>by rw [z,mT] at e;cases e
     refine ⟨λb o e nn hb hx=>(dZ.2 b (mU e)).trans (B.keep b o e nn hb hx),λb o e nn hb hx=>?_,λb o e nn hx=>?_,λb o e hx=>?_,λb xs e=>?_,λb o u e=>?_,λb ps e=>?_⟩
     ·obtain ⟨sl,z⟩:=B.slot b o e nn hb hx
      exact ⟨sl,(dZ.2 b (mU e)).trans z⟩
     ·have xo:b≠D:=yO (fq e)
      rw [yi xo]
      exact B.free b o e nn hx
     ·obtain ⟨o',z⟩:=B.there b o e hx
      exact ⟨o',(dZ.2 b (mU e)).trans z⟩
     ·have z:=B.tups b xs e
      rw [yi (mV z)];exact z
     ·have z:=B.frzs b o u e
      rw [yi (mV z)];exact z
     ·obtain ⟨more,z⟩:=B.tbls b ps e
      exact ⟨more,by rw [yi (mV z)];exact z⟩
    ·intro a o e
     by_cases ha:a=D
     ·subst ha
      rw [yN] at e
      cases e
      exact ⟨hz,its,k,rv,(dZ.2 _ ie).trans xk⟩
     ·rw [yi ha] at e
      have fU:∀b u,H3 b=some u->(upd H3 D (.lst ys)) b=some u:=λb u z=>by
       have hb:b≠D:=λw=>by rw [w,mT] at z;cases z
       rw [yi hb];exact z
      refine (I4.hok a o e).stay (λb u hb z=>(dZ.2 b ?_).trans z) (λb z=>fU b _ z) λb xs z=>fU b _ z
      rcases hb with hb|hb
      ·rw [hb];exact h_ e
      ·exact h_ hb
   have RA:C≠D:=λz=>ie z.symm
   have IX:=fin s4.heap ⟨rfl,λ_ _=>rfl⟩
   obtain ⟨oC,eC,pC,gC,rC⟩:=id xm
   have FT:upd H3 D (.lst ys) C=none:=by rw [yi RA];exact I4.free
   have AO:∀b o,af.heap.get? b=some o->b≠C:=λb o e z=>mM (fq e) hC z
   have pe:C≠X.env.locals:=λz=>by
    obtain ⟨m2,f_,_⟩:=id I2.loc
    obtain ⟨o2,_,_,g2,_⟩:=f_
    exact AO _ _ g2 z.symm
   have RB:C∉X.fs:=I2.nofs (by rw [hD];omega)
   have IP:Inv X (pins++[(C,oC)]) U (upd H3 D (.lst ys)) s4:=IX.pins_of λp hp=>by
    rcases yU.mp hp with hp|hp
    ·exact IX.pin p (yR _ hp)
    ·have ep:p=(C,oC):=by simpa using hp
     subst ep
     exact ⟨gC,FT,pe,RB,λv z=>by rw [rC.1] at z;cases z⟩
   show wpAny _ _ (assign (.Name y pos') X.env (.ref D)) _ _ s4
   have bD:wpAny (model X.prog X.w) X.A (assign (.Name y pos') X.env (.ref D)) (λ_ s5=>Inv X (pins++[(C,oC)]) (U.set iy (some (.ref D))) (upd H3 D (.lst ys)) s5) X.xe s4:=wpAny_assign_Name (mG IP q9 q_ hy (v:=.ref D) rfl (λs5 I5=>I5) rd)
   refine aS bD λ_ s5 I5=>?_
   have g5:=(I5.pin (C,oC) (yR _ (yR _ ja))).1
   refine ⟨m4,⟨oC,eC,pC,g5,rC⟩,λZO dZ=>ye (ye ⟨_,_,?_,q D mT⟩)⟩
   exact (I5.pins_of (pins':=pins) λp hp=>I5.pin p (yR _ (jC _ hp))).turned (it:=C) (t':=s5.toks) (λb o hb e=>(dZ.2 b hb).trans e) FT pe
    (.inr (by have:=I2.sz;rw [hD] at this;omega)) (λa c ha z=>by
     obtain ⟨v',o',ho',_⟩:=I2.cell a c ha
     exact AO _ _ ho' z) (λp hp=>AO _ _ (I2.pin p hp).1)
  ·refine aS (T.item Y rfl rfl rfl hc i _ s3 _ H3 E' I3 (mS gL k7) aY go) λr s4 ⟨u,hr,h4⟩=>?_
   subst hr
   refine aS h4 λ_ s5 ⟨z,H5,I5,r5,y5,dN,p9⟩=>?_
   have p_:=I5.pinned (mS gL p9) (T.obj _ _ dN)
   have gf:PG Y (.Name x px) (wu 0):=wN (X:=Y) hN rfl (.inl (jV S.hx)) (.inr (jV S.hx))
   have xq:PE Y elt te:=PE.nox (X:=Y) (he cl C af H2 fp)
   refine aS (gf _ s5 (none::U) H5 z u (λai H'=>ai=some z::U/\H'=H5) p_ r5 ⟨rfl,rfl⟩) λ_ s6 ⟨aH,H6,I6,e1,e2⟩=>?_
   subst e1 e2
   refine aS (xq _ s6 _ _ _ I6 (step z _ y5)) λuy s7 ⟨y,H7,I7,ry,m',hm,w7⟩=>?_
   obtain ⟨qm,mW,_,_,_⟩:=I7.pin (D,_) (yR _ (jC _ ja))
   refine wpAny_list_append_plain ⟨k,qm⟩ (λh' br dZ=>?_) (by rw [y9,<-rv.length];exact hz)
   obtain ⟨k',qo⟩:=br
   have I8:Inv Y [] (some z::U) H7 { s7 with heap:=h' }:=(I7.pins_of (pins':=[]) (λp hp=>nomatch hp)).turned (it:=D) (t':=s7.toks) (λb o hb e=>(dZ.2 b hb).trans e) mW ie
    (.inr (by show af.heap.objs.size<=D;omega)) (λa c hy xt=>by
     obtain ⟨v',o',ho',_⟩:=I2.cell a c (dv a c hy)
     exact yO (fq ho') xt) (λp hp=>by simp [Y,lu] at hp)
   have I9:Inv Y [] (none::U) H7 { s7 with heap:=h' }:=I8.weak (by simp) λj v e=>by
    cases j with
    |zero=>simp at e
    |succ j=>simpa using e
   have eM:∀b∈fp,∃o,s5.heap.get? b=some o/\s7.heap.get? b=some o/\H7 b=none:=λb hb=>by
    obtain ⟨o,e,_⟩:=T.obj _ _ dN b hb
    have q:=I7.pin (b,o) (yR _ (yR _ (p8 hb e)))
    exact ⟨o,e,q.1,q.2.1⟩
   have xv:∀b∈fp,b≠D:=λb hb=>by
    obtain ⟨o,ho,_⟩:=T.obj 0 _ au b hb
    exact yO (fq ho)
   have eT:its.toArray.push uy=(its++[uy]).toArray:=by simp
   rw [eT] at qo
   refine ⟨m',hm,i+1,ys++[y],H7,its++[uy],k',I9.pins_of (gd qo mW λv e=>by cases e),rv.append (.cons ry .nil),T.keep (i+1) _ _ dN λb hb o e=>?_,λb hb=>?_,w7⟩
   ·obtain ⟨o',e1,e2,_⟩:=eM b hb
    rw [e] at e1
    cases e1
    exact (dZ.2 b (xv b hb)).trans e2
   ·obtain ⟨_,_,_,q⟩:=eM b hb
    exact q
 exact codeAny_compStart_list loop (T.self X.A 0 _ _ _ (T.keep 0 _ _ au (λb hb o e=>old b o e)) loop)
end L2
namespace Mi
open PySem L2 PySem.W PySem.Spec
section
variable {X:Cx} {Er:XK} {pos:Pos}
def FU (X:Cx) (Er:XK) (src:zb->Mo Sq):TI:=λU H R=>∃env st ρ,a8 X.K X.mg ρ H env U/\bf X.K X.mg ρ H st/\Out X.K X.mg ρ H (src env st) (λaj H' q bt=>∀J,Walk X.K X.mg J aj H' q->R J H') Er
def RC {src:zb->Mo Sq}{fe:Ai}(U:L2.St) (H:Hp) (Q:VK) (hh:tM X.K X.mg Er (yW src fe) U H Q):DR (FU X Er src) (tM X.K X.mg XN fe) U H Q:=by
 obtain ⟨env,st,ρ,re,rs,h⟩:=hh
 refine ⟨env,st,ρ,re,rs,h.then λar H0 q dC e0 s0 h0 J wk=>?_⟩
 cases q with
 |im xs =>
  obtain ⟨hl,h0⟩:=Out.ifp h0
  obtain ⟨w1,w2,w3⟩:=wk
  refine ⟨λi m ys H=>m=xs.length-i/\i<=xs.length/\ys.length=i/\∃ps st ρ,Rs X.K X.mg ρ H ps ys/\bf X.K X.mg ρ H st/\Ext ar H0 ρ H/\Out X.K X.mg ρ H (de fe env (xs.drop i) ps st) (gV X.K X.mg Q) Er,⟨xs.length,by simp,jJ _,rfl,[],dC,ar,rfl,s0,Ext.refl,h0⟩,?_⟩
  rintro i m ys H ⟨rfl,hi,hy,ps,st,ρ,cG,rs,ex,h⟩
  by_cases bz:i<xs.length
  ·refine .inr ⟨w1 i ρ H ex bz,jb (by omega),λv H' y=>?_⟩
   obtain ⟨x,hx,bH,s2,rx⟩:=w3 i ρ H st v H' ex rs bz y
   have hd:xs.drop i=x::xs.drop (i+1):=by
    rw [w9 bz]
    have:=(yD.mp hx).2
    rw [this]
   rw [hd] at h
   simp only [de] at h
   refine ⟨some x::env,st,ρ,(re.ext (e0.trans (ex.trans bH))).cons rx,s2,jM (Out.ext h bH) λam H3 y aY e3 s3 h3 v ry=>⟨xs.length-(i+1),by omega,rfl,bz,by simp [hy],ps++[y],aY,am,Rs.snoc ry (Rs.ext (bH.trans e3) ps cG),s3,(ex.trans bH).trans e3,h3⟩⟩
  ·have e:i=xs.length:=by omega
   subst e
   rw [List.drop_length] at h
   exact .inl ⟨w2 _ ρ H ex (yo _),jb (by omega),λl hl=>Out.newList h rs cG hl⟩
 |rf n =>
  obtain ⟨a,ha,rfl⟩:=wk
  refine ⟨λi m ys H=>m+i=lim+1/\ys.length=i/\∃ps st ρ,Rs X.K X.mg ρ H ps ys/\bf X.K X.mg ρ H st/\Ext ar H0 ρ H/\ρ[n]?=some a/\Out X.K X.mg ρ H (fJ fe env n m i ps st) (gV X.K X.mg Q) Er,⟨lim+1,rfl,rfl,[],dC,ar,rfl,s0,Ext.refl,ha,h0⟩,?_⟩
  rintro i m ys H ⟨hm,hy,ps,st,ρ,cG,rs,ex,ha,h⟩
  cases m with
  |zero=>exact h.elim
  |succ m =>
   obtain ⟨xs,hn,h⟩:=jL h
   obtain ⟨vs,hH,hR⟩:=rs.addr hn ha
   cases hx:xs[i]? with
   |none =>
    simp only [hx] at h
    have:vs.length<=i:=by rw [<-hR.len];exact mE.mp hx
    exact .inl ⟨⟨vs,aZ.of hH,this⟩,jb (by omega),λl hl=>Out.newList h rs cG hl⟩
   |some x =>
    simp only [hx] at h
    obtain ⟨v,hv,rv⟩:=hR.get hx
    refine .inr ⟨⟨vs,v,aZ.of hH,hv⟩,jb (by omega),λv' H' y=>?_⟩
    obtain ⟨e1,y⟩:=y
    subst e1
    have e2:=y vs (aZ.of hH)
    rw [hv] at e2
    cases e2
    exact ⟨some x::env,st,ρ,(re.ext (e0.trans ex)).cons rv,rs,jM h λam H3 y aY e3 s3 h3 v ry=>⟨m,jW m,by omega,by simp [hy],ps++[y],aY,am,Rs.snoc ry (Rs.ext e3 ps cG),s3,ex.trans e3,e3.get ha,h3⟩⟩
def FV (i:Nat) {elt iter:Expr} {x y:Str} {px pos' gw:Pos} {scope:Scope} {src:zb->Mo Sq} {fe:Ai} {M:Ad} (hc:X.calm=true) (S:dI X.env.scope scope x) (eN:Hid scope M X.N) (cD:((".0" : Str)::x::M).Nodup)
  (hi:MI X Er (.Name x px) iter src) (he:∀cl C af ah fp,ME (lu X M scope cl x C af ah fp (λ_ _=>False)) XN elt fe) (q9:X.N.Nodup) (q_:X.N[i]?=some y) (hy:Loc X.env.scope y) (rd:X.fn y=true\/X.env.scope.names.lookup y=some .local)
  (gW:swapsWith (.ListComp elt [⟨.Name x px,iter,[],0⟩] scope pos) (some (.Name y pos')) gw.line X.env=pure true) (hs:∀v,foldedSetIterable iter X.env v=pure v:=by intro _;rfl) :
  MS X Er (.Assign [.Name y pos'] (.ListComp elt [⟨.Name x px,iter,[],0⟩] scope pos) gw) (zQ i (yW src fe)) :=
 PS.weak (Rz (te:=tM X.K X.mg XN fe) hc S eN cD hi (λcl C af ah fp=>he cl C af ah fp) q9 q_ hy rd gW hs) λD U H ⟨env,st,ρ,re,rs,h⟩=>by
  refine RC (X:=X) (Er:=Er) (src:=src) (fe:=fe) U H (λv H2=>D.nx (U.set i (some v)) H2) ⟨env,st,ρ,re,rs,h.then λag H1 x ae e1 s1 h1 v rv=>?_⟩
  exact h1.now s1 (U.set i (some v)) ((re.ext e1).set i rv)
def RD (i:Nat) {elt iter:Expr} {x y:Str} {px pos' gw:Pos} {scope:Scope} {src:zb->Mo Sq} {fe:Ai} {N:Ad} (hc:X.calm=true) (S:dI X.env.scope scope x) (eN:X.N=N) (cD:((".0" : Str)::x::N).Nodup)
  (hi:MI X Er (.Name x px) iter src) (he:∀cl C af ah fp,ME (DP X scope cl x C af ah fp (λ_ _=>False)) XN elt fe) (q9:X.N.Nodup) (q_:X.N[i]?=some y) (hy:Loc X.env.scope y) (rd:X.fn y=true\/X.env.scope.names.lookup y=some .local)
  (gW:swapsWith (.ListComp elt [⟨.Name x px,iter,[],0⟩] scope pos) (some (.Name y pos')) gw.line X.env=pure true) (hs:∀v,foldedSetIterable iter X.env v=pure v:=by intro _;rfl) :
  MS X Er (.Assign [.Name y pos'] (.ListComp elt [⟨.Name x px,iter,[],0⟩] scope pos) gw) (zQ i (yW src fe)) :=
 FV i hc S Hid.refl (eN▸cD) hi he q9 q_ hy rd gW hs
end
end Mi
namespace Mi
open PySem L2 PySem.W PySem.Spec
section
variable {K:Frag} {mg:Ab} {ρ:Ae} {H:Hp} {a:Addr} {o:Obj} {kvs:List (Key×V)} {u:HO}
def rg (ha:H a=some (.frz o (.dK kvs))) {b:Addr}{w:HO}(h:H b=some w) (n:∀o k,w ≠ .frz o (.dK k)):upd H a u b=some w:=by
 rw [yi]
 ·exact h
 ·intro z;subst z;rw [ha] at h;cases h;exact n _ _ rfl
def RE (ha:H a=some (.frz o (.dK kvs))) {p:Addr}{xs:List V}(h:ba K H p xs):ba K (upd H a u) p xs:=by
 rcases h with (h|⟨o,h⟩)|h
 ·exact .inl (.inl (rg ha h (λ_ _=>nofun)))
 ·exact .inl (.inr ⟨o,rg ha h (λ_ _=>nofun)⟩)
 ·exact .inr h
def RF (ha:H a=some (.frz o (.dK kvs))) {p:Addr}{xs:List V}(h:i_ K H p xs):i_ K (upd H a u) p xs:=by
 rcases h with ⟨o,h⟩|h
 ·exact .inl ⟨o,rg ha h (λ_ _=>nofun)⟩
 ·exact .inr h
mutual
theorem R.th (ha:H a=some (.frz o (.dK kvs))):∀(x:PV) {v:V},R K mg ρ H x v->R K mg ρ (upd H a u) x v
 |.non,_,h=>h
 |.bl _,_,h=>h
 |.int _,_,h=>h
 |.str _,_,h=>h
 |.ty _,_,h=>h
 |.tup xs,_,h=>by
  obtain ⟨a,vs,h1,h2,h3⟩:=h
  exact ⟨a,vs,h1,RE ha h2,Rs.th ha xs h3⟩
 |.frl xs,_,h=>by
  obtain ⟨a,vs,h1,h2,h3⟩:=h
  exact ⟨a,vs,h1,RF ha h2,Rs.th ha xs h3⟩
 |.ref n,_,h=>h
 |.fn _,_,h=>h
 |.kd ks xs,_,h=>by
  obtain ⟨a,us,vs,h1,h2,h4,h3⟩:=h
  exact ⟨a,us,vs,h1,h2,h4,Rs.th ha xs h3⟩
 |.exo c ks xs,_,h=>by
  obtain ⟨a,C,d,vs,h1,h2,h3,h4,h5,h6⟩:=h
  exact ⟨a,C,d,vs,h1,h2,rg ha h3 (λ_ _=>nofun),rg ha h4 (λ_ _=>nofun),Rs.th ha xs h5,h6⟩
theorem Rs.th (ha:H a=some (.frz o (.dK kvs))):∀(xs:An) {vs:List V},Rs K mg ρ H xs vs->Rs K mg ρ (upd H a u) xs vs
 |[],_,h=>h
 |x::xs,_,h=>by
  obtain ⟨v,r,h1,h2,h3⟩:=h
  exact ⟨v,r,h1,R.th ha x h2,Rs.th ha xs h3⟩
end
def a8.th (ha:H a=some (.frz o (.dK kvs))) {env:zb}{U:L2.St}(h:a8 K mg ρ H env U):a8 K mg ρ (upd H a u) env U :=
 ⟨h.len,λi x hx=>let ⟨v,p,q⟩:=h.at_ i x hx;⟨v,p,R.th ha x q⟩⟩
end
end Mi
namespace Mi
open PySem L2 PySem.W PySem.Spec
section
variable {X:Cx} {Er:XK} {K:Frag} {mg:Ab} {pos p:Pos} {e:Expr} {fk:Ai}
def cP:List PV->Option (List Bool)
 |[]=>some []
 |.bl b::r=>(cP r).map (b::·)
 |_::_=>none
theorem AQ {ρ:Ae}{H:Hp}:∀{xs:An}{bs:List Bool}{vs:List V},cP xs=some bs->Rs K mg ρ H xs vs->vs=bs.map V.bl
 |[],bs,vs,e,h=>by cases e;cases h;rfl
 |.bl i::r,bs,vs,e,h=>by
  simp only [cP,Option.map_eq_some_iff] at e
  obtain ⟨ir,e1,rfl⟩:=e
  obtain ⟨v,r',rfl,h1,h2⟩:=h
  cases h1
  rw [AQ e1 h2]
  rfl
 |.non::_,_,_,e,_=>by cases e
 |.int _::_,_,_,e,_=>by cases e
 |.str _::_,_,_,e,_=>by cases e
 |.ty _::_,_,_,e,_=>by cases e
 |.tup _::_,_,_,e,_=>by cases e
 |.frl _::_,_,_,e,_=>by cases e
 |.ref _::_,_,_,e,_=>by cases e
 |.fn _::_,_,_,e,_=>by cases e
 |.kd _ _::_,_,_,e,_=>by cases e
 |.exo _ _ _::_,_,_,e,_=>by cases e
def AR:Al:=λvs st=>(lU vs st).bind λn st=>yu st n λxs=>match cP xs with
 |some bs=>.ok (.bl (bs.all id)) st
 |none=>.stuck
def RG (hc:X.calm=true):cO X (.builtin "all") AR:=⟨_,NM hc,fun ρ H st xs vs Q E s r h=>by
 obtain ⟨n,ys,rfl,hn,h⟩:=uq h
 obtain ⟨fy,mF,h⟩:=jL h
 obtain ⟨v,rfl,rv⟩:=r.one
 obtain ⟨a,rfl,ha⟩:=rv
 obtain ⟨ws,hH,hR⟩:=s.addr mF ha
 cases hi:cP fy with
 |none=>simp only [hi] at h;exact h.elim
 |some bs =>
  simp only [hi] at h
  have e:=AQ hi hR
  subst e
  exact ⟨a,bs,rfl,aZ.of hH,Out.now (x:=PV.bl (bs.all id)) h s _ rfl⟩⟩
theorem RH:bootBuiltins "all" = some (.builtin "all"):=by decide +kernel
def pairOf:PV->Option (PV×PV)
 |.tup [x,y]=>some (x,y)
 |_=>none
def RI {q:PV}{r:PV×PV}(h:pairOf q=some r):q=.tup [r.1,r.2]:=by
 unfold pairOf at h
 split at h
 ·cases h;rfl
 ·cases h
def lW (fe:Ai) (env:zb):List PV->Al
 |[],ys,st=>.ok (.ref st.length) (st++[.lst ys])
 |q::xs,ys,st=>match pairOf q with
  |some r=>(bE (fe (some r.1::some r.2::env) st)).bind λz ae=>lW fe env xs (ys++[z]) ae
  |none=>.stuck
def RJ {fe:Ai}{env:zb}{q:PV}{xs ys:An}{st:aa}{ρ:Ae}{H:Hp}{good:List Addr->Hp->PV->aa->Prop}(h:Out K mg ρ H (lW fe env (q::xs) ys st) good Er):∃x y,q=.tup [x,y]/\Out K mg ρ H ((bE (fe (some x::some y::env) st)).bind λz ae=>lW fe env xs (ys++[z]) ae) good Er:=by
 simp only [lW] at h
 cases hq:pairOf q with
 |none=>simp only [hq] at h;exact h.elim
 |some r =>
  simp only [hq] at h
  exact ⟨r.1,r.2,RI hq,h⟩
def vF:Sq->Option (An)
 |.im xs=>some xs
 |.rf _=>none
def AU (src:zb->Mo Sq) (fe:Ai):Ai:=λenv st=>(src env st).bind λq ae=>match vF q with
 |some xs=>if xs.length<=lim then lW fe env xs [] ae else .stuck
 |none=>.stuck
def RK {elt iter:Expr} {x y:Str} {kt:Nat} {px py tp:Pos} {scope:Scope} {src:zb->Mo Sq} {fe:Ai} {N:Ad} (hc:X.calm=true) (S:di X.env.scope scope [x,y]) (eN:X.N=N) (cD:((".0" : Str)::([x,y]++N)).Nodup)
  (hi:MI X Er (.Tuple [.Name x px,.Name y py] kt tp) iter src) (he:∀cl C af ah fp,ME (fj X scope cl [x,y] C af ah fp (λ_ _=>False)) XN elt fe)
  (hx:scope.names.lookup x=some .local:=by rfl) (hy:scope.names.lookup y=some .local:=by rfl) (hs:∀v,foldedSetIterable iter X.env v=pure v:=by intro _;rfl) :
  ME X Er (.ListComp elt [⟨.Tuple [.Name x px,.Name y py] kt tp,iter,[],0⟩] scope pos) (AU src fe):=by
 have hN:([x,y]++X.N).Nodup:=by rw [eN];exact (wt.mp cD).2
 have gf:∀cl C af ah fp E,PG (fj X scope cl [x,y] C af ah fp E) (.Tuple [.Name x px,.Name y py] kt tp) (sS X.K 2 (mJ (wu 0) (mJ (wu 1) sQ))):=λcl C af ah fp E=>sT (n:=2) hc
  (kZ (wN (X:=fj X scope cl [x,y] C af ah fp E) (i:=0) hN rfl (.inl (jV hx)) (.inr (jV hx)))
  (kZ (wN (X:=fj X scope cl [x,y] C af ah fp E) (i:=1) hN rfl (.inl (jV hy)) (.inr (jV hy))) sR))
 exact PE.weak (xw (te:=tM X.K X.mg XN fe) (tt:=oM) hc S eN cD hi gf (λcl C af ah fp=>DT) (λcl C af ah fp=>he cl C af ah fp) hs) λU H Q ⟨env,st,ρ,re,rs,h⟩=>⟨env,st,ρ,re,rs,h.then λar H0 q dC e0 s0 h0 J wk=>by
  cases q with
  |rf n=>exact h0.elim
  |im xs =>
   obtain ⟨hl,h0⟩:=Out.ifp (show Out X.K X.mg ar H0 (if xs.length<=lim then lW fe env xs [] dC else .stuck) (gV X.K X.mg Q) Er from h0)
   obtain ⟨w1,w2,w3⟩:=wk
   refine ⟨λi m ys H=>m=xs.length-i/\i<=xs.length/\ys.length=i/\∃ps st ρ,Rs X.K X.mg ρ H ps ys/\bf X.K X.mg ρ H st/\Ext ar H0 ρ H/\Out X.K X.mg ρ H (lW fe env (xs.drop i) ps st) (gV X.K X.mg Q) Er,⟨xs.length,by simp,jJ _,rfl,[],dC,ar,rfl,s0,Ext.refl,h0⟩,?_⟩
   rintro i m ys H ⟨rfl,hi,hy,ps,st,ρ,cG,rs,ex,h⟩
   by_cases bz:i<xs.length
   ·refine .inr ⟨w1 i ρ H ex bz,jb (by omega),λv H' yy=>?_⟩
    obtain ⟨x,hx,bH,s2,rx⟩:=w3 i ρ H st v H' ex rs bz yy
    have hd:xs.drop i=x::xs.drop (i+1):=by
     rw [w9 bz]
     have:=(yD.mp hx).2
     rw [this]
    rw [hd] at h
    obtain ⟨p,q,rfl,h⟩:=RJ h
    obtain ⟨a,vs,rfl,h1,h2⟩:=rx
    obtain ⟨u,w,rfl,r1,r2⟩:=Rs.two h2
    refine ⟨a,[u,w],rfl,h1,rfl,u,[w],rfl,w,[],rfl,rfl,[some u,some w],rfl,rfl,?_⟩
    have gk:a8 X.K X.mg ρ H' (some p::some q::env) (some u::some w::U):=((re.ext (e0.trans (ex.trans bH))).cons r2).cons r1
    simp only [oM,↓reduceIte]
    exact ⟨_,st,ρ,gk,s2,jM (Out.ext h bH) λaB H4 y dn e4 s4 h4 v4 r4=>⟨xs.length-(i+1),by omega,rfl,bz,by simp [hy],ps++[y],dn,aB,Rs.snoc r4 (Rs.ext (bH.trans e4) ps cG),s4,(ex.trans bH).trans e4,h4⟩⟩
   ·have e:i=xs.length:=by omega
    subst e
    rw [List.drop_length] at h
    exact .inl ⟨w2 _ ρ H ex (yo _),jb (by omega),λl hl=>Out.newList h rs cG hl⟩⟩
inductive rh (X:Cx) (Er:XK):List (Option Expr)->List Expr->List ((Ai)×(Ai))->Prop
 |nil:rh X Er [] [] []
 |cons {k v:Expr} {fk fv:Ai} {ks:List (Option Expr)} {vs:List Expr} {fs:List ((Ai)×(Ai))} (hk:ME X Er k fk) (hv:ME X Er v fv) (hr:rh X Er ks vs fs):rh X Er (some k::ks) (v::vs) ((fk,fv)::fs)
def rh.len {ks:List (Option Expr)}{vs:List Expr}{fs:List ((Ai)×(Ai))}(h:rh X Er ks vs fs):ks.length=vs.length/\ks.length=fs.length/\ks.all (·.isSome)=true:=by
 induction h with
 |nil=>exact ⟨rfl,rfl,rfl⟩
 |cons hk hv hr ih=>exact ⟨by simp [ih.1],by simp [ih.2.1],by simpa using ih.2.2⟩
end
section
variable {X:Cx} {K:Frag} {mg:Ab}
def call_len_dict:bP X (.builtin "len") (λxs H Q=>∃p kvs,xs=[.ref p]/\H p=some (.dK kvs)/\Q (.int kvs.length) H):=by
 intro pins s U H xs us Q I r h
 obtain ⟨p,kvs,rfl,hp,q⟩:=h
 obtain ⟨u,rfl,rx⟩:=wD r
 cases rx
 exact NV I (.inl hp) λt s' I'=>⟨.int kvs.length,H,I',⟨t,rfl⟩,q⟩
def yH:Al:=λxs st=>match xs with
 |[.ref n]=>match st[n]? with
  |some (.dic ks _)=>.ok (.int ks.length) st
  |_=>qE xs st
 |_=>qE xs st
def wf:cO X (.builtin "len") yH:=by
 obtain ⟨r,h1,h2⟩:=Pz (X:=X)
 refine ⟨_,h1.or call_len_dict,fun ρ H st xs vs Q E s rx h=>?_⟩
 by_cases hx:∃n ks ys,xs=[.ref n]/\st[n]?=some (.dic ks ys)
 ·obtain ⟨n,ks,ys,rfl,e⟩:=hx
  have h:Out X.K X.mg ρ H (.ok (.int ks.length) st) (gV X.K X.mg Q) E:=by
   simpa only [yH,e] using h
  obtain ⟨v,rfl,rv⟩:=Rs.one rx
  obtain ⟨a,ws,rfl,_,k1,k2,k3⟩:=R.refD s rv e
  refine .inr ⟨a,_,rfl,k1,?_⟩
  have hl:(kz ks ws).length=ks.length:=by simp [kz,k3]
  rw [hl]
  exact Out.now (x:=PV.int ks.length) h s _ rfl
 ·refine .inl (h2 ρ H st xs vs Q E s rx ?_)
  have:yH xs st=qE xs st:=by
   unfold yH
   split
   ·rename_i n
    split
    ·rename_i ks ys e;exact absurd ⟨n,ks,ys,rfl,e⟩ hx
    ·rfl
   ·rfl
  rw [this] at h
  exact h
end
section
variable {α:Type} {env:zb} {st:aa} {fa:Ai}
def AV {n:Nat}{ks:Ad}{xs:An}(h:st[n]?=some (.dic ks xs)) (k:List Str->List PV->Res α):jm st n k=k ks xs:=by unfold jm;rw [h]
def bo {n:Nat}{xs:An}(h:st[n]?=some (.lst xs)):yH [.ref n] st=.ok (.int xs.length) st:=by
 simp only [yH,h]
 show yu st n _=_
 rw [yv h]
@[simp] def FW (xs:An):yH [.tup xs] st=.ok (.int xs.length) st:=(rfl)
@[simp] def RL (xs:An):yH [.frl xs] st=.ok (.int xs.length) st:=(rfl)
@[simp] def RM (src:zb->Mo Sq):AU src fa env st=(src env st).bind λq ae=>match vF q with|some xs=>if xs.length<=lim then lW fa env xs [] ae else .stuck|none=>.stuck:=(rfl)
end
end Mi
namespace L2
open PySem PySem.Spec PyProof.Rows PySem.W
section
variable {X:Cx}
def RN (hc:X.calm=true):bP X (.builtin "any") (λxs H Q=>∃(a:Addr) (bs:List Bool),xs=[.ref a]/\aZ X.K H a (bs.map V.bl)/\Q (.bl (bs.any id)) H):=by
 intro pins s U H xs us Q I r h
 obtain ⟨a,bs,rfl,hl,q⟩:=h
 obtain ⟨u,rfl,ru⟩:=wD r
 cases ru
 obtain ⟨its,rv,pl,hz⟩:=I.list hl
 have e:=xy rv
 subst e
 refine call_any_walk (wpAny_pyIter_list pl.isList ?_)
 have hh:X.A.in1.handled=none:=I.ok.hd hc
 have bz:a<s.heap.objs.size:=by
  obtain ⟨o,e,_⟩:=pl.isList
  exact yt e
 have xA:a≠s.heap.objs.size:=yO bz
 refine ⟨s.heap.objs.size,_,_,_,_,_,λi=>(bs[i]?).getD false,rfl,Walks.list hh s.heap.objs.size a xA (bs.map Value.bool).toArray,⟨⟨_,y4 _ rfl,rfl,rfl⟩,pl.isList.at λo e=>yp _ e⟩,?_,λh' tk kk=>?_⟩
 ·intro i v s' Q' E' hp hq
  have hp':(bs.map Value.bool)[i]?=some v:=by simpa using hp
  rw [y3] at hp'
  cases eb:bs[i]? with
  |none=>rw [eb] at hp';cases hp'
  |some b =>
   rw [eb] at hp'
   have:Value.bool b=v:=Option.some.inj hp'
   subst this
   refine oB ?_
   dsimp only at hq
   rw [eb] at hq
   exact hq
 ·have e1:(List.range (bs.map Value.bool).toArray.size).any (λi=>(bs[i]?).getD false)=bs.any id:=by
   rw [y9,jD]
   rw [Bool.eq_iff_iff,List.any_eq_true,List.any_eq_true]
   constructor
   ·rintro ⟨i,hi,hh⟩
    have i5:=oF.mp hi
    rw [yx i5] at hh
    exact ⟨_,pW i5,hh⟩
   ·rintro ⟨b,hb,hh⟩
    obtain ⟨i,hi,e⟩:=List.getElem_of_mem hb
    refine ⟨i,oF.mpr hi,?_⟩
    rw [yx hi,e]
    exact hh
  rw [e1]
  refine ⟨.bl (bs.any id),H,?_,rfl,q⟩
  exact I.kept (t':=tk) λb o e=>kk b o (λz=>by
   have z':b=s.heap.objs.size:=by simpa using z
   exact absurd (yt e) (by rw [z'];exact Nat.lt_irrefl _)) (yp _ e)
end
end L2
namespace Mi
open PySem L2 PySem.W PySem.Spec
section
variable {X:Cx}
def ri:Al:=λvs st=>(lU vs st).bind λn st=>yu st n λxs=>match cP xs with
 |some bs=>.ok (.bl (bs.any id)) st
 |none=>.stuck
def RO (hc:X.calm=true):cO X (.builtin "any") ri:=⟨_,RN hc,fun ρ H st xs vs Q E s r h=>by
 obtain ⟨n,ys,rfl,hn,h⟩:=uq h
 obtain ⟨fy,mF,h⟩:=jL h
 obtain ⟨v,rfl,rv⟩:=r.one
 obtain ⟨a,rfl,ha⟩:=rv
 obtain ⟨ws,hH,hR⟩:=s.addr mF ha
 cases hi:cP fy with
 |none=>simp only [hi] at h;exact h.elim
 |some bs =>
  simp only [hi] at h
  have e:=AQ hi hR
  subst e
  exact ⟨a,bs,rfl,aZ.of hH,Out.now (x:=PV.bl (bs.any id)) h s _ rfl⟩⟩
theorem RP:bootBuiltins "any" = some (.builtin "any"):=by decide +kernel
end
end Mi
namespace PySem
open Sem (wp)
def Lr.nolen:typeLookup (.type "list_reverseiterator") "__len__" = pure none:=by rw [typeLookup_type,builtinLookup_eq_fast];kernel_rfl
def Lr.hint:typeLookup (.type "list_reverseiterator") "__length_hint__" = pure (some (.builtin "list_reverseiterator.__length_hint__")):=by rw [typeLookup_type,builtinLookup_eq_fast];kernel_rfl
section
variable {prog:Program} {w:World} {A:Around} {s:Shared} {R:Result->Shared->Prop}
variable {I:Addr} {fp wr:Ae} {G:Array GenState->Array GenState->Prop} {n:Nat} {P:Nat->Value->Prop} {St:Nat->Shared->Prop}
theorem Lr.extend (W:WalksS prog w A.in1 I fp wr G n P St) (hT:∀i s,St i s->s.TypeIs (.ref I) "list_reverseiterator") (S:Addr) (res:Value) (aQ:Nat) (bD:St 0 s) (nE:S∉fp) (hI:I∈fp)
  (hS:s.heap.get? S=some { cls:=.type "list", data:=.seq #[] aQ })
  (hR:∀s' cZ c',Moved (S::wr) G s s'->s'.heap.get? S=some { cls:=.type "list", dict:=none,data:=.seq cZ c',slots:=#[] }->ItemsOf P cZ n->R (.ok (.ret res)) s') (hn:n<=sizeLine:=by size_fits) :
  wpAny (model prog w) A.in1 (Builtin.List.listExtendWith (.ref S) (.ref I) res)
   (λfin s'=>match fin with | .done f=>R (.ok f) s' | .again c'=>c'.quiet=true/\codeAny (model prog w) A c' R s') (λe s'=>R (.error e) s') s:=by
 have RQ:S≠I:=λe=>nE (e▸hI)
 unfold Builtin.List.listExtendWith
 refine zu (wpAny_typeOf (hT 0 _ bD) ?_)
 have h1:Builtin.List.listSameRef (.ref S) (.ref I)=false:=by simp [Builtin.List.listSameRef,RQ]
 rw [zI (by rw [h1];decide)]
 refine zu (W.self 0 _ _ _ bD ?_)
 refine zu (mD ?_)
 unfold Builtin.List.listLengthHint
 refine zu (wpAny_specialOf (hT 0 _ bD) Lr.nolen ?_)
 show wpAny _ A.in1 (specialOf (Value.ref I) (Str.ofString "__length_hint__") >>= _) _ _ _
 refine zu (wpAny_specialOf (hT 0 _ bD) Lr.hint ?_)
 generalize hid:("list_reverseiterator.__length_hint__" : String)=id0
 wp_delta
 rw [show splitId id0=some ("list_reverseiterator", "__length_hint__") from by subst hid;decide +kernel]
 subst hid
 refine zu (wpAny_isInstance (b:=true) (hT 0 _ bD) (by rw [isSubtype_type];kernel_rfl) ?_)
 refine ye ?_
 rw [zI (by decide)]
 refine ye ⟨plainId_quiet F.plain_extend_loop _,codeAny_extend_loopS W hn _ nE _ n 0 _ _ _ rfl (jJ _) bD hS (ItemsOf.nil P) λs' cZ c' hm rj fS=>?_⟩
 exact hR s' cZ c' hm rj fS
end
section
variable {prog:Program} {w:World} {A:Around} {s:Shared} {R:Result->Shared->Prop}
variable {I:Addr} {fp wr:Ae} {G:Array GenState->Array GenState->Prop} {n:Nat} {P:Nat->Value->Prop} {St:Nat->Shared->Prop}
theorem Lr.init (W:WalksS prog w A.in1 I fp wr G n P St) (hT:∀i s,St i s->s.TypeIs (.ref I) "list_reverseiterator") (S:Addr) (bD:St 0 s) (nE:S∉fp) (hI:I∈fp)
  (hS:s.heap.get? S=some { cls:=.type "list", data:=.seq #[] })
  (hR:∀s' cZ c',Moved (S::wr) G s s'->s'.heap.get? S=some { cls:=.type "list", dict:=none,data:=.seq cZ c',slots:=#[] }->ItemsOf P cZ n->R (.ok (.ret .none)) s') (hn:n<=sizeLine:=by size_fits) :
  wpAny (model prog w) A.in1 (Builtin.«list.__init__» ⟨[.ref S,.ref I],[]⟩)
   (λfin s'=>match fin with | .done f=>R (.ok f) s' | .again c'=>c'.quiet=true/\codeAny (model prog w) A c' R s') (λe s'=>R (.error e) s') s:=by
 show wpAny _ A.in1 (do let old <-Builtin.List.listItems (.ref S);Builtin.List.listUpdate (.ref S) (λ_=>#[]);letGo old.toList.reverse;Builtin.List.listExtendWith (.ref S) (.ref I) .none) _ _ s
 refine zu ?_
 unfold Builtin.List.listItems
 refine zu (wpAny_seqItems hS rfl (ye ?_))
 show wpAny _ A.in1 (updateSeq S (λ_=>#[]) >>= λ_=>letGo (#[]:Array Value).toList.reverse >>= λ_=>Builtin.List.listExtendWith (.ref S) (.ref I) .none) _ _ s
 refine zu (wpAny_updateSeq hS rfl ?_)
 have aM:=Heap.get?_update_self (Obj.mapSeq (λ_=>(#[]:Array Value))) hS rfl
 have mZ:∀b o,b≠S->s.heap.get? b=some o->(s.heap.update S (Obj.mapSeq (λ_=>(#[]:Array Value)))).get? b=some o :=
  λb o hb e=>(wL _ _ (yz hb)).trans e
 refine zu (wpAny_letGo ?_)
 refine Lr.extend (hn:=hn) W hT S .none _ (W.frame 0 s _ s.toks bD (yo _) λb hb o e=>mZ b o (λh=>nE (h▸hb)) e) nE hI aM λs' cZ c' hm rj fS=>?_
 exact hR s' cZ c' (Moved.trans W.gtrans ((Moved.refl W.grefl).then_heap (yo _) λb o hb e=>mZ b o (λh=>hb (h▸ja)) e) hm) rj fS
end
section
variable {prog:Program} {w:World} {A:Around} {E:Aa} {s:Shared}
variable {I:Addr} {fp wr:Ae} {G:Array GenState->Array GenState->Prop} {n:Nat} {P:Nat->Value->Prop} {St:Nat->Shared->Prop}
def Lr.call {Q:Aa} (W:WalksS prog w A.in1.in1 I fp wr G n P St) (hT:∀i s,St i s->s.TypeIs (.ref I) "list_reverseiterator") (bD:St 0 s) (RR:∀b∈fp,b<s.heap.objs.size) (hI:I∈fp)
  (hQ:∀s' cZ c',Moved (s.heap.objs.size::wr) G { s with heap:=s.heap.push { cls:=.type "list", data:=.seq #[] } } s' ->
   s'.heap.get? s.heap.objs.size=some { cls:=.type "list", dict:=none,data:=.seq cZ c',slots:=#[] }->ItemsOf P cZ n->Q (.ref s.heap.objs.size) s') (hn:n<=sizeLine:=by size_fits) :
  wpAny (model prog w) A (call (.type "list") [.ref I]) Q E s:=by
 have nE:s.heap.objs.size∉fp:=λhm=>Nat.lt_irrefl _ (RR _ hm)
 refine callType_codes (Q₁:=λobj ak=>obj=.ref s.heap.objs.size/\ak={ s with heap:=s.heap.push { cls:=.type "list", data:=.seq #[] } }) F.called_list (F.typeCall_list_1 _) F.entry_list_init
  (code_list_new _ ⟨rfl,rfl⟩) λobj ak ax=>?_
 obtain ⟨rfl,rfl⟩:=ax
 have hS:(s.heap.push { cls:=.type "list", data:=.seq #[] }).get? s.heap.objs.size=some { cls:=.type "list", data:=.seq #[] }:=y4 _ rfl
 refine ⟨⟨_,hS,rfl⟩,F.args_list_init_2 _ _,Lr.init (hn:=hn) W hT _ (W.frame 0 s _ s.toks bD (yo _) λb _ o e=>yp _ e) nE hI hS λs' cZ c' hm rj fS=>?_⟩
 exact ⟨rfl,hQ s' cZ c' hm rj fS⟩
end
end PySem
namespace Mi
open PySem L2 PySem.W PySem.Spec
section
variable {X:Cx}
def pf:Al
 |[.int i],st=>.ok (.int (if i<0 then -i else i)) st
 |_,_=>.stuck
def RS:cO X (.builtin "abs") pf:=⟨_,L5,fun ρ H st xs vs Q E s r h=>by
 unfold pf at h
 split at h
 ·rename_i bt i
  obtain ⟨v,rfl,r1⟩:=r.one
  cases r1
  exact ⟨i,rfl,Out.now (x:=PV.int (if i<0 then -i else i)) h s _ rfl⟩
 ·exact h.elim⟩
theorem RT:bootBuiltins "abs" = some (.builtin "abs"):=by decide +kernel
@[simp] def RU (i:Int) (st:aa):pf [.int i] st=.ok (.int (if i<0 then -i else i)) st:=(rfl)
end
end Mi
namespace L2
open PySem PySem.Spec PyProof.Rows PySem.W
section
variable {prog:Program} {w:World} {A:Around} {E:Aa} {s:Shared}
def RV {a:Addr}{vs:List (Key×Value)}{Q:Aa}(hd:s.heap.DictOf (aX prog w) a vs) (ha:(a==sysModules)=false) (hz:vs.length<=sizeLine)
  (h:∀h',h'.DictOf (aX prog w) s.heap.objs.size vs->(∀c o,s.heap.get? c=some o->h'.get? c=some o)->Q (.ref s.heap.objs.size) { s with heap:=h' }) :
  wpAny (model prog w) A (call (.type "dict") [.ref a]) Q E s:=by
 refine callType_codes (Q₁:=λobj ak=>obj=.ref s.heap.objs.size/\ak={ s with heap:=s.heap.push { cls:=.type "dict", data:=.dict #[] } }) F.kt_called_dict (F.kt_typeCall_dict_1 _) F.entry_dict_init (kt_code_dict_new _ ⟨rfl,rfl⟩) ?_
 rintro obj ak ⟨rfl,rfl⟩
 have rk:(s.heap.push { cls:=.type "dict", data:=.dict #[] }).DictOf (aX prog w) s.heap.objs.size []:=Heap.DictOf.new s.heap
 have up:∀c o,s.heap.get? c=some o->(s.heap.push { cls:=.type "dict", data:=.dict #[] }).get? c=some o:=λc o e=>yp _ e
 have cW:(s.heap.push { cls:=.type "dict", data:=.dict #[] }).DictOf (aX prog w) a vs:=hd.push _
 have lt:a<s.heap.objs.size:=let ⟨_,_,_,ho,_⟩:=hd;yt ho
 have ne:s.heap.objs.size≠a:=Nat.ne_of_gt lt
 have nd:(vs.map (·.1)).Nodup:=let ⟨_,_,_,_,_,_,_,_,hn⟩:=hd;hn
 refine ⟨rk.typeIs,F.args_dict_init_2 _ _,?_⟩
 unfold Builtin.«dict.__init__»
 refine zu ?_
 unfold Builtin.Dict.selfAndRest
 refine zu (wpAny_notOrdered_dict rk.typeIs ?_)
 show wpAny _ _ (pure (s.heap.objs.size,[Value.ref a])) _ _ _
 refine ye ?_
 show wpAny _ _ (Builtin.Dict.updateFrom "dict.__init__" s.heap.objs.size (.ref a) [] .none) _ _ _
 unfold Builtin.Dict.updateFrom
 refine zu (wpAny_typeOf cW.typeIs ?_)
 rw [zI (by decide)]
 refine zu ?_
 unfold Builtin.Dict.merge
 refine zu ?_
 unfold Builtin.Dict.readDirectly
 refine zu (wpAny_isInstance cW.typeIs isSubtype_dict_dict ?_)
 simp only [Bool.not_true,Bool.false_eq_true,if_false]
 refine zu (wpAny_specialOf cW.typeIs F.slot_dict_iter.lookup (ye ?_))
 simp only [beq_self_eq_true,if_true]
 refine zu (ye ?_)
 refine wpAny_mergeDict (hsz:=by simpa using hz) ne ha rk cW λh' h1 h2 RW=>?_
 rw [merged_nil_of_nodup vs nd] at h1
 show wpAny _ _ (Builtin.Dict.addKeywords s.heap.objs.size [] >>= _) _ _ _
 refine zu (ye (ye ?_))
 exact ⟨rfl,h h' h1 λc o e=>RW.extBut c o (yO (yt e)) (up c o e)⟩
end
def RX {X:Cx}:bP X (.type "dict") (λxs H Q=>∃(a:Addr) (kvs:List (Key×V)),xs=[.ref a]/\H a=some (.dK kvs)/\∀q,H q=none->Q (.ref q) (upd H q (.dK kvs))):=by
 intro pins s U H xs us Q I r h
 obtain ⟨a,kvs,rfl,hH,q⟩:=h
 obtain ⟨u,rfl,ru⟩:=wD r
 cases ru
 obtain ⟨hz,ha,vs,rel,dd⟩:=xC I.hok hH
 refine RV dd ha (by rw [<-rel.length];exact hz) λh' d2 keep=>⟨.ref s.heap.objs.size,_,I.laid (a:=s.heap.objs.size) (o:=.dK kvs) (t':=s.toks) keep (yo _) (DZ hz ?_ rel d2),rfl,q _ (I.hok.fresh (yo _))⟩
 exact beq_eq_false_iff_ne.mpr (yz (yO I.big))
end L2
namespace Mi
open PySem L2 PySem.W PySem.Spec
section
variable {X:Cx}
def nF:Al:=λxs st=>match xs with
 |[.ref n]=>jm st n λks xs=>.ok (.ref st.length) (st++[.dic ks xs])
 |_=>.stuck
def FX:cO X (.type "dict") nF:=⟨_,RX,fun ρ H st xs vs Q E s r h=>by
 unfold nF at h
 split at h
 ·rename_i n
  obtain ⟨ks,ys,hn,h⟩:=Ez h
  obtain ⟨v,rfl,rv⟩:=r.one
  obtain ⟨a,vs,rfl,ha,k1,k2,k3⟩:=R.refD s rv hn
  refine ⟨a,_,rfl,k1,λq hq=>?_⟩
  have ex:Ext ρ H (ρ++[q]) (upd H q (.dK (kz ks vs))):=Ext.push hq
  exact h (ρ++[q]) _ ex (s.push hq ⟨vs,yN,Rs.ext ex ys k2,k3⟩) _ ⟨q,rfl,by rw [<-s.len];simp⟩
 ·exact h.elim⟩
end
end Mi
namespace Mi
open PySem L2 PySem.W PySem.Spec
section
variable {X:Cx} {Er:XK} {pos:Pos}
def f6 (ft:Ak) (fe:Ai) (env:zb):List PV->Al
 |[],ys,st=>.ok (.ref st.length) (st++[.lst ys])
 |x::xs,ys,st=>(bE (ft (some x::env) st)).bind λb ae=>if b=true then (bE (fe (some x::env) ae)).bind λy au=>f6 ft fe env xs (ys++[y]) au else f6 ft fe env xs ys ae
def d0 (ft:Ak) (fe:Ai) (env:zb) (n:Nat):Nat->Nat->Al
 |0,_,_,_=>.stuck
 |m+1,i,ys,st=>yu st n λxs=>match xs[i]? with
  |none=>.ok (.ref st.length) (st++[.lst ys])
  |some x=>(bE (ft (some x::env) st)).bind λb ae=>if b=true then (bE (fe (some x::env) ae)).bind λy au=>d0 ft fe env n m (i+1) (ys++[y]) au else d0 ft fe env n m (i+1) ys ae
def ou (ft:Ak) (fe:Ai) (env:zb):Sq->Mo PV
 |.im xs,st=>if xs.length<=lim then f6 ft fe env xs [] st else .stuck
 |.rf n,st=>d0 ft fe env n (lim+1) 0 [] st
def rm (src:zb->Mo Sq) (ft:Ak) (fe:Ai):Ai:=λenv st=>(src env st).bind λq ae=>ou ft fe env q ae
theorem RY {src:zb->Mo Sq}{ft:Ak}{fe:Ai}(U:L2.St) (H:Hp) (Q:VK) (hh:tM X.K X.mg Er (rm src ft fe) U H Q):xb (FU X Er src) (wu 0) (nq X.K X.mg XN ft) (tM X.K X.mg XN fe) 1 U H Q:=by
 obtain ⟨env,st,ρ,re,rs,h⟩:=hh
 refine ⟨env,st,ρ,re,rs,h.then λar H0 q dC e0 s0 h0 J wk=>?_⟩
 cases q with
 |im xs =>
  obtain ⟨hl,h0⟩:=Out.ifp h0
  obtain ⟨w1,w2,w3⟩:=wk
  refine ⟨λi m ys H=>m=xs.length-i/\i<=xs.length/\ys.length<=i/\∃ps st ρ,Rs X.K X.mg ρ H ps ys/\bf X.K X.mg ρ H st/\Ext ar H0 ρ H/\Out X.K X.mg ρ H (f6 ft fe env (xs.drop i) ps st) (gV X.K X.mg Q) Er,⟨xs.length,by simp,jJ _,jJ _,[],dC,ar,rfl,s0,Ext.refl,h0⟩,?_⟩
  rintro i m ys H ⟨rfl,hi,hy,ps,st,ρ,cG,rs,ex,h⟩
  by_cases bz:i<xs.length
  ·refine .inr ⟨w1 i ρ H ex bz,jb (by omega),λv H' y=>?_⟩
   obtain ⟨x,hx,bH,s2,rx⟩:=w3 i ρ H st v H' ex rs bz y
   have hd:xs.drop i=x::xs.drop (i+1):=by
    rw [w9 bz]
    have:=(yD.mp hx).2
    rw [this]
   rw [hd] at h
   simp only [f6] at h
   have gk:a8 X.K X.mg ρ H' (some x::env) (some v::U):=(re.ext (e0.trans (ex.trans bH))).cons rx
   refine ⟨[some v],rfl,rfl,some x::env,st,ρ,gk,s2,jM (Out.ext h bH) λam H3 b aY e3 s3 h3=>?_⟩
   cases b with
   |true=>exact ⟨_,aY,am,gk.ext e3,s3,jM h3 λaB H4 y dn e4 s4 h4 v4 r4=>⟨xs.length-(i+1),by omega,rfl,bz,by simp;omega,ps++[y],dn,aB,Rs.snoc r4 (Rs.ext ((bH.trans e3).trans e4) ps cG),s4,((ex.trans bH).trans e3).trans e4,h4⟩⟩
   |false=>exact ⟨xs.length-(i+1),by omega,rfl,bz,by omega,ps,aY,am,Rs.ext (bH.trans e3) ps cG,s3,(ex.trans bH).trans e3,h3⟩
  ·have e:i=xs.length:=by omega
   subst e
   rw [List.drop_length] at h
   exact .inl ⟨w2 _ ρ H ex (yo _),jb (by omega),λl hl=>Out.newList h rs cG hl⟩
 |rf n =>
  obtain ⟨a,ha,rfl⟩:=wk
  refine ⟨λi m ys H=>m+i=lim+1/\ys.length<=i/\∃ps st ρ,Rs X.K X.mg ρ H ps ys/\bf X.K X.mg ρ H st/\Ext ar H0 ρ H/\ρ[n]?=some a/\Out X.K X.mg ρ H (d0 ft fe env n m i ps st) (gV X.K X.mg Q) Er,⟨lim+1,rfl,jJ _,[],dC,ar,rfl,s0,Ext.refl,ha,h0⟩,?_⟩
  rintro i m ys H ⟨hm,hy,ps,st,ρ,cG,rs,ex,ha,h⟩
  cases m with
  |zero=>exact h.elim
  |succ m =>
   obtain ⟨xs,hn,h⟩:=jL h
   obtain ⟨vs,hH,hR⟩:=rs.addr hn ha
   cases hx:xs[i]? with
   |none =>
    simp only [hx] at h
    have:vs.length<=i:=by rw [<-hR.len];exact mE.mp hx
    exact .inl ⟨⟨vs,aZ.of hH,this⟩,jb (by omega),λl hl=>Out.newList h rs cG hl⟩
   |some x =>
    simp only [hx] at h
    obtain ⟨v,hv,rv⟩:=hR.get hx
    refine .inr ⟨⟨vs,v,aZ.of hH,hv⟩,jb (by omega),λv' H' y=>?_⟩
    obtain ⟨e1,y⟩:=y
    subst e1
    have e2:=y vs (aZ.of hH)
    rw [hv] at e2
    cases e2
    have gk:a8 X.K X.mg ρ H' (some x::env) (some v::U):=(re.ext (e0.trans ex)).cons rv
    refine ⟨[some v],rfl,rfl,some x::env,st,ρ,gk,rs,jM h λam H3 b aY e3 s3 h3=>?_⟩
    cases b with
    |true=>exact ⟨_,aY,am,gk.ext e3,s3,jM h3 λaB H4 y dn e4 s4 h4 v4 r4=>⟨m,jW m,by omega,by simp;omega,ps++[y],dn,aB,Rs.snoc r4 (Rs.ext (e3.trans e4) ps cG),s4,(ex.trans e3).trans e4,e4.get (e3.get ha),h4⟩⟩
    |false=>exact ⟨m,jW m,by omega,by omega,ps,aY,am,Rs.ext e3 ps cG,s3,ex.trans e3,e3.get ha,h3⟩
def RZ {elt iter c:Expr} {x:Str} {px:Pos} {scope:Scope} {src:zb->Mo Sq} {ft:Ak} {fe:Ai} {N:Ad} (hc:X.calm=true) (S:di X.env.scope scope [x]) (eN:X.N=N) (cD:((".0" : Str)::([x]++N)).Nodup)
  (hi:MI X Er (.Name x px) iter src) (iZ:∀cl C af ah fp,MT (fj X scope cl [x] C af ah fp (λ_ _=>False)) XN c ft) (he:∀cl C af ah fp,ME (fj X scope cl [x] C af ah fp (λ_ _=>False)) XN elt fe)
  (hx:scope.names.lookup x=some .local:=by rfl) (hs:∀v,foldedSetIterable iter X.env v=pure v:=by intro _;rfl):ME X Er (.ListComp elt [⟨.Name x px,iter,[c],0⟩] scope pos) (rm src ft fe):=by
 have hN:([x]++X.N).Nodup:=by rw [eN];exact (wt.mp cD).2
 have gf:∀cl C af ah fp E,PG (fj X scope cl [x] C af ah fp E) (.Name x px) (wu 0):=λcl C af ah fp E=>wN (X:=fj X scope cl [x] C af ah fp E) (i:=0) hN rfl (.inl (jV hx)) (.inr (jV hx))
 exact PE.weak (xw (te:=tM X.K X.mg XN fe) (tt:=nq X.K X.mg XN ft) hc S eN cD hi gf (λcl C af ah fp=>w_ (iZ cl C af ah fp)) (λcl C af ah fp=>he cl C af ah fp) hs) λU H Q hh=>RY U H Q hh
@[simp] def R4 {src:zb->Mo Sq}{ft:Ak}{fe:Ai}(env:zb) (st:aa):rm src ft fe env st=(src env st).bind λq ae=>ou ft fe env q ae:=(rfl)
end
end Mi
namespace Mi
open PySem L2 PySem.W PySem.Spec
def R5 {K:Frag}{mg:Ab}{ρ:Ae}{H:Hp}:∀{xs:An}{zs:Ad}{vs:List V},strsOf xs=some zs->Rs K mg ρ H xs vs->vs=zs.map V.str:=λ{xs zs vs} h r=>by
 have:=FH h r
 rw [this]
 simp [kV,List.map_map,Function.comp_def]
end Mi
namespace Mi
open PySem L2 PySem.W
section
variable {g g':Aj} {f fa fb:Ai} {fs:Ah} {t ta tb:Ak} {e e1:zb} {st s1 s2 s3:aa} {x y v:PV} {xs:An} {b:Bool}
def zp {X:Res Fl}(h:g e st=.ok (.nx e1) s1) (h':g' e1 s1=X):zt g g' e st=X:=by rw [Ay,h,zH,QM,h']
def yJ (h:g e st=.ok (.rt v) s1):zt g g' e st=.ok (.rt v) s1:=by rw [Ay,h,zH,QN]
def zP {i:Nat}(h:f e st=.ok v s1):zQ i f e st=.ok (.nx (e.set i (some v))) s1:=by rw [QO,h,zH]
def wI (h:f e st=.ok v s1):je f e st=.ok (.nx e) s1:=by rw [Fj,h,zH]
def zT (h:f e st=.ok v s1):zJ f e st=.ok (.rt v) s1:=by rw [Fn,h,zH]
def yB {X:Res Fl}(h:t e st=.ok true s1) (h':g e s1=X):zW t g g' e st=X:=by rw [Fo,h,zH,zw rfl,h']
def nG {X:Res Fl}(h:t e st=.ok false s1) (h':g' e s1=X):zW t g g' e st=X:=by rw [Fo,h,zH,zI (by simp),h']
def zV (h:t e st=.ok false s1):zW t g z0 e st=.ok (.nx e) s1:=nG h (QL ..)
def zc {i:Nat}(h:e[i]?=some (some v)):za i e st=.ok v st:=by rw [Qv,h]
def zj {op:Am}{X:Res PV}(h:fa e st=.ok x s1) (h':fb e s1=.ok y s2) (h2:op x y s2=X):zf op fa fb e st=X:=by rw [Qw,h,zH,h',zH,h2]
def yX {op:PV->Mo PV}{X:Res PV}(h:fa e st=.ok x s1) (h2:op x s1=X):yq op fa e st=X:=by rw [Qx,h,zH,h2]
def zy {m:Al}{X:Res PV}(h:fs e st=.ok xs s1) (h2:m xs s1=X):zq m fs e st=X:=by rw [QG,h,zH,h2]
def uw (h:f e st=.ok x s1) (h':fs e s1=.ok xs s2):zd f fs e st=.ok (x::xs) s2:=by rw [QA,h,zH,h',zH]
def jO:zh e st=.ok [] st:=(rfl)
def zF (h:f e st=.ok x s1):zd f zh e st=.ok [x] s1:=uw h jO
def zR (h:f e st=.ok x s1) (h':fa e s1=.ok y s2):zd f (zd fa zh) e st=.ok [x,y] s2:=uw h (zF h')
def ya (h:fs e st=.ok xs s1) (hl:xs.length<=1000000):zU fs e st=.ok (.tup xs) s1:=by rw [QB,h,zH,zw hl]
def wJ (h:fs e st=.ok xs s1) (hl:xs.length<=1000000):jA fs e st=.ok (.ref s1.length) (s1++[.lst xs]):=by rw [QC,h,zH,zw hl]
def zM (h:f e st=.ok (.bl b) s1):mB f e st=.ok b s1:=by rw [Qy,h,zH,Ax]
def wQ (h:ta e st=.ok false s1):j0 ta tb e st=.ok false s1:=by rw [Ff,h,zH,zI (by simp)]
def ky (h:ta e st=.ok true s1) (h':tb e s1=.ok b s2):j0 ta tb e st=.ok b s2:=by rw [Ff,h,zH,zw rfl,h']
def R6 (h:ta e st=.ok true s1):j_ ta tb e st=.ok true s1:=by rw [Fg,h,zH,zw rfl]
def FY (h:ta e st=.ok false s1) (h':tb e s1=.ok b s2):j_ ta tb e st=.ok b s2:=by rw [Fg,h,zH,zI (by simp),h']
def ph (h:ta e st=.ok b s1):ka ta e st=.ok (!b) s1:=by rw [Qz,h,zH]
def FZ {X:Res PV}(h:fa e st=.ok (.bl true) s1) (h':fb e s1=X):lD fa fb e st=X:=by rw [Fh,h,zH,Ax,zH,zw rfl,h']
def F0 {lo hi:Option Int}{fl fu:zb->Mo (Option Int)}{X:Res PV}(h:fa e st=.ok x s1) (hl:fl e s1=.ok lo s2) (hu:fu e s2=.ok hi s3) (h':qD x lo hi s3=X):kg fa fl fu e st=X:=by rw [QD,h,zH,hl,zH,hu,zH,h']
def AW {i:Int}(h:f e st=.ok (.int i) s1):dc f e st=.ok (some i) s1:=by rw [QE,h,zH,QF]
def R7:gQ e st=.ok none st:=(rfl)
def wZ {op:Am}{n:Nat}{ys:An}{X:Res PV}(h:fa e st=.ok (.ref n) s1) (hl:s1[n]?=some (.lst ys)) (h':fb e s1=.ok y s2) (h2:op (.ref n) y s2=X):jr op fa fb e st=X:=by
 rw [QV,h,zH,QW]
 simp only [yu,hl,zH]
 rw [h',zH,h2]
def kA (i j:Int):yG (.int i) (.int j) st=.ok (.int (i+j)) st:=(rfl)
def ro (i j:Int):lF (.int i) (.int j) st=.ok (.int (i-j)) st:=(rfl)
def AX (i j:Int) (h:j≠0):yF (.int i) (.int j) st=.ok (.int (jG i j)) st:=by show (if _ then _ else _)=_;rw [zw (by simpa using h)]
def iC (i j:Int) (h:j≠0) (h2:j.natAbs<2 ^ 200):jh (.int i) (.int j) st=.ok (.int (y0 i j)) st:=by
 show (if _ then _ else _)=_
 rw [zw]
 simp only [tU,jZ,iS]
 exact ⟨h,h2⟩
def R8 (i j:Int):jX (.int i) (.int j) st=.ok (.bl (decide (i<j))) st:=(rfl)
def R9 (i j:Int):nr (.int i) (.int j) st=.ok (.bl (decide (j<i))) st:=(rfl)
def rq (i j:Int):zZ (.int i) (.int j) st=.ok (.bl (decide (i=j))) st:=by simp [Mi.plain,dep,bu];rfl
def R_ (i j:Int):j9 (.int i) (.int j) st=.ok (.bl (!decide (i=j))) st:=by simp [Mi.plain,dep,bu];rfl
def Sb (i j:Str):zZ (.str i) (.str j) st=.ok (.bl (decide (i=j))) st:=by simp [Mi.plain,dep,bu];rfl
def F7 (i j:Str):j9 (.str i) (.str j) st=.ok (.bl (!decide (i=j))) st:=by simp [Mi.plain,dep,bu];rfl
def nH (i j:Int) (h:cY i j=true):wB (.int i) (.int j) st=.ok (.int (i*j)) st:=by rw [Rn,zw h]
def zX {m:Nat}{n:Nat}{r:aa}(hl:xs.length=m) (h:g (xs.map some++List.replicate (n-m) none) st=.ok (.rt v) r):zK m n g xs st=.ok v r:=by
 unfold zK
 rw [zw hl,h,zH,QQ]
end
end Mi
namespace Mi
open PySem L2 PySem.W PySem.Spec
def F9:Expr->Bool
 |.Starred _ _=>false
 |_=>true
def Sd {e:Expr}{es:List Expr}{env:Env}(h:F9 e=true):FG e es env:=by cases e<;>first|rfl|cases h
def zg {X:Cx}{Er:XK}{e:Expr}{es:List Expr}{fa:Ai}{fs:Ah}(ha:ME X Er e fa) (hr:MA X Er es fs) (hs:F9 e=true:=by rfl):MA X Er (e::es) (zd fa fs):=Ex ha hr (Sd hs)
section
variable {X:Cx} {Er:XK} {e o:Expr} {apos a0:Pos} {fo fa:Ai} {x:Str} {h:Heap}
def Sf:Am
 |.str z,.ref n,st=>yu st n λxs=>match strsOf xs with
  |some ys=>if (ys.map (·.length)).sum+ys.length*z.length<=1000000 then .ok (.str (Txt.join z ys)) st else .stuck
  |none=>.stuck
 |_,_,_=>.stuck
def ux (fo fa:Ai):Ai:=λenv st=>(fo env st).bind λo ae=>match o with
 |.str z=>(fa env ae).bind λy au=>Sf (.str z) y au
 |_=>.stuck
theorem zsg (ho:ME X Er o fo) (he:ME X Er e fa) (cU:attributeBase o "join" X.env (eval o X.env)=eval o X.env:=by rfl)
  (gJ:((backTo a0 (starEach [e] X.env)).all (λx=>!x.1)&&(backToKw a0 (keywordEach [] X.env)).all (λx=>x.1.isSome)&&decide ([e].length+([]:List Keyword).length+(if ([]:List Keyword).isEmpty then 0 else 1)<30))=true:=by rfl)
  (fI:(apos.endLine==a0.line)=true:=by rfl) (hs:starEach [e] X.env=(false,eval e X.env)::starEach [] X.env:=by rfl) (br:(backTo a0 (starEach [] X.env)).any (·.1)=false:=by rfl):ME X Er (.Call (.Attribute o "join" apos) [e] [] a0) (ux fo fa) :=
 PE.weak (vY PySem.F.plainAttrs_str PySem.F.slot_str_join PySem.F.type_str_join NP ho (tm he tj hs) cU gJ fI hs br) λU H Q ⟨env,st,ρ,re,rs,h⟩=>⟨env,st,ρ,re,rs,h.then λag H1 x ae e1 s1 h1 v rv=>by
  cases x with
  |str z =>
   cases rv
   refine ⟨rfl,env,ae,ag,re.ext e1,s1,h1.then λao H2 y au e2 s2 h2 w dX=>?_⟩
   cases y with
   |ref n =>
    obtain ⟨p,rfl,hp⟩:=dX
    obtain ⟨xs,hn,h3⟩:=jL h2
    cases hq:strsOf xs with
    |none=>simp only [hq] at h3;exact h3.elim
    |some ys =>
     simp only [hq] at h3
     obtain ⟨hl,h4⟩:=Out.ifp h3
     obtain ⟨vs,hH,hR⟩:=s2.addr hn hp
     rw [R5 hq hR] at hH
     exact ⟨z,p,ys,rfl,rfl,.inl (.inl hH),by omega,Out.now (x:=PV.str (Txt.join z ys)) h4 s2 _ rfl⟩
   |_=>exact h2.elim
  |_=>exact h1.elim⟩
end
end Mi
namespace L2
open PySem PySem.Spec PyProof.Rows PySem.W
structure Si (K:Frag) (C B:Addr):Prop where
 of:fW K C
 sub:mroIn K C (.ref B)=some true
end L2
namespace Mi
open PySem L2 PySem.W PySem.Spec
def kC (C:Str) (m:Al) (c:Str):Option (Al):=if c=C then some m else none
def AZ {P:Program}{w:World}{K:Frag}{mg:Ab}{base:Heap}{C n:Str}{k:Nat}{m m':Al}{c:Str}(ok:b_ P w K mg base C n k m) (h:kC C m c=some m'):b_ P w K mg base c n k m':=by
 unfold kC at h
 by_cases e:c=C
 ·rw [zw e] at h;cases h;rw [e];exact ok
 ·rw [zI e] at h;cases h
end Mi
namespace L2
open PySem PySem.Spec PyProof.Rows PySem.W Mi
section
variable {X:Cx} {pins:Ac} {U:St} {H H':Hp} {s:Shared} {a b:Addr} {its:List (List Key×Addr×Value)} {k:List Key} {A:Around} {E:Aa} {r:Value}
abbrev gX (K:Frag) (H:Hp) (its:List (List Key×Addr×Value)):Prop:=∀x,x∈its->ba K H x.2.1 (x.1.map kV)
def rz (I:Inv X pins U H s) (h:ba X.K H b (k.map kV)):(tupleKind (aX X.prog X.w)).is s.heap k b:=by
 obtain ⟨us,r,⟨o,h1,h2,n,h3⟩,_⟩:=I.tuple h
 exact ⟨o,us.toArray,n,h1,h2,h3,by simpa using xB r⟩
def rA (I:Inv X pins U H s) (e:H a=some (dE a its)) (ks:gX X.K H its):its.length<=sizeLine/\(a==sysModules)=false/\s.heap.DictOfH (tupleKind (aX X.prog X.w)) a its:=by
 obtain ⟨⟨z,y,o,es,ep,h1,h2,h3,h4,h5⟩,_⟩:=(show aW X.prog X.w H s.heap a (dE a its) from I.hok a _ e)
 exact ⟨z,y,o,es,ep,h1,h2,h3,h4,λx hx=>rz I (ks x hx),h5⟩
def Sj {p:Addr×Value}{Q:Aa}(hu:A.units+1<cLine) (I:Inv X pins U H s) (e:H a=some (dE a its)) (ks:gX X.K H its) (kb:ba X.K H b (k.map kV)) (hp:atKey its k=some p)
  (h:∀s',Inv X pins U H s'->Q p.2 s'):wpAny (model X.prog X.w) A (getItem (.ref a) (.ref b)) Q E s:=by
 obtain ⟨z,hd,dd⟩:=rA I e ks
 exact wpAny_getItem_heap (tupleKind_room_in1 hu) (rz I kb) dd hp (h _ (I.tok _))
def Sk {Q:Aa}(hu:A.units+1<cLine) (I:Inv X pins U H s) (e:H a=some (dE a its)) (ks:gX X.K H its) (kb:ba X.K H b (k.map kV))
  (h:∀s',Inv X pins U H s'->Q (.bool (atKey its k).isSome) s'):wpAny (model X.prog X.w) A (compareOp .In (.ref b) (.ref a)) Q E s:=by
 obtain ⟨z,hd,dd⟩:=rA I e ks
 exact wpAny_in_heap (tupleKind_room_in1 hu) (rz I kb) hd dd (h _ (I.tok _))
def Sl {Q:Aa}(hu:A.units+1<cLine) (I:Inv X pins U H s) (e:H a=some (dE a its)) (ks:gX X.K H its) (kb:ba X.K H b (k.map kV))
  (h:∀s',Inv X pins U H s'->Q (.bool (!(atKey its k).isSome)) s'):wpAny (model X.prog X.w) A (compareOp .NotIn (.ref b) (.ref a)) Q E s:=by
 obtain ⟨z,hd,dd⟩:=rA I e ks
 exact wpAny_notIn_heap (tupleKind_room_in1 hu) (rz I kb) hd dd (h _ (I.tok _))
theorem Sm (its:List (List Key×Addr×Value)) (k:List Key) (b:Addr) (r:Value):(storedH its k b r).length<=its.length+1:=by
 unfold storedH
 split
 ·rw [jD];omega
 ·simp
def F_ {P:Program}{w:World}{H:Hp}{h:Heap}{q:Obj}{es:Array DictEntry}{ep:Nat}(z:its.length<=sizeLine) (hd:(a==sysModules)=false) (hq:h.get? a=some q) (h2:q.ExactDict) (h3:q.data=.dict es ep)
  (h4:es.toList=its.map (entryOfKey (tupleKind (aX P w)))) (h5:(its.map (·.1)).Nodup):aW P w H h a (dE a its) :=
 ⟨⟨z,hd,q,es,ep,hq,h2,h3,h4,h5⟩,⟨q,hq⟩,λh1 h2 ⟨z,y,o,es,ep,e,r⟩ k=>⟨z,y,o,es,ep,k _ e,r⟩⟩
theorem Sn {Q:Unit->Shared->Prop}(hu:A.units+1<cLine) (I:Inv X pins U H s) (e:H a=some (dE a its)) (ks:gX X.K H its) (kb:ba X.K H b (k.map kV)) (l:its.length<sizeLine)
  (h:∀s',Inv X pins U (upd H a (dE a (storedH its k b r))) s'->Q () s'):wpAny (model X.prog X.w) A (setItem (.ref a) (.ref b) r) Q E s:=by
 obtain ⟨z,hd,dd⟩:=rA I e ks
 refine wpAny_setItem_heap (hsz:=z) (tupleKind_room_in1 hu) (rz I kb) dd λh' mY hs=>h _ ?_
 obtain ⟨q,es,ep,hq,h2,h3,h4,_,h5⟩:=mY
 exact xD I (by rw [e];exact True.intro) hs ⟨q,hq⟩ (F_ (by have:=Sm its k b r;omega) hd hq h2 h3 h4 h5)
def Inv.turnE (I:Inv X pins U H s) (ha:H a=some (.dK [])):Inv X pins U (upd H a (dE a [])) s:=by
 obtain ⟨z,hd,vs,rel,o,es,ep,h1,h2,h3,h4,h6,h5⟩:=xC I.hok ha
 cases rel
 have hz:es.toList=[]:=by
  have:=h6.length
  exact List.length_eq_zero_iff.mp this
 exact I.un (h':=s.heap) (t':=s.toks) (Un.write (e:=a) (by rw [ha];trivial) (.inl rfl) (λb u _ q=>q) ⟨o,h1⟩) (cu.write (e:=a) I.hok (by rw [ha];trivial) (.inl rfl) (λb u _ q=>q) ⟨o,h1⟩ (F_ (jJ _) hd h1 h2 h3 hz List.nodup_nil))
def gm (H:Hp) (a:Addr) (H':Hp) (its:List (List Key×Addr×Value)):Prop:=(H'=H/\H a=some (dE a its))\/(H a=some (.dK [])/\its=[]/\H'=upd H a (dE a []))
def gm.inv (t:gm H a H' its) (I:Inv X pins U H s):Inv X pins U H' s/\H' a=some (dE a its):=by
 rcases t with ⟨rfl,e⟩|⟨e,rfl,rfl⟩
 ·exact ⟨I,e⟩
 ·exact ⟨I.turnE e,yN⟩
def A0 (K:Frag) (neg:Bool):R2:=λx y H Q=>∃a b k its H',x=.ref b/\y=.ref a/\gm H a H' its/\gX K H' its/\ba K H' b (k.map kV)/\Q (.bl (neg.xor (atKey its k).isSome)) H'
def So (hu:X.A.units+200<cLine):bh X (compareOp .In) (A0 X.K false):=by
 intro pins s U H x y v u Q I rx ry ⟨a,b,k,its,H',ex,ey,t,ks,kb,q⟩
 subst ex ey
 obtain rfl:v=Value.ref b:=rx
 obtain rfl:u=Value.ref a:=ry
 obtain ⟨I',e⟩:=t.inv I
 exact Sk (by omega) I' e ks kb λs' I2=>⟨.bl (atKey its k).isSome,H',I2,rfl,by simpa using q⟩
def Sr (hu:X.A.units+200<cLine):bh X (compareOp .NotIn) (A0 X.K true):=by
 intro pins s U H x y v u Q I rx ry ⟨a,b,k,its,H',ex,ey,t,ks,kb,q⟩
 subst ex ey
 obtain rfl:v=Value.ref b:=rx
 obtain rfl:u=Value.ref a:=ry
 obtain ⟨I',e⟩:=t.inv I
 exact Sl (by omega) I' e ks kb λs' I2=>⟨.bl (!(atKey its k).isSome),H',I2,rfl,by simpa using q⟩
def Ss (K:Frag):R2:=λx y H Q=>∃a b k its H' p v,x=.ref a/\y=.ref b/\gm H a H' its/\gX K H' its/\ba K H' b (k.map kV)/\atKey its k=some p/\RelV v p.2/\Q v H'
def Su (hu:X.A.units+1<cLine):fR X (Ss X.K):=by
 intro value slice pins s U H x y v u Q I rx ry ⟨a,b,k,its,H',p,w,ex,ey,t,ks,kb,hp,rp,q⟩ hs
 subst ex ey
 obtain rfl:v=Value.ref a:=rx
 obtain rfl:u=Value.ref b:=ry
 obtain ⟨I',e⟩:=t.inv I
 obtain ⟨_,_,dd⟩:=rA I' e ks
 exact PyProof.Rows.tail_any dd.typeIs PySem.F.slot_dict_getitem.lookup (Sj hu I' e ks kb hp λs' I2=>⟨w,H',I2,rp,q⟩) hs
def Sv (K:Frag) (td ty tv:TE):TS:=λD U H=>tv U H λv H1=>td U H1 λx H2=>ty U H2 λy H3=>(∃a H4,x=.ref a/\eh H3 a y v H4/\D.nx U H4) \/
 ∃a b k its H4,x=.ref a/\y=.ref b/\gm H3 a H4 its/\gX K H4 its/\ba K H4 b (k.map kV)/\its.length<sizeLine/\∀u,RelV v u->D.nx U (upd H4 a (dE a (storedH its k b u)))
def Sw {o i value:Expr}{pos pos':Pos}{td ty tv:TE}(hu:X.A.units+1<cLine) (ho:PE X o td) (hi:PE X i ty) (hv:PE X value tv) (hs:swapsWith value (some (.Subscript o i pos')) pos.line X.env=pure false) :
  PS X (.Assign [.Subscript o i pos'] value pos) (Sv X.K td ty tv):=by
 intro pins s U H D I h
 refine wpAny_Assign_Subscript (aS (hv pins s U H _ I h) λr s1 ⟨v,H1,I1,rv,q1⟩=>aS (ho pins s1 U H1 _ I1 q1) λu s2 ⟨x,H2,I2,rx,q2⟩=>aS (hi pins s2 U H2 _ I2 q2) λiv s3 ⟨y,H3,I3,ry,q3⟩=>?_) hs
 rcases q3 with ⟨a,H4,ex,g,q3⟩|⟨a,b,k,its,H4,ex,ey,t,ks,kb,l,q3⟩
 ·subst ex
  obtain rfl:u=Value.ref a:=rx
  exact xE hu I3 g ry rv λs4 I4=>⟨U,H4,I4,q3⟩
 ·subst ex ey
  obtain rfl:u=Value.ref a:=rx
  obtain rfl:iv=Value.ref b:=ry
  obtain ⟨I',e⟩:=t.inv I3
  exact Sn hu I' e ks kb l λs4 I4=>⟨U,_,I4,q3 r rv⟩
end
end L2
namespace Mi
open PySem L2 PySem.W PySem.Spec
section
variable {X:Cx} {K:Frag} {mg:Ab} {ρ:Ae} {H:Hp} {st:aa}
def Ga:PV->Option Key
 |.int i=>some (.inl i)
 |.str z=>some (.inr z)
 |_=>none
def c_:List PV->Option (List Key)
 |[]=>some []
 |x::r=>match Ga x,c_ r with
  |some k,some l=>some (k::l)
  |_,_=>none
theorem uz:∀{xs:An}{vs:List V}{k:List Key},Rs K mg ρ H xs vs->c_ xs=some k->vs=k.map kV
 |[],vs,k,r,h=>by cases h;cases r;rfl
 |x::xs,vs,k,r,h=>by
  obtain ⟨v,ws,rfl,h1,h2⟩:=r
  unfold c_ at h
  split at h
  ·rename_i k0 l hk hl
   cases h
   rw [uz h2 hl,yK]
   congr 1
   cases x with
   |int i=>cases hk;exact h1
   |str z=>cases hk;exact h1
   |_=>cases hk
  ·cases h
def cj:Option SO->Option (List (List Key)×List PV)
 |some (.dit ks xs)=>some (ks,xs)
 |some (.dic [] [])=>some ([],[])
 |_=>none
def A4 {n:Nat}{a:Addr}{ks:Ag}{xs:An}(s:bf K mg ρ H st) (ha:ρ[n]?=some a) (h:cj st[n]?=some (ks,xs)) :
  ∃H' its vs,gm H a H' its/\Ext ρ H ρ H'/\bf K mg ρ H' (st.set n (.dit ks xs))/\its.map (·.1)=ks/\gX K H' its/\Vals vs (its.map (·.2.2))/\Rs K mg ρ H' xs vs:=by
 unfold cj at h
 split at h
 ·rename_i gy fy e
  cases h
  obtain ⟨its,vs,h1,h2,h3,h4,h5⟩:=s.addr e ha
  refine ⟨H,its,vs,.inl ⟨rfl,h1⟩,Ext.refl,?_,h2,h3,h4,h5⟩
  have:st.set n (.dit ks xs)=st:=by
   obtain ⟨hl,he⟩:=yD.mp e
   rw [<-he,List.set_getElem_self]
  rw [this];exact s
 ·rename_i e
  cases h
  obtain ⟨vs,h1,h2,h3⟩:=s.addr e ha
  cases h2
  have ew:Ext ρ H ρ (upd H a (dE a [])):=Ext.write h1 rfl
  exact ⟨_,[],[],.inr ⟨h1,rfl,rfl⟩,ew,s.write ha ew ⟨[],[],yN,rfl,(λx hx=>nomatch hx),.nil,rfl⟩,rfl,(λx hx=>nomatch hx),.nil,rfl⟩
 ·cases h
def cw (k:List Key) (ks:Ag):Bool:=ks.any λz=>decide (z=k)
def A5 {k:List Key}{ks:Ag}:cw k ks=true↔k∈ks:=by
 unfold cw
 rw [List.any_eq_true]
 exact ⟨λ⟨x,h,e⟩=>(of_decide_eq_true e)▸h,λh=>⟨k,h,jk rfl⟩⟩
theorem A6 {k:List Key}:∀{its:List (List Key×Addr×Value)},(atKey its k).isSome=cw k (its.map (·.1))
 |[]=>rfl
 |x::r=>by
  have ih:=A6 (k:=k) (its:=r)
  unfold atKey at ih ⊢
  rw [List.find?_cons,yK,show cw k (x.1::r.map (·.1))=(decide (x.1=k)||cw k (r.map (·.1))) from rfl]
  by_cases h:x.1=k
  ·rw [jk h];rfl
  ·rw [yP h];exact ih
def iD {α:Type}(k:List Key):List (List Key)->List α->Option α
 |z::zs,x::xs=>if z=k then some x else iD k zs xs
 |_,_=>none
theorem Gb {k:List Key}{q:PV}:∀{its:List (List Key×Addr×Value)}{vs:List V}{xs:An},Vals vs (its.map (·.2.2))->Rs K mg ρ H xs vs->iD k (its.map (·.1)) xs=some q->∃p v,atKey its k=some p/\RelV v p.2/\R K mg ρ H q v
 |[],_,xs,_,_,h=>by cases xs<;>cases h
 |x::r,_,[],hv,hr,h=>by cases h
 |x::r,vs,y::ys,hv,hr,h=>by
  obtain ⟨v,ws,rfl,h1,h2⟩:=hr
  rw [yK] at hv
  cases hv with
  |cons g t =>
   rw [yK] at h
   unfold iD at h
   unfold atKey
   rw [List.find?_cons]
   by_cases e:x.1=k
   ·rw [zw e] at h
    cases h
    rw [jk e]
    exact ⟨x.2,v,rfl,g,h1⟩
   ·rw [zI e] at h
    obtain ⟨p,v',a1,a2,a3⟩:=Gb t h2 h
    rw [yP e]
    exact ⟨p,v',a1,a2,a3⟩
def cQ (old:Am) (neg:Bool) (x y:PV):Mo PV:=λst=>match x,y with
 |.tup zs,.ref n=>match c_ zs,cj st[n]? with
  |some k,some (ks,xs)=>.ok (.bl (neg.xor (cw k ks))) (st.set n (.dit ks xs))
  |_,_=>old x y st
 |_,_=>old x y st
def Sx {old:Am}{neg:Bool}{x y:PV}:cQ old neg x y st=old x y st\/∃zs n k ks xs,x=.tup zs/\y=.ref n/\c_ zs=some k/\cj st[n]?=some (ks,xs)/\cQ old neg x y st=.ok (.bl (neg.xor (cw k ks))) (st.set n (.dit ks xs)):=by
 unfold cQ
 split
 ·rename_i zs n
  cases h1:c_ zs with
  |none=>exact .inl rfl
  |some k =>
   cases h2:cj st[n]? with
   |none=>exact .inl rfl
   |some p=>exact .inr ⟨zs,n,k,p.1,p.2,rfl,rfl,h1,h2,rfl⟩
 ·exact .inl rfl
def Gd {r:R2}{old:Am}{neg:Bool}(m:eE K mg r old):eE K mg (λx y H Q=>r x y H Q\/A0 K neg x y H Q) (cQ old neg):=by
 intro ρ H st x y v w Q E s rx ry h
 rcases Sx (old:=old) (neg:=neg) (x:=x) (y:=y) (st:=st) with e|⟨zs,n,k,ks,xs,rfl,rfl,h1,h2,e⟩
 ·rw [e] at h;exact .inl (m ρ H st x y v w Q E s rx ry h)
 ·rw [e] at h
  obtain ⟨b,us,rfl,hb,ru⟩:=rx
  obtain ⟨a,rfl,ha⟩:=ry
  obtain ⟨H',its,vs,t,ex,s',hk,hq,hv,hr⟩:=A4 s ha h2
  have:=uz ru h1
  subst this
  refine .inr ⟨a,b,k,its,H',rfl,rfl,t,hq,ex.sqT hb,?_⟩
  rw [A6,hk]
  exact h ρ H' ex s' _ rfl
def bh.or' {f:Value->Value->Sem Value}{r r':R2}(a:bh X f r) (b:bh X f r'):bh X f (λx y H Q=>r x y H Q\/r' x y H Q):=by
 intro pins s U H x y v u Q I rx ry h
 rcases h with h|h
 ·exact a pins s U H x y v u Q I rx ry h
 ·exact b pins s U H x y v u Q I rx ry h
def Sy {old:Am}(hu:X.A.units+200<cLine) (c:cq X .In old):cq X .In (cQ old false):=by
 obtain ⟨r,h1,h2⟩:=c
 exact ⟨_,bh.or' h1 (So hu),Gd h2⟩
def Sz {old:Am}(hu:X.A.units+200<cLine) (c:cq X .NotIn old):cq X .NotIn (cQ old true):=by
 obtain ⟨r,h1,h2⟩:=c
 exact ⟨_,bh.or' h1 (Sr hu),Gd h2⟩
def av (old:Am) (x y:PV):Mo PV:=λst=>match x,y with
 |.ref n,.tup zs=>match c_ zs,cj st[n]? with
  |some k,some (ks,xs)=>cg (iD k ks xs) (st.set n (.dit ks xs))
  |_,_=>old x y st
 |_,_=>old x y st
def SA {old:Am}{x y:PV}:av old x y st=old x y st\/∃zs n k ks xs,y=.tup zs/\x=.ref n/\c_ zs=some k/\cj st[n]?=some (ks,xs)/\av old x y st=cg (iD k ks xs) (st.set n (.dit ks xs)):=by
 unfold av
 split
 ·rename_i n zs
  cases h1:c_ zs with
  |none=>exact .inl rfl
  |some k =>
   cases h2:cj st[n]? with
   |none=>exact .inl rfl
   |some p=>exact .inr ⟨zs,n,k,p.1,p.2,rfl,rfl,h1,h2,rfl⟩
 ·exact .inl rfl
def jf {old:Am}(hu:X.A.units+200<cLine) (c:lE X old):lE X (av old):=by
 obtain ⟨r,h1,h2⟩:=c
 refine ⟨_,h1.or (Su (by omega)),fun ρ H st x y v w Q E s rx ry h=>?_⟩
 rcases SA (old:=old) (x:=x) (y:=y) (st:=st) with e|⟨zs,n,k,ks,xs,rfl,rfl,k1,k2,e⟩
 ·rw [e] at h;exact .inl (h2 ρ H st x y v w Q E s rx ry h)
 ·rw [e] at h
  obtain ⟨a,rfl,ha⟩:=rx
  obtain ⟨b,us,rfl,hb,ru⟩:=ry
  obtain ⟨H',its,vs,t,ex,s',hk,hq,hv,hr⟩:=A4 s ha k2
  have:=uz ru k1
  subst this
  cases hl:iD k ks xs with
  |none=>rw [hl] at h;exact h.elim
  |some q =>
   rw [hl] at h
   rw [<-hk] at hl
   obtain ⟨p,v,a1,a2,a3⟩:=Gb hv hr hl
   exact .inr ⟨a,b,k,its,H',p,v,rfl,rfl,t,hq,ex.sqT hb,a1,a2,h ρ H' ex s' _ a3⟩
end
section
variable {X:Cx} {Er:XK} {K:Frag} {mg:Ab} {ρ:Ae} {H:Hp} {st:aa} {pos pos':Pos} {o:Expr}
def gY {α:Type}(z:List Key) (x:α):List (List Key)->List α->List α
 |k::ks,y::ys=>(if k=z then x else y)::gY z x ks ys
 |_,ys=>ys
def wR (z:List Key) (x:PV) (ks:Ag) (xs:An):List (List Key)×List PV:=if cw z ks=true then (ks,gY z x ks xs) else (ks++[z],xs++[x])
def A8 {k:List Key}{u:Value}(x:List Key×Addr×Value):(PySem.putAt k u x).1=x.1/\(PySem.putAt k u x).2.1=x.2.1:=by
 unfold PySem.putAt
 split<;>exact ⟨rfl,rfl⟩
theorem Ge {k:List Key}{u:Value}{x:PV}{v:V}(rx:R K mg ρ H x v) (ru:RelV v u):∀{its:List (List Key×Addr×Value)}{vs:List V}{xs:An},Vals vs (its.map (·.2.2))->Rs K mg ρ H xs vs ->
  ∃ws,Vals ws ((its.map (PySem.putAt k u)).map (·.2.2))/\Rs K mg ρ H (gY k x (its.map (·.1)) xs) ws
 |[],vs,xs,hv,hr=>by
  rw [List.map_nil] at hv
  cases hv
  cases xs with
  |nil=>exact ⟨[],.nil,rfl⟩
  |cons y ys=>obtain ⟨_,_,z,_⟩:=hr;cases z
 |p::r,vs,[],hv,hr=>by
  cases hr
  rw [yK] at hv
  cases hv
 |p::r,vs,y::ys,hv,hr=>by
  obtain ⟨w,ws,rfl,h1,h2⟩:=hr
  rw [yK] at hv
  cases hv with
  |cons g t =>
   obtain ⟨zs,a1,a2⟩:=Ge rx ru t h2
   by_cases e:p.1=k
   ·refine ⟨v::zs,?_,v,zs,rfl,?_,a2⟩
    ·rw [yK,yK]
     refine .cons ?_ a1
     unfold PySem.putAt;rw [zw e];exact ru
    ·rw [zw e];exact rx
   ·refine ⟨w::zs,?_,w,zs,rfl,?_,a2⟩
    ·rw [yK,yK]
     refine .cons ?_ a1
     unfold PySem.putAt;rw [zI e];exact g
    ·rw [zI e];exact h1
def SD {k:List Key}{u:Value}{x:PV}{v:V}{b:Addr}{its:List (List Key×Addr×Value)}{vs:List V}{xs:An}(rx:R K mg ρ H x v) (ru:RelV v u) (hq:gX K H its) (hb:ba K H b (k.map kV)) (hv:Vals vs (its.map (·.2.2))) (hr:Rs K mg ρ H xs vs) :
  ∃ws,(storedH its k b u).map (·.1)=(wR k x (its.map (·.1)) xs).1/\gX K H (storedH its k b u)/\Vals ws ((storedH its k b u).map (·.2.2))/\Rs K mg ρ H (wR k x (its.map (·.1)) xs).2 ws:=by
 unfold storedH wR
 rw [A6]
 by_cases hc:cw k (its.map (·.1))=true
 ·rw [zw hc,zw hc]
  obtain ⟨ws,a1,a2⟩:=Ge (k:=k) rx ru hv hr
  refine ⟨ws,?_,λy hy=>?_,a1,a2⟩
  ·rw [List.map_map]
   exact List.map_congr_left λy _=>(A8 y).1
  ·obtain ⟨z,hz,rfl⟩:=wq.mp hy
   rw [(A8 z).1,(A8 z).2]
   exact hq z hz
 ·rw [zI hc,zI hc]
  refine ⟨vs++[v],by simp,λy hy=>?_,?_,hr.append ⟨v,[],rfl,rx,rfl⟩⟩
  ·rcases yU.mp hy with h|h
   ·exact hq y h
   ·obtain rfl:=jv.mp h;exact hb
  ·rw [wW]
   exact hv.append (.cons ru .nil)
def kE (z x o:PV):Mo Unit:=λst=>match z,o with
 |.tup zs,.ref n=>match c_ zs,cj st[n]? with
  |some k,some (ks,xs)=>if ks.length<lim then .ok () (st.set n (.dit (wR k x ks xs).1 (wR k x ks xs).2)) else .stuck
  |_,_=>.stuck
 |_,_=>j3 z x o st
def SE {z x o:PV}:kE z x o st=j3 z x o st\/kE z x o st=.stuck\/∃zs n k ks xs,z=.tup zs/\o=.ref n/\c_ zs=some k/\cj st[n]?=some (ks,xs)/\ks.length<lim/\kE z x o st=.ok () (st.set n (.dit (wR k x ks xs).1 (wR k x ks xs).2)):=by
 unfold kE
 split
 ·rename_i zs n
  cases h1:c_ zs with
  |none=>exact .inr (.inl rfl)
  |some k =>
   cases h2:cj st[n]? with
   |none=>exact .inr (.inl rfl)
   |some p =>
    by_cases hc:p.1.length<lim
    ·exact .inr (.inr ⟨zs,n,k,p.1,p.2,rfl,rfl,h1,h2,hc,zw hc⟩)
    ·exact .inr (.inl (zI hc))
 ·exact .inl rfl
def kF (fo fi fv:Ai):Aj:=λenv st=>(fv env st).bind λx ae=>(fo env ae).bind λo au=>(fi env au).bind λz aY=>(kE z x o aY).bind λ_ dn=>.ok (.nx env) dn
theorem SF {env:zb}{U:L2.St}{D:Ends}{zz x y:PV}{u v w:V}(s3:bf K mg ρ H st) (re:a8 K mg ρ H env U) (rv:R K mg ρ H x v) (dX:R K mg ρ H y w) (ru:R K mg ρ H zz u)
  (h3:Out K mg ρ H ((j3 zz x y st).bind λ_ dn=>.ok (.nx env) dn) (gS K mg D) Er):∃a H4,w=.ref a/\eh H a u v H4/\D.nx U H4:=by
 cases y with
 |ref n =>
  cases zz with
  |str z =>
   cases hn:st[n]? with
   |none=>simp only [j3,jm,hn] at h3;exact h3.elim
   |some so =>
    cases so with
    |dic ks xs =>
     simp only [j3,jm,hn] at h3
     by_cases hc:ks.length<lim
     ·rw [zw hc] at h3
      obtain ⟨a,vs,e4,ha,k1,k2,k3⟩:=R.refD s3 dX hn
      subst e4
      cases ru
      obtain ⟨ws,q1,q2,q3⟩:=AD (z:=z) rv k3 k2
      have hlen:(kz ks vs).length<sizeLine:=by
       have:(kz ks vs).length=ks.length:=by simp [kz,k3]
       rw [this,sizeLine_eq]
       have:ks.length<1000000:=hc
       omega
      have g:=eh.k (k:=Sum.inr z) (v:=v) k1 hlen
      have ew:Ext ρ H ρ (upd H a (.dK (L2.putK (kz ks vs) (Sum.inr z) v))):=Ext.write k1 rfl
      exact ⟨a,_,rfl,g,h3 ρ _ ew (s3.write ha ew ⟨ws,by rw [yN,q1],Rs.ext ew _ q2,q3⟩) U (re.ext ew)⟩
     ·rw [zI hc] at h3;exact h3.elim
    |_=>simp only [j3,jm,hn] at h3;exact h3.elim
  |_=>exact h3.elim
 |_=>exact h3.elim
theorem zf0 {i value:Expr}{fo fi fv:Ai}(hu:X.A.units+200<cLine) (ho:ME X Er o fo) (hi:ME X Er i fi) (hv:ME X Er value fv) (hs:swapsWith value (some (.Subscript o i pos')) pos.line X.env=pure false:=by rfl):MS X Er (.Assign [.Subscript o i pos'] value pos) (kF fo fi fv) :=
 PS.weak (Sw (by omega) ho hi hv hs) λD U H ⟨env,st,ρ,re,rs,h⟩=>⟨env,st,ρ,re,rs,h.then λag H1 x ae e1 s1 h1 v rv=>⟨env,ae,ag,re.ext e1,s1,h1.then λao H2 y au e2 s2 h2 w rw=>⟨env,au,ao,(re.ext e1).ext e2,s2,h2.then λam H3 zz aY e3 s3 h3 u ru=>by
  have Gf:=((re.ext e1).ext e2).ext e3
  have Gg:=R.ext e3 x (R.ext e2 x rv)
  have Gh:=R.ext e3 _ rw
  rcases SE (z:=zz) (x:=x) (o:=y) (st:=aY) with e|e|⟨zs,n,k,ks,xs,rfl,rfl,k1,k2,hc,e⟩
  ·rw [e] at h3;exact .inl (SF s3 Gf Gg Gh ru h3)
  ·rw [e] at h3;exact h3.elim
  ·rw [e] at h3
   obtain ⟨b,us,rfl,hb,SG⟩:=ru
   obtain ⟨a,rfl,ha⟩:=Gh
   obtain ⟨H',its,vs,t,ex,s',hk,hq,SH,hr⟩:=A4 s3 ha k2
   have:=uz SG k1
   subst this
   have hl:its.length<sizeLine:=by
    have h1:its.length=ks.length:=by rw [<-hk,jD]
    have h2:ks.length<1000000:=hc
    rw [h1,sizeLine_eq];omega
   refine .inr ⟨a,b,k,its,H',rfl,rfl,t,hq,ex.sqT hb,hl,λuu SI=>?_⟩
   subst hk
   have ea:H' a=some (dE a its):=by
    rcases t with ⟨rfl,e⟩|⟨_,rfl,rfl⟩
    ·exact e
    ·exact yN
   have ew:Ext am H' am (upd H' a (dE a (storedH its k b uu))):=Ext.write ea (OX X.prog X.w)
   obtain ⟨ws,q1,q2,q3,q4⟩:=SD (k:=k) (b:=b) (R.ext ex x Gg) SI hq (ex.sqT hb) SH hr
   have sw:=s'.write (so:=.dit (wR k x (its.map (·.1)) xs).1 (wR k x (its.map (·.1)) xs).2) ha ew ⟨_,ws,yN,q1,λy hy=>ew.sqT (q2 y hy),q3,Rs.ext ew _ q4⟩
   rw [List.set_set] at sw
   exact h3 am _ (ex.trans ew) sw U ((Gf.ext ex).ext ew)⟩⟩⟩
end
end Mi
namespace L2
open PySem PySem.Spec PyProof.Rows PySem.W
def vG (K:Frag) (a:Addr):It :=
 ⟨λi H=>∃xs x,ba K H a xs/\xs[i]?=some x,
  λi H v H'=>∃T x,H T=none/\v=.ref T/\H'=upd H T (.tup [.int i,x])/\∀xs,ba K H a xs->xs[i]?=some x,
  λi H=>∃xs,ba K H a xs/\xs.length<=i⟩
def vH (e it a:Addr) (k:Nat) (h:Heap):Prop:=(∃old,IsEnum h e it k old)/\IsTupIter h it a k
def SJ {prog:Program}{w:World}{A:Around}{it t:Addr}{xs:Array Value}(ne:t≠it) (hh:A.handled=none):Draws prog w A it [it,t] xs.size (λi x=>xs[i]?=some x) (qz it t xs) where
 live:=λi h q=>let ⟨⟨o,ho,_⟩,_⟩:=q;⟨o,ho⟩
 frame:=λi h h' q k=>(i6 (prog:=prog) (w:=w) ne).at_ q (k it (by simp)) (k t (by simp))
 item:=λi s Q E hi q hQ=>(i6 ne).item q (Array.getElem?_eq_getElem hi) λh' q' sb=>hQ _ h' s.toks (Array.getElem?_eq_getElem hi) q' sb
 done:=λs Q E q hE=>(i6 ne).stop hh q (Array.getElem?_eq_none (yo _)) hE
theorem SK {prog:Program}{w:World}{A:Around}{E:Aa}{s:Shared}{e it t:Addr}{i:Nat}{xs:Array Value}{old:Value}{Q:Option Value->Shared->Prop}(ne:t≠it) (hh:A.handled=none)
  (he:IsEnum s.heap e it i old) (hit:IsTupIter s.heap it t i) (p:IsTup s.heap t xs) (hi:xs.size<=i) (hQ:∀h',Heap.ExtBut it s.heap h'->Q none { s with heap:=h' }):wpAny (model prog w) A (pyNext (.ref e)) Q E s:=by
 have D:Draws prog w A.in1 it [it,t] i (λj x=>xs[j]?=some x/\j<i/\False) (λj h=>j=i/\qz it t xs j h):=⟨λj h q=>let ⟨_,⟨o,ho,_⟩,_⟩:=q;⟨o,ho⟩,λj h h' q k=>⟨q.1,(i6 (prog:=prog) (w:=w) ne).at_ q.2 (k it (by simp)) (k t (by simp))⟩,
  λj s Q E hj q _=>absurd q.1 (by omega),λs Q E q hE=>(i6 ne).stop hh q.2 (Array.getElem?_eq_none hi) hE⟩
 exact wpAny_pyNext_enum_endD D he ⟨rfl,hit,p⟩ hQ
def SN {P:Program}{w:World}{K:Frag}{elts:List Expr}{kt:Nat}{pos:Pos}{e it a:Addr}(ne:e≠it):Turn P w K (.Tuple elts kt pos) (vG K a) [e,it] e (vH e it a) where
 mem:=by simp
 obj:=λi h st c hc=>by
  obtain ⟨⟨old,he⟩,⟨o1,e1,_,d1⟩⟩:=st
  simp only [yE,List.not_mem_nil,iP] at hc
  rcases hc with q|q<;>rw [q]
  ·exact ⟨_,he,λv z=>by cases z⟩
  ·exact ⟨_,e1,λv z=>by rw [d1] at z;cases z⟩
 keep:=λi h h' st k=>by
  obtain ⟨⟨old,he⟩,⟨o1,e1,r1⟩⟩:=st
  exact ⟨⟨old,k e (by simp) _ he⟩,⟨o1,k it (by simp) _ e1,r1⟩⟩
 item:=by
  intro X hP hw hK hc i pins s U H E I hf st hg
  subst hP hw hK
  obtain ⟨xs,x,hq,hx⟩:=hg
  obtain ⟨⟨old,he⟩,hit⟩:=st
  obtain ⟨its,rv,p,hz⟩:=I.tuple hq
  obtain ⟨u,hu,ru⟩:=rv.get hx
  have n1:∀c∈[e,it],a≠c:=λc h=>oP I (hf c h) hq
  have na:a≠it:=n1 it (by simp)
  have SQ:a≠e:=n1 e (by simp)
  have bz:i<its.toArray.size:=by have:=(yD.mp hu).1;simpa using this
  refine wpAny_pyNext_enum_itemD (D:=SJ (A:=X.A.in1) na (I.ok.hd hc)) he ⟨hit,p⟩ bz ne (by simp;exact ⟨ne,λz=>SQ z.symm⟩) λx1 h1 tk SR eo qS pT hsz kk=>⟨_,rfl,?_⟩
  have xu:x1=u:=by
   have h0:its.toArray[i]?=some x1:=SR
   rw [List.getElem?_toArray,hu] at h0
   exact (Option.some.inj h0).symm
  subst xu
  refine wpAny_letOwnedTupleGo_enum (s:={ s with heap:=h1,toks:=tk+1 }) eo λh2 e2 sb=>?_
  have fr:H s.heap.objs.size=none:=I.hok.fresh (yo _)
  have up:∀c o,c≠e->h1.get? c=some o->h2.get? c=some o:=λc o n q=>sb.extBut _ _ n q
  have nz:s.heap.objs.size≠e:=Nat.ne_of_gt (yt he)
  have k2:∀c o,c∉[e,it]->s.heap.get? c=some o->h2.get? c=some o:=λc o nc q=>up c o (λz=>nc (by simp [z])) (kk c o (λz=>nc (by simp [z])) (λz=>nc (by simp [z])) q)
  refine ⟨.ref s.heap.objs.size,upd H s.heap.objs.size (.tup [.int i,x]),?_,rfl,⟨s.heap.objs.size,x,fr,rfl,rfl,λys hy=>by rw [I.tuple_inj hy hq];exact hx⟩,?_,λc dg=>?_⟩
  ·exact Inv.turnN (s:=s) (h':=h2) (t':=tk+1) I hf k2 (yo _) ⟨show 2<=sizeLine by decide,[.int i tk,x1],.cons ⟨_,rfl⟩ (.cons ru .nil),_,up _ _ nz pT,rfl,_,rfl⟩
  ·refine ⟨⟨x1,by rw [show ((i+1:Nat):Int)=(i:Int)+1 from rfl];exact e2⟩,let ⟨⟨o,q,r⟩,_⟩:=qS;⟨o,up _ _ ne.symm q,r⟩⟩
  ·have lt:∃o,s.heap.get? c=some o:=by
    simp only [yE,List.not_mem_nil,iP] at dg
    rcases dg with q|q<;>rw [q]
    ·exact ⟨_,he⟩
    ·exact let ⟨o,q,_⟩:=hit;⟨o,q⟩
   obtain ⟨o,q⟩:=lt
   have z:c≠s.heap.objs.size:=yO (yt q)
   rw [yi z]
   exact (hf c dg).1
 done:=by
  intro X hP hw hK hc i pins s U H E I hf st hg
  subst hP hw hK
  obtain ⟨xs,hq,hx⟩:=hg
  obtain ⟨⟨old,he⟩,hit⟩:=st
  obtain ⟨its,rv,p,hz⟩:=I.tuple hq
  have hl:=rv.length
  have n1:∀c∈[e,it],a≠c:=λc h=>oP I (hf c h) hq
  refine SK (n1 it (by simp)) (I.ok.hd hc) he hit p (by simp;omega) λh' eb=>⟨rfl,?_⟩
  exact Inv.turnL (ch:=[e,it]) (t':=s.toks) I hf λc o nc q=>eb c o (λz=>nc (by simp [z])) q
 self:=λ_ _ _ _ _ st h=>by
  obtain ⟨⟨old,he⟩,_⟩:=st
  exact wpAny_pyIter_enum he h
def SS (K:Frag) (ta:TA):TI:=λU H R=>ta U H λvs H1=>∃a,vs=[.ref a]/\(∃xs,ba K H1 a xs)/\R (vG K a) H1
abbrev uA (h:Heap) (a:Addr):Heap:=h.push { cls:=.type "tuple_iterator", data:=.fields #[.ref a,.int 0 0] }
abbrev pj (h:Heap) (a:Addr):Heap:=(uA h a).push { cls:=.type "enumerate", data:=.fields #[.none,.bool false,.ref h.objs.size,rawInt 0,.none,.none] }
def SU (a:Addr) (xs:Array Value) :
  Meets (Builtin.«enumerate.__new__» ⟨[.type "enumerate", .ref a],[]⟩) (λ_ R s=>IsTup s.heap a xs/\R (.ok (.ret (.ref (uA s.heap a).objs.size))) { s with heap:=pj s.heap a }) :=
 .of_wp λprog w A R s h=>by
  obtain ⟨hp,g,d,tk,os⟩:=s
  obtain ⟨h1,h⟩:=h
  have Es:=sub_enumerate
  have H1:IsTup (Shared.heap ⟨hp,g,d,tk,os⟩) a xs:=h1
  obtain ⟨⟨cl,dd,dt,sl⟩,ho,hcl,n,hd⟩:=id H1
  replace hcl:cl=.type "tuple" := hcl
  replace hd:dt=.seq xs n:=hd
  subst hcl hd
  wp_walk using AutoSeq1.wpAny_loadPart' ho
  refine wpAny_stack_any λst=>ye ?_
  split
  ·rename_i c _ _ _ _ _
   cases (c==Value.type "enumerate")
   all_goals (wp_walk using AutoSeq1.wpAny_loadPart' ho,iter_tuple H1;exact ⟨_,rfl,h⟩)
  ·wp_walk using AutoSeq1.wpAny_loadPart' ho,iter_tuple H1
   exact ⟨_,rfl,h⟩
def SV {prog:Program}{w:World}{A:Around}{E:Aa}{s:Shared}{a:Addr}{xs:Array Value}{Q:Aa}(h1:IsTup s.heap a xs)
  (h:vH (s.heap.objs.size+1) s.heap.objs.size a 0 (pj s.heap a)->Q (.ref (s.heap.objs.size+1)) { s with heap:=pj s.heap a }) :
  wpAny (model prog w) A (call (.type "enumerate") [.ref a]) Q E s:=by
 refine callType_new F.called_enumerate (by decide) (F.typeCall_enumerate_1 _) (F.newCall_enumerate_1 _) (λobj=>F.args_object_init_2 obj _) F.entry_enumerate_new (SU a xs) ⟨h1,?_⟩
 have z1:(uA s.heap a).objs.size=s.heap.objs.size+1:=Heap.size_push ..
 have g2:(pj s.heap a).get? (uA s.heap a).objs.size=some _:=y4 _ rfl
 have g1:(pj s.heap a).get? s.heap.objs.size=some _:=yp _ (y4 _ rfl)
 show _/\_
 rw [z1] at g2
 rw [z1]
 exact ⟨⟨_,g2,rfl⟩,h ⟨⟨_,g2⟩,⟨_,g1,rfl,rfl⟩⟩⟩
theorem SW {X:Cx} {elts:List Expr} {kt:Nat} {tp:Pos} {x:Expr} {ta:TA} {p pos:Pos} (hg:Gl X "enumerate") (hm:X.mg "enumerate" = none) (ha:PA X [x] ta) (hs:starEach [x] X.env=[(false,eval x X.env)]:=by rfl) :
  PI X (.Tuple elts kt tp) (.Call (.Name "enumerate" p) [x] [] pos) (SS X.K ta):=by
 intro pins s U H R I h
 refine Call_ (mH I hg hm FJ (PyProof.Rows.callWith_type1 (aS (ha pos pins s U H _ I h) λus s1 ⟨vs,H1,I1,r1,q1⟩=>?_) hs rfl))
 obtain ⟨a,e,⟨xs,hq⟩,q⟩:=q1
 subst e
 obtain ⟨u,rfl,ru⟩:=r1.one
 obtain rfl:u=Value.ref a:=ru
 obtain ⟨its,_,p1,_⟩:=I1.tuple hq
 have kk:∀b o,s1.heap.get? b=some o->(pj s1.heap a).get? b=some o:=λb o q=>yp _ (yp _ q)
 refine SV p1 λest=>wpAny_pyIter_enum est.1.choose_spec ?_
 have ne:∀(n:Nat),n+1≠n:=λn z=>by omega
 refine ⟨_,[s1.heap.objs.size+1,s1.heap.objs.size],_,_,H1,rfl,I1.kept (t':=s1.toks) kk,SN (ne _),est,λc hc=>?_,q⟩
 have le:s1.heap.objs.size<=c:=by
  simp only [yE,List.not_mem_nil,iP] at hc
  rcases hc with q|q<;>rw [q]<;>first|exact yo _|exact Nat.le_add_right _ _
 exact I1.fpOk le (I1.hok.fresh le)
end L2
namespace Mi
open PySem L2 PySem.W PySem.Spec
section
variable {X:Cx} {Er:XK} {fs:Ah} {pos:Pos}
def d7 (ft:Ak) (fe:Ai) (env:zb):Nat->List PV->Al
 |_,[],ys,st=>.ok (.ref st.length) (st++[.lst ys])
 |i,x::r,ys,st=>(bE (ft (some (.int i)::some x::env) st)).bind λb ae=>if b=true then (bE (fe (some (.int i)::some x::env) ae)).bind λy au=>d7 ft fe env (i+1) r (ys++[y]) au
   else d7 ft fe env (i+1) r ys ae
def uB:List PV->Mo (An)
 |[.tup xs],st=>if xs.length<=lim then .ok xs st else .stuck
 |_,_=>.stuck
def rB (fs:Ah) (ft:Ak) (fe:Ai):Ai:=λenv st=>(fs env st).bind λvs ae=>(uB vs ae).bind λxs ae=>d7 ft fe env 0 xs [] ae
def SX {α:Type}{K:Frag}{mg:Ab}{ρ:Ae}{H:Hp}{st:aa}{vs:An}{k:List PV->Mo α}{good:List Addr->Hp->α->aa->Prop}{E:XK}(h:Out K mg ρ H ((uB vs st).bind k) good E):∃xs,vs=[.tup xs]/\xs.length<=lim/\Out K mg ρ H (k xs st) good E:=by
 cases vs with
 |nil=>exact h.elim
 |cons v r =>
  cases r with
  |cons _ _=>cases v<;>exact h.elim
  |nil =>
   cases v with
   |tup xs =>
    by_cases hl:xs.length<=lim
    ·refine ⟨xs,rfl,hl,?_⟩
     have e:uB [.tup xs] st=.ok xs st:=zw hl
     rw [e] at h
     exact h
    ·have e:uB [.tup xs] st=.stuck:=zI hl
     rw [e] at h
     exact h.elim
   |_=>exact h.elim
theorem SY {elt e c:Expr} {x y:Str} {kt:Nat} {px py tp p ip:Pos} {scope:Scope} {ft:Ak} {fe:Ai} {N:Ad} (hc:X.calm=true) (S:di X.env.scope scope [x,y]) (eN:X.N=N) (cD:((".0" : Str)::([x,y]++N)).Nodup)
  (hm:X.mg "enumerate" = none) (ha:MA X Er [e] fs) (iZ:∀cl C af ah fp,MT (fj X scope cl [x,y] C af ah fp (λ_ _=>False)) XN c ft) (he:∀cl C af ah fp,ME (fj X scope cl [x,y] C af ah fp (λ_ _=>False)) XN elt fe)
  (hx:scope.names.lookup x=some .local:=by rfl) (hy:scope.names.lookup y=some .local:=by rfl) (qU:Gl X "enumerate" := by rfl) (bD:starEach [e] X.env=[(false,eval e X.env)]:=by rfl)
  (hs:∀v,foldedSetIterable (.Call (.Name "enumerate" p) [e] [] ip) X.env v=pure v:=by intro _;rfl) :
  ME X Er (.ListComp elt [⟨.Tuple [.Name x px,.Name y py] kt tp,.Call (.Name "enumerate" p) [e] [] ip,[c],0⟩] scope pos) (rB fs ft fe):=by
 have hN:([x,y]++X.N).Nodup:=by rw [eN];exact (wt.mp cD).2
 have gf:∀cl C af ah fp E,PG (fj X scope cl [x,y] C af ah fp E) (.Tuple [.Name x px,.Name y py] kt tp) (sS X.K 2 (mJ (wu 0) (mJ (wu 1) sQ))):=λcl C af ah fp E=>sT (n:=2) hc
  (kZ (wN (X:=fj X scope cl [x,y] C af ah fp E) (i:=0) hN rfl (.inl (jV hx)) (.inr (jV hx)))
  (kZ (wN (X:=fj X scope cl [x,y] C af ah fp E) (i:=1) hN rfl (.inl (jV hy)) (.inr (jV hy))) sR))
 exact PE.weak (xw (te:=tM X.K X.mg XN fe) (tt:=nq X.K X.mg XN ft) hc S eN cD (SW qU hm ha bD) gf (λcl C af ah fp=>w_ (iZ cl C af ah fp)) (λcl C af ah fp=>he cl C af ah fp) hs) λU H Q ⟨env,st,ρ,re,rs,h⟩=>⟨env,st,ρ,re,rs,h.then λar H0 vs dC e0 s0 h0 us ru=>by
  obtain ⟨xs,rfl,vx,h0⟩:=SX h0
  obtain ⟨v,rfl,rv⟩:=ru.one
  obtain ⟨a,qV,rfl,Gi,AJ⟩:=rv
  refine ⟨a,rfl,⟨_,Gi⟩,?_⟩
  have ln:lim=1000000:=rfl
  refine ⟨λi m ys H=>m+i=lim+1/\i<=xs.length/\ys.length<=i/\∃ps st ρ,Rs X.K X.mg ρ H ps ys/\bf X.K X.mg ρ H st/\Ext ar H0 ρ H/\Out X.K X.mg ρ H (d7 ft fe env i (xs.drop i) ps st) (gV X.K X.mg Q) Er,⟨lim+1,rfl,jJ _,jJ _,[],dC,ar,rfl,s0,Ext.refl,h0⟩,?_⟩
  rintro i m ys H ⟨hm,hi,hy,ps,st,ρ,cG,rs,ex,h⟩
  have hq:=ex.sqT Gi
  have hR:=Rs.ext ex _ AJ
  cases hx:xs[i]? with
  |none =>
   have hl:xs.length<=i:=mE.mp hx
   rw [pX hl] at h
   exact .inl ⟨⟨qV,hq,by rw [<-hR.len];exact hl⟩,jb (by omega),λl hl=>Out.newList h rs cG hl⟩
  |some x =>
   have bz:i<xs.length:=(yD.mp hx).1
   have S0:xs.drop i=x::xs.drop (i+1):=by
    rw [w9 bz]
    congr 1
    exact (yD.mp hx).2
   rw [S0] at h
   obtain ⟨v,hv,rv⟩:=hR.get hx
   refine .inr ⟨⟨qV,v,hq,hv⟩,jb (by omega),λv' H' y=>?_⟩
   obtain ⟨T,x',hT,rfl,rfl,y⟩:=y
   have e2:=y qV hq
   rw [hv] at e2
   cases e2
   have bH:Ext ρ H ρ (upd H T (.tup [.int i,v])):=Ext.new hT
   refine ⟨T,[.int i,v],rfl,.inl (.inl yN),rfl,.int i,[v],rfl,v,[],rfl,rfl,[some (.int i),some v],rfl,rfl,?_⟩
   have gk:a8 X.K X.mg ρ (upd H T (.tup [.int i,v])) (some (.int i)::some x::env) (some (.int i)::some v::U):=(((re.ext (e0.trans ex)).ext bH).cons (R.ext bH x rv)).cons rfl
   refine ⟨_,st,ρ,gk,rs.new hT,jM (Out.ext h bH) λam H3 b aY e3 s3 h3=>?_⟩
   obtain ⟨m,rfl⟩:∃m',m=m'+1:=⟨m-1,by omega⟩
   cases b with
   |true =>
    refine ⟨_,aY,am,gk.ext e3,s3,jM h3 λaB H4 y dn e4 s4 h4 v4 r4=>⟨m,jW m,by omega,by omega,by simp;omega,ps++[y],dn,aB,Rs.snoc r4 (Rs.ext ((bH.trans e3).trans e4) ps cG),s4,((ex.trans bH).trans e3).trans e4,h4⟩⟩
   |false=>exact ⟨m,jW m,by omega,by omega,by omega,ps,aY,am,Rs.ext (bH.trans e3) ps cG,s3,(ex.trans bH).trans e3,h3⟩⟩
end
end Mi
namespace L2
open PySem PySem.Spec PyProof.Rows PySem.W
section
variable {X:Cx} {e:Expr} {te td ty:TE} {tv:TX}
def S3 (z:Str) (te:TE):TE:=λU H Q=>te U H λv H1=>∃i:Int,v=.int i/\i.natAbs.log2<1920/\(z++(toString i:Str)).length<=sizeLine/\Q (.str (z++(toString i:Str))) H1
def uC (z:Str):Str.empty++z=z:=by
 show Str.mk (#[]++z.cps)=z
 simp
def S4 {z:Str}{ck}{cp fp pos:Pos}(he:PE X e te) (hz:z.length<=sizeLine):PE X (.JoinedStr [.Constant (.str z) ck cp,.FormattedValue e (-1) none fp] pos) (S3 z te):=by
 intro pins s U H Q I h
 refine wpAny_JoinedStr (Calls.Constant_str ⟨z,_,rfl,?_,?_⟩)
 ·rw [uC];exact hz
 ·refine wpAny_FormattedValue_plain (aS (he pins _ U H _ (I.tok _) h) λu s1 ⟨v,H1,I1,r1,i,ev,hd,hl,q⟩=>?_)
  subst ev
  obtain ⟨t,rfl⟩:=r1
  refine wpAny_formatField_int hd ⟨_,_,rfl,?_,?_,?_⟩
  ·rw [uC];exact hl
  ·rw [uC];exact hl
  ·rw [uC];exact ⟨.str (z++(toString i:Str)),H1,(I1.tok _).tok _,⟨_,rfl⟩,q⟩
def S5 (C:Addr) (sp:Sp) (tv:TX):TX:=λU H Q E=>tv U H (λv H1=>∀x dx,H1 x=none->H1 dx=none->dx≠x->sp [.ref x,v] (upd (upd H1 dx (.own x)) x (.ins C dx [])) (λw H2=>w=.non/\Q (.ref x) H2) Mi.XN) E
def S6 {C f:Addr}{k:Nat}{fd:FuncData}{ps:Ad}{sp:Sp}{x:Str}{p pos:Pos}(M:Mk X.K C f) (F:bp X.prog X.w X.K X.mg X.base (cv X.prog X.w) k f fd ps sp) (hr:aV (k+1) X.A) (hg:Gl X x) (hm:X.mg x=some (.ref C)) (hb:Binds X.K fd ps []) (hv:PX X e tv)
  (bR:(x==("__debug__" : Str))=false:=by decide) (he:starEach [e] X.env=(false,eval e X.env)::starEach [] X.env:=by rfl) (br:(backTo pos (starEach [] X.env)).any (·.1)=false:=by rfl):PX X (.Call (.Name x p) [e] [] pos) (S5 C sp tv):=by
 intro pins s U H Q E I h
 refine wpAny_Call_Name_kw (kY I hg hm ?_ bR)
 refine PySem.W.callWith_K (h₀:=X.base) I.ok.mod.kin M.kp ?_ he br
 rw [he]
 show wpAny _ _ (spliced ((false,eval e X.env)::backTo pos (starEach [] X.env))) _ _ s
 refine Calls.spliced_cons (yY (hv pins s U H _ E I h) (λu s1 ⟨v,H1,I1,r1,q1⟩=>?_) λ_ _ z=>z)
 refine Calls.spliced_nil ⟨I1.kIn,?_⟩
 exact yY (De (X:=X.nox) M F hr hb .nil (nj Mi.za5) (I1.wish _) (.cons r1 .nil) q1) (λ_ _ ⟨y,H2,I2,r2,q2⟩=>⟨y,H2,I2.unwish,r2,q2⟩) λ_ _ z=>z.elim
def S7 (C:Addr) (j:Nat) (td ty:TE) (tv:TX) (tsu:TS):TS:=λD U H=>tv U H (λv H1=>td U H1 λx H2=>ty U H2 λy H3=>∃a H4,x=.ref a/\eh H3 a y v H4/\D.nx U H4)
 (λc d H1=>c=.ref C/\∀a,H1 a=none->tsu { nx:=λai H'=>D.nx (ai.set j none) H',rt:=D.rt } (U.set j (some (.ref a))) (upd H1 a (gg C d a)))
def S8 {C:Addr}{j:Nat}{n cls:Str}{o i value:Expr}{tsu:TS}{b0:Stmt}{bg:List Stmt}{ap cp hp pos pos':Pos}(hu:X.A.units+1<cLine) (hN:X.N.Nodup) (hj:X.N[j]?=some n) (hn:X.env.scope.names.lookup n=some .local)
  (ho:PE X.nox o td) (hi:PE X.nox i ty) (hv:PX X value tv) (hg:Gl X cls) (hm:X.mg cls=some (.ref C)) (hC:fW X.K C) (kG:∀a,cA (X.caught a) (b0::bg) tsu) (bD:X.stack=X.env::X.outer) (dk:X.env.frame=some X.env.locals)
  (hs:swapsWith value (some (.Subscript o i pos')) ap.line X.env=pure false:=by rfl) (bR:(cls==("__debug__" : Str))=false:=by decide) :
  PS X (.Try [.Assign [.Subscript o i pos'] value ap] [.ExceptHandler (some (.Name cls cp)) (some n) (b0::bg) hp] [] [] pos) (S7 C j td ty tv tsu):=by
 intro pins s U H D I h
 rw [arm_exec_Try]
 refine zu (wpAny_standAt (wpAny_tryStmt_except (wpAny_execs_cons (wpAny_Assign_Subscript (yY (hv pins s U H _ _ I h) (λr s1 ⟨v,H1,I1,rv,q1⟩=>?_) (λu s1 ⟨a,C',d,H1,eu,I1,A9,ec,q⟩=>?_)) hs))))
 ·refine yY (ho pins s1 U H1 _ (I1.wish _) q1) (λu s2 ⟨x,H2,I2,rx,q2⟩=>?_) (λ_ _ z=>z.elim)
  refine yY (hi pins s2 U H2 _ I2 q2) (λiv s3 gg=>?_) (λ_ _ z=>z.elim)
  obtain ⟨y,H3,I3,ry,a,H4,ex,g,q3⟩:=gg
  subst ex
  obtain rfl:u=Value.ref a:=rx
  exact xE hu I3.unwish g ry rv λs4 I4=>wpAny_execs_nil (wpAny_execs_nil ⟨U,H4,I4,q3⟩)
 subst eu
 cases ec
 refine xF I1 I.ok.frames bD dk A9 λs2 T I2 x2 ne qy oa oT=>qu I2 x2 ne qy oa oT λs3 I3 x3 ni=>?_
 refine wpAny_handleBy_cons (codeAny_handlers_test ?_) (by intro q;cases q)
 refine kY (X:=X.caught a) (Inv.caught I3 a) hg hm ?_ bR
 obtain ⟨⟨nm,q',N,bs,bm,cT,sn,sub,ab,col,dd,k0,k1,k2,k3,k5,hl,ht,_⟩,_⟩:=hC
 have pe:=I3.kIn _ _ hl
 have cU:bm.contains (.type "BaseException")=true:=(tail_of_in I3.kIn ht).hasType (by decide)
 obtain ⟨oe,vs,he,gG,_⟩:=id x3
 refine wpAny_excMatches_sub_self (h:=s3.heap) (g:=s3.gens) (d:=s3.drawn) (t:=s3.toks) (os:=s3.os) pe he gG cU ?_
 refine codeAny_handlers_suite_as (qu I3 x3 ne ni oa oT λs4 I4 x4 S9=>?_)
 have I5:=Inv.catch I4 oa x4
 refine mG I5 hN hj (.inl hn) (v:=.ref a) rfl (λs5 I6=>?_) (.inr hn)
 refine yY (kG a pins s5 _ _ _ (Inv.caught I6 a) (q a oa.1)) (λf s6 z=>?_) λ_ _ z=>z.elim
 cases f with
 |next =>
  obtain ⟨ai,H',I7,q7⟩:=z
  exact tK (Inv.uncaught I.ok I7) hN hj hn λs7 I8=>⟨_,H',I8,q7⟩
 |brk=>obtain ⟨_,_,_,z⟩:=z;exact z.elim
 |cont=>obtain ⟨_,_,_,z⟩:=z;exact z.elim
 |ret u =>
  obtain ⟨v,ai,H',I7,r7,q7⟩:=z
  exact tK (Inv.uncaught I.ok I7) hN hj hn λs7 I8=>⟨v,_,H',I8,r7,q7⟩
end
end L2
namespace Mi
open PySem L2 PySem.W PySem.Spec
section
variable {X:Cx} {Er:XK} {e o i:Expr} {pos pos' p:Pos} {f fo fi fv:Ai} {k:Nat} {m:Al}
def A_ (z:Str):PV->Mo PV
 |.int i,st=>if i.natAbs.log2<1920/\(z++(toString i:Str)).length<=1000 then .ok (.str (z++(toString i:Str))) st else .stuck
 |_,_=>.stuck
def zsM {z:Str}{ck}{cp fp:Pos}(he:ME X Er e f) (hz:z.length<=1000:=by decide):ME X Er (.JoinedStr [.Constant (.str z) ck cp,.FormattedValue e (-1) none fp] pos) (yq (A_ z) f) :=
 PE.weak (S4 he (jw hz (by decide))) λU H Q ⟨env,st,ρ,re,rs,h⟩=>⟨env,st,ρ,re,rs,h.then λag H1 x ae e1 s1 h1 v rv=>by
  cases x with
  |int i =>
   obtain ⟨⟨h2,h3⟩,h1⟩:=Out.ifp h1
   exact ⟨i,rv,h2,jw h3 (by decide),h1.now s1 _ rfl⟩
  |_=>exact h1.elim⟩
def S_ {es:List Expr} {fs:Ah} {cn:Str} (C:iw X.prog X.w X.K X.mg X.base cn k m) (hr:aV (k+1) X.A) (ht:wv X Er) (ha:MA X Er (e::es) fs) (hg:Gl X cn:=by rfl) (bR:(cn==("__debug__" : Str))=false:=by decide)
  (he:starEach (e::es) X.env=(false,eval e X.env)::starEach es X.env:=by rfl) (br:(backTo pos (starEach es X.env)).any (·.1)=false:=by rfl):ME X Er (.Call (.Name cn p) (e::es) [] pos) (zq (bO cn m) fs):=fh C hr ht ha hg bR he br
def fM (cn:Str) (m:Al) (fv:Ai):Ai:=λenv st=>(fv env st).bind λy ae=>bE (bO cn m [y] ae)
def Ta {cn:Str} (C:iw X.prog X.w X.K X.mg X.base cn k m) (hr:aV (k+1) X.A) (hv:MX X e fv) (hg:Gl X cn:=by rfl) (bR:(cn==("__debug__" : Str))=false:=by decide)
  (he:starEach [e] X.env=(false,eval e X.env)::starEach [] X.env:=by rfl) (br:(backTo pos (starEach [] X.env)).any (·.1)=false:=by rfl):MX X (.Call (.Name cn p) [e] [] pos) (fM cn m fv):=by
 obtain ⟨C,f,fd,ps,hm,M,hb,F⟩:=C
 exact PX.weak (S6 M F hr hg hm hb hv bR he br) λU H Q E ⟨env,st,ρ,re,rs,h⟩=>⟨env,st,ρ,re,rs,h.then λag H1 y ae e1 s1 h1 v rv x dx hx oW ne=>by
  refine EU (f:=f) (ys:=[y]) (vs:=[v]) hm s1 ⟨v,[],rfl,rv,rfl⟩ ?_ x dx hx oW ne
  cases hr:bO cn m [y] ae with
  |ok z au=>rw [hr] at h1;exact h1
  |err=>rw [hr] at h1;exact h1.elim
  |stuck=>rw [hr] at h1;exact h1.elim⟩
def lY (j:Nat) (cn:Str) (fo fi fv:Ai) (bg:Aj):Aj:=λenv st=>match fv env st with
 |.ok x ae=>(bE (fo env ae)).bind λo au=>(bE (fi env au)).bind λz aY=>(j3 z x o aY).bind λ_ dn=>.ok (.nx env) dn
 |.err c ks xs ae=>if c=cn/\ks≠[] then (bE (bg (env.set j (some (.exo c ks xs))) ae)).bind (qR j) else .stuck
 |.stuck=>.stuck
def Tb (j:Nat) {n cn:Str}{value:Expr}{gs:Aj}{b0:Stmt}{bg:List Stmt}{ap cp hp:Pos}(hu:X.A.units+200<cLine) (hC:∃C,X.mg cn=some (.ref C)/\fW X.K C) (ho:ME X.nox E0 o fo) (hi:ME X.nox E0 i fi) (hv:MX X value fv) (kG:∀a,eP (X.caught a) E0 (b0::bg) gs) (hN:X.N.Nodup)
  (bD:X.stack=X.env::X.outer:=by rfl) (dk:X.env.frame=some X.env.locals:=by rfl) (hj:X.N[j]?=some n:=by rfl) (hn:X.env.scope.names.lookup n=some .local:=by rfl) (hg:Gl X cn:=by rfl)
  (hs:swapsWith value (some (.Subscript o i pos')) ap.line X.env=pure false:=by rfl) (bR:(cn==("__debug__" : Str))=false:=by decide) :
  MS X Er (.Try [.Assign [.Subscript o i pos'] value ap] [.ExceptHandler (some (.Name cn cp)) (some n) (b0::bg) hp] [] [] pos) (lY j cn fo fi fv gs):=by
 obtain ⟨C,hm,hC⟩:=hC
 exact PS.weak (S8 (tsu:=sM X.K X.mg E0 gs) (by omega) hN hj hn ho hi hv hg hm hC kG bD dk hs bR) λD U H ⟨env,st,ρ,re,rs,h⟩=>by
  refine ⟨env,st,ρ,re,rs,?_⟩
  unfold lY at h
  cases hr:fv env st with
  |ok x ae =>
   rw [hr] at h
   intro ag H1 e1 s1 v rv
   refine ⟨env,ae,ag,re.ext e1,s1,jM (Out.ext h e1) λao H2 y au e2 s2 h2 w rw=>⟨env,au,ao,(re.ext e1).ext e2,s2,jM h2 λam H3 zz aY e3 s3 h3 u ru=>?_⟩⟩
   cases y with
   |ref n =>
    cases zz with
    |str z =>
     cases hn:aY[n]? with
     |none=>simp only [j3,jm,hn] at h3;exact h3.elim
     |some so =>
      cases so with
      |dic ks xs =>
       simp only [j3,jm,hn] at h3
       by_cases hc:ks.length<lim
       ·rw [zw hc] at h3
        obtain ⟨a,vs,e4,ha,k1,k2,k3⟩:=R.refD s3 (R.ext e3 _ rw) hn
        subst e4
        cases ru
        obtain ⟨ws,q1,q2,q3⟩:=AD (z:=z) (R.ext e3 x (R.ext e2 x rv)) k3 k2
        have hlen:(kz ks vs).length<sizeLine:=by
         have:(kz ks vs).length=ks.length:=by simp [kz,k3]
         rw [this,sizeLine_eq]
         have:ks.length<1000000:=hc
         omega
        have g:=eh.k (k:=Sum.inr z) (v:=v) k1 hlen
        have ew:Ext am H3 am (upd H3 a (.dK (L2.putK (kz ks vs) (Sum.inr z) v))):=Ext.write k1 rfl
        refine ⟨a,_,rfl,g,h3 am _ ew (s3.write ha ew ⟨ws,by rw [yN,q1],Rs.ext ew _ q2,q3⟩) U ((((re.ext e1).ext e2).ext e3).ext ew)⟩
       ·rw [zI hc] at h3;exact h3.elim
      |_=>simp only [j3,jm,hn] at h3;exact h3.elim
    |_=>exact h3.elim
   |_=>exact h3.elim
  |stuck=>rw [hr] at h;exact h.elim
  |err c ks xs ae =>
   simp only [hr] at h
   obtain ⟨⟨Ba,hk⟩,h2⟩:=Out.ifp h
   subst Ba
   intro ag H1 Cv d e1 s1 xr
   obtain ⟨C',rfl,hm',hd⟩:=xr
   rw [hm] at hm'
   cases hm'
   refine ⟨rfl,λq hq=>?_⟩
   rcases hd with ⟨Bb,_⟩|⟨dd,vs,rfl,Bc,hR,hl⟩
   ·exact absurd Bb hk
   ·have eq:Ext ag H1 ag (upd H1 q (gg C (some dd) q)):=Ext.new hq
    refine ⟨env.set j (some (.exo c ks xs)),ae,ag,((re.ext e1).ext eq).set j ⟨q,C,dd,vs,rfl,hm,yN,eq.imm _ _ Bc rfl,Rs.ext eq xs hR,hl⟩,s1.new hq,jM (Out.ext h2 (e1.trans eq)) λao H2 fl au e2 s2 h2=>?_⟩
    cases fl with
    |nx e=>exact λaD r2=>Out.fl (D:=D) (fl:=.nx (e.set j none)) (E:=Er) h2 s2 _ (r2.unset j)
    |rt y=>exact λv2 r2=>Out.fl (D:=D) (fl:=.rt y) (E:=Er) h2 s2 _ r2
    |_=>exact h2.elim
end
section
variable {X:Cx} {Er:XK} {pos:Pos} {fs:Ah}
def Tc {elt e c:Expr} {x y:Str} {kt:Nat} {px py tp p ip:Pos} {scope:Scope} {ft:Ak} {fe:Ai} {M:Ad} (hc:X.calm=true) (S:di X.env.scope scope [x,y]) (eN:Hid scope M X.N) (cD:((".0" : Str)::([x,y]++M)).Nodup)
  (hm:X.mg "enumerate" = none) (ha:MA X Er [e] fs) (iZ:∀cl C af ah fp,MT (dR X M scope cl [x,y] C af ah fp (λ_ _=>False)) XN c ft) (he:∀cl C af ah fp,ME (dR X M scope cl [x,y] C af ah fp (λ_ _=>False)) XN elt fe)
  (hx:scope.names.lookup x=some .local:=by rfl) (hy:scope.names.lookup y=some .local:=by rfl) (qU:Gl X "enumerate" := by rfl) (bD:starEach [e] X.env=[(false,eval e X.env)]:=by rfl)
  (hs:∀v,foldedSetIterable (.Call (.Name "enumerate" p) [e] [] ip) X.env v=pure v:=by intro _;rfl) :
  ME X Er (.ListComp elt [⟨.Tuple [.Name x px,.Name y py] kt tp,.Call (.Name "enumerate" p) [e] [] ip,[c],0⟩] scope pos) (ur fs ft fe):=by
 have hN:([x,y]++M).Nodup:=(wt.mp cD).2
 have gf:∀cl C af ah fp E,PG (dR X M scope cl [x,y] C af ah fp E) (.Tuple [.Name x px,.Name y py] kt tp) (sS X.K 2 (mJ (wu 0) (mJ (wu 1) sQ))):=λcl C af ah fp E=>sT (n:=2) hc
  (kZ (wN (X:=dR X M scope cl [x,y] C af ah fp E) (i:=0) hN rfl (.inl (jV hx)) (.inr (jV hx)))
  (kZ (wN (X:=dR X M scope cl [x,y] C af ah fp E) (i:=1) hN rfl (.inl (jV hy)) (.inr (jV hy))) sR))
 exact PE.weak (xf (te:=tM X.K X.mg XN fe) (tt:=nq X.K X.mg XN ft) hc S eN cD (FK qU hm ha bD) gf (λcl C af ah fp=>w_ (iZ cl C af ah fp)) (λcl C af ah fp=>he cl C af ah fp) hs) λU H Q ⟨env,st,ρ,re,rs,h⟩=>⟨env,st,ρ,re,rs,h.then λar H0 vs dC e0 s0 h0 us ru=>by
  obtain ⟨n,EH,rfl,AH,h0⟩:=uq h0
  obtain ⟨v,rfl,rv⟩:=ru.one
  obtain ⟨a,rfl,ha⟩:=rv
  obtain ⟨qV,AI,AJ⟩:=s0.addr AH ha
  refine ⟨a,rfl,⟨_,aZ.of AI⟩,?_⟩
  refine ⟨λi m ys H=>m+i=lim+1/\ys.length<=i/\∃ps st ρ,Rs X.K X.mg ρ H ps ys/\bf X.K X.mg ρ H st/\Ext ar H0 ρ H/\ρ[n]?=some a/\Out X.K X.mg ρ H (fL ft fe env n m i ps st) (gV X.K X.mg Q) Er,⟨lim+1,rfl,jJ _,[],dC,ar,rfl,s0,Ext.refl,ha,h0⟩,?_⟩
  rintro i m ys H ⟨hm,hy,ps,st,ρ,cG,rs,ex,ha,h⟩
  cases m with
  |zero=>exact h.elim
  |succ m =>
   obtain ⟨xs,hn,h⟩:=jL h
   obtain ⟨vs,hH,hR⟩:=rs.addr hn ha
   cases hx:xs[i]? with
   |none =>
    simp only [hx] at h
    have:vs.length<=i:=by rw [<-hR.len];exact mE.mp hx
    exact .inl ⟨⟨vs,aZ.of hH,this⟩,jb (by omega),λl hl=>Out.newList h rs cG hl⟩
   |some x =>
    simp only [hx] at h
    obtain ⟨v,hv,rv⟩:=hR.get hx
    refine .inr ⟨⟨vs,v,aZ.of hH,hv⟩,jb (by omega),λv' H' y=>?_⟩
    obtain ⟨T,x',hT,rfl,rfl,y⟩:=y
    have e2:=y vs (aZ.of hH)
    rw [hv] at e2
    cases e2
    have bH:Ext ρ H ρ (upd H T (.tup [.int i,v])):=Ext.new hT
    refine ⟨T,[.int i,v],rfl,.inl (.inl yN),rfl,.int i,[v],rfl,v,[],rfl,rfl,[some (.int i),some v],rfl,rfl,?_⟩
    have gk:a8 X.K X.mg ρ (upd H T (.tup [.int i,v])) (some (.int i)::some x::env) (some (.int i)::some v::U):=(((re.ext (e0.trans ex)).ext bH).cons (R.ext bH x rv)).cons rfl
    refine ⟨_,st,ρ,gk,rs.new hT,jM (Out.ext h bH) λam H3 b aY e3 s3 h3=>?_⟩
    cases b with
    |true =>
     refine ⟨_,aY,am,gk.ext e3,s3,jM h3 λaB H4 y dn e4 s4 h4 v4 r4=>⟨m,jW m,by omega,by simp;omega,ps++[y],dn,aB,Rs.snoc r4 (Rs.ext ((bH.trans e3).trans e4) ps cG),s4,((ex.trans bH).trans e3).trans e4,e4.get (e3.get ha),h4⟩⟩
    |false=>exact ⟨m,jW m,by omega,by omega,ps,aY,am,Rs.ext (bH.trans e3) ps cG,s3,(ex.trans bH).trans e3,e3.get ha,h3⟩⟩
end
end Mi
namespace PySem
def Heap.IsRevT (h:Heap) (a l:Addr) (i:Int):Prop:=∃o,h.get? a=some o/\o.cls=.type "reversed" /\ o.data=.fields #[.ref l,rawInt i]
section
open PyProof.Rows
def Heap.IsRevT.at {h h':Heap}{a l:Addr}{i:Int}(x:h.IsRevT a l i) (e:∀o,h.get? a=some o->h'.get? a=some o):h'.IsRevT a l i:=let ⟨o,ho,r⟩:=x;⟨o,e _ ho,r⟩
end
end PySem
namespace L2
open PySem PySem.Spec PyProof.Rows PySem.W
def Td (C:Addr) (i j:Nat) (tv:TX) (tsu:TS):TS:=λD U H=>tv U H (λv H1=>D.nx (U.set i (some v)) H1)
 (λc d H1=>c=.ref C/\∀a,H1 a=none->tsu { nx:=λai H'=>D.nx (ai.set j none) H',rt:=D.rt } (U.set j (some (.ref a))) (upd H1 a (gg C d a)))
def Te {X:Cx}{C:Addr}{i j:Nat}{x n cls:Str}{value:Expr}{tv:TX}{tsu:TS}{b0:Stmt}{bg:List Stmt}{xp ap cp hp pos:Pos}(hN:X.N.Nodup) (hi:X.N[i]?=some x) (hx:Loc X.env.scope x) (hj:X.N[j]?=some n) (hn:X.env.scope.names.lookup n=some .local)
  (hv:PX X value tv) (hg:Gl X cls) (hm:X.mg cls=some (.ref C)) (hC:fW X.K C) (kG:∀a,cA (X.caught a) (b0::bg) tsu) (bD:X.stack=X.env::X.outer) (dk:X.env.frame=some X.env.locals)
  (gW:swapsWith value (some (.Name x xp)) ap.line X.env=pure false:=by rfl) (hf:X.fn x=true\/X.env.scope.names.lookup x=some .local:=by first|exact .inl rfl|exact .inr rfl|assumption) (bR:(cls==("__debug__" : Str))=false:=by decide) :
  PS X (.Try [.Assign [.Name x xp] value ap] [.ExceptHandler (some (.Name cls cp)) (some n) (b0::bg) hp] [] [] pos) (Td C i j tv tsu):=by
 intro pins s U H D I h
 rw [arm_exec_Try]
 refine zu (wpAny_standAt (wpAny_tryStmt_except (wpAny_execs_cons (wpAny_Assign_Name (yY (hv pins s U H _ _ I h) (λv s1 ⟨y,H1,I1,r1,q1⟩=>mG I1 hN hi hx r1 (λs2 I2=>?_) hf) (λu s1 ⟨a,C',d,H1,eu,I1,A9,ec,q⟩=>?_)) gW))))
 ·exact wpAny_execs_nil (wpAny_execs_nil ⟨_,H1,I2,q1⟩)
 subst eu
 cases ec
 refine xF I1 I.ok.frames bD dk A9 λs2 T I2 x2 ne qy oa oT=>qu I2 x2 ne qy oa oT λs3 I3 x3 ni=>?_
 refine wpAny_handleBy_cons (codeAny_handlers_test ?_) (by intro q;cases q)
 refine kY (X:=X.caught a) (Inv.caught I3 a) hg hm ?_ bR
 obtain ⟨⟨nm,q',N,bs,bm,cT,sn,sub,ab,col,dd,k0,k1,k2,k3,k5,hl,ht,_⟩,_⟩:=hC
 have pe:=I3.kIn _ _ hl
 have cU:bm.contains (.type "BaseException")=true:=(tail_of_in I3.kIn ht).hasType (by decide)
 obtain ⟨oe,vs,he,gG,_⟩:=id x3
 refine wpAny_excMatches_sub_self (h:=s3.heap) (g:=s3.gens) (d:=s3.drawn) (t:=s3.toks) (os:=s3.os) pe he gG cU ?_
 refine codeAny_handlers_suite_as (qu I3 x3 ne ni oa oT λs4 I4 x4 S9=>?_)
 have I5:=Inv.catch I4 oa x4
 refine mG I5 hN hj (.inl hn) (v:=.ref a) rfl (λs5 I6=>?_) (.inr hn)
 refine yY (kG a pins s5 _ _ _ (Inv.caught I6 a) (q a oa.1)) (λf s6 z=>?_) λ_ _ z=>z.elim
 cases f with
 |next =>
  obtain ⟨ai,H',I7,q7⟩:=z
  exact tK (Inv.uncaught I.ok I7) hN hj hn λs7 I8=>⟨_,H',I8,q7⟩
 |brk=>obtain ⟨_,_,_,z⟩:=z;exact z.elim
 |cont=>obtain ⟨_,_,_,z⟩:=z;exact z.elim
 |ret u =>
  obtain ⟨v,ai,H',I7,r7,q7⟩:=z
  exact tK (Inv.uncaught I.ok I7) hN hj hn λs7 I8=>⟨v,_,H',I8,r7,q7⟩
end L2
namespace Mi
open PySem L2 PySem.W PySem.Spec
section
variable {X:Cx} {Er:XK} {pos:Pos}
def lZ (i j:Nat) (cn:Str) (fv:Ai) (bg:Aj):Aj:=λenv st=>match fv env st with
 |.ok x ae=>.ok (.nx (env.set i (some x))) ae
 |.err c ks xs ae=>if c=cn/\ks≠[] then (bE (bg (env.set j (some (.exo c ks xs))) ae)).bind (qR j) else .stuck
 |.stuck=>.stuck
def Tf (i j:Nat) {x n cn:Str}{value:Expr}{fv:Ai}{gs:Aj}{b0:Stmt}{bg:List Stmt}{xp ap cp hp:Pos}{C:Addr}(hm:X.mg cn=some (.ref C)) (hC:fW X.K C) (hv:MX X value fv) (kG:∀a,eP (X.caught a) E0 (b0::bg) gs) (hN:X.N.Nodup)
  (bD:X.stack=X.env::X.outer:=by rfl) (dk:X.env.frame=some X.env.locals:=by rfl) (hi:X.N[i]?=some x:=by rfl) (hx:Loc X.env.scope x:=by first|exact Or.inl rfl|exact Or.inr rfl) (hj:X.N[j]?=some n:=by rfl) (hn:X.env.scope.names.lookup n=some .local:=by rfl) (hg:Gl X cn:=by rfl)
  (gW:swapsWith value (some (.Name x xp)) ap.line X.env=pure false:=by rfl) (hf:X.fn x=true\/X.env.scope.names.lookup x=some .local:=by first|exact .inl rfl|exact .inr rfl|assumption) (bR:(cn==("__debug__" : Str))=false:=by decide) :
  MS X Er (.Try [.Assign [.Name x xp] value ap] [.ExceptHandler (some (.Name cn cp)) (some n) (b0::bg) hp] [] [] pos) (lZ i j cn fv gs) :=
 PS.weak (Te (tsu:=sM X.K X.mg E0 gs) hN hi hx hj hn hv hg hm hC kG bD dk gW hf bR) λD U H ⟨env,st,ρ,re,rs,h⟩=>by
  refine ⟨env,st,ρ,re,rs,?_⟩
  unfold lZ at h
  cases hr:fv env st with
  |ok y ae =>
   rw [hr] at h
   exact λag H1 e1 s1 v rv=>h ag H1 e1 s1 _ ((re.ext e1).set i rv)
  |stuck=>rw [hr] at h;exact h.elim
  |err c ks xs ae =>
   simp only [hr] at h
   obtain ⟨⟨Ba,hk⟩,h2⟩:=Out.ifp h
   subst Ba
   intro ag H1 Cv d e1 s1 xr
   obtain ⟨C',rfl,hm',hd⟩:=xr
   rw [hm] at hm'
   cases hm'
   refine ⟨rfl,λq hq=>?_⟩
   rcases hd with ⟨Bb,_⟩|⟨dd,vs,rfl,Bc,hR,hl⟩
   ·exact absurd Bb hk
   ·have eq:Ext ag H1 ag (upd H1 q (gg C (some dd) q)):=Ext.new hq
    refine ⟨env.set j (some (.exo c ks xs)),ae,ag,((re.ext e1).ext eq).set j ⟨q,C,dd,vs,rfl,hm,yN,eq.imm _ _ Bc rfl,Rs.ext eq xs hR,hl⟩,s1.new hq,jM (Out.ext h2 (e1.trans eq)) λao H2 fl au e2 s2 h2=>?_⟩
    cases fl with
    |nx e=>exact λaD r2=>Out.fl (D:=D) (fl:=.nx (e.set j none)) (E:=Er) h2 s2 _ (r2.unset j)
    |rt v=>exact Out.fl (D:=D) (fl:=.rt v) (E:=Er) h2 s2
    |_=>exact h2.elim
def Ti (i j:Nat) {x n cn:Str}{value:Expr}{fv:Ai}{gs:Aj}{b0:Stmt}{bg:List Stmt}{xp ap cp hp:Pos}(hC:∃C,X.mg cn=some (.ref C)/\fW X.K C) (hv:MX X value fv) (kG:∀a,eP (X.caught a) E0 (b0::bg) gs) (hN:X.N.Nodup)
  (bD:X.stack=X.env::X.outer:=by rfl) (dk:X.env.frame=some X.env.locals:=by rfl) (hi:X.N[i]?=some x:=by rfl) (hx:Loc X.env.scope x:=by first|exact Or.inl rfl|exact Or.inr rfl) (hj:X.N[j]?=some n:=by rfl) (hn:X.env.scope.names.lookup n=some .local:=by rfl) (hg:Gl X cn:=by rfl)
  (gW:swapsWith value (some (.Name x xp)) ap.line X.env=pure false:=by rfl) (hf:X.fn x=true\/X.env.scope.names.lookup x=some .local:=by first|exact .inl rfl|exact .inr rfl|assumption) (bR:(cn==("__debug__" : Str))=false:=by decide) :
  MS X Er (.Try [.Assign [.Name x xp] value ap] [.ExceptHandler (some (.Name cn cp)) (some n) (b0::bg) hp] [] [] pos) (lZ i j cn fv gs):=by
 obtain ⟨C,h1,h2⟩:=hC
 exact Tf i j h1 h2 hv kG hN bD dk hi hx hj hn hg gW hf bR
end
end Mi
abbrev Mi.Au (n:Nat):Option Mi.PV:=some (.ref n)
abbrev Mi.Av (n:Nat):Option Mi.PV:=some (.int n)
abbrev Mi.Ar (i:Int):=Mi.mC (.int i)
abbrev Mi.As (z:PySem.Str):=Mi.mC (.str z)
namespace FK63
open PySem L2 PySem.W Mi
def top (i:Nat):Stmt:=PySem.Challenge.pw_foreknown_k63_faults_and_ifs_made.main.body.getD i (.Pass ⟨0,0,0,0⟩)
abbrev Gj:Stmt:=top 79
abbrev Gk:Stmt:=top 80
abbrev Gm:Stmt:=top 81
abbrev Gn:Stmt:=top 82
abbrev Be:Stmt:=top 83
abbrev Gp:Stmt:=top 85
abbrev zf3:Stmt:=top 84
abbrev Bf:Stmt:=top 86
abbrev Gq:Stmt:=top 87
abbrev Gr:Stmt:=top 15
abbrev Gs:Stmt:=top 23
abbrev Gu:Stmt:=top 17
abbrev zf4:Stmt:=top 21
abbrev Gv:Stmt:=top 11
abbrev Gw:Stmt:=top 18
abbrev zf5:Stmt:=top 19
abbrev Gx:Stmt:=top 10
abbrev Gy:Stmt:=top 13
abbrev Gz:Stmt:=top 28
abbrev GA:Stmt:=top 12
abbrev GB:Stmt:=top 30
abbrev zf6:Stmt:=top 31
abbrev GC:Stmt:=top 75
abbrev GD:Stmt:=inClass (top 73) 0
abbrev GF:Stmt:=top 6
abbrev zf7:Stmt:=top 71
abbrev GG:Stmt:=inClass (top 73) 1
abbrev zf8:Stmt:=top 22
abbrev GH:Stmt:=inClass (top 67) 0
abbrev GI:Stmt:=inClass (top 68) 0
abbrev GJ:Stmt:=inClass (top 74) 0
abbrev GK:Stmt:=top 69
abbrev zf9:Stmt:=inClass (top 74) 1
abbrev GL:Stmt:=inClass (top 67) 2
abbrev GN:Stmt:=inClass (top 68) 2
abbrev zga:Stmt:=inClass (top 74) 4
abbrev GP:Stmt:=top 61
abbrev GQ:Stmt:=top 44
abbrev GR:Stmt:=top 48
abbrev GS:Stmt:=top 4
abbrev GU:Stmt:=top 39
abbrev GV:Stmt:=top 41
abbrev GW:Stmt:=top 43
abbrev GX:Stmt:=top 40
abbrev GY:Stmt:=top 47
abbrev GZ:Stmt:=top 5
abbrev G0:Stmt:=top 7
abbrev G3:Stmt:=top 8
abbrev G8:Stmt:=inClass (top 63) 1
abbrev G9:Stmt:=inClass (top 63) 0
abbrev G_:Stmt:=top 64
abbrev zgb:Stmt:=inClass (top 74) 2
abbrev Ha:Stmt:=inClass (top 67) 1
abbrev Hb:Stmt:=inClass (top 68) 1
abbrev Hc:Stmt:=top 62
abbrev zeq:Stmt:=top 14
abbrev Hd:Stmt:=inClass (top 74) 9
abbrev He:Stmt:=inClass (top 74) 8
abbrev Hf:Stmt:=inClass (top 74) 7
abbrev Hg:Stmt:=top 76
abbrev Hh:Stmt:=top 77
abbrev zgc:Stmt:=top 20
abbrev Hi:Stmt:=inClass (top 25) 0
abbrev Hj:Stmt:=inClass (top 25) 1
abbrev Hk:Stmt:=inClass (top 25) 3
abbrev zgd:Stmt:=top 24
abbrev Hl:Stmt:=top 26
abbrev zcf:Stmt:=top 88
abbrev zge:Stmt:=inClass (top 34) 0
def wl:Ad:=match Be with
 |.FunctionDef _ _ body ..=>match body.getD 4 (.Pass ⟨0,0,0,0⟩) with
  |.If _ [.Return (some (.Tuple [_,.Tuple [_,.Subscript (.List es ..) ..] ..] ..)) ..] ..=>(om es).getD []
  |_=>[]
 |_=>[]
def insOf (c:Str):Bool:=decide (c = "Holding")||decide (c = "KeyRing")||decide (c = "Known")||decide (c = "Later")||decide (c = "Making")||decide (c = "Op")
def excOf (c:Str):Bool:=decide (c = "Fault")
def isT:IsT where
 isx c:=false
 sub c B :=  none
 subT c n :=  none
 tyC _ _:=none
def js:Ad:=["add", "mul", "div", "same", "down"]
def ju:An:=[.tup [.tup [.str "number", .str "number"],.fn "tell_add"],.tup [.tup [.str "number", .str "number"],.fn "tell_mul"],.tup [.tup [.str "number", .str "number"],.fn "tell_div"],.tup [.tup [.str "any", .str "any"],.fn "tell_same"],.tup [.tup [.str "number"],.fn "tell_down"]]
abbrev zgf:Bool:=false
structure Txt (w:World) (K:Frag) (mg:Ab):Prop where
 f__law_cell_at:FnF K mg "_law_cell_at" Gj ["_law_script", "_law_k"]
 f__law_number:FnF K mg "_law_number" Gk ["_law_cell"]
 f__law_atom:FnF K mg "_law_atom" Gm ["_law_cell", "_law_names"]
 f__law_steps:FnF K mg "_law_steps" Gn ["_law_cell", "_law_names", "_law_count"]
 f__law_block:FnF K mg "_law_block" Be ["_law_cells", "_law_at", "_law_names", "_law_count"]
 f__law_atom_left:FnF K mg "_law_atom_left" Gp ["_law_atom_here", "_law_things"]
 f__law_told:FnF K mg "_law_told" zf3 ["_law_op", "_law_some"]
 f__law_steps_left:FnF K mg "_law_steps_left" Bf ["_law_some", "_law_things", "_law_held", "_law_left_here"]
 f__law_left:FnF K mg "_law_left" Gq ["_law_block_here", "_law_things", "_law_held"]
 f_functions_by_name:FnF K mg "functions_by_name" Gr ["program"]
 f_marked:FnF K mg "marked" Gs ["names"]
 f_is_later_at:FnF K mg "is_later_at" Gu ["bits", "place"]
 f_later_params:FnF K mg "later_params" zf4 ["function", "bits"]
 f_lines_of:FnF K mg "lines_of" Gv ["block"]
 f_bits_of:FnF K mg "bits_of" Gw ["truths"]
 f_need:FnF K mg "need" zf5 ["atoms", "later"]
 f_is_step:FnF K mg "is_step" Gx ["line"]
 f_atoms_of:FnF K mg "atoms_of" Gy ["line"]
 f_broken_name:FnF K mg "broken_name" Gz ["line", "later"]
 f_aim_of:FnF K mg "aim_of" GA ["line"]
 f_broken_form:FnF K mg "broken_form" GB ["function", "form", "pairs"]
 f_broken:FnF K mg "broken" zf6 ["program", "parting"]
 f_forms_by_pair:FnF K mg "forms_by_pair" GC ["parting"]
 n_KeyRing:NwF K mg "KeyRing" "KeyRing.__init__" GD ["self", "limit"]
 f_kind_of:FnF K mg "kind_of" GF ["value"]
 f_show_value:FnF K mg "show_value" zf7 ["value"]
 m_KeyRing_name_for:MtF K mg "KeyRing" "name_for" "KeyRing.name_for" GG ["self", "key"]
 f_known_params:FnF K mg "known_params" zf8 ["function", "bits"]
 n_Known:NwF K mg "Known" "Known.__init__" GH ["self", "value"]
 n_Later:NwF K mg "Later" "Later.__init__" GI ["self", "name"]
 n_Making:NwF K mg "Making" "Making.__init__" GJ ["self", "ring", "function", "form", "values"]
 f_thing_of:FnF K mg "thing_of" GK ["atom", "things"]
 m_Making_things_at:MtF K mg "Making" "things_at" "Making.things_at" zf9 ["self", "atoms"]
 m_Known_atom:MtF K mg "Known" "atom" "Known.atom" GL ["self"]
 m_Later_atom:MtF K mg "Later" "atom" "Later.atom" GN ["self"]
 m_Making_left_let:MtF K mg "Making" "left_let" "Making.left_let" zga ["self", "step"]
 f_check_kinds:FnF K mg "check_kinds" GP ["kinds", "values"]
 f_tell_div:FnF K mg "tell_div" GQ ["values"]
 f_tell_down:FnF K mg "tell_down" GR ["values"]
 f_in_bounds:FnF K mg "in_bounds" GS ["number"]
 f_within_bounds:FnF K mg "within_bounds" GU ["number"]
 f_tell_add:FnF K mg "tell_add" GV ["values"]
 f_tell_mul:FnF K mg "tell_mul" GW ["values"]
 f_number_of:FnF K mg "number_of" GX ["truth"]
 f_tell_same:FnF K mg "tell_same" GY ["values"]
 f_things_within:FnF K mg "things_within" GZ ["thing"]
 f_all_within:FnF K mg "all_within" G0 ["thing"]
 f_parts:FnF K mg "parts" G3 ["value"]
 m_Op_answer:MtF K mg "Op" "answer" "Op.answer" G8 ["self", "values"]
 n_Op:NwF K mg "Op" "Op.__init__" G9 ["self", "word"]
 f_op_of:FnF K mg "op_of" G_ ["word"]
 m_Making_answer_ahead:MtF K mg "Making" "answer_ahead" "Making.answer_ahead" zgb ["self", "step"]
 m_Known_ahead:MtF K mg "Known" "ahead" "Known.ahead" Ha ["self"]
 m_Later_ahead:MtF K mg "Later" "ahead" "Later.ahead" Hb ["self"]
 f_chooses_first:FnF K mg "chooses_first" Hc ["value"]
 f_aims_of:FnF K mg "aims_of" zeq ["block"]
 m_Making_decided:MtF K mg "Making" "decided" "Making.decided" Hd ["self", "end", "value", "place"]
 m_Making_made_end:MtF K mg "Making" "made_end" "Making.made_end" He ["self", "end", "place"]
 m_Making_made_block:MtF K mg "Making" "made_block" "Making.made_block" Hf ["self", "block", "place"]
 f_made_function:FnF K mg "made_function" Hg ["ring", "key", "function", "form"]
 f_make:FnF K mg "make" Hh ["program", "parting", "known", "limit"]
 f_held_bits:FnF K mg "held_bits" zgc ["function", "held"]
 n_Holding:NwF K mg "Holding" "Holding.__init__" Hi ["self", "program", "held"]
 m_Holding_makes_later:MtF K mg "Holding" "makes_later" "Holding.makes_later" Hj ["self", "name", "step", "later"]
 m_Holding_best_form:MtF K mg "Holding" "best_form" "Holding.best_form" Hk ["self", "function", "bits"]
 f_aimed_pairs:FnF K mg "aimed_pairs" zgd ["function", "goals"]
 f_best:FnF K mg "best" Hl ["program", "bits", "held"]
 f_law:FnF K mg "law" zcf ["_law_script"]
 x_Fault:XnF K mg "Fault" "word" "Fault.__init__" zge
 b_abs:mg "abs" = none
 b_all:mg "all" = none
 b_any:mg "any" = none
 b_dict:mg "dict" = none
 b_enumerate:mg "enumerate" = none
 b_int:mg "int" = none
 b_isinstance:mg "isinstance" = none
 b_len:mg "len" = none
 b_list:mg "list" = none
 b_range:mg "range" = none
 b_str:mg "str" = none
 b_tuple:mg "tuple" = none
 b_zip:mg "zip" = none
 c_MOST_PARTS:∃t,mg "MOST_PARTS" = some (.int 60 t)
 c_NUMBER_BOUND:∃t,mg "NUMBER_BOUND" = some (.int 1000000000000000000 t)
 d_bits_by_name:FldF K mg "bits_by_name" insOf excOf
 d_goals:FldF K mg "goals" insOf excOf
 d_later:FldF K mg "later" insOf excOf
 d_limit:FldF K mg "limit" insOf excOf
 d_many:FldF K mg "many" insOf excOf
 d_met:FldF K mg "met" insOf excOf
 d_name:FldF K mg "name" insOf excOf
 d_names:FldF K mg "names" insOf excOf
 d_pairs:FldF K mg "pairs" insOf excOf
 d_ring:FldF K mg "ring" insOf excOf
 d_things:FldF K mg "things" insOf excOf
 d_value:FldF K mg "value" insOf excOf
 d_word:FldF K mg "word" insOf excOf
 is:IsF K mg isT
 kd_OPS:∀X:Cx,X.K=K->X.mg=mg->X.w=w->KdF X "OPS" js ju zgf
section
variable {P:Program} {w:World} {K:Frag} {mg:Ab} {base:Heap}
set_option hygiene false in
local macro_rules
|`(tactic|exact $s:str)=>do
 let ts<-(s.getString.splitOn " ").toArray.mapM λ(w:String)=>do
  let p:=(w.drop 1).toString
  let i:Lean.TSyntax `term:=if p.all Char.isDigit then ⟨(Lean.Syntax.mkNumLit p).raw⟩ else ⟨(Lean.mkIdent p.toName).raw⟩
  match w.toList.headD 'a' with
  |'a'=>`(tactic|refine $i ?_ ?_)
  |'b'=>`(tactic|exact (ze $i))
  |'c'=>`(tactic|exact $i)
  |'d'=>`(tactic|refine $i ?_)
  |'e'=>`(tactic|refine zB ?_ ?_ ?_ ?_)
  |'f'=>`(tactic|exact λ_ _=>rfl)
  |'g'=>`(tactic|exact (zC (zm hr)))
  |'h'=>`(tactic|refine yb ($i T) (hr.mono (by decide)) zO ?_)
  |'i'=>`(tactic|refine yd $i ?_ ?_)
  |'j'=>`(tactic|refine yf $i ?_ ?_)
  |'k'=>`(tactic|refine yj ?_ ?_ ?_)
  |'l'=>`(tactic|refine yk ($i (zm hr)) ?_ ?_)
  |'m'=>`(tactic|refine zg ?_ ?_)
  |'n'=>`(tactic|exact (jf (zm hr) (zC (zm hr))))
  |'o'=>`(tactic|refine lS (N:=["_law_some", "_law_things", "_law_held", "_law_left_here", "_law_step", "_law_atoms", "_law_word", "_law_found"]) rfl (by exact ⟨rfl,by decide +kernel,by decide +kernel,rfl,by show ∀y:Str×NameKind,y∈_->y.2=NameKind.free->List.lookup y.1 (zG Bf).names=some NameKind.cell;decide +kernel⟩) rfl (by decide +kernel) ?_ ?_)
  |'p'=>`(tactic|refine yS jx T.b_tuple jj ?_)
  |'q'=>`(tactic|exact zl)
  |'r'=>`(tactic|refine wz (jK rfl rfl) rfl ?_ ?_ ?_)
  |'s'=>`(tactic|exact zo)
  |'t'=>`(tactic|refine ji wf T.b_len we ?_)
  |'u'=>`(tactic|refine wc (λc m h=>$i T h) ?_ (hr.mono (by decide)) zO ?_)
  |'v'=>`(tactic|refine jd $i ?_)
  |'w'=>`(tactic|intro _ _ _ _ _)
  |'x'=>`(tactic|refine zx ?_ ?_)
  |'y'=>`(tactic|refine yb ($i T) (hr.mono (by omega)) zO ?_)
  |'z'=>`(tactic|refine zA ?_)
  |'A'=>`(tactic|refine S_ ($i T) (hr.mono (by decide)) zO ?_)
  |'B'=>`(tactic|refine ji (PU T.is) T.b_isinstance Qr ?_)
  |'C'=>`(tactic|refine yk $i ?_ ?_)
  |'D'=>`(tactic|refine SY (N:=["function", "bits"]) rfl (by exact ⟨rfl,by decide +kernel,by decide +kernel,by show ∀y:Str×NameKind,y∈_->y.2=NameKind.free->List.lookup y.1 (zG $i).names=some NameKind.cell;decide +kernel⟩) rfl (by decide +kernel) T.b_enumerate ?_ ?_ ?_)
  |'E'=>`(tactic|refine $i ?_ ?_ ?_ ?_ ?_)
  |'F'=>`(tactic|refine wO ($i (zm hr)) ?_ ?_)
  |'G'=>`(tactic|refine yb kH (hr.mono (by omega)) $i ?_)
  |'H'=>`(tactic|refine wG $i ?_ ?_)
  |'I'=>`(tactic|refine wc (λc m h=>AZ kH h) ?_ (hr.mono (by omega)) zO ?_)
  |'J'=>`(tactic|refine zS ?_)
  |'K'=>`(tactic|refine yb ($i T 5) (hr.mono (by decide)) zO ?_)
  |'L'=>`(tactic|refine yb ($i T) (hr.mono (by decide)) za5 ?_)
  |'M'=>`(tactic|exact (ze 0))
  |'N'=>`(tactic|exact yc)
  |'O'=>`(tactic|refine Qh (Tj T) ?_ (hr.mono (by decide)) zO rfl)
  |'P'=>`(tactic|exact (zm hr))
  |'Q'=>`(tactic|refine yg ?_)
  |'R'=>`(tactic|exact yl)
  |'S'=>`(tactic|refine ET (λc m h=>$i T h) ?_ (hr.mono (by omega)) zO)
  |'T'=>`(tactic|exact (ze 1))
  |'U'=>`(tactic|refine $i (T.kd_OPS _ rfl rfl rfl) ?_)
  |'V'=>`(tactic|refine Qg (jK rfl rfl) ?_ ?_)
  |'W'=>`(tactic|refine yS Rk T.b_str Fd ?_)
  |'X'=>`(tactic|refine yS (Rw rfl) T.b_list Qs ?_)
  |'Y'=>`(tactic|refine wc (λc m h=>AZ ($i T hk kH) h) ?_ (hr.mono (by omega)) zO ?_)
  |'Z'=>`(tactic|refine Rh (jK rfl rfl) rfl T.b_enumerate ?_ ?_ ?_)
  |'0'=>`(tactic|exact (oV T.b_tuple jj))
  |'1'=>`(tactic|refine yk (yC (zm hr)) ?_ ?_)
  |'2'=>`(tactic|exact (ze 2))
  |'3'=>`(tactic|exact wC.nd)
  |'4'=>`(tactic|refine wO (Sy (zm hr) (zca (zm hr))) ?_ ?_)
  |'5'=>`(tactic|refine Qf T.b_zip ?_)
  |'6'=>`(tactic|refine jo ?_)
  |'7'=>`(tactic|exact (wP 4 $i))
  |'8'=>`(tactic|refine jd T.d_things ?_)
  |'9'=>`(tactic|exact jz)
  |'!'=>`(tactic|exact Bg.nd)
  |'#'=>`(tactic|exact (ze 3))
  |'$'=>`(tactic|refine Pd Ph ?_)
  |'&'=>`(tactic|exact ⟨rfl,by decide +kernel,by decide +kernel,rfl,by show ∀y:Str×NameKind,y∈_->y.2=NameKind.free->List.lookup y.1 (zG $i).names=some NameKind.cell;decide +kernel⟩)
  |'('=>`(tactic|exact ⟨rfl,by decide +kernel,by decide +kernel,by show ∀y:Str×NameKind,y∈_->y.2=NameKind.free->List.lookup y.1 (zG $i).names=some NameKind.cell;decide +kernel⟩)
  |'*'=>`(tactic|first|exact Or.inl rfl|exact Or.inr rfl)
  |'+'=>`(tactic|first|exact .inl rfl|exact .inr rfl|assumption)
  |'%'=>`(tactic|exact ⟨rfl,rfl,rfl,by decide +kernel,rfl,by decide +kernel,by decide +kernel⟩)
  |_=>Lean.Macro.throwUnsupported
 `(tactic|($[$ts]*))
theorem Tn:aq ["self", "word"] ["self", "word"] (zG zge):=by exact "%"
def Tj (T:Txt w K mg):x8 P w K mg base "Fault" "word" := T.x_Fault.ok Tn λ_ _ _ _ _ _ _ _ _=>CM (Od (pv 0) (pv 1) rfl)
theorem To:aq ["_law_script", "_law_k"] ["_law_script", "_law_k"] (zG Gj):=by exact "%"
def Tp:Aj :=
  zt (zW (mB (zf jX (za 1) (zq yH (zd (za 0) zh))))
  (zJ (zf zk (za 0) (za 1)))
  z0) (zJ (Ar 0))
def wS:Al:=zK 2 2 (Tp)
def zc8 (T:Txt w K mg):a5 P w K mg base "_law_cell_at" 1 wS:=T.f__law_cell_at.ok (k:=0) To λ_ _ _ _ _ _ _ hr=>by
 exact "x k Czae T t m M q z J e g M T f R z J s"
theorem Tq:aq ["_law_cell"] ["_law_cell"] (zG Gk):=by exact "%"
def Tr:Aj :=
  zt (zW (mB (zf zZ (zf yF (za 0) (Ar 8)) (Ar 7)))
  (zJ (zf lF (zf yF (zf jh (za 0) (Ar 8)) (zf lF (zf wB (Ar 2) (zf iq (Ar 10) (Ar 18))) (Ar 1))) (zf lF (zf iq (Ar 10) (Ar 18)) (Ar 1))))
  z0) (zJ (zf lF (zf yF (zf jh (za 0) (Ar 8)) (Ar 6)) (Ar 1)))
def pq:Al:=zK 1 1 (Tr)
def zkq (T:Txt w K mg):a5 P w K mg base "_law_number" 1 pq:=T.f__law_number.ok (k:=0) Tq λ_ _ _ _ _ _ _ hr=>by
 exact "x k 1 ijR M s s z J izb3 ijR iwF M s izb3 izbA s izd1 s s s izb3 izd1 s s s R z J izb3 ijR iwF M s s s"
theorem Ts:aq ["_law_cell", "_law_names"] ["_law_cell", "_law_names"] (zG Gm):=by exact "%"
def Tt:Aj :=
  zt (zW (mB (zf zZ (zf yF (za 0) (Ar 5)) (Ar 0)))
  (zJ (zU (zd (As "is") (zd (zq pq (zd (zf jh (za 0) (Ar 5)) zh)) zh))))
  z0) (zt (zW (mB (zf zZ (zf yF (za 0) (Ar 5)) (Ar 1)))
  (zJ (zU (zd (As "of") (zd (zf zk (za 1) (yq oU (Ar 1))) zh))))
  z0) (zJ (zU (zd (As "of") (zd (zf zk (za 1) (zf yF (zf jh (za 0) (Ar 5)) (zq yH (zd (za 1) zh)))) zh)))))
def kI:Al:=zK 2 2 (Tt)
def zgg (T:Txt w K mg):a5 P w K mg base "_law_atom" 2 kI:=T.f__law_atom.ok (k:=1) Ts λ_ _ _ _ _ _ _ hr=>by
 exact "x k 1 ijR M s s z J Q m N m hzkq m iwF M s q q R x k 1 ijR M s s z J Q m N m e g T $ s f q R z J Q m N m e g T ijR iwF M s t m T q f q"
theorem zbG:aq ["_law_cell", "_law_names", "_law_count", "_law_steps_here", "_law_k", "_law_mark", "_law_op", "_law_atoms"] ["_law_cell", "_law_names", "_law_count"] (zG Gn):=by exact "%"
def Tu:Aj :=
  zt (zQ 3 (jA zh)) (zt (jq (eL (zd (zf yF (za 0) (Ar 4)) zh)) (gN 4)
  (zt (zQ 5 (zf wB (zf yG (zf jh (za 0) (Ar 4)) (Ar 1)) (zf yG (Ar 48271) (zf wB (Ar 2) (za 4)))))
  (zt (zQ 6 (zf zk (jA (pd ["div", "down", "add", "mul", "same"])) (zf yF (zf jh (za 5) (Ar 7)) (Ar 5))))
  (zt (zQ 7 (zU (zd (zq kI (zd (zf yF (za 5) (Ar 1009)) (zd (za 1) zh))) (zd (zq kI (zd (zf yF (zf jh (za 5) (Ar 11)) (Ar 2003)) (zd (za 1) zh))) zh))))
  (zt (zW (mB (zf zZ (za 6) (As "down")))
  (zQ 7 (kg (za 7) gQ (dc (Ar 1))))
  z0)
  (zt (je (jr jp (za 2) (Ar 0)))
  (zt (je (jr jp (za 1) (zf yG (As "s") (zq wY (zd (zq yH (zd (za 2) zh)) zh)))))
  (je (jr jp (za 3) (zU (zd (As "let") (zd (zf zk (za 1) (yq oU (Ar 1))) (zd (za 6) (zd (za 7) zh)))))))))))))) (zJ (zq yQ (zd (za 3) zh))))
def Bh:Al:=zK 3 8 (Tu)
theorem zs2 (T:Txt w K mg):a5 P w K mg base "_law_steps" 3 Bh:=T.f__law_steps.ok (k:=2) zbG λ_ _ _ _ _ _ _ hr=>by
 exact "x j3 dj8 q czbG.nd x r"
 refine E_ T.b_range ?_
 exact "m ijR M s q 7zbG.nd x j5 izbA ijB iwF M s s ijB s izbA s b4 czbG.nd x j6 e g dj8 dzjh"
 decide +kernel
 exact "ijR iwF b5 s s f czbG.nd x j7 Q m hzgg m ijR b5 s m T q m hzgg m ijR iwF b5 s s m T q q czbG.nd x k 1 b6 N z j7"
 refine EO ?_ ?_ ?_
 exact "b7 czqa dzfu s czbG.nd R x dww azaf 2 s x dww azaf T ijB N W m t m 2 q q z dww azaf # Q m N m e g T $ s f m b6 m b7 q z J p m # q"
theorem zbH:aq ["_law_cells", "_law_at", "_law_names", "_law_count", "_law_cell", "_law_steps_here", "_law_test", "_law_one", "_law_other"] ["_law_cells", "_law_at", "_law_names", "_law_count"] (zG Be):=by exact "%"
def Hm (mr:Al):Aj :=
  zt (zW (j0 (mB (zf jX (za 1) (Ar 7))) (mB (zf nr (zf yF (za 4) (Ar 7)) (Ar 1))))
  (zt (zQ 7 (zq mr (zd (za 0) (zd (zf yG (zf wB (Ar 2) (za 1)) (Ar 1)) (zd (zq wH (zd (za 2) zh)) (zd (za 3) zh))))))
  (zt (zQ 8 (zq mr (zd (za 0) (zd (zf yG (zf wB (Ar 2) (za 1)) (Ar 2)) (zd (zq wH (zd (za 2) zh)) (zd (za 3) zh))))))
  (zJ (zU (zd (za 5) (zd (zU (zd (As "if") (zd (za 6) (zd (za 7) (zd (za 8) zh))))) zh))))))
  z0) (zt (zW (mB (zf zZ (zf yF (za 4) (Ar 7)) (Ar 0)))
  (zJ (zU (zd (za 5) (zd (zU (zd (As "fail") (zd (zf zk (jA (pd wl)) (zf yF (zf jh (za 4) (Ar 7)) (Ar 3))) zh))) zh))))
  z0) (zJ (zU (zd (za 5) (zd (zU (zd (As "give") (zd (za 6) zh))) zh)))))
def Hn (mr:Al):Aj :=
  zt (zQ 4 (zq wS (zd (za 0) (zd (za 1) zh)))) (zt (zQ 5 (zq Bh (zd (zf jh (za 4) (Ar 7)) (zd (za 2) (zd (za 3) zh))))) (zt (zQ 6 (zq kI (zd (zf yF (zf jh (za 4) (Ar 3)) (Ar 3001)) (zd (za 2) zh)))) (Hm mr)))
def rD (mr:Al):Al:=zK 4 9 (Hn mr)
theorem Tv (T:Txt w K mg) {k:Nat} (hk:3<=k) {mr:Al} (kH:a5 P w K mg base "_law_block" k mr):a5 P w K mg base "_law_block" (k+1) (rD mr):=T.f__law_block.ok (k:=k+0) zbH λ_ _ _ _ _ _ _ hr=>by
 exact "x j4 yzc8 m M m T q czbH.nd x j5 yzs2 m iwF b4 s m 2 m # q czbH.nd x j6 yzgg m ijR iwF b4 s s m 2 q czbH.nd x k dzaA azaX Czae T s dzbw CziA ijR b4 s s x j7 GzO m M m ijB izbA s T s m X m 2 q m # q czbH.nd x j8 GzO m M m ijB izbA s T s m X m 2 q m # q czbH.nd z J Q m b5 m Q m N m b6 m b7 m b8 q q R x k 1 ijR b4 s s z J Q m b5 m Q m N m e g dj8 dzjh"
 decide +kernel
 exact "ijR iwF b4 s s f q q R z J Q m b5 m Q m N m b6 q q"
def iE:Nat->Al
 |0=>zK 4 9 yT
 |n+1=>rD (iE n)
theorem zkt (T:Txt w K mg):∀n,a5 P w K mg base "_law_block" (3+1+1*n) (iE n)
 |0=>T.f__law_block.ok (k:=3) zbH λf aU A outer s H E hr=>qZ
 |n+1=>(Tv T (by omega) (zkt T n)).mono (by omega)
theorem Tw:aq ["_law_atom_here", "_law_things"] ["_law_atom_here", "_law_things"] (zG Gp):=by exact "%"
def Tx:Aj :=
  zt (zW (j0 (mB (zf zZ (zf zk (za 0) (Ar 0)) (As "of"))) (mB (zf (yI false) (zf zk (za 0) (Ar 1)) (za 1))))
  (zJ (zU (zd (As "is") (zd (zf zk (za 1) (zf zk (za 0) (Ar 1))) zh))))
  z0) (zJ (za 0))
def l8:Al:=zK 2 2 (Tx)
def zku (T:Txt w K mg):a5 P w K mg base "_law_atom_left" 1 l8:=T.f__law_atom_left.ok (k:=0) Tw λ_ _ _ _ _ _ _ hr=>by
 exact "x k dzaA azaX 1 e g M s f N dzbw lzca e g M s f T z J Q m N m e g T e g M s f f q R z J M"
theorem zgi:aq ["_law_op", "_law_some", "_law_found"] ["_law_op", "_law_some"] (zG zf3):=by exact "%"
def Ho:Aj :=
  zt (zW (mB (zf jX (zq pf (zd (za 2) zh)) (zf iq (Ar 10) (Ar 18))))
  (zJ (zU (zd (mC .non) (zd (za 2) zh))))
  z0) (zJ (zU (zd (As "wide") (zd (mC .non) zh))))
def Hq:Aj :=
  zt (zW (mB (zf zZ (za 0) (As "same")))
  (zJ (zU (zd (mC .non) (zd (zq qF (zd (zf zZ (zf zk (za 1) (Ar 0)) (zf zk (za 1) (Ar 1))) zh)) zh))))
  z0) (zt (zW (mB (zf zZ (za 0) (As "down")))
  (zt (zW (mB (zf jX (zf zk (za 1) (Ar 0)) (Ar 1)))
  (zJ (zU (zd (As "low") (zd (mC .non) zh))))
  z0)
  (zJ (zU (zd (mC .non) (zd (zf lF (zf zk (za 1) (Ar 0)) (Ar 1)) zh)))))
  z0) (zt (zW (mB (zf zZ (za 0) (As "div")))
  (zt (zW (mB (zf zZ (zf zk (za 1) (Ar 1)) (Ar 0)))
  (zJ (zU (zd (As "nought") (zd (mC .non) zh))))
  z0)
  (zJ (zU (zd (mC .non) (zd (zf jh (zf zk (za 1) (Ar 0)) (zf zk (za 1) (Ar 1))) zh)))))
  z0) (zt (zQ 2 (zf wB (zf zk (za 1) (Ar 0)) (zf zk (za 1) (Ar 1)))) (zt (zW (mB (zf zZ (za 0) (As "add")))
  (zQ 2 (zf yG (zf zk (za 1) (Ar 0)) (zf zk (za 1) (Ar 1))))
  z0) (Ho)))))
def Hr:Aj :=
  zt (zW (j0 (ka (mB (zq AR (zd (yW (yA (za 1)) (zq (j7 isT) (zd (za 0) (zd (mC (.ty "int")) zh)))) zh)))) (mB (zf j9 (za 0) (As "same"))))
  (zJ (zU (zd (As "kind") (zd (mC .non) zh))))
  z0) (Hq)
def l9:Al:=zK 2 3 (Hr)
theorem zs6 (T:Txt w K mg):a5 P w K mg base "_law_told" 1 l9:=T.f__law_told.ok (k:=0) zgi λ_ _ _ _ _ _ _ hr=>by
 exact "x k dzaA azaX dzdZ djQ"
 refine ji (RG rfl) T.b_all RH ?_
 exact "m"
 refine lS (N:=["_law_op", "_law_some", "_law_found"]) rfl (by exact "&zf3") rfl (by decide +kernel) ?_ ?_
 exact "6 T w B m M m"
 exact (oV T.b_int uf)
 exact "q q dzbw lzb5 M N z J Q m N m 9 q R x k 1 M N z J Q m 9 m"
 refine yS ER T.b_int uf ?_
 exact "m FyC e g T s f e g T s f q q R x k 1 M N x k Czae e g T s f s z J Q m N m 9 q R z J Q m 9 m izb3 e g T s f s q R x k 1 M N x k 1 e g T s f s z J Q m N m 9 q R z J Q m 9 m iwF e g T s f e g T s f q R x j2 izbA e g T s f e g T s f czgi.nd x k 1 M N z j2 ijB e g T s f e g T s f czgi.nd R x k Czae"
 refine ji RS T.b_abs RT ?_
 exact "m 2 q izd1 s s z J Q m 9 m 2 q R z J Q m N m 9 q"
theorem zes:aq ["_law_some", "_law_things", "_law_held", "_law_left_here", "_law_step", "_law_atoms", "_law_word", "_law_found"] ["_law_some", "_law_things", "_law_held", "_law_left_here"] (zG Bf):=by exact "%"
def Tz:Aj :=
  zt (jq (yA (za 0)) (gN 4)
  (zt (zQ 5 (zq yQ (zd (yW (yA (zf zk (za 4) (Ar 3))) (zq l8 (zd (za 0) (zd (za 2) zh)))) zh)))
  (zW (j_ (mB (zf zZ (zf zk (za 4) (Ar 1)) (za 2))) (mB (zq ri (zd (yW (yA (za 5)) (zf zZ (zf zk (za 0) (Ar 0)) (As "of"))) zh))))
  (je (jr jp (za 3) (zU (zd (As "let") (zd (zf zk (za 4) (Ar 1)) (zd (zf zk (za 4) (Ar 2)) (zd (za 5) zh)))))))
  (zt (qL (g2 6 7) (zq l9 (zd (zf zk (za 4) (Ar 2)) (zd (yW (yA (za 5)) (zf zk (za 0) (Ar 1))) zh))))
  (zt (zW (mB (zf jT (za 6) (mC .non)))
  (zJ (za 6))
  z0)
  (jH (za 1) (zf zk (za 4) (Ar 1)) (za 7))))))) (zJ (mC .non))
def uD:Al:=zK 4 8 (Tz)
theorem zs8 (T:Txt w K mg):a5 P w K mg base "_law_steps_left" 2 uD:=T.f__law_steps_left.ok (k:=1) zes λ_ _ _ _ _ _ _ hr=>by
 exact "x r 6 M 7zes.nd x j5 p m o 6 e g b4 s f w Lzku m M m 2 q q czes.nd z k dzaA aziq 1 e g b4 s f 2 dzio djQ"
 refine ji (RO rfl) T.b_any RP ?_
 exact "m o 6 b5 w FyC e g M s f N q z dww azaf # Q m N m e g b4 s f m e g b4 s f m b5 q x azqp"
 exact (qK 6 7 rfl zes.nd)
 exact "hzs6 m e g b4 s f m o 6 b5 w e g M s f q x k CzaE b6 9 z J b6 R z EzaD P T e g b4 s f b7"
 rfl
 exact "z J 9"
theorem zbe:aq ["_law_block_here", "_law_things", "_law_held", "_law_left_here", "_law_word", "_law_end", "_law_atom_here", "_law_one"] ["_law_block_here", "_law_things", "_law_held"] (zG Gq):=by exact "%"
def TC (mr:Al):Aj :=
  zt (zQ 3 (jA zh)) (qO (mB (mC (.bl true)))
  (zt (zQ 4 (zq uD (zd (zf zk (za 0) (Ar 0)) (zd (za 1) (zd (za 2) (zd (za 3) zh))))))
  (zt (zW (mB (zf jT (za 4) (mC .non)))
  (zJ (zU (zd (zq yQ (zd (za 3) zh)) (zd (zU (zd (As "fail") (zd (za 4) zh))) zh))))
  z0)
  (zt (zQ 5 (zf zk (za 0) (Ar 1)))
  (zt (zW (mB (zf zZ (zf zk (za 5) (Ar 0)) (As "fail")))
  (zJ (zU (zd (zq yQ (zd (za 3) zh)) (zd (za 5) zh))))
  z0)
  (zt (zQ 6 (zq l8 (zd (zf zk (za 5) (Ar 1)) (zd (za 1) zh))))
  (zt (zW (mB (zf zZ (zf zk (za 5) (Ar 0)) (As "give")))
  (zJ (zU (zd (zq yQ (zd (za 3) zh)) (zd (zU (zd (As "give") (zd (za 6) zh))) zh))))
  z0)
  (zt (zW (mB (zf zZ (zf zk (za 6) (Ar 0)) (As "of")))
  (zt (zQ 7 (zq mr (zd (zf zk (za 5) (Ar 2)) (zd (zq nF (zd (za 1) zh)) (zd (za 2) zh)))))
  (zJ (zU (zd (zq yQ (zd (za 3) zh)) (zd (zU (zd (As "if") (zd (za 6) (zd (za 7) (zd (zq mr (zd (zf zk (za 5) (Ar 3)) (zd (zq nF (zd (za 1) zh)) (zd (za 2) zh)))) zh))))) zh)))))
  z0)
  (zt (zW (ka (mB (zq (j7 isT) (zd (zf zk (za 6) (Ar 1)) (zd (mC (.ty "int")) zh)))))
  (zJ (zU (zd (zq yQ (zd (za 3) zh)) (zd (zU (zd (As "fail") (zd (As "kind") zh))) zh))))
  z0)
  (zQ 0 (zf zk (za 5) (zf yG (Ar 2) (zq qF (zd (zf zZ (zf zk (za 6) (Ar 1)) (Ar 0)) zh))))))))))))))
def Bi (mr:Al):Al:=zK 3 8 (TC mr)
theorem TH (T:Txt w K mg) {k:Nat} (hk:2<=k) {mr:Al} (kH:a5 P w K mg base "_law_left" k mr):a5 P w K mg base "_law_left" (k+1) (Bi mr):=T.f__law_left.ok (k:=k+0) zbe λ_ _ _ _ _ _ _ hr=>by
 exact "x j3 dj8 q czbe.nd z V djQ czb2 x j4 yzs8 m e g M s f m T m 2 m # q czbe.nd x k CzaE b4 9 z J Q m p m # q m Q m N m b4 q q R x j5 e g M s f czbe.nd x k 1 e g b5 s f N z J Q m p m # q m b5 q R x j6 yzku m e g b5 s f m T q czbe.nd x k 1 e g b5 s f N z J Q m p m # q m Q m N m b6 q q R x k 1 e g b6 s f N x j7 GzO m e g b5 s f m"
 refine yS FX T.b_dict ug ?_
 exact "m T q m 2 q czbe.nd z J Q m p m # q m Q m N m b6 m b7 m GzO m e g b5 s f m"
 refine yS FX T.b_dict ug ?_
 exact "m T q m 2 q q q R x k dzdZ djQ B m e g b6 s f m"
 exact (oV T.b_int uf)
 exact "q z J Q m p m # q m Q m N m N q q R z j0 e g b5 ijB s"
 refine yS ER T.b_int uf ?_
 exact "m FyC e g b6 s f s q f czbe.nd"
def nI:Nat->Al
 |0=>zK 3 8 yT
 |n+1=>Bi (nI n)
theorem zky (T:Txt w K mg):∀n,a5 P w K mg base "_law_left" (2+1+1*n) (nI n)
 |0=>T.f__law_left.ok (k:=2) zbe λf aU A outer s H E hr=>qZ
 |n+1=>(TH T (by omega) (zky T n)).mono (by omega)
theorem zgk:aq ["program", "functions", "function"] ["program"] (zG Gr):=by exact "%"
def TJ:Aj :=
  zt (zQ 1 lP) (zt (jq (yA (za 0)) (gN 2)
  (jH (za 1) (zf zk (za 2) (Ar 0)) (za 2))) (zJ (za 1)))
def rE:Al:=zK 1 3 (TJ)
def zgl (T:Txt w K mg):a5 P w K mg base "functions_by_name" 1 rE:=T.f_functions_by_name.ok (k:=0) zgk λ_ _ _ _ _ _ _ hr=>by
 exact "x j1 czbz czgk.nd x r 6 M"
 exact (wP 2 zgk.nd)
 exact "z EzaD P T e g 2 s f 2"
 rfl
 exact "z J T"
theorem zgm:aq ["names", "marks", "name"] ["names"] (zG Gs):=by exact "%"
def TK:Aj :=
  zt (zQ 1 lP) (zt (jq (yA (za 0)) (gN 2)
  (kF (za 1) (za 2) (mC (.bl true)))) (zJ (za 1)))
def iF:Al:=zK 1 3 (TK)
def zch (T:Txt w K mg):a5 P w K mg base "marked" 1 iF:=T.f_marked.ok (k:=0) zgm λ_ _ _ _ _ _ _ hr=>by
 exact "x j1 czbz czgm.nd x r 6 M"
 exact (wP 2 zgm.nd)
 exact "z Ezf0 P T 2 czb2"
 rfl
 exact "z J T"
theorem TL:aq ["bits", "place"] ["bits", "place"] (zG Gu):=by exact "%"
def TM:Aj :=
  (zJ (zf zZ (zf iA (zf iB (za 0) (za 1)) (Ar 1)) (Ar 1)))
def pz:Al:=zK 2 2 (TM)
def zkz (T:Txt w K mg):a5 P w K mg base "is_later_at" 1 pz:=T.f_is_later_at.ok (k:=0) TL λ_ _ _ _ _ _ _ hr=>by
 exact "z J FyC izfK izfL M T s s"
theorem TQ:aq ["function", "bits"] ["function", "bits"] (zG zf4):=by exact "%"
def TV:Aj :=
  (zJ (zq yQ (zd (rB (zd (zf zk (za 0) (Ar 1)) zh) (mB (zq pz (zd (za 3) (zd (za 0) zh)))) (za 1)) zh)))
def pA:Al:=zK 2 2 (TV)
theorem zeu (T:Txt w K mg):a5 P w K mg base "later_params" 2 pA:=T.f_later_params.ok (k:=1) TQ λ_ _ _ _ _ _ _ hr=>by
 exact "z J p m Dzf4 m e g M s f q w djQ Lzkz m # m M q w T q"
theorem zev:aq ["block", "end", "lines"] ["block"] (zG Gv):=by exact "%"
def TY (mr:Al):Aj :=
  zt (zQ 1 (zf zk (za 0) (Ar 1))) (zt (zQ 2 (zf yG (zf zk (za 0) (Ar 0)) (zU (zd (za 1) zh)))) (zt (zW (mB (zf zZ (zf zk (za 1) (Ar 0)) (As "if")))
  (zJ (zf yG (zf yG (za 2) (zq mr (zd (zf zk (za 1) (Ar 2)) zh))) (zq mr (zd (zf zk (za 1) (Ar 3)) zh))))
  z0) (zJ (za 2))))
def rF (mr:Al):Al:=zK 1 3 (TY mr)
def TZ (T:Txt w K mg) {k:Nat} (hk:1<=k) {mr:Al} (kH:a5 P w K mg base "lines_of" k mr):a5 P w K mg base "lines_of" (k+1) (rF mr):=T.f_lines_of.ok (k:=k+0) zev λ_ _ _ _ _ _ _ hr=>by
 exact "x j1 e g M s f czev.nd x j2 ijB e g M s f Q m T q czev.nd x k 1 e g T s f N z J ijB ijB 2 GzO m e g T s f q GzO m e g T s f q R z J 2"
def iG:Nat->Al
 |0=>zK 1 3 yT
 |n+1=>rF (iG n)
theorem zew (T:Txt w K mg):∀n,a5 P w K mg base "lines_of" (1+1+1*n) (iG n)
 |0=>T.f_lines_of.ok (k:=1) zev λf aU A outer s H E hr=>qZ
 |n+1=>(TZ T (by omega) (zew T n)).mono (by omega)
theorem zex:aq ["truths", "bits", "place", "truth"] ["truths"] (zG Gw):=by exact "%"
def Hs:Aj :=
  (zJ (za 1))
def Ht:Aj :=
  zt (qT (zd (za 0) zh) (g2 2 3)
  (zW (mB (za 3))
  (zQ 1 (zf AF (za 1) (zf qQ (Ar 1) (za 2))))
  z0)) (Hs)
def Hu:Aj :=
  zt (zQ 1 (Ar 0)) (Ht)
def rG:Al:=zK 1 4 (Hu)
def zkD (T:Txt w K mg):a5 P w K mg base "bits_of" 1 rG:=T.f_bits_of.ok (k:=0) zex λ_ _ _ _ _ _ _ hr=>by
 exact "x j1 s czex.nd x Z m M q"
 exact (qK 2 3 rfl zex.nd)
 exact "z k djQ # z j1 izru T izi9 s 2 czex.nd R z J T"
theorem T7:aq ["atoms", "later"] ["atoms", "later"] (zG zf5):=by exact "%"
def T8:Aj :=
  (zJ (zq rG (zd (yW (yA (za 0)) (lD (zf zZ (zf zk (za 0) (Ar 0)) (As "of")) (zf (yI false) (zf zk (za 0) (Ar 1)) (za 2)))) zh)))
def nJ:Al:=zK 2 2 (T8)
theorem zkE (T:Txt w K mg):a5 P w K mg base "need" 2 nJ:=T.f_need.ok (k:=1) T7 λ_ _ _ _ _ _ _ hr=>by
 exact "z J hzkD m"
 refine lS (N:=["atoms", "later"]) rfl (by exact "&zf5") rfl (by decide +kernel) ?_ ?_
 exact "6 M w azis FyC e g M s f N dzir Fzca e g M s f 2 q"
theorem T_:aq ["line"] ["line"] (zG Gx):=by exact "%"
def Ua:Aj :=
  (zJ (zf (yI false) (zf zk (za 0) (Ar 0)) (zU (zd (As "let") (zd (As "call") zh)))))
def nK:Al:=zK 1 1 (Ua)
def zkF (T:Txt w K mg):a5 P w K mg base "is_step" 1 nK:=T.f_is_step.ok (k:=0) T_ λ_ _ _ _ _ _ _ hr=>by
 exact "z J Fzca e g M s f Q m N m N q"
theorem Ub:aq ["line"] ["line"] (zG Gy):=by exact "%"
def Uc:Aj :=
  zt (zW (mB (zq nK (zd (za 0) zh)))
  (zJ (zf zk (za 0) (Ar 3)))
  z0) (zt (zW (mB (zf zZ (zf zk (za 0) (Ar 0)) (As "go")))
  yT
  z0) (zt (zW (mB (zf zZ (zf zk (za 0) (Ar 0)) (As "fail")))
  (zJ (zU zh))
  z0) (zJ (zU (zd (zf zk (za 0) (Ar 1)) zh)))))
def nL:Al:=zK 1 1 (Uc)
def zkG (T:Txt w K mg):a5 P w K mg base "atoms_of" 2 nL:=T.f_atoms_of.ok (k:=1) Ub λ_ _ _ _ _ _ _ hr=>by
 exact "x k djQ hzkF m M q z J e g M s f R x k 1 e g M s f N z cjN R x k 1 e g M s f N z J Q q R z J Q m e g M s f q"
theorem Ud:aq ["line", "later"] ["line", "later"] (zG Gz):=by exact "%"
def Ue:Aj :=
  zt (zW (j0 (mB (zf zZ (zf zk (za 0) (Ar 0)) (As "let"))) (j0 (mB (zf j9 (zq nJ (zd (zq nL (zd (za 0) zh)) (zd (za 1) zh))) (Ar 0))) (mB (zf (yI true) (zf zk (za 0) (Ar 1)) (za 1)))))
  (zJ (As "let"))
  z0) (zt (zW (j0 (mB (zf zZ (zf zk (za 0) (Ar 0)) (As "call"))) (mB (zf (yI true) (zf zk (za 0) (Ar 1)) (za 1))))
  (zJ (As "call"))
  z0) (zJ (mC .non)))
def rH:Al:=zK 2 2 (Ue)
def ztr (T:Txt w K mg):a5 P w K mg base "broken_name" 3 rH:=T.f_broken_name.ok (k:=2) Ud λ_ _ _ _ _ _ _ hr=>by
 exact "x k dzaA azaX 1 e g M s f N azaX lzb5 hzkE m hzkG m M q m T q s dzbw lzfI e g M s f T z J N R x k dzaA azaX 1 e g M s f N dzbw lzfI e g M s f T z J N R z J 9"
theorem Ug:aq ["line"] ["line"] (zG GA):=by exact "%"
def Uh:Aj :=
  zt (zW (mB (zf zZ (zf zk (za 0) (Ar 0)) (As "call")))
  yT
  z0) (zt (zW (mB (zf zZ (zf zk (za 0) (Ar 0)) (As "go")))
  yT
  z0) (zJ (mC .non)))
def l_:Al:=zK 1 1 (Uh)
def zgn (T:Txt w K mg):a5 P w K mg base "aim_of" 1 l_:=T.f_aim_of.ok (k:=0) Ug λ_ _ _ _ _ _ _ hr=>by
 exact "x k 1 e g M s f N z cjN R x k 1 e g M s f N z cjN R z J 9"
theorem zbM:aq ["function", "form", "pairs", "later", "place", "line", "word", "aim"] ["function", "form", "pairs"] (zG GB):=by exact "%"
def Ui:Aj :=
  zt (zQ 3 (zq iF (zd (zf yG (zq pA (zd (za 0) (zd (zf zk (za 1) (Ar 1)) zh))) (zf zk (za 1) (Ar 2))) zh))) (zt (zQ 4 (Ar 0)) (zt (jq (yA (zq (iG 5) (zd (zf zk (za 0) (Ar 2)) zh))) (gN 5)
  (zt (zQ 6 (zq rH (zd (za 5) (zd (za 3) zh))))
  (zt (zW (mB (zf jT (za 6) (mC .non)))
  yT
  z0)
  (zt (zQ 7 (zq l_ (zd (za 5) zh)))
  (zW (mB (zf jT (za 7) (mC .non)))
  (zt yT
  (zt (zW (mB (zf jT (za 6) (mC .non)))
  yT
  z0)
  (qJ 4 kj (Ar 1))))
  z0))))) (zJ (mC .non))))
def Bj:Al:=zK 3 8 (Ui)
def ztv (T:Txt w K mg):a5 P w K mg base "broken_form" 8 Bj:=T.f_broken_form.ok (k:=7) zbM λ_ _ _ _ _ _ _ hr=>by
 exact "x j3 hzch m ijB hzeu m M m e g T s f q e g T s f q czbM.nd x j4 s czbM.nd x r 6 Kzew m e g M s f q"
 exact (wP 5 zbM.nd)
 exact "x j6 hztr m b5 m # q czbM.nd x k CzaE b6 9 z cjN R x j7 hzgn m b5 q czbM.nd z k CzaE b7 9 x cjN x k CzaE b6 9 z cjN R z"
 refine EY 4 EX ?_ zbM.nd
 exact "s R z J 9"
theorem zde:aq ["program", "parting", "functions", "pairs", "form", "row"] ["program", "parting"] (zG zf6):=by exact "%"
def Uj:Aj :=
  zt (zQ 2 (zq rE (zd (za 0) zh))) (zt (zQ 3 (zq iF (zd (yW (yA (za 1)) (zU (zd (zf zk (za 0) (Ar 0)) (zd (zf zk (za 0) (Ar 1)) zh)))) zh))) (zt (jq (yA (za 1)) (gN 4)
  (zt (zQ 5 (zq Bj (zd (zf zk (za 2) (zf zk (za 4) (Ar 0))) (zd (za 4) (zd (za 3) zh)))))
  (zW (mB (zf jT (za 5) (mC .non)))
  yT
  z0))) (zJ (mC .non))))
def rJ:Al:=zK 2 6 (Uj)
theorem ztx (T:Txt w K mg):a5 P w K mg base "broken" 9 rJ:=T.f_broken.ok (k:=8) zde λ_ _ _ _ _ _ _ hr=>by
 exact "x j2 hzgl m M q czde.nd x j3 hzch m"
 refine AG (M:=["program", "parting", "functions", "pairs", "~form", "row"]) rfl (by exact "&zf6") (by exact ⟨rfl,by show ∀p∈List.zip (["program", "parting", "functions", "pairs", "~form", "row"]:Ad) (["program", "parting", "functions", "pairs", "form", "row"]:Ad),p.1=p.2\/p.1∉(_:Ad);decide +kernel⟩) (by decide +kernel) ?_ ?_
 exact "6 T w Q m e g M s f m e g M s f q q czde.nd x r 6 T 7zde.nd x j5 hztv m e g 2 e g b4 s f f m b4 m # q czde.nd z k CzaE b5 9 z cjN R z J 9"
theorem zgp:aq ["parting", "forms", "form"] ["parting"] (zG GC):=by exact "%"
def Uk:Aj :=
  zt (zQ 1 lP) (zt (jq (yA (za 0)) (gN 2)
  (kF (za 1) (zU (zd (zf (av zk) (za 2) (Ar 0)) (zd (zf (av zk) (za 2) (Ar 1)) zh))) (za 2))) (zJ (za 1)))
def Bl:Al:=zK 1 3 (Uk)
def ztz (T:Txt w K mg):a5 P w K mg base "forms_by_pair" 1 Bl:=T.f_forms_by_pair.ok (k:=0) zgp λ_ _ _ _ _ _ _ hr=>by
 exact "x j1 czbz czgp.nd x r 6 M"
 exact (wP 2 zgp.nd)
 exact "z Ezf0 P T Q m e n 2 s f m e n 2 s f q 2"
 rfl
 exact "z J T"
theorem Ul:aq ["self", "limit"] ["self", "limit"] (zG GD):=by exact "%"
def Um:Aj :=
  zt (sFld "limit" insOf (za 0) (za 1)) (zt (sFld "met" insOf (za 0) (jA zh)) (sFld "names" insOf (za 0) lP))
def rK:Al:=zK 2 2 (Um)
def ztC (T:Txt w K mg):iw P w K mg base "KeyRing" 1 rK:=T.n_KeyRing.ok (k:=0) Ul λ_ _ _ _ _ _ _ hr=>by
 exact "x HT.d_limit M T x HT.d_met M dj8 q z HT.d_names M czbz"
theorem Uo:aq ["value"] ["value"] (zG GF):=by exact "%"
def Hv:Aj :=
  (zJ (As "number"))
def Hw:Aj :=
  zt (zW (mB (zq (j7 isT) (zd (za 0) (zd (mC (.ty "dict")) zh))))
  (zJ (As "record"))
  z0) (Hv)
def Hx:Aj :=
  zt (zW (mB (zq (j7 isT) (zd (za 0) (zd (mC (.ty "tuple")) zh))))
  (zJ (As "row"))
  z0) (Hw)
def Hy:Aj :=
  zt (zW (mB (zq (j7 isT) (zd (za 0) (zd (mC (.ty "str")) zh))))
  (zJ (As "word"))
  z0) (Hx)
def ma:Al:=zK 1 1 (Hy)
def zkL (T:Txt w K mg):a5 P w K mg base "kind_of" 1 ma:=T.f_kind_of.ok (k:=0) Uo λ_ _ _ _ _ _ _ hr=>by
 exact "x k djQ B m M m"
 exact (oV T.b_str Fd)
 exact "q z J N R x k djQ B m M m 0 q z J N R x k djQ B m M m"
 exact (oV T.b_dict ug)
 exact "q z J N R z J N"
theorem zgr:aq ["value", "kind", "shown"] ["value"] (zG zf7):=by exact "%"
def Up (mr:Al):Aj :=
  zt (zQ 1 (zq ma (zd (za 0) zh))) (zt (zW (mB (zf zZ (za 1) (As "number")))
  (zJ (zq wY (zd (za 0) zh)))
  z0) (zt (zW (mB (zf zZ (za 1) (As "word")))
  (zJ (zf yG (As "'") (za 0)))
  z0) (zt (zW (mB (zf zZ (za 1) (As "row")))
  (zJ (zf yG (zf yG (As "[") (ux (As ",") (yW (yA (za 0)) (zq mr (zd (za 0) zh))))) (As "]")))
  z0) (zt yT (yT)))))
def uE (mr:Al):Al:=zK 1 3 (Up mr)
theorem Uq (T:Txt w K mg) {k:Nat} (hk:1<=k) {mr:Al} (kH:a5 P w K mg base "show_value" k mr):a5 P w K mg base "show_value" (k+1) (uE mr):=T.f_show_value.ok (k:=k+0) zgr λ_ _ _ _ _ _ _ hr=>by
 exact "x j1 yzkL m M q czgr.nd x k 1 T N z J W m M q R x k 1 T N z J ijB N M R x k 1 T N z J ijB ijB N azsg N"
 refine lS (N:=["value", "kind", "shown"]) rfl (by exact "&zf7") rfl (by decide +kernel) ?_ ?_
 exact "6 M w Gza5 m M q N R x cjN z cjN"
def kJ:Nat->Al
 |0=>zK 1 3 yT
 |n+1=>uE (kJ n)
theorem Hz (T:Txt w K mg):∀n,a5 P w K mg base "show_value" (1+1+1*n) (kJ n)
 |0=>T.f_show_value.ok (k:=1) zgr λf aU A outer s H E hr=>qZ
 |n+1=>(Uq T (by omega) (Hz T n)).mono (by omega)
theorem zgs:aq ["self", "key", "shown", "number"] ["self", "key"] (zG GG):=by exact "%"
def HA:Aj :=
  zt (zW (mB (zf (cQ (yI true) true) (za 2) (yq (aK "names" insOf excOf) (za 0))))
  (zt (zQ 3 (zq yH (zd (yq (aK "met" insOf excOf) (za 0)) zh)))
  (zt (zW (mB (zf zZ (za 3) (yq (aK "limit" insOf excOf) (za 0))))
  yT
  z0)
  (zt (je (jr jp (yq (aK "met" insOf excOf) (za 0)) (za 1)))
  (kF (yq (aK "names" insOf excOf) (za 0)) (za 2) (yq (A_ "q") (za 3))))))
  z0) (zJ (zf (av zk) (yq (aK "names" insOf excOf) (za 0)) (za 2)))
def HB:Aj :=
  zt (zQ 2 (zU (zd (zf (av zk) (za 1) (Ar 0)) (zd (zf (av zk) (za 1) (Ar 1)) (zd (zq (kJ 3) (zd (zf (av zk) (za 1) (Ar 2)) zh)) zh))))) (HA)
def m_KeyRing_name_for:Al:=zK 2 4 (HB)
def Ur (T:Txt w K mg):b_ P w K mg base "KeyRing" "name_for" 6 m_KeyRing_name_for:=T.m_KeyRing_name_for.ok (k:=5) zgs λ_ _ _ _ _ _ _ hr=>by
 exact "x j2 Q m e n T s f m e n T s f m"
 refine yb (Hz T 3) (hr.mono (by decide)) zO ?_
 exact "m e n T s f q q czgs.nd x k"
 refine yk (Sz (zm hr) (zfI (zm hr))) ?_ ?_
 exact "2 vT.d_names M x j3 t m vT.d_met M q czgs.nd x k 1 # vT.d_limit M z cjN R x dww azaf vT.d_met M T z Ezf0 P vT.d_names M 2 dzsM #"
 rfl
 exact "R z J e n vT.d_names M 2 f"
def uF (c:Str):Option (Al):=if c = "KeyRing" then some m_KeyRing_name_for else none
def zkP (T:Txt w K mg) {c:Str} {m:Al} (h:uF c=some m):b_ P w K mg base c "name_for" 6 m:=by
 unfold uF at h
 by_cases e0:c = "KeyRing"
 ·rw [zw e0] at h;cases h;rw [e0];exact (Ur T).mono (by decide)
 rw [zI e0] at h
 cases h
theorem Us:aq ["function", "bits"] ["function", "bits"] (zG zf8):=by exact "%"
def Ut:Aj :=
  (zJ (zq yQ (zd (rB (zd (zf zk (za 0) (Ar 1)) zh) (ka (mB (zq pz (zd (za 3) (zd (za 0) zh))))) (za 1)) zh)))
def Bm:Al:=zK 2 2 (Ut)
theorem ztJ (T:Txt w K mg):a5 P w K mg base "known_params" 2 Bm:=T.f_known_params.ok (k:=1) Us λ_ _ _ _ _ _ _ hr=>by
 exact "z J p m Dzf8 m e g M s f q w dzdZ djQ Lzkz m # m M q w T q"
theorem Uu:aq ["self", "value"] ["self", "value"] (zG GH):=by exact "%"
def Uv:Aj :=
  (sFld "value" insOf (za 0) (za 1))
def kK:Al:=zK 2 2 (Uv)
def zgu (T:Txt w K mg):iw P w K mg base "Known" 1 kK:=T.n_Known.ok (k:=0) Uu λ_ _ _ _ _ _ _ hr=>by
 exact "z HT.d_value M T"
theorem Uw:aq ["self", "name"] ["self", "name"] (zG GI):=by exact "%"
def Ux:Aj :=
  (sFld "name" insOf (za 0) (za 1))
def mf:Al:=zK 2 2 (Ux)
def zkQ (T:Txt w K mg):iw P w K mg base "Later" 1 mf:=T.n_Later.ok (k:=0) Uw λ_ _ _ _ _ _ _ hr=>by
 exact "z HT.d_name M T"
theorem Bn:aq ["self", "ring", "function", "form", "values", "param", "value"] ["self", "ring", "function", "form", "values"] (zG GJ):=by exact "%"
def Uy:Aj :=
  zt (sFld "ring" insOf (za 0) (za 1)) (zt (sFld "later" insOf (za 0) (zq iF (zd (zf zk (za 3) (Ar 2)) zh))) (zt (sFld "goals" insOf (za 0) (zf zk (za 3) (Ar 3))) (zt (sFld "things" insOf (za 0) lP) (zt (jq (oX (zd (zq Bm (zd (za 2) (zd (zf zk (za 3) (Ar 1)) zh))) (zd (za 4) zh))) (g2 5 6)
  (jH (yq (aK "things" insOf excOf) (za 0)) (za 5) (zq (bO "Known" kK) (zd (za 6) zh)))) (jq (yA (zq pA (zd (za 2) (zd (zf zk (za 3) (Ar 1)) zh)))) (gN 5)
  (jH (yq (aK "things" insOf excOf) (za 0)) (za 5) (zq (bO "Later" mf) (zd (za 5) zh))))))))
def rL:Al:=zK 5 7 (Uy)
def ztP (T:Txt w K mg):iw P w K mg base "Making" 3 rL:=T.n_Making.ok (k:=2) Bn λ_ _ _ _ _ _ _ hr=>by
 exact "x HT.d_ring M T x HT.d_later M hzch m e g # s f q x HT.d_goals M e g # s f x HT.d_things M czbz x r 5 m hztJ m 2 m e g # s f q m b4 q"
 exact (qK 5 6 rfl Bn.nd)
 exact "z EzaD P 8 M b5 Azgu m b6 q"
 rfl
 exact "z r 6 hzeu m 2 m e g # s f q"
 exact (wP 5 Bn.nd)
 exact "z EzaD P 8 M b5 AzkQ m b5 q"
 rfl
theorem Uz:aq ["atom", "things"] ["atom", "things"] (zG GK):=by exact "%"
def UA:Aj :=
  zt (zW (mB (zf zZ (zf zk (za 0) (Ar 0)) (As "is")))
  (zJ (zq (bO "Known" kK) (zd (zf zk (za 0) (Ar 1)) zh)))
  z0) (zJ (zf zk (za 1) (zf zk (za 0) (Ar 1))))
def rO:Al:=zK 2 2 (UA)
def zkR (T:Txt w K mg):a5 P w K mg base "thing_of" 3 rO:=T.f_thing_of.ok (k:=2) Uz λ_ _ _ _ _ _ _ hr=>by
 exact "x k 1 e g M s f N z J Azgu m e g M s f q R z J e g T e g M s f f"
theorem UB:aq ["self", "atoms"] ["self", "atoms"] (zG zf9):=by exact "%"
def UC:Aj :=
  (zJ (yW (yA (za 1)) (zq rO (zd (za 0) (zd (yq (aK "things" insOf excOf) (za 1)) zh)))))
def m_Making_things_at:Al:=zK 2 2 (UC)
theorem UD (T:Txt w K mg):b_ P w K mg base "Making" "things_at" 4 m_Making_things_at:=T.m_Making_things_at.ok (k:=3) UB λ_ _ _ _ _ _ _ hr=>by
 exact "z J"
 refine lS (N:=["self", "atoms"]) rfl (by exact "&zf9") rfl (by decide +kernel) ?_ ?_
 exact "6 T w LzkR m M m 8 T q"
def rP (c:Str):Option (Al):=if c = "Making" then some m_Making_things_at else none
def zkS (T:Txt w K mg) {c:Str} {m:Al} (h:rP c=some m):b_ P w K mg base c "things_at" 4 m:=by
 unfold rP at h
 by_cases e0:c = "Making"
 ·rw [zw e0] at h;cases h;rw [e0];exact (UD T).mono (by decide)
 rw [zI e0] at h
 cases h
theorem UE:aq ["self"] ["self"] (zG GL):=by exact "%"
def UG:Aj :=
  (zJ (zU (zd (As "is") (zd (yq (aK "value" insOf excOf) (za 0)) zh))))
def m_Known_atom:Al:=zK 1 1 (UG)
def UH (T:Txt w K mg):b_ P w K mg base "Known" "atom" 1 m_Known_atom:=T.m_Known_atom.ok (k:=0) UE λ_ _ _ _ _ _ _ hr=>by
 exact "z J Q m N m vT.d_value M q"
theorem UI:aq ["self"] ["self"] (zG GN):=by exact "%"
def UJ:Aj :=
  (zJ (zU (zd (As "of") (zd (yq (aK "name" insOf excOf) (za 0)) zh))))
def m_Later_atom:Al:=zK 1 1 (UJ)
def UK (T:Txt w K mg):b_ P w K mg base "Later" "atom" 1 m_Later_atom:=T.m_Later_atom.ok (k:=0) UI λ_ _ _ _ _ _ _ hr=>by
 exact "z J Q m N m vT.d_name M q"
def kL (c:Str):Option (Al):=if c = "Known" then some m_Known_atom else if c = "Later" then some m_Later_atom else none
def zgw (T:Txt w K mg) {c:Str} {m:Al} (h:kL c=some m):b_ P w K mg base c "atom" 1 m:=by
 unfold kL at h
 by_cases e0:c = "Known"
 ·rw [zw e0] at h;cases h;rw [e0];exact (UH T).mono (by decide)
 rw [zI e0] at h
 by_cases e1:c = "Later"
 ·rw [zw e1] at h;cases h;rw [e1];exact (UK T).mono (by decide)
 rw [zI e1] at h
 cases h
theorem zkT:aq ["self", "step", "atoms"] ["self", "step"] (zG zga):=by exact "%"
def UL:Aj :=
  zt (zQ 2 (zq yQ (zd (yW (yA (yV "things_at" rP (za 0) (zd (zf zk (za 1) (Ar 3)) zh))) (yV "atom" kL (za 0) zh)) zh))) (zt (jH (yq (aK "things" insOf excOf) (za 0)) (zf zk (za 1) (Ar 1)) (zq (bO "Later" mf) (zd (zf zk (za 1) (Ar 1)) zh))) (zJ (zU (zd (As "let") (zd (zf zk (za 1) (Ar 1)) (zd (zf zk (za 1) (Ar 2)) (zd (za 2) zh)))))))
def m_Making_left_let:Al:=zK 2 3 (UL)
theorem UM (T:Txt w K mg):b_ P w K mg base "Making" "left_let" 5 m_Making_left_let:=T.m_Making_left_let.ok (k:=4) zkT λ_ _ _ _ _ _ _ hr=>by
 exact "x j2 p m"
 refine lS (N:=["self", "step", "atoms"]) rfl (by exact "&zga") rfl (by decide +kernel) ?_ ?_
 exact "6 uzkS M m e g T s f q w"
 refine ET (λc m h=>zgw T h) ?_ (hr.mono (by decide)) za5
 exact "M q czkT.nd x EzaD P 8 M e g T s f AzkQ m e g T s f q"
 rfl
 exact "z J Q m N m e g T s f m e g T s f m 2 q"
def uG (c:Str):Option (Al):=if c = "Making" then some m_Making_left_let else none
def UN (T:Txt w K mg) {c:Str} {m:Al} (h:uG c=some m):b_ P w K mg base c "left_let" 5 m:=by
 unfold uG at h
 by_cases e0:c = "Making"
 ·rw [zw e0] at h;cases h;rw [e0];exact (UM T).mono (by decide)
 rw [zI e0] at h
 cases h
theorem HC:aq ["kinds", "values", "kind", "value"] ["kinds", "values"] (zG GP):=by exact "%"
def uH:Aj :=
  (jq (oX (zd (za 0) (zd (za 1) zh))) (g2 2 3)
  (zW (j0 (mB (zf j9 (za 2) (As "any"))) (mB (zf j9 (za 2) (zq ma (zd (za 3) zh)))))
  (oY "Fault" "word" (As "kind"))
  z0))
def wg:Al:=zK 2 4 (uH)
def zkV (T:Txt w K mg):a5 P w K mg base "check_kinds" 3 wg:=T.f_check_kinds.ok (k:=2) HC λ_ _ _ _ _ _ _ hr=>by
 exact "z r 5 m M m T q"
 exact (qK 2 3 rfl HC.nd)
 exact "z k dzaA azaX lzb5 2 N dzbw lzb5 2 hzkL m # q z O N R"
theorem UO:aq ["values"] ["values"] (zG GQ):=by exact "%"
def HD:Aj :=
  (zJ (zf jh (zf zk (za 0) (Ar 0)) (zf zk (za 0) (Ar 1))))
def Bo:Aj :=
  zt (zW (mB (zf zZ (zf zk (za 0) (Ar 1)) (Ar 0)))
  (oY "Fault" "word" (As "nought"))
  z0) (HD)
def rQ:Al:=zK 1 1 (Bo)
def UP (T:Txt w K mg):a5 P w K mg base "tell_div" 3 rQ:=T.f_tell_div.ok (k:=2) UO λ_ _ _ _ _ _ _ hr=>by
 exact "x k 1 e g M s f s z O N R z J iwF e g M s f e g M s f"
theorem UQ:aq ["values"] ["values"] (zG GR):=by exact "%"
def HE:Aj :=
  (zJ (zf lF (zf zk (za 0) (Ar 0)) (Ar 1)))
def Bp:Aj :=
  zt (zW (mB (zf jX (zf zk (za 0) (Ar 0)) (Ar 1)))
  (oY "Fault" "word" (As "low"))
  z0) (HE)
def rR:Al:=zK 1 1 (Bp)
def UR (T:Txt w K mg):a5 P w K mg base "tell_down" 3 rR:=T.f_tell_down.ok (k:=2) UQ λ_ _ _ _ _ _ _ hr=>by
 exact "x k Czae e g M s f s z O N R z J izb3 e g M s f s"
theorem US:aq ["number"] ["number"] (zG GS):=by exact "%"
def uI:Aj :=
  (zJ (qC jX jX (yq oU (Ar 1000000000000000000)) (za 0) (Ar 1000000000000000000)))
def rS:Al:=zK 1 1 (uI)
def zue (T:Txt w K mg):a5 P w K mg base "in_bounds" 1 rS:=T.f_in_bounds.ok (k:=0) US λ_ _ _ _ _ _ _ hr=>by
 exact "z J"
 refine Pc zae zae ?_ ?_ ?_
 exact "$"
 exact (Aq T.c_NUMBER_BOUND)
 exact "M"
 exact (Aq T.c_NUMBER_BOUND)
theorem UT:aq ["number"] ["number"] (zG GU):=by exact "%"
def HF:Aj :=
  (zJ (za 0))
def uJ:Aj :=
  zt (zW (ka (mB (zq rS (zd (za 0) zh))))
  (oY "Fault" "word" (As "wide"))
  z0) (HF)
def mh:Al:=zK 1 1 (uJ)
def zkZ (T:Txt w K mg):a5 P w K mg base "within_bounds" 3 mh:=T.f_within_bounds.ok (k:=2) UT λ_ _ _ _ _ _ _ hr=>by
 exact "x k dzdZ djQ hzue m M q z O N R z J M"
theorem UU:aq ["values"] ["values"] (zG GV):=by exact "%"
def Bq:Aj :=
  (zJ (zq mh (zd (zf yG (zf zk (za 0) (Ar 0)) (zf zk (za 0) (Ar 1))) zh)))
def rT:Al:=zK 1 1 (Bq)
def UW (T:Txt w K mg):a5 P w K mg base "tell_add" 4 rT:=T.f_tell_add.ok (k:=3) UU λ_ _ _ _ _ _ _ hr=>by
 exact "z J hzkZ m ijB e g M s f e g M s f q"
theorem UX:aq ["values"] ["values"] (zG GW):=by exact "%"
def Br:Aj :=
  (zJ (zq mh (zd (zf wB (zf zk (za 0) (Ar 0)) (zf zk (za 0) (Ar 1))) zh)))
def rV:Al:=zK 1 1 (Br)
def UY (T:Txt w K mg):a5 P w K mg base "tell_mul" 4 rV:=T.f_tell_mul.ok (k:=3) UX λ_ _ _ _ _ _ _ hr=>by
 exact "z J hzkZ m izbA e g M s f e g M s f q"
theorem UZ:aq ["truth"] ["truth"] (zG GX):=by exact "%"
def U0:Aj :=
  (zJ (Ew (mB (za 0)) (Ar 1) (Ar 0)))
def Bs:Al:=zK 1 1 (U0)
def zum (T:Txt w K mg):a5 P w K mg base "number_of" 1 Bs:=T.f_number_of.ok (k:=0) UZ λ_ _ _ _ _ _ _ hr=>by
 exact "z J"
 refine Pa ?_ ?_ ?_
 exact "djQ M s s"
theorem U3:aq ["values"] ["values"] (zG GY):=by exact "%"
def U4:Aj :=
  (zJ (zq Bs (zd (zf zZ (zf zk (za 0) (Ar 0)) (zf zk (za 0) (Ar 1))) zh)))
def Bt:Al:=zK 1 1 (U4)
def U5 (T:Txt w K mg):a5 P w K mg base "tell_same" 2 Bt:=T.f_tell_same.ok (k:=1) U3 λ_ _ _ _ _ _ _ hr=>by
 exact "z J hzum m FyC e g M s f e g M s f q"
def kM (y:Str):Option (Al):=if y = "tell_div" then some rQ else if y = "tell_down" then some rR else if y = "tell_add" then some rT else if y = "tell_mul" then some rV else if y = "tell_same" then some Bt else none
def U6 (T:Txt w K mg) {y:Str}{m:Al}(h:kM y=some m):a5 P w K mg base y 4 m:=by
 unfold kM at h
 by_cases e0:y = "tell_div"
 ·rw [zw e0] at h;cases h;rw [e0];exact (UP T).mono (by decide)
 rw [zI e0] at h
 by_cases e1:y = "tell_down"
 ·rw [zw e1] at h;cases h;rw [e1];exact (UR T).mono (by decide)
 rw [zI e1] at h
 by_cases e2:y = "tell_add"
 ·rw [zw e2] at h;cases h;rw [e2];exact (UW T).mono (by decide)
 rw [zI e2] at h
 by_cases e3:y = "tell_mul"
 ·rw [zw e3] at h;cases h;rw [e3];exact (UY T).mono (by decide)
 rw [zI e3] at h
 by_cases e4:y = "tell_same"
 ·rw [zw e4] at h;cases h;rw [e4];exact (U5 T).mono (by decide)
 rw [zI e4] at h
 cases h
theorem U7:aq ["thing"] ["thing"] (zG GZ):=by exact "%"
def HG:Aj :=
  (zJ (jA zh))
def HH:Aj :=
  zt (zW (mB (zq (j7 isT) (zd (za 0) (zd (mC (.ty "dict")) zh))))
  yT
  z0) (HG)
def HI:Aj :=
  zt (zW (mB (zq (j7 isT) (zd (za 0) (zd (mC (.ty "tuple")) zh))))
  yT
  z0) (HH)
def uK:Al:=zK 1 1 (HI)
def zus (T:Txt w K mg):a5 P w K mg base "things_within" 1 uK:=T.f_things_within.ok (k:=0) U7 λ_ _ _ _ _ _ _ hr=>by
 exact "x k djQ B m M m 0 q z cjN R x k djQ B m M m"
 exact (oV T.b_dict ug)
 exact "q z cjN R z J dj8 q"
theorem zeF:aq ["thing", "found", "place"] ["thing"] (zG G0):=by exact "%"
def U8:Aj :=
  zt (zQ 1 (jA (zd (za 0) zh))) (zt (zQ 2 (Ar 0)) (zt (qO (mB (zf jX (za 2) (zq yH (zd (za 1) zh))))
  (zt (je (jr y_ (za 1) (zq uK (zd (zf zk (za 1) (za 2)) zh))))
  (qJ 2 kj (Ar 1)))) (zJ (za 1))))
def Bu:Al:=zK 1 3 (U8)
def zuu (T:Txt w K mg):a5 P w K mg base "all_within" 2 Bu:=T.f_all_within.ok (k:=1) zeF λ_ _ _ _ _ _ _ hr=>by
 exact "x j1 dj8 m M q czeF.nd x j2 s czeF.nd x V Czae 2 t m T q x dww azqH T hzus m e g T 2 f q z"
 refine EY 2 EX ?_ zeF.nd
 exact "s z J T"
theorem U9:aq ["value"] ["value"] (zG G3):=by exact "%"
def U_:Aj :=
  (zJ (zq yH (zd (zq Bu (zd (za 0) zh)) zh)))
def Bv:Al:=zK 1 1 (U_)
def zux (T:Txt w K mg):a5 P w K mg base "parts" 3 Bv:=T.f_parts.ok (k:=2) U9 λ_ _ _ _ _ _ _ hr=>by
 exact "z J t m hzuu m M q q"
theorem zgF:aq ["self", "values", "tell", "told"] ["self", "values"] (zG G8):=by exact "%"
def HJ:Aj :=
  (zJ (za 3))
def HK:Aj :=
  zt (zW (mB (zf nr (zq Bv (zd (za 3) zh)) (Ar 60)))
  yT
  z0) (HJ)
def Bw:Aj :=
  zt (zQ 3 (x9 kM (za 2) (zd (za 1) zh))) (HK)
def Bx:Aj :=
  zt (zQ 2 (zf zk (yq (lJ js ju) (yq (aK "word" insOf excOf) (za 0))) (Ar 1))) (Bw)
def uM:Aj :=
  zt (je (zq wg (zd (zf zk (yq (lJ js ju) (yq (aK "word" insOf excOf) (za 0))) (Ar 0)) (zd (za 1) zh)))) (Bx)
def m_Op_answer:Al:=zK 2 4 (uM)
def Va (T:Txt w K mg):b_ P w K mg base "Op" "answer" 5 m_Op_answer:=T.m_Op_answer.ok (k:=4) zgF λ_ _ _ _ _ _ _ hr=>by
 exact "x dww hzkV m e g Uzfy vT.d_word M s f m T q x j2 e g Uzfy vT.d_word M s f czgF.nd x j3"
 refine PF (λy m h=>U6 T h) ?_ (hr.mono (by decide)) zO ?_
 exact "2 m T q czgF.nd x k CziA hzux m # q"
 exact (Aq T.c_MOST_PARTS)
 exact "z cjN R z J #"
def By (c:Str):Option (Al):=if c = "Op" then some m_Op_answer else none
def zuz (T:Txt w K mg) {c:Str} {m:Al} (h:By c=some m):b_ P w K mg base c "answer" 5 m:=by
 unfold By at h
 by_cases e0:c = "Op"
 ·rw [zw e0] at h;cases h;rw [e0];exact (Va T).mono (by decide)
 rw [zI e0] at h
 cases h
theorem Vb:aq ["self", "word"] ["self", "word"] (zG G9):=by exact "%"
def pB:Aj :=
  (sFld "many" insOf (za 0) (zq yH (zd (zf zk (yq (lJ js ju) (za 1)) (Ar 0)) zh)))
def pD:Aj :=
  zt (sFld "word" insOf (za 0) (za 1)) (pB)
def nM:Al:=zK 2 2 (pD)
def zuB (T:Txt w K mg):iw P w K mg base "Op" 1 nM:=T.n_Op.ok (k:=0) Vb λ_ _ _ _ _ _ _ hr=>by
 exact "x HT.d_word M T z HT.d_many M t m e g Uzfy T s f q"
theorem Vc:aq ["word"] ["word"] (zG G_):=by exact "%"
def pE:Aj :=
  (zJ (zq (bO "Op" nM) (zd (za 0) zh)))
def pF:Aj :=
  zt (zW (mB (yq (gU true js ju zgf) (za 0)))
  yT
  z0) (pE)
def j4:Al:=zK 1 1 (pF)
def zuD (T:Txt w K mg):a5 P w K mg base "op_of" 3 j4:=T.f_op_of.ok (k:=2) Vc λ_ _ _ _ _ _ _ hr=>by
 exact "x k UzqG M z cjN R z J AzuB m M q"
theorem Vd:aq ["self", "step"] ["self", "step"] (zG zgb):=by exact "%"
def Ve:Aj :=
  (zJ (yV "answer" By (zq j4 (zd (zf zk (za 1) (Ar 2)) zh)) (zd (zq yQ (zd (yW (yA (yV "things_at" rP (za 0) (zd (zf zk (za 1) (Ar 3)) zh))) (yq (aK "value" insOf excOf) (za 0))) zh)) zh)))
def m_Making_answer_ahead:Al:=zK 2 2 (Ve)
theorem Vf (T:Txt w K mg):b_ P w K mg base "Making" "answer_ahead" 6 m_Making_answer_ahead:=T.m_Making_answer_ahead.ok (k:=5) Vd λ_ _ _ _ _ _ _ hr=>by
 exact "z J uzuz hzuD m e g T s f q m p m"
 refine lS (N:=["self", "step"]) rfl (by exact "&zgb") rfl (by decide +kernel) ?_ ?_
 exact "6 uzkS M m e g T s f q w vT.d_value M q q"
def uO (c:Str):Option (Al):=if c = "Making" then some m_Making_answer_ahead else none
def Vg (T:Txt w K mg) {c:Str} {m:Al} (h:uO c=some m):b_ P w K mg base c "answer_ahead" 6 m:=by
 unfold uO at h
 by_cases e0:c = "Making"
 ·rw [zw e0] at h;cases h;rw [e0];exact (Vf T).mono (by decide)
 rw [zI e0] at h
 cases h
theorem Vh:aq ["self"] ["self"] (zG Ha):=by exact "%"
def Vi:Aj :=
  (zJ (mC (.bl true)))
def m_Known_ahead:Al:=zK 1 1 (Vi)
def Vj (T:Txt w K mg):b_ P w K mg base "Known" "ahead" 1 m_Known_ahead:=T.m_Known_ahead.ok (k:=0) Vh λ_ _ _ _ _ _ _ hr=>by
 exact "z J czb2"
theorem Vk:aq ["self"] ["self"] (zG Hb):=by exact "%"
def Vm:Aj :=
  (zJ (mC (.bl false)))
def m_Later_ahead:Al:=zK 1 1 (Vm)
def Vn (T:Txt w K mg):b_ P w K mg base "Later" "ahead" 1 m_Later_ahead:=T.m_Later_ahead.ok (k:=0) Vk λ_ _ _ _ _ _ _ hr=>by
 exact "z J czb2"
def pG (c:Str):Option (Al):=if c = "Known" then some m_Known_ahead else if c = "Later" then some m_Later_ahead else none
def zuO (T:Txt w K mg) {c:Str} {m:Al} (h:pG c=some m):b_ P w K mg base c "ahead" 1 m:=by
 unfold pG at h
 by_cases e0:c = "Known"
 ·rw [zw e0] at h;cases h;rw [e0];exact (Vj T).mono (by decide)
 rw [zI e0] at h
 by_cases e1:c = "Later"
 ·rw [zw e1] at h;cases h;rw [e1];exact (Vn T).mono (by decide)
 rw [zI e1] at h
 cases h
theorem Vo:aq ["value"] ["value"] (zG Hc):=by exact "%"
def Vp:Aj :=
  zt (je (zq wg (zd (zU (zd (As "number") zh)) (zd (zU (zd (za 0) zh)) zh)))) (zJ (zf j9 (za 0) (Ar 0)))
def uQ:Al:=zK 1 1 (Vp)
def Vq (T:Txt w K mg):a5 P w K mg base "chooses_first" 4 uQ:=T.f_chooses_first.ok (k:=3) Vo λ_ _ _ _ _ _ _ hr=>by
 exact "x dww hzkV m Q m N q m Q m M q q z J Fzb5 M s"
theorem HM:aq ["block", "aims"] ["block"] (zG zeq):=by exact "%"
def Vr:Aj :=
  zt (zQ 1 (yW (yA (zq (iG 5) (zd (za 0) zh))) (zq l_ (zd (za 0) zh)))) (zJ (zq yQ (zd (rm (yA (za 1)) (mB (zf jT (za 0) (mC .non))) (za 0)) zh)))
def rW:Al:=zK 1 2 (Vr)
theorem zgJ (T:Txt w K mg):a5 P w K mg base "aims_of" 8 rW:=T.f_aims_of.ok (k:=7) HM λ_ _ _ _ _ _ _ hr=>by
 exact "x"
 refine RD 1 (N:=["block", "aims"]) rfl (by exact "&zeq") rfl (by decide +kernel) ?_ ?_ HM.nd rfl (by exact "*") (by exact "+") (by rfl)
 exact "6 Kzew m M q w Lzgn m M q z J p m"
 refine RZ (N:=["block", "aims"]) rfl (by exact "(zeq") rfl (by decide +kernel) ?_ ?_ ?_
 exact "6 T w CzaE M 9 w M q"
theorem HN:aq ["self", "end", "value", "place", "first", "fault"] ["self", "end", "value", "place"] (zG Hd):=by exact "%"
def Vs (mr:Al):Aj :=
  zt (lZ 4 5 "Fault" (km uQ (zd (za 2) zh))
  (zJ (zU (zd (zU zh) (zd (zU (zd (As "fail") (zd (yq (aK "word" insOf excOf) (za 5)) zh))) zh))))) (zt (zW (mB (za 4))
  (zJ (yV "made_block" (kC "Making" mr) (za 0) (zd (zf zk (za 1) (Ar 2)) (zd (za 3) zh))))
  z0) (zJ (yV "made_block" (kC "Making" mr) (za 0) (zd (zf zk (za 1) (Ar 3)) (zd (zf yG (za 3) (zq yH (zd (zq rW (zd (zf zk (za 1) (Ar 2)) zh)) zh))) zh)))))
def m_Making_decided (mr:Al):Al:=zK 4 6 (Vs mr)
theorem zuU (T:Txt w K mg) {k:Nat} (hk:8<=k) {mr:Al} (kH:b_ P w K mg base "Making" "made_block" k mr):b_ P w K mg base "Making" "decided" (k+1) (m_Making_decided mr):=T.m_Making_decided.ok (k:=k+0) HN λ_ _ _ _ _ _ _ hr=>by
 exact "x"
 refine Ti 4 5 T.x_Fault.tr ?_ ?_ HN.nd
 refine Qj (Vq T) (hr.mono (by omega)) ?_
 exact "m 2 q"
 intro _
 exact "z J Q m Q q m Q m N m vT.d_word b5 q q x k djQ b4 z J I M m e g T s f m # q R z J I M m e g T s f m ijB # t m yzgJ m e g T s f q q q"
theorem zeJ:aq ["self", "end", "place", "thing", "first", "second"] ["self", "end", "place"] (zG He):=by exact "%"
def Vt (mr:Al):Aj :=
  zt (zW (mB (zf zZ (zf zk (za 1) (Ar 0)) (As "fail")))
  (zJ (zU (zd (zU zh) (zd (za 1) zh))))
  z0) (zt (zW (mB (zf zZ (zf zk (za 1) (Ar 0)) (As "go")))
  yT
  z0) (zt (zQ 3 (zq rO (zd (zf zk (za 1) (Ar 1)) (zd (yq (aK "things" insOf excOf) (za 0)) zh)))) (zt (zW (mB (zf zZ (zf zk (za 1) (Ar 0)) (As "give")))
  (zJ (zU (zd (zU zh) (zd (zU (zd (As "give") (zd (yV "atom" kL (za 3) zh) zh))) zh))))
  z0) (zt (zW (mB (yV "ahead" pG (za 3) zh))
  (zJ (yV "decided" (kC "Making" (m_Making_decided mr)) (za 0) (zd (za 1) (zd (yq (aK "value" insOf excOf) (za 3)) (zd (za 2) zh)))))
  z0) (zt (zQ 4 (yV "made_block" (kC "Making" mr) (za 0) (zd (zf zk (za 1) (Ar 2)) (zd (za 2) zh)))) (zt (zQ 5 (yV "made_block" (kC "Making" mr) (za 0) (zd (zf zk (za 1) (Ar 3)) (zd (zf yG (za 2) (zq yH (zd (zq rW (zd (zf zk (za 1) (Ar 2)) zh)) zh))) zh)))) (zJ (zU (zd (zU zh) (zd (zU (zd (As "if") (zd (yV "atom" kL (za 3) zh) (zd (za 4) (zd (za 5) zh))))) zh))))))))))
def m_Making_made_end (mr:Al):Al:=zK 3 6 (Vt mr)
theorem zuW (T:Txt w K mg) {k:Nat} (hk:8<=k) {mr:Al} (kH:b_ P w K mg base "Making" "made_block" k mr):b_ P w K mg base "Making" "made_end" (k+2) (m_Making_made_end mr):=T.m_Making_made_end.ok (k:=k+1) zeJ λ_ _ _ _ _ _ _ hr=>by
 exact "x k 1 e g T s f N z J Q m Q q m T q R x k 1 e g T s f N z cjN R x j3 yzkR m e g T s f m 8 M q czeJ.nd x k 1 e g T s f N z J Q m Q q m Q m N m Szgw # q q R x k djQ SzuO # z J YzuU M m T m vT.d_value # m 2 q R x j4 I M m e g T s f m 2 q czeJ.nd x j5 I M m e g T s f m ijB 2 t m yzgJ m e g T s f q q q czeJ.nd z J Q m Q q m Q m N m Szgw # m b4 m b5 q q"
theorem zcp:aq ["self", "block", "place", "left", "step", "fault", "behind"] ["self", "block", "place"] (zG Hf):=by exact "%"
def Vu (mr:Al):Aj :=
  zt (zQ 3 (jA zh)) (zt (jq (yA (zf zk (za 1) (Ar 0))) (gN 4)
  (zW (mB (zf zZ (zf zk (za 4) (Ar 0)) (As "call")))
  (zt yT
  yT)
  (zW (mB (zf (yI false) (zf zk (za 4) (Ar 1)) (yq (aK "later" insOf excOf) (za 0))))
  (je (jr jp (za 3) (yV "left_let" uG (za 0) (zd (za 4) zh))))
  (lY 5 "Fault" (yq (aK "things" insOf excOf) (za 0)) (zf zk (za 4) (Ar 1)) (fM "Known" kK (gT "answer_ahead" uO (za 0) (zd (za 4) zh)))
  (zJ (zU (zd (zq yQ (zd (za 3) zh)) (zd (zU (zd (As "fail") (zd (yq (aK "word" insOf excOf) (za 5)) zh))) zh)))))))) (zt (zQ 6 (yV "made_end" (kC "Making" (m_Making_made_end mr)) (za 0) (zd (zf zk (za 1) (Ar 1)) (zd (za 2) zh)))) (zJ (zU (zd (zf yG (zq yQ (zd (za 3) zh)) (zf zk (za 6) (Ar 0))) (zd (zf zk (za 6) (Ar 1)) zh))))))
def m_Making_made_block (mr:Al):Al:=zK 3 7 (Vu mr)
theorem Vv (T:Txt w K mg) {k:Nat} (hk:8<=k) {mr:Al} (kH:b_ P w K mg base "Making" "made_block" k mr):b_ P w K mg base "Making" "made_block" (k+3) (m_Making_made_block mr):=T.m_Making_made_block.ok (k:=k+2) zcp λ_ _ _ _ _ _ _ hr=>by
 exact "x j3 dj8 q czcp.nd x r 6 e g T s f 7zcp.nd z k 1 e g b4 s f N x cjN z cjN z k lzca e g b4 s f vT.d_later M z dww azaf #"
 refine wc (λc m h=>UN T h) ?_ (hr.mono (by omega)) zO ?_
 exact "M m b4 q z"
 refine Tb 5 (zm hr) T.x_Fault.tr ?_ ?_ ?_ ?_ zcp.nd
 exact "8 M e g b4 s f"
 refine Ta (zgu T) (hr.mono (by omega)) ?_
 refine Qm (λc m h=>Vg T h) ?_ (hr.mono (by omega)) ?_
 exact "M m b4 q"
 intro _
 exact "z J Q m p m # q m Q m N m vT.d_word b5 q q x j6 YzuW M m e g T s f m 2 q czcp.nd z J Q m ijB p m # q e g b6 s f m e g b6 s f q"
def nO:Nat->Al
 |0=>zK 3 7 yT
 |n+1=>m_Making_made_block (nO n)
theorem HP (T:Txt w K mg):∀n,b_ P w K mg base "Making" "made_block" (8+1+3*n) (nO n)
 |0=>T.m_Making_made_block.ok (k:=8) zcp λf aU A outer s H E hr=>qZ
 |n+1=>(Vv T (by omega) (HP T n)).mono (by omega)
theorem zk8:aq ["ring", "key", "function", "form", "making"] ["ring", "key", "function", "form"] (zG Hg):=by exact "%"
def Vw:Aj :=
  zt (zQ 4 (zq (bO "Making" rL) (zd (za 0) (zd (za 2) (zd (za 3) (zd (zf zk (za 1) (Ar 2)) zh)))))) (zJ (zU (zd (yV "name_for" uF (za 0) (zd (za 1) zh)) (zd (zq pA (zd (za 2) (zd (zf zk (za 3) (Ar 1)) zh))) (zd (yV "made_block" (kC "Making" (nO 5)) (za 4) (zd (zf zk (za 2) (Ar 2)) (zd (Ar 0) zh))) zh)))))
def uR:Al:=zK 4 5 (Vw)
def zu0 (T:Txt w K mg):a5 P w K mg base "made_function" 25 uR:=T.f_made_function.ok (k:=24) zk8 λ_ _ _ _ _ _ _ hr=>by
 exact "x j4 AztP m M m 2 m # m e g T s f q czk8.nd z J Q m uzkP M m T q m hzeu m 2 m e g # s f q m"
 refine wc (λc m h=>AZ (HP T 5) h) ?_ (hr.mono (by decide)) zO ?_
 exact "b4 m e g 2 s f m s q q"
theorem zbP:aq ["program", "parting", "known", "limit", "row", "functions", "forms", "ring", "made", "key"] ["program", "parting", "known", "limit"] (zG Hh):=by exact "%"
def Vx:Aj :=
  zt (zQ 4 (zq rJ (zd (za 0) (zd (za 1) zh)))) (zt (zW (mB (zf jT (za 4) (mC .non)))
  yT
  z0) (zt (zQ 5 (zq rE (zd (za 0) zh))) (zt (zQ 6 (zq Bl (zd (za 1) zh))) (zt (zQ 7 (zq (bO "KeyRing" rK) (zd (za 3) zh))) (zt (je (yV "name_for" uF (za 7) (zd (zU (zd (zf (av zk) (zf (av zk) (za 1) (Ar 0)) (Ar 0)) (zd (zf (av zk) (zf (av zk) (za 1) (Ar 0)) (Ar 1)) (zd (za 2) zh)))) zh))) (zt (zQ 8 (jA zh)) (zt (qO (mB (zf jX (zq yH (zd (za 8) zh)) (zq yH (zd (yq (aK "met" insOf excOf) (za 7)) zh))))
  (zt (zQ 9 (zf (av zk) (yq (aK "met" insOf excOf) (za 7)) (zq yH (zd (za 8) zh))))
  (je (jr jp (za 8) (zq uR (zd (za 7) (zd (za 9) (zd (zf (av zk) (za 5) (zf (av zk) (za 9) (Ar 0))) (zd (zf (av zk) (za 6) (zU (zd (zf (av zk) (za 9) (Ar 0)) (zd (zf (av zk) (za 9) (Ar 1)) zh)))) zh))))))))) (zJ (zU (zd (zq yQ (zd (za 8) zh)) (zd (zq yQ (zd (yq (aK "met" insOf excOf) (za 7)) zh)) zh)))))))))))
def fh:Al:=zK 4 10 (Vx)
def zu2 (T:Txt w K mg):a5 P w K mg base "make" 26 fh:=T.f_make.ok (k:=25) zbP λ_ _ _ _ _ _ _ hr=>by
 exact "x j4 hztx m M m T q czbP.nd x k CzaE b4 9 z cjN R x j5 hzgl m M q czbP.nd x j6 hztz m T q czbP.nd x j7 AztC m # q czbP.nd x dww uzkP b7 m Q m e n e n T s f s f m e n e n T s f s f m 2 q q x j8 dj8 q czbP.nd x V Czae t m b8 q t m vT.d_met b7 q x j9 e n vT.d_met b7 t m b8 q f czbP.nd z dww azaf b8 hzu0 m b7 m b9 m e n b5 e n b9 s f f m e n b6 Q m e n b9 s f m e n b9 s f q f q z J Q m p m b8 q m p m vT.d_met b7 q q"
theorem Vy:aq ["function", "held"] ["function", "held"] (zG zgc):=by exact "%"
def Vz:Aj :=
  (zJ (zq rG (zd (yW (yA (zf (av zk) (za 0) (Ar 1))) (zf (cQ (yI false) false) (zU (zd (zf (av zk) (za 1) (Ar 0)) (zd (za 0) zh))) (za 2))) zh)))
def uS:Al:=zK 2 2 (Vz)
theorem zu5 (T:Txt w K mg):a5 P w K mg base "held_bits" 2 uS:=T.f_held_bits.ok (k:=1) Vy λ_ _ _ _ _ _ _ hr=>by
 exact "z J hzkD m"
 refine lS (N:=["function", "held"]) rfl (by exact "&zgc") rfl (by decide +kernel) ?_ ?_
 exact "6 e n M s f w 4 Q m e n T s f m M q 2 q"
theorem HQ:aq ["self", "program", "held", "function"] ["self", "program", "held"] (zG Hi):=by exact "%"
def VA:Aj :=
  zt (sFld "pairs" insOf (za 0) (zq iF (zd (za 2) zh))) (zt (sFld "bits_by_name" insOf (za 0) lP) (jq (yA (za 1)) (gN 3)
  (jH (yq (aK "bits_by_name" insOf excOf) (za 0)) (zf zk (za 3) (Ar 0)) (zq uS (zd (za 3) (zd (yq (aK "pairs" insOf excOf) (za 0)) zh))))))
def rX:Al:=zK 3 4 (VA)
def zu7 (T:Txt w K mg):iw P w K mg base "Holding" 3 rX:=T.n_Holding.ok (k:=2) HQ λ_ _ _ _ _ _ _ hr=>by
 exact "x HT.d_pairs M hzch m 2 q x HT.d_bits_by_name M czbz z r 6 T"
 exact (wP 3 HQ.nd)
 exact "z EzaD P vT.d_bits_by_name M e g # s f hzu5 m # m vT.d_pairs M q"
 rfl
theorem VE:aq ["self", "name", "step", "later"] ["self", "name", "step", "later"] (zG Hj):=by exact "%"
def VF:Aj :=
  zt (zW (j_ (mB (zf zZ (zf (av zk) (za 2) (Ar 0)) (As "call"))) (mB (zf j9 (zq nJ (zd (zq nL (zd (za 2) zh)) (zd (za 3) zh))) (Ar 0))))
  (zJ (mC (.bl true)))
  z0) (zJ (zf (cQ (yI false) false) (zU (zd (za 1) (zd (zf (av zk) (za 2) (Ar 1)) zh))) (yq (aK "pairs" insOf excOf) (za 0))))
def m_Holding_makes_later:Al:=zK 4 4 (VF)
def VG (T:Txt w K mg):b_ P w K mg base "Holding" "makes_later" 3 m_Holding_makes_later:=T.m_Holding_makes_later.ok (k:=2) VE λ_ _ _ _ _ _ _ hr=>by
 exact "x k dzaA aziq 1 e n 2 s f N dzio lzb5 hzkE m hzkG m 2 q m # q s z J czb2 R z J 4 Q m T m e n 2 s f q vT.d_pairs M"
def rY (c:Str):Option (Al):=if c = "Holding" then some m_Holding_makes_later else none
def zvb (T:Txt w K mg) {c:Str} {m:Al} (h:rY c=some m):b_ P w K mg base c "makes_later" 3 m:=by
 unfold rY at h
 by_cases e0:c = "Holding"
 ·rw [zw e0] at h;cases h;rw [e0];exact (VG T).mono (by decide)
 rw [zI e0] at h
 cases h
theorem zcq:aq ["self", "function", "bits", "later", "steps", "goals", "line", "aim"] ["self", "function", "bits"] (zG Hk):=by exact "%"
def VH:Aj :=
  zt (zQ 3 (zq iF (zd (zq pA (zd (za 1) (zd (za 2) zh))) zh))) (zt (zQ 4 (jA zh)) (zt (zQ 5 (jA zh)) (zt (jq (yA (zq (iG 5) (zd (zf zk (za 1) (Ar 2)) zh))) (gN 6)
  (zt (zQ 7 (zq l_ (zd (za 6) zh)))
  (zt (zW (mB (zf jT (za 7) (mC .non)))
  yT
  z0)
  (zW (j0 (mB (zq nK (zd (za 6) zh))) (mB (yV "makes_later" rY (za 0) (zd (zf zk (za 1) (Ar 0)) (zd (za 6) (zd (za 3) zh))))))
  (zt (je (jr jp (za 4) (zf zk (za 6) (Ar 1))))
  (jH (za 3) (zf zk (za 6) (Ar 1)) (mC (.bl true))))
  z0)))) (zJ (zU (zd (zf zk (za 1) (Ar 0)) (zd (za 2) (zd (zq yQ (zd (za 4) zh)) (zd (zq yQ (zd (za 5) zh)) zh)))))))))
def m_Holding_best_form:Al:=zK 3 8 (VH)
def VI (T:Txt w K mg):b_ P w K mg base "Holding" "best_form" 8 m_Holding_best_form:=T.m_Holding_best_form.ok (k:=7) zcq λ_ _ _ _ _ _ _ hr=>by
 exact "x j3 hzch m hzeu m T m 2 q q czcq.nd x j4 dj8 q czcq.nd x j5 dj8 q czcq.nd x r 6 Kzew m e g T s f q"
 exact (wP 6 zcq.nd)
 exact "x j7 hzgn m b6 q czcq.nd x k CzaE b7 9 z cjN R z k dzaA azaX djQ hzkF m b6 q dzbw djQ uzvb M m e g T s f m b6 m # q x dww azaf b4 e g b6 s f z EzaD P # e g b6 s f czb2"
 rfl
 exact "R z J Q m e g T s f m 2 m p m b4 q m p m b5 q q"
def uT (c:Str):Option (Al):=if c = "Holding" then some m_Holding_best_form else none
def zve (T:Txt w K mg) {c:Str} {m:Al} (h:uT c=some m):b_ P w K mg base c "best_form" 8 m:=by
 unfold uT at h
 by_cases e0:c = "Holding"
 ·rw [zw e0] at h;cases h;rw [e0];exact (VI T).mono (by decide)
 rw [zI e0] at h
 cases h
theorem VJ:aq ["function", "goals"] ["function", "goals"] (zG zgd):=by exact "%"
def VL:Aj :=
  (zJ (AU (oX (zd (zq rW (zd (zf zk (za 0) (Ar 2)) zh)) (zd (za 1) zh))) (zU (zd (zf zk (za 0) (Ar 0)) (zd (za 1) zh)))))
def rZ:Al:=zK 2 2 (VL)
theorem zvh (T:Txt w K mg):a5 P w K mg base "aimed_pairs" 9 rZ:=T.f_aimed_pairs.ok (k:=8) VJ λ_ _ _ _ _ _ _ hr=>by
 exact "z J"
 refine RK (N:=["function", "goals"]) rfl (by exact "(zgd") rfl (by decide +kernel) ?_ ?_
 exact "5 m hzgJ m e g M s f q m T q w Q m e g M s f m T q"
theorem Bg:aq ["program", "bits", "held", "functions", "holding", "met", "marks", "forms", "pair", "function", "form", "aimed"] ["program", "bits", "held"] (zG Hl):=by exact "%"
def VM:Aj :=
  zt (zQ 3 (zq rE (zd (za 0) zh))) (zt (zQ 4 (zq (bO "Holding" rX) (zd (za 0) (zd (za 2) zh)))) (zt (zQ 5 (jA (zd (zU (zd (zf (av zk) (zf (av zk) (za 0) (Ar 0)) (Ar 0)) (zd (za 1) zh))) zh))) (zt (zQ 6 (zq iF (zd (za 5) zh))) (zt (zQ 7 (jA zh)) (zt (qO (mB (zf jX (zq yH (zd (za 7) zh)) (zq yH (zd (za 5) zh))))
  (zt (zQ 8 (zf (av zk) (za 5) (zq yH (zd (za 7) zh))))
  (zt (zQ 9 (zf (av zk) (za 3) (zf (av zk) (za 8) (Ar 0))))
  (zt (zQ 10 (yV "best_form" uT (za 4) (zd (za 9) (zd (zf (av zk) (za 8) (Ar 1)) zh))))
  (zt (je (jr jp (za 7) (za 10)))
  (jq (yA (zq rZ (zd (za 9) (zd (zf (av zk) (za 10) (Ar 3)) zh)))) (gN 11)
  yT)))))) (zJ (zq yQ (zd (za 7) zh))))))))
def uU:Al:=zK 3 12 (VM)
def zvj (T:Txt w K mg):a5 P w K mg base "best" 10 uU:=T.f_best.ok (k:=9) Bg λ_ _ _ _ _ _ _ hr=>by
 exact "x j3 hzgl m M q ! x j4 Azu7 m M m 2 q ! x j5 dj8 m Q m e n e n M s f s f m T q q ! x j6 hzch m b5 q ! x j7 dj8 q ! x V Czae t m b7 q t m b5 q x j8 e n b5 t m b7 q f ! x j9 e n # e n b8 s f f ! x j10 uzve b4 m b9 m e n b8 s f q ! x dww azaf b7 b10 z r 6 hzvh m b9 m e n b10 s f q"
 exact (wP 11 Bg.nd)
 exact "z cjN z J p m b7 q"
theorem wC:aq ["_law_script", "_law_many", "_law_params", "_law_bits", "_law_things", "_law_values", "_law_k", "_law_param", "_law_cell", "_law_block_here", "_law_held", "_law_program", "_law_later", "_law_due", "_law_made"] ["_law_script"] (zG zcf):=by exact "%"
def VN:Aj :=
  zt (zQ 1 (zf yG (Ar 1) (zf yF (zq wS (zd (za 0) (zd (Ar 0) zh))) (Ar 6)))) (zt (zQ 2 (yW (eL (zd (za 1) zh)) (zf yG (As "p") (zq wY (zd (za 0) zh))))) (zt (zQ 3 (zf yF (zq wS (zd (za 0) (zd (Ar 1) zh))) (zf qQ (Ar 1) (za 1)))) (zt (zQ 4 lP) (zt (zQ 5 (jA zh)) (zt (qT (zd (za 2) zh) (g2 6 7)
  (zW (mB (zf zZ (zf iA (zf iB (za 3) (za 6)) (Ar 1)) (Ar 0)))
  (zt (zQ 8 (zq wS (zd (za 0) (zd (zf yG (Ar 3) (za 6)) zh))))
  (zt (jH (za 4) (za 7) (zq pq (zd (zf jh (za 8) (Ar 16)) zh)))
  (zt (zW (mB (zf zZ (zf yF (za 8) (Ar 4)) (Ar 1)))
  (jH (za 4) (za 7) (As "low"))
  z0)
  (je (jr jp (za 5) (zf zk (za 4) (za 7)))))))
  z0)) (zt (zQ 9 (zq (iE 5) (zd (yW (yA (kg (za 0) (dc (Ar 9)) (dc (Ar 24)))) (zf yF (za 0) (zf iq (Ar 10) (Ar 22)))) (zd (Ar 0) (zd (zq wH (zd (za 2) zh)) (zd (jA zh) zh)))))) (zt (zQ 10 (zf yG (As "s") (zq wY (zd (zf yF (zq wS (zd (za 0) (zd (Ar 2) zh))) (Ar 12)) zh)))) (zt (zQ 11 (zU (zd (zU (zd (As "main") (zd (zq yQ (zd (za 2) zh)) (zd (za 9) zh)))) zh))) (zt (zQ 12 (zq yQ (zd (ur (zd (za 2) zh) (mB (zf zZ (zf iA (zf iB (za 5) (za 0)) (Ar 1)) (Ar 1))) (za 1)) zh))) (zt (zQ 13 (zU (zd (zU (zd (As "q0") (zd (za 12) (zd (zq (nI 5) (zd (za 9) (zd (za 4) (zd (za 10) zh)))) zh)))) zh))) (zt (zQ 14 (zq fh (zd (za 11) (zd (zq uU (zd (za 11) (zd (za 3) (zd (zU (zd (zU (zd (As "main") (zd (za 10) zh))) zh)) zh)))) (zd (zq yQ (zd (za 5) zh)) (zd (Ar 1) zh)))))) (zJ (lD (zq (j7 isT) (zd (za 14) (zd (mC (.ty "tuple")) zh))) (zf zZ (za 14) (zU (zd (za 13) (zd (zU (zd (zU (zd (As "main") (zd (za 3) (zd (zq yQ (zd (za 5) zh)) zh)))) zh)) zh)))))))))))))))))
def HR:Al:=zK 1 15 (VN)
theorem zvl (T:Txt w K mg) {f:Addr} {fd:FuncData} (F:eB K "law" "law" zcf f fd):bp P w K mg base (cv P w) 27 f fd ["_law_script"] (gR K mg HR):=ud (k:=26) F wC λaU A outer s H E hr =>by
 exact "x j1 ijB s ijR hzc8 m M m s q s 3 x"
 refine FV 2 (M:=["_law_script", "_law_many", "_law_params", "_law_bits", "_law_things", "_law_values", "~_law_k", "_law_param", "_law_cell", "_law_block_here", "_law_held", "_law_program", "_law_later", "_law_due", "_law_made"]) rfl (by exact "&zcf") (by exact ⟨rfl,by show ∀p∈List.zip (["_law_script", "_law_many", "_law_params", "_law_bits", "_law_things", "_law_values", "~_law_k", "_law_param", "_law_cell", "_law_block_here", "_law_held", "_law_program", "_law_later", "_law_due", "_law_made"]:Ad) (["_law_script", "_law_many", "_law_params", "_law_bits", "_law_things", "_law_values", "_law_k", "_law_param", "_law_cell", "_law_block_here", "_law_held", "_law_program", "_law_later", "_law_due", "_law_made"]:Ad),p.1=p.2\/p.1∉(_:Ad);decide +kernel⟩) (by decide +kernel) ?_ ?_ wC.nd rfl (by exact "*") (by exact "+") (by rfl)
 refine E_ T.b_range ?_
 exact "m T q w ijB N W m M q x j3 ijR hzc8 m M m s q izi9 s T 3 x j4 czbz 3 x j5 dj8 q 3 x Z m 2 q"
 exact (qK 6 7 rfl wC.nd)
 exact "z k 1 izfK izfL # b6 s s x j8 hzc8 m M m ijB s b6 q 3 x EzaD P b4 b7 hzkq m iwF b8 s q"
 rfl
 exact "x k 1 ijR b8 s s z EzaD P b4 b7 N"
 rfl
 exact "R z dww azaf b5 e g b4 b7 f R x j9 Kzkt m"
 refine AG (M:=["_law_script", "_law_many", "_law_params", "_law_bits", "_law_things", "_law_values", "_law_k", "_law_param", "~_law_cell", "_law_block_here", "_law_held", "_law_program", "_law_later", "_law_due", "_law_made"]) rfl (by exact "&zcf") (by exact ⟨rfl,by show ∀p∈List.zip (["_law_script", "_law_many", "_law_params", "_law_bits", "_law_things", "_law_values", "_law_k", "_law_param", "~_law_cell", "_law_block_here", "_law_held", "_law_program", "_law_later", "_law_due", "_law_made"]:Ad) (["_law_script", "_law_many", "_law_params", "_law_bits", "_law_things", "_law_values", "_law_k", "_law_param", "_law_cell", "_law_block_here", "_law_held", "_law_program", "_law_later", "_law_due", "_law_made"]:Ad),p.1=p.2\/p.1∉(_:Ad);decide +kernel⟩) (by decide +kernel) ?_ ?_
 exact "6"
 refine EO ?_ ?_ ?_
 exact "M dzfu s dzfu s w ijR M izd1 s s m s m X m 2 q m dj8 q q 3 x j10 ijB N W m ijR hzc8 m M m s q s q 3 x j11 Q m Q m N m p m 2 q m b9 q q 3 x j12 p m"
 refine Tc (M:=["_law_script", "_law_many", "_law_params", "_law_bits", "_law_things", "_law_values", "~_law_k", "~_law_param", "_law_cell", "_law_block_here", "_law_held", "_law_program", "_law_later", "_law_due", "_law_made"]) rfl (by exact "(zcf") (by exact ⟨rfl,by show ∀p∈List.zip (["_law_script", "_law_many", "_law_params", "_law_bits", "_law_things", "_law_values", "~_law_k", "~_law_param", "_law_cell", "_law_block_here", "_law_held", "_law_program", "_law_later", "_law_due", "_law_made"]:Ad) (["_law_script", "_law_many", "_law_params", "_law_bits", "_law_things", "_law_values", "_law_k", "_law_param", "_law_cell", "_law_block_here", "_law_held", "_law_program", "_law_later", "_law_due", "_law_made"]:Ad),p.1=p.2\/p.1∉(_:Ad);decide +kernel⟩) (by decide +kernel) T.b_enumerate ?_ ?_ ?_
 exact "m 2 q w 1 izfK izfL b5 M s s w T q 3 x j13 Q m Q m N m b12 m Kzky m b9 m b4 m b10 q q q 3 x j14 hzu2 m b11 m hzvj m b11 m # m Q m Q m N m b10 q q q m p m b5 q m s q 3 z J azis B m b14 m 0 q dzir FyC b14 Q m b13 m Q m Q m N m # m p m b5 q q q q"
end
def HS (i j:Int) (h:0<j):jG i j=i%j:=by unfold jG;rw [zw h]
def Old (a b:aa):Prop:=∀(n:Nat) so,a[n]?=some so->b[n]?=some so
def Old.refl (a:aa):Old a a:=λ_ _ e=>e
def Old.trans {a b c:aa}(h:Old a b) (h':Old b c):Old a c:=λn so e=>h' n so (h n so e)
def VO {a b:aa}(h:Pre a b):Old a b:=λn so e=>h.get e
def zY (a d:aa):Old a (a++d):=VO (Pre.of a d)
theorem HU {g:PV->zb->Option zb}{body:Aj}(I:Nat->zb->aa->Prop) (n:Nat) (hb:∀i e st,i<n->I i e st->∃e1 e2 au,g (.int i) e=some e1/\body e1 st=.ok (.nx e2) au/\I (i+1) e2 au) :
  ∀(k i:Nat) (env:zb) (st:aa),i+k=n->I i env st->∃bw bt,forL g body ((List.range' i k).map λi:Nat=>PV.int i) env st=.ok (.nx bw) bt/\I n bw bt
 |0,i,env,st,hk,h=>⟨env,st,by simp,by rw [<-hk];exact h⟩
 |k+1,i,env,st,hk,h=>by
  obtain ⟨e1,e2,au,q1,q2,q3⟩:=hb i env st (by omega) h
  obtain ⟨bw,bt,r1,r2⟩:=HU I n hb k (i+1) e2 au (by omega) q3
  refine ⟨bw,bt,?_,r2⟩
  rw [List.range'_succ,yK]
  unfold forL
  rw [q1]
  simp only
  rw [q2]
  simp only [zH]
  exact r1
theorem VP (m:Nat) (st:aa) (h:m<=1000):nB [.int (m:Int)] st=.ok (.im ((List.range' 0 m).map λi:Nat=>PV.int i)) st:=by
 have hr:cR (m:Int)=true:=by simp [cR];omega
 simp [hr,nums,List.range_eq_range']
theorem uV (i:Int) (j:Nat) (h:0<j):∃b:Nat,b<j/\jG i j=b:=by
 have h1:=Int.emod_nonneg i (show (j:Int)≠0 by omega)
 have h2:=Int.emod_lt_of_pos i (show (0:Int)<j by omega)
 exact ⟨(i%j).toNat,by omega,by rw [HS _ _ (by omega)];omega⟩
def yh {st:aa}{n:Nat}{so:SO}(h:st[n]?=some so):n<st.length:=(yD.mp h).1
theorem pH {fe:Ai}{env:zb}(xs:An) (I:Nat->List PV->aa->Prop) (step:∀i x ys st,xs[i]?=some x->I i ys st->∃y ae,fe (some x::env) st=.ok y ae/\I (i+1) (ys++[y]) ae) :
  ∀(k i:Nat) (ys:An) (st:aa),i+k=xs.length->I i ys st->∃gi bt,de fe env (xs.drop i) ys st=.ok (.ref bt.length) (bt++[.lst gi])/\I xs.length gi bt
 |0,i,ys,st,hk,h=>⟨ys,st,by rw [pX (by omega)];rfl,by rw [<-hk];exact h⟩
 |k+1,i,ys,st,hk,h=>by
  have hx:xs[i]?=some (xs[i]'(by omega)):=yx (by omega)
  obtain ⟨y,ae,e,h1⟩:=step i _ ys st hx h
  obtain ⟨gi,bt,r,h2⟩:=pH xs I step k (i+1) (ys++[y]) ae (by omega) h1
  refine ⟨gi,bt,?_,h2⟩
  rw [w9 (by omega)]
  unfold de
  rw [e]
  simp only [j1,zH]
  exact r
theorem HV {fe:Ai}{env:zb}{n:Nat}(xs:An) (I:Nat->List PV->aa->Prop) (at_:∀i ys st,I i ys st->st[n]?=some (.lst xs)) (step:∀i x ys st,xs[i]?=some x->I i ys st->∃y ae,fe (some x::env) st=.ok y ae/\I (i+1) (ys++[y]) ae) :
  ∀(k i m:Nat) (ys:An) (st:aa),i+k=xs.length->k<m->I i ys st->∃gi bt,fJ fe env n m i ys st=.ok (.ref bt.length) (bt++[.lst gi])/\I xs.length gi bt
 |0,i,m,ys,st,hk,hm,h=>by
  obtain ⟨m,rfl⟩:∃j,m=j+1:=⟨m-1,by omega⟩
  refine ⟨ys,st,?_,by rw [<-hk];exact h⟩
  unfold fJ
  rw [yv (at_ _ _ _ h),oE (by omega)]
 |k+1,i,m,ys,st,hk,hm,h=>by
  obtain ⟨m,rfl⟩:∃j,m=j+1:=⟨m-1,by omega⟩
  have hx:xs[i]?=some (xs[i]'(by omega)):=yx (by omega)
  obtain ⟨y,ae,e,h1⟩:=step i _ ys st hx h
  obtain ⟨gi,bt,r,h2⟩:=HV xs I at_ step k (i+1) m (ys++[y]) ae (by omega) (by omega) h1
  refine ⟨gi,bt,?_,h2⟩
  unfold fJ
  rw [yv (at_ _ _ _ h),hx]
  simp only
  rw [e]
  simp only [j1,zH]
  exact r
abbrev S (l:List Nat):Str:=⟨l.toArray⟩
def r6 (z:Str):S z.cps.toList=z:=by cases z;simp [S]
def pI (l:List Nat):(S l).length=l.length:=by show l.toArray.size=_;simp
def r9 (a b:List Nat):S a++S b=S (a++b):=by
 rw [<-r6 (S a++S b),PySem.Str.cps_append]
 congr 1
 simp [S]
def ad (x y:Str) (h:x.length+y.length<=1000000) (st:aa):yG (.str x) (.str y) st=.ok (.str (x++y)) st:=by
 rw [QH,zw h]
def nP {α:Type}{l:List α}{i:Nat}{x:α}(h:l[i]?=some x):l.take (i+1)=l.take i++[x]:=by
 obtain ⟨hi,e⟩:=yD.mp h
 rw [<-e,List.take_append_getElem]
theorem HW {g:PV->zb->Option zb}{body:Aj}{n:Nat}(xs:An) (I:Nat->zb->aa->Prop) (at_:∀i e st,I i e st->st[n]?=some (.lst xs)) (step:∀i x e st,xs[i]?=some x->I i e st->∃e1 e2 au,g x e=some e1/\body e1 st=.ok (.nx e2) au/\I (i+1) e2 au) :
  ∀(k i m:Nat) (env:zb) (st:aa),i+k=xs.length->k<m->I i env st->∃bw bt,forR g body n m i env st=.ok (.nx bw) bt/\I xs.length bw bt
 |0,i,m,env,st,hk,hm,h=>by
  obtain ⟨m,rfl⟩:∃j,m=j+1:=⟨m-1,by omega⟩
  refine ⟨env,st,?_,by rw [<-hk];exact h⟩
  unfold forR
  rw [yv (at_ _ _ _ h),oE (by omega)]
 |k+1,i,m,env,st,hk,hm,h=>by
  obtain ⟨m,rfl⟩:∃j,m=j+1:=⟨m-1,by omega⟩
  have hx:xs[i]?=some (xs[i]'(by omega)):=yx (by omega)
  obtain ⟨e1,e2,au,q1,q2,q3⟩:=step i _ env st hx h
  obtain ⟨bw,bt,r,h2⟩:=HW xs I at_ step k (i+1) m e2 au (by omega) (by omega) q3
  refine ⟨bw,bt,?_,h2⟩
  unfold forR
  rw [yv (at_ _ _ _ h),hx]
  simp only
  rw [q1]
  simp only
  rw [q2]
  simp only [zH]
  exact r
def bJ {α:Type}{l:List α}{k:Nat}{x:α}(h:l[k]?=some x):cN l (k:Int)=some x:=by
 have:=(yD.mp h).1
 have e:=(yD.mp h).2
 simp [cN,fH,this,e]
def f7 {i j:Int}(b:Bool) (h:decide (i<j)=b) (st:aa):jX (.int i) (.int j) st=.ok (.bl b) st:=by rw [R8,h]
def dW {i j:Int}(b:Bool) (h:decide (i=j)=b) (st:aa):zZ (.int i) (.int j) st=.ok (.bl b) st:=by rw [rq,h]
def VQ {i j:Int}(b:Bool) (h:decide (j<i)=b) (st:aa):nr (.int i) (.int j) st=.ok (.bl b) st:=by rw [R9,h]
def VR {n i:Nat}{x:PV}(h:(nums 0 n)[i]?=some x):i<n/\x=.int (i:Int):=by
 unfold nums at h
 rw [y3] at h
 cases e:(List.range n)[i]? with
 |none=>rw [e] at h;cases h
 |some j =>
  rw [e] at h
  obtain ⟨h1,h2⟩:=yD.mp e
  rw [List.getElem_range] at h2
  rw [List.length_range] at h1
  cases h
  exact ⟨h1,by subst h2;simp⟩
def Bz (n:Nat):(nums 0 n).length=n:=by simp [nums]
def VS (m:Nat) (st:aa) (h:m<=1000):nB [.int (m:Int)] st=.ok (.im (nums 0 m)) st:=by
 have hr:cR (m:Int)=true:=by simp [cR];omega
 rw [Rl,zw hr];simp
theorem VT {fe:Ai}{fs:Ah}{env:zb}{st s0:aa}(n:Nat) (hn:n<=1000) (hf:fs env st=.ok [.int (n:Int)] s0) (I:Nat->List PV->aa->Prop) (step:∀i ys st,i<n->I i ys st->∃y ae,fe (Av i::env) st=.ok y ae/\I (i+1) (ys++[y]) ae) (h0:I 0 [] s0) :
  ∃gi bt,(yW (eL fs) fe) env st=.ok (.ref bt.length) (bt++[.lst gi])/\I n gi bt:=by
 obtain ⟨ys,s1,C,h⟩:=pH (fe:=fe) (env:=env) (nums 0 n) I (λi x ys st hx h=>by
  obtain ⟨hi,rfl⟩:=VR hx
  exact step i ys st hi h) n 0 [] s0 (by rw [Bz];omega) h0
 rw [Bz] at h
 refine ⟨ys,s1,?_,h⟩
 rw [lV,FP,hf,zH,VS n _ hn,zH,nC,zw (by rw [Bz];simp [lim];omega)]
 exact C
theorem HX {fo fi fv:Ai}{e:zb}{s s1:aa}{r:Nat}{z:Str}{x:PV}{ks:Ad}{xs:An}(hv:fv e s=.ok x s1) (ho:fo e s1=.ok (.ref r) s1) (hi:fi e s1=.ok (.str z) s1) (hr:s1[r]?=some (.dic ks xs)) (hl:ks.length<=1000) :
  jH fo fi fv e s=.ok (.nx e) (s1.set r (.dic (j2 z x ks xs).1 (j2 z x ks xs).2)):=by
 unfold jH
 rw [hv,zH,ho,zH,hi,zH]
 show (jm s1 r _).bind _=_
 rw [AV hr,zw (by simp [lim];omega),zH]
def VU {fs:Ah}{gt:PV->zb->Option zb}{body:Aj}{e:zb}{st s0:aa}(I:Nat->zb->aa->Prop) (n:Nat) (hn:n<=1000) (hf:fs e st=.ok [.int (n:Int)] s0) (step:∀i e st,i<n->I i e st->∃e1 e2 au,gt (.int (i:Int)) e=some e1/\body e1 st=.ok (.nx e2) au/\I (i+1) e2 au) (h0:I 0 e s0) :
  ∃e' s',jq (eL fs) gt body e st=.ok (.nx e') s'/\I n e' s':=by
 obtain ⟨e',s',F,h⟩:=HU (g:=gt) (body:=body) I n step n 0 e s0 (by omega) h0
 refine ⟨e',s',?_,h⟩
 rw [oZ,FP,hf,zH,VP n _ hn,zH,QS]
 exact F
def HY {st:aa}(a b:Nat):yG (.int (a:Int)) (.int (b:Int)) st=.ok (.int ((a+b:Nat):Int)) st:=by rw [kA];congr 2
def HZ {α:Type}{l:List α}(nd:l.Nodup) {i j:Nat}(hi:i<l.length) (hj:j<l.length) (h:l[i]=l[j]):i=j:=by
 have p:=List.pairwise_iff_getElem.mp nd
 rcases Nat.lt_trichotomy i j with q|q|q
 ·exact absurd h (p i j hi hj q)
 ·exact q
 ·exact absurd h.symm (p j i hj hi q)
def VV {i j:Nat}{f:Ai}{e:zb}{st s1:aa}{x y:PV}(h:f e st=.ok (.tup [x,y]) s1):qL (g2 i j) f e st=.ok (.nx ((e.set i (some x)).set j (some y))) s1:=by
 unfold qL
 rw [h,zH]
 rfl
def wj {f fa fb:Ai}{e:zb}{st s1 s2 s3:aa}{x y z:PV}(h:f e st=.ok x s1) (h':fa e s1=.ok y s2) (h2:fb e s2=.ok z s3):zd f (zd fa (zd fb zh)) e st=.ok [x,y,z] s3:=uw h (zR h' h2)
def jI {f fa fb fc:Ai}{e:zb}{st s1 s2 s3 s4:aa}{x y z w:PV}(h:f e st=.ok x s1) (h':fa e s1=.ok y s2) (h2:fb e s2=.ok z s3) (h3:fc e s3=.ok w s4):zd f (zd fa (zd fb (zd fc zh))) e st=.ok [x,y,z,w] s4:=uw h (wj h' h2 h3)
theorem iH {s:aa}{n:Nat}{xs:An}{y:PV}(h:s[n]?=some (.lst xs)) (hl:xs.length<=100000):jp (.ref n) y s=.ok .non (s.set n (.lst (xs++[y]))):=by rw [Rp,yv h,zw (by simp [lim];omega)]
def BA {s:aa}{n:Nat}{xs:An}(h:s[n]?=some (.lst xs)):wH [.ref n] s=.ok (.ref s.length) (s++[.lst xs]):=by
 simp only [wH,h]
 show yu s n _=_
 rw [yv h]
def yM {x:PV}{r:An}{st:aa}:zk (.tup (x::r)) (.int 0) st=.ok x st:=by
 have e:=bJ (l:=x::r) (k:=0) (x:=x) rfl
 exact (congrArg (λz=>cg z st) e).trans rfl
def yw {x y:PV}{r:An}{st:aa}:zk (.tup (x::y::r)) (.int 1) st=.ok y st:=by
 have e:=bJ (l:=x::y::r) (k:=1) (x:=y) rfl
 exact (congrArg (λz=>cg z st) e).trans rfl
def jP {x y z:PV}{r:An}{st:aa}:zk (.tup (x::y::z::r)) (.int 2) st=.ok z st:=by
 have e:=bJ (l:=x::y::z::r) (k:=2) (x:=z) rfl
 exact (congrArg (λz=>cg z st) e).trans rfl
def wT {x y z w:PV}{r:An}{st:aa}:zk (.tup (x::y::z::w::r)) (.int 3) st=.ok w st:=by
 have e:=bJ (l:=x::y::z::w::r) (k:=3) (x:=w) rfl
 exact (congrArg (λz=>cg z st) e).trans rfl
def nQ {xs ys:An}{st:aa}(h:xs.length+ys.length<=1000000):yG (.tup xs) (.tup ys) st=.ok (.tup (xs++ys)) st:=by
 show (if xs.length+ys.length<=lim then _ else _)=_
 rw [zw (by simpa [lim] using h)]
def eqs (a b:Str) (c:Bool) (h:decide (a=b)=c) (st:aa):zZ (.str a) (.str b) st=.ok (.bl c) st:=by rw [Sb,h]
theorem iL {α:Type}{l:List α}{x:α}(h:l[l.length-1]?=some x):cN l (-1)=some x:=by
 have h1:=(yD.mp h).1
 have e:fH l.length (-1)=some (l.length-1):=by
  unfold fH
  rw [zI (by decide),zw (by omega)]
  congr 1
  omega
 simp only [cN,e,Option.bind_some,h]
theorem n1:("let" : Str) ≠ "call" := by decide +kernel
theorem n2:("let" : Str) ≠ "go" := by decide +kernel
theorem n3:("give" : Str) ≠ "call" := by decide +kernel
theorem n4:("give" : Str) ≠ "go" := by decide +kernel
theorem n5:("fail" : Str) ≠ "call" := by decide +kernel
theorem n6:("fail" : Str) ≠ "go" := by decide +kernel
theorem n7:("go" : Str) ≠ "call" := by decide +kernel
theorem n8:("if" : Str) ≠ "call" := by decide +kernel
theorem n9:("if" : Str) ≠ "go" := by decide +kernel
theorem VW:("give" : Str) ≠ "let" := by decide +kernel
theorem VX:("fail" : Str) ≠ "let" := by decide +kernel
theorem VY:("if" : Str) ≠ "let" := by decide +kernel
def a9 {a b:Str}(h:a≠b) (st:aa):zZ (.str a) (.str b) st=.ok (.bl false) st:=eqs a b false (by simpa using h) st
def dF {a:Str}(st:aa):zZ (.str a) (.str a) st=.ok (.bl true) st:=eqs a a true (by simp) st
def q0 {z y:Str}{c:Bool}{e:zb}{r:An}{s:aa}{i:Nat}(hi:e[i]?=some (some (.tup (.str z::r)))) (h:zZ (.str z) (.str y) s=.ok (.bl c) s):(mB (zf zZ (zf zk (za i) (Ar 0)) (As y))) e s=.ok c s:=zM (zj (zj (zc hi) rfl yM) rfl h)
def uW (z:Str) (c:Bool) (h:((("let" : Str)==z)||(("call" : Str)==z))=c) (st:aa):yI false (.str z) (.tup [.str "let", .str "call"]) st=.ok (.bl c) st:=by
 rw [Ro,zw ⟨rfl,rfl,by simp [dz,dep]⟩]
 simp [bu,h]
theorem H8 {ft:Ak}{fe:Ai}{env:zb}{st:aa}{n:Nat}{p:PV->Bool}{f:PV->PV}(xs:An) (hn:st[n]?=some (.lst xs)) (h:∀x∈xs,ft (some x::env) st=.ok (p x) st) (h':∀x∈xs,p x=true->fe (some x::env) st=.ok (f x) st):∀(k i m:Nat) (ys:An),i+k=xs.length->k<m->d0 ft fe env n m i ys st=.ok (.ref st.length) (st++[.lst (ys++(xs.drop i).flatMap λx=>if p x=true then [f x] else [])])
 |0,i,m,ys,hk,hm=>by
  obtain ⟨m,rfl⟩:∃j,m=j+1:=⟨m-1,by omega⟩
  unfold d0
  rw [yv hn,oE (by omega),pX (by omega)]
  simp
 |k+1,i,m,ys,hk,hm=>by
  obtain ⟨m,rfl⟩:∃j,m=j+1:=⟨m-1,by omega⟩
  have hi:i<xs.length:=by omega
  have hx:xs[i]?=some (xs[i]'hi):=yx hi
  have mem:=pW hi
  have ih:=H8 (ft:=ft) (fe:=fe) (env:=env) xs hn h h' k (i+1) m
  unfold d0
  rw [yv hn,hx]
  simp only
  rw [h _ mem]
  simp only [j1,zH]
  rw [w9 hi,List.flatMap_cons]
  cases hp:p (xs[i]'hi) with
  |true =>
   simp only [if_true]
   rw [h' _ mem hp]
   simp only [j1,zH]
   rw [ih _ (by omega) (by omega)]
   simp
  |false =>
   rw [zI (by simp),ih _ (by omega) (by omega)]
   simp
theorem dO {g:PV->zb->Option zb}{body:Aj}(xs:An) (I:Nat->zb->aa->Prop) (step:∀i x e st,xs[i]?=some x->I i e st->∃e1 e2 au,g x e=some e1/\body e1 st=.ok (.nx e2) au/\I (i+1) e2 au) :
  ∀(k i:Nat) (env:zb) (st:aa),i+k=xs.length->I i env st->∃bw bt,forL g body (xs.drop i) env st=.ok (.nx bw) bt/\I xs.length bw bt
 |0,i,env,st,hk,h=>⟨env,st,by rw [pX (by omega)];rfl,by rw [<-hk];exact h⟩
 |k+1,i,env,st,hk,h=>by
  have hx:xs[i]?=some (xs[i]'(by omega)):=yx (by omega)
  obtain ⟨e1,e2,au,q1,q2,q3⟩:=step i _ env st hx h
  obtain ⟨bw,bt,r,h2⟩:=dO xs I step k (i+1) e2 au (by omega) q3
  refine ⟨bw,bt,?_,h2⟩
  rw [w9 (by omega)]
  unfold forL
  rw [q1]
  simp only
  rw [q2]
  simp only [zH]
  exact r
def VZ {s:aa}{n k:Nat}{xs ys:An}(h:s[n]?=some (.lst xs)) (h':s[k]?=some (.lst ys)) (hl:xs.length+ys.length<=1000000):y_ (.ref n) (.ref k) s=.ok .non (s.set n (.lst (xs++ys))):=by
 show yu s n _=_
 rw [yv h,yv h']
 exact zw (by simpa [lim] using hl)
def bq:List Bool->Int
 |[]=>0
 |b::r=>(if b then 1 else 0)+2*bq r
theorem BB:∀l,0<=bq l
 |[]=>by simp [bq]
 |b::r=>by have:=BB r;simp only [bq];split<;>omega
theorem H9:∀(l:List Bool) (b:Bool),bq (l++[b])=bq l+(if b then 2 ^ l.length else 0)
 |[],b=>by simp [bq]
 |a::r,b=>by
  simp only [List.cons_append,bq,H9 r b,wM]
  cases b<;>simp [Int.pow_succ]<;>omega
theorem H_:∀l,bq l<2 ^ l.length
 |[]=>by simp [bq]
 |b::r=>by
  have:=H_ r
  simp only [bq,wM,Int.pow_succ]
  split<;>omega
theorem V0 (x:Int) (i:Nat) (h0:0<=x) (h:x<2 ^ i):Builtin.bitOr x (1*2 ^ i)=x+2 ^ i:=by
 rw [PyProof.Rows.bitOr_and]
 have hp:(0:Int)<=2 ^ i:=Int.pow_nonneg (by decide)
 have e:Builtin.bitAnd x (1*2 ^ i)=0:=by
  rw [Int.one_mul]
  unfold Builtin.bitAnd
  rw [jk h0,jk hp]
  show ((x.toNat &&& ((2:Int) ^ i).toNat:Nat):Int)=0
  have e2:((2:Int) ^ i).toNat=2 ^ i:=by
   have:((2:Int) ^ i)=((2 ^ i:Nat):Int):=by simp
   rw [this,Int.toNat_natCast]
  rw [e2]
  have hx:x.toNat<2 ^ i:=by
   have:((x.toNat:Nat):Int)<((2 ^ i:Nat):Int):=by rw [Int.toNat_of_nonneg h0];simpa using h
   exact_mod_cast this
  have hz:x.toNat &&& 2 ^ i=0:=by
   apply Nat.eq_of_testBit_eq
   intro j
   rw [Nat.testBit_and,Nat.testBit_two_pow,Nat.zero_testBit]
   by_cases hij:i=j
   ·subst hij;rw [Nat.testBit_lt_two_pow hx];rfl
   ·simp [hij]
  rw [hz];rfl
 rw [e]
 omega
theorem V1 (l:List Bool) (n:Nat) (st:aa) (hn:st[n]?=some (.lst (l.map PV.bl))) (v0:Ao):∀(k i m:Nat) (v2 v3:Ao),l.length-i=k->i<=l.length->k<m->l.length<=1000 ->
  ∃V2 V6,ek (g2 2 3) (zW (mB (za 3)) (zQ 1 (zf AF (za 1) (zf qQ (Ar 1) (za 2)))) z0) n m i [v0,some (.int (bq (l.take i))),v2,v3] st=.ok (.nx [v0,some (.int (bq l)),V2,V6]) st:=by
 intro k
 induction k with
 |zero =>
  intro i m v2 v3 hk hi hm hl
  obtain ⟨m',rfl⟩:∃m',m=m'+1:=⟨m-1,by omega⟩
  have i5:i=l.length:=by omega
  subst i5
  refine ⟨v2,v3,?_⟩
  simp [ek,yu,hn]
 |succ k ih =>
  intro i m v2 v3 hk hi hm hl
  obtain ⟨m',rfl⟩:∃m',m=m'+1:=⟨m-1,by omega⟩
  have bz:i<l.length:=by omega
  have ht:l.take (i+1)=l.take i++[l[i]]:=(List.take_append_getElem bz).symm
  obtain ⟨w2,w3,e⟩:=ih (i+1) m' (some (.int i)) (some (.bl l[i])) (by omega) (by omega) (by omega) hl
  refine ⟨w2,w3,?_⟩
  rw [<-e]
  have hb:=BB (l.take i)
  have Ia:=H_ (l.take i)
  have hlen:(l.take i).length=i:=by simp;omega
  rw [hlen] at Ia
  have hv:bq (l.take (i+1))=bq (l.take i)+(if l[i] then 2 ^ i else 0):=by rw [ht,H9,hlen]
  have oQ:(l.map PV.bl)[i]?=some (.bl l[i]):=by simp [bz]
  conv=>lhs;unfold ek
  simp only [yu,hn,oQ,QP]
  cases hbi:l[i] with
  |true =>
   rw [hbi] at hv
   have ho:=V0 _ i hb Ia
   rw [Int.one_mul] at ho
   have hc:dS 1 (i:Int)=true:=by
    simp [dS]
    omega
   simp [hc,ho,hv]
  |false =>
   rw [hbi] at hv
   simp at hv
   simp [hv]
theorem Ib (l:List Bool) (hl:l.length<=1000) (n:Nat) (st:aa) (hn:st[n]?=some (.lst (l.map PV.bl))):rG [.ref n] st=.ok (.int (bq l)) st:=by
 obtain ⟨w2,w3,e⟩:=V1 l n st hn (Au n) l.length 0 (lim+1) none none rfl (jJ _) (by show l.length<1000000+1;omega) hl
 simp only [List.take_zero,bq] at e
 simp [rG,zK,Hu,Ht,Hs,yu,hn,e]
theorem Ic:∀zs:Ad,bI (zs.map PV.str)=true
 |[]=>rfl
 |z::zs=>by simp [bI,Mi.plain,Ic zs]
theorem Ie:∀zs:Ad,dz (zs.map PV.str)=0
 |[]=>rfl
 |z::zs=>by simp [dz,dep,Ie zs]
def V7 (z:Str) (zs:Ad):(zs.map PV.str).any (λy=>bu y (.str z))=decide (z∈zs):=by
 simp only [List.any_map,Function.comp_def,bu]
 rw [Bool.eq_iff_iff,List.any_eq_true,iS]
 constructor
 ·rintro ⟨x,hx,e⟩
  rw [beq_iff_eq] at e
  exact e▸hx
 ·intro h
  exact ⟨z,h,by simp⟩
theorem Ig {α:Type}{z:Str}:∀{ks:Ad}{xs:List α},z∉ks->(ks.zip xs).lookup z=none
 |[],_,_=>by simp
 |_::_,[],_=>by simp
 |k::ks,x::xs,h=>by
  have ne:(z==k)=false:=by
   rw [beq_eq_false_iff_ne]
   intro e
   exact h (by rw [e];exact ja ..)
  rw [List.zip_cons_cons,yL,ne]
  exact Ig λhm=>h (jg _ hm)
def uX {s:aa}{d:Nat}{ks:Ad}{xs:An}{z:Str}{b:Bool}(h:s[d]?=some (.dic ks xs)) (hb:((ks.zip xs).lookup z).isSome=b):yI false (.str z) (.ref d) s=.ok (.bl b) s:=by
 simp [yI,h,hb]
def V8 {fa fb:Ai}{e:zb}{st s1:aa}(h:fa e st=.ok (.bl false) s1):lD fa fb e st=.ok (.bl false) s1:=by
 rw [Fh,h,zH,Ax,zH,zI (by simp)]
def aR (L:Ad):PV->Bool
 |.tup [.str w,.str z]=>decide (w = "of")&&decide (z∈L)
 |_=>false
theorem mi:("is" : Str) ≠ "of" := by decide +kernel
def sd (L:Ad) (z:Str):aR L (.tup [.str "of", .str z])=decide (z∈L):=by simp [aR]
def V_ (L:Ad) (v:PV):aR L (.tup [.str "is", v])=false:=by
 cases v with
 |str z=>simp [aR,mi]
 |_=>rfl
def BC {z:Str}{L:Ad}{xs:An}(hl:L.length=xs.length):((L.zip xs).lookup z).isSome=decide (z∈L):=by
 by_cases h:z∈L
 ·rw [jk h]
  induction L generalizing xs with
  |nil=>cases h
  |cons y r ih =>
   cases xs with
   |nil=>simp at hl
   |cons x xs =>
    rw [List.zip_cons_cons,yL]
    by_cases e:z=y
    ·simp [e]
    ·have e':(z==y)=false:=by simpa using e
     rw [e']
     exact ih (by simpa using hl) ((yE.mp h).resolve_left e)
 ·rw [Ig h,yP h];rfl
theorem Wa {s:aa}{n:Nat}{L:Ad}{z:Str}(h:s[n]?=some (.lst (L.map PV.str))):yI false (.str z) (.ref n) s=.ok (.bl (decide (z∈L))) s:=by
 simp only [yI,h]
 rw [zw ⟨rfl,Ic L,by rw [Ie];omega⟩,V7,Bool.false_xor]
def mj (L:Ad) (s:aa) (d:Nat):Prop:=(∃xs,s[d]?=some (.dic L xs)/\L.length=xs.length)\/s[d]?=some (.lst (L.map PV.str))
def Wb {L:Ad}{s:aa}{d:Nat}{z:Str}(h:mj L s d):yI false (.str z) (.ref d) s=.ok (.bl (decide (z∈L))) s:=by
 rcases h with ⟨xs,h,hl⟩|h
 ·exact uX h (BC hl)
 ·exact Wa h
def mj.old {L:Ad}{s s':aa}{d:Nat}(h:mj L s d) (o:Old s s'):mj L s' d:=by
 rcases h with ⟨xs,h,hl⟩|h
 ·exact .inl ⟨xs,o _ _ h,hl⟩
 ·exact .inr (o _ _ h)
theorem Ih (l:List Bool):decide (bq l≠0)=l.any id:=by
 induction l with
 |nil=>simp [bq]
 |cons b r ih =>
  have h:=BB r
  rw [List.any_cons,<-ih]
  cases b with
  |true=>simp only [bq,zw,id,Bool.true_or];rw [iS];simp;omega
  |false=>simp [bq]
inductive gZ:PV->Prop
 |of (z:Str):gZ (.tup [.str "of", .str z])
 |is (v:PV):gZ (.tup [.str "is", v])
def Wc {a:PV} (h:gZ a) {L:Ad} {s:aa} {d:Nat} (hd:mj L s d) {e:zb} {i:Nat} (h0:e[0]?=some (some a)) (hi:e[i]?=some (Au d)):lD (zf zZ (zf zk (za 0) (Ar 0)) (As "of")) (zf (yI false) (zf zk (za 0) (Ar 1)) (za i)) e s=.ok (.bl (aR L a)) s:=by
 cases h with
 |of z=>rw [sd];exact FZ (zj (zj (zc h0) rfl yM) rfl (dF _)) (zj (zj (zc h0) rfl yw) (zc hi) (Wb hd))
 |is v=>rw [V_];exact V8 (zj (zj (zc h0) rfl yM) rfl (a9 mi _))
theorem Ii {as:An}(has:∀a∈as,gZ a) (hl:as.length<=1000) {L:Ad}{s:aa}{d:Nat}(hd:mj L s d):nJ [.tup as,.ref d] s=.ok (.int (bq (as.map (aR L)))) (s++[.lst ((as.map (aR L)).map PV.bl)]):=by
 have C:=AK (fe:=lD (zf zZ (zf zk (za 0) (Ar 0)) (As "of")) (zf (yI false) (zf zk (za 0) (Ar 1)) (za 2))) (env:=[some (.tup as),Au d]) (f:=λa=>.bl (aR L a)) (st:=s) as (λx hx=>Wc (has x hx) hd rfl rfl) []
 have em:List.map (λa=>PV.bl (aR L a)) as=List.map PV.bl (List.map (aR L) as):=by simp
 rw [List.nil_append,em] at C
 have B:=Ib (as.map (aR L)) (by simpa using hl) s.length (s++[.lst ((as.map (aR L)).map PV.bl)]) (ym _ _)
 refine zX rfl (zT (zy (zF ?_) B))
 rw [lV,wX,zc rfl,zH]
 show (Res.ok (Sq.im as) s).bind _=_
 rw [zH,nC,zw (by simp [lim];omega)]
 exact C
def kP:Key->PV
 |.inl i=>.int i
 |.inr z=>.str z
abbrev df (k:List Key):PV:=.tup (k.map kP)
theorem BG:∀k:List Key,c_ (k.map kP)=some k
 |[]=>rfl
 |x::r=>by
  have e:Ga (kP x)=some x:=by cases x<;>rfl
  rw [yK]
  unfold c_
  rw [e,BG r]
abbrev cH {α:Type}(ks:List α):An:=ks.map λ_=>.bl true
def IsT (ks:Ag) (s:aa) (n:Nat):Prop:=cj s[n]?=some (ks,cH ks)
def Ij {old:Am}{neg:Bool}{k:List Key}{ks:Ag}{s:aa}{n:Nat}(h:IsT ks s n):cQ old neg (df k) (.ref n) s=.ok (.bl (neg.xor (cw k ks))) (s.set n (.dit ks (cH ks))):=by
 unfold cQ
 simp only [BG]
 rw [show cj s[n]?=some (ks,cH ks) from h]
def IsT.lt {ks:Ag}{s:aa}{n:Nat}(h:IsT ks s n):n<s.length:=by
 unfold IsT at h
 cases e:s[n]? with
 |none=>rw [e] at h;cases h
 |some so=>exact (yD.mp e).1
def uY {ks:Ag}{s:aa}{n:Nat}(h:n<s.length):IsT ks (s.set n (.dit ks (cH ks))) n:=by
 unfold IsT
 rw [yZ h]
 rfl
def eW (ks:Ag) (k:List Key):Ag:=if cw k ks=true then ks else ks++[k]
theorem Ik {k:List Key}:∀ks:Ag,gY k (PV.bl true) ks (cH ks)=cH ks
 |[]=>rfl
 |x::r=>by
  rw [show cH (x::r)=PV.bl true::cH r from rfl]
  unfold gY
  rw [Ik r,ite_self]
def Wd {k:List Key}{ks:Ag}:wR k (.bl true) ks (cH ks)=(eW ks k,cH (eW ks k)):=by
 unfold wR eW
 by_cases h:cw k ks=true
 ·rw [zw h,zw h,Ik]
 ·rw [zI h,zI h];simp [cH]
def Il {fo fi fv:Ai}{e:zb}{s:aa}{n:Nat}{k:List Key}{ks:Ag}(hv:fv e s=.ok (.bl true) s) (ho:fo e s=.ok (.ref n) s) (hi:fi e s=.ok (df k) s) (h:IsT ks s n) (hl:ks.length<1000000) :
  kF fo fi fv e s=.ok (.nx e) (s.set n (.dit (eW ks k) (cH (eW ks k)))):=by
 unfold kF
 rw [hv,zH,ho,zH,hi,zH]
 have P:kE (df k) (.bl true) (.ref n) s=.ok () (s.set n (.dit (eW ks k) (cH (eW ks k)))):=by
  unfold kE
  simp only [BG]
  rw [show cj s[n]?=some (ks,cH ks) from h]
  simp only
  rw [zw (by simpa [lim] using hl),Wd]
 rw [P,zH]
abbrev bM:Aj:=(kF (za 1) (za 2) (mC (.bl true)))
def gn (n:Nat) (s s':aa):Prop:=∀(m:Nat) so,m≠n->s[m]?=some so->s'[m]?=some so
def gn.refl (n:Nat) (s:aa):gn n s s:=λ_ _ _ e=>e
def gn.trans {n:Nat}{a b c:aa}(h:gn n a b) (h':gn n b c):gn n a c:=λm so q e=>h' m so q (h m so q e)
def Im {n:Nat}{s:aa}{o:SO}:gn n s (s.set n o):=λm so q e=>by rw [yr (yz q)];exact e
def Old.bar {n:Nat}{s s':aa}(h:Old s s'):gn n s s':=λm so _ e=>h m so e
def IsT.old {ks:Ag}{s s':aa}{n:Nat}(h:IsT ks s n) (o:Old s s'):IsT ks s' n:=by
 unfold IsT at h ⊢
 cases e:s[n]? with
 |none=>rw [e] at h;cases h
 |some so=>rw [o n so e];rw [e] at h;exact h
theorem Io {r:Nat}{k:List Key}{st:aa}(hr:st[r]?=some (.lst [df k])):∃s1,iF [.ref r] st=.ok (.ref st.length) s1/\IsT [k] s1 st.length/\Old st s1:=by
 have BH:(st++[SO.dic [] []])[r]?=some (.lst [df k]):=zY _ _ _ _ hr
 have h0:IsT [] (st++[SO.dic [] []]) st.length:=by unfold IsT;rw [ym];rfl
 have P:=Il (fo:=za 1) (fi:=za 2) (fv:=mC (.bl true)) (e:=[Au r,Au st.length,some (df k)]) rfl (zc rfl) (zc rfl) h0 (by simp)
 have rl:r≠st.length:=by have:=yh hr;omega
 obtain ⟨e',s1,F,⟨z2,he⟩,hs⟩:=HW (g:=gN 2) (body:=bM) (n:=r) [df k] (λi e s=>(∃z2,e=[Au r,Au st.length,z2])/\s=if i=0 then st++[SO.dic [] []] else (st++[SO.dic [] []]).set st.length (.dit (eW [] k) (cH (eW [] k)))) (λi e s ⟨_,h⟩=>by
   rw [h]
   split
   ·exact BH
   ·rw [yr (yz rl)];exact BH) (λi x e s hx ⟨⟨z2,he⟩,h⟩=>by
  have i0:i=0:=by have:=(yD.mp hx).1;simp at this;omega
  subst i0 he
  cases hx
  rw [zw rfl] at h
  subst h
  exact ⟨_,_,_,rfl,P,⟨_,rfl⟩,(zI (by omega)).symm⟩) 1 0 (lim+1) [Au r,Au st.length,none] (st++[SO.dic [] []]) rfl (by simp [lim]) ⟨⟨none,rfl⟩,(zw rfl).symm⟩
 subst he
 rw [zI (by simp)] at hs
 subst hs
 have FO:(jq (yA (za 0)) (gN 2) bM) [Au r,Au st.length,none] (st++[SO.dic [] []])=.ok (.nx [Au r,Au st.length,z2]) ((st++[SO.dic [] []]).set st.length (.dit (eW [] k) (cH (eW [] k)))):=by
  rw [oZ,wX,zc rfl,zH,uk,yv BH,zH]
  exact F
 exact ⟨_,zX rfl (zp (zP rfl) (zp FO (zT (zc rfl)))),uY h0.lt,λm so e=>by rw [yr (by have:=yh e;omega)];exact zY _ _ _ _ e⟩
theorem BI (ps:Ad) (nd:ps.Nodup) (hl:ps.length<=1000) (st:aa):∃s1,iF [.tup (ps.map PV.str)] st=.ok (.ref st.length) s1/\s1[st.length]?=some (.dic ps (cH ps))/\Old st s1:=by
 obtain ⟨e',s1,F,⟨z2,he⟩,hd,ob⟩:=dO (g:=gN 2) (body:=bM) (ps.map PV.str) (λi e s=>(∃z2,e=[some (.tup (ps.map PV.str)),Au st.length,z2])/\s[st.length]?=some (.dic (ps.take i) (cH (ps.take i)))/\gn st.length (st++[.dic [] []]) s) (λi x e s hx ⟨⟨z2,he⟩,hd,ob⟩=>by
  subst he
  rw [y3] at hx
  obtain ⟨z,hz,rfl⟩:=Option.map_eq_some_iff.mp hx
  have hi:i<ps.length:=(yD.mp hz).1
  have zn:z∉ps.take i:=λhm=>by
   obtain ⟨j,hj⟩:=List.getElem?_of_mem hm
   have jl:j<i:=by have:=(yD.mp hj).1;simp at this;omega
   rw [List.getElem?_take_of_lt jl] at hj
   obtain ⟨h1,h2⟩:=yD.mp hj
   obtain ⟨h3,h4⟩:=yD.mp hz
   have:=HZ nd h1 h3 (h2.trans h4.symm)
   omega
  have P:=HX (fo:=za 1) (fi:=za 2) (fv:=mC (.bl true)) (e:=[some (.tup (ps.map PV.str)),Au st.length,some (.str z)]) (s:=s) rfl (zc rfl) (zc rfl) hd (by simp;omega)
  have dp:j2 z (.bl true) (ps.take i) (cH (ps.take i))=(ps.take (i+1),cH (ps.take (i+1))):=by
   unfold j2
   rw [zI (by simpa using zn),nP hz]
   simp [cH]
  rw [dp] at P
  have P':bM [some (.tup (ps.map PV.str)),Au st.length,some (.str z)] s=_:=P
  exact ⟨_,_,_,rfl,P',⟨_,rfl⟩,yZ (yh hd),ob.trans Im⟩) ps.length 0 [some (.tup (ps.map PV.str)),Au st.length,none] (st++[.dic [] []]) (by simp) ⟨⟨none,rfl⟩,ym _ _,gn.refl _ _⟩
 subst he
 rw [jD,List.take_length] at hd
 have FO:(jq (yA (za 0)) (gN 2) bM) [some (.tup (ps.map PV.str)),Au st.length,none] (st++[.dic [] []])=.ok (.nx [some (.tup (ps.map PV.str)),Au st.length,z2]) s1:=by
  rw [oZ,wX,zc rfl,zH]
  show (Res.ok (Sq.im (ps.map PV.str)) (st++[.dic [] []])).bind _=_
  rw [zH]
  exact F
 exact ⟨s1,zX rfl (zp (zP rfl) (zp FO (zT (zc rfl)))),hd,λm so e=>ob m so (by have:=yh e;omega) (zY _ _ _ _ e)⟩
abbrev pk (f z:Str):List Key:=[.inr f,.inr z]
def w4 {x:PV}{r:An}{st:aa}:av zk (.tup (x::r)) (.int 0) st=.ok x st:=yM
def pJ {x y:PV}{r:An}{st:aa}:av zk (.tup (x::y::r)) (.int 1) st=.ok y st:=yw
def We {x y z w:PV}{r:An}{st:aa}:av zk (.tup (x::y::z::w::r)) (.int 3) st=.ok w st:=wT
theorem Wf {f:Str}{ps:Ad}{r:An}(hl:ps.length<=1000) {ks:Ag}{s:aa}{q:Nat}(hT:IsT ks s q):∃s1,uS [.tup (.str f :: .tup (ps.map PV.str)::r),.ref q] s=.ok (.int (bq (ps.map λp=>cw (pk f p) ks))) s1/\IsT ks s1 q/\gn q s s1/\s.length<=s1.length:=by
 obtain ⟨ys,s',C,hy,uZ,ob,Ip⟩:=pH (fe:=(zf (cQ (yI false) false) (zU (zd (zf (av zk) (za 1) (Ar 0)) (zd (za 0) zh))) (za 2))) (env:=[some (.tup (.str f :: .tup (ps.map PV.str)::r)),Au q]) (ps.map PV.str) (λi ys s'=>ys=((ps.take i).map λp=>cw (pk f p) ks).map PV.bl/\IsT ks s' q/\gn q s s'/\s.length<=s'.length) (λi x ys s' hx ⟨hy,uZ,ob,Ip⟩=>by
  rw [y3] at hx
  obtain ⟨z,hz,rfl⟩:=Option.map_eq_some_iff.mp hx
  have R:=Ij (old:=yI false) (neg:=false) (k:=pk f z) uZ
  rw [Bool.false_xor] at R
  refine ⟨_,_,zj (ya (zR (zj (zc rfl) rfl w4) (zc rfl)) (by simp)) (zc rfl) R,?_,uY uZ.lt,ob.trans Im,by simpa using Ip⟩
  rw [hy,nP hz]
  simp) ps.length 0 [] s (by simp) ⟨rfl,hT,gn.refl _ _,yo _⟩
 rw [jD,List.take_length] at hy
 have B:=Ib (ps.map λp=>cw (pk f p) ks) (by simpa using hl) s'.length (s'++[.lst ys]) (by rw [hy];exact ym _ _)
 refine ⟨s'++[.lst ys],zX rfl (zT (zy (zF ?_) B)),uZ.old (zY _ _),ob.trans (zY _ _).bar,by simp;omega⟩
 rw [lV,wX,zj (zc rfl) rfl pJ,zH]
 show (Res.ok (Sq.im (ps.map PV.str)) s).bind _=_
 rw [zH,nC,zw (by simp [lim];omega)]
 exact C
def bitAt (b:Int) (i:Nat):Bool:=decide (b/2 ^ i%2=1)
def picks (p:Nat->Bool):Nat->List Str->Ad
 |_,[]=>[]
 |i,z::r=>if p i then z::picks p (i+1) r else picks p (i+1) r
theorem u7 {ft:Ak}{fe:Ai}{env:zb}{st:aa}{p:Nat->Bool}:∀(zs:Ad) (i:Nat) (ys:An),(∀(j:Nat) z,i<=j->j<i+zs.length->ft (some (.int j)::some (.str z)::env) st=.ok (p j) st)->(∀(j:Nat) z,fe (some (.int j)::some (.str z)::env) st=.ok (.str z) st)->d7 ft fe env i (zs.map PV.str) ys st=.ok (.ref st.length) (st++[.lst (ys++(picks p i zs).map PV.str)])
 |[],i,ys,_,_=>by simp [d7,picks]
 |z::r,i,ys,h,h'=>by
  rw [yK]
  unfold d7
  rw [h i z (yo _) (by simp),j1,zH]
  unfold picks
  cases hp:p i with
  |true =>
   rw [zw rfl,zw rfl,h' i z,j1,zH,u7 r (i+1) _ (λj z a b=>h j z (by omega) (by simp;omega)) h']
   simp
  |false =>
   rw [zI (by simp),zI (by simp),u7 r (i+1) _ (λj z a b=>h j z (by omega) (by simp;omega)) h']
theorem wm {p:Nat->Bool}:∀{zs:Ad}{i:Nat},(picks p i zs).Sublist zs
 |[],_=>.slnil
 |z::r,i=>by
  unfold picks
  split
  ·exact (wm).cons₂ z
  ·exact (wm).cons z
theorem Iq (x:Int) (h:0<=x):Builtin.bitAnd x 1=x%2:=by
 unfold Builtin.bitAnd
 rw [jk h]
 show ((x.toNat &&& 1:Nat):Int)=_
 rw [Nat.and_one_is_mod]
 omega
theorem Wg (j:Nat) (hj:j<=1000) (st:aa):qQ (.int 1) (.int (j:Int)) st=.ok (.int (2 ^ j)) st:=by
 have hc:dS 1 (j:Int)=true:=by simp [dS];omega
 show (if dS 1 (j:Int)=true then Res.ok (PV.int (1*2 ^ (j:Int).toNat)) st else .stuck)=_
 rw [zw hc,Int.one_mul,Int.toNat_natCast]
def Ir (b:Int) (hb:0<=b) (j:Nat) (st:aa):pz [.int b,.int (j:Int)] st=.ok (.bl (bitAt b j)) st:=by
 have S:iB (.int b) (.int (j:Int)) st=.ok (.int (b/2 ^ j)) st:=by
  have hc:lR b (j:Int)=true:=by simp [lR]
  show (if lR b (j:Int)=true then Res.ok (PV.int (b/2 ^ (j:Int).toNat)) st else .stuck)=_
  rw [zw hc,Int.toNat_natCast]
 have nn:0<=b/2 ^ j:=Int.ediv_nonneg hb (Int.pow_nonneg (by decide))
 have A:iA (.int (b/2 ^ j)) (.int 1) st=.ok (.int (b/2 ^ j%2)) st:=by
  show (if c0 (b/2 ^ j) 1=true then Res.ok (PV.int (Builtin.bitAnd (b/2 ^ j) 1)) st else .stuck)=_
  rw [zw rfl,Iq _ nn]
 exact zX rfl (zT (zj (zj (zj (zc rfl) (zc rfl) S) rfl A) rfl (rq _ _)))
theorem u_ {f:PV}{ps:Ad}{r:An}(b:Int) (hb:0<=b) (hl:ps.length<=1000) (st:aa):pA [.tup (f :: .tup (ps.map PV.str)::r),.int b] st=.ok (.tup ((picks (bitAt b) 0 ps).map PV.str)) (st++[.lst ((picks (bitAt b) 0 ps).map PV.str)]):=by
 have C:=u7 (ft:=(mB (zq pz (zd (za 3) (zd (za 0) zh))))) (fe:=za 1) (env:=[some (.tup (f :: .tup (ps.map PV.str)::r)),some (.int b)]) (st:=st) (p:=bitAt b) ps 0 [] (λj z _ _=>zM (zy (zR (zc rfl) (zc rfl)) (Ir b hb j st))) (λj z=>zc rfl)
 rw [List.nil_append] at C
 refine zX rfl (zT (zy (zF ?_) (by rw [jS,yv (ym _ _)])))
 unfold rB
 rw [zF (zj (zc rfl) rfl yw),zH]
 show (Res.bind (if _ then _ else _) _)=_
 rw [zw (by simp [lim];omega),zH]
 exact C
theorem Iu {l:Ad}(nd:l.Nodup) {i:Nat}{z:Str}(hz:l[i]?=some z):z∉l.take i:=λhm=>by
 obtain ⟨j,hj⟩:=List.getElem?_of_mem hm
 have jl:j<i:=by have:=(yD.mp hj).1;simp at this;omega
 rw [List.getElem?_take_of_lt jl] at hj
 obtain ⟨h1,h2⟩:=yD.mp hj
 obtain ⟨h3,h4⟩:=yD.mp hz
 have:=HZ nd h1 h3 (h2.trans h4.symm)
 omega
def pK {z:Str}{x:PV}{ks:Ad}{xs:An}(h:z∉ks):j2 z x ks xs=(ks++[z],xs++[x]):=by
 unfold j2
 rw [zI (by simpa using h)]
abbrev iI (q b:Nat):SO:=.ins "Holding" ["pairs", "bits_by_name"] [.ref q,.ref b]
def Iv {s:aa} {o q b:Nat} (h:s[o]?=some (iI q b)):aK "pairs" insOf excOf (.ref o) s=.ok (.ref q) s:=by
 rw [Fp,o_ h,zw (by simp [insOf])]
 rfl
def Iw {name:Str} {tab:Str->Option (Al)} {fo:Ai} {fs:Ah} {m:Al} {ys:An} {X:Res PV} {e:zb} {s s1:aa} {o q b:Nat} (ho:fo e s=.ok (.ref o) s) (h:s[o]?=some (iI q b)) (hn:name∉(["pairs", "bits_by_name"]:Ad)) (ht:tab "Holding" = some m) (hf:fs e s=.ok ys s1) (hm:m (.ref o::ys) s1=X):yV name tab fo fs e s=X:=by
 unfold yV
 rw [ho,zH]
 show jc s o _=_
 unfold jc
 rw [h]
 simp only
 rw [zI hn,ht]
 simp only
 rw [hf,zH,hm]
def nR {s:aa}{n:Nat}{ks:Ad}{xs:An}{z:Str}{x:PV}(h:s[n]?=some (.dic ks xs)) (hl:(ks.zip xs).lookup z=some x):zk (.ref n) (.str z) s=.ok x s:=by
 show jm s n _=_
 unfold jm
 rw [h]
 simp only
 rw [hl]
 rfl
def Iy (i:Int) (st:aa):j9 (.int i) (.int 0) st=.ok (.bl (decide (i≠0))) st:=by
 simp [j9,Mi.plain,dep,bu]
 rfl
def Iz {g:PV->zb->Option zb}{body:Aj}{x:PV}{r:An}{e e1:zb}{s s1:aa}{v:PV}(h:g x e=some e1) (hb:body e1 s=.ok (.rt v) s1):forL g body (x::r) e s=.ok (.rt v) s1:=by
 unfold forL
 rw [h]
 simp only
 rw [hb,zH]
def wU {g:PV->zb->Option zb}{body:Aj}{x:PV}{r:An}{e e1 e2:zb}{s s1:aa}{X:Res Fl}(h:g x e=some e1) (hb:body e1 s=.ok (.nx e2) s1) (hr:forL g body r e2 s1=X):forL g body (x::r) e s=X:=by
 unfold forL
 rw [h]
 simp only
 rw [hb,zH]
 exact hr
section
variable {f:Ai} {e:zb} {s:aa} {xs:An}
variable {j:Nat} {s:aa}
variable {body:Aj} {r:Nat} {xs:An} {e:zb} {s s1:aa} {X:Res Fl}
variable {z:Str} {s:aa}
variable {j:Nat}
def wV {f:Ai}{gt:PV->zb->Option zb}{body:Aj}{e:zb}{s s1:aa}{xs:An}{X:Res Fl}(h:f e s=.ok (.tup xs) s1) (hX:forL gt body xs e s1=X):jq (yA f) gt body e s=X:=by
 rw [oZ,wX,h,zH]
 show (Res.ok (Sq.im xs) s1).bind _=_
 rw [zH]
 exact hX
def Wh {f:Ai}{gt:PV->zb->Option zb}{body:Aj}{e:zb}{s s1:aa}{r:Nat}{xs:An}{X:Res Fl}(h:f e s=.ok (.ref r) s1) (hr:s1[r]?=some (.lst xs)) (hX:forR gt body r (lim+1) 0 e s1=X):jq (yA f) gt body e s=X:=by
 rw [oZ,wX,h,zH,uk,yv hr,zH]
 exact hX
def Wi {f:PV}{ps:Ad}{r:An}(b:Int) (hb:0<=b) (hl:ps.length<=1000) (st:aa):Bm [.tup (f :: .tup (ps.map PV.str)::r),.int b] st=.ok (.tup ((picks (λj=>!bitAt b j) 0 ps).map PV.str)) (st++[.lst ((picks (λj=>!bitAt b j) 0 ps).map PV.str)]):=by
 have C:=u7 (ft:=(ka (mB (zq pz (zd (za 3) (zd (za 0) zh)))))) (fe:=za 1) (env:=[some (.tup (f :: .tup (ps.map PV.str)::r)),some (.int b)]) (st:=st) (p:=λj=>!bitAt b j) ps 0 [] (λj z _ _=>ph (zM (zy (zR (zc rfl) (zc rfl)) (Ir b hb j st)))) (λj z=>zc rfl)
 rw [List.nil_append] at C
 refine zX rfl (zT (zy (zF ?_) (by rw [jS,yv (ym _ _)])))
 unfold rB
 rw [zF (zj (zc rfl) rfl yw),zH]
 show (Res.bind (if _ then _ else _) _)=_
 rw [zw (by simp [lim];omega),zH]
 exact C
end
def jt:List (List Nat)->List Nat
 |[]=>[]
 |x::xs=>44::(x++jt xs)
def jn:List (List Nat)->List Nat
 |[]=>[]
 |x::xs=>x++jt xs
theorem Wj (ls:List (List Nat)):PySem.Txt.join ("," : Str) (ls.map S)=S (jn ls):=by
 show PySem.Builtin.Str.glued ("," : Str) (ls.map S)=_
 rw [PySem.StrLaws.glued_eq_join]
 have e0:("," : Str)=S [44]:=by decide +kernel
 rw [e0]
 induction ls with
 |nil=>rfl
 |cons c r ih =>
  cases r with
  |nil=>show S c=_;simp [jn,jt]
  |cons d r' =>
   show S c++S [44]++Str.join (S [44]) ((d::r').map S)=_
   rw [ih,r9,r9]
   simp [jn,jt]
theorem IA:∀ls:List (List Nat),strsOf (ls.map λl=>PV.str (S l))=some (ls.map S)
 |[]=>rfl
 |l::ls=>by simp [strsOf,IA ls]
theorem IB:∀ls:List (List Nat),((ls.map S).map (·.length)).sum+ls.length<=(jt ls).length
 |[]=>by simp [jt]
 |l::ls=>by
  have:=IB ls
  have:=pI l
  simp only [yK,List.sum_cons,wM,jt,iO];omega
def Wk (ls:List (List Nat)):(jt ls).length<=(jn ls).length+1:=by cases ls<;>simp [jt,jn]
theorem glue {fa:Ai}{e:zb}{st s1:aa}{r:Nat}{ls:List (List Nat)}{a b:Str}{ca cb:Nat}(h:fa e st=.ok (.ref r) s1) (hr:s1[r]?=some (.lst (ls.map λl=>PV.str (S l)))) (hl:(jn ls).length<=5000) (ea:a=S [ca]) (eb:b=S [cb]) :
  (zf yG (zf yG (As a) (ux (As ",") fa)) (As b)) e st=.ok (.str (S (ca::(jn ls++[cb])))) s1:=by
 have hs:=IB ls
 have hj:=Wk ls
 have J:(ux (As ",") fa) e st=.ok (.str (S (jn ls))) s1:=by
  show (fa e st).bind _=_
  rw [h,zH]
  show yu s1 r _=_
  rw [yv hr,IA]
  have l1:("," : Str).length=1:=by decide +kernel
  simp only [jD,l1]
  rw [zw (by omega),Wj]
 subst ea eb
 have la:=pI [ca]
 have lb:=pI [cb]
 have lj:=pI (jn ls)
 refine zj (zj rfl J (ad _ _ (by rw [la,lj];simp;omega) _)) rfl ?_
 rw [ad _ _ (by rw [r9,pI,lb];simp;omega),r9,r9]
 simp
def Wl (i:Int) (st:aa):ma [.int i] st=.ok (.str "number") st:=by kernel_rfl
def Wm (xs:An) (st:aa):ma [.tup xs] st=.ok (.str "row") st:=by kernel_rfl
theorem Wn:("row" : Str) ≠ "number" := by decide +kernel
theorem Wo:("row" : Str) ≠ "word" := by decide +kernel
def brk (ls:List (List Nat)):List Nat:=91::(jn ls++[93])
def kN {α:Type}{l:List α}{n:Nat}{x:α}(h:l[n]?=some x):n<l.length:=(yD.mp h).1
theorem Wq {mr:Al}{xs:An}{ls:List (List Nat)}(hl:xs.length=ls.length) (h5:(jn ls).length<=5000) (h9:xs.length<=1000) (hm:∀(i:Nat) x l,xs[i]?=some x->ls[i]?=some l->∀s,∃s1,mr [x] s=.ok (.str (S l)) s1/\Old s s1) (st:aa) :
  ∃s1,uE mr [.tup xs] st=.ok (.str (S (brk ls))) s1/\Old st s1:=by
 obtain ⟨ys,s1,R,hy,o⟩:=pH (fe:=zq mr (zd (za 0) zh)) (env:=[some (.tup xs),some (.str "row"),none]) xs (λi ys s=>ys=((ls.take i).map λl=>PV.str (S l))/\Old st s) (λi x ys s hx ⟨h1,h2⟩=>by
  have hi:=kN hx
  have hy:ls[i]?=some (ls[i]'(by omega)):=yx _
  obtain ⟨s1,e1,o1⟩:=hm i x _ hx hy s
  refine ⟨_,s1,zy (zF (zc rfl)) e1,?_,h2.trans o1⟩
  rw [h1,nP hy,wW];rfl) xs.length 0 [] st (by omega) ⟨rfl,Old.refl _⟩
 have C:(yW (yA (za 0)) (zq mr (zd (za 0) zh))) [some (.tup xs),some (.str "row"),none] st=.ok (.ref s1.length) (s1++[.lst ys]):=by
  rw [lV]
  show fK _ _ (.im xs) st=_
  rw [nC,zw (by simp [lim];omega)]
  exact R
 have G:=glue (ls:=ls) (a := "[") (b := "]") (ca:=91) (cb:=93) C (by rw [ym,hy,hl,List.take_length]) h5 (by decide +kernel) (by decide +kernel)
 exact ⟨_,zX rfl (zp (zP (zy (zF (zc rfl)) (Wm _ _))) (zp (zV (zM (zj (zc rfl) rfl (a9 Wn _)))) (zp (zV (zM (zj (zc rfl) rfl (a9 Wo _)))) (yJ (yB (zM (zj (zc rfl) rfl (dF _))) (zT G)))))),o.trans (zY _ _)⟩
theorem IC:∀{ls:List (List Nat)}{m:Nat},(∀l∈ls,l.length<=m)->(jt ls).length<=ls.length*(m+1)
 |[],_,_=>by simp [jt]
 |l::ls,m,h=>by
  have h1:=h l (ja ..)
  have h2:=IC (ls:=ls) (m:=m) λz hz=>h z (jg _ hz)
  simp only [jt,wM,iO,Nat.add_mul];omega
def Wr:∀ls:List (List Nat),(jn ls).length<=(jt ls).length
 |[]=>by simp [jn,jt]
 |l::ls=>by simp [jn,jt]
def Ws {ls:List (List Nat)}{m:Nat}(h:∀l∈ls,l.length<=m):(jn ls).length<=ls.length*(m+1):=jw (Wr ls) (IC h)
section
variable {e:zb} {st s s1 s2:aa} {f fo fi fv:Ai} {fs:Ah} {g g':Aj} {x:PV} {xs ys:An} {c:Str} {ks:Ad} {zs:An} {o n:Nat}
def ID {m n:Nat}(hl:xs.length=m) (h:g (xs.map some++List.replicate (n-m) none) st=.err c ks zs s1):zK m n g xs st=.err c ks zs s1:=by
 unfold zK
 rw [zw hl,h]
 rfl
def ml {m n:Nat}(hl:xs.length=m) (h:g (xs.map some++List.replicate (n-m) none) st=.ok (.nx e) s1):zK m n g xs st=.ok .non s1:=by
 unfold zK
 rw [zw hl,h]
 rfl
def Wt (h:g e st=.err c ks zs s1):zt g g' e st=.err c ks zs s1:=by rw [Ay,h,uh]
def Wu (h:f e st=.err c ks zs s1):je f e st=.err c ks zs s1:=by rw [Fj,h,uh]
def Wv (h:f e st=.err c ks zs s1):zJ f e st=.err c ks zs s1:=by rw [Fn,h,uh]
def wK {fn:Str}(h:s[o]?=some (.ins c ks xs)) (hi:insOf c=true) (hl:(ks.zip xs).lookup fn=some x):aK fn insOf excOf (.ref o) s=.ok x s:=by
 rw [Fp,o_ h,zw hi,hl]
 rfl
def w8 {fn:Str}(hv:fv e s=.ok x s1) (ho:fo e s1=.ok (.ref o) s1) (h:s1[o]?=some (.ins c ks xs)) (hi:insOf c=true) (hl:ks.length<1000):sFld fn insOf fo fv e s=.ok (.nx e) (s1.set o (.ins c (Mi.putK fn x ks xs).1 (Mi.putK fn x ks xs).2)):=by
 rw [QU,hv,zH,ho,zH]
 show (jc s1 o _).bind _=_
 rw [o_ h,zw ⟨hi,hl⟩,zH]
def j5 {name:Str}{tab:Str->Option (Al)}{m:Al}{X:Res PV}(ho:fo e s=.ok (.ref o) s1) (h:s1[o]?=some (.ins c ks xs)) (hn:name∉ks) (ht:tab c=some m) (hf:fs e s1=.ok ys s2) (hm:m (.ref o::ys) s2=X):yV name tab fo fs e s=X:=by
 unfold yV
 rw [ho,zH]
 show jc s1 o _=_
 unfold jc
 rw [h]
 simp only
 rw [zI hn,ht]
 simp only
 rw [hf,zH,hm]
def IE {old:Am}{neg:Bool}{k:List Key}{kk:Ag}(hz:c_ zs=some k) (h:cj s[n]?=some (kk,xs)):cQ old neg (.tup zs) (.ref n) s=.ok (.bl (neg.xor (cw k kk))) (s.set n (.dit kk xs)):=by
 unfold cQ
 simp only [hz,h]
def BJ {old:Am}{k:List Key}{kk:Ag}(hz:c_ zs=some k) (h:cj s[n]?=some (kk,xs)) (hl:iD k kk xs=some x):av old (.ref n) (.tup zs) s=.ok x (s.set n (.dit kk xs)):=by
 unfold av
 simp only [hz,h,hl]
 rfl
def IF {k:List Key}{kk:Ag}(hv:fv e s=.ok x s1) (ho:fo e s1=.ok (.ref n) s1) (hi:fi e s1=.ok (.tup zs) s1) (hz:c_ zs=some k) (h:cj s1[n]?=some (kk,xs)) (hn:cw k kk=false) (hl:kk.length<1000000) :
  kF fo fi fv e s=.ok (.nx e) (s1.set n (.dit (kk++[k]) (xs++[x]))):=by
 unfold kF
 rw [hv,zH,ho,zH,hi,zH]
 have P:kE (.tup zs) x (.ref n) s1=.ok () (s1.set n (.dit (kk++[k]) (xs++[x]))):=by
  unfold kE
  simp only [hz,h]
  rw [zw (by simpa [lim] using hl)]
  unfold wR
  rw [hn]
  rfl
 rw [P,zH]
def BL {i:Int}:av zk (.tup xs) (.int i) s=zk (.tup xs) (.int i) s:=(rfl)
def bo (h:s[n]?=some (.lst xs)):yH [.ref n] s=.ok (.int xs.length) s:=by
 unfold yH
 simp only [h]
 rw [QK,yv h]
def sf {so:SO}(h:s[n]?=some so):s.set n so=s:=by
 obtain ⟨hn,rfl⟩:=yD.mp h
 exact List.set_getElem_self hn
end
abbrev nV (n:Nat):PV:=.int (n:Int)
def IG {i:Int}(h:i.natAbs<10 ^ 18):i.natAbs.log2<60:=by
 have h1:i.natAbs<2 ^ 60:=Nat.lt_trans h (by decide)
 by_cases hz:i.natAbs=0
 ·rw [hz];decide
 ·exact (Nat.log2_lt hz).mpr h1
def sg (i:Int):List Nat:=(Str.ofString (toString i)).cps.toList
def Sh (v:PV) (l:List Nat):Prop:=l.length<=70/\∀mr st,uE mr [v] st=.ok (.str (S l)) st
theorem Ww {i:Int}(h:i.natAbs<10 ^ 18):Sh (.int i) (sg i):=by
 have e:Str.ofString (toString i)=S (sg i):=(r6 _).symm
 refine ⟨?_,λmr st=>?_⟩
 ·have l:=int_text_length_le (a:=i) (k:=60) (by decide) (IG h)
  have:=pI (sg i)
  rw [<-e,ofString_length] at this
  omega
 ·have x:wY [.int i] st=.ok (.str (S (sg i))) st:=by
   rw [FQ,zw (Nat.lt_trans (IG h) (by decide)),<-e]
  exact zX rfl (zp (zP (zy (zF (zc rfl)) (Wl _ _))) (yJ (yB (zM (zj (zc rfl) rfl (dF _))) (zT (zy (zF (zc rfl)) x)))))
theorem Wx {vs:An}{ls:List (List Nat)}(hl:vs.length=ls.length) (h6:vs.length<=6) (h:∀(i:Nat) v l,vs[i]?=some v->ls[i]?=some l->Sh v l) (st:aa):∃s1,kJ 3 [.tup vs] st=.ok (.str (S (brk ls))) s1/\Old st s1:=by
 refine Wq hl ?_ (by omega) (λi v l hv kX s=>?_) st
 ·have q:=Ws (ls:=ls) (m:=70) λl kX=>by
   obtain ⟨i,hi⟩:=List.getElem?_of_mem kX
   have:=kN hi
   exact (h i _ l (yx (by omega)) hi).1
  omega
 ·exact ⟨s,(h i v l hv kX).2 _ s,Old.refl _⟩
abbrev nS (L M N:Nat):SO:=.ins "KeyRing" ["limit", "met", "names"] [nV L,.ref M,.ref N]
abbrev cx (f:Str) (b:Int) (vs:An):PV:=.tup [.str f,.int b,.tup vs]
abbrev pL (f:Str) (b:Int) (z:Str):An:=[.str f,.int b,.str z]
abbrev e6 (f:Str) (b:Int) (z:Str):List Key:=[.inr f,.inl b,.inr z]
structure R0 (L r M N:Nat) (s:aa):Prop where
 at_:s[r]?=some (nS L M N)
 met:s[M]?=some (.lst [])
 nms:s[N]?=some (.dic [] [])
 rM:r≠M
 rN:r≠N
 MN:M≠N
structure R1 (f:Str) (b:Int) (vs:An) (z:Str) (L r M N:Nat) (s:aa):Prop where
 at_:s[r]?=some (nS L M N)
 met:s[M]?=some (.lst [cx f b vs])
 nms:s[N]?=some (.dit [e6 f b z] [.str "q0"])
section
variable {f z:Str} {b:Int} {vs:An} {L r M N:Nat} {s s1 s':aa}
def R0.old (h:R0 L r M N s) (o:Old s s'):R0 L r M N s':=⟨o _ _ h.at_,o _ _ h.met,o _ _ h.nms,h.rM,h.rN,h.MN⟩
def R1.old (h:R1 f b vs z L r M N s) (o:Old s s'):R1 f b vs z L r M N s':=⟨o _ _ h.at_,o _ _ h.met,o _ _ h.nms⟩
def IH {X:Res Fl}(E:kJ 3 [.tup vs] s=.ok (.str z) s1) (h:HA [Au r,some (cx f b vs),some (.tup (pL f b z)),none] s1=X) :
  HB [Au r,some (cx f b vs),none,none] s=X :=
 zp (zP (ya (wj (zj (zc rfl) rfl (BL.trans yM)) (zj (zc rfl) rfl (BL.trans yw)) (zy (zF (zj (zc rfl) rfl (BL.trans jP))) E)) (by simp))) h
theorem Wy (hs:∀s,∃s1,kJ 3 [.tup vs] s=.ok (.str z) s1/\Old s s1) (G:R1 f b vs z L r M N s):∃s1,m_KeyRing_name_for [.ref r,cx f b vs] s=.ok (.str "q0") s1/\Old s s1:=by
 obtain ⟨s1,E,o⟩:=hs s
 have G1:=G.old o
 have ra:cj s1[N]?=some ([e6 f b z],[.str "q0"]):=by rw [G1.nms];rfl
 have I:=IE (old:=yI true) (neg:=true) (zs:=pL f b z) (k:=e6 f b z) rfl ra
 have hh:cw (e6 f b z) [e6 f b z]=true:=A5.mpr (jv.mpr rfl)
 rw [hh,sf G1.nms] at I
 have J:=BJ (old:=zk) (zs:=pL f b z) (k:=e6 f b z) (x:=.str "q0") rfl ra (by unfold iD;rw [zw rfl])
 rw [sf G1.nms] at J
 have F:aK "names" insOf excOf (.ref r) s1=.ok (.ref N) s1:=wK G1.at_ (by decide +kernel) rfl
 exact ⟨s1,zX rfl (IH E (zp (zV (zM (zj (zc rfl) (yX (zc rfl) F) I))) (zT (zj (yX (zc rfl) F) (zc rfl) J)))),o⟩
theorem Wz (st:aa):A_ "q" (.int 0) st=.ok (.str "q0") st:=by
 have e:("q" ++ Str.ofString (toString (0:Int)):Str) = "q0" := by decide +kernel
 have c:(0:Int).natAbs.log2<1920/\("q" ++ Str.ofString (toString (0:Int)):Str).length<=1000:=by decide +kernel
 exact (zw (e:=Res.stuck) c).trans (congrArg (λz=>Res.ok (PV.str z) st) e)
theorem WC (hs:∀s,∃s1,kJ 3 [.tup vs] s=.ok (.str z) s1/\Old s s1) (hL:0<L) (G:R0 L r M N s):∃s1,m_KeyRing_name_for [.ref r,cx f b vs] s=.ok (.str "q0") s1/\R1 f b vs z L r M N s1/\∀(m:Nat) so,m≠M->m≠N->s[m]?=some so->s1[m]?=some so:=by
 obtain ⟨s1,E,o⟩:=hs s
 have G1:=G.old o
 have ra:cj s1[N]?=some ([],[]):=by rw [G1.nms];rfl
 have I:=IE (old:=yI true) (neg:=true) (zs:=pL f b z) (k:=e6 f b z) rfl ra
 have hh:cw (e6 f b z) []=false:=rfl
 rw [hh] at I
 have lN:=yh G1.nms
 have a2:(s1.set N (.dit [] []))[r]?=some (nS L M N):=by rw [yr (yz G.rN)];exact G1.at_
 have m2:(s1.set N (.dit [] []))[M]?=some (.lst []):=by rw [yr (yz G.MN)];exact G1.met
 have d2:(s1.set N (.dit [] []))[N]?=some (.dit [] []):=yZ lN
 have k2:∀(m:Nat) so,m≠N->s1[m]?=some so->(s1.set N (.dit [] []))[m]?=some so:=λm so q e=>by rw [yr (yz q)];exact e
 generalize s1.set N (.dit [] [])=s2 at I a2 m2 d2 k2
 have A:=iH (y:=cx f b vs) m2 (by simp)
 have a3:(s2.set M (.lst ([]++[cx f b vs])))[r]?=some (nS L M N):=by rw [yr (yz G.rM)];exact a2
 have m3:(s2.set M (.lst ([]++[cx f b vs])))[M]?=some (.lst [cx f b vs]):=yZ (yh m2)
 have d3:(s2.set M (.lst ([]++[cx f b vs])))[N]?=some (.dit [] []):=by rw [yr G.MN];exact d2
 have k3:∀(m:Nat) so,m≠M->s2[m]?=some so->(s2.set M (.lst ([]++[cx f b vs])))[m]?=some so:=λm so q e=>by rw [yr (yz q)];exact e
 generalize s2.set M (.lst ([]++[cx f b vs]))=s3 at A a3 m3 d3 k3
 have P:=IF (e:=[Au r,some (cx f b vs),some (.tup (pL f b z)),some (.int 0)]) (yX (fa:=za 3) (zc rfl) (Wz s3)) (yX (fa:=za 0) (zc rfl) (wK a3 (by decide +kernel) rfl:aK "names" insOf excOf (.ref r) s3=.ok (.ref N) s3)) (fi:=za 2) (zc rfl) (k:=e6 f b z) rfl (show cj s3[N]?=some ([],[]) by rw [d3];rfl) hh (by simp)
 rw [List.nil_append,List.nil_append] at P
 have WE:=yh d3
 have a4:(s3.set N (.dit [e6 f b z] [.str "q0"]))[r]?=some (nS L M N):=by rw [yr (yz G.rN)];exact a3
 have m4:(s3.set N (.dit [e6 f b z] [.str "q0"]))[M]?=some (.lst [cx f b vs]):=by rw [yr (yz G.MN)];exact m3
 have d4:(s3.set N (.dit [e6 f b z] [.str "q0"]))[N]?=some (.dit [e6 f b z] [.str "q0"]):=yZ WE
 have k4:∀(m:Nat) so,m≠N->s3[m]?=some so->(s3.set N (.dit [e6 f b z] [.str "q0"]))[m]?=some so:=λm so q e=>by rw [yr (yz q)];exact e
 generalize s3.set N (.dit [e6 f b z] [.str "q0"])=s4 at P a4 m4 d4 k4
 have J:=BJ (old:=zk) (zs:=pL f b z) (k:=e6 f b z) (x:=.str "q0") rfl (show cj s4[N]?=some ([e6 f b z],[.str "q0"]) by rw [d4];rfl) (by unfold iD;rw [zw rfl])
 rw [sf d4] at J
 have F2:∀{f x},(((["limit", "met", "names"]:Ad).zip [nV L,.ref M,.ref N]).lookup f=some x)->aK f insOf excOf (.ref r) s2=.ok x s2:=λh=>wK a2 (by decide +kernel) h
 have ln:yH [.ref M] s2=.ok (.int 0) s2:=bo m2
 exact ⟨s4,zX rfl (IH E (zp (yB (zM (zj (zc rfl) (yX (zc rfl) (wK G1.at_ (by decide +kernel) rfl)) I)) (zp (zP (zy (zF (yX (zc rfl) (F2 rfl))) ln)) (zp (zV (zM (zj (zc rfl) (yX (zc rfl) (F2 rfl)) (dW false (by simp;omega) _)))) (zp (wI (wZ (yX (zc rfl) (F2 rfl)) m2 (zc rfl) A)) P)))) (zT (zj (yX (zc rfl) (wK a4 (by decide +kernel) rfl)) (zc rfl) J)))),⟨a4,m4,d4⟩,λm so q1 q2 e=>k4 _ _ q2 (k3 _ _ q1 (k2 _ _ q2 (o _ _ e)))⟩
end
theorem WG (L:Nat) (st:aa):∃s1,bO "KeyRing" rK [nV L] st=.ok (.ref st.length) s1/\R0 L st.length (st.length+1) (st.length+2) s1/\Old st s1:=by
 let r:=st.length
 let t0:=st++[SO.ins "KeyRing" [] []]
 have h0:t0[r]?=some (.ins "KeyRing" [] []):=ym _ _
 let t1:=t0.set r (.ins "KeyRing" ["limit"] [nV L])
 have h1:t1[r]?=some (.ins "KeyRing" ["limit"] [nV L]):=yZ (yh h0)
 have l1:t1.length=r+1:=by simp [t1,t0,r]
 let t2:=t1++[SO.lst []]
 have h2:t2[r]?=some (.ins "KeyRing" ["limit"] [nV L]):=zY _ _ _ _ h1
 let t3:=t2.set r (.ins "KeyRing" ["limit", "met"] [nV L,.ref t1.length])
 have h3:t3[r]?=some (.ins "KeyRing" ["limit", "met"] [nV L,.ref t1.length]):=yZ (yh h2)
 have l3:t3.length=r+2:=by simp [t3,t2,l1]
 let t4:=t3++[SO.dic [] []]
 have h4:t4[r]?=some (.ins "KeyRing" ["limit", "met"] [nV L,.ref t1.length]):=zY _ _ _ _ h3
 let t5:=t4.set r (nS L t1.length t3.length)
 have E:rK [.ref r,nV L] t0=.ok .non t5:=ml rfl (zp (w8 (zc rfl) (zc rfl) h0 (by decide +kernel) (by decide)) (zp (w8 (wJ jO (by simp)) (zc rfl) h2 (by decide +kernel) (by decide)) (w8 (x:=.ref t3.length) (s1:=t4) rfl (zc rfl) h4 (by decide +kernel) (by decide))))
 refine ⟨t5,?_,⟨?_,?_,?_,by omega,by omega,by omega⟩,λk so e=>?_⟩
 ·show (rK [.ref r,nV L] t0).bind _=_
  rw [E,zH]
  rfl
 ·show (t4.set r _)[r]?=_
  rw [yZ (yh h4),l1,l3]
 ·show (t4.set r _)[r+1]?=_
  rw [yr (by omega)]
  refine zY _ _ _ _ ?_
  show (t2.set r _)[r+1]?=_
  rw [yr (by omega),<-l1]
  exact ym _ _
 ·show (t4.set r _)[r+2]?=_
  rw [yr (by omega),<-l3]
  exact ym _ _
 ·have hk:=yh e
  have hr:r≠k:=by show st.length≠k;omega
  show (t4.set r _)[k]?=_
  rw [yr hr]
  refine zY _ _ _ _ ?_
  show (t2.set r _)[k]?=_
  rw [yr hr]
  refine zY _ _ _ _ ?_
  show (t0.set r _)[k]?=_
  rw [yr hr]
  exact zY _ _ _ _ e
def va (st:aa) (a b:SO):(st++[a]).set st.length b=st++[b]:=by simp
abbrev nU (v:PV):SO:=.ins "Known" ["value"] [v]
abbrev mm (z:Str):SO:=.ins "Later" ["name"] [.str z]
theorem BM (v:PV) (st:aa):bO "Known" kK [v] st=.ok (.ref st.length) (st++[nU v]):=by
 have E:kK [.ref st.length,v] (st++[SO.ins "Known" [] []])=.ok .non ((st++[SO.ins "Known" [] []]).set st.length (nU v)):=ml rfl (w8 (zc rfl) (zc rfl) (ym _ _) (by decide +kernel) (by decide))
 show (kK [.ref st.length,v] (st++[SO.ins "Known" [] []])).bind _=_
 rw [E,zH,va]
 rfl
theorem II (z:Str) (st:aa):bO "Later" mf [.str z] st=.ok (.ref st.length) (st++[mm z]):=by
 have E:mf [.ref st.length,.str z] (st++[SO.ins "Later" [] []])=.ok .non ((st++[SO.ins "Later" [] []]).set st.length (mm z)):=ml rfl (w8 (zc rfl) (zc rfl) (ym _ _) (by decide +kernel) (by decide))
 show (mf [.ref st.length,.str z] (st++[SO.ins "Later" [] []])).bind _=_
 rw [E,zH,va]
 rfl
def Kx (ms:List Nat) (s s':aa):Prop:=∀(m:Nat) so,m∉ms->s[m]?=some so->s'[m]?=some so
def Kx.refl (ms:List Nat) (s:aa):Kx ms s s:=λ_ _ _ e=>e
def Kx.trans {ms:List Nat}{a b c:aa}(h:Kx ms a b) (h':Kx ms b c):Kx ms a c:=λm so q e=>h' m so q (h m so q e)
def Old.kx {ms:List Nat}{s s':aa}(h:Old s s'):Kx ms s s':=λm so _ e=>h m so e
def jY {ms:List Nat}{s:aa}{n:Nat}{so:SO}(h:n∈ms):Kx ms s (s.set n so):=λm x q e=>by
 have ne:n≠m:=λz=>q (z▸h)
 rw [yr ne];exact e
def KI (s s':aa):Prop:=∀(q:Nat) c ks xs,s[q]?=some (.ins c ks xs)->s'[q]?=some (.ins c ks xs)
def KI.trans {a b c:aa}(h:KI a b) (h':KI b c):KI a c:=λq x y z e=>h' _ _ _ _ (h q x y z e)
def Old.ki {s s':aa}(h:Old s s'):KI s s':=λq _ _ _ e=>h q _ e
def IJ {s:aa}{n:Nat}{so oR:SO}(h:s[n]?=some so) (hn:∀c ks xs,so ≠ .ins c ks xs):KI s (s.set n oR):=λq c ks xs e=>by
 have ne:n≠q:=λz=>by subst z;rw [h] at e;cases e;exact hn _ _ _ rfl
 rw [yr ne];exact e
abbrev Ev:=List (Str×Option PV)
def obj (z:Str):Option PV->SO
 |none=>mm z
 |some y=>nU y
def Th (s:aa):Ev->List PV->Prop
 |[],vs=>vs=[]
 | (z,x)::E,vs=>∃q r,vs=.ref q::r/\s[q]?=some (obj z x)/\Th s E r
def IK (z:Str) (x:Ao):∃c ks xs,obj z x=.ins c ks xs:=by cases x<;>exact ⟨_,_,_,rfl⟩
theorem Th.ki {s s':aa}(k:KI s s'):∀{E:Ev}{vs:An},Th s E vs->Th s' E vs
 |[],_,h=>h
 | (z,x)::E,_,h=>by
  obtain ⟨q,r,e,h1,h2⟩:=h
  obtain ⟨c,ks,xs,eo⟩:=IK z x
  exact ⟨q,r,e,by rw [eo] at h1 ⊢;exact k _ _ _ _ h1,Th.ki k h2⟩
theorem Th.snoc {s:aa}{z:Str}{x:Ao}{q:Nat}(hq:s[q]?=some (obj z x)):∀{E:Ev}{vs:An},Th s E vs->Th s (E++[(z,x)]) (vs++[.ref q])
 |[],_,h=>by rw [show _=[] from h];exact ⟨q,[],rfl,hq,rfl⟩
 | (z',x')::E,_,h=>by
  obtain ⟨q',r,e,h1,h2⟩:=h
  rw [e]
  exact ⟨q',_,rfl,h1,Th.snoc hq h2⟩
theorem Th.get {s:aa}{z:Str}{x:Ao}:∀{E:Ev}{vs:An},Th s E vs->E.lookup z=some x->∃q,((E.map (·.1)).zip vs).lookup z=some (.ref q)/\s[q]?=some (obj z x)
 |[],_,_,h=>by cases h
 | (z',x')::E,_,h,hl=>by
  obtain ⟨q',r,e,h1,h2⟩:=h
  rw [e,yK,List.zip_cons_cons,yL]
  rw [yL] at hl
  cases hz:z==z' with
  |true =>
   rw [hz] at hl
   cases hl
   have:z=z':=by simpa using hz
   subst this
   exact ⟨q',rfl,h1⟩
  |false =>
   rw [hz] at hl
   exact Th.get h2 hl
def Tg (T:Nat) (E:Ev) (s:aa):Prop:=∃vs,s[T]?=some (.dic (E.map (·.1)) vs)/\Th s E vs
def Tg.old {T:Nat}{E:Ev}{s s':aa}(h:Tg T E s) (o:Old s s'):Tg T E s':=by
 obtain ⟨vs,a,b⟩:=h
 exact ⟨vs,o _ _ a,b.ki o.ki⟩
def Tg.kx {T:Nat}{ms:List Nat}{E:Ev}{s s':aa}(h:Tg T E s) (o:Kx ms s s') (k:KI s s') (hT:T∉ms):Tg T E s':=by
 obtain ⟨vs,a,b⟩:=h
 exact ⟨vs,o _ _ hT a,b.ki k⟩
def Tg.put {T:Nat}{E:Ev}{s:aa}{z:Str}(h:Tg T E s) (hz:z∉E.map (·.1)) (x:Ao):∃vs,s[T]?=some (.dic (E.map (·.1)) vs)/\j2 z (.ref s.length) (E.map (·.1)) vs=(E.map (·.1)++[z],vs++[.ref s.length]) /\
  Tg T (E++[(z,x)]) ((s++[obj z x]).set T (.dic (E.map (·.1)++[z]) (vs++[.ref s.length])))/\KI s ((s++[obj z x]).set T (.dic (E.map (·.1)++[z]) (vs++[.ref s.length])))/\Kx [T] s ((s++[obj z x]).set T (.dic (E.map (·.1)++[z]) (vs++[.ref s.length]))):=by
 obtain ⟨vs,a,b⟩:=h
 have a1:(s++[obj z x])[T]?=some (.dic (E.map (·.1)) vs):=zY _ _ _ _ a
 have k2:KI (s++[obj z x]) ((s++[obj z x]).set T (.dic (E.map (·.1)++[z]) (vs++[.ref s.length]))):=IJ a1 (by intro _ _ _ q;cases q)
 have k1:KI s (s++[obj z x]):=(zY _ _).ki
 obtain ⟨c,ks,xs,eo⟩:=IK z x
 refine ⟨vs,a,pK hz,⟨vs++[.ref s.length],?_,?_⟩,k1.trans k2,(zY _ _).kx.trans (jY (by simp))⟩
 ·rw [yZ (yh a1)];simp
 ·refine Th.snoc ?_ (b.ki (k1.trans k2))
  have t:(s++[obj z x])[s.length]?=some (obj z x):=ym _ _
  rw [eo] at t k2 ⊢
  exact k2 _ _ _ _ t
def kO {fo fi fv:Ai}{e:zb}{s s1:aa}{r:Nat}{z:Str}{x:PV}{ks gy:Ad}{xs fy:An}(hd:j2 z x ks xs=(gy,fy)) (hv:fv e s=.ok x s1) (ho:fo e s1=.ok (.ref r) s1) (hi:fi e s1=.ok (.str z) s1) (hr:s1[r]?=some (.dic ks xs)) (hl:ks.length<=1000) :
  jH fo fi fv e s=.ok (.nx e) (s1.set r (.dic gy fy)):=by
 have h:=HX hv ho hi hr hl
 rw [hd] at h
 exact h
abbrev BN (r La T:Nat) (gs:PV):SO:=.ins "Making" ["ring", "later", "goals", "things"] [.ref r,.ref La,gs,.ref T]
structure Mg (lt:Ad) (o La T:Nat) (E:Ev) (s:aa):Prop where
 ob:∃r gs,s[o]?=some (BN r La T gs)
 la:s[La]?=some (.dic lt (cH lt))
 th:Tg T E s
 ne:La≠T
section
variable {lt:Ad} {o La T:Nat} {E:Ev} {s s':aa}
def Mg.old (h:Mg lt o La T E s) (k:Old s s'):Mg lt o La T E s':=by
 obtain ⟨r,gs,e⟩:=h.ob
 exact ⟨⟨r,gs,k _ _ e⟩,k _ _ h.la,h.th.old k,h.ne⟩
def Mg.kx {ms:List Nat}(h:Mg lt o La T E s) (k:Kx ms s s') (i:KI s s') (h1:La∉ms) (h2:T∉ms):Mg lt o La T E s':=by
 obtain ⟨r,gs,e⟩:=h.ob
 exact ⟨⟨r,gs,i _ _ _ _ e⟩,k _ _ h1 h.la,h.th.kx k i h2,h.ne⟩
def Mg.put {z:Str}{x:Ao}{vs:An}{t:aa}(h:Mg lt o La T E s) (ht:t=(s++[obj z x]).set T (.dic (E.map (·.1)++[z]) (vs++[.ref s.length]))) (g:Tg T (E++[(z,x)]) t) (i:KI s t) (k:Kx [T] s t):Mg lt o La T (E++[(z,x)]) t:=by
 obtain ⟨r,gs,e⟩:=h.ob
 exact ⟨⟨r,gs,i _ _ _ _ e⟩,k _ _ (by simpa using h.ne) h.la,g,h.ne⟩
theorem mq (h:Mg lt o La T E s):aK "things" insOf excOf (.ref o) s=.ok (.ref T) s:=by
 obtain ⟨r,gs,e⟩:=h.ob
 exact wK e (by decide +kernel) rfl
end
def WH {fs:Ah}{gt:PV->zb->Option zb}{body:Aj}{e:zb}{s s1:aa}{xs ys:An}{X:Res Fl}(h:fs e s=.ok [.tup xs,.tup ys] s1) (hX:forL gt body (wA xs ys) e s1=X):jq (oX fs) gt body e s=X:=by
 rw [oZ,QR,h,zH]
 show (Res.ok (Sq.im (wA xs ys)) s1).bind _=_
 rw [zH]
 exact hX
abbrev eG (kp:List (Str×PV)):Ev:=kp.map λp=>(p.1,some p.2)
abbrev e9 (ls:Ad):Ev:=ls.map λz=>(z,none)
theorem IM:∀kp:List (Str×PV),wA ((kp.map (·.1)).map PV.str) (kp.map (·.2))=kp.map λp=>.tup [.str p.1,p.2]
 |[]=>rfl
 |p::kp=>by
  have:=IM kp
  unfold wA at this ⊢
  simp only [yK,List.zip_cons_cons,this]
abbrev bK:Aj:=(jH (yq (aK "things" insOf excOf) (za 0)) (za 5) (zq (bO "Known" kK) (zd (za 6) zh)))
abbrev bL:Aj:=(jH (yq (aK "things" insOf excOf) (za 0)) (za 5) (zq (bO "Later" mf) (zd (za 5) zh)))
abbrev eK (o r:Nat) (fv fm vs:PV) (z5 z6:Ao):zb:=[Au o,Au r,some fv,some fm,some vs,z5,z6]
theorem WI {l:Ad}{K:Ad}(nd:(K++l).Nodup) {i:Nat}{z:Str}(hz:l[i]?=some z):z∉K++l.take i:=λhm=>by
 have h1:(K++l)[K.length+i]?=some z:=by rw [iR (by omega)];simpa using hz
 have h2:K++l.take i=(K++l).take (K.length+i):=by rw [List.take_length_add_append]
 rw [h2] at hm
 exact Iu nd h1 hm
def BO (kp:List (Str×PV)):(eG kp).map (·.1)=kp.map (·.1):=by simp [eG]
def IQ (ls:Ad):(e9 ls).map (·.1)=ls:=by unfold e9;rw [List.map_map];exact List.map_id ls
def WJ {kp:List (Str×PV)}{i:Nat}{p:Str×PV}(h:kp[i]?=some p):eG (kp.take i)++[(p.1,some p.2)]=eG (kp.take (i+1)):=by rw [nP h];simp [eG]
def WK {ls:Ad}{i:Nat}{z:Str}(h:ls[i]?=some z):e9 (ls.take i)++[(z,none)]=e9 (ls.take (i+1)):=by rw [nP h];simp [e9]
section
variable {lt:Ad} {o r La T:Nat} {fv fm vs:PV} {E:Ev} {s:aa} {z:Str}
def WL (M:Mg lt o La T E s) (hz:z∉E.map (·.1)) (hl:E.length<=1000) (v:PV):∃t,bK (eK o r fv fm vs (some (.str z)) (some v)) s=.ok (.nx (eK o r fv fm vs (some (.str z)) (some v))) t/\Mg lt o La T (E++[(z,some v)]) t/\Kx [T] s t:=by
 obtain ⟨us,hT,hd,g,i,k⟩:=M.th.put hz (some v)
 have o1:Old s (s++[nU v]):=zY _ _
 exact ⟨_,kO hd (s1:=s++[nU v]) (zy (zF (zc rfl)) (BM v s)) (yX (zc rfl) (mq (M.old o1))) (zc rfl) (o1 _ _ hT) (by simpa using hl),M.put rfl g i k,k⟩
def WM (M:Mg lt o La T E s) (hz:z∉E.map (·.1)) (hl:E.length<=1000) {z6:Ao}:∃t,bL (eK o r fv fm vs (some (.str z)) z6) s=.ok (.nx (eK o r fv fm vs (some (.str z)) z6)) t/\Mg lt o La T (E++[(z,none)]) t/\Kx [T] s t:=by
 obtain ⟨us,hT,hd,g,i,k⟩:=M.th.put hz none
 have o1:Old s (s++[mm z]):=zY _ _
 exact ⟨_,kO hd (s1:=s++[mm z]) (zy (zF (zc rfl)) (II z s)) (yX (zc rfl) (mq (M.old o1))) (zc rfl) (o1 _ _ hT) (by simpa using hl),M.put rfl g i k,k⟩
end
theorem WN {f gs:PV}{nz:Str}{ps lt:Ad}{rest:An}{b:Int}(hb:0<=b) {kp:List (Str×PV)}(hk:picks (λj=>!bitAt b j) 0 ps=kp.map (·.1)) (hp:ps.length<=100) (bz:lt.Nodup) (hl:lt.length<=1000) (nd:(kp.map (·.1)++picks (bitAt b) 0 ps).Nodup) (r:Nat) (st:aa) :
  ∃La T s1,bO "Making" rL [.ref r,.tup (f :: .tup (ps.map PV.str)::rest),.tup [.str nz,.int b,.tup (lt.map PV.str),gs],.tup (kp.map (·.2))] st=.ok (.ref st.length) s1/\Mg lt st.length La T (eG kp++e9 (picks (bitAt b) 0 ps)) s1/\st.length<La/\La<T/\Old st s1:=by
 have lk:kp.length<=100:=by
  have:(kp.map (·.1)).length<=ps.length:=by rw [<-hk];exact wm.length_le
  rw [jD] at this;omega
 have ll:(picks (bitAt b) 0 ps).length<=100:=by have:(picks (bitAt b) 0 ps).length<=ps.length:=wm.length_le;omega
 generalize hfv:PV.tup (f :: .tup (ps.map PV.str)::rest)=fv
 generalize hfm:PV.tup [.str nz,.int b,.tup (lt.map PV.str),gs]=fm
 let o:=st.length
 let t0:=st++[SO.ins "Making" [] []]
 have h0:t0[o]?=some (.ins "Making" [] []):=ym _ _
 have l0:t0.length=o+1:=by simp [t0,o]
 let t1:=t0.set o (.ins "Making" ["ring"] [.ref r])
 have h1:t1[o]?=some (.ins "Making" ["ring"] [.ref r]):=yZ (yh h0)
 have l1:t1.length=o+1:=by simp [t1,l0]
 obtain ⟨t2,E2,d2,o2⟩:=BI lt bz hl t1
 have h2:=o2 _ _ h1
 let t3:=t2.set o (.ins "Making" ["ring", "later"] [.ref r,.ref t1.length])
 have h3:t3[o]?=some (.ins "Making" ["ring", "later"] [.ref r,.ref t1.length]):=yZ (yh h2)
 let t4:=t3.set o (.ins "Making" ["ring", "later", "goals"] [.ref r,.ref t1.length,gs])
 have h4:t4[o]?=some (.ins "Making" ["ring", "later", "goals"] [.ref r,.ref t1.length,gs]):=yZ (yh h3)
 have d4:t4[t1.length]?=some (.dic lt (cH lt)):=by
  show ((t2.set o _).set o _)[t1.length]?=_
  rw [yr (by omega),yr (by omega)];exact d2
 have lT:t1.length<t4.length:=yh d4
 let T:=t4.length
 let t5:=t4++[SO.dic [] []]
 have h5:t5[o]?=some (.ins "Making" ["ring", "later", "goals"] [.ref r,.ref t1.length,gs]):=zY _ _ _ _ h4
 have T5:t5[T]?=some (.dic [] []):=ym _ _
 let t6:=t5.set o (BN r t1.length T gs)
 have h6:t6[o]?=some (BN r t1.length T gs):=yZ (yh h5)
 have T6:t6[T]?=some (.dic [] []):=by rw [yr (by omega)];exact T5
 have d6:t6[t1.length]?=some (.dic lt (cH lt)):=by rw [yr (by omega)];exact zY _ _ _ _ d4
 have k6:Old st t6:=λm so e=>by
  have hm:=yh e
  have ne:o≠m:=by show st.length≠m;omega
  show (t5.set o _)[m]?=_
  rw [yr ne]
  refine zY _ _ _ _ ?_
  show ((t2.set o _).set o _)[m]?=_
  rw [yr ne,yr ne]
  refine o2 _ _ ?_
  show (t0.set o _)[m]?=_
  rw [yr ne]
  exact zY _ _ _ _ e
 let t7:=t6++[SO.lst ((picks (λj=>!bitAt b j) 0 ps).map PV.str)]
 have M7:Mg lt o t1.length T (eG (kp.take 0)) t7:=(show Mg lt o t1.length T [] t6 from ⟨⟨_,_,h6⟩,d6,⟨[],T6,rfl⟩,by omega⟩).old (zY _ _)
 obtain ⟨e8,t8,F8,⟨y5,y6,WO⟩,M8,K8⟩:=dO (g:=g2 5 6) (body:=bK) (kp.map λp=>PV.tup [.str p.1,p.2]) (λi e s=>(∃z5 z6,e=eK o r fv fm (.tup (kp.map (·.2))) z5 z6)/\Mg lt o t1.length T (eG (kp.take i)) s/\Kx [T] t7 s) (λi x e s hx ⟨⟨z5,z6,he⟩,M,K⟩=>by
  subst he
  rw [y3] at hx
  obtain ⟨p,hp',rfl⟩:=Option.map_eq_some_iff.mp hx
  have zn:p.1∉(eG (kp.take i)).map (·.1):=by
   rw [BO,List.map_take]
   exact Iu (List.nodup_append.mp nd).1 (by rw [y3,hp'];rfl)
  obtain ⟨t,E,M',K'⟩:=WL (r:=r) (fv:=fv) (fm:=fm) (vs:=.tup (kp.map (·.2))) M zn (by simp;omega) p.2
  rw [WJ hp'] at M'
  exact ⟨_,_,t,rfl,E,⟨_,_,rfl⟩,M',K.trans K'⟩) kp.length 0 (eK o r fv fm (.tup (kp.map (·.2))) none none) t7 (by simp) ⟨⟨none,none,rfl⟩,M7,Kx.refl _ _⟩
 subst WO
 rw [jD,List.take_length] at M8
 let t9:=t8++[SO.lst ((picks (bitAt b) 0 ps).map PV.str)]
 have M9:Mg lt o t1.length T (eG kp++e9 ((picks (bitAt b) 0 ps).take 0)) t9:=by simpa [e9] using M8.old (zY _ _)
 obtain ⟨ZZ,IU,IV,⟨w5,w6,IW⟩,IY,WQ⟩:=dO (g:=gN 5) (body:=bL) ((picks (bitAt b) 0 ps).map PV.str) (λi e s=>(∃z5 z6,e=eK o r fv fm (.tup (kp.map (·.2))) z5 z6)/\Mg lt o t1.length T (eG kp++e9 ((picks (bitAt b) 0 ps).take i)) s/\Kx [T] t9 s) (λi x e s hx ⟨⟨z5,z6,he⟩,M,K⟩=>by
  subst he
  rw [y3] at hx
  obtain ⟨z,hz,rfl⟩:=Option.map_eq_some_iff.mp hx
  have zn:z∉(eG kp++e9 ((picks (bitAt b) 0 ps).take i)).map (·.1):=by
   rw [wW,BO,IQ]
   exact WI nd hz
  obtain ⟨t,E,M',K'⟩:=WM (r:=r) (fv:=fv) (fm:=fm) (vs:=.tup (kp.map (·.2))) (z6:=z6) M zn (by simp;omega)
  rw [j6,WK hz] at M'
  exact ⟨_,_,t,rfl,E,⟨_,_,rfl⟩,M',K.trans K'⟩) (picks (bitAt b) 0 ps).length 0 (eK o r fv fm (.tup (kp.map (·.2))) y5 y6) t9 (by simp) ⟨⟨_,_,rfl⟩,M9,Kx.refl _ _⟩
 subst IW
 rw [jD,List.take_length] at IY
 rw [List.drop_zero] at F8 IV
 have KP:=Wi (f:=f) (r:=rest) (ps:=ps) b hb (by omega) t6
 rw [hfv] at KP
 rw [hk] at KP
 have LP:=u_ (f:=f) (r:=rest) (ps:=ps) b hb (by omega) t8
 rw [hfv] at LP
 have i1:∀{s:aa},zk fm (.int 1) s=.ok (.int b) s:=by subst hfm;exact yw
 have i2:∀{s:aa},zk fm (.int 2) s=.ok (.tup (lt.map PV.str)) s:=by subst hfm;exact jP
 have i3:∀{s:aa},zk fm (.int 3) s=.ok gs s:=by subst hfm;exact wT
 have E:rL [.ref o,.ref r,fv,fm,.tup (kp.map (·.2))] t0=.ok .non IU:=ml rfl (zp (w8 (zc rfl) (zc rfl) h0 (by decide +kernel) (by decide)) (zp (w8 (zy (zF (zj (zc rfl) rfl i2)) E2) (zc rfl) h2 (by decide +kernel) (by decide)) (zp (w8 (zj (zc rfl) rfl i3) (zc rfl) h3 (by decide +kernel) (by decide)) (zp (w8 (x:=.ref T) (s1:=t5) rfl (zc rfl) h5 (by decide +kernel) (by decide)) (zp (WH (zR (zy (zR (zc rfl) (zj (zc rfl) rfl i1)) KP) (zc rfl)) (by rw [IM,<-hk];exact F8)) (wV (zy (zR (zc rfl) (zj (zc rfl) rfl i1)) LP) IV))))))
 refine ⟨t1.length,T,IU,?_,IY,by show st.length<t1.length;omega,lT,λm so e=>?_⟩
 ·show (rL [.ref o,.ref r,fv,fm,.tup (kp.map (·.2))] t0).bind _=_
  rw [E,zH]
  rfl
 ·have hm:=yh e
  have ne:m∉[T]:=by simp;omega
  exact WQ _ _ ne (zY _ _ _ _ (K8 _ _ ne (zY _ _ _ _ (k6 _ _ e))))
abbrev g0 (z:Str):PV:=.tup [.str "of", .str z]
abbrev dG (v:PV):PV:=.tup [.str "is", v]
abbrev a6 (z w:Str) (as:An):PV:=.tup [.str "let", .str z,.str w,.tup as]
inductive cy (E:Ev):PV->Option PV->PV->Prop
 |is (v:PV):cy E (dG v) (some v) (dG v)
 |kn (z:Str) (v:PV):E.lookup z=some (some v)->cy E (g0 z) (some v) (dG v)
 |la (z:Str):E.lookup z=some none->cy E (g0 z) none (g0 z)
theorem IZ:("of" : Str) ≠ "is" := by decide +kernel
def Ob (s:aa) (v:PV) (x:Ao) (b:PV):Prop:=∃q,v=.ref q/\((∃y,x=some y/\s[q]?=some (nU y)/\b=dG y)\/(∃z,x=none/\s[q]?=some (mm z)/\b=g0 z))
section
variable {T q:Nat} {E:Ev} {s s1 s':aa} {a b v:PV} {x:Ao} {e:zb}
def Ob.old (h:Ob s v x b) (k:Old s s'):Ob s' v x b:=by
 obtain ⟨q,e,⟨y,h1,h2,h3⟩|⟨z,h1,h2,h3⟩⟩:=h
 ·exact ⟨q,e,.inl ⟨y,h1,k _ _ h2,h3⟩⟩
 ·exact ⟨q,e,.inr ⟨z,h1,k _ _ h2,h3⟩⟩
def vb (h:Tg T E s) (hs:cy E a x b):∃v s1,rO [a,.ref T] s=.ok v s1/\Ob s1 v x b/\Old s s1:=by
 cases hs with
 |is v=>exact ⟨_,_,zX rfl (yJ (yB (zM (zj (zj (zc rfl) rfl yM) rfl (dF _))) (zT (zy (zF (zj (zc rfl) rfl yw)) (BM v s))))),⟨_,rfl,.inl ⟨v,rfl,ym _ _,rfl⟩⟩,zY _ _⟩
 |kn z v hl =>
  obtain ⟨vs,hT,ht⟩:=h
  obtain ⟨q,h1,h2⟩:=ht.get hl
  exact ⟨_,s,zX rfl (zp (zV (zM (zj (zj (zc rfl) rfl yM) rfl (a9 IZ _)))) (zT (zj (zc rfl) (zj (zc rfl) rfl yw) (nR hT h1)))),⟨q,rfl,.inl ⟨v,rfl,h2,rfl⟩⟩,Old.refl _⟩
 |la z hl =>
  obtain ⟨vs,hT,ht⟩:=h
  obtain ⟨q,h1,h2⟩:=ht.get hl
  exact ⟨_,s,zX rfl (zp (zV (zM (zj (zj (zc rfl) rfl yM) rfl (a9 IZ _)))) (zT (zj (zc rfl) (zj (zc rfl) rfl yw) (nR hT h1)))),⟨q,rfl,.inr ⟨z,rfl,h2,rfl⟩⟩,Old.refl _⟩
theorem BP {fo:Ai} (h:Ob s v x b) (ho:fo e s=.ok v s):yV "atom" kL fo zh e s=.ok b s:=by
 obtain ⟨q,rfl,⟨y,_,h1,rfl⟩|⟨z,_,h1,rfl⟩⟩:=h
 ·exact j5 ho h1 (by decide +kernel) (zw rfl) jO (zX rfl (zT (ya (zR rfl (yX (zc rfl) (wK h1 (by decide +kernel) rfl))) (by simp))))
 ·have ht:kL "Later" = some m_Later_atom:=by unfold kL;rw [zI (by decide +kernel),zw rfl]
  exact j5 ho h1 (by decide +kernel) ht jO (zX rfl (zT (ya (zR rfl (yX (zc rfl) (wK h1 (by decide +kernel) rfl))) (by simp))))
def BQ {fo:Ai} {y:PV} (h:Ob s v (some y) b) (ho:fo e s=.ok v s):yq (aK "value" insOf excOf) fo e s=.ok y s:=by
 obtain ⟨q,rfl,⟨y',h0,h1,rfl⟩|⟨z,h0,h1,rfl⟩⟩:=h
 ·cases h0
  exact yX ho (wK h1 (by decide +kernel) rfl)
 ·cases h0
end
structure SL (E:Ev) (as:An) (xs:List (Ao)) (bs:An):Prop where
 l1:as.length=xs.length
 l2:as.length=bs.length
 at_:∀(i:Nat) a x b,as[i]?=some a->xs[i]?=some x->bs[i]?=some b->cy E a x b
def SL.two {E:Ev}{a a':PV}{x x':Ao}{b b':PV}(h:cy E a x b) (h':cy E a' x' b'):SL E [a,a'] [x,x'] [b,b']:=⟨rfl,rfl,λi a x b e1 e2 e3=>by
 match i with
 |0=>cases e1;cases e2;cases e3;exact h
 |1=>cases e1;cases e2;cases e3;exact h'
 |i+2=>cases e1⟩
def SL.one {E:Ev}{a:PV}{x:Ao}{b:PV}(h:cy E a x b):SL E [a] [x] [b]:=⟨rfl,rfl,λi a x b e1 e2 e3=>by
 match i with
 |0=>cases e1;cases e2;cases e3;exact h
 |i+1=>cases e1⟩
structure si (s:aa) (vs:An) (xs:List (Ao)) (bs:An):Prop where
 l1:vs.length=xs.length
 l2:vs.length=bs.length
 at_:∀(i:Nat) v x b,vs[i]?=some v->xs[i]?=some x->bs[i]?=some b->Ob s v x b
section
variable {lt:Ad} {o La T q n:Nat} {E:Ev} {s s1 s':aa} {as bs vs:An} {xs:List (Ao)} {e:zb}
def si.old (h:si s vs xs bs) (k:Old s s'):si s' vs xs bs:=⟨h.l1,h.l2,λi v x b e1 e2 e3=>(h.at_ i v x b e1 e2 e3).old k⟩
theorem WR (M:Mg lt o La T E s) (h:SL E as xs bs) (hl:as.length<=1000):∃vs n s1,m_Making_things_at [.ref o,.tup as] s=.ok (.ref n) s1/\s1[n]?=some (.lst vs)/\si s1 vs xs bs/\Old s s1:=by
 obtain ⟨r,gs,ob⟩:=M.ob
 obtain ⟨ys,s',C,hy,oO,ho⟩:=pH (fe:=zq rO (zd (za 0) (zd (yq (aK "things" insOf excOf) (za 1)) zh))) (env:=[Au o,some (.tup as)]) as (λi ys s'=>ys.length=i/\(∀(j:Nat) v x b,ys[j]?=some v->xs[j]?=some x->bs[j]?=some b->Ob s' v x b)/\Old s s') (λi a ys s' ha ⟨hy,oO,ho⟩=>by
  have hi:=kN ha
  have hx:xs[i]?=some (xs[i]'(by rw [<-h.l1];exact hi)):=yx _
  have hb:bs[i]?=some (bs[i]'(by rw [<-h.l2];exact hi)):=yx _
  have M':=M.old ho
  obtain ⟨v,s2,E2,O2,o2⟩:=vb M'.th (h.at_ i a _ _ ha hx hb)
  refine ⟨v,s2,zy (zR (zc rfl) (yX (zc rfl) (mq M'))) E2,by simp [hy],λj v' x b e1 e2 e3=>?_,ho.trans o2⟩
  rcases Nat.lt_trichotomy j i with q|q|q
  ·rw [iQ (by omega)] at e1
   exact (oO j v' x b e1 e2 e3).old o2
  ·subst q
   rw [iR (by omega),hy] at e1
   simp at e1
   subst e1
   rw [hx] at e2
   rw [hb] at e3
   cases e2;cases e3
   exact O2
  ·rw [oE (by simp;omega)] at e1
   cases e1) as.length 0 [] s (by omega) ⟨rfl,λj v x b e1 _ _=>by simp at e1,Old.refl _⟩
 rw [List.drop_zero] at C
 refine ⟨ys,s'.length,s'++[.lst ys],zX rfl (zT ?_),ym _ _,⟨by rw [hy];exact h.l1,by rw [hy];exact h.l2,λi v x b e1 e2 e3=>(oO i v x b e1 e2 e3).old (zY _ _)⟩,ho.trans (zY _ _)⟩
 rw [lV,wX,zc rfl,zH]
 show fK _ _ (.im as) s=_
 rw [nC,zw (by simp [lim];omega)]
 exact C
theorem BS {fo fa:Ai} (h1:fo e s=.ok (.ref o) s) (h2:fa e s=.ok (.tup as) s) (M:Mg lt o La T E s) (h:SL E as xs bs) (hl:as.length<=1000):∃vs n s1,yV "things_at" rP fo (zd fa zh) e s=.ok (.ref n) s1/\s1[n]?=some (.lst vs)/\si s1 vs xs bs/\Old s s1:=by
 obtain ⟨r,gs,ob⟩:=M.ob
 obtain ⟨vs,n,s1,E1,r1⟩:=WR M h hl
 exact ⟨vs,n,s1,j5 h1 ob (by decide +kernel) (zw rfl) (zF h2) E1,r1⟩
theorem sj {fe src:Ai}{xs Y:An}(hs:src e s=.ok (.ref n) s1) (hn:s1[n]?=some (.lst xs)) (hl:xs.length<=1000) (hy:xs.length=Y.length) (h:∀(i:Nat) x y,xs[i]?=some x->Y[i]?=some y->fe (some x::e) s1=.ok y s1):yW (yA src) fe e s=.ok (.ref s1.length) (s1++[.lst Y]):=by
 rw [lV,wX,hs,zH,uk,yv hn,zH]
 obtain ⟨ys,s2,C,h1,h2⟩:=HV (fe:=fe) (env:=e) (n:=n) xs (λi ys st=>ys=Y.take i/\st=s1) (λi ys st h=>by rw [h.2];exact hn) (λi x ys st hx ⟨h1,h2⟩=>by
  have hi:=kN hx
  have hq:Y[i]?=some (Y[i]'(by omega)):=yx _
  subst h2
  exact ⟨_,_,h i x _ hx hq,by rw [h1,nP hq],rfl⟩) xs.length 0 (lim+1) [] s1 (by omega) (by simp [lim];omega) ⟨rfl,rfl⟩
 subst h2
 rw [hy,List.take_length] at h1
 subst h1
 exact C
def pM {xs:An}:yQ [.ref s.length] (s++[.lst xs])=.ok (.tup xs) (s++[.lst xs]):=by rw [jS,yv (ym _ _)]
abbrev f9 (w:Str) (k:Int):SO:=.ins "Op" ["word", "many"] [.str w,.int k]
def g9 (w:Str) (xs:An) (v:PV):Prop:=∃k,(∀s,j4 [.str w] s=.ok (.ref s.length) (s++[f9 w k]))/\∀s o,s[o]?=some (f9 w k)->∃s1,m_Op_answer [.ref o,.tup xs] s=.ok v s1/\Old s s1
theorem WT {z w:Str}{ys:An}{v:PV}(M:Mg lt o La T E s) (h:SL E as (ys.map some) bs) (hl:as.length<=1000) (A:g9 w ys v):∃s1,m_Making_answer_ahead [.ref o,a6 z w as] s=.ok v s1/\Old s s1:=by
 obtain ⟨k,A1,A2⟩:=A
 have o1:Old s (s++[f9 w k]):=zY _ _
 obtain ⟨vs,n,s2,T2,n2,O2,o2⟩:=BS (e:=[Au o,some (a6 z w as)]) (fo:=za 0) (fa:=zf zk (za 1) (Ar 3)) (zc rfl) (zj (zc rfl) rfl wT) (M.old o1) h hl
 have C:=sj (e:=[Au o,some (a6 z w as)]) (fe:=yq (aK "value" insOf excOf) (za 0)) (Y:=ys) T2 n2 (by have:=O2.l2;have:=h.l2;omega) (by have:=O2.l1;simpa using this) (λi x y hx hy=>by
  have hi:=kN hx
  have hb:bs[i]?=some (bs[i]'(by rw [<-O2.l2];exact hi)):=yx _
  exact BQ (O2.at_ i x (some y) _ hx (by rw [y3,hy];rfl) hb) (zc rfl))
 have o3:Old s2 (s2++[SO.lst ys]):=zY _ _
 obtain ⟨s4,E4,o4⟩:=A2 _ s.length (o3 _ _ (o2 _ _ (ym _ _)))
 exact ⟨s4,zX rfl (zT (j5 (zy (zF (zj (zc rfl) rfl jP)) (A1 s)) (ym _ _) (by decide +kernel) (zw rfl) (zF (zy (zF C) pM)) E4)),o1.trans (o2.trans (o3.trans o4))⟩
theorem WU {z w:Str}(M:Mg lt o La T E s) (h:SL E as xs bs) (hl:as.length<=1000) (hz:z∉E.map (·.1)) (hE:E.length<=1000):∃s1,m_Making_left_let [.ref o,a6 z w as] s=.ok (a6 z w bs) s1/\Mg lt o La T (E++[(z,none)]) s1/\Kx [T] s s1/\KI s s1:=by
 obtain ⟨vs,n,s2,T2,n2,O2,o2⟩:=BS (e:=[Au o,some (a6 z w as),none]) (fo:=za 0) (fa:=zf zk (za 1) (Ar 3)) (zc rfl) (zj (zc rfl) rfl wT) M h hl
 have C:=sj (e:=[Au o,some (a6 z w as),none]) (fe:=yV "atom" kL (za 0) zh) (Y:=bs) T2 n2 (by have:=O2.l2;have:=h.l2;omega) O2.l2 (λi x y hx hy=>by
  have hi:=kN hx
  have hb:xs[i]?=some (xs[i]'(by rw [<-O2.l1];exact hi)):=yx _
  exact BP (O2.at_ i x _ y hx hb hy) (zc rfl))
 have o3:Old s (s2++[SO.lst bs]):=o2.trans (zY _ _)
 have M3:=M.old o3
 generalize hs3:s2++[SO.lst bs]=s3 at o3 M3 C
 have tt:yQ [.ref s2.length] s3=.ok (.tup bs) s3:=by rw [<-hs3];exact pM
 obtain ⟨us,hT,hd,g,i,k⟩:=M3.th.put hz none
 have o4:Old s3 (s3++[mm z]):=zY _ _
 have P:=kO hd (fo:=yq (aK "things" insOf excOf) (za 0)) (fi:=zf zk (za 1) (Ar 1)) (fv:=zq (bO "Later" mf) (zd (zf zk (za 1) (Ar 1)) zh)) (e:=[Au o,some (a6 z w as),some (.tup bs)]) (s:=s3) (s1:=s3++[mm z]) (zy (zF (zj (zc rfl) rfl yw)) (II z s3)) (yX (zc rfl) (mq (M3.old o4))) (zj (zc rfl) rfl yw) (o4 _ _ hT) (by simpa using hE)
 exact ⟨_,zX rfl (zp (zP (zy (zF C) tt)) (zp P (zT (ya (jI rfl (zj (zc rfl) rfl yw) (zj (zc rfl) rfl jP) (zc rfl)) (by simp))))),M3.put rfl g i k,o3.kx.trans k,o3.ki.trans i⟩
end
section
variable {e:zb} {s s1 s2:aa} {fo fi fv:Ai} {fs:Ah} {x y:PV} {xs fy ys:An} {ks gy:Ad} {c:Str} {o r:Nat}
variable {r o:Nat} {s:aa}
def WV {j:Nat}{cn z:Str}{bg:Aj}(hd:j2 z x ks xs=(gy,fy)) (hv:fv e s=.ok x s1) (ho:fo e s1=.ok (.ref r) s1) (hi:fi e s1=.ok (.str z) s1) (hr:s1[r]?=some (.dic ks xs)) (hl:ks.length<=1000):lY j cn fo fi fv bg e s=.ok (.nx e) (s1.set r (.dic gy fy)):=by
 unfold lY
 rw [hv]
 simp only
 rw [ho,j1,zH,hi,j1,zH]
 show (jm s1 r _).bind _=_
 rw [AV hr,zw (by simp [lim];omega),zH,hd]
def WW {cn:Str}{m:Al}(hv:fv e s=.ok x s1) (hm:bO cn m [x] s1=.ok y s2):fM cn m fv e s=.ok y s2:=by
 unfold fM
 rw [hv,zH,hm,j1]
def I_ {name:Str}{tab:Str->Option (Al)}{m:Al}{X:Res PV}(ho:fo e s=.ok (.ref o) s1) (h:s1[o]?=some (.ins c ks xs)) (hn:name∉ks) (ht:tab c=some m) (hf:fs e s1=.ok ys s2) (hm:m (.ref o::ys) s2=X):gT name tab fo fs e s=X:=by
 unfold gT
 rw [ho,j1,zH]
 show jc s1 o _=_
 unfold jc
 rw [h]
 simp only
 rw [zI hn,ht]
 simp only
 rw [hf,j1,zH,hm]
def BU {m:Al}{X:Res PV}(hf:fs e s=.ok ys s1) (hm:m ys s1=X):km m fs e s=X:=by
 unfold km
 rw [hf,j1,zH,hm]
end
section
variable {st:aa} {b:Nat}
variable {s1:aa} {n:Nat} {e:zb}
def BV {t:Ak}{b:Aj}{e:zb}{st s1:aa}(n:Nat) (h:t e st=.ok false s1):bX t b (n+1) e st=.ok (.nx e) s1:=by rw [Az,h,zH,zI (by simp)]
def vc {t:Ak}{b:Aj}{e e2:zb}{st s1 s2:aa}{n:Nat}{X:Res Fl}(h:t e st=.ok true s1) (hb:b e s1=.ok (.nx e2) s2) (hX:bX t b n e2 s2=X):bX t b (n+1) e st=X:=by
 rw [Az,h,zH,zw rfl,hb,zH];exact hX
end
section
variable {M i:Nat} {fs:An} {s:aa}
def Ja (h:s[M]?=some (.lst fs)) {v:PV}(hi:fs[i]?=some v):av zk (.ref M) (.int (i:Int)) s=.ok v s:=by
 show zk (.ref M) (.int (i:Int)) s=_
 show yu s M _=_
 rw [yv h,bJ hi]
 rfl
end
abbrev bS:Aj:=(zW (mB (zf zZ (zf zk (za 4) (Ar 0)) (As "call")))
  (zt yT
  yT)
  (zW (mB (zf (yI false) (zf zk (za 4) (Ar 1)) (yq (aK "later" insOf excOf) (za 0))))
  (je (jr jp (za 3) (yV "left_let" uG (za 0) (zd (za 4) zh))))
  (lY 5 "Fault" (yq (aK "things" insOf excOf) (za 0)) (zf zk (za 4) (Ar 1)) (fM "Known" kK (gT "answer_ahead" uO (za 0) (zd (za 4) zh)))
  (zJ (zU (zd (zq yQ (zd (za 3) zh)) (zd (zU (zd (As "fail") (zd (yq (aK "word" insOf excOf) (za 5)) zh))) zh)))))))
abbrev bA (w:Str):PV:=.tup [.str "fail", .str w]
abbrev cV (a:PV):PV:=.tup [.str "give", a]
abbrev cI (a x y:PV):PV:=.tup [.str "if", a,x,y]
abbrev bC (ss:An) (e:PV):PV:=.tup [.tup ss,e]
def g_ (w:Str) (xs:An) (q:Str):Prop:=∃k,(∀s,j4 [.str w] s=.ok (.ref s.length) (s++[f9 w k]))/\∀s o,s[o]?=some (f9 w k)->∃s1,m_Op_answer [.ref o,.tup xs] s=.err "Fault" ["word"] [.str q] s1/\Old s s1
def Jb (c w:Str) (s:aa) (h:excOf c=true):aK "word" insOf excOf (.exo c ["word"] [.str w]) s=.ok (.str w) s:=by
 rw [QT,zw h]
 rfl
def WX {lt:Ad} {o La T:Nat} {E:Ev} {s:aa} {as bs:An} {z w q:Str} {ys:An} (M:Mg lt o La T E s) (h:SL E as (ys.map some) bs) (hl:as.length<=1000) (A:g_ w ys q):∃s1,m_Making_answer_ahead [.ref o,a6 z w as] s=.err "Fault" ["word"] [.str q] s1/\Old s s1:=by
 obtain ⟨k,A1,A2⟩:=A
 have o1:Old s (s++[f9 w k]):=zY _ _
 obtain ⟨vs,n,s2,T2,n2,O2,o2⟩:=BS (e:=[Au o,some (a6 z w as)]) (fo:=za 0) (fa:=zf zk (za 1) (Ar 3)) (zc rfl) (zj (zc rfl) rfl wT) (M.old o1) h hl
 have C:=sj (e:=[Au o,some (a6 z w as)]) (fe:=yq (aK "value" insOf excOf) (za 0)) (Y:=ys) T2 n2 (by have:=O2.l2;have:=h.l2;omega) (by have:=O2.l1;simpa using this) (λi x y hx hy=>by
  have hi:=kN hx
  have hb:bs[i]?=some (bs[i]'(by rw [<-O2.l2];exact hi)):=yx _
  exact BQ (O2.at_ i x (some y) _ hx (by rw [y3,hy];rfl) hb) (zc rfl))
 have o3:Old s2 (s2++[SO.lst ys]):=zY _ _
 obtain ⟨s4,E4,o4⟩:=A2 _ s.length (o3 _ _ (o2 _ _ (ym _ _)))
 exact ⟨s4,ID rfl (Wv (j5 (zy (zF (zj (zc rfl) rfl jP)) (A1 s)) (ym _ _) (by decide +kernel) (zw rfl) (zF (zy (zF C) pM)) E4)),o1.trans (o2.trans (o3.trans o4))⟩
def WY {j:Nat}{cn:Str}{fo fi fv:Ai}{e:zb}{s s1 s2:aa}{ks:Ad}{xs:An}{v:PV}{bg:Aj}(hv:fv e s=.err cn ks xs s1) (hk:ks≠[]) (hs:bg (e.set j (some (.exo cn ks xs))) s1=.ok (.rt v) s2):lY j cn fo fi fv bg e s=.ok (.rt v) s2:=by
 unfold lY
 rw [hv]
 simp only
 rw [zw ⟨trivial,hk⟩,hs,j1,zH]
 rfl
def WZ {cn:Str}{m:Al}{fv:Ai}{e:zb}{s s1:aa}{c:Str}{ks:Ad}{zs:An}(hv:fv e s=.err c ks zs s1):fM cn m fv e s=.err c ks zs s1:=by
 unfold fM
 rw [hv,uh]
inductive cS (lt:Ad):Ev->List PV->Ev->List PV->Option Str->Prop
 |nil (E:Ev):cS lt E [] E [] none
 |ahead {E E':Ev} {z w:Str} {as ys bs ss L:An} {v:PV} {f:Option Str}:z∉lt->z∉E.map (·.1)->SL E as (ys.map some) bs->as.length<=1000->g9 w ys v->cS lt (E++[(z,some v)]) ss E' L f->cS lt E (a6 z w as::ss) E' L f
 |left {E E':Ev} {z w:Str} {as bs ss L:An} {xs:List (Ao)} {f:Option Str}:z∈lt->z∉E.map (·.1)->SL E as xs bs->as.length<=1000->cS lt (E++[(z,none)]) ss E' L f->cS lt E (a6 z w as::ss) E' (a6 z w bs::L) f
 |fault {E:Ev} {z w q:Str} {as ys bs ss:An}:z∉lt->SL E as (ys.map some) bs->as.length<=1000->g_ w ys q->cS lt E (a6 z w as::ss) E [] (some q)
theorem cS.len {lt:Ad}{E E':Ev}{ss L:An}{f:Option Str}(h:cS lt E ss E' L f):L.length+E.length<=E'.length:=by
 induction h with
 |nil=>simp
 |ahead _ _ _ _ _ _ ih=>simp at ih;omega
 |left _ _ _ _ _ ih=>simp at ih ⊢;omega
 |fault=>simp
abbrev eS (o:Nat) (bv:PV) (p:Int) (lf:Nat) (z4 z5 z6:Ao):zb:=[Au o,some bv,some (.int p),Au lf,z4,z5,z6]
section
variable {lt:Ad} {o La T lf:Nat} {E E':Ev} {s:aa} {bv:PV} {p:Int} {z4 z5 z6:Ao} {K L ss as bs ys:An} {z w:Str} {v:PV} {xs:List (Ao)}
def BW (M:Mg lt o La T E s) {b:Bool} (hb:decide (z∈lt)=b):(mB (zf (yI false) (zf zk (za 4) (Ar 1)) (yq (aK "later" insOf excOf) (za 0)))) (eS o bv p lf (some (a6 z w as)) z5 z6) s=.ok b s:=by
 obtain ⟨r,gs,ob⟩:=M.ob
 exact zM (zj (zj (zc rfl) rfl yw) (yX (zc rfl) (wK ob (by decide +kernel) rfl)) (uX M.la (by rw [BC (by simp)];exact hb)))
theorem W0 (M:Mg lt o La T E s) (hz:z∉lt) (hk:z∉E.map (·.1)) (h:SL E as (ys.map some) bs) (hl:as.length<=1000) (A:g9 w ys v) (hE:E.length<=1000):∃s1,bS (eS o bv p lf (some (a6 z w as)) z5 z6) s=.ok (.nx (eS o bv p lf (some (a6 z w as)) z5 z6)) s1/\Mg lt o La T (E++[(z,some v)]) s1/\Kx [T] s s1/\KI s s1:=by
 obtain ⟨r,gs,ob⟩:=M.ob
 obtain ⟨s1,A1,o1⟩:=WT (z:=z) M h hl A
 have M1:=M.old o1
 obtain ⟨us,hT,hd,g,i,k⟩:=M1.th.put hk (some v)
 have o2:Old s1 (s1++[nU v]):=zY _ _
 exact ⟨_,nG (zM (zj (zj (zc rfl) rfl yM) rfl (a9 n1 _))) (nG (BW M (yP hz)) (WV hd (WW (I_ (zc rfl) ob (by decide +kernel) (zw rfl) (zF (zc rfl)) A1) (BM v s1)) (yX (zc rfl) (mq (M1.old o2))) (zj (zc rfl) rfl yw) (o2 _ _ hT) (by simpa using hE))),M1.put rfl g i k,o1.kx.trans k,o1.ki.trans i⟩
theorem W2 (M:Mg lt o La T E s) (hf:s[lf]?=some (.lst K)) (W3:lf≠La) (Jc:lf≠T) (hz:z∈lt) (hk:z∉E.map (·.1)) (h:SL E as xs bs) (hl:as.length<=1000) (hE:E.length<=1000) (hK:K.length<=1000):∃s1,bS (eS o bv p lf (some (a6 z w as)) z5 z6) s=.ok (.nx (eS o bv p lf (some (a6 z w as)) z5 z6)) s1/\Mg lt o La T (E++[(z,none)]) s1/\s1[lf]?=some (.lst (K++[a6 z w bs]))/\Kx [T,lf] s s1/\KI s s1:=by
 obtain ⟨r,gs,ob⟩:=M.ob
 obtain ⟨s1,A1,M1,k1,i1⟩:=WU (w:=w) M h hl hk hE
 have f1:=k1 _ _ (by simpa using Jc) hf
 have i2:KI s1 (s1.set lf (.lst (K++[a6 z w bs]))):=IJ f1 (by intro _ _ _ q;cases q)
 have k2:Kx [lf] s1 (s1.set lf (.lst (K++[a6 z w bs]))):=jY (by simp)
 refine ⟨_,nG (zM (zj (zj (zc rfl) rfl yM) rfl (a9 n1 _))) (yB (BW M (jk hz)) (wI (wZ (zc rfl) hf (j5 (zc rfl) ob (by decide +kernel) (zw rfl) (zF (zc rfl)) A1) (iH f1 (by omega))))),M1.kx k2 i2 (by simpa using yz W3) (by simpa using yz Jc),yZ (yh f1),λm so q e=>?_,i1.trans i2⟩
 simp at q
 exact k2 _ _ (by simpa using q.2) (k1 _ _ (by simpa using q.1) e)
theorem W4 {q:Str}(M:Mg lt o La T E s) (hf:s[lf]?=some (.lst K)) (hz:z∉lt) (h:SL E as (ys.map some) bs) (hl:as.length<=1000) (A:g_ w ys q):∃s1,bS (eS o bv p lf (some (a6 z w as)) z5 z6) s=.ok (.rt (bC K (bA q))) s1/\Old s s1:=by
 obtain ⟨r,gs,ob⟩:=M.ob
 obtain ⟨s1,A1,o1⟩:=WX (z:=z) M h hl A
 exact ⟨s1,nG (zM (zj (zj (zc rfl) rfl yM) rfl (a9 n1 _))) (nG (BW M (yP hz)) (WY (WZ (I_ (zc rfl) ob (by decide +kernel) (zw rfl) (zF (zc rfl)) A1)) (by simp) (zT (ya (zR (zy (zF (zc rfl)) (by rw [jS,yv (o1 _ _ hf)])) (ya (zR rfl (yX (zc rfl) (Jb _ _ _ (by decide +kernel)))) (by simp))) (by simp))))),o1⟩
theorem Jd {f:Option Str}(h:cS lt E ss E' L f):∀{s:aa}{K:An}{z4:Ao},Mg lt o La T E s->s[lf]?=some (.lst K)->lf≠La->lf≠T->E'.length<=1000->K.length+L.length<=1000->∃W5 s1,forL (gN 4) bS ss (eS o bv p lf z4 none z6) s=.ok (match f with|none=>.nx (eS o bv p lf W5 none z6)|some q=>.rt (bC (K++L) (bA q))) s1/\Mg lt o La T E' s1/\s1[lf]?=some (.lst (K++L))/\Kx [T,lf] s s1/\KI s s1:=by
 induction h with
 |nil E=>exact λ{s K z4} M f a b c d=>⟨z4,s,rfl,M,by rw [List.append_nil];exact f,Kx.refl _ _,λ_ _ _ _ e=>e⟩
 |ahead hz hk hs hl A r ih =>
  intro s K z4 M f a b c d
  have rl:=r.len
  obtain ⟨s1,B,M1,k1,i1⟩:=W0 (lf:=lf) (bv:=bv) (p:=p) (z5:=none) (z6:=z6) M hz hk hs hl A (by simp at rl;omega)
  have f1:=k1 _ _ (by simpa using b) f
  obtain ⟨z',s2,F,M2,f2,k2,i2⟩:=ih M1 f1 a b c d
  refine ⟨z',s2,wU rfl B F,M2,f2,λm so q e=>?_,i1.trans i2⟩
  have q':=q
  simp at q'
  exact k2 _ _ q (k1 _ _ (by simpa using q'.1) e)
 |left hz hk hs hl r ih =>
  intro s K z4 M f a b c d
  have rl:=r.len
  simp at d
  obtain ⟨s1,B,M1,f1,k1,i1⟩:=W2 (lf:=lf) (bv:=bv) (p:=p) (z5:=none) (z6:=z6) M f a b hz hk hs hl (by simp at rl;omega) (by omega)
  obtain ⟨z',s2,F,M2,f2,k2,i2⟩:=ih M1 f1 a b c (by simp;omega)
  simp only [j6,List.singleton_append] at F f2
  exact ⟨z',s2,wU rfl B F,M2,f2,k1.trans k2,i1.trans i2⟩
 |fault hz hs hl A =>
  intro s K z4 M f a b c d
  obtain ⟨s1,B,o1⟩:=W4 (lf:=lf) (bv:=bv) (p:=p) (z5:=none) (z6:=z6) M f hz hs hl A
  refine ⟨z4,s1,?_,M.old o1,by rw [List.append_nil];exact o1 _ _ f,o1.kx,o1.ki⟩
  rw [List.append_nil]
  exact Iz rfl B
end
section
variable {s s1:aa} {n:Nat} {e:zb}
def Je {fe src:Ai}{xs:An}{f:PV->PV}(hs:src e s=.ok (.tup xs) s1) (hl:xs.length<=1000) (h:∀x∈xs,fe (some x::e) s1=.ok (f x) s1):yW (yA src) fe e s=.ok (.ref s1.length) (s1++[.lst (xs.map f)]):=by
 rw [lV,wX,hs,zH]
 show fK _ _ (.im xs) s1=_
 rw [nC,zw (by simp [lim];omega)]
 have:=AK (f:=f) xs h []
 rw [List.nil_append] at this
 exact this
theorem W6 {fe src:Ai}{ft:Ak}{xs:An}{p:PV->Bool}{f:PV->PV}(hs:src e s=.ok (.ref n) s1) (hn:s1[n]?=some (.lst xs)) (hl:xs.length<=1000) (h:∀x∈xs,ft (some x::e) s1=.ok (p x) s1) (h':∀x∈xs,p x=true->fe (some x::e) s1=.ok (f x) s1):rm (yA src) ft fe e s=.ok (.ref s1.length) (s1++[.lst (xs.flatMap λx=>if p x=true then [f x] else [])]):=by
 rw [R4,wX,hs,zH,uk,yv hn,zH]
 have:=H8 (f:=f) (env:=e) xs hn h h' xs.length 0 (lim+1) [] (by omega) (by simp [lim];omega)
 rw [List.nil_append,List.drop_zero] at this
 exact this
end
theorem W7:("give" : Str) ≠ "if" := by decide +kernel
theorem W8:("fail" : Str) ≠ "if" := by decide +kernel
theorem Jf:("give" : Str) ≠ "fail" := by decide +kernel
theorem sk:("if" : Str) ≠ "fail" := by decide +kernel
theorem sr:("if" : Str) ≠ "give" := by decide +kernel
def gp (v:PV):Prop:=∃z w as,v=a6 z w as
inductive Ed:PV->Prop
 |give (a:PV):Ed (cV a)
 |fail (w:Str):Ed (bA w)
 |ite (a x y:PV):Ed (cI a x y)
def Ln (v:PV):Prop:=gp v\/Ed v
inductive Lb:Nat->PV->List PV->Prop
 |give (n:Nat) (ss:An) (a:PV):(∀v∈ss,gp v)->Lb (n+1) (bC ss (cV a)) (ss++[cV a])
 |fail (n:Nat) (ss:An) (w:Str):(∀v∈ss,gp v)->Lb (n+1) (bC ss (bA w)) (ss++[bA w])
 |ite {n:Nat} {ss lx ly:An} {a x y:PV}:(∀v∈ss,gp v)->Lb n x lx->Lb n y ly->Lb (n+1) (bC ss (cI a x y)) (ss++[cI a x y]++lx++ly)
def Lb.lns {n:Nat}{b:PV}{l:An}(h:Lb n b l):∀v∈l,Ln v:=by
 have one:∀{ss:An} {e:PV},(∀v∈ss,gp v)->Ed e->∀v∈ss++[e],Ln v:=λh he v hv=>by
  rcases yU.mp hv with q|q
  ·exact .inl (h v q)
  ·rw [jv.mp q];exact .inr he
 induction h with
 |give n ss a h=>exact one h (.give _)
 |fail n ss w h=>exact one h (.fail _)
 |ite h _ _ i1 i2 =>
  intro v hv
  rcases yU.mp hv with q|q
  ·rcases yU.mp q with q|q
   ·exact one h (.ite _ _ _) v q
   ·exact i1 v q
  ·exact i2 v q
theorem su:∀{n:Nat}{b:PV}{l:An},Lb n b l->l.length<=900->∀s,iG n [b] s=.ok (.tup l) s
 |_,_,_,.give n ss a _,hl,s=>by
  simp at hl
  exact show rF (iG n) [bC ss (cV a)] s=_ from zX rfl (zp (zP (zj (zc rfl) rfl yw)) (zp (zP (zj (zj (zc rfl) rfl yM) (ya (zF (zc rfl)) (by simp)) (nQ (xs:=ss) (ys:=[cV a]) (by simp;omega)))) (zp (zV (q0 rfl (a9 W7 _))) (zT (zc rfl)))))
 |_,_,_,.fail n ss w _,hl,s=>by
  simp at hl
  exact show rF (iG n) [bC ss (bA w)] s=_ from zX rfl (zp (zP (zj (zc rfl) rfl yw)) (zp (zP (zj (zj (zc rfl) rfl yM) (ya (zF (zc rfl)) (by simp)) (nQ (xs:=ss) (ys:=[bA w]) (by simp;omega)))) (zp (zV (q0 rfl (a9 W8 _))) (zT (zc rfl)))))
 |_,_,_,.ite (n:=n) (ss:=ss) (lx:=lx) (ly:=ly) (a:=a) (x:=x) (y:=y) _ hx hy,hl,s=>by
  simp at hl
  have X:=su hx (by omega) s
  have Y:=su hy (by omega) s
  exact show rF (iG n) [bC ss (cI a x y)] s=_ from zX rfl (zp (zP (zj (zc rfl) rfl yw)) (zp (zP (zj (zj (zc rfl) rfl yM) (ya (zF (zc rfl)) (by simp)) (nQ (xs:=ss) (ys:=[cI a x y]) (by simp;omega)))) (yJ (yB (q0 rfl (dF _)) (zT (zj (zj (zc rfl) (zy (zF (zj (zc rfl) rfl jP)) X) (nQ (by simp;omega))) (zy (zF (zj (zc rfl) rfl wT)) Y) (nQ (by simp;omega))))))))
section
variable {z w:Str} {as:An} {a v:PV} {s:aa}
def pO (h:Ln v):l_ [v] s=.ok .non s:=by
 rcases h with ⟨z,w,as,rfl⟩|h
 ·exact zX rfl (zp (zV (q0 rfl (a9 n1 _))) (zp (zV (q0 rfl (a9 n2 _))) (zT rfl)))
 ·cases h with
  |give a=>exact zX rfl (zp (zV (q0 rfl (a9 n3 _))) (zp (zV (q0 rfl (a9 n4 _))) (zT rfl)))
  |fail w=>exact zX rfl (zp (zV (q0 rfl (a9 n5 _))) (zp (zV (q0 rfl (a9 n6 _))) (zT rfl)))
  |ite a x y=>exact zX rfl (zp (zV (q0 rfl (a9 n8 _))) (zp (zV (q0 rfl (a9 n9 _))) (zT rfl)))
theorem Jg:nK [a6 z w as] s=.ok (.bl true) s:=zX rfl (zT (zj (zj (zc rfl) rfl yM) (ya (zR rfl rfl) (by simp)) (uW "let" true (by decide +kernel) _)))
theorem W9 (h:Ed v):nK [v] s=.ok (.bl false) s:=by
 cases h with
 |give a=>exact zX rfl (zT (zj (zj (zc rfl) rfl yM) (ya (zR rfl rfl) (by simp)) (uW "give" false (by decide +kernel) _)))
 |fail w=>exact zX rfl (zT (zj (zj (zc rfl) rfl yM) (ya (zR rfl rfl) (by simp)) (uW "fail" false (by decide +kernel) _)))
 |ite a x y=>exact zX rfl (zT (zj (zj (zc rfl) rfl yM) (ya (zR rfl rfl) (by simp)) (uW "if" false (by decide +kernel) _)))
def Jh:nL [a6 z w as] s=.ok (.tup as) s:=zX rfl (yJ (yB (zM (zy (zF (zc rfl)) Jg)) (zT (zj (zc rfl) rfl wT))))
theorem BX {b:PV}{l:An}(h:Lb 5 b l) (hl:l.length<=900) (s:aa):∃s1,rW [b] s=.ok (.tup []) s1/\Old s s1:=by
 have C:=Je (e:=[some b,none]) (fe:=zq l_ (zd (za 0) zh)) (f:=λ_=>.non) (s:=s) (s1:=s) (src:=zq (iG 5) (zd (za 0) zh)) (zy (zF (zc rfl)) (su h hl s)) (by omega) (λx hx=>zy (zF (zc rfl)) (pO (h.lns x hx)))
 have D:=W6 (e:=[some b,Au s.length]) (src:=za 1) (ft:=mB (zf jT (za 0) (mC .non))) (fe:=za 0) (p:=λ_=>false) (f:=id) (n:=s.length) (zc rfl) (ym s (.lst (l.map λ_=>PV.non))) (by simp;omega) (λx hx=>by
  obtain ⟨_,_,rfl⟩:=wq.mp hx
  exact zM (zj (zc rfl) rfl rfl)) (λx hx q=>by cases q)
 have e0:((l.map λ_=>PV.non).flatMap λx=>if false=true then [id x] else [])=([]:An):=by simp
 rw [e0] at D
 exact ⟨_,zX rfl (zp (zP C) (zT (zy (zF D) pM))),(zY _ _).trans (zY _ _)⟩
end
inductive Mk (lt:Ad):Nat->Ev->PV->List PV->PV->Ev->Prop
 |fault {n:Nat} {E E':Ev} {ss L:An} {e:PV} {q:Str}:cS lt E ss E' L (some q)->Mk lt (n+1) E (bC ss e) L (bA q) E'
 |fail {n:Nat} {E E':Ev} {ss L:An} {w:Str}:cS lt E ss E' L none->Mk lt (n+1) E (bC ss (bA w)) L (bA w) E'
 |give {n:Nat} {E E':Ev} {ss L:An} {a b:PV} {x:Ao}:cS lt E ss E' L none->cy E' a x b->Mk lt (n+1) E (bC ss (cV a)) L (cV b) E'
 |word {n:Nat} {E E':Ev} {ss L:An} {a b x y:PV} {z:Str}:cS lt E ss E' L none->cy E' a (some (.str z)) b->Mk lt (n+1) E (bC ss (cI a x y)) L (bA "kind") E'
 |first {n:Nat} {E E' E2:Ev} {ss L L2:An} {a b x y e2:PV} {m:Int}:cS lt E ss E' L none->cy E' a (some (.int m)) b->m≠0->Mk lt n E' x L2 e2 E2->Mk lt (n+1) E (bC ss (cI a x y)) (L++L2) e2 E2
 |second {n:Nat} {E E' E2:Ev} {ss L L2 lx:An} {a b x y e2:PV}:cS lt E ss E' L none->cy E' a (some (.int 0)) b->Lb 5 x lx->lx.length<=900->Mk lt n E' y L2 e2 E2->Mk lt (n+1) E (bC ss (cI a x y)) (L++L2) e2 E2
 |both {n:Nat} {E E' E1 E2:Ev} {ss L L1 L2 lx:An} {a b x y e1 e2:PV}:cS lt E ss E' L none->cy E' a none b->Lb 5 x lx->lx.length<=900->Mk lt n E' x L1 e1 E1->Mk lt n E1 y L2 e2 E2->Mk lt (n+1) E (bC ss (cI a x y)) L (cI b (bC L1 e1) (bC L2 e2)) E2
theorem Mk.len {lt:Ad}{n:Nat}{E E':Ev}{bl e:PV}{L:An}(h:Mk lt n E bl L e E'):L.length+E.length<=E'.length:=by
 induction h with
 |fault g=>exact g.len
 |fail g=>exact g.len
 |give g=>exact g.len
 |word g=>exact g.len
 |first g _ _ _ ih=>have:=g.len;simp;omega
 |second g _ _ _ _ ih=>have:=g.len;simp;omega
 |both g _ _ _ _ _ i1 i2=>have:=g.len;omega
def W_ (m:Int) (st:aa):wg [.tup [.str "number"],.tup [.int m]] st=.ok .non st:=by kernel_rfl
def Ji (z:Str) (st:aa):wg [.tup [.str "number"],.tup [.str z]] st=.err "Fault" ["word"] [.str "kind"] st:=by kernel_rfl
def Jj (m:Int) (st:aa):uQ [.int m] st=.ok (.bl (!decide (m=0))) st:=zX rfl (zp (wI (zy (zR (ya (zF rfl) (by simp)) (ya (zF (zc rfl)) (by simp))) (W_ m st))) (zT (zj (zc rfl) rfl (R_ _ _))))
def Xa (z:Str) (st:aa):uQ [.str z] st=.err "Fault" ["word"] [.str "kind"] st:=ID rfl (Wt (Wu ((zy (zR (ya (zF rfl) (by simp)) (ya (zF (zc rfl)) (by simp))) (Ji z st)))))
def Jk {fv:Ai}{e:zb}{s s1:aa}{i j:Nat}{cn:Str}{x:PV}{bg:Aj}(hv:fv e s=.ok x s1):lZ i j cn fv bg e s=.ok (.nx (e.set i (some x))) s1:=by
 unfold lZ
 rw [hv]
def Xb {fv:Ai}{e:zb}{s s1 s2:aa}{i j:Nat}{cn:Str}{ks:Ad}{xs:An}{v:PV}{bg:Aj}(hv:fv e s=.err cn ks xs s1) (hk:ks≠[]) (hs:bg (e.set j (some (.exo cn ks xs))) s1=.ok (.rt v) s2):lZ i j cn fv bg e s=.ok (.rt v) s2:=by
 unfold lZ
 rw [hv]
 simp only
 rw [zw ⟨trivial,hk⟩,hs,j1,zH]
 rfl
section
variable {lt:Ad} {o La T:Nat} {E E' E1 E2:Ev} {s s':aa} {bv e e2 a b v x y:PV} {p:Int} {L L1 L2 ss ys:An} {z w:Str} {mr:Al} {q:Ao}
def Ob.ki (h:Ob s v q b) (k:KI s s'):Ob s' v q b:=by
 obtain ⟨q,e,⟨y,h1,h2,h3⟩|⟨z,h1,h2,h3⟩⟩:=h
 ·exact ⟨q,e,.inl ⟨y,h1,k _ _ _ _ h2,h3⟩⟩
 ·exact ⟨q,e,.inr ⟨z,h1,k _ _ _ _ h2,h3⟩⟩
theorem Jl {fo:Ai} {en:zb} (h:Ob s v q b) (ho:fo en s=.ok v s):yV "ahead" pG fo zh en s=.ok (.bl q.isSome) s:=by
 obtain ⟨q,rfl,⟨y,rfl,h1,rfl⟩|⟨z,rfl,h1,rfl⟩⟩:=h
 ·exact j5 ho h1 (by decide +kernel) (zw rfl) jO (zX rfl (zT rfl))
 ·have ht:pG "Later" = some m_Later_ahead:=by unfold pG;rw [zI (by decide +kernel),zw rfl]
  exact j5 ho h1 (by decide +kernel) ht jO (zX rfl (zT rfl))
theorem pP (g:cS lt E ss E' L none) (M:Mg lt o La T E s) (hl:E'.length<=900) (h2:L.length+L2.length<=100000) (hE:∀s2,Mg lt o La T E' s2->∃s3,m_Making_made_end mr [.ref o,e,.int p] s2=.ok (bC L2 e2) s3/\Mg lt o La T E2 s3/\Kx [T] s2 s3/\KI s2 s3):∃s1,m_Making_made_block mr [.ref o,bC ss e,.int p] s=.ok (bC (L++L2) e2) s1/\Mg lt o La T E2 s1/\Kx [T] s s1/\KI s s1:=by
 have o0:Old s (s++[SO.lst []]):=zY _ _
 have l1:=yh M.la
 obtain ⟨us,hT,_⟩:=M.th
 have l2:=yh hT
 have gl:=g.len
 obtain ⟨z',s2,F,M2,f2,k2,i2⟩:=Jd (bv:=bC ss e) (p:=p) (z6:=none) (z4:=none) g (M.old o0) (ym _ _) (by omega) (by omega) (by omega) (by simp;omega)
 obtain ⟨r,gs,ob⟩:=M2.ob
 obtain ⟨s3,E3,M3,k3,i3⟩:=hE s2 M2
 have f3:=k3 _ _ (by simp;omega) f2
 refine ⟨s3,zX rfl (zp (zP (wJ jO (by simp))) (zp (wV (zj (zc rfl) rfl yM) F) (zp (zP (j5 (zc rfl) ob (by decide +kernel) (zw rfl) (zR (zj (zc rfl) rfl yw) (zc rfl)) E3)) (zT (ya (zR (zj (zy (zF (zc rfl)) (by rw [jS,yv f3])) (zj (zc rfl) rfl yM) (nQ (xs:=[]++L) (ys:=L2) (by simp;omega))) (zj (zc rfl) rfl yw)) (by simp)))))),M3,λm so q e=>?_,o0.ki.trans (i2.trans i3)⟩
 have:=yh e
 exact k3 _ _ q (k2 _ _ (by simp at q ⊢;omega) (o0 _ _ e))
theorem Xc {f:Str}(g:cS lt E ss E' L (some f)) (M:Mg lt o La T E s) (hl:E'.length<=900):∃s1,m_Making_made_block mr [.ref o,bC ss e,.int p] s=.ok (bC L (bA f)) s1/\Mg lt o La T E' s1/\Kx [T] s s1/\KI s s1:=by
 have o0:Old s (s++[SO.lst []]):=zY _ _
 have l1:=yh M.la
 obtain ⟨us,hT,_⟩:=M.th
 have l2:=yh hT
 have gl:=g.len
 obtain ⟨z',s2,F,M2,f2,k2,i2⟩:=Jd (bv:=bC ss e) (p:=p) (z6:=none) (z4:=none) g (M.old o0) (ym _ _) (by omega) (by omega) (by omega) (by simp;omega)
 refine ⟨s2,zX rfl (zp (zP (wJ jO (by simp))) (yJ (wV (zj (zc rfl) rfl yM) F))),M2,λm so q e=>?_,o0.ki.trans i2⟩
 have:=yh e
 exact k2 _ _ (by simp at q ⊢;omega) (o0 _ _ e)
def Xd (M:Mg lt o La T E s):∃s3,m_Making_made_end mr [.ref o,bA w,.int p] s=.ok (bC [] (bA w)) s3/\Mg lt o La T E s3/\Kx [T] s s3/\KI s s3:=⟨s,zX rfl (yJ (yB (q0 rfl (dF _)) (zT (ya (zR (ya jO (by simp)) (zc rfl)) (by simp))))),M,Kx.refl _ _,(Old.refl _).ki⟩
def Xe (M:Mg lt o La T E s) (h:cy E a q b):∃s3,m_Making_made_end mr [.ref o,cV a,.int p] s=.ok (bC [] (cV b)) s3/\Mg lt o La T E s3/\Kx [T] s s3/\KI s s3:=by
 obtain ⟨v,s1,E1,O1,o1⟩:=vb M.th h
 exact ⟨s1,zX rfl (zp (zV (q0 rfl (a9 Jf _))) (zp (zV (q0 rfl (a9 n4 _))) (zp (zP (zy (zR (zj (zc rfl) rfl yw) (yX (zc rfl) (mq M))) E1)) (yJ (yB (q0 rfl (dF _)) (zT (ya (zR (ya jO (by simp)) (ya (zR rfl (BP O1 (zc rfl))) (by simp))) (by simp)))))))),M.old o1,o1.kx,o1.ki⟩
theorem BZ {R:PV}(M:Mg lt o La T E s) (h:cy E a (some v) b) (hD:∀s1,Mg lt o La T E s1->∃s3,m_Making_decided mr [.ref o,cI a x y,v,.int p] s1=.ok R s3/\Mg lt o La T E2 s3/\Kx [T] s1 s3/\KI s1 s3):∃s3,m_Making_made_end mr [.ref o,cI a x y,.int p] s=.ok R s3/\Mg lt o La T E2 s3/\Kx [T] s s3/\KI s s3:=by
 obtain ⟨u,s1,E1,O1,o1⟩:=vb M.th h
 have M1:=M.old o1
 obtain ⟨r,gs,ob⟩:=M1.ob
 obtain ⟨s3,E3,M3,k3,i3⟩:=hD s1 M1
 exact ⟨s3,zX rfl (zp (zV (q0 rfl (a9 sk _))) (zp (zV (q0 rfl (a9 n9 _))) (zp (zP (zy (zR (zj (zc rfl) rfl yw) (yX (zc rfl) (mq M))) E1)) (zp (zV (q0 rfl (a9 sr _))) (yJ (yB (zM (Jl O1 (zc rfl))) (zT (j5 (zc rfl) ob (by decide +kernel) (zw rfl) (wj (zc rfl) (BQ O1 (zc rfl)) (zc rfl)) E3)))))))),M3,o1.kx.trans k3,o1.ki.trans i3⟩
def Xf (M:Mg lt o La T E s):∃s3,m_Making_decided mr [.ref o,cI a x y,.str z,.int p] s=.ok (bC [] (bA "kind")) s3/\Mg lt o La T E s3/\Kx [T] s s3/\KI s s3:=⟨s,zX rfl (yJ (Xb (BU (zF (zc rfl)) (Xa z s)) (by simp) (zT (ya (zR (ya jO (by simp)) (ya (zR rfl (yX (zc rfl) (Jb _ _ _ (by decide +kernel)))) (by simp))) (by simp))))),M,Kx.refl _ _,(Old.refl _).ki⟩
def mv (mr:Al) (lt:Ad) (o La T:Nat) (E:Ev) (bl R:PV) (E2:Ev):Prop:=∀(s:aa) (p:Int),Mg lt o La T E s->∃s3,mr [.ref o,bl,.int p] s=.ok R s3/\Mg lt o La T E2 s3/\Kx [T] s s3/\KI s s3
theorem Xg {m:Int}(hm:m≠0) (D:mv mr lt o La T E x (bC L2 e2) E2) (M:Mg lt o La T E s):∃s3,m_Making_decided mr [.ref o,cI a x y,.int m,.int p] s=.ok (bC L2 e2) s3/\Mg lt o La T E2 s3/\Kx [T] s s3/\KI s s3:=by
 obtain ⟨r,gs,ob⟩:=M.ob
 obtain ⟨s3,E3,r3⟩:=D s p M
 have C:=Jj m s
 rw [yP hm] at C
 exact ⟨s3,zX rfl (zp (Jk (BU (zF (zc rfl)) C)) (yJ (yB (zM (zc rfl)) (zT (j5 (zc rfl) ob (by decide +kernel) (zw rfl) (zR (zj (zc rfl) rfl jP) (zc rfl)) E3))))),r3⟩
def Xh {lx:An}(hx:Lb 5 x lx) (hl:lx.length<=900) (D:mv mr lt o La T E y (bC L2 e2) E2) (M:Mg lt o La T E s):∃s3,m_Making_decided mr [.ref o,cI a x y,.int 0,.int p] s=.ok (bC L2 e2) s3/\Mg lt o La T E2 s3/\Kx [T] s s3/\KI s s3:=by
 obtain ⟨s1,A1,o1⟩:=BX hx hl s
 obtain ⟨r,gs,ob⟩:=M.ob
 obtain ⟨s3,E3,M3,k3,i3⟩:=D s1 (p+0) (M.old o1)
 exact ⟨s3,zX rfl (zp (Jk (BU (zF (zc rfl)) (Jj 0 s))) (zp (zV (zM (zc rfl))) (zT (j5 (zc rfl) ob (by decide +kernel) (zw rfl) (zR (zj (zc rfl) rfl wT) (zj (zc rfl) (zy (zF (zy (zF (zj (zc rfl) rfl jP)) A1)) (FW _)) (kA _ _))) E3)))),M3,o1.kx.trans k3,o1.ki.trans i3⟩
def Xi {lx:An}{e1:PV}(M:Mg lt o La T E s) (h:cy E a none b) (hx:Lb 5 x lx) (hl:lx.length<=900) (D1:mv mr lt o La T E x (bC L1 e1) E1) (D2:mv mr lt o La T E1 y (bC L2 e2) E2):∃s3,m_Making_made_end mr [.ref o,cI a x y,.int p] s=.ok (bC [] (cI b (bC L1 e1) (bC L2 e2))) s3/\Mg lt o La T E2 s3/\Kx [T] s s3/\KI s s3:=by
 obtain ⟨u,s1,F1,O1,o1⟩:=vb M.th h
 have M1:=M.old o1
 obtain ⟨r,gs,ob⟩:=M1.ob
 obtain ⟨s2,F2,M2,k2,i2⟩:=D1 s1 p M1
 obtain ⟨r',Xj,Xk⟩:=M2.ob
 obtain ⟨s3,A3,o3⟩:=BX hx hl s2
 obtain ⟨s4,F4,M4,k4,i4⟩:=D2 s3 (p+0) (M2.old o3)
 have O4:=((O1.ki i2).old o3).ki i4
 exact ⟨s4,zX rfl (zp (zV (q0 rfl (a9 sk _))) (zp (zV (q0 rfl (a9 n9 _))) (zp (zP (zy (zR (zj (zc rfl) rfl yw) (yX (zc rfl) (mq M))) F1)) (zp (zV (q0 rfl (a9 sr _))) (zp (zV (zM (Jl O1 (zc rfl)))) (zp (zP (j5 (zc rfl) ob (by decide +kernel) (zw rfl) (zR (zj (zc rfl) rfl jP) (zc rfl)) F2)) (zp (zP (j5 (zc rfl) Xk (by decide +kernel) (zw rfl) (zR (zj (zc rfl) rfl wT) (zj (zc rfl) (zy (zF (zy (zF (zj (zc rfl) rfl jP)) A3)) (FW _)) (kA _ _))) F4)) (zT (ya (zR (ya jO (by simp)) (ya (jI rfl (BP O4 (zc rfl)) (zc rfl) (zc rfl)) (by simp))) (by simp)))))))))),M4,o1.kx.trans (k2.trans (o3.kx.trans k4)),o1.ki.trans (i2.trans (o3.ki.trans i4))⟩
end
theorem Xl {lt:Ad}{o La T n:Nat}{E E':Ev}{bl e:PV}{L:An}(h:Mk lt n E bl L e E'):E'.length<=900->mv (nO n) lt o La T E bl (bC L e) E':=by
 induction h with
 |fault g=>exact λhl s p M=>Xc g M hl
 |fail g =>
  intro hl s p M
  have:=g.len
  obtain ⟨s1,F,r⟩:=pP (p:=p) (e:=bA _) g M hl (L2:=[]) (by simp;omega) λs2 M2=>Xd (mr:=nO _) M2
  rw [List.append_nil] at F
  exact ⟨s1,F,r⟩
 |give g se =>
  intro hl s p M
  have:=g.len
  obtain ⟨s1,F,r⟩:=pP (p:=p) (e:=cV _) g M hl (L2:=[]) (by simp;omega) λs2 M2=>Xe (mr:=nO _) M2 se
  rw [List.append_nil] at F
  exact ⟨s1,F,r⟩
 |word g se =>
  intro hl s p M
  have:=g.len
  obtain ⟨s1,F,r⟩:=pP (p:=p) (e:=cI _ _ _) g M hl (L2:=[]) (by simp;omega) λs2 M2=>BZ (mr:=nO _) M2 se λs3 M3=>Xf M3
  rw [List.append_nil] at F
  exact ⟨s1,F,r⟩
 |first g se hm k ih =>
  intro hl s p M
  have:=g.len
  have kl:=k.len
  have D:=ih hl
  exact pP (p:=p) (e:=cI _ _ _) g M (by omega) (by omega) λs2 M2=>BZ M2 se λs3 M3=>Xg hm D M3
 |second g se hx pQ k ih =>
  intro hl s p M
  have:=g.len
  have kl:=k.len
  have D:=ih hl
  exact pP (p:=p) (e:=cI _ _ _) g M (by omega) (by omega) λs2 M2=>BZ M2 se λs3 M3=>Xh hx pQ D M3
 |both g se hx pQ k1 k2 i1 i2 =>
  intro hl s p M
  have:=g.len
  have kl:=k1.len
  have Z0:=k2.len
  have D1:=i1 (by omega)
  have D2:=i2 hl
  obtain ⟨s1,F,r⟩:=pP (p:=p) (e:=cI _ _ _) g M (by omega) (L2:=[]) (by simp;omega) λs2 M2=>Xi M2 se hx pQ D1 D2
  rw [List.append_nil] at F
  exact ⟨s1,F,r⟩
abbrev cJ (nz:Str) (ps:Ad) (bl:PV):PV:=.tup [.str nz,.tup (ps.map PV.str),bl]
abbrev dA (nz:Str) (b:Int) (lt:Ad):PV:=.tup [.str nz,.int b,.tup (lt.map PV.str),.tup []]
structure One (nz:Str) (ps:Ad) (b:Int) (kp:List (Str×PV)) (bl:PV) (lt:Ad) (L:An) (a':PV) (z:Str):Prop where
 b0:0<=b
 kn:picks (λj=>!bitAt b j) 0 ps=kp.map (·.1)
 ps6:ps.length<=6
 ltn:lt.Nodup
 lt9:lt.length<=900
 nd:(kp.map (·.1)++picks (bitAt b) 0 ps).Nodup
 go:∃E',Mk lt 5 (eG kp++e9 (picks (bitAt b) 0 ps)) bl L a' E'/\E'.length<=900
 sh:∀s,∃s1,kJ 3 [.tup (kp.map (·.2))] s=.ok (.str z) s1/\Old s s1
section
variable {nz z:Str} {ps lt:Ad} {b:Int} {kp:List (Str×PV)} {L:An} {bl a':PV} {Lm r M N:Nat} {s:aa}
abbrev nW (ps:Ad) (b:Int) (L:An) (a':PV):PV:=.tup [.str "q0", .tup ((picks (bitAt b) 0 ps).map PV.str),.tup [.tup L,a']]
theorem Xm (O:One nz ps b kp bl lt L a' z) (G:R1 nz b (kp.map (·.2)) z Lm r M N s):∃s1,uR [.ref r,cx nz b (kp.map (·.2)),cJ nz ps bl,dA nz b lt] s=.ok (nW ps b L a') s1/\Old s s1:=by
 have h6:=O.ps6
 obtain ⟨E',go,Xn⟩:=O.go
 obtain ⟨La,T,s1,E1,M1,c1,c2,o1⟩:=WN (f:=.str nz) (nz:=nz) (gs:=.tup []) (rest:=[bl]) O.b0 O.kn (by omega) O.ltn (by have:=O.lt9;omega) O.nd r s
 have G1:=G.old o1
 obtain ⟨s2,E2,o2⟩:=Wy O.sh G1
 have LP:=u_ (f:=.str nz) (ps:=ps) (r:=[bl]) b O.b0 (by omega) s2
 have o3:Old s2 (s2++[SO.lst ((picks (bitAt b) 0 ps).map PV.str)]):=zY _ _
 have M3:=(M1.old o2).old o3
 obtain ⟨r',Xj,ob⟩:=M3.ob
 obtain ⟨s4,E4,_,k4,i4⟩:=Xl go Xn _ 0 M3
 refine ⟨s4,zX rfl (zp (zP (zy (jI (zc rfl) (zc rfl) (zc rfl) (zj (zc rfl) rfl jP)) E1)) (zT (ya (wj (j5 (zc rfl) G1.at_ (by decide +kernel) (zw rfl) (zF (zc rfl)) E2) (zy (zR (zc rfl) (zj (zc rfl) rfl yw)) LP) (j5 (zc rfl) ob (by decide +kernel) (zw rfl) (zR (zj (zc rfl) rfl jP) rfl) E4)) (by simp)))),λm so e=>?_⟩
 have:=yh e
 exact k4 _ _ (by simp;omega) (o3 _ _ (o2 _ _ (o1 _ _ e)))
def B0 {fr:An}(s:aa):rE [.tup [.tup (.str nz::fr)]] s=.ok (.ref s.length) (s++[.dic [nz] [.tup (.str nz::fr)]]):=by
 have D:=kO (pK (z:=nz) (x:=.tup (.str nz::fr)) (ks:=[]) (xs:=[]) (by simp)) (fo:=za 1) (fi:=zf zk (za 2) (Ar 0)) (fv:=za 2) (e:=[some (.tup [.tup (.str nz::fr)]),Au s.length,some (.tup (.str nz::fr))]) (s:=s++[.dic [] []]) (zc rfl) (zc rfl) (zj (zc rfl) rfl yM) (ym _ _) (by simp)
 rw [va] at D
 exact zX rfl (zp (zP rfl) (zp (wV (zc rfl) (wU rfl D rfl)) (zT (zc rfl))))
def Xo {fr:An}(s:aa):Bl [.tup [.tup (.str nz :: .int b::fr)]] s=.ok (.ref s.length) (s++[.dit [[.inr nz,.inl b]] [.tup (.str nz :: .int b::fr)]]):=by
 have D:=IF (fo:=za 1) (fi:=zU (zd (zf (av zk) (za 2) (Ar 0)) (zd (zf (av zk) (za 2) (Ar 1)) zh))) (fv:=za 2) (e:=[some (.tup [.tup (.str nz :: .int b::fr)]),Au s.length,some (.tup (.str nz :: .int b::fr))]) (s:=s++[.dic [] []]) (k:=[.inr nz,.inl b]) (zs:=[.str nz,.int b]) (kk:=[]) (xs:=[]) (n:=s.length) (zc rfl) (zc rfl) (ya (zR (zj (zc rfl) rfl w4) (zj (zc rfl) rfl pJ)) (by simp)) rfl (by rw [ym];rfl) rfl (by simp)
 rw [va] at D
 exact zX rfl (zp (zP rfl) (zp (wV (zc rfl) (wU rfl D rfl)) (zT (zc rfl))))
abbrev bW:Aj:=(zt (zQ 9 (zf (av zk) (yq (aK "met" insOf excOf) (za 7)) (zq yH (zd (za 8) zh))))
  (je (jr jp (za 8) (zq uR (zd (za 7) (zd (za 9) (zd (zf (av zk) (za 5) (zf (av zk) (za 9) (Ar 0))) (zd (zf (av zk) (za 6) (zU (zd (zf (av zk) (za 9) (Ar 0)) (zd (zf (av zk) (za 9) (Ar 1)) zh)))) zh))))))))
abbrev tW:Ak:=(mB (zf jX (zq yH (zd (za 8) zh)) (zq yH (zd (yq (aK "met" insOf excOf) (za 7)) zh))))
theorem Xp (O:One nz ps b kp bl lt L a' z) (hB:∀s,∃s1,rJ [.tup [cJ nz ps bl],.tup [dA nz b lt]] s=.ok .non s1/\Old s s1) (hL:0<Lm) (s:aa) :
  ∃s1,fh [.tup [cJ nz ps bl],.tup [dA nz b lt],.tup (kp.map (·.2)),nV Lm] s=.ok (.tup [.tup [nW ps b L a'],.tup [cx nz b (kp.map (·.2))]]) s1/\Old s s1:=by
 obtain ⟨s1,E1,o1⟩:=hB s
 let f:=s1.length
 let s2:=s1++[SO.dic [nz] [cJ nz ps bl]]
 let g:=s2.length
 let s3:=s2++[SO.dit [[.inr nz,.inl b]] [dA nz b lt]]
 have lf:f<s3.length:=by simp [f,s3,s2]
 have lg:g<s3.length:=by simp [g,s3]
 have Xq:s3[f]?=some (.dic [nz] [cJ nz ps bl]):=zY _ _ _ _ (ym _ _)
 have Xr:s3[g]?=some (.dit [[.inr nz,.inl b]] [dA nz b lt]):=ym _ _
 obtain ⟨s4,E4,G4,o4⟩:=WG Lm s3
 obtain ⟨s5,E5,G5,k5⟩:=WC (f:=nz) (b:=b) O.sh hL G4
 have o6:Old s5 (s5++[SO.lst []]):=zY _ _
 have G6:=G5.old o6
 have Xs:=o6 _ _ (k5 f _ (by omega) (by omega) (o4 _ _ Xq))
 have Jm:=o6 _ _ (k5 g _ (by omega) (by omega) (o4 _ _ Xr))
 have vd:(s5++[SO.lst []])[s5.length]?=some (.lst []):=ym _ _
 obtain ⟨s7,E7,o7⟩:=Xm O G6
 have Jn:=o7 _ _ vd
 have G7:=G6.old o7
 have l5:=yh G5.met
 have Z1:=yh G5.nms
 have Z2:=yh G5.at_
 let s8:=s7.set s5.length (.lst ([]++[nW ps b L a']))
 have Jo:s8[s5.length]?=some (.lst [nW ps b L a']):=yZ (yh Jn)
 have Xt:s8[s3.length]?=some (nS Lm (s3.length+1) (s3.length+2)):=by show (s7.set _ _)[s3.length]?=_;rw [yr (by omega)];exact G7.at_
 have Jp:s8[s3.length+1]?=some (.lst [cx nz b (kp.map (·.2))]):=by show (s7.set _ _)[s3.length+1]?=_;rw [yr (by omega)];exact G7.met
 have F6:aK "met" insOf excOf (.ref s3.length) (s5++[SO.lst []])=.ok (.ref (s3.length+1)) (s5++[SO.lst []]):=wK G6.at_ (by decide +kernel) rfl
 have F8:aK "met" insOf excOf (.ref s3.length) s8=.ok (.ref (s3.length+1)) s8:=wK Xt (by decide +kernel) rfl
 have I1:av zk (.ref f) (.str nz) (s5++[SO.lst []])=.ok (cJ nz ps bl) (s5++[SO.lst []]):=nR Xs (by simp)
 have I2:=BJ (old:=zk) (zs:=[.str nz,.int b]) (k:=[.inr nz,.inl b]) (x:=dA nz b lt) rfl (show cj (s5++[SO.lst []])[g]?=_ by rw [Jm];rfl) (by unfold iD;rw [zw rfl])
 rw [sf Jm] at I2
 have B:bW [some (.tup [cJ nz ps bl]),some (.tup [dA nz b lt]),some (.tup (kp.map (·.2))),some (nV Lm),some .non,Au f,Au g,Au s3.length,Au s5.length,none] (s5++[SO.lst []])=.ok (.nx [some (.tup [cJ nz ps bl]),some (.tup [dA nz b lt]),some (.tup (kp.map (·.2))),some (nV Lm),some .non,Au f,Au g,Au s3.length,Au s5.length,some (cx nz b (kp.map (·.2)))]) s8 :=
  zp (zP (zj (yX (zc rfl) F6) (zy (zF (zc rfl)) (bo vd)) (Ja (i:=0) G6.met rfl))) (wI (wZ (zc rfl) vd (zy (jI (zc rfl) (zc rfl) (zj (zc rfl) (zj (zc rfl) rfl w4) I1) (zj (zc rfl) (ya (zR (zj (zc rfl) rfl w4) (zj (zc rfl) rfl pJ)) (by simp)) I2)) E7) (iH Jn (by simp))))
 have W:bX tW bW 1000000 [some (.tup [cJ nz ps bl]),some (.tup [dA nz b lt]),some (.tup (kp.map (·.2))),some (nV Lm),some .non,Au f,Au g,Au s3.length,Au s5.length,none] (s5++[SO.lst []])=_ :=
  vc (n:=999999) (zM (zj (zy (zF (zc rfl)) (bo vd)) (zy (zF (yX (zc rfl) F6)) (bo G6.met)) (f7 true (by simp) _))) B (BV 999998 (zM (zj (zy (zF (zc rfl)) (bo Jo)) (zy (zF (yX (zc rfl) F8)) (bo Jp)) (f7 false (by simp) _))))
 refine ⟨s8,zX rfl (zp (zP (zy (zR (zc rfl) (zc rfl)) E1)) (zp (zV (zM (zj (zc rfl) rfl rfl))) (zp (zP (zy (zF (zc rfl)) (B0 s1))) (zp (zP (zy (zF (zc rfl)) (Xo s2))) (zp (zP (zy (zF (zc rfl)) E4)) (zp (wI (j5 (zc rfl) G4.at_ (by decide +kernel) (zw rfl) (zF (ya (wj (zj (zj (zc rfl) rfl w4) rfl w4) (zj (zj (zc rfl) rfl w4) rfl pJ) (zc rfl)) (by simp))) E5)) (zp (zP (wJ jO (by simp))) (zp W (zT (ya (zR (zy (zF (zc rfl)) (by rw [jS,yv Jo])) (zy (zF (yX (zc rfl) F8)) (by rw [jS,yv Jp]))) (by simp))))))))))),λm so e=>?_⟩
 have hm:=yh e
 have e3:s3[m]?=some so:=zY _ _ _ _ (zY _ _ _ _ (o1 _ _ e))
 have l3:=yh e3
 show (s7.set _ _)[m]?=_
 rw [yr (by omega)]
 exact o7 _ _ (o6 _ _ (k5 _ _ (by omega) (by omega) (o4 _ _ e3)))
end
def lw (hd:Str) (L:Ad) (z:Str) (as:An):Bool:=as.any (aR L)||decide (z=hd)
inductive d8 (hd:Str):List Str->List PV->List Str->Prop
 |nil (L:Ad):d8 hd L [] []
 |ed {L r:Ad} {v:PV} {ss:An}:Ed v->d8 hd L ss r->d8 hd L (v::ss) r
 |yes {L r:Ad} {z w:Str} {as ss:An}:(∀a∈as,gZ a)->as.length<=1000->lw hd L z as=true->z∉L->d8 hd (L++[z]) ss r->d8 hd L (a6 z w as::ss) (z::r)
 |no {L r:Ad} {z w:Str} {as ss:An}:(∀a∈as,gZ a)->as.length<=1000->lw hd L z as=false->d8 hd L ss r->d8 hd L (a6 z w as::ss) r
def Xu (nz z hd:Str):cw (pk nz z) [pk nz hd]=decide (z=hd):=by
 by_cases h:z=hd
 ·rw [jk h,h];exact A5.mpr (jv.mpr rfl)
 ·rw [yP h,Bool.eq_false_iff]
  intro q
  have:=jv.mp (A5.mp q)
  simp [pk] at this
  exact h this
def Xv {k:List Key}(st:aa):∃s1,iF [.tup [df k]] st=.ok (.ref st.length) s1/\IsT [k] s1 st.length/\Old st s1:=by
 have h0:IsT [] (st++[SO.dic [] []]) st.length:=by unfold IsT;rw [ym];rfl
 have P:=Il (fo:=za 1) (fi:=za 2) (fv:=mC (.bl true)) (e:=[some (.tup [df k]),Au st.length,some (df k)]) rfl (zc rfl) (zc rfl) h0 (by simp)
 exact ⟨_,zX rfl (zp (zP rfl) (zp (wV (zc rfl) (wU rfl P rfl)) (zT (zc rfl)))),uY h0.lt,λm so e=>by rw [yr (by have:=yh e;omega)];exact zY _ _ _ _ e⟩
def IsT.kx {ks:Ag}{s s':aa}{q:Nat}{ms:List Nat}(h:IsT ks s q) (k:Kx ms s s') (hq:q∉ms):IsT ks s' q:=by
 unfold IsT at h ⊢
 cases e:s[q]? with
 |none=>rw [e] at h;cases h
 |some so=>rw [k _ _ hq e];rw [e] at h;exact h
def Xw {nz hd z w:Str}{as:An}{o q b d:Nat}{s:aa}(ho:s[o]?=some (iI q b)) (hq:IsT [pk nz hd] s q) (ha:∀a∈as,gZ a) (hl:as.length<=1000) {L:Ad}(hD:mj L s d):∃s1,m_Holding_makes_later [.ref o,.str nz,a6 z w as,.ref d] s=.ok (.bl (lw hd L z as)) s1/\IsT [pk nz hd] s1 q/\Kx [q] s s1:=by
 have N:=Ii ha hl hD
 have o1:Old s (s++[SO.lst ((as.map (aR L)).map PV.bl)]):=zY _ _
 have B:decide (bq (as.map (aR L))≠0)=as.any (aR L):=by rw [Ih,List.any_map];rfl
 have T:(j_ (mB (zf zZ (zf (av zk) (za 2) (Ar 0)) (As "call"))) (mB (zf j9 (zq nJ (zd (zq nL (zd (za 2) zh)) (zd (za 3) zh))) (Ar 0)))) [Au o,some (.str nz),some (a6 z w as),Au d] s=.ok (as.any (aR L)) (s++[SO.lst ((as.map (aR L)).map PV.bl)]) :=
  FY (zM (zj (zj (zc rfl) rfl w4) rfl (a9 n1 _))) (zM (zj (zy (zR (zy (zF (zc rfl)) Jh) (zc rfl)) N) rfl (by rw [Iy,B])))
 have q1:=hq.old o1
 cases hany:as.any (aR L) with
 |true =>
  rw [hany] at T
  have e:lw hd L z as=true:=by unfold lw;rw [hany];rfl
  rw [e]
  exact ⟨_,zX rfl (yJ (yB T (zT rfl))),q1,o1.kx⟩
 |false =>
  rw [hany] at T
  have R:=Ij (old:=yI false) (neg:=false) (k:=pk nz z) q1
  have e:lw hd L z as=decide (z=hd):=by unfold lw;rw [hany];rfl
  rw [Xu,Bool.false_xor,<-e] at R
  exact ⟨_,zX rfl (zp (zV T) (zT (zj (ya (zR (zc rfl) (zj (zc rfl) rfl pJ)) (by simp)) (yX (zc rfl) (Iv (o1 _ _ ho))) R))),uY q1.lt,o1.kx.trans (jY (by simp))⟩
abbrev cF:Aj:=(zW (j0 (mB (zq nK (zd (za 6) zh))) (mB (yV "makes_later" rY (za 0) (zd (zf zk (za 1) (Ar 0)) (zd (za 6) (zd (za 3) zh))))))
  (zt (je (jr jp (za 4) (zf zk (za 6) (Ar 1))))
  (jH (za 3) (zf zk (za 6) (Ar 1)) (mC (.bl true))))
  z0)
abbrev bF:Aj:=(zt (zQ 7 (zq l_ (zd (za 6) zh)))
  (zt (zW (mB (zf jT (za 7) (mC .non)))
  yT
  z0)
  cF))
structure BF (nz hd:Str) (o q b d a g:Nat) (L dq:Ad) (s:aa):Prop where
 H:s[o]?=some (iI q b)
 Q:IsT [pk nz hd] s q
 D:s[d]?=some (.dic L (cH L))
 A:s[a]?=some (.lst (dq.map PV.str))
 G:s[g]?=some (.lst [])
 ne:o≠q/\o≠d/\o≠a/\q≠d/\q≠a/\q≠g/\d≠a/\d≠g/\a≠g
abbrev eF (o:Nat) (fv:PV) (bits:Int) (d a g:Nat) (z6 z7:Ao):zb:=[Au o,some fv,some (.int bits),Au d,Au a,Au g,z6,z7]
section
variable {o q b d a g:Nat} {L dq:Ad} {s:aa} {nz hd z w:Str} {fr as:An} {bits:Int} {z6 z7:Ao}
def BF.kq {s':aa}(B:BF nz hd o q b d a g L dq s) (k:Kx [q] s s') (hq:IsT [pk nz hd] s' q):BF nz hd o q b d a g L dq s':=by
 obtain ⟨c1,c2,c3,c4,c5,c6,c7,c8,c9⟩:=B.ne
 exact ⟨k _ _ (by simpa using c1) B.H,hq,k _ _ (by simpa using yz c4) B.D,k _ _ (by simpa using yz c5) B.A,k _ _ (by simpa using yz c6) B.G,B.ne⟩
theorem Jq (B:BF nz hd o q b d a g L dq s) (ha:∀a∈as,gZ a) (hl:as.length<=1000) (hz:lw hd L z as=true->z∉L) (l1:L.length<=1000) (l2:dq.length<=1000):∃s1,bF (eF o (.tup (.str nz::fr)) bits d a g (some (a6 z w as)) z7) s=.ok (.nx (eF o (.tup (.str nz::fr)) bits d a g (some (a6 z w as)) (some .non))) s1/\Kx [q,d,a] s s1 /\
  (lw hd L z as=true->BF nz hd o q b d a g (L++[z]) (dq++[z]) s1)/\(lw hd L z as=false->BF nz hd o q b d a g L dq s1):=by
 obtain ⟨c1,c2,c3,c4,c5,c6,c7,c8,c9⟩:=B.ne
 obtain ⟨s1,E1,q1,k1⟩:=Xw (nz:=nz) (hd:=hd) (z:=z) (w:=w) B.H B.Q ha hl (d:=d) (L:=L) (.inl ⟨_,B.D,by simp⟩)
 have B1:=B.kq k1 q1
 have MT:∀{c},lw hd L z as=c->(j0 (mB (zq nK (zd (za 6) zh))) (mB (yV "makes_later" rY (za 0) (zd (zf zk (za 1) (Ar 0)) (zd (za 6) (zd (za 3) zh)))))) (eF o (.tup (.str nz::fr)) bits d a g (some (a6 z w as)) (some .non)) s=.ok c s1:=λ{c} hc=>ky (zM (zy (zF (zc rfl)) Jg)) (zM (Iw (zc rfl) B.H (by decide +kernel) (zw rfl) (wj (zj (zc rfl) rfl yM) (zc rfl) (zc rfl)) (by rw [E1,hc])))
 have AY:Kx [q,d,a] s s1:=λm so h e=>k1 _ _ (by simp at h ⊢;exact h.1) e
 cases hany:lw hd L z as with
 |false =>
  exact ⟨s1,zp (zP (zy (zF (zc rfl)) (pO (.inl ⟨_,_,_,rfl⟩)))) (zp (zV (zM (zj (zc rfl) rfl rfl))) (zV (MT hany))),AY,(λq=>by cases q),λ_=>B1⟩
 |true =>
  have A2:=iH (y:=.str z) B1.A (by simp;omega)
  have k2:Kx [q,d,a] s1 (s1.set a (.lst (dq.map PV.str++[.str z]))):=jY (by simp)
  have a2:(s1.set a (.lst (dq.map PV.str++[.str z])))[a]?=some (.lst ((dq++[z]).map PV.str)):=by rw [yZ (yh B1.A)];simp
  have d2:(s1.set a (.lst (dq.map PV.str++[.str z])))[d]?=some (.dic L (cH L)):=by rw [yr (yz c7)];exact B1.D
  have h2:(s1.set a (.lst (dq.map PV.str++[.str z])))[o]?=some (iI q b):=by rw [yr (yz c3)];exact B1.H
  have Jr:(s1.set a (.lst (dq.map PV.str++[.str z])))[g]?=some (.lst []):=by rw [yr c9];exact B1.G
  have q2:IsT [pk nz hd] (s1.set a (.lst (dq.map PV.str++[.str z]))) q:=B1.Q.kx (ms:=[a]) (jY (by simp)) (by simpa using c5)
  generalize s1.set a (.lst (dq.map PV.str++[.str z]))=s2 at A2 k2 a2 d2 h2 Jr q2
  have D3:=kO (pK (hz hany)) (fo:=za 3) (fi:=zf zk (za 6) (Ar 1)) (fv:=mC (.bl true)) (e:=eF o (.tup (.str nz::fr)) bits d a g (some (a6 z w as)) (some .non)) (s:=s2) rfl (zc rfl) (zj (zc rfl) rfl yw) d2 l1
  have et:cH L++[PV.bl true]=cH (L++[z]):=by simp [cH]
  rw [et] at D3
  refine ⟨_,zp (zP (zy (zF (zc rfl)) (pO (.inl ⟨_,_,_,rfl⟩)))) (zp (zV (zM (zj (zc rfl) rfl rfl))) (yB (MT hany) (zp (wI (wZ (zc rfl) B1.A (zj (zc rfl) rfl yw) A2)) D3))),AY.trans (k2.trans (jY (by simp))),λ_=>⟨?_,?_,yZ (yh d2),?_,?_,B.ne⟩,(λq=>by cases q)⟩
  ·rw [yr (yz c2)];exact h2
  ·exact q2.kx (ms:=[d]) (jY (by simp)) (by simpa using c4)
  ·rw [yr c7];exact a2
  ·rw [yr c8];exact Jr
theorem Xx {ss:An}{r:Ad}(h:d8 hd L ss r):∀{s:aa}{dq:Ad}{z6 z7:Ao},BF nz hd o q b d a g L dq s->L.length+ss.length<=1000->dq.length+ss.length<=1000->∃hG hU L' s1,forL (gN 6) bF ss (eF o (.tup (.str nz::fr)) bits d a g z6 z7) s=.ok (.nx (eF o (.tup (.str nz::fr)) bits d a g hG hU)) s1/\BF nz hd o q b d a g L' (dq++r) s1/\Kx [q,d,a] s s1:=by
 induction h with
 |nil L =>
  intro s dq z6 z7 B h1 h2
  exact ⟨_,_,L,s,rfl,by rw [List.append_nil];exact B,Kx.refl _ _⟩
 |@ed L r v ss he hr ih =>
  intro s dq z6 z7 B h1 h2
  simp at h1 h2
  have Bd:bF (eF o (.tup (.str nz::fr)) bits d a g (some v) z7) s=.ok (.nx (eF o (.tup (.str nz::fr)) bits d a g (some v) (some .non))) s:=zp (zP (zy (zF (zc rfl)) (pO (.inr he)))) (zp (zV (zM (zj (zc rfl) rfl rfl))) (zV (wQ (zM (zy (zF (zc rfl)) (W9 he))))))
  obtain ⟨hG,hU,L',s2,F,B2,k2⟩:=ih (z6:=some v) (z7:=some .non) B (by omega) (by omega)
  exact ⟨hG,hU,L',s2,wU rfl Bd F,B2,k2⟩
 |yes ha hl hany hz r ih =>
  intro s dq z6 z7 B h1 h2
  simp at h1 h2
  obtain ⟨s1,E1,k1,B1,_⟩:=Jq (nz:=nz) (fr:=fr) (bits:=bits) (z7:=z7) B ha hl (λ_=>hz) (by omega) (by omega)
  obtain ⟨hG,hU,L',s2,F,B2,k2⟩:=ih (B1 hany) (by simp;omega) (by simp;omega)
  exact ⟨hG,hU,L',s2,wU rfl E1 F,by rw [j6] at B2;exact B2,k1.trans k2⟩
 |no ha hl hany r ih =>
  intro s dq z6 z7 B h1 h2
  simp at h1 h2
  obtain ⟨s1,E1,k1,_,B1⟩:=Jq (nz:=nz) (fr:=fr) (bits:=bits) (z7:=z7) B ha hl (λq=>by rw [hany] at q;cases q) (by omega) (by omega)
  obtain ⟨hG,hU,L',s2,F,B2,k2⟩:=ih (B1 hany) (by omega) (by omega)
  exact ⟨hG,hU,L',s2,wU rfl E1 F,B2,k1.trans k2⟩
end
theorem Xy {s:aa} {o q b:Nat} (h:s[o]?=some (iI q b)):aK "bits_by_name" insOf excOf (.ref o) s=.ok (.ref b) s:=wK h (by decide +kernel) rfl
theorem Xz {nz hd:Str} {ps:Ad} {fr:An} (hl:ps.length<=1000) (st:aa):∃q b s1,bO "Holding" rX [.tup [.tup (.str nz :: .tup (ps.map PV.str)::fr)],.tup [.tup [.str nz,.str hd]]] st=.ok (.ref st.length) s1/\s1[st.length]?=some (iI q b)/\IsT [pk nz hd] s1 q/\st.length<q/\Old st s1:=by
 generalize hfv:PV.tup (.str nz :: .tup (ps.map PV.str)::fr)=fv
 let o:=st.length
 let t0:=st++[SO.ins "Holding" [] []]
 have h0:t0[o]?=some (.ins "Holding" [] []):=ym _ _
 obtain ⟨t1,E1,q1,o1⟩:=Xv (k:=pk nz hd) t0
 have lo:o<t0.length:=yh h0
 have h1:=o1 _ _ h0
 let t2:=t1.set o (.ins "Holding" ["pairs"] [.ref t0.length])
 have h2:t2[o]?=some (.ins "Holding" ["pairs"] [.ref t0.length]):=yZ (yh h1)
 have q2:IsT [pk nz hd] t2 t0.length:=q1.kx (ms:=[o]) (jY (by simp)) (by simp;omega)
 let t3:=t2++[SO.dic [] []]
 have h3:t3[o]?=some (.ins "Holding" ["pairs"] [.ref t0.length]):=zY _ _ _ _ h2
 have lb:=q2.lt
 let t4:=t3.set o (iI t0.length t2.length)
 have h4:t4[o]?=some (iI t0.length t2.length):=yZ (yh h3)
 have q4:IsT [pk nz hd] t4 t0.length:=(q2.old (zY _ _)).kx (ms:=[o]) (jY (by simp)) (by simp;omega)
 have b4:t4[t2.length]?=some (.dic [] []):=by rw [yr (by omega)];exact ym _ _
 obtain ⟨t5,E5,q5,k5,l5⟩:=Wf (f:=nz) (ps:=ps) (r:=fr) hl q4
 rw [hfv] at E5
 have i0:∀{s:aa},zk fv (.int 0) s=.ok (.str nz) s:=by subst hfv;exact yM
 have b5:=k5 _ _ (show t2.length≠t0.length by omega) b4
 have h5:=k5 _ _ (show o≠t0.length by omega) h4
 have D:=kO (pK (z:=nz) (by simp)) (fo:=(yq (aK "bits_by_name" insOf excOf) (za 0))) (fi:=(zf zk (za 3) (Ar 0))) (fv:=(zq uS (zd (za 3) (zd (yq (aK "pairs" insOf excOf) (za 0)) zh)))) (e:=[Au o,some (.tup [fv]),some (.tup [.tup [.str nz,.str hd]]),some fv]) (s:=t4) (zy (zR (zc rfl) (yX (zc rfl) (Iv h4))) E5) (yX (zc rfl) (Xy h5)) (zj (zc rfl) rfl i0) b5 (by simp)
 obtain ⟨t6,ve⟩:∃t6,t6=t5.set t2.length (SO.dic ([]++[nz]) ([]++[PV.int (bq (ps.map λp=>cw (pk nz p) [pk nz hd]))])):=⟨_,rfl⟩
 rw [<-ve] at D
 have E:rX [.ref o,.tup [fv],.tup [.tup [.str nz,.str hd]]] t0=.ok .non t6:=ml rfl (zp (w8 (zy (zF (zc rfl)) E1) (zc rfl) h1 (by decide +kernel) (by decide)) (zp (w8 (x:=.ref t2.length) (s1:=t3) rfl (zc rfl) h3 (by decide +kernel) (by decide)) (wV (zc rfl) (wU rfl D rfl))))
 refine ⟨t0.length,t2.length,t6,?_,?_,?_,lo,λm so e=>?_⟩
 ·show (rX [.ref o,.tup [fv],.tup [.tup [.str nz,.str hd]]] t0).bind _=_
  rw [E,zH]
  rfl
 ·rw [ve,yr (by omega)];exact h5
 ·rw [ve];exact q5.kx (ms:=[t2.length]) (jY (by simp)) (by simp;omega)
 ·have hm:=yh e
  rw [ve,yr (by omega)]
  refine k5 _ _ (by omega) ?_
  show (t3.set o _)[m]?=_
  rw [yr (by omega)]
  refine zY _ _ _ _ ?_
  show (t1.set o _)[m]?=_
  rw [yr (by omega)]
  exact o1 _ _ (zY _ _ _ _ e)
section
variable {nz hd:Str} {ps r:Ad} {b:Int} {l:An} {bl:PV} {s:aa} {o q bb:Nat}
theorem XB (hb:0<=b) (hp:ps.length<=6) (nd:ps.Nodup) (hB:Lb 5 bl l) (h:d8 hd (picks (bitAt b) 0 ps) l r) (hs:l.length<=900) (lr:r.length<=900) (ho:s[o]?=some (iI q bb)) (hq:IsT [pk nz hd] s q) (oq:o<q) :
  ∃s1,m_Holding_best_form [.ref o,cJ nz ps bl,.int b] s=.ok (dA nz b r) s1/\Kx [q] s s1:=by
 have pl:(picks (bitAt b) 0 ps).length<=ps.length:=wm.length_le
 have LP:=u_ (f:=.str nz) (ps:=ps) (r:=[bl]) b hb (by omega) s
 have o1:Old s (s++[SO.lst ((picks (bitAt b) 0 ps).map PV.str)]):=zY _ _
 generalize s++[SO.lst ((picks (bitAt b) 0 ps).map PV.str)]=s1 at LP o1
 obtain ⟨s2,E2,d2,o2⟩:=BI (picks (bitAt b) 0 ps) (nd.sublist wm) (by omega) s1
 let s3:=s2++[SO.lst []]
 let s4:=s3++[SO.lst []]
 have o4:Old s2 s4:=(zY _ _).trans (zY _ _)
 have ld:=yh d2
 have l1:q<s1.length:=(hq.old o1).lt
 have l3:s3.length=s2.length+1:=by simp [s3]
 have B:BF nz hd o q bb s1.length s2.length s3.length (picks (bitAt b) 0 ps) [] s4:=⟨o4 _ _ (o2 _ _ (o1 _ _ ho)),((hq.old o1).old o2).old o4,o4 _ _ d2,zY _ _ _ _ (ym _ _),ym _ _,by omega⟩
 obtain ⟨z6,z7,L',s5,F,B5,k5⟩:=Xx (nz:=nz) (fr:=[.tup (ps.map PV.str),bl]) (bits:=b) (z6:=none) (z7:=none) h B (by omega) (by simp;omega)
 refine ⟨s5,zX rfl (zp (zP (zy (zF (zy (zR (zc rfl) (zc rfl)) LP)) E2)) (zp (zP (wJ jO (by simp))) (zp (zP (wJ jO (by simp))) (zp (wV (zy (zF (zj (zc rfl) rfl jP)) (su hB hs s4)) F) (zT (ya (jI (zj (zc rfl) rfl yM) (zc rfl) (zy (zF (zc rfl)) (by rw [jS,yv B5.A];rfl)) (zy (zF (zc rfl)) (by rw [jS,yv B5.G]))) (by simp))))))),λm so h e=>?_⟩
 have e1:=o1 _ _ e
 have l:=yh e1
 exact k5 _ _ (by simp at h ⊢;omega) (o4 _ _ (o2 _ _ e1))
def XC (h:Lb 5 bl l) (hl:l.length<=900) (s:aa):∃r s1,rZ [cJ nz ps bl,.tup []] s=.ok (.ref r) s1/\s1[r]?=some (.lst [])/\Old s s1:=by
 obtain ⟨s1,E,o1⟩:=BX h hl s
 refine ⟨s1.length,s1++[.lst []],zX rfl (zT ?_),ym _ _,o1.trans (zY _ _)⟩
 rw [RM]
 show (Res.bind (Res.bind _ _) _)=_
 rw [zR (zy (zF (zj (zc rfl) rfl jP)) E) (zc rfl),zH]
 rfl
abbrev cB:Aj:=yT
abbrev tB:Ak:=(mB (zf jX (zq yH (zd (za 7) zh)) (zq yH (zd (za 5) zh))))
abbrev bB:Aj:=(zt (zQ 8 (zf (av zk) (za 5) (zq yH (zd (za 7) zh))))
  (zt (zQ 9 (zf (av zk) (za 3) (zf (av zk) (za 8) (Ar 0))))
  (zt (zQ 10 (yV "best_form" uT (za 4) (zd (za 9) (zd (zf (av zk) (za 8) (Ar 1)) zh))))
  (zt (je (jr jp (za 7) (za 10)))
  (jq (yA (zq rZ (zd (za 9) (zd (zf (av zk) (za 10) (Ar 3)) zh)))) (gN 11)
  cB)))))
theorem XD (hb:0<=b) (hp:ps.length<=6) (nd:ps.Nodup) (hB:Lb 5 bl l) (h:d8 hd (picks (bitAt b) 0 ps) l r) (hs:l.length<=900) (lr:r.length<=900) (s:aa) :
  ∃s1,uU [.tup [cJ nz ps bl],.int b,.tup [.tup [.str nz,.str hd]]] s=.ok (.tup [dA nz b r]) s1/\Old s s1:=by
 let s1:=s++[SO.dic [nz] [cJ nz ps bl]]
 have o1:Old s s1:=zY _ _
 have f1:s1[s.length]?=some (.dic [nz] [cJ nz ps bl]):=ym _ _
 obtain ⟨q,bb,s2,E2,H2,Q2,oq,o2⟩:=Xz (nz:=nz) (hd:=hd) (ps:=ps) (fr:=[bl]) (by omega) s1
 let s3:=s2++[SO.lst [.tup [.str nz,.int b]]]
 have o3:Old s2 s3:=zY _ _
 have m3:s3[s2.length]?=some (.lst [df [.inr nz,.inl b]]):=ym _ _
 obtain ⟨s4,E4,q4,o4⟩:=Io m3
 let s5:=s4++[SO.lst []]
 have o5:Old s4 s5:=zY _ _
 have g5:s5[s4.length]?=some (.lst []):=ym _ _
 have sx:=o3.trans (o4.trans o5)
 have l1:=yh f1
 have lq:=Q2.lt
 have l3:=yh m3
 have m5:=o5 _ _ (o4 _ _ m3)
 have l4:=yh (o4 _ _ m3)
 obtain ⟨s6,E6,k6⟩:=XB (nz:=nz) hb hp nd hB h hs lr (sx _ _ H2) (Q2.old sx) oq
 have g6:=k6 _ _ (by simp;omega) g5
 let s7:=s6.set s4.length (.lst ([]++[dA nz b r]))
 have g7:s7[s4.length]?=some (.lst [dA nz b r]):=yZ (yh g6)
 obtain ⟨rr,s8,E8,r8,o8⟩:=XC (nz:=nz) (ps:=ps) hB hs s7
 have g8:=o8 _ _ g7
 have m6:=k6 _ _ (by simp;omega) m5
 have m7:s7[s2.length]?=some (.lst [df [.inr nz,.inl b]]):=by show (s6.set _ _)[s2.length]?=_;rw [yr (by omega)];exact m6
 have m8:=o8 _ _ m7
 have f5:=sx _ _ (o2 _ _ f1)
 have I9:av zk (.ref s.length) (.str nz) s5=.ok (cJ nz ps bl) s5:=nR f5 (by simp)
 have FO:(jq (yA (zq rZ (zd (za 9) (zd (zf (av zk) (za 10) (Ar 3)) zh)))) (gN 11) cB) [some (.tup [cJ nz ps bl]),some (.int b),some (.tup [.tup [.str nz,.str hd]]),Au s.length,Au s1.length,Au s2.length,Au s3.length,Au s4.length,some (df [.inr nz,.inl b]),some (cJ nz ps bl),some (dA nz b r),none] s7=.ok (.nx _) s8:=Wh (zy (zR (zc rfl) (zj (zc rfl) rfl We)) E8) r8 (by unfold forR;rw [yv r8];rfl)
 have B:bB [some (.tup [cJ nz ps bl]),some (.int b),some (.tup [.tup [.str nz,.str hd]]),Au s.length,Au s1.length,Au s2.length,Au s3.length,Au s4.length,none,none,none,none] s5=.ok (.nx _) s8:=zp (zP (zj (zc rfl) (zy (zF (zc rfl)) (bo g5)) (Ja (i:=0) m5 rfl))) (zp (zP (zj (zc rfl) (zj (zc rfl) rfl w4) I9)) (zp (zP (Iw (zc rfl) (sx _ _ H2) (by decide +kernel) (zw rfl) (zR (zc rfl) (zj (zc rfl) rfl pJ)) E6)) (zp (wI (wZ (zc rfl) g6 (zc rfl) (iH g6 (by simp)))) FO)))
 have W:bX tB bB 1000000 [some (.tup [cJ nz ps bl]),some (.int b),some (.tup [.tup [.str nz,.str hd]]),Au s.length,Au s1.length,Au s2.length,Au s3.length,Au s4.length,none,none,none,none] s5=.ok (.nx _) s8:=vc (n:=999999) (zM (zj (zy (zF (zc rfl)) (bo g5)) (zy (zF (zc rfl)) (bo m5)) (f7 true (by simp) _))) B (BV 999998 (zM (zj (zy (zF (zc rfl)) (bo g8)) (zy (zF (zc rfl)) (bo m8)) (f7 false (by simp) _))))
 refine ⟨s8,zX rfl (zp (zP (zy (zF (zc rfl)) (B0 s))) (zp (zP (zy (zR (zc rfl) (zc rfl)) E2)) (zp (zP (wJ (zF (ya (zR (zj (zj (zc rfl) rfl w4) rfl w4) (zc rfl)) (by simp))) (by simp))) (zp (zP (zy (zF (zc rfl)) E4)) (zp (zP (wJ jO (by simp))) (zp W (zT (zy (zF (zc rfl)) (by rw [jS,yv g8]))))))))),λm so e=>?_⟩
 have hm:=yh e
 refine o8 _ _ ?_
 show (s6.set _ _)[m]?=_
 rw [yr (by omega)]
 exact k6 _ _ (by simp;omega) (sx _ _ (o2 _ _ (o1 _ _ e)))
end
def XE {s:aa}{d:Nat}{ks:Ad}{xs:An}{z:Str}{b:Bool}(h:s[d]?=some (.dic ks xs)) (hb:((ks.zip xs).lookup z).isSome=b):yI true (.str z) (.ref d) s=.ok (.bl (!b)) s:=by
 simp [yI,h,hb]
def sy (LL:Ad) (v:PV):Prop:=∃z w as,v=a6 z w as/\(∀a∈as,gZ a)/\as.length<=1000/\(as.any (aR LL)=true->z∈LL)
section
variable {LL:Ad} {d:Nat} {s:aa} {v a:PV}
def XF (h:sy LL v) (hd:s[d]?=some (.dic LL (cH LL))):∃s1,rH [v,.ref d] s=.ok .non s1/\Old s s1:=by
 obtain ⟨z,w,as,rfl,ha,hl,hz⟩:=h
 have N:=Ii ha hl (L:=LL) (.inl ⟨_,hd,by simp⟩:mj LL s d)
 have o1:Old s (s++[SO.lst ((as.map (aR LL)).map PV.bl)]):=zY _ _
 have B:decide (bq (as.map (aR LL))≠0)=as.any (aR LL):=by rw [Ih,List.any_map];rfl
 have T:(mB (zf j9 (zq nJ (zd (zq nL (zd (za 0) zh)) (zd (za 1) zh))) (Ar 0))) [some (a6 z w as),Au d] s=.ok (as.any (aR LL)) (s++[SO.lst ((as.map (aR LL)).map PV.bl)]):=zM (zj (zy (zR (zy (zF (zc rfl)) Jh) (zc rfl)) N) rfl (by rw [Iy,B]))
 have X:(j0 (mB (zf zZ (zf zk (za 0) (Ar 0)) (As "let"))) (j0 (mB (zf j9 (zq nJ (zd (zq nL (zd (za 0) zh)) (zd (za 1) zh))) (Ar 0))) (mB (zf (yI true) (zf zk (za 0) (Ar 1)) (za 1))))) [some (a6 z w as),Au d] s=.ok false (s++[SO.lst ((as.map (aR LL)).map PV.bl)]):=by
  refine ky (q0 rfl (dF _)) ?_
  cases hany:as.any (aR LL) with
  |false=>rw [hany] at T;exact wQ T
  |true =>
   rw [hany] at T
   have I:=XE (z:=z) (b:=true) (o1 _ _ hd) (by rw [BC (by simp)];exact jk (hz hany))
   exact ky T (zM (zj (zj (zc rfl) rfl yw) (zc rfl) I))
 exact ⟨_,zX rfl (zp (zV X) (zp (zV (wQ (q0 rfl (a9 n1 _)))) (zT rfl))),o1⟩
def XG (h:Ed v):rH [v,.ref d] s=.ok .non s:=by
 cases h with
 |give a=>exact zX rfl (zp (zV (wQ (q0 rfl (a9 VW _)))) (zp (zV (wQ (q0 rfl (a9 n3 _)))) (zT rfl)))
 |fail w=>exact zX rfl (zp (zV (wQ (q0 rfl (a9 VX _)))) (zp (zV (wQ (q0 rfl (a9 n5 _)))) (zT rfl)))
 |ite a x y=>exact zX rfl (zp (zV (wQ (q0 rfl (a9 VY _)))) (zp (zV (wQ (q0 rfl (a9 n8 _)))) (zT rfl)))
end
abbrev bN:Aj:=(zt (zQ 6 (zq rH (zd (za 5) (zd (za 3) zh))))
  (zt (zW (mB (zf jT (za 6) (mC .non)))
  yT
  z0)
  (zt (zQ 7 (zq l_ (zd (za 5) zh)))
  (zW (mB (zf jT (za 7) (mC .non)))
  (zt yT
  (zt (zW (mB (zf jT (za 6) (mC .non)))
  yT
  z0)
  (qJ 4 kj (Ar 1))))
  z0))))
section
variable {nz:Str} {ps r:Ad} {b:Int} {l:An} {bl:PV}
theorem XH (hb:0<=b) (hp:ps.length<=6) (nd:(picks (bitAt b) 0 ps++r).Nodup) (hB:Lb 5 bl l) (h:∀v∈l,Ed v\/sy (picks (bitAt b) 0 ps++r) v) (hs:l.length<=900) (lr:r.length<=900) (q:Nat) (s:aa):∃s1,Bj [cJ nz ps bl,dA nz b r,.ref q] s=.ok .non s1/\Old s s1:=by
 have pl:(picks (bitAt b) 0 ps).length<=ps.length:=wm.length_le
 have LP:=u_ (f:=.str nz) (ps:=ps) (r:=[bl]) b hb (by omega) s
 have o1:Old s (s++[SO.lst ((picks (bitAt b) 0 ps).map PV.str)]):=zY _ _
 generalize s++[SO.lst ((picks (bitAt b) 0 ps).map PV.str)]=s1 at LP o1
 obtain ⟨s2,E2,d2,o2⟩:=BI (picks (bitAt b) 0 ps++r) nd (by simp;omega) s1
 rw [wW] at E2
 obtain ⟨e',s3,F,⟨z5,z6,z7,he⟩,o3⟩:=dO (g:=gN 5) (body:=bN) l (λi e s=>(∃z5 z6 z7,e=[some (cJ nz ps bl),some (dA nz b r),Au q,Au s1.length,some (.int 0),z5,z6,z7])/\Old s2 s) (λi x e s hx ⟨⟨z5,z6,z7,he⟩,o⟩=>by
  subst he
  have hm:=kW hx
  have d:=o _ _ d2
  rcases h x hm with m|m
  ·exact ⟨_,_,s,rfl,zp (zP (zy (zR (zc rfl) (zc rfl)) (XG m))) (zp (zV (zM (zj (zc rfl) rfl rfl))) (zp (zP (zy (zF (zc rfl)) (pO (.inr m)))) (zV (zM (zj (zc rfl) rfl rfl))))),⟨_,_,_,rfl⟩,o⟩
  ·obtain ⟨s',E,o'⟩:=XF m d
   obtain ⟨z,w,as,rfl,_⟩:=m
   exact ⟨_,_,s',rfl,zp (zP (zy (zR (zc rfl) (zc rfl)) E)) (zp (zV (zM (zj (zc rfl) rfl rfl))) (zp (zP (zy (zF (zc rfl)) (pO (.inl ⟨_,_,_,rfl⟩)))) (zV (zM (zj (zc rfl) rfl rfl))))),⟨_,_,_,rfl⟩,o.trans o'⟩) l.length 0 [some (cJ nz ps bl),some (dA nz b r),Au q,Au s1.length,some (.int 0),none,none,none] s2 (by omega) ⟨⟨none,none,none,rfl⟩,Old.refl _⟩
 subst he
 rw [List.drop_zero] at F
 exact ⟨s3,zX rfl (zp (zP (zy (zF (zj (zy (zR (zc rfl) (zj (zc rfl) rfl yw)) LP) (zj (zc rfl) rfl jP) (nQ (by simp;omega)))) E2)) (zp (zP rfl) (zp (wV (zy (zF (zj (zc rfl) rfl jP)) (su hB hs s2)) F) (zT rfl)))),o1.trans (o2.trans o3)⟩
def XI (hb:0<=b) (hp:ps.length<=6) (nd:(picks (bitAt b) 0 ps++r).Nodup) (hB:Lb 5 bl l) (h:∀v∈l,Ed v\/sy (picks (bitAt b) 0 ps++r) v) (hs:l.length<=900) (lr:r.length<=900) (s:aa):∃s1,rJ [.tup [cJ nz ps bl],.tup [dA nz b r]] s=.ok .non s1/\Old s s1:=by
 let s1:=s++[SO.dic [nz] [cJ nz ps bl]]
 have o1:Old s s1:=zY _ _
 have C:=Je (e:=[some (.tup [cJ nz ps bl]),some (.tup [dA nz b r]),Au s.length,none,none,none]) (src:=za 1) (fe:=zU (zd (zf zk (za 0) (Ar 0)) (zd (zf zk (za 0) (Ar 1)) zh))) (f:=λ_=>df [.inr nz,.inl b]) (s:=s1) (s1:=s1) (xs:=[dA nz b r]) (zc rfl) (by simp) (λx hx=>by rw [jv.mp hx];exact ya (zR (zj (zc rfl) rfl yM) (zj (zc rfl) rfl yw)) (by simp))
 obtain ⟨s3,E3,q3,o3⟩:=Io (k:=[.inr nz,.inl b]) (st:=s1++[SO.lst [df [.inr nz,.inl b]]]) (r:=s1.length) (ym _ _)
 have Js:Old s1 s3:=(zY _ _).trans o3
 obtain ⟨s4,E4,o4⟩:=XH (nz:=nz) hb hp nd hB h hs lr (s1++[SO.lst [df [.inr nz,.inl b]]]).length s3
 have I:zk (.ref s.length) (.str nz) s3=.ok (cJ nz ps bl) s3:=nR (Js _ _ (ym _ _)) (by simp)
 exact ⟨s4,zX rfl (zp (zP (zy (zF (zc rfl)) (B0 s))) (zp (zP (zy (zF C) E3)) (zp (wV (zc rfl) (wU rfl (zp (zP (zy (wj (zj (zc rfl) (zj (zc rfl) rfl yM) I) (zc rfl) (zc rfl)) E4)) (zV (zM (zj (zc rfl) rfl rfl)))) rfl)) (zT rfl)))),o1.trans (Js.trans o4)⟩
end
abbrev Bd (i:Int):Prop := -1000000000000000000<i/\i<1000000000000000000
theorem Jt {i j q r:Int}(hj:1<=j) (e:j*q+r=i) (h0:0<=r) (h1:r<j) (h:Bd i):Bd q:=by
 constructor
 ·rcases (by omega : -1000000000000000000<q\/q <= -1000000000000000000) with z|z
  ·exact z
  ·have:=Int.mul_le_mul_of_nonpos_right hj (show q+1<=0 by omega)
   rw [Int.mul_add,Int.mul_one,Int.one_mul] at this
   have:=h.1
   omega
 ·rcases (by omega:q<1000000000000000000\/1000000000000000000<=q) with z|z
  ·exact z
  ·have:=Int.mul_le_mul_of_nonneg_right hj (show 0<=q by omega)
   rw [Int.one_mul] at this
   have:=h.2
   omega
theorem XJ (n m:Int) (h:0<m):0<=jG n m/\jG n m<m/\y0 n m*m+jG n m=n:=by
 unfold jG y0
 rw [zw h,zw h]
 refine ⟨Int.emod_nonneg _ (by omega),Int.emod_lt_of_pos _ h,?_⟩
 rw [Int.mul_comm]
 exact Int.mul_ediv_add_emod n m
theorem XM (n m:Int) (h:m<0):m<jG n m/\jG n m<=0/\y0 n m*m+jG n m=n:=by
 have e:y0 n m*m+jG n m=n:=by
  rw [tV,EG,Int.mul_comm]
  exact Int.mul_fdiv_add_fmod n m
 refine ⟨?_,?_,e⟩
 ·rw [tV,Int.fmod_eq_emod]
  have h1:=Int.emod_nonneg n (show m≠0 by omega)
  split
  ·omega
  ·rename_i hd
   have:n%m≠0:=λz=>hd (.inr (Int.dvd_of_emod_eq_zero z))
   omega
 ·rw [tV,Int.fmod_eq_emod]
  have h2:n%m < -m:=by
   have:=Int.emod_lt_of_pos n (show 0 < -m by omega)
   rwa [Int.emod_neg] at this
  split
  ·rename_i hd
   rcases hd with hd|hd
   ·omega
   ·rw [Int.emod_eq_zero_of_dvd hd];omega
  ·omega
theorem XQ {i j:Int}(h:Bd i) (hj:j≠0):Bd (y0 i j):=by
 rcases (by omega:j<0\/0<j) with hn|hp
 ·obtain ⟨m1,m2,e⟩:=XM i j hn
  exact Jt (i := -i) (j := -j) (q:=y0 i j) (r := -(jG i j)) (by omega) (by rw [Int.neg_mul,Int.mul_comm];omega) (by omega) (by omega) ⟨by have:=h.2;omega,by have:=h.1;omega⟩
 ·obtain ⟨m1,m2,e⟩:=XJ i j hp
  exact Jt (i:=i) (j:=j) (q:=y0 i j) (r:=jG i j) (by omega) (by rw [Int.mul_comm];exact e) m1 m2 h
section
variable {st:aa} {xs:An}
variable {r n:Nat} {e:zb}
def iJ {α:Type}(x:α) (r:List α):cN (x::r) 0=some x:=bJ (k:=0) rfl
def kQ {α:Type}(x y:α) (r:List α):cN (x::y::r) 1=some y:=bJ (k:=1) rfl
def i3:insOf "Op" = true:=by simp [insOf]
def Ju (n:Int) (st:aa):ma [.int n] st=.ok (.str "number") st:=by
 have e:∀t,j7 isT [.int n,.ty t] st=fZ (iu "int" t) st:=λ_=>rfl
 have t1:iu "int" "str" = some false:=rfl
 have t2:iu "int" "tuple" = some false:=rfl
 have t3:iu "int" "dict" = some false:=rfl
 simp [ma,zK,Hy,Hx,Hw,Hv,e,t1,t2,t3,fZ]
def XS (n:Int) (st:aa):uK [.int n] st=.ok (.ref st.length) (st++[.lst []]):=by
 have e:∀t,j7 isT [.int n,.ty t] st=fZ (iu "int" t) st:=λ_=>rfl
 have t2:iu "int" "tuple" = some false:=rfl
 have t3:iu "int" "dict" = some false:=rfl
 simp [uK,zK,HI,HH,HG,e,t2,t3,fZ]
def XT (n:Int) (st:aa):Bu [.int n] st=.ok (.ref st.length) (st++[.lst [.int n],.lst []]):=by
 let t0:=st++[SO.lst [.int n]]
 have h0:t0[st.length]?=some (.lst [.int n]):=ym _ _
 let t1:=t0++[SO.lst []]
 have h1:t1[st.length]?=some (.lst [.int n]):=zY _ _ _ _ h0
 have X:=VZ h1 (show t1[t0.length]?=some (.lst []) from ym _ _) (by simp)
 rw [List.append_nil,sf h1] at X
 have I0:zk (.ref st.length) (.int 0) t0=.ok (.int n) t0:=by
  show yu t0 st.length _=_
  rw [yv h0]
  rfl
 have et:t1=st++[.lst [.int n],.lst []]:=by simp [t1,t0]
 have L0:yH [.ref st.length] t0=.ok (.int 1) t0:=bo h0
 have L1:yH [.ref st.length] t1=.ok (.int 1) t1:=bo h1
 rw [<-et]
 exact zX rfl (zp (zP (wJ (zF (zc rfl)) (by simp))) (zp (zP rfl) (zp (vc (n:=999999) (zM (zj (zc rfl) (zy (zF (zc rfl)) L0) (f7 true (by decide) _))) (zp (wI (wZ (zc rfl) h0 (zy (zF (zj (zc rfl) (zc rfl) I0)) (XS n t0)) X)) rfl) (BV 999998 (zM (zj (zc rfl) (zy (zF (zc rfl)) L1) (f7 false (by decide) _))))) (zT (zc rfl)))))
def XU (n:Int) (st:aa):Bv [.int n] st=.ok (.int 1) (st++[.lst [.int n],.lst []]):=by
 have L:yH [.ref st.length] (st++[.lst [.int n],.lst []])=.ok (.int 1) (st++[.lst [.int n],.lst []]):=bo (xs:=[.int n]) (by simp)
 exact zX rfl (zT (zy (zF (zy (zF (zc rfl)) (XT n st))) L))
end
def B3 (x y:Int) (st:aa):wg [.tup [.str "number", .str "number"],.tup [.int x,.int y]] st=.ok .non st:=by
 simp [wg,zK,uH,wA,forL,Ju]
def XW (x:Int) (st:aa):wg [.tup [.str "number"],.tup [.int x]] st=.ok .non st:=by
 simp [wg,zK,uH,wA,forL,Ju]
theorem Jv (n:Int) (h:n.natAbs<10 ^ 18) (st:aa):mh [.int n] st=.ok (.int n) st:=by
 have h1:(-1000000000000000000:Int)<n:=by omega
 have h2:n<(1000000000000000000:Int):=by omega
 simp [mh,zK,uJ,HF,rS,uI,h1,h2]
theorem Jw (n:Int) (h:¬n.natAbs<10 ^ 18) (st:aa):mh [.int n] st=.err "Fault" ["word"] [.str "wide"] st:=by
 by_cases h1:(-1000000000000000000:Int)<n
 ·have h2:¬n<(1000000000000000000:Int):=by omega
  simp [mh,zK,uJ,rS,uI,h1,h2]
 ·simp [mh,zK,uJ,rS,uI,h1]
def nb (b:Bool):Int:=if b then 1 else 0
def XX (b:Bool) (st:aa):Bs [.bl b] st=.ok (.int (nb b)) st:=by
 cases b<;>kernel_rfl
def mw (n:Int):Sum Int Str:=if n.natAbs<10 ^ 18 then .inl n else .inr "wide"
def kR (w:Str) (xs:An):Sum Int Str->Prop
 |.inl n=>g9 w xs (.int n)
 |.inr z=>g_ w xs z
def kS (m:Al) (xs:An):Sum Int Str->Prop
 |.inl n=>∀st,m [.tup xs] st=.ok (.int n) st
 |.inr z=>∀st,m [.tup xs] st=.err "Fault" ["word"] [.str z] st
def sA {w f:Str}{ks:Ad}{m:Al}{xs:An}{r:Sum Int Str}(ho:∀st,j4 [.str w] st=.ok (.ref st.length) (st++[f9 w ks.length])) (hl:(js.zip ju).lookup w=some (.tup [.tup (ks.map PV.str),.fn f])) (ht:kM f=some m) (hc:∀st,wg [.tup (ks.map PV.str),.tup xs] st=.ok .non st) (h:kS m xs r):kR w xs r:=by
 generalize hK:PV.tup (ks.map PV.str)=K1 at hl hc
 cases r with
 |inl n =>
  refine ⟨_,ho,λs o h'=>⟨s++[.lst [.int n],.lst []],?_,zY _ _⟩⟩
  have h:∀st,m [.tup xs] st=.ok (.int n) st:=h
  simp [m_Op_answer,zK,uM,Bx,Bw,HK,HJ,o_ h',i3,yL,hl,iJ,kQ,hc,ht,h,XU]
 |inr z =>
  refine ⟨_,ho,λs o h'=>⟨s,?_,Old.refl _⟩⟩
  have h:∀st,m [.tup xs] st=.err "Fault" ["word"] [.str z] st:=h
  simp [m_Op_answer,zK,uM,Bx,Bw,o_ h',i3,yL,hl,iJ,kQ,hc,ht,h]
def B4 (st:aa):j4 [.str "div"] st=.ok (.ref st.length) (st++[f9 "div" 2]):=by
 simp [j4,zK,pF,pE,gU,js,ju,bO,nM,pD,pB,jc,insOf,Mi.putK,cN,fH,yL]
def Jx (st:aa):j4 [.str "down"] st=.ok (.ref st.length) (st++[f9 "down" 1]):=by
 simp [j4,zK,pF,pE,gU,js,ju,bO,nM,pD,pB,jc,insOf,Mi.putK,cN,fH,yL]
def fO (st:aa):j4 [.str "add"] st=.ok (.ref st.length) (st++[f9 "add" 2]):=by
 simp [j4,zK,pF,pE,gU,js,ju,bO,nM,pD,pB,jc,insOf,Mi.putK,cN,fH,yL]
def fP (st:aa):j4 [.str "mul"] st=.ok (.ref st.length) (st++[f9 "mul" 2]):=by
 simp [j4,zK,pF,pE,gU,js,ju,bO,nM,pD,pB,jc,insOf,Mi.putK,cN,fH,yL]
def XY (st:aa):j4 [.str "same"] st=.ok (.ref st.length) (st++[f9 "same" 2]):=by
 simp [j4,zK,pF,pE,gU,js,ju,bO,nM,pD,pB,jc,insOf,Mi.putK,cN,fH,yL]
def tb {m:Al} {xs:An} (n:Int) (h1:n.natAbs<10 ^ 18->∀st,m [.tup xs] st=.ok (.int n) st) (h2:¬n.natAbs<10 ^ 18->∀st,m [.tup xs] st=.err "Fault" ["word"] [.str "wide"] st):kS m xs (mw n):=by
 unfold mw
 by_cases h:n.natAbs<10 ^ 18
 ·rw [zw h];exact h1 h
 ·rw [zI h];exact h2 h
inductive Vl:PV->Prop
 |num (n:Int):n.natAbs<10 ^ 18->Vl (.int n)
 |low:Vl (.str "low")
def dB:Nat->Str
 |0 => "div"
 |1 => "down"
 |2 => "add"
 |3 => "mul"
 |_ => "same"
def e_:PV->PV->Bool
 |.int i,.int j=>i==j
 |.str a,.str b=>a==b
 |_,_=>false
def tv:Nat->PV->PV->Sum Int Str
 |0,.int x,.int y=>if y=0 then .inr "nought" else .inl (y0 x y)
 |1,.int x,_=>if x<1 then .inr "low" else .inl (x-1)
 |2,.int x,.int y=>mw (x+y)
 |3,.int x,.int y=>mw (x*y)
 |4,x,y=>.inl (nb (e_ x y))
 |_,_,_=>.inr "kind"
def arg (k:Nat) (a b:PV):An:=if k=1 then [a] else [a,b]
def Jy {x y:PV}(hx:Vl x) (hy:Vl y) (st:aa):zZ x y st=.ok (.bl (e_ x y)) st:=by
 cases hx with
 |num i _ =>
  cases hy with
  |num j _=>exact (rq i j).trans (by rw [show e_ (.int i) (.int j)=decide (i=j) from rfl])
  |low=>simp [zZ,Mi.plain,dep,bu,e_]
 |low =>
  cases hy with
  |num j _=>simp [zZ,Mi.plain,dep,bu,e_]
  |low=>exact dF st
def B6 {w f:Str} {ks:Ad} {xs:An} (ho:∀st,j4 [.str w] st=.ok (.ref st.length) (st++[f9 w ks.length])) (hl:(js.zip ju).lookup w=some (.tup [.tup (ks.map PV.str),.fn f])) (hc:∀st,wg [.tup (ks.map PV.str),.tup xs] st=.err "Fault" ["word"] [.str "kind"] st):kR w xs (.inr "kind"):=by
 generalize hK:PV.tup (ks.map PV.str)=K1 at hl hc
 refine ⟨_,ho,λs o h'=>⟨s,?_,Old.refl _⟩⟩
 simp [m_Op_answer,zK,uM,o_ h',i3,yL,hl,iJ,kQ,hc]
def XZ (x:Int) (z:Str) (st:aa):wg [.tup [.str "number", .str "number"],.tup [.int x,.str z]] st=.err "Fault" ["word"] [.str "kind"] st:=by kernel_rfl
def X0 (y:PV) (z:Str) (st:aa):wg [.tup [.str "number", .str "number"],.tup [.str z,y]] st=.err "Fault" ["word"] [.str "kind"] st:=by kernel_rfl
def X4 (x y:PV) (st:aa):wg [.tup [.str "any", .str "any"],.tup [x,y]] st=.ok .non st:=by
 simp [wg,zK,uH,wA,forL]
def pR {w f:Str} {x y:PV} (hx:Vl x) (hy:Vl y) (h:¬((∃i,x=.int i)/\∃j,y=.int j)) (ho:∀st,j4 [.str w] st=.ok (.ref st.length) (st++[f9 w 2])) (hl:(js.zip ju).lookup w=some (.tup [.tup [.str "number", .str "number"],.fn f])):kR w [x,y] (.inr "kind"):=by
 cases hx with
 |num i _ =>
  cases hy with
  |num j _=>exact absurd ⟨⟨i,rfl⟩,⟨j,rfl⟩⟩ h
  |low=>exact B6 (f:=f) (ks:=["number", "number"]) ho hl (XZ i _)
 |low=>exact B6 (f:=f) (ks:=["number", "number"]) ho hl (X0 y _)
def X5 {x y:PV} (hx:Vl x) (hy:Vl y):kR "same" [x,y] (.inl (nb (e_ x y))) :=
 sA (f := "tell_same") (ks:=["any", "any"]) (m:=Bt) XY (by simp [js,ju,yL]) (by simp [kM]) (X4 x y) λst=>zX rfl (zT (zy (zF (zj (zj (zc rfl) rfl yM) (zj (zc rfl) rfl yw) (Jy hx hy st))) (XX _ _)))
theorem X6 {k:Nat}(hk:k<5) {x y:PV}(hx:Vl x) (hy:Vl y):kR (dB k) (arg k x y) (tv k x y):=by
 match k with
 |0 =>
  have L:(js.zip ju).lookup ("div" : Str)=some (.tup [.tup [.str "number", .str "number"],.fn "tell_div"]):=by simp [js,ju,yL]
  show kR "div" [x,y] _
  cases hx with
  |low=>exact pR .low hy (λq=>by obtain ⟨⟨_,q⟩,_⟩:=q;cases q) B4 L
  |num i bi =>
   cases hy with
   |low=>exact pR (.num i bi) .low (λq=>by obtain ⟨_,⟨_,q⟩⟩:=q;cases q) B4 L
   |num j bj =>
    refine sA (f := "tell_div") (ks:=["number", "number"]) (m:=rQ) B4 L (by simp [kM]) (B3 i j) ?_
    show kS _ _ (if j=0 then .inr "nought" else .inl (y0 i j))
    by_cases h:j=0
    ·rw [zw h];exact λst=>by simp [rQ,zK,Bo,kQ,h]
    ·rw [zI h]
     have hb:j.natAbs<2 ^ 200:=by omega
     exact λst=>by simp [rQ,zK,Bo,HD,iJ,kQ,h,tU];omega
 |1 =>
  show kR "down" [x] _
  cases hx with
  |low=>exact B6 (f := "tell_down") (ks:=["number"]) Jx (by simp [js,ju,yL]) (Ji _)
  |num i bi =>
   refine sA (f := "tell_down") (ks:=["number"]) (m:=rR) Jx (by simp [js,ju,yL]) (by simp [kM]) (XW i) ?_
   show kS _ _ (if i<1 then .inr "low" else .inl (i-1))
   by_cases h:i<1
   ·rw [zw h];exact λst=>by simp [rR,zK,Bp,iJ,h]
   ·rw [zI h];exact λst=>by simp [rR,zK,Bp,HE,iJ,h]
 |2 =>
  have L:(js.zip ju).lookup ("add" : Str)=some (.tup [.tup [.str "number", .str "number"],.fn "tell_add"]):=by simp [js,ju,yL]
  show kR "add" [x,y] _
  cases hx with
  |low=>exact pR .low hy (λq=>by obtain ⟨⟨_,q⟩,_⟩:=q;cases q) fO L
  |num i bi =>
   cases hy with
   |low=>exact pR (.num i bi) .low (λq=>by obtain ⟨_,⟨_,q⟩⟩:=q;cases q) fO L
   |num j bj=>exact sA (f := "tell_add") (ks:=["number", "number"]) (m:=rT) fO L (by simp [kM]) (B3 i j) (tb _ (λh st=>by simp [rT,zK,Bq,iJ,kQ,Jv _ h]) (λh st=>by simp [rT,zK,Bq,iJ,kQ,Jw _ h]))
 |3 =>
  have L:(js.zip ju).lookup ("mul" : Str)=some (.tup [.tup [.str "number", .str "number"],.fn "tell_mul"]):=by simp [js,ju,yL]
  show kR "mul" [x,y] _
  cases hx with
  |low=>exact pR .low hy (λq=>by obtain ⟨⟨_,q⟩,_⟩:=q;cases q) fP L
  |num i bi =>
   cases hy with
   |low=>exact pR (.num i bi) .low (λq=>by obtain ⟨_,⟨_,q⟩⟩:=q;cases q) fP L
   |num j bj =>
    have cm:cY i j=true:=by simp only [cY,Bool.or_eq_true,jZ,iS];exact .inl ⟨by omega,by omega⟩
    exact sA (f := "tell_mul") (ks:=["number", "number"]) (m:=rV) fP L (by simp [kM]) (B3 i j) (tb _ (λh st=>by simp [rV,zK,Br,iJ,kQ,cm,Jv _ h]) (λh st=>by simp [rV,zK,Br,iJ,kQ,cm,Jw _ h]))
 |4=>exact X5 hx hy
 |k+5=>omega
theorem X7 {k:Nat}{x y:PV}(hx:Vl x) (hy:Vl y) {n:Int}(h:tv k x y=.inl n):n.natAbs<10 ^ 18:=by
 have bb:∀{m:Int},mw m=.inl n->n.natAbs<10 ^ 18:=λ{m} q=>by
  unfold mw at q
  split at q
  ·cases q;assumption
  ·cases q
 match k with
 |0 =>
  cases hx with
  |low=>cases h
  |num i bi =>
   cases hy with
   |low=>cases h
   |num j bj =>
    have h:(if j=0 then .inr "nought" else .inl (y0 i j))=(.inl n:Sum Int Str):=h
    split at h
    ·cases h
    ·rename_i q
     cases h
     have:=XQ (i:=i) (j:=j) ⟨by omega,by omega⟩ q
     omega
 |1 =>
  cases hx with
  |low=>cases h
  |num i bi =>
   have h:(if i<1 then .inr "low" else .inl (i-1))=(.inl n:Sum Int Str):=h
   split at h
   ·cases h
   ·cases h;omega
 |2 =>
  cases hx with
  |low=>cases h
  |num i bi =>
   cases hy with
   |low=>cases h
   |num j bj=>exact bb h
 |3 =>
  cases hx with
  |low=>cases h
  |num i bi =>
   cases hy with
   |low=>cases h
   |num j bj=>exact bb h
 |4 =>
  have h:Sum.inl (nb (e_ x y))=(Sum.inl n:Sum Int Str):=by cases hx<;>cases hy<;>exact h
  cases h
  unfold nb
  split<;>decide
 |k+5=>cases hx<;>cases hy<;>cases h
inductive At where
 |is (n:Int)|of (w:Str)
def At.v:At->PV
 |.is n=>dG (.int n)
 |.of z=>g0 z
structure St where
 z:Str
 k:Nat
 a:At
 b:At
abbrev St.as (t:St):An:=arg t.k t.a.v t.b.v
def St.v (s:St):PV:=a6 s.z (dB s.k) s.as
inductive Bk where
 |give (ss:List St) (a:At)
 |fail (ss:List St) (w:Str)
 |ite (ss:List St) (a:At) (x y:Bk)
def Bk.v:Bk->PV
 |.give ss a=>bC (ss.map St.v) (cV a.v)
 |.fail ss w=>bC (ss.map St.v) (bA w)
 |.ite ss a x y=>bC (ss.map St.v) (cI a.v x.v y.v)
def Bk.ln:Bk->An
 |.give ss a=>ss.map St.v++[cV a.v]
 |.fail ss w=>ss.map St.v++[bA w]
 |.ite ss a x y=>ss.map St.v++[cI a.v x.v y.v]++x.ln++y.ln
def Bk.st:Bk->List St
 |.give ss _=>ss
 |.fail ss _=>ss
 |.ite ss _ x y=>ss++x.st++y.st
def Bk.dp:Bk->Nat
 |.give _ _=>1
 |.fail _ _=>1
 |.ite _ _ x y=>max x.dp y.dp+1
def lets (ss:List St):∀v∈ss.map St.v,gp v:=λv hv=>by
 obtain ⟨t,_,rfl⟩:=wq.mp hv
 exact ⟨_,_,_,rfl⟩
theorem vf:∀(b:Bk) {n:Nat},b.dp<=n->Lb n b.v b.ln
 |.give ss a,n+1,_=>.give n _ _ (lets ss)
 |.fail ss w,n+1,_=>.fail n _ _ (lets ss)
 |.ite ss a x y,n+1,h=>.ite (lets ss) (vf x (by simp [Bk.dp] at h;omega)) (vf y (by simp [Bk.dp] at h;omega))
 |.give _ _,0,h=>by simp [Bk.dp] at h
 |.fail _ _,0,h=>by simp [Bk.dp] at h
 |.ite _ _ _ _,0,h=>by simp [Bk.dp] at h
def Jz {n:Nat}(h:n<10 ^ 18):(n:Int).natAbs.log2<60:=by
 have h1:n<2 ^ 60:=Nat.lt_trans h (by decide)
 rw [Int.natAbs_natCast]
 by_cases hz:n=0
 ·rw [hz];decide
 ·exact (Nat.log2_lt hz).mpr h1
def kT (n:Nat):Str:=Str.ofString (toString (n:Int))
def B7 {i j:Nat}(h:kT i=kT j):i=j:=by
 unfold kT at h
 have h:=(QX _ _).mp h
 have h:Nat.repr i=Nat.repr j:=h
 exact Nat.repr_injective h
def JA {n:Nat}(h:n<10 ^ 18):(kT n).length<=61:=by
 have e:=int_text_length_le (a:=(n:Int)) (k:=60) (by decide) (Jz h)
 unfold kT
 rw [ofString_length]
 omega
def B8 {n:Nat}(h:n<10 ^ 18) (st:aa):wY [.int (n:Int)] st=.ok (.str (kT n)) st:=by
 rw [FQ,zw (Nat.lt_trans (Jz h) (by decide))];rfl
def sN (i:Nat):Str := "s" ++ kT i
def B9 {a:Str}{x y:Str}(h:a++x=a++y):x=y:=by
 have:=congrArg (λz:Str=>z.cps.toList) h
 simp only [PySem.Str.cps_append,Array.toList_append] at this
 have:=List.append_cancel_left this
 rw [<-r6 x,<-r6 y,this]
def vg {i j:Nat}(h:sN i=sN j):i=j:=B7 (B9 h)
def WA (N:Ad):At->Prop
 |.is n=>n.natAbs<10 ^ 18
 |.of w=>w∈N
inductive WS:List Str->Nat->List St->List Str->Nat->Prop
 |nil (N:Ad) (c:Nat):WS N c [] N c
 |cons {N N':Ad} {c c':Nat} {t:St} {ss:List St}:WA N t.a->WA N t.b->t.k<5->t.z=sN (c+1)->WS (N++[t.z]) (c+1) ss N' c'->WS N c (t::ss) N' c'
inductive WB:List Str->Nat->Bk->Nat->Prop
 |give {N N':Ad} {c c':Nat} {ss:List St} {a:At}:WS N c ss N' c'->WA N' a->WB N c (.give ss a) c'
 |fail {N N':Ad} {c c':Nat} {ss:List St} {w:Str}:WS N c ss N' c'->WB N c (.fail ss w) c'
 |ite {N N':Ad} {c c1 c2 c':Nat} {ss:List St} {a:At} {x y:Bk}:WS N c ss N' c1->WA N' a->WB N' c1 x c2->WB N' c2 y c'->WB N c (.ite ss a x y) c'
def bY (P:Ad) (c:Nat) (L:Ad):Prop:=∀z∈L,z∈P\/∃i,i<=c/\z=sN i
def cf (c c':Nat) (L:Ad):Prop:=∀z∈L,∃i,c<i/\i<=c'/\z=sN i
def mx (P:Ad):Prop:=∀i,sN i∉P
theorem WS.le {N N':Ad}{c c':Nat}{ss:List St}(h:WS N c ss N' c'):c'=c+ss.length/\N'.length=N.length+ss.length:=by
 induction h with
 |nil=>simp
 |cons _ _ _ _ _ ih=>simp at ih ⊢;omega
theorem WB.le {N:Ad}{c c':Nat}{b:Bk}(h:WB N c b c'):c'=c+b.st.length:=by
 induction h with
 |give w _=>exact w.le.1
 |fail w=>exact w.le.1
 |ite w _ _ _ i1 i2=>have:=w.le.1;simp [Bk.st];omega
theorem WS.up {P N N':Ad}{c c':Nat}{ss:List St}(h:WS N c ss N' c'):bY P c N->bY P c' N':=by
 induction h with
 |nil=>exact id
 |@cons N N' c c' t ss _ _ _ hz _ ih =>
  intro u
  refine ih λz hm=>?_
  rcases yU.mp hm with q|q
  ·rcases u z q with q|⟨i,hi,q⟩
   ·exact .inl q
   ·exact .inr ⟨i,by omega,q⟩
  ·exact .inr ⟨c+1,yo _,by rw [jv.mp q,hz]⟩
theorem bY.mono {P L:Ad}{c c':Nat}(h:bY P c L) (hc:c<=c'):bY P c' L:=λz hm=>by
 rcases h z hm with q|⟨i,hi,q⟩
 ·exact .inl q
 ·exact .inr ⟨i,by omega,q⟩
def bY.app {P L r:Ad}{c c':Nat}(h:bY P c L) (hr:cf c c' r) (hc:c<=c'):bY P c' (L++r):=λz hm=>by
 rcases yU.mp hm with q|q
 ·exact h.mono hc z q
 ·obtain ⟨i,_,h2,e⟩:=hr z q
  exact .inr ⟨i,h2,e⟩
theorem pS {P L:Ad}{c i:Nat}(hP:mx P) (h:bY P c L) (hi:c<i):sN i∉L:=λq=>by
 rcases h _ q with q|⟨j,hj,q⟩
 ·exact hP i q
 ·have:=vg q;omega
theorem pU {c c' i:Nat}{r:Ad}(h:cf c c' r) (hi:i<=c\/c'<i):sN i∉r:=λq=>by
 obtain ⟨j,h1,h2,e⟩:=h _ q
 have:=vg e
 omega
def X8 {P:Ad}(hP:mx P) {c c':Nat}{r:Ad}(h:cf c c' r) {z:Str}(hz:z∈P):z∉r:=λq=>by
 obtain ⟨j,_,_,e⟩:=h _ q
 rw [e] at hz
 exact hP j hz
def JB {N L L':Ad}{a:At}(ha:WA N a) (h:∀z∈N,z∈L'↔z∈L):aR L' a.v=aR L a.v:=by
 cases a with
 |is n=>simp [At.v,dG,aR]
 |of w =>
  show aR L' (.tup [.str "of", .str w])=aR L (.tup [.str "of", .str w])
  rw [sd,sd]
  exact decide_eq_decide.mpr (h w ha)
def JC {hd:Str}{N L L':Ad}{t:St}(h1:WA N t.a) (h2:WA N t.b) (h:∀z∈N,z∈L'↔z∈L):lw hd L' t.z t.as=lw hd L t.z t.as:=by
 have e1:=JB h1 h
 have e2:=JB h2 h
 unfold lw St.as arg
 split
 ·simp only [List.any_cons,List.any_nil,e1]
 ·simp only [List.any_cons,List.any_nil,e1,e2]
def B_ (a:At):gZ a.v:=by
 cases a with
 |is n=>exact .is _
 |of w=>exact .of _
def nX (t:St):(∀a∈t.as,gZ a)/\t.as.length<=1000:=by
 unfold St.as arg
 split
 ·exact ⟨λa h=>by rw [jv.mp h];exact B_ _,by simp⟩
 ·refine ⟨λa h=>?_,by simp⟩
  rcases yE.mp h with q|q
  ·rw [q];exact B_ _
  ·rw [jv.mp q];exact B_ _
def Ca {hd:Str}{L r r':Ad}{l l':An}(h:d8 hd L l r):d8 hd (L++r) l' r'->d8 hd L (l++l') (r++r'):=by
 induction h with
 |nil L=>intro h';rw [List.append_nil] at h';exact h'
 |ed he _ ih=>exact λh'=>.ed he (ih h')
 |yes a b c d _ ih=>exact λh'=>.yes a b c d (ih (by rw [j6];exact h'))
 |no a b c _ ih=>exact λh'=>.no a b c (ih h')
theorem Cb {hd:Str}{P N N':Ad}(hP:mx P) {c c':Nat}{ss:List St}(h:WS N c ss N' c'):∀{L:Ad},bY P c N->bY P c L->∃r,d8 hd L (ss.map St.v) r/\cf c c' r/\∀rest,(∃d,cf c' d rest)->∀t∈ss,lw hd (L++r++rest) t.z t.as=decide (t.z∈r):=by
 induction h with
 |nil N c=>exact λ{L} _ _=>⟨[],.nil _,(λ_ h=>nomatch h),(λ_ _ _ h=>nomatch h)⟩
 |@cons N N' c c' t ss h1 h2 h3 h4 hr ih =>
  intro L uN uL
  have le:=hr.le.1
  have gq:bY P (c+1) (N++[t.z]):=uN.app (c':=c+1) (r:=[t.z]) (λz hm=>⟨c+1,by omega,by omega,by rw [jv.mp hm,h4]⟩) (by omega)
  have zL:t.z∉L:=by rw [h4];exact pS hP uL (by omega)
  have same:∀{r' rest:Ad} {d:Nat},cf c d (r'++rest)->∀z∈N,z∈L++(r'++rest)↔z∈L:=λ{r' rest d} hp z hz=>by
   constructor
   ·intro q
    rcases yU.mp q with q|q
    ·exact q
    ·obtain ⟨i,i1,_,e⟩:=hp z q
     rcases uN z hz with u|⟨j,hj,u⟩
     ·rw [e] at u;exact absurd u (hP i)
     ·have:=vg (e.symm.trans u);omega
   ·exact λq=>jC _ q
  cases hl:lw hd L t.z t.as with
  |true =>
   obtain ⟨r,l,p,H⟩:=ih (L:=L++[t.z]) gq (uL.app (c':=c+1) (r:=[t.z]) (λz hm=>⟨c+1,by omega,by omega,by rw [jv.mp hm,h4]⟩) (by omega))
   have pr:cf c c' (t.z::r):=λz hm=>by
    rcases yE.mp hm with q|q
    ·exact ⟨c+1,by omega,by omega,by rw [q,h4]⟩
    ·obtain ⟨i,a,b,e⟩:=p z q
     exact ⟨i,by omega,b,e⟩
   refine ⟨t.z::r,.yes (nX t).1 (nX t).2 hl zL l,pr,λrest ⟨d,cW⟩ u hu=>?_⟩
   have sC:cf c (max c' d) (t.z::r++rest):=λz hm=>by
    rcases yU.mp hm with q|q
    ·obtain ⟨i,a,b,e⟩:=pr z q;exact ⟨i,a,by omega,e⟩
    ·obtain ⟨i,a,b,e⟩:=cW z q;exact ⟨i,by omega,by omega,e⟩
   rcases yE.mp hu with q|q
   ·subst q
    rw [j6,JC h1 h2 (same sC),hl]
    simp
   ·have e:=H rest ⟨d,cW⟩ u q
    rw [show L++t.z::r++rest=L++[t.z]++r++rest by simp,e]
    refine decide_eq_decide.mpr ⟨λq=>jg _ q,λq'=>?_⟩
    rcases yE.mp q' with q'|q'
    ·exfalso
     have:∀{N N':Ad} {c c':Nat} {ss:List St},WS N c ss N' c'->∀u∈ss,∃i,c<i/\u.z=sN i:=by
      intro N N' c c' ss w
      induction w with
      |nil=>exact λ_ h=>nomatch h
      |cons _ _ _ hz _ ih =>
       intro u hu
       rcases yE.mp hu with q|q
       ·exact ⟨_,jW _,by rw [q,hz]⟩
       ·obtain ⟨i,a,b⟩:=ih u q;exact ⟨i,by omega,b⟩
     obtain ⟨i,a,b⟩:=this hr u q
     rw [b,h4] at q'
     have:=vg q'
     omega
    ·exact q'
  |false =>
   obtain ⟨r,l,p,H⟩:=ih (L:=L) gq (uL.mono (by omega))
   have pr:cf c c' r:=λz hm=>by
    obtain ⟨i,a,b,e⟩:=p z hm
    exact ⟨i,by omega,b,e⟩
   refine ⟨r,.no (nX t).1 (nX t).2 hl l,pr,λrest ⟨d,cW⟩ u hu=>?_⟩
   have sC:cf c (max c' d) (r++rest):=λz hm=>by
    rcases yU.mp hm with q|q
    ·obtain ⟨i,a,b,e⟩:=pr z q;exact ⟨i,a,by omega,e⟩
    ·obtain ⟨i,a,b,e⟩:=cW z q;exact ⟨i,by omega,by omega,e⟩
   rcases yE.mp hu with q|q
   ·subst q
    rw [j6,JC h1 h2 (same sC),hl,h4]
    exact (yP (pU p (.inl (yo _)))).symm
   ·exact H rest ⟨d,cW⟩ u q
def Cd {hd:Str}{L r:Ad}{l:An}{e:PV}(h:d8 hd L l r) (he:Ed e):d8 hd L (l++[e]) r:=by
 have:=Ca (r':=[]) h (.ed he (.nil _))
 rw [List.append_nil] at this
 exact this
theorem cf.mono {c c' d d':Nat}{r:Ad}(h:cf c c' r) (h1:d<=c) (h2:c'<=d'):cf d d' r:=λz hm=>by
 obtain ⟨i,a,b,e⟩:=h z hm
 exact ⟨i,by omega,by omega,e⟩
def cf.app {c c' c2:Nat}{r r':Ad}(h:cf c c' r) (h':cf c' c2 r') (h1:c<=c') (h2:c'<=c2):cf c c2 (r++r'):=λz hm=>by
 rcases yU.mp hm with q|q
 ·exact h.mono (yo _) h2 z q
 ·exact h'.mono h1 (yo _) z q
theorem WS.ix {N N':Ad}{c c':Nat}{ss:List St}(w:WS N c ss N' c'):∀u∈ss,∃i,c<i/\i<=c'/\u.z=sN i:=by
 induction w with
 |nil=>exact λ_ h=>nomatch h
 |cons _ _ _ hz w ih =>
  intro u hu
  have:=w.le.1
  rcases yE.mp hu with q|q
  ·exact ⟨_,jW _,by omega,by rw [q,hz]⟩
  ·obtain ⟨i,a,b,d⟩:=ih u q;exact ⟨i,by omega,b,d⟩
theorem WB.ix {N:Ad}{c c':Nat}{b:Bk}(w:WB N c b c'):∀u∈b.st,∃i,c<i/\i<=c'/\u.z=sN i:=by
 induction w with
 |give w _=>exact w.ix
 |fail w=>exact w.ix
 |ite w _ w1 w2 i1 i2 =>
  intro u hu
  have:=w.le.1
  have:=w1.le
  have:=w2.le
  rcases yU.mp hu with q|q
  ·rcases yU.mp q with q|q
   ·obtain ⟨i,a,b,d⟩:=w.ix u q;exact ⟨i,by omega,by omega,d⟩
   ·obtain ⟨i,a,b,d⟩:=i1 u q;exact ⟨i,by omega,by omega,d⟩
  ·obtain ⟨i,a,b,d⟩:=i2 u q;exact ⟨i,by omega,by omega,d⟩
theorem X9 {hd:Str}{P N:Ad}(hP:mx P) {c c':Nat}{b:Bk}(h:WB N c b c'):∀{L:Ad},bY P c N->bY P c L->∃r,d8 hd L b.ln r/\cf c c' r/\∀rest,(∃d,cf c' d rest)->∀t∈b.st,lw hd (L++r++rest) t.z t.as=decide (t.z∈r):=by
 induction h with
 |give w _ =>
  intro L uN uL
  obtain ⟨r,l,p,H⟩:=Cb hP w uN uL
  exact ⟨r,Cd l (.give _),p,H⟩
 |fail w =>
  intro L uN uL
  obtain ⟨r,l,p,H⟩:=Cb hP w uN uL
  exact ⟨r,Cd l (.fail _),p,H⟩
 |@ite N N' c c1 c2 c' ss a x y w _ w1 w2 i1 i2 =>
  intro L uN uL
  have e1:=w.le.1
  have e2:=w1.le
  have e3:=w2.le
  obtain ⟨r,l,p,H⟩:=Cb (hd:=hd) hP w uN uL
  have gq:=w.up uN
  obtain ⟨r1,l1,p1,H1⟩:=i1 (L:=L++r) gq (uL.app p (by omega))
  obtain ⟨r2,l2,p2,H2⟩:=i2 (L:=L++r++r1) (gq.mono (by omega)) ((uL.app p (by omega)).app p1 (by omega))
  have JD:cf c1 c' (r1++r2):=p1.app p2 (by omega) (by omega)
  refine ⟨r++r1++r2,?_,(p.app p1 (by omega) (by omega)).app p2 (by omega) (by omega),λrest ⟨d,cW⟩ t ht=>?_⟩
  ·show d8 hd L (ss.map St.v++[cI a.v x.v y.v]++x.ln++y.ln) _
   exact Ca (Ca (Cd l (.ite _ _ _)) l1) (by rw [<-j6];exact l2)
  ·have pr:cf c' (max c' d) rest:=cW.mono (yo _) (by omega)
   have X_:L++(r++r1++r2)++rest=L++r++(r1++r2++rest):=by simp
   have Ya:L++(r++r1++r2)++rest=L++r++r1++(r2++rest):=by simp
   have Yb:L++(r++r1++r2)++rest=L++r++r1++r2++rest:=by simp
   rcases yU.mp ht with q|q
   ·rcases yU.mp q with q|q
    ·obtain ⟨i,a1,a2,e⟩:=w.ix t q
     rw [X_,H _ ⟨_,JD.app pr (by omega) (by omega)⟩ t q]
     refine decide_eq_decide.mpr ⟨λq=>jC _ (jC _ q),λq=>?_⟩
     rw [j6] at q
     rcases yU.mp q with q|q
     ·exact q
     ·rw [e] at q;exact absurd q (pU JD (.inl a2))
    ·obtain ⟨i,a1,a2,e⟩:=w1.ix t q
     rw [Ya,H1 _ ⟨_,p2.app pr (by omega) (by omega)⟩ t q]
     refine decide_eq_decide.mpr ⟨λq=>jC _ (yR _ q),λq=>?_⟩
     rcases yU.mp q with q|q
     ·rcases yU.mp q with q|q
      ·rw [e] at q;exact absurd q (pU p (.inr a1))
      ·exact q
     ·rw [e] at q;exact absurd q (pU p2 (.inl a2))
   ·obtain ⟨i,a1,a2,e⟩:=w2.ix t q
    rw [Yb,H2 _ ⟨_,pr⟩ t q]
    refine decide_eq_decide.mpr ⟨λq=>yR _ q,λq=>?_⟩
    rcases yU.mp q with q|q
    ·rcases yU.mp q with q|q
     ·rw [e] at q;exact absurd q (pU p (.inr (by omega)))
     ·rw [e] at q;exact absurd q (pU p1 (.inr a1))
    ·exact q
section
variable {s:aa} {x y:PV} {n:Nat}
def gr {n k:Nat}{xs:An}{v:PV}(h:s[n]?=some (.lst xs)) (hk:xs[k]?=some v):zk (.ref n) (.int (k:Int)) s=.ok v s:=by
 show yu s n _=_
 rw [yv h,bJ hk]
 rfl
def fg:Sum Int Str->PV
 |.inl m=>.tup [.non,.int m]
 |.inr q=>.tup [.str q,.non]
def kU:PV->Bool
 |.int _=>true
 |_=>false
def Ce (h:Vl x) (s:aa):j7 isT [x,.ty "int"] s=.ok (.bl (kU x)) s:=by
 cases h with
 |num n _=>kernel_rfl
 |low=>kernel_rfl
theorem allI {vs:An} (hv:∀v∈vs,Vl v) (hl:vs.length<=2) {e:zb} (h0:e[1]?=some (Au n)) (h:s[n]?=some (.lst vs)):∃s1,(mB (zq AR (zd (yW (yA (za 1)) (zq (j7 isT) (zd (za 0) (zd (mC (.ty "int")) zh)))) zh))) e s=.ok (vs.all kU) s1/\Old s s1:=by
 have C:=sj (e:=e) (src:=za 1) (fe:=(zq (j7 isT) (zd (za 0) (zd (mC (.ty "int")) zh)))) (Y:=vs.map λv=>.bl (kU v)) (s:=s) (zc h0) h (by omega) (by simp) (λi x y hx hy=>by
  rw [y3,hx] at hy
  cases hy
  exact zy (zR (zc rfl) rfl) (Ce (hv x (kW hx)) s))
 refine ⟨s++[SO.lst (vs.map λv=>.bl (kU v))],zM (zy (zF C) ?_),zY _ _⟩
 have B:∀l:An,cP (l.map λv=>PV.bl (kU v))=some (l.map kU):=λl=>by
  induction l with
  |nil=>rfl
  |cons a l ih=>rw [yK,cP,ih];rfl
 show (yu _ _ _).bind _=_
 rw [yv (ym _ _),zH]
 show yu _ _ _=_
 rw [yv (ym _ _),B]
 simp [List.all_map]
def Cf (st:aa):iq (.int 10) (.int 18) st=.ok (.int 1000000000000000000) st:=by
 have cp:dS 10 18=true:=by decide
 have pw:((10:Int) ^ (18:Int).toNat)=1000000000000000000:=by decide
 show (if dS 10 18=true then Res.ok (PV.int (10 ^ (18:Int).toNat)) st else .stuck)=_
 rw [zw cp,pw]
theorem JE {w:Str}{r:Nat}(m:Int) (s:aa):Ho [some (.str w),Au r,some (.int m)] s=.ok (.rt (fg (mw m))) s:=by
 have AB:pf [.int m] s=.ok (.int (if m<0 then -m else m)) s:=RU _ _
 have T:∀b,decide ((if m<0 then -m else m)<(1000000000000000000:Int))=b->(mB (zf jX (zq pf (zd (za 2) zh)) (zf iq (Ar 10) (Ar 18)))) [some (.str w),Au r,some (.int m)] s=.ok b s:=λb h=>zM (zj (zy (zF (zc rfl)) AB) (zj rfl rfl (Cf _)) (f7 b h _))
 unfold mw
 by_cases h:m.natAbs<10 ^ 18
 ·rw [zw h]
  exact yJ (yB (T true (jk (by split<;>omega))) (zT (ya (zR rfl (zc rfl)) (by simp))))
 ·rw [zI h]
  exact zp (zV (T false (yP (by split<;>omega)))) (zT (ya (zR rfl rfl) (by simp)))
def sD {k:Nat}(hx:Vl x) (hy:Vl y):(∀v∈arg k x y,Vl v)/\(arg k x y).length<=2:=by
 unfold arg
 split
 ·exact ⟨λv h=>by rw [jv.mp h];exact hx,by simp⟩
 ·refine ⟨λv h=>?_,by simp⟩
  rcases yE.mp h with q|q
  ·rw [q];exact hx
  ·rw [jv.mp q];exact hy
def sE {k:Nat}(hk:k<5) (hx:Vl x) (hy:Vl y) (h:s[n]?=some (.lst (arg k x y))) (hi:(arg k x y).all kU=true\/k=4):∃s1,Old s s1/\∀{X:Res Fl},Hq [some (.str (dB k)),Au n,none] s1=X->Hr [some (.str (dB k)),Au n,none] s=X:=by
 obtain ⟨s1,A,o1⟩:=allI (e:=[some (.str (dB k)),Au n,none]) (sD hx hy).1 (sD hx hy).2 rfl h
 refine ⟨s1,o1,λhX=>zp (zV ?_) hX⟩
 cases ha:(arg k x y).all kU with
 |true=>rw [ha] at A;exact wQ (ph A)
 |false =>
  rw [ha] at A hi
  rcases hi with q|q
  ·cases q
  ·subst q
   exact ky (ph A) (zM (zj (zc rfl) rfl ((F7 _ _).trans (by simp [dB]))))
def nY {k:Nat} (hk:k<4) (hx:Vl x) (hy:Vl y) (h:s[n]?=some (.lst (arg k x y))) (hi:(arg k x y).all kU=false) (hn:dB k ≠ "same"):∃s1,l9 [.str (dB k),.ref n] s=.ok (fg (.inr "kind")) s1/\Old s s1:=by
 obtain ⟨s1,A,o1⟩:=allI (e:=[some (.str (dB k)),Au n,none]) (sD hx hy).1 (sD hx hy).2 rfl h
 rw [hi] at A
 exact ⟨s1,zX rfl (yJ (yB (ky (ph A) (zM (zj (zc rfl) rfl ((F7 _ _).trans (by simp [hn]))))) (zT (ya (zR rfl rfl) (by simp))))),o1⟩
theorem Yc {k:Nat}(hk:k<5) (hx:Vl x) (hy:Vl y) (h:s[n]?=some (.lst (arg k x y))):∃s1,l9 [.str (dB k),.ref n] s=.ok (fg (tv k x y)) s1/\Old s s1:=by
 have ne1:∀{a b:Str},decide (a=b)=false->a≠b:=λh=>of_decide_eq_false h
 match k,hk with
 |4,_ =>
  obtain ⟨s1,o1,G⟩:=sE (k:=4) (by omega) hx hy h (.inr rfl)
  have h1:=o1 _ _ h
  have e:fg (tv 4 x y)=.tup [.non,.int (nb (e_ x y))]:=by cases hx<;>cases hy<;>rfl
  rw [e]
  exact ⟨s1,zX rfl (G (yJ (yB (zM (zj (zc rfl) rfl (dF _))) (zT (ya (zR rfl (zy (zF (zj (zj (zc rfl) rfl (gr (k:=0) h1 rfl)) (zj (zc rfl) rfl (gr (k:=1) h1 rfl)) (Jy hx hy _))) (Fi _))) (by simp)))))),o1⟩
 |1,_ =>
  cases hx with
  |low=>exact nY (k:=1) (by omega) .low hy h rfl (by decide +kernel)
  |num i bi =>
   obtain ⟨s1,o1,G⟩:=sE (k:=1) (by omega) (.num i bi) hy h (.inl rfl)
   have h1:=o1 _ _ h
   have I0:zk (.ref n) (.int 0) s1=.ok (.int i) s1:=gr (k:=0) h1 rfl
   have n1:("down" : Str) ≠ "same" := by decide +kernel
   show ∃s1,l9 [.str "down", .ref n] s=.ok (fg (if i<1 then .inr "low" else .inl (i-1))) s1/\Old s s1
   by_cases q:i<1
   ·rw [zw q]
    exact ⟨s1,zX rfl (G (zp (zV (zM (zj (zc rfl) rfl (a9 n1 _)))) (yJ (yB (zM (zj (zc rfl) rfl (dF _))) (yJ (yB (zM (zj (zj (zc rfl) rfl I0) rfl (f7 true (by simp [q]) _))) (zT (ya (zR rfl rfl) (by simp))))))))),o1⟩
   ·rw [zI q]
    exact ⟨s1,zX rfl (G (zp (zV (zM (zj (zc rfl) rfl (a9 n1 _)))) (yJ (yB (zM (zj (zc rfl) rfl (dF _))) (zp (zV (zM (zj (zj (zc rfl) rfl I0) rfl (f7 false (by simp [q]) _)))) (zT (ya (zR rfl (zj (zj (zc rfl) rfl I0) rfl (ro _ _))) (by simp)))))))),o1⟩
 |0,_ =>
  cases hx with
  |low=>exact nY (k:=0) (by omega) .low hy h rfl (by decide +kernel)
  |num i bi =>
   cases hy with
   |low=>exact nY (k:=0) (by omega) (.num i bi) .low h rfl (by decide +kernel)
   |num j bj =>
    obtain ⟨s1,o1,G⟩:=sE (k:=0) (by omega) (.num i bi) (.num j bj) h (.inl rfl)
    have h1:=o1 _ _ h
    have I0:zk (.ref n) (.int 0) s1=.ok (.int i) s1:=gr (k:=0) h1 rfl
    have I1:zk (.ref n) (.int 1) s1=.ok (.int j) s1:=gr (k:=1) h1 rfl
    have n1:("div" : Str) ≠ "same" := by decide +kernel
    have n2:("div" : Str) ≠ "down" := by decide +kernel
    show ∃s1,l9 [.str "div", .ref n] s=.ok (fg (if j=0 then .inr "nought" else .inl (y0 i j))) s1/\Old s s1
    by_cases q:j=0
    ·rw [zw q]
     exact ⟨s1,zX rfl (G (zp (zV (zM (zj (zc rfl) rfl (a9 n1 _)))) (zp (zV (zM (zj (zc rfl) rfl (a9 n2 _)))) (yJ (yB (zM (zj (zc rfl) rfl (dF _))) (yJ (yB (zM (zj (zj (zc rfl) rfl I1) rfl (dW true (by simp [q]) _))) (zT (ya (zR rfl rfl) (by simp)))))))))),o1⟩
    ·rw [zI q]
     exact ⟨s1,zX rfl (G (zp (zV (zM (zj (zc rfl) rfl (a9 n1 _)))) (zp (zV (zM (zj (zc rfl) rfl (a9 n2 _)))) (yJ (yB (zM (zj (zc rfl) rfl (dF _))) (zp (zV (zM (zj (zj (zc rfl) rfl I1) rfl (dW false (by simp [q]) _)))) (zT (ya (zR rfl (zj (zj (zc rfl) rfl I0) (zj (zc rfl) rfl I1) (iC _ _ q (by omega)))) (by simp))))))))),o1⟩
 |2,_ =>
  cases hx with
  |low=>exact nY (k:=2) (by omega) .low hy h rfl (by decide +kernel)
  |num i bi =>
   cases hy with
   |low=>exact nY (k:=2) (by omega) (.num i bi) .low h rfl (by decide +kernel)
   |num j bj =>
    obtain ⟨s1,o1,G⟩:=sE (k:=2) (by omega) (.num i bi) (.num j bj) h (.inl rfl)
    have h1:=o1 _ _ h
    have I0:zk (.ref n) (.int 0) s1=.ok (.int i) s1:=gr (k:=0) h1 rfl
    have I1:zk (.ref n) (.int 1) s1=.ok (.int j) s1:=gr (k:=1) h1 rfl
    have cm:cY i j=true:=by simp only [cY,Bool.or_eq_true,jZ,iS];exact .inl ⟨by omega,by omega⟩
    have n1:("add" : Str) ≠ "same" := by decide +kernel
    have n2:("add" : Str) ≠ "down" := by decide +kernel
    have n3:("add" : Str) ≠ "div" := by decide +kernel
    exact ⟨s1,zX rfl (G (zp (zV (zM (zj (zc rfl) rfl (a9 n1 _)))) (zp (zV (zM (zj (zc rfl) rfl (a9 n2 _)))) (zp (zV (zM (zj (zc rfl) rfl (a9 n3 _)))) (zp (zP (zj (zj (zc rfl) rfl I0) (zj (zc rfl) rfl I1) (nH _ _ cm))) (zp (yB (zM (zj (zc rfl) rfl (dF _))) (zP (zj (zj (zc rfl) rfl I0) (zj (zc rfl) rfl I1) (kA _ _)))) (JE _ _))))))),o1⟩
 |3,_ =>
  cases hx with
  |low=>exact nY (k:=3) (by omega) .low hy h rfl (by decide +kernel)
  |num i bi =>
   cases hy with
   |low=>exact nY (k:=3) (by omega) (.num i bi) .low h rfl (by decide +kernel)
   |num j bj =>
    obtain ⟨s1,o1,G⟩:=sE (k:=3) (by omega) (.num i bi) (.num j bj) h (.inl rfl)
    have h1:=o1 _ _ h
    have I0:zk (.ref n) (.int 0) s1=.ok (.int i) s1:=gr (k:=0) h1 rfl
    have I1:zk (.ref n) (.int 1) s1=.ok (.int j) s1:=gr (k:=1) h1 rfl
    have cm:cY i j=true:=by simp only [cY,Bool.or_eq_true,jZ,iS];exact .inl ⟨by omega,by omega⟩
    have n1:("mul" : Str) ≠ "same" := by decide +kernel
    have n2:("mul" : Str) ≠ "down" := by decide +kernel
    have n3:("mul" : Str) ≠ "div" := by decide +kernel
    have n4:("mul" : Str) ≠ "add" := by decide +kernel
    exact ⟨s1,zX rfl (G (zp (zV (zM (zj (zc rfl) rfl (a9 n1 _)))) (zp (zV (zM (zj (zc rfl) rfl (a9 n2 _)))) (zp (zV (zM (zj (zc rfl) rfl (a9 n3 _)))) (zp (zP (zj (zj (zc rfl) rfl I0) (zj (zc rfl) rfl I1) (nH _ _ cm))) (zp (zV (zM (zj (zc rfl) rfl (a9 n4 _)))) (JE _ _))))))),o1⟩
 |k+5,h=>omega
end
inductive bU:Nat->PV->Prop
 |int (n:Nat) (i:Int):bU n (.int i)
 |str (n:Nat) (z:Str):bU n (.str z)
 |tup (n:Nat) (xs:An):(∀x∈xs,bU n x)->bU (n+1) (.tup xs)
theorem bU.le:∀{n:Nat}{x:PV},bU n x->∀{m:Nat},n<=m->bU m x
 |_,_,.int _ i,m,_=>.int m i
 |_,_,.str _ z,m,_=>.str m z
 |_,_,.tup n xs h,m+1,hm=>.tup m xs λx hx=>(h x hx).le (by omega)
 |_,_,.tup n xs h,0,hm=>by omega
theorem JF {n:Nat}:∀{xs:An},(∀x∈xs,Mi.plain x=true/\dep x<=n/\bu x x=true)->bI xs=true/\dz xs<=n/\eR xs xs=true
 |[],_=>⟨rfl,by simp [dz],by rw [eR]⟩
 |x::xs,h=>by
  obtain ⟨a,b,c⟩:=h x (ja ..)
  obtain ⟨a',b',c'⟩:=JF λy hy=>h y (jg _ hy)
  exact ⟨by rw [bI,a,a'];rfl,by rw [dz];omega,by rw [eR,c,c'];rfl⟩
theorem JG:∀{n:Nat}{x:PV},bU n x->Mi.plain x=true/\dep x<=n/\bu x x=true
 |n,_,.int _ i=>⟨rfl,by simp [dep],by simp [bu]⟩
 |n,_,.str _ z=>⟨rfl,by simp [dep],by simp [bu]⟩
 |n+1,_,.tup _ xs h=>by
  obtain ⟨a,b,c⟩:=JF (n:=n) λx hx=>JG (h x hx)
  exact ⟨by rw [Mi.plain];exact a,by rw [dep];omega,by rw [bu];exact c⟩
theorem Yd {n:Nat}{x:PV}(h:bU n x) (hn:n<=100) (s:aa):zZ x x s=.ok (.bl true) s:=by
 obtain ⟨a,b,c⟩:=JG h
 unfold zZ
 rw [zw ⟨a,a,by omega⟩,c]
def jU {P:PV->Prop}:∀x∈([]:An),P x:=λ_ h=>nomatch h
def a_ {P:PV->Prop}{a:PV}{xs:An}(h:P a) (h':∀x∈xs,P x):∀x∈a::xs,P x:=λx hx=>by
 rcases yE.mp hx with q|q
 ·rw [q];exact h
 ·exact h' x q
def JH {v:PV}(h:Vl v) (n:Nat):bU n v:=by cases h<;>constructor
def Cg {b:PV}(h:(∃z,b=g0 z)\/∃v,Vl v/\b=dG v):bU 1 b:=by
 rcases h with ⟨z,rfl⟩|⟨v,hv,rfl⟩
 ·exact .tup _ _ (a_ (.str _ _) (a_ (.str _ _) jU))
 ·exact .tup _ _ (a_ (.str _ _) (a_ (JH hv _) jU))
def Ye {z w:Str}{bs:An}(h:∀b∈bs,(∃z,b=g0 z)\/∃v,Vl v/\b=dG v):bU 3 (a6 z w bs):=.tup _ _ (a_ (.str _ _) (a_ (.str _ _) (a_ (.str _ _) (a_ (.tup _ _ λb hb=>Cg (h b hb)) jU))))
abbrev Dt:=List (Str×PV)
abbrev dD (D:Dt):SO:=.dic (D.map (·.1)) (D.map (·.2))
theorem sF (z:Str):∀D:Dt,((D.map (·.1)).zip (D.map (·.2))).lookup z=D.lookup z
 |[]=>rfl
 | (y,v)::D=>by
  rw [yK,yK,List.zip_cons_cons,yL,yL]
  cases z==y with
  |true=>rfl
  |false=>exact sF z D
theorem Ci {e:zb}{s s1:aa}{fe src:Ai}{xs Y:An}(hs:src e s=.ok (.tup xs) s1) (hl:xs.length<=1000) (hy:xs.length=Y.length) (h:∀(i:Nat) x y,xs[i]?=some x->Y[i]?=some y->fe (some x::e) s1=.ok y s1):yW (yA src) fe e s=.ok (.ref s1.length) (s1++[.lst Y]):=by
 rw [lV,wX,hs,zH]
 show fK _ _ (.im xs) s1=_
 rw [nC,zw (by simp [lim];omega)]
 obtain ⟨ys,s2,C,h1,h2⟩:=pH (fe:=fe) (env:=e) xs (λi ys st=>ys=Y.take i/\st=s1) (λi x ys st hx ⟨h1,h2⟩=>by
  have hi:=kN hx
  have hq:Y[i]?=some (Y[i]'(by omega)):=yx _
  subst h2
  exact ⟨_,_,h i x _ hx hq,by rw [h1,nP hq],rfl⟩) xs.length 0 [] s1 (by omega) ⟨rfl,rfl⟩
 subst h2
 rw [hy,List.take_length] at h1
 subst h1
 exact C
structure gz (P LL N:Ad) (c:Nat) (E:Ev) (D:Dt):Prop where
 at_:∀z∈N,(z∈LL/\E.lookup z=some none/\D.lookup z=none)\/(z∉LL/\∃v,Vl v/\E.lookup z=some (some v)/\D.lookup z=some v)
 ke:bY P c (E.map (·.1))
 kd:bY P c (D.map (·.1))
theorem vh {α:Type}{z:Str}:∀{l:List (Str×α)}{r:List (Str×α)}{v:α},l.lookup z=some v->(l++r).lookup z=some v
 | (y,u)::l,r,v,h=>by
  rw [List.cons_append]
  rw [yL] at h ⊢
  cases q:z==y with
  |true=>rw [q] at h;exact h
  |false=>rw [q] at h;exact vh h
theorem vi {α:Type}{z:Str}{v:α}:∀{l:List (Str×α)},z∉l.map (·.1)->(l++[(z,v)]).lookup z=some v
 |[],_=>by simp [yL]
 | (y,u)::l,h=>by
  rw [yK] at h
  rw [List.cons_append,yL,beq_eq_false_iff_ne.mpr (λq=>h (by rw [q];exact ja ..))]
  exact vi λq=>h (jg _ q)
theorem Cj {α:Type}{z y:Str}{v:α}(ne:z≠y):∀{l:List (Str×α)},(l++[(y,v)]).lookup z=l.lookup z
 |[]=>by rw [List.nil_append,yL,beq_eq_false_iff_ne.mpr ne]
 | (x,u)::l=>by
  rw [List.cons_append,yL,yL]
  cases z==x with
  |true=>rfl
  |false=>exact Cj ne
theorem Ck {α:Type}{z:Str}:∀{l:List (Str×α)},z∉l.map (·.1)->l.lookup z=none
 |[],_=>rfl
 | (y,u)::l,h=>by
  rw [yK] at h
  rw [yL,beq_eq_false_iff_ne.mpr (λq=>h (by rw [q];exact ja ..))]
  exact Ck λq=>h (jg _ q)
section
variable {P LL N:Ad} {c:Nat} {E:Ev} {D:Dt} {a:At}
def pV (D:Dt) (p b:PV):Prop:=∀(s:aa) (th:Nat),s[th]?=some (dD D)->l8 [p,.ref th] s=.ok b s
def Yf (C:gz P LL N c E D) (h:WA N a):(aR LL a.v=true/\cy E a.v none a.v/\pV D a.v a.v/\∃z,a.v=g0 z)\/(aR LL a.v=false/\∃v,Vl v/\cy E a.v (some v) (dG v)/\pV D a.v (dG v)):=by
 cases a with
 |is n=>exact .inr ⟨by simp [At.v,dG,aR],.int n,.num n h,.is _,λs th _=>zX rfl (zp (zV (wQ (q0 rfl (a9 mi _)))) (zT (zc rfl)))⟩
 |of w =>
  rcases C.at_ w h with ⟨h1,h2,h3⟩|⟨h1,v,hv,h2,h3⟩
  ·refine .inl ⟨?_,.la w h2,λs th hs=>?_,w,rfl⟩
   ·show aR LL (.tup [.str "of", .str w])=true
    rw [sd];exact jk h1
   ·exact zX rfl (zp (zV (ky (q0 rfl (dF _)) (zM (zj (zj (zc rfl) rfl yw) (zc rfl) (uX hs (by rw [sF,h3];rfl)))))) (zT (zc rfl)))
  ·refine .inr ⟨?_,v,hv,.kn w v h2,λs th hs=>?_⟩
   ·show aR LL (.tup [.str "of", .str w])=false
    rw [sd];exact yP h1
   ·exact zX rfl (yJ (yB (ky (q0 rfl (dF _)) (zM (zj (zj (zc rfl) rfl yw) (zc rfl) (uX hs (by rw [sF,h3];rfl))))) (zT (ya (zR rfl (zj (zc rfl) (zj (zc rfl) rfl yw) (nR hs (by rw [sF,h3])))) (by simp)))))
def fB:PV->Bool
 |.tup (.str w::_)=>decide (w = "of")
 |_=>false
inductive Se (LL:Ad) (E:Ev) (D:Dt) (p:PV):Option PV->PV->Prop
 |late (z:Str):p=g0 z->aR LL p=true->cy E p none p->pV D p p->Se LL E D p none p
 |know (v:PV):aR LL p=false->Vl v->cy E p (some v) (dG v)->pV D p (dG v)->Se LL E D p (some v) (dG v)
def vj (C:gz P LL N c E D) (h:WA N a):∃x b,Se LL E D a.v x b:=by
 rcases Yf C h with ⟨h1,h2,h3,z,h4⟩|⟨h1,v,hv,h2,h3⟩
 ·exact ⟨_,_,.late z h4 h1 h2 h3⟩
 ·exact ⟨_,_,.know v h1 hv h2 h3⟩
def Se.of {p b:PV}{x:Ao}(h:Se LL E D p x b):cy E p x b/\pV D p b/\fB b=aR LL p/\((∃z,b=g0 z)\/∃v,Vl v/\b=dG v):=by
 cases h with
 |late z e h1 h2 h3 =>
  refine ⟨h2,h3,?_,.inl ⟨z,e⟩⟩
  rw [h1,e]
  show decide (("of" : Str) = "of")=true
  exact jk rfl
 |know v h1 hv h2 h3 =>
  refine ⟨h2,h3,?_,.inr ⟨v,hv,rfl⟩⟩
  rw [h1];exact yP mi
structure Sa (LL:Ad) (E:Ev) (D:Dt) (k:Nat) (as:An) (xs:List (Ao)) (bs:An):Prop where
 sl:SL E as xs bs
 lf:∀(i:Nat) p b,as[i]?=some p->bs[i]?=some b->pV D p b
 fm:∀b∈bs,(∃z,b=g0 z)\/∃v,Vl v/\b=dG v
 an:bs.any fB=as.any (aR LL)
 kn:as.any (aR LL)=false->∃v w,Vl v/\Vl w/\xs=(arg k v w).map some/\bs=(arg k v w).map dG
def Yg {t:St}(C:gz P LL N c E D) (ha:WA N t.a) (hb:WA N t.b):∃xs bs,Sa LL E D t.k t.as xs bs/\bs.length<=2:=by
 obtain ⟨x,p,S1⟩:=vj C ha
 obtain ⟨y,q,S2⟩:=vj C hb
 obtain ⟨a1,a2,a3,a4⟩:=S1.of
 obtain ⟨b1,b2,b3,b4⟩:=S2.of
 by_cases hk:t.k=1
 ·have e:t.as=[t.a.v]:=zw hk
  rw [e]
  refine ⟨[x],[p],⟨.one a1,λi u b e1 e2=>?_,λb h=>by rw [jv.mp h];exact a4,by simp [a3],λh=>?_⟩,by simp⟩
  ·match i with
   |0=>cases e1;cases e2;exact a2
   |i+1=>cases e1
  ·have h:aR LL t.a.v=false:=by simpa using h
   cases S1 with
   |late z e h1=>rw [h1] at h;cases h
   |know v h1 hv=>exact ⟨v,v,hv,hv,by simp [arg,hk],by simp [arg,hk]⟩
 ·have e:t.as=[t.a.v,t.b.v]:=zI hk
  rw [e]
  refine ⟨[x,y],[p,q],⟨.two a1 b1,λi u b e1 e2=>?_,λb h=>?_,by simp [a3,b3],λh=>?_⟩,by simp⟩
  ·match i with
   |0=>cases e1;cases e2;exact a2
   |1=>cases e1;cases e2;exact b2
   |i+2=>cases e1
  ·rcases yE.mp h with q|q
   ·rw [q];exact a4
   ·rw [jv.mp q];exact b4
  ·have h:aR LL t.a.v=false/\aR LL t.b.v=false:=by simpa using h
   cases S1 with
   |late z e h1=>rw [h1] at h;cases h.1
   |know v h1 hv =>
    cases S2 with
    |late z e h1=>rw [h1] at h;cases h.2
    |know w h1 hw=>exact ⟨v,w,hv,hw,by simp [arg,hk],by simp [arg,hk]⟩
end
abbrev bQ:Aj:=(zt (zQ 5 (zq yQ (zd (yW (yA (zf zk (za 4) (Ar 3))) (zq l8 (zd (za 0) (zd (za 2) zh)))) zh)))
  (zW (j_ (mB (zf zZ (zf zk (za 4) (Ar 1)) (za 2))) (mB (zq ri (zd (yW (yA (za 5)) (zf zZ (zf zk (za 0) (Ar 0)) (As "of"))) zh))))
  (je (jr jp (za 3) (zU (zd (As "let") (zd (zf zk (za 4) (Ar 1)) (zd (zf zk (za 4) (Ar 2)) (zd (za 5) zh)))))))
  (zt (qL (g2 6 7) (zq l9 (zd (zf zk (za 4) (Ar 2)) (zd (yW (yA (za 5)) (zf zk (za 0) (Ar 1))) zh))))
  (zt (zW (mB (zf jT (za 6) (mC .non)))
  (zJ (za 6))
  z0)
  (jH (za 1) (zf zk (za 4) (Ar 1)) (za 7))))))
abbrev eQ (sv:PV) (th:Nat) (hd:Str) (lf:Nat) (z4 z5 z6 z7:Ao):zb:=[some sv,Au th,some (.str hd),Au lf,z4,z5,z6,z7]
section
variable {LL:Ad} {E:Ev} {D:Dt} {hd:Str} {t:St} {sv:PV} {th lf:Nat} {K:An} {s:aa} {z5 z6 z7:Ao} {xs:List (Ao)} {bs:An}
theorem JI (A:Sa LL E D t.k t.as xs bs) (hl:bs.length<=2) (hs:s[th]?=some (dD D)):∃s1,Old s s1/\(zq yQ (zd (yW (yA (zf zk (za 4) (Ar 3))) (zq l8 (zd (za 0) (zd (za 2) zh)))) zh)) (eQ sv th hd lf (some t.v) z5 z6 z7) s=.ok (.tup bs) s1/\∃s2,Old s1 s2/\(j_ (mB (zf zZ (zf zk (za 4) (Ar 1)) (za 2))) (mB (zq ri (zd (yW (yA (za 5)) (zf zZ (zf zk (za 0) (Ar 0)) (As "of"))) zh)))) (eQ sv th hd lf (some t.v) (some (.tup bs)) z6 z7) s1=.ok (lw hd LL t.z t.as) s2:=by
 have al:t.as.length=bs.length:=A.sl.l2
 have F3:zk t.v (.int 3) s=.ok (.tup t.as) s:=wT
 have C:=Ci (e:=eQ sv th hd lf (some t.v) z5 z6 z7) (src:=(zf zk (za 4) (Ar 3))) (fe:=(zq l8 (zd (za 0) (zd (za 2) zh)))) (Y:=bs) (zj (zc rfl) rfl F3) (by omega) al (λi x y hx hy=>zy (zR (zc rfl) (zc rfl)) (A.lf i x y hx hy s th hs))
 let s1:=s++[SO.lst bs]
 refine ⟨s1,zY _ _,zy (zF C) pM,?_⟩
 have F1:∀s,zk t.v (.int 1) s=.ok (.str t.z) s:=λs=>yw
 have T1:∀b,decide (t.z=hd)=b->(mB (zf zZ (zf zk (za 4) (Ar 1)) (za 2))) (eQ sv th hd lf (some t.v) (some (.tup bs)) z6 z7) s1=.ok b s1:=λb h=>zM (zj (zj (zc rfl) rfl (F1 _)) (zc rfl) (eqs _ _ b h _))
 by_cases hz:t.z=hd
 ·refine ⟨s1,Old.refl _,?_⟩
  have e:lw hd LL t.z t.as=true:=by unfold lw;rw [jk hz,Bool.or_true]
  rw [e]
  exact R6 (T1 true (jk hz))
 ·have e:lw hd LL t.z t.as=t.as.any (aR LL):=by unfold lw;rw [yP hz,Bool.or_false]
  rw [e,<-A.an]
  have C2:=Ci (e:=eQ sv th hd lf (some t.v) (some (.tup bs)) z6 z7) (src:=za 5) (fe:=(zf zZ (zf zk (za 0) (Ar 0)) (As "of"))) (Y:=bs.map λb=>.bl (fB b)) (s:=s1) (zc rfl) (by omega) (by simp) (λi x y hx hy=>by
   rw [y3,hx] at hy
   cases hy
   rcases A.fm x (kW hx) with ⟨z,rfl⟩|⟨v,_,rfl⟩
   ·exact zj (zj (zc rfl) rfl yM) rfl (dF _)
   ·have e:fB (dG v)=false:=yP mi
    show _=Res.ok (PV.bl (fB (dG v))) s1
    rw [e]
    exact zj (zj (zc rfl) rfl yM) rfl (a9 mi _))
  have B:∀l:An,cP (l.map λv=>PV.bl (fB v))=some (l.map fB):=λl=>by
   induction l with
   |nil=>rfl
   |cons a l ih=>rw [yK,cP,ih];rfl
  have AN:ri [.ref s1.length] (s1++[SO.lst (bs.map λb=>.bl (fB b))])=.ok (.bl (bs.any fB)) (s1++[SO.lst (bs.map λb=>.bl (fB b))]):=by
   show (yu _ _ _).bind _=_
   rw [yv (ym _ _),zH]
   show yu _ _ _=_
   rw [yv (ym _ _),B]
   simp [List.any_map]
  exact ⟨_,zY _ _,FY (T1 false (yP hz)) (zM (zy (zF C2) AN))⟩
theorem Yh (A:Sa LL E D t.k t.as xs bs) (hl:bs.length<=2) (hs:s[th]?=some (dD D)) (hK:s[lf]?=some (.lst K)) (k9:K.length<=900) (hw:lw hd LL t.z t.as=true):∃gu s1,bQ (eQ sv th hd lf (some t.v) z5 z6 z7) s=.ok (.nx (eQ sv th hd lf (some t.v) gu z6 z7)) s1/\s1[lf]?=some (.lst (K++[a6 t.z (dB t.k) bs]))/\Kx [lf] s s1:=by
 obtain ⟨s1,o1,E1,s2,o2,E2⟩:=JI (sv:=sv) (hd:=hd) (lf:=lf) (z5:=z5) (z6:=z6) (z7:=z7) A hl hs
 rw [hw] at E2
 have K2:=o2 _ _ (o1 _ _ hK)
 have F1:∀s,zk t.v (.int 1) s=.ok (.str t.z) s:=λs=>yw
 have F2:∀s,zk t.v (.int 2) s=.ok (.str (dB t.k)) s:=λs=>jP
 exact ⟨_,_,zp (zP E1) (yB E2 (wI (wZ (zc rfl) K2 (ya (jI rfl (zj (zc rfl) rfl (F1 _)) (zj (zc rfl) rfl (F2 _)) (zc rfl)) (by simp)) (iH K2 (by omega))))),yZ (yh K2),(o1.trans o2).kx.trans (jY (by simp))⟩
theorem JJ {v w:PV}(hk:t.k<5) (A:Sa LL E D t.k t.as xs bs) (hl:bs.length<=2) (hs:s[th]?=some (dD D)) (hw:lw hd LL t.z t.as=false) (hv:Vl v) (sG:Vl w) (eb:bs=(arg t.k v w).map dG):∃gu s1,Old s s1/\∀{X:Res Fl}{p q:PV},fg (tv t.k v w)=.tup [p,q]->(zt (zW (mB (zf jT (za 6) (mC .non))) (zJ (za 6)) z0) (jH (za 1) (zf zk (za 4) (Ar 1)) (za 7))) (eQ sv th hd lf (some t.v) gu (some p) (some q)) s1=X->bQ (eQ sv th hd lf (some t.v) z5 z6 z7) s=X:=by
 obtain ⟨s1,o1,E1,s2,o2,E2⟩:=JI (sv:=sv) (hd:=hd) (lf:=lf) (z5:=z5) (z6:=z6) (z7:=z7) A hl hs
 rw [hw] at E2
 have F2:∀s,zk t.v (.int 2) s=.ok (.str (dB t.k)) s:=λs=>jP
 have al:(arg t.k v w).length<=2:=(sD hv sG).2
 have C:=Ci (e:=eQ sv th hd lf (some t.v) (some (.tup bs)) z6 z7) (src:=za 5) (fe:=(zf zk (za 0) (Ar 1))) (Y:=arg t.k v w) (s:=s2) (zc rfl) (by omega) (by rw [eb];simp) (λi x y hx hy=>by
  rw [eb,y3,hy] at hx
  cases hx
  exact zj (zc rfl) rfl yw)
 obtain ⟨s3,E3,o3⟩:=Yc (s:=s2++[SO.lst (arg t.k v w)]) (n:=s2.length) hk hv sG (ym _ _)
 have T:(zq l9 (zd (zf zk (za 4) (Ar 2)) (zd (yW (yA (za 5)) (zf zk (za 0) (Ar 1))) zh))) (eQ sv th hd lf (some t.v) (some (.tup bs)) z6 z7) s2=.ok (fg (tv t.k v w)) s3:=zy (zR (zj (zc rfl) rfl (F2 _)) C) E3
 refine ⟨some (.tup bs),s3,o1.trans (o2.trans ((zY _ _).trans o3)),λ{X p q} hp hX=>zp (zP E1) (nG E2 (zp (VV (T.trans (by rw [hp]))) hX))⟩
end
section
variable {P LL N:Ad} {c:Nat} {E:Ev} {D:Dt} {z:Str}
theorem gz.ext {E':Ev}{D':Dt}(C:gz P LL N c E D) (uN:bY P c N) (hP:mx P) (hz:z=sN (c+1)) {x:Ao}(hE:E'=E++[(z,x)]) (hD:(z∈LL/\x=none/\D'=D)\/(z∉LL/\∃v,Vl v/\x=some v/\D'=D++[(z,v)])):gz P LL (N++[z]) (c+1) E' D':=by
 have one:cf c (c+1) [z]:=λy hm=>⟨c+1,by omega,by omega,by rw [jv.mp hm,hz]⟩
 have zE:z∉E.map (·.1):=by rw [hz];exact pS hP C.ke (by omega)
 have zD:z∉D.map (·.1):=by rw [hz];exact pS hP C.kd (by omega)
 have zN:z∉N:=by rw [hz];exact pS hP uN (by omega)
 refine ⟨λy hy=>?_,?_,?_⟩
 ·rcases yU.mp hy with q|q
  ·have ne:y≠z:=λe=>zN (e▸q)
   have eD:D'.lookup y=D.lookup y:=by
    rcases hD with ⟨_,_,e⟩|⟨_,v,_,_,e⟩
    ·rw [e]
    ·rw [e];exact Cj ne
   rw [hE,Cj ne,eD]
   exact C.at_ y q
  ·have e:=jv.mp q
   subst e
   rw [hE,vi zE]
   rcases hD with ⟨h1,h2,h3⟩|⟨h1,v,hv,h2,h3⟩
   ·exact .inl ⟨h1,by rw [h2],by rw [h3];exact Ck zD⟩
   ·exact .inr ⟨h1,v,hv,by rw [h2],by rw [h3];exact vi zD⟩
 ·rw [hE,wW];exact C.ke.app one (by omega)
 ·rcases hD with ⟨_,_,e⟩|⟨_,v,_,_,e⟩
  ·rw [e];exact C.kd.mono (by omega)
  ·rw [e,wW];exact C.kd.app one (by omega)
end
def vI (hd:Str) (D D':Dt) (l L:An) (f:Option Str):Prop:=∀{s:aa}{th lf:Nat}{sv:PV}{K:An}{z4 z5 z6 z7:Ao},s[th]?=some (dD D)->s[lf]?=some (.lst K)->th≠lf->K.length+l.length<=900->D.length+l.length<=900->∃e' s1,forL (gN 4) bQ l (eQ sv th hd lf z4 z5 z6 z7) s=.ok (match f with|none=>.nx e'|some q=>.rt (.str q)) s1/\s1[th]?=some (dD D')/\s1[lf]?=some (.lst (K++L))/\Kx [th,lf] s s1
theorem Cn {P LL r:Ad}{hd:Str}(hP:mx P) {N N':Ad}{c c':Nat}{ss:List St}(h:WS N c ss N' c'):∀{E:Ev}{D:Dt},bY P c N->gz P LL N c E D->(∀t∈ss,lw hd LL t.z t.as=decide (t.z∈r))->(∀t∈ss,t.z∈LL↔t.z∈r) ->
  ∃E' D' L f,cS r E (ss.map St.v) E' L f/\(f=none->gz P LL N' c' E' D')/\(∃X,E'=E++X/\X.length<=ss.length)/\bY P c' (E'.map (·.1))/\D'.length<=D.length+ss.length/\L.length<=ss.length/\(∀x∈L,bU 3 x)/\vI hd D D' (ss.map St.v) L f:=by
 induction h with
 |nil N c=>exact λ{E D} uN C _ _=>⟨E,D,[],none,.nil _,λ_=>C,⟨[],by simp,by simp⟩,C.ke,by simp,by simp,jU,λ{s th lf sv K z4 z5 z6 z7} h1 h2 _ _ _=>⟨_,s,rfl,h1,by rw [List.append_nil];exact h2,Kx.refl _ _⟩⟩
 |@cons N N' c c' t ss h1 h2 h3 h4 hr ih =>
  intro E D uN C hw hl
  obtain ⟨xs,bs,A,b2⟩:=Yg C h1 h2
  have w1:=hw t (ja ..)
  have l1:=hl t (ja ..)
  have sG:=λu hu=>hw u (jg _ hu)
  have kX:=λu hu=>hl u (jg _ hu)
  have al:=(nX t).2
  have le:=hr.le.1
  have zE:t.z∉E.map (·.1):=by rw [h4];exact pS hP C.ke (by omega)
  have zD:t.z∉D.map (·.1):=by rw [h4];exact pS hP C.kd (by omega)
  have gq:bY P (c+1) (N++[t.z]):=uN.app (c':=c+1) (r:=[t.z]) (λz hm=>⟨c+1,by omega,by omega,by rw [jv.mp hm,h4]⟩) (by omega)
  by_cases hz:t.z∈r
  ·rw [jk hz] at w1
   obtain ⟨E',D',L,f,G,c1,⟨X,eX,lX⟩,u1,d1,lL,sm,LS⟩:=ih (E:=E++[(t.z,none)]) (D:=D) gq (C.ext uN hP h4 rfl (.inl ⟨l1.mpr hz,rfl,rfl⟩)) sG kX
   refine ⟨E',D',_,f,.left hz zE A.sl al G,c1,⟨_,by rw [eX,j6],by simp;omega⟩,u1,by simp;omega,by simp;omega,a_ (Ye A.fm) sm,λ{s th lf sv K z4 z5 z6 z7} q1 q2 q3 q4 q5=>?_⟩
   simp at q4 q5
   obtain ⟨gu,s1,B,K1,k1⟩:=Yh (sv:=sv) (z5:=z5) (z6:=z6) (z7:=z7) A b2 q1 q2 (by omega) w1
   obtain ⟨e',s2,F,T2,K2,k2⟩:=LS (sv:=sv) (z4:=some t.v) (z5:=gu) (z6:=z6) (z7:=z7) (k1 _ _ (by simpa using q3) q1) K1 q3 (by simp;omega) (by simp;omega)
   simp only [j6,List.singleton_append] at K2
   exact ⟨e',s2,wU rfl B F,T2,K2,λm so q e=>k2 _ _ q (k1 _ _ (by simp at q ⊢;exact q.2) e)⟩
  ·rw [yP hz] at w1
   have an:t.as.any (aR LL)=false:=by unfold lw at w1;exact (Bool.or_eq_false_iff.mp w1).1
   obtain ⟨v,w,hv,vk,ex,eb⟩:=A.kn an
   have AN:=X6 h3 hv vk
   have sl:=A.sl
   rw [ex] at sl
   cases ht:tv t.k v w with
   |inl m =>
    rw [ht] at AN
    have AN:g9 (dB t.k) (arg t.k v w) (.int m):=AN
    have vm:Vl (.int m):=.num m (X7 hv vk ht)
    obtain ⟨E',D',L,f,G,c1,⟨X,eX,lX⟩,u1,d1,lL,sm,LS⟩:=ih (E:=E++[(t.z,some (.int m))]) (D:=D++[(t.z,.int m)]) gq (C.ext uN hP h4 rfl (.inr ⟨λq=>hz (l1.mp q),.int m,vm,rfl,rfl⟩)) sG kX
    refine ⟨E',D',L,f,.ahead hz zE sl al AN G,c1,⟨_,by rw [eX,j6],by simp;omega⟩,u1,by simp at d1 ⊢;omega,by simp;omega,sm,λ{s th lf sv K z4 z5 z6 z7} q1 q2 q3 q4 q5=>?_⟩
    simp at q4 q5
    obtain ⟨gu,s1,o1,B⟩:=JJ (sv:=sv) (hd:=hd) (lf:=lf) (z5:=z5) (z6:=z6) (z7:=z7) h3 A b2 q1 w1 hv vk eb
    rw [ht] at B
    have F1:∀s,zk t.v (.int 1) s=.ok (.str t.z) s:=λs=>yw
    have PD:=kO (pK (z:=t.z) (x:=.int m) (xs:=D.map (·.2)) zD) (fo:=za 1) (fi:=zf zk (za 4) (Ar 1)) (fv:=za 7) (e:=eQ sv th hd lf (some t.v) gu (some .non) (some (.int m))) (s:=s1) (zc rfl) (zc rfl) (zj (zc rfl) rfl (F1 _)) (o1 _ _ q1) (by simp;omega)
    have B1:=B rfl (zp (zV (zM (zj (zc rfl) rfl rfl))) PD)
    have T1:(s1.set th (.dic (D.map (·.1)++[t.z]) (D.map (·.2)++[.int m])))[th]?=some (dD (D++[(t.z,.int m)])):=by rw [yZ (yh (o1 _ _ q1))];simp [dD]
    have K1:(s1.set th (.dic (D.map (·.1)++[t.z]) (D.map (·.2)++[.int m])))[lf]?=some (.lst K):=by rw [yr q3];exact o1 _ _ q2
    obtain ⟨e',s2,F,T2,K2,k2⟩:=LS (sv:=sv) (z4:=some t.v) (z5:=gu) (z6:=some .non) (z7:=some (.int m)) T1 K1 q3 (by simp;omega) (by simp;omega)
    exact ⟨e',s2,wU rfl B1 F,T2,K2,(o1.kx.trans (jY (by simp))).trans k2⟩
   |inr q =>
    rw [ht] at AN
    have AN:g_ (dB t.k) (arg t.k v w) q:=AN
    refine ⟨E,D,[],some q,.fault hz sl al AN,(λq=>by cases q),⟨[],by simp,by simp⟩,C.ke.mono (by omega),by simp,by simp,jU,λ{s th lf sv K z4 z5 z6 z7} q1 q2 q3 q4 q5=>?_⟩
    obtain ⟨gu,s1,o1,B⟩:=JJ (sv:=sv) (hd:=hd) (lf:=lf) (z5:=z5) (z6:=z6) (z7:=z7) h3 A b2 q1 w1 hv vk eb
    rw [ht] at B
    have B1:=B rfl (yJ (yB (zM (zj (zc rfl) rfl rfl)) (zT (zc rfl))))
    refine ⟨[],s1,?_,o1 _ _ q1,by rw [List.append_nil];exact o1 _ _ q2,o1.kx⟩
    exact Iz rfl B1
def my {hd:Str}{D D':Dt}{l L K:An}{f:Option Str}{s:aa}{th lf:Nat}(h:vI hd D D' l L f) (h1:s[th]?=some (dD D)) (h2:s[lf]?=some (.lst K)) (ne:th≠lf) (h4:K.length+l.length<=900) (h5:D.length+l.length<=900):∃s1,uD [.tup l,.ref th,.str hd,.ref lf] s=.ok (match f with|none=>.non|some q=>.str q) s1/\s1[th]?=some (dD D')/\s1[lf]?=some (.lst (K++L))/\Kx [th,lf] s s1:=by
 obtain ⟨e',s1,F,r⟩:=h (sv:=.tup l) (z4:=none) (z5:=none) (z6:=none) (z7:=none) h1 h2 ne h4 h5
 cases f with
 |none=>exact ⟨s1,zX rfl (zp (wV (zc rfl) F) (zT rfl)),r⟩
 |some q=>exact ⟨s1,zX rfl (yJ (wV (zc rfl) F)),r⟩
abbrev bZ (mr:Al):Aj:=(zt (zQ 4 (zq uD (zd (zf zk (za 0) (Ar 0)) (zd (za 1) (zd (za 2) (zd (za 3) zh))))))
  (zt (zW (mB (zf jT (za 4) (mC .non)))
  (zJ (zU (zd (zq yQ (zd (za 3) zh)) (zd (zU (zd (As "fail") (zd (za 4) zh))) zh))))
  z0)
  (zt (zQ 5 (zf zk (za 0) (Ar 1)))
  (zt (zW (mB (zf zZ (zf zk (za 5) (Ar 0)) (As "fail")))
  (zJ (zU (zd (zq yQ (zd (za 3) zh)) (zd (za 5) zh))))
  z0)
  (zt (zQ 6 (zq l8 (zd (zf zk (za 5) (Ar 1)) (zd (za 1) zh))))
  (zt (zW (mB (zf zZ (zf zk (za 5) (Ar 0)) (As "give")))
  (zJ (zU (zd (zq yQ (zd (za 3) zh)) (zd (zU (zd (As "give") (zd (za 6) zh))) zh))))
  z0)
  (zt (zW (mB (zf zZ (zf zk (za 6) (Ar 0)) (As "of")))
  (zt (zQ 7 (zq mr (zd (zf zk (za 5) (Ar 2)) (zd (zq nF (zd (za 1) zh)) (zd (za 2) zh)))))
  (zJ (zU (zd (zq yQ (zd (za 3) zh)) (zd (zU (zd (As "if") (zd (za 6) (zd (za 7) (zd (zq mr (zd (zf zk (za 5) (Ar 3)) (zd (zq nF (zd (za 1) zh)) (zd (za 2) zh)))) zh))))) zh)))))
  z0)
  (zt (zW (ka (mB (zq (j7 isT) (zd (zf zk (za 6) (Ar 1)) (zd (mC (.ty "int")) zh)))))
  (zJ (zU (zd (zq yQ (zd (za 3) zh)) (zd (zU (zd (As "fail") (zd (As "kind") zh))) zh))))
  z0)
  (zQ 0 (zf zk (za 5) (zf yG (Ar 2) (zq qF (zd (zf zZ (zf zk (za 6) (Ar 1)) (Ar 0)) zh)))))))))))))
abbrev eZ (bv:PV) (th:Nat) (hd:Str) (lf:Nat) (z4 z5 z6 z7:Ao):zb:=[some bv,Au th,some (.str hd),Au lf,z4,z5,z6,z7]
abbrev tZ:Ak:=mB (mC (.bl true))
def nZ {t:Ak}{b:Aj}{e:zb}{st s1 s2:aa}{n:Nat}{v:PV}(h:t e st=.ok true s1) (hb:b e s1=.ok (.rt v) s2):bX t b (n+1) e st=.ok (.rt v) s2:=by
 rw [Az,h,zH,zw rfl,hb,zH]
def mz (hd:Str) (D:Dt) (b:Bk) (L:An) (e:PV):Prop:=∀{s:aa}{th lf:Nat}{K:An}{z4 z5 z6 z7:Ao}(j m:Nat),b.dp<=j+1->b.dp<=m->s[th]?=some (dD D)->s[lf]?=some (.lst K)->th≠lf->K.length+b.st.length<=900->D.length+b.st.length<=900->∃s1,bX tZ (bZ (nI j)) m (eZ b.v th hd lf z4 z5 z6 z7) s=.ok (.rt (bC (K++L) e)) s1/\Kx [th,lf] s s1
theorem Co {hd:Str}{D:Dt}{b:Bk}{L:An}{e:PV}{s:aa}{th:Nat}(h:mz hd D b L e) {j:Nat}(hj:b.dp<=j+1) (h9:b.dp<=900) (h1:s[th]?=some (dD D)) (h2:b.st.length<=900) (h3:D.length+b.st.length<=900):∃s1,nI (j+1) [b.v,.ref th,.str hd] s=.ok (bC L e) s1/\Kx [th] s s1:=by
 have o:Old s (s++[SO.lst []]):=zY _ _
 have lt:=yh h1
 obtain ⟨s1,F,k⟩:=h (K:=[]) (z4:=none) (z5:=none) (z6:=none) (z7:=none) j lim hj (by simp [lim];omega) (o _ _ h1) (ym _ _) (by omega) (by simp;omega) h3
 refine ⟨s1,show Bi (nI j) [b.v,.ref th,.str hd] s=_ from zX rfl (zp (zP (wJ jO (by simp))) F),λm so q e=>k _ _ ?_ (o _ _ e)⟩
 have:=yh e
 simp at q ⊢
 omega
def JK {P:PV->Prop}{L L2:An}(h:∀x∈L,P x) (h2:∀x∈L2,P x):∀x∈L++L2,P x:=λx hx=>(yU.mp hx).elim (h x) (h2 x)
theorem Yi {a e1 e2:PV}{L1 L2:An}{n:Nat}(ha:bU 1 a) (h1:∀x∈L1,bU 3 x) (g1:bU (2*n+2) e1) (h2:∀x∈L2,bU 3 x) (g2:bU (2*n+2) e2) (hn:1<=n):bU (2*(n+1)+2) (cI a (bC L1 e1) (bC L2 e2)):=by
 have B:∀{L:An} {e:PV},(∀x∈L,bU 3 x)->bU (2*n+2) e->bU (2*n+3) (bC L e):=λh g=>.tup _ _ (a_ ((bU.tup 3 _ h).le (by omega)) (a_ g jU))
 exact .tup _ _ (a_ (.str _ _) (a_ (ha.le (by omega)) (a_ (B h1 g1) (a_ (B h2 g2) jU))))
section
variable {P LL r:Ad} {hd:Str}
theorem Yj (hP:mx P) {N:Ad}{c c':Nat}{b:Bk}(h:WB N c b c'):∀{E:Ev}{D:Dt}{n:Nat},bY P c N->gz P LL N c E D->(∀t∈b.st,lw hd LL t.z t.as=decide (t.z∈r))->(∀t∈b.st,t.z∈LL↔t.z∈r)->b.dp<=n->n<=5->b.ln.length<=900 ->
  ∃L e E',Mk r n E b.v L e E'/\(∃X,E'=E++X/\X.length<=b.st.length)/\bY P c' (E'.map (·.1))/\(∀x∈L,bU 3 x)/\bU (2*n+2) e/\mz hd D b L e:=by
 induction h with
 |@give N N' c c' ss a w wa =>
  intro E D n uN C hw hl dp n5 ln
  obtain ⟨n,rfl⟩:∃j,n=j+1:=⟨n-1,by simp [Bk.dp] at dp;omega⟩
  obtain ⟨E',D',L,f,G,c1,x1,u1,d1,lL,sm,LS⟩:=Cn (LL:=LL) (r:=r) (hd:=hd) hP w uN C hw hl
  cases f with
  |some q =>
   refine ⟨L,bA q,E',  .fault G,x1,u1,sm,(.tup _ _ (a_ (.str _ _) (a_ (.str _ _) jU)):bU (0+1) _).le (by omega),λ{s th lf K z4 z5 z6 z7} j m dj dm q1 q2 q3 q4 q5=>?_⟩
   obtain ⟨m,rfl⟩:∃i,m=i+1:=⟨m-1,by simp [Bk.dp] at dm;omega⟩
   obtain ⟨s1,F,T1,K1,k1⟩:=my (@LS) q1 q2 q3 (by simpa [Bk.st] using q4) (by simpa [Bk.st] using q5)
   exact ⟨s1,nZ rfl (zp (zP (zy (jI (zj (zc rfl) rfl yM) (zc rfl) (zc rfl) (zc rfl)) F)) (yJ (yB (zM (zj (zc rfl) rfl rfl)) (zT (ya (zR (zy (zF (zc rfl)) (by rw [jS,yv K1])) (ya (zR rfl (zc rfl)) (by simp))) (by simp)))))),k1⟩
  |none =>
   have C1:=c1 rfl
   obtain ⟨x,p,S⟩:=vj C1 wa
   obtain ⟨Yk,Yl,_,f4⟩:=S.of
   refine ⟨L,cV p,E',.give G Yk,x1,u1,sm,(.tup _ _ (a_ (.str _ _) (a_ (Cg f4) jU)):bU (1+1) _).le (by omega),λ{s th lf K z4 z5 z6 z7} j m dj dm q1 q2 q3 q4 q5=>?_⟩
   obtain ⟨m,rfl⟩:∃i,m=i+1:=⟨m-1,by simp [Bk.dp] at dm;omega⟩
   obtain ⟨s1,F,T1,K1,k1⟩:=my (@LS) q1 q2 q3 (by simpa [Bk.st] using q4) (by simpa [Bk.st] using q5)
   exact ⟨s1,nZ rfl (zp (zP (zy (jI (zj (zc rfl) rfl yM) (zc rfl) (zc rfl) (zc rfl)) F)) (zp (zV (zM (zj (zc rfl) rfl rfl))) (zp (zP (zj (zc rfl) rfl yw)) (zp (zV (q0 rfl (a9 Jf _))) (zp (zP (zy (zR (zj (zc rfl) rfl yw) (zc rfl)) (Yl _ _ T1))) (yJ (yB (q0 rfl (dF _)) (zT (ya (zR (zy (zF (zc rfl)) (by rw [jS,yv K1])) (ya (zR rfl (zc rfl)) (by simp))) (by simp)))))))))),k1⟩
 |@fail N N' c c' ss w' w =>
  intro E D n uN C hw hl dp n5 ln
  obtain ⟨n,rfl⟩:∃j,n=j+1:=⟨n-1,by simp [Bk.dp] at dp;omega⟩
  obtain ⟨E',D',L,f,G,c1,x1,u1,d1,lL,sm,LS⟩:=Cn (LL:=LL) (r:=r) (hd:=hd) hP w uN C hw hl
  cases f with
  |some q =>
   refine ⟨L,bA q,E',  .fault G,x1,u1,sm,(.tup _ _ (a_ (.str _ _) (a_ (.str _ _) jU)):bU (0+1) _).le (by omega),λ{s th lf K z4 z5 z6 z7} j m dj dm q1 q2 q3 q4 q5=>?_⟩
   obtain ⟨m,rfl⟩:∃i,m=i+1:=⟨m-1,by simp [Bk.dp] at dm;omega⟩
   obtain ⟨s1,F,T1,K1,k1⟩:=my (@LS) q1 q2 q3 (by simpa [Bk.st] using q4) (by simpa [Bk.st] using q5)
   exact ⟨s1,nZ rfl (zp (zP (zy (jI (zj (zc rfl) rfl yM) (zc rfl) (zc rfl) (zc rfl)) F)) (yJ (yB (zM (zj (zc rfl) rfl rfl)) (zT (ya (zR (zy (zF (zc rfl)) (by rw [jS,yv K1])) (ya (zR rfl (zc rfl)) (by simp))) (by simp)))))),k1⟩
  |none =>
   refine ⟨L,bA w',E',.fail G,x1,u1,sm,(.tup _ _ (a_ (.str _ _) (a_ (.str _ _) jU)):bU (0+1) _).le (by omega),λ{s th lf K z4 z5 z6 z7} j m dj dm q1 q2 q3 q4 q5=>?_⟩
   obtain ⟨m,rfl⟩:∃i,m=i+1:=⟨m-1,by simp [Bk.dp] at dm;omega⟩
   obtain ⟨s1,F,T1,K1,k1⟩:=my (@LS) q1 q2 q3 (by simpa [Bk.st] using q4) (by simpa [Bk.st] using q5)
   exact ⟨s1,nZ rfl (zp (zP (zy (jI (zj (zc rfl) rfl yM) (zc rfl) (zc rfl) (zc rfl)) F)) (zp (zV (zM (zj (zc rfl) rfl rfl))) (zp (zP (zj (zc rfl) rfl yw)) (yJ (yB (q0 rfl (dF _)) (zT (ya (zR (zy (zF (zc rfl)) (by rw [jS,yv K1])) (zc rfl)) (by simp)))))))),k1⟩
 |@ite N N' c c1 c2 c' ss a x y w wa wx wy ix iy =>
  intro E D n uN C hw hl dp n5 ln
  have Z3:max x.dp y.dp+1<=n:=dp
  obtain ⟨n,rfl⟩:∃j,n=j+1:=⟨n-1,by omega⟩
  have Ym:∀t∈ss,lw hd LL t.z t.as=decide (t.z∈r):=λt ht=>hw t (jC _ (jC _ ht))
  have Yn:∀t∈ss,t.z∈LL↔t.z∈r:=λt ht=>hl t (jC _ (jC _ ht))
  have JL:∀t∈x.st,lw hd LL t.z t.as=decide (t.z∈r):=λt ht=>hw t (jC _ (yR _ ht))
  have pQ:∀t∈x.st,t.z∈LL↔t.z∈r:=λt ht=>hl t (jC _ (yR _ ht))
  have JM:∀t∈y.st,lw hd LL t.z t.as=decide (t.z∈r):=λt ht=>hw t (yR _ ht)
  have JN:∀t∈y.st,t.z∈LL↔t.z∈r:=λt ht=>hl t (yR _ ht)
  have Z4:ss.length+1+x.ln.length+y.ln.length<=900:=by have q:=ln;simp [Bk.ln] at q;omega
  have vn:(Bk.ite ss a x y).st.length=ss.length+x.st.length+y.st.length:=by simp [Bk.st];omega
  have eX:=wx.le
  have eY:=wy.le
  have es:=w.le.1
  have gq:=w.up uN
  obtain ⟨E',D',L,f,G,Yo,⟨X1,x1,Z5⟩,u1,d1,lL,sm,LS⟩:=Cn (LL:=LL) (r:=r) (hd:=hd) hP w uN C Ym Yn
  cases f with
  |some q =>
   refine ⟨L,bA q,E',.fault G,⟨X1,x1,by omega⟩,u1.mono (by omega),sm,(.tup _ _ (a_ (.str _ _) (a_ (.str _ _) jU)):bU (0+1) _).le (by omega),λ{s th lf K z4 z5 z6 z7} j m dj dm q1 q2 q3 q4 q5=>?_⟩
   rw [vn] at q4 q5
   obtain ⟨m,rfl⟩:∃i,m=i+1:=⟨m-1,by simp [Bk.dp] at dm;omega⟩
   obtain ⟨s1,F,T1,K1,k1⟩:=my (@LS) q1 q2 q3 (by simp;omega) (by simp;omega)
   exact ⟨s1,nZ rfl (zp (zP (zy (jI (zj (zc rfl) rfl yM) (zc rfl) (zc rfl) (zc rfl)) F)) (yJ (yB (zM (zj (zc rfl) rfl rfl)) (zT (ya (zR (zy (zF (zc rfl)) (by rw [jS,yv K1])) (ya (zR rfl (zc rfl)) (by simp))) (by simp)))))),k1⟩
  |none =>
   have C1:=Yo rfl
   obtain ⟨u,p,S⟩:=vj C1 wa
   have JO:=vf x (n:=5) (by omega)
   have Z6:1<=x.dp:=by cases x<;>simp [Bk.dp]
   have Yp:=S.of
   cases S with
   |know v h1 hv se vo =>
    cases hv with
    |low =>
     refine ⟨L,bA "kind", E',.word G se,⟨X1,x1,by omega⟩,u1.mono (by omega),sm,(.tup _ _ (a_ (.str _ _) (a_ (.str _ _) jU)):bU (0+1) _).le (by omega),λ{s th lf K z4 z5 z6 z7} j m dj dm q1 q2 q3 q4 q5=>?_⟩
     rw [vn] at q4 q5
     obtain ⟨m,rfl⟩:∃i,m=i+1:=⟨m-1,by simp [Bk.dp] at dm;omega⟩
     obtain ⟨s1,F,T1,K1,k1⟩:=my (@LS) q1 q2 q3 (by simp;omega) (by simp;omega)
     exact ⟨s1,nZ rfl (zp (zP (zy (jI (zj (zc rfl) rfl yM) (zc rfl) (zc rfl) (zc rfl)) F)) (zp (zV (zM (zj (zc rfl) rfl rfl))) (zp (zP (zj (zc rfl) rfl yw)) (zp (zV (q0 rfl (a9 sk _))) (zp (zP (zy (zR (zj (zc rfl) rfl yw) (zc rfl)) (vo _ _ T1))) (zp (zV (q0 rfl (a9 sr _))) (zp (zV (q0 rfl (a9 mi _))) (yJ (yB (ph (zM (zy (zR (zj (zc rfl) rfl yw) rfl) (Ce .low _)))) (zT (ya (zR (zy (zF (zc rfl)) (by rw [jS,yv K1])) (ya (zR rfl rfl) (by simp))) (by simp)))))))))))),k1⟩
    |num k bk =>
     have GO:∀{bb:Bk} {L2:An} {e2:PV},mz hd D' bb L2 e2->bb.dp<=max x.dp y.dp->bb.st.length<=x.st.length+y.st.length->(if k=0 then y.v else x.v)=bb.v->mz hd D (.ite ss a x y) (L++L2) e2:=λ{bb L2 e2} LB hb hs hv {s th lf K z4 z5 z6 z7} j m dj dm q1 q2 q3 q4 q5=>by
      rw [vn] at q4 q5
      have Yq:max x.dp y.dp+1<=j+1:=dj
      have Z7:max x.dp y.dp+1<=m:=dm
      obtain ⟨m,rfl⟩:∃i,m=i+1:=⟨m-1,by omega⟩
      obtain ⟨s1,F,T1,K1,k1⟩:=my (@LS) q1 q2 q3 (by simp;omega) (by simp;omega)
      have IX:zk (cI a.v x.v y.v) (.int (2+(if decide (k=0) then 1 else 0))) s1=.ok bb.v s1:=by
       rw [<-hv]
       by_cases z:k=0
       ·rw [zw z,jk z];exact wT
       ·rw [zI z,yP z];exact jP
      have BD:bZ (nI j) (eZ (Bk.ite ss a x y).v th hd lf z4 z5 z6 z7) s=.ok (.nx (eZ bb.v th hd lf (some .non) (some (cI a.v x.v y.v)) (some (dG (.int k))) z7)) s1:=zp (zP (zy (jI (zj (zc rfl) rfl yM) (zc rfl) (zc rfl) (zc rfl)) F)) (zp (zV (zM (zj (zc rfl) rfl rfl))) (zp (zP (zj (zc rfl) rfl yw)) (zp (zV (q0 rfl (a9 sk _))) (zp (zP (zy (zR (zj (zc rfl) rfl yw) (zc rfl)) (vo _ _ T1))) (zp (zV (q0 rfl (a9 sr _))) (zp (zV (q0 rfl (a9 mi _))) (zp (zV (ph (zM (zy (zR (zj (zc rfl) rfl yw) rfl) (Ce (.num k bk) _))))) (zP (zj (zc rfl) (zj rfl (zy (zF (zj (zj (zc rfl) rfl yw) rfl (rq _ _))) (Fi _)) (kA _ _)) IX)))))))))
      obtain ⟨s2,F2,k2⟩:=LB (z4:=some .non) (z5:=some (cI a.v x.v y.v)) (z6:=some (dG (.int k))) (z7:=z7) j m (by omega) (by omega) T1 K1 q3 (by simp;omega) (by omega)
      rw [j6] at F2
      exact ⟨s2,vc rfl BD F2,k1.trans k2⟩
     by_cases k0:k=0
     ·subst k0
      have Cy:gz P LL N' c2 E' D':=⟨C1.at_,C1.ke.mono (by omega),C1.kd.mono (by omega)⟩
      obtain ⟨L2,e2,E2,M2,⟨X2,x2,JP⟩,u2,m2,q2,LB⟩:=iy (E:=E') (D:=D') (n:=n) (gq.mono (by omega)) Cy JM JN (by omega) (by omega) (by omega)
      exact ⟨L++L2,e2,E2,.second G se JO (by omega) M2,⟨X1++X2,by rw [x2,x1,j6],by simp;omega⟩,u2,JK sm m2,q2.le (by omega),GO (@LB) (by omega) (by omega) (zw rfl)⟩
     ·obtain ⟨L2,e2,E2,M2,⟨X2,x2,JP⟩,u2,m2,q2,LB⟩:=ix (E:=E') (D:=D') (n:=n) gq C1 JL pQ (by omega) (by omega) (by omega)
      exact ⟨L++L2,e2,E2,.first G se k0 M2,⟨X1++X2,by rw [x2,x1,j6],by simp;omega⟩,u2.mono (by omega),JK sm m2,q2.le (by omega),GO (@LB) (by omega) (by omega) (zI k0)⟩
   |late z ez h1 se vo =>
    obtain ⟨L1,e1,E1,M1,⟨X2,x2,JP⟩,u2,m1,r1,Yr⟩:=ix (E:=E') (D:=D') (n:=n) gq C1 JL pQ (by omega) (by omega) (by omega)
    have Cy:gz P LL N' c2 E1 D':=⟨λw hw=>by
     rw [x2]
     rcases C1.at_ w hw with ⟨g1,g2,g3⟩|⟨g1,v,hv,g2,g3⟩
     ·exact .inl ⟨g1,vh g2,g3⟩
     ·exact .inr ⟨g1,v,hv,vh g2,g3⟩,u2,C1.kd.mono (by omega)⟩
    obtain ⟨L2,e2,E2,M2,⟨X3,x3,Z8⟩,u3,m2,r2,Ys⟩:=iy (E:=E1) (D:=D') (n:=n) (gq.mono (by omega)) Cy JM JN (by omega) (by omega) (by omega)
    refine ⟨L,cI a.v (bC L1 e1) (bC L2 e2),E2,.both G se JO (by omega) M1 M2,⟨X1++X2++X3,by rw [x3,x2,x1];simp,by simp;omega⟩,u3,sm,Yi (Cg Yp.2.2.2) m1 r1 m2 r2 (by omega),λ{s th lf K z4 z5 z6 z7} j m dj dm q1 q2 q3 q4 q5=>?_⟩
    rw [vn] at q4 q5
    have Yq:max x.dp y.dp+1<=j+1:=dj
    have dx:1<=x.dp:=by cases x<;>simp [Bk.dp]
    obtain ⟨j,rfl⟩:∃i,j=i+1:=⟨j-1,by omega⟩
    obtain ⟨m,rfl⟩:∃i,m=i+1:=⟨m-1,by simp [Bk.dp] at dm;omega⟩
    obtain ⟨s1,F,T1,K1,k1⟩:=my (@LS) q1 q2 q3 (by simp;omega) (by simp;omega)
    have DC:∀{s:aa},s[th]?=some (dD D')->nF [.ref th] s=.ok (.ref s.length) (s++[dD D']):=λ{s} h=>by
     show jm s th _=_
     rw [AV h]
    have o2:Old s1 (s1++[dD D']):=zY _ _
    obtain ⟨s3,F3,k3⟩:=Co (s:=s1++[dD D']) (th:=s1.length) (@Yr) (j:=j) (by omega) (by omega) (ym _ _) (by omega) (by omega)
    have o3:Old s1 s3:=λm so e=>k3 _ _ (by simp;have:=yh e;omega) (o2 _ _ e)
    have o4:Old s3 (s3++[dD D']):=zY _ _
    obtain ⟨s5,F5,k5⟩:=Co (s:=s3++[dD D']) (th:=s3.length) (@Ys) (j:=j) (by omega) (by omega) (ym _ _) (by omega) (by omega)
    have o5:Old s3 s5:=λm so e=>k5 _ _ (by simp;have:=yh e;omega) (o4 _ _ e)
    have K3:=o3 _ _ K1
    have Yt:(mB (zf zZ (zf zk (za 6) (Ar 0)) (As "of"))) (eZ (Bk.ite ss a x y).v th hd lf (some .non) (some (cI a.v x.v y.v)) (some a.v) z7) s1=.ok true s1:=by rw [ez];exact q0 rfl (dF _)
    exact ⟨s5,nZ rfl (zp (zP (zy (jI (zj (zc rfl) rfl yM) (zc rfl) (zc rfl) (zc rfl)) F)) (zp (zV (zM (zj (zc rfl) rfl rfl))) (zp (zP (zj (zc rfl) rfl yw)) (zp (zV (q0 rfl (a9 sk _))) (zp (zP (zy (zR (zj (zc rfl) rfl yw) (zc rfl)) (vo _ _ T1))) (zp (zV (q0 rfl (a9 sr _))) (yJ (yB Yt (zp (zP (zy (wj (zj (zc rfl) rfl jP) (zy (zF (zc rfl)) (DC T1)) (zc rfl)) F3)) (zT (ya (zR (zy (zF (zc rfl)) (by rw [jS,yv K3])) (ya (jI rfl (zc rfl) (zc rfl) (zy (wj (zj (zc rfl) rfl wT) (zy (zF (zc rfl)) (DC (o3 _ _ T1))) (zc rfl)) F5)) (by simp))) (by simp)))))))))))),k1.trans (o3.kx.trans o5.kx)⟩
end
theorem wn {x:Int}{j:Nat}(hj:0<j) (st:aa):∃b:Nat,b<j/\yF (.int x) (.int (j:Int)) st=.ok (.int (b:Int)) st:=by
 obtain ⟨b,hb,e⟩:=uV x j hj
 exact ⟨b,hb,(AX _ _ (by omega)).trans (by rw [e])⟩
theorem JQ (c:Int) (s:aa):∃n:Int,n.natAbs<10 ^ 18/\pq [.int c] s=.ok (.int n) s:=by
 obtain ⟨a,ha,MA⟩:=wn (x:=c) (j:=8) (by decide) s
 have D8:jh (.int c) (.int 8) s=.ok (.int (y0 c 8)) s:=iC _ _ (by decide) (by decide)
 by_cases h:a=7
 ·have c2:cY 2 1000000000000000000=true:=by decide
  obtain ⟨b,hb,MB⟩:=wn (x:=y0 c 8) (j:=1999999999999999999) (by decide) s
  have MB:yF (.int (y0 c 8)) (.int (2*1000000000000000000-1)) s=.ok (.int (b:Int)) s:=MB
  exact ⟨(b:Int)-999999999999999999,by omega,zX rfl (yJ (yB (zM (zj (zj (zc rfl) rfl MA) rfl (dW true (by simp [h]) _))) (zT (zj (zj (zj (zc rfl) rfl D8) (zj (zj rfl (zj rfl rfl (Cf _)) (nH _ _ c2)) rfl (ro _ _)) MB) (zj (zj rfl rfl (Cf _)) rfl (ro _ _)) (ro _ _)))))⟩
 ·obtain ⟨b,hb,MB⟩:=wn (x:=y0 c 8) (j:=6) (by decide) s
  exact ⟨(b:Int)-1,by omega,zX rfl (zp (zV (zM (zj (zj (zc rfl) rfl MA) rfl (dW false (yP (by omega)) _)))) (zT (zj (zj (zj (zc rfl) rfl D8) rfl MB) rfl (ro _ _))))⟩
def oy {s:aa}{M:Nat}{xs:An}{v:PV}(h:s[M]?=some (.lst xs)) (hv:xs[xs.length-1]?=some v):zk (.ref M) (.int (-1)) s=.ok v s:=by
 show yu s M _=_
 rw [yv h,iL hv]
 rfl
theorem Cp {s:aa}{M:Nat}{N:Ad}(hM:s[M]?=some (.lst (N.map PV.str))) (hN:0<N.length) (c:Int):∃a:At,kI [.int c,.ref M] s=.ok a.v s/\WA N a:=by
 obtain ⟨a,ha,MA⟩:=wn (x:=c) (j:=5) (by decide) s
 have D5:jh (.int c) (.int 5) s=.ok (.int (y0 c 5)) s:=iC _ _ (by decide) (by decide)
 by_cases h0:a=0
 ·obtain ⟨n,hn,NN⟩:=JQ (y0 c 5) s
  exact ⟨.is n,zX rfl (yJ (yB (zM (zj (zj (zc rfl) rfl MA) rfl (dW true (by simp [h0]) _))) (zT (ya (zR rfl (zy (zF (zj (zc rfl) rfl D5)) NN)) (by simp))))),hn⟩
 ·have T0:(mB (zf zZ (zf yF (za 0) (Ar 5)) (Ar 0))) [some (.int c),Au M] s=.ok false s:=zM (zj (zj (zc rfl) rfl MA) rfl (dW false (yP (by omega)) _))
  by_cases h1:a=1
  ·have lt:N.length-1<N.length:=by omega
   have IL:zk (.ref M) (.int (-1)) s=.ok (.str (N[N.length-1]'lt)) s:=oy hM (by rw [jD,y3,yx lt];rfl)
   exact ⟨.of (N[N.length-1]'lt),zX rfl (zp (zV T0) (yJ (yB (zM (zj (zj (zc rfl) rfl MA) rfl (dW true (by simp [h1]) _))) (zT (ya (zR rfl (zj (zc rfl) (yX rfl rfl) IL)) (by simp)))))),pW lt⟩
  ·obtain ⟨j,hj,MJ⟩:=wn (x:=y0 c 5) (j:=N.length) hN s
   have LN:yH [.ref M] s=.ok (.int (N.length:Int)) s:=(bo hM).trans (by rw [jD])
   have I:zk (.ref M) (.int (j:Int)) s=.ok (.str (N[j]'hj)) s:=gr hM (by rw [y3,yx hj];rfl)
   exact ⟨.of (N[j]'hj),zX rfl (zp (zV T0) (zp (zV (zM (zj (zj (zc rfl) rfl MA) rfl (dW false (yP (by omega)) _)))) (zT (ya (zR rfl (zj (zc rfl) (zj (zj (zc rfl) rfl D5) (zy (zF (zc rfl)) LN) MJ) I)) (by simp))))),pW hj⟩
abbrev JR:Ad:=["div", "down", "add", "mul", "same"]
def Yu (k:Nat) (h:k<5):(JR.map PV.str)[k]?=some (.str (dB k)):=by
 match k,h with
 |0,_=>rfl
 |1,_=>rfl
 |2,_=>rfl
 |3,_=>rfl
 |4,_=>rfl
 |k+5,h=>omega
theorem Yv (k:Nat) (h:k<5):decide (dB k = "down")=decide (k=1):=by
 match k,h with
 |0,_=>decide +kernel
 |1,_=>decide +kernel
 |2,_=>decide +kernel
 |3,_=>decide +kernel
 |4,_=>decide +kernel
 |k+5,h=>omega
abbrev bT:Aj:=(zt (zQ 5 (zf wB (zf yG (zf jh (za 0) (Ar 4)) (Ar 1)) (zf yG (Ar 48271) (zf wB (Ar 2) (za 4)))))
  (zt (zQ 6 (zf zk (jA (pd ["div", "down", "add", "mul", "same"])) (zf yF (zf jh (za 5) (Ar 7)) (Ar 5))))
  (zt (zQ 7 (zU (zd (zq kI (zd (zf yF (za 5) (Ar 1009)) (zd (za 1) zh))) (zd (zq kI (zd (zf yF (zf jh (za 5) (Ar 11)) (Ar 2003)) (zd (za 1) zh))) zh))))
  (zt (zW (mB (zf zZ (za 6) (As "down")))
  (zQ 7 (kg (za 7) gQ (dc (Ar 1))))
  z0)
  (zt (je (jr jp (za 2) (Ar 0)))
  (zt (je (jr jp (za 1) (zf yG (As "s") (zq wY (zd (zq yH (zd (za 2) zh)) zh)))))
  (je (jr jp (za 3) (zU (zd (As "let") (zd (zf zk (za 1) (yq oU (Ar 1))) (zd (za 6) (zd (za 7) zh)))))))))))))
abbrev eT (cl:Int) (M Q R:Nat) (z4 z5 z6 z7:Ao):zb:=[some (.int cl),Au M,Au Q,Au R,z4,z5,z6,z7]
abbrev zs (c:Nat):An:=List.replicate c (.int 0)
def Yw {N N':Ad}{c c':Nat}{ss:List St}{t:St}(h:WS N c ss N' c'):WA N' t.a->WA N' t.b->t.k<5->t.z=sN (c'+1)->WS N c (ss++[t]) (N'++[t.z]) (c'+1):=by
 induction h with
 |nil N c=>exact λa b k z=>.cons a b k z (.nil _ _)
 |cons h1 h2 h3 h4 _ ih=>exact λa b k z=>.cons h1 h2 h3 h4 (ih a b k z)
structure Dr (N0:Ad) (c0 M Q R:Nat) (ss:List St) (N:Ad) (c:Nat) (s0 s:aa):Prop where
 atR:s[R]?=some (.lst (ss.map St.v))
 atM:s[M]?=some (.lst (N.map PV.str))
 atQ:s[Q]?=some (.lst (zs c))
 w:WS N0 c0 ss N c
 k:Kx [R,M,Q] s0 s
theorem JS {i:Nat} (hi:i<=1000) (s:aa):yG (.str "s") (.str (kT i)) s=.ok (.str (sN i)) s:=ad _ _ (by
 have l1:("s" : Str).length=1:=by decide +kernel
 have:=JA (n:=i) (by omega)
 omega) s
theorem Yx {N0 N:Ad}{c0 c M Q R i:Nat}{ss:List St}{s0 s:aa}{cl:Int}{z5 z6 z7:Ao}(G:Dr N0 c0 M Q R ss N c s0 s) (ne:M≠Q/\M≠R/\Q≠R) (hN:0<N.length) (hc:c<=900) (hn:N.length<=900) (hi:i<=900) (hs:ss.length<=900):∃t gu hG hU s1,bT (eT cl M Q R (Av i) z5 z6 z7) s=.ok (.nx (eT cl M Q R (Av i) gu hG hU)) s1/\Dr N0 c0 M Q R (ss++[t]) (N++[t.z]) (c+1) s0 s1:=by
 obtain ⟨n1,n2,n3⟩:=ne
 have c1:cY 2 (i:Int)=true:=by simp only [cY,Bool.or_eq_true,jZ,iS];omega
 have c2:cY (y0 cl 4+1) (48271+2*(i:Int))=true:=by simp only [cY,Bool.or_eq_true,jZ,iS];omega
 obtain ⟨v,hv⟩:∃v,v=(y0 cl 4+1)*(48271+2*(i:Int)):=⟨_,rfl⟩
 have E5:(zf wB (zf yG (zf jh (za 0) (Ar 4)) (Ar 1)) (zf yG (Ar 48271) (zf wB (Ar 2) (za 4)))) (eT cl M Q R (Av i) z5 z6 z7) s=.ok (.int v) s:=by
  rw [hv]
  exact zj (zj (zj (zc rfl) rfl (iC _ _ (by decide) (by decide))) rfl (kA _ _)) (zj rfl (zj rfl (zc rfl) (nH _ _ c1)) (kA _ _)) (nH _ _ c2)
 let s1:=s++[SO.lst (JR.map PV.str)]
 have o1:Old s s1:=zY _ _
 have R1:=o1 _ _ G.atR
 have M1:=o1 _ _ G.atM
 have Q1:=o1 _ _ G.atQ
 obtain ⟨k,hk,MK⟩:=wn (x:=y0 v 7) (j:=5) (by decide) s1
 have W:(zf zk (jA (pd ["div", "down", "add", "mul", "same"])) (zf yF (zf jh (za 5) (Ar 7)) (Ar 5))) (eT cl M Q R (Av i) (some (.int v)) z6 z7) s=.ok (.str (dB k)) s1:=zj (s1:=s1) (x:=.ref s.length) rfl (zj (zj (zc rfl) rfl (iC _ _ (by decide) (by decide))) rfl MK) (gr (ym _ _) (Yu k hk))
 obtain ⟨a1,Z9,MA⟩:=wn (x:=v) (j:=1009) (by decide) s1
 obtain ⟨a2,Z_,MB⟩:=wn (x:=y0 v 11) (j:=2003) (by decide) s1
 obtain ⟨a,A,wa⟩:=Cp M1 hN (a1:Int)
 obtain ⟨b,B,wb⟩:=Cp M1 hN (a2:Int)
 have A7:(zU (zd (zq kI (zd (zf yF (za 5) (Ar 1009)) (zd (za 1) zh))) (zd (zq kI (zd (zf yF (zf jh (za 5) (Ar 11)) (Ar 2003)) (zd (za 1) zh))) zh))) (eT cl M Q R (Av i) (some (.int v)) (some (.str (dB k))) z7) s1=.ok (.tup [a.v,b.v]) s1:=ya (zR (zy (zR (zj (zc rfl) rfl MA) (zc rfl)) A) (zy (zR (zj (zj (zc rfl) rfl (iC _ _ (by decide) (by decide))) rfl MB) (zc rfl)) B)) (by simp)
 have Yy:(zW (mB (zf zZ (za 6) (As "down"))) (zQ 7 (kg (za 7) gQ (dc (Ar 1)))) z0) (eT cl M Q R (Av i) (some (.int v)) (some (.str (dB k))) (some (.tup [a.v,b.v]))) s1=.ok (.nx (eT cl M Q R (Av i) (some (.int v)) (some (.str (dB k))) (some (.tup (arg k a.v b.v))))) s1:=by
  have T:(mB (zf zZ (za 6) (As "down"))) (eT cl M Q R (Av i) (some (.int v)) (some (.str (dB k))) (some (.tup [a.v,b.v]))) s1=.ok (decide (k=1)) s1:=zM (zj (zc rfl) rfl (eqs _ _ _ (Yv k hk) _))
  by_cases h:k=1
  ·rw [jk h] at T
   have e:arg k a.v b.v=[a.v]:=zw h
   rw [e]
   exact yB T (zP (F0 (zc rfl) R7 (AW rfl) (by rw [QI];rfl)))
  ·rw [yP h] at T
   have e:arg k a.v b.v=[a.v,b.v]:=zI h
   rw [e]
   exact zV T
 let t:St:=⟨sN (c+1),k,a,b⟩
 let s2:=s1.set Q (.lst (zs c++[.int 0]))
 have Yz:jp (.ref Q) (.int 0) s1=.ok .non s2:=iH Q1 (by simp;omega)
 have Q2:s2[Q]?=some (.lst (zs (c+1))):=by show (s1.set Q _)[Q]?=_;rw [yZ (yh Q1),<-List.replicate_succ']
 have M2:s2[M]?=some (.lst (N.map PV.str)):=by show (s1.set Q _)[M]?=_;rw [yr (yz n1)];exact M1
 have R2:s2[R]?=some (.lst (ss.map St.v)):=by show (s1.set Q _)[R]?=_;rw [yr n3];exact R1
 have LQ:yH [.ref Q] s2=.ok (.int ((c+1:Nat):Int)) s2:=(bo Q2).trans (by simp)
 let s3:=s2.set M (.lst (N.map PV.str++[.str (sN (c+1))]))
 have YA:jp (.ref M) (.str (sN (c+1))) s2=.ok .non s3:=iH M2 (by simp;omega)
 have M3:s3[M]?=some (.lst ((N++[t.z]).map PV.str)):=by show (s2.set M _)[M]?=_;rw [yZ (yh M2),wW];rfl
 have Q3:s3[Q]?=some (.lst (zs (c+1))):=by show (s2.set M _)[Q]?=_;rw [yr n1];exact Q2
 have R3:s3[R]?=some (.lst (ss.map St.v)):=by show (s2.set M _)[R]?=_;rw [yr n2];exact R2
 have IL:zk (.ref M) (.int (-1)) s3=.ok (.str (sN (c+1))) s3:=oy M3 (by simp [t])
 let s4:=s3.set R (.lst (ss.map St.v++[t.v]))
 have YB:jp (.ref R) t.v s3=.ok .non s4:=iH R3 (by simp;omega)
 refine ⟨t,_,_,_,s4,zp (zP E5) (zp (zP W) (zp (zP A7) (zp Yy (zp (wI (wZ (zc rfl) Q1 rfl Yz)) (zp (wI (wZ (zc rfl) M2 (zj rfl (zy (zF (zy (zF (zc rfl)) LQ)) (B8 (by omega) s2)) (JS (by omega) s2)) YA)) (wI (wZ (zc rfl) R3 (ya (jI rfl (zj (zc rfl) (yX rfl rfl) IL) (zc rfl) (zc rfl)) (by simp)) YB))))))),⟨?_,?_,?_,Yw G.w wa wb hk rfl,?_⟩⟩
 ·show (s3.set R _)[R]?=_
  rw [yZ (yh R3),wW];rfl
 ·show (s3.set R _)[M]?=_
  rw [yr (yz n2)];exact M3
 ·show (s3.set R _)[Q]?=_
  rw [yr (yz n3)];exact Q3
 ·exact G.k.trans (o1.kx.trans ((jY (by simp)).trans ((jY (by simp)).trans (jY (by simp)))))
theorem YC {s:aa}{M Q c:Nat}{N:Ad}(cl:Int) (hM:s[M]?=some (.lst (N.map PV.str))) (hQ:s[Q]?=some (.lst (zs c))) (ne:M≠Q) (hN:0<N.length) (hc:c<=800) (hn:N.length<=800):∃ss N' c' s1,Bh [.int cl,.ref M,.ref Q] s=.ok (.tup (ss.map St.v)) s1/\WS N c ss N' c'/\s1[M]?=some (.lst (N'.map PV.str))/\s1[Q]?=some (.lst (zs c'))/\Kx [M,Q] s s1/\ss.length<=3:=by
 let s0:=s++[SO.lst []]
 have o0:Old s s0:=zY _ _
 have lM:=yh hM
 have lQ:=yh hQ
 obtain ⟨j,hj,MJ⟩:=wn (x:=cl) (j:=4) (by decide) s0
 obtain ⟨e',s1,F,z4,z5,z6,z7,he,ss,N',c',JT,G⟩:=VU (gt:=gN 4) (body:=bT) (fs:=(zd (zf yF (za 0) (Ar 4)) zh)) (e:=eT cl M Q s.length none none none none) (st:=s0) (λi e st=>∃z4 z5 z6 z7,e=eT cl M Q s.length z4 z5 z6 z7/\∃ss N' c',ss.length=i/\Dr N c M Q s.length ss N' c' s0 st) j (by omega) (zF (zj (zc rfl) rfl MJ)) (λi e st hi ⟨z4,z5,z6,z7,he,ss,N',c',JT,G⟩=>by
  subst he
  have wl:=G.w.le
  obtain ⟨t,gu,hG,hU,s1,B,G'⟩:=Yx (cl:=cl) (i:=i) (z5:=z5) (z6:=z6) (z7:=z7) G ⟨ne,by omega,by omega⟩ (by omega) (by omega) (by omega) (by omega) (by omega)
  exact ⟨_,_,s1,rfl,B,_,gu,hG,hU,rfl,ss++[t],_,_,by simp [JT],G'⟩) ⟨none,none,none,none,rfl,[],N,c,rfl,⟨ym _ _,o0 _ _ hM,o0 _ _ hQ,.nil _ _,Kx.refl _ _⟩⟩
 subst he
 refine ⟨ss,N',c',s1,zX rfl (zp (zP (wJ jO (by simp))) (zp F (zT (zy (zF (zc rfl)) (by rw [jS,yv G.atR]))))),G.w,G.atM,G.atQ,λm so q e=>G.k _ _ ?_ (o0 _ _ e),by omega⟩
 have:=yh e
 simp at q ⊢
 omega
theorem YD {s:aa}{C:Nat}{cs:List Int}(hC:s[C]?=some (.lst (cs.map PV.int))) (k:Nat):∃c,wS [.ref C,.int (k:Int)] s=.ok (.int c) s:=by
 have L:yH [.ref C] s=.ok (.int (cs.length:Int)) s:=(bo hC).trans (by rw [jD])
 by_cases h:k<cs.length
 ·have ix:zk (.ref C) (.int (k:Int)) s=.ok (.int (cs[k]'h)) s:=gr hC (by rw [y3,yx h];rfl)
  exact ⟨_,zX rfl (yJ (yB (zM (zj (zc rfl) (zy (zF (zc rfl)) L) (f7 true (by simp;omega) _))) (zT (zj (zc rfl) (zc rfl) ix))))⟩
 ·exact ⟨0,zX rfl (zp (zV (zM (zj (zc rfl) (zy (zF (zc rfl)) L) (f7 false (by simp;omega) _)))) (zT rfl))⟩
theorem YE:wl.length=3:=by decide +kernel
theorem Cr {C Q:Nat}{cs:List Int}:∀(n at_:Nat) {s:aa}{M c:Nat}{N:Ad},((7<=at_/\1<=n)\/(3<=at_/\2<=n)\/(1<=at_/\3<=n)\/4<=n)->n<=5->s[C]?=some (.lst (cs.map PV.int))->s[M]?=some (.lst (N.map PV.str))->s[Q]?=some (.lst (zs c))->M≠Q->M≠C->Q≠C->0<N.length->c+3*2 ^ n<=500->N.length+3*n<=500->at_<=1000 ->
  ∃b c' s1,iE n [.ref C,.int (at_:Int),.ref M,.ref Q] s=.ok b.v s1/\WB N c b c'/\s1[Q]?=some (.lst (zs c'))/\Kx [M,Q] s s1/\b.dp<=n/\b.st.length<=3*(2 ^ n-1)/\b.ln.length<=4*(2 ^ n-1)
 |0,at_,s,M,c,N,h,_,_,_,_,_,_,_,_,_,_,_=>by omega
 |n+1,at_,s,M,c,N,h,n5,hC,hM,hQ,n1,n2,n3,hN,hc,hn,ha=>by
  have pw:1<=2 ^ n:=Nat.one_le_two_pow
  have pw2:2 ^ (n+1)=2*2 ^ n:=by rw [Nat.pow_succ];omega
  obtain ⟨cl,CL⟩:=YD hC at_
  obtain ⟨ss,N',c1,s1,E1,w,M1,Q1,k1,l3⟩:=YC (y0 cl 7) hM hQ n1 hN (by omega) (by omega)
  have wle:=w.le
  have C1:=k1 _ _ (by simp;omega) hC
  obtain ⟨x3,hx3,MX⟩:=wn (x:=y0 cl 3) (j:=3001) (by decide) s1
  obtain ⟨a,A,wa⟩:=Cp M1 (by omega) (x3:Int)
  obtain ⟨m7,hm7,M7⟩:=wn (x:=cl) (j:=7) (by decide) s1
  have PRE:∀{X:Res Fl},Hm (iE n) [Au C,Av at_,Au M,Au Q,some (.int cl),some (.tup (ss.map St.v)),some a.v,none,none] s1=X->Hn (iE n) [Au C,Av at_,Au M,Au Q,none,none,none,none,none] s=X:=λhX=>zp (zP (zy (zR (zc rfl) (zc rfl)) CL)) (zp (zP (zy (wj (zj (zc rfl) rfl (iC _ _ (by decide) (by decide))) (zc rfl) (zc rfl)) E1)) (zp (zP (zy (zR (zj (zj (zc rfl) rfl (iC _ _ (by decide) (by decide))) rfl MX) (zc rfl)) A)) hX))
  have T1:∀t,decide ((at_:Int)<7)=t->(mB (zf jX (za 1) (Ar 7))) [Au C,Av at_,Au M,Au Q,some (.int cl),some (.tup (ss.map St.v)),some a.v,none,none] s1=.ok t s1:=λt h=>zM (zj (zc rfl) rfl (f7 t h _))
  have T2:∀t,decide ((1:Int)<(m7:Int))=t->(mB (zf nr (zf yF (za 4) (Ar 7)) (Ar 1))) [Au C,Av at_,Au M,Au Q,some (.int cl),some (.tup (ss.map St.v)),some a.v,none,none] s1=.ok t s1:=λt h=>zM (zj (zj (zc rfl) rfl M7) rfl (VQ t h _))
  by_cases hi:at_<7/\1<m7
  ·let s2:=s1++[SO.lst (N'.map PV.str)]
   have o2:Old s1 s2:=zY _ _
   have lQ1:=yh Q1
   have lC1:=yh C1
   have lM1:=yh M1
   have YF:wH [.ref M] s1=.ok (.ref s1.length) s2:=BA M1
   obtain ⟨bx,c2,s3,E3,wx,Q3,k3,d3,t3,u3⟩:=Cr (C:=C) (Q:=Q) (cs:=cs) n (2*at_+1) (s:=s2) (M:=s1.length) (c:=c1) (N:=N') (by omega) (by omega) (o2 _ _ C1) (ym _ _) (o2 _ _ Q1) (by omega) (by omega) n3 (by omega) (by omega) (by omega) (by omega)
   have wxl:=wx.le
   have C3:=k3 _ _ (by simp;omega) (o2 _ _ C1)
   have M3:=k3 _ _ (by simp;omega) (o2 _ _ M1)
   let s4:=s3++[SO.lst (N'.map PV.str)]
   have o4:Old s3 s4:=zY _ _
   have lQ3:=yh Q3
   have lC3:=yh C3
   have YG:wH [.ref M] s3=.ok (.ref s3.length) s4:=BA M3
   obtain ⟨b2,c3,s5,E5,wy,Q5,k5,d5,t5,u5⟩:=Cr (C:=C) (Q:=Q) (cs:=cs) n (2*at_+2) (s:=s4) (M:=s3.length) (c:=c2) (N:=N') (by omega) (by omega) (o4 _ _ C3) (ym _ _) (o4 _ _ Q3) (by omega) (by omega) n3 (by omega) (by omega) (by omega) (by omega)
   have JU:cY 2 (at_:Int)=true:=by simp only [cY,Bool.or_eq_true,jZ,iS];omega
   refine ⟨.ite ss a bx b2,c3,s5,show rD (iE n) [.ref C,.int (at_:Int),.ref M,.ref Q] s=_ from zX rfl (PRE (yJ (yB (ky (T1 true (jk (by omega))) (T2 true (jk (by omega)))) (zp (zP (zy (jI (zc rfl) (zj (zj rfl (zc rfl) (nH _ _ JU)) rfl (kA _ _)) (zy (zF (zc rfl)) YF) (zc rfl)) E3)) (zp (zP (zy (jI (zc rfl) (zj (zj rfl (zc rfl) (nH _ _ JU)) rfl (kA _ _)) (zy (zF (zc rfl)) YG) (zc rfl)) E5)) (zT (ya (zR (zc rfl) (ya (jI rfl (zc rfl) (zc rfl) (zc rfl)) (by simp))) (by simp)))))))),.ite w wa wx wy,Q5,λm so q e=>?_,?_,?_,?_⟩
   ·have e1:=k1 _ _ q e
    have l1:=yh e1
    simp at q
    have e3:=k3 _ _ (by simp;omega) (o2 _ _ e1)
    have l3:=yh e3
    exact k5 _ _ (by simp;omega) (o4 _ _ e3)
   ·show max bx.dp b2.dp+1<=n+1;omega
   ·show (ss++bx.st++b2.st).length<=_;simp;omega
   ·show (ss.map St.v++[_]++bx.ln++b2.ln).length<=_;simp;omega
  ·have TF:(j0 (mB (zf jX (za 1) (Ar 7))) (mB (zf nr (zf yF (za 4) (Ar 7)) (Ar 1)))) [Au C,Av at_,Au M,Au Q,some (.int cl),some (.tup (ss.map St.v)),some a.v,none,none] s1=.ok false s1:=by
    by_cases h7:at_<7
    ·exact ky (T1 true (jk (by omega))) (T2 false (yP (by omega)))
    ·exact wQ (T1 false (yP (by omega)))
   by_cases h0:m7=0
   ·let s2:=s1++[SO.lst (wl.map PV.str)]
    have o2:Old s1 s2:=zY _ _
    obtain ⟨j,hj,MJ⟩:=wn (x:=y0 cl 7) (j:=3) (by decide) s2
    obtain ⟨w0,YH⟩:∃w0:Str,((wl.map PV.str)[j]?=some (.str w0)):=⟨_,by rw [y3,yx (show j<wl.length by rw [YE];exact hj)];rfl⟩
    have WD:(zf zk (jA (pd wl)) (zf yF (zf jh (za 4) (Ar 7)) (Ar 3))) [Au C,Av at_,Au M,Au Q,some (.int cl),some (.tup (ss.map St.v)),some a.v,none,none] s1=.ok (.str w0) s2:=zj (s1:=s2) (x:=.ref s1.length) rfl (zj (zj (zc rfl) rfl (iC _ _ (by decide) (by decide))) rfl MJ) (gr (ym _ _) YH)
    refine ⟨.fail ss w0,c1,s2,show rD (iE n) [.ref C,.int (at_:Int),.ref M,.ref Q] s=_ from zX rfl (PRE (zp (zV TF) (yJ (yB (zM (zj (zj (zc rfl) rfl M7) rfl (dW true (by simp [h0]) _))) (zT (ya (zR (zc rfl) (ya (zR rfl WD) (by simp))) (by simp))))))),.fail w,o2 _ _ Q1,k1.trans o2.kx,by simp [Bk.dp],by show ss.length<=_;omega,by show (ss.map St.v++[_]).length<=_;simp;omega⟩
   ·exact ⟨.give ss a,c1,s1,show rD (iE n) [.ref C,.int (at_:Int),.ref M,.ref Q] s=_ from zX rfl (PRE (zp (zV TF) (zp (zV (zM (zj (zj (zc rfl) rfl M7) rfl (dW false (yP (by omega)) _)))) (zT (ya (zR (zc rfl) (ya (zR rfl (zc rfl)) (by simp))) (by simp)))))),.give w wa,Q1,k1,by simp [Bk.dp],by show ss.length<=_;omega,by show (ss.map St.v++[_]).length<=_;simp;omega⟩
theorem Cs (p:Nat->Bool) (z:Str):∀(l:Ad) (i:Nat),picks p i (l++[z])=picks p i l++(if p (i+l.length) then [z] else [])
 |[],i=>by simp [picks]
 |y::r,i=>by
  have:=Cs p z r (i+1)
  rw [List.cons_append]
  unfold picks
  rw [this,wM,show i+1+r.length=i+(r.length+1) by omega]
  cases p i<;>simp
theorem Ct (p:Nat->Bool):∀(l:Ad) (i:Nat),(picks (λj=>!p j) i l++picks p i l).Perm l
 |[],_=>.nil
 |z::r,i=>by
  have ih:=Ct p r (i+1)
  unfold picks
  cases p i
  ·exact .cons _ ih
  ·exact List.perm_middle.trans (.cons _ ih)
def JV {b:Int}(hb:0<=b) (j:Nat) (s:aa):iB (.int b) (.int (j:Int)) s=.ok (.int (b/2 ^ j)) s/\iA (.int (b/2 ^ j)) (.int 1) s=.ok (.int (b/2 ^ j%2)) s:=by
 have hc:lR b (j:Int)=true:=by simp [lR]
 have nn:0<=b/2 ^ j:=Int.ediv_nonneg hb (Int.pow_nonneg (by decide))
 refine ⟨?_,?_⟩
 ·show (if lR b (j:Int)=true then Res.ok (PV.int (b/2 ^ (j:Int).toNat)) s else .stuck)=_
  rw [zw hc,Int.toNat_natCast]
 ·show (if c0 (b/2 ^ j) 1=true then Res.ok (PV.int (Builtin.bitAnd (b/2 ^ j) 1)) s else .stuck)=_
  rw [zw rfl,Iq _ nn]
theorem YI (b:Int) (j:Nat):decide (b/2 ^ j%2=0)=!bitAt b j:=by
 unfold bitAt
 have h1:=Int.emod_nonneg (b/2 ^ j) (show (2:Int)≠0 by decide)
 have h2:=Int.emod_lt_of_pos (b/2 ^ j) (show (0:Int)<2 by decide)
 generalize b/2 ^ j%2=x at h1 h2
 by_cases q:x=0
 ·subst q;decide
 ·have:x=1:=by omega
  subst this;decide
theorem JW {ft:Ak}{fe:Ai}{env:zb}{st:aa}{p:Nat->Bool}{n:Nat}(zs:Ad) (hn:st[n]?=some (.lst (zs.map PV.str))) (h:∀(j:Nat) z,ft (some (.int j)::some (.str z)::env) st=.ok (p j) st) (h':∀(j:Nat) z,fe (some (.int j)::some (.str z)::env) st=.ok (.str z) st) :
  ∀(k i m:Nat) (ys:An),i+k=zs.length->k<m->fL ft fe env n m i ys st=.ok (.ref st.length) (st++[.lst (ys++(picks p i (zs.drop i)).map PV.str)])
 |0,i,m,ys,hk,hm=>by
  obtain ⟨m,rfl⟩:∃j,m=j+1:=⟨m-1,by omega⟩
  unfold fL
  rw [yv hn,oE (by simp;omega),pX (by omega)]
  simp [picks]
 |k+1,i,m,ys,hk,hm=>by
  obtain ⟨m,rfl⟩:∃j,m=j+1:=⟨m-1,by omega⟩
  have hi:i<zs.length:=by omega
  have hx:(zs.map PV.str)[i]?=some (.str (zs[i]'hi)):=by rw [y3,yx hi];rfl
  have ih:=JW (ft:=ft) (fe:=fe) (env:=env) (p:=p) zs hn h h' k (i+1) m
  unfold fL
  rw [yv hn,hx]
  simp only
  rw [h i _,j1,zH,w9 hi]
  unfold picks
  cases hp:p i with
  |true =>
   rw [zw rfl,zw rfl,h' i _,j1,zH,ih _ (by omega) (by omega)]
   simp
  |false=>rw [zI (by simp),zI (by simp),ih _ (by omega) (by omega)]
theorem JX {g:PV->zb->Option zb}{body:Aj}{n:Nat}(xs:An) (I:Nat->zb->aa->Prop) (at_:∀i e st,I i e st->st[n]?=some (.lst xs)) (step:∀(i:Nat) x e st,xs[i]?=some x->I i e st->∃e1 e2 au,g (.tup [.int (i:Int),x]) e=some e1/\body e1 st=.ok (.nx e2) au/\I (i+1) e2 au) :
  ∀(k i m:Nat) (env:zb) (st:aa),i+k=xs.length->k<m->I i env st->∃bw bt,ek g body n m i env st=.ok (.nx bw) bt/\I xs.length bw bt
 |0,i,m,env,st,hk,hm,h=>by
  obtain ⟨m,rfl⟩:∃j,m=j+1:=⟨m-1,by omega⟩
  refine ⟨env,st,?_,by rw [<-hk];exact h⟩
  unfold ek
  rw [yv (at_ _ _ _ h),oE (by omega)]
 |k+1,i,m,env,st,hk,hm,h=>by
  obtain ⟨m,rfl⟩:∃j,m=j+1:=⟨m-1,by omega⟩
  have hx:xs[i]?=some (xs[i]'(by omega)):=yx (by omega)
  obtain ⟨e1,e2,au,q1,q2,q3⟩:=step i _ env st hx h
  obtain ⟨bw,bt,r,h2⟩:=JX xs I at_ step k (i+1) m e2 au (by omega) (by omega) q3
  refine ⟨bw,bt,?_,h2⟩
  unfold ek
  rw [yv (at_ _ _ _ h),hx]
  simp only
  rw [q1]
  simp only
  rw [q2]
  simp only [zH]
  exact r
def YJ {fs:Ah}{g:PV->zb->Option zb}{body:Aj}{e:zb}{s0 s:aa}{r:Nat}{xs:An}{X:Res Fl}(hf:fs e s0=.ok [.ref r] s) (h:s[r]?=some (.lst xs)) (hX:ek g body r (lim+1) 0 e s=X):qT fs g body e s0=X:=by
 rw [Rm,hf,zH]
 show ((yu s r _).bind _)=_
 rw [yv h,zH]
 exact hX
def pN (i:Nat):Str := "p" ++ kT i
def bG (m:Nat):Ad:=(List.range m).map pN
def Cu (m:Nat):bG (m+1)=bG m++[pN m]:=by simp [bG,List.range_succ]
def Cw (m:Nat):(bG m).Nodup:=List.Pairwise.map _ (λa b h e=>h (B7 (B9 e))) List.nodup_range
def wo (m:Nat):(bG m).length=m:=by simp [bG]
theorem vp (m:Nat):mx (bG m):=λi h=>by
 obtain ⟨j,_,e⟩:=wq.mp h
 have e:=congrArg (λz:Str=>z.cps.toList.head?) e
 have h1:("p" : Str).cps.toList=[112]:=by decide +kernel
 have h2:("s" : Str).cps.toList=[115]:=by decide +kernel
 simp only [pN,sN,PySem.Str.cps_append,Array.toList_append,h1,h2] at e
 simp at e
def JY (P:Ad):bY P 0 P:=λz h=>.inl h
theorem JZ {α:Type}{z:Str}:∀{l r:List (Str×α)},z∉l.map (·.1)->(l++r).lookup z=r.lookup z
 |[],r,_=>rfl
 | (y,u)::l,r,h=>by
  rw [yK] at h
  rw [List.cons_append,yL,beq_eq_false_iff_ne.mpr (λq=>h (by rw [q];exact ja ..))]
  exact JZ λq=>h (jg _ q)
theorem J1 {z:Str}:∀{L:Ad},z∈L->(e9 L).lookup z=some none
 |y::L,h=>by
  show ((y,none)::e9 L).lookup z=_
  rw [yL]
  cases q:z==y with
  |true=>rfl
  |false =>
   rcases yE.mp h with e|e
   ·rw [e] at q;simp at q
   ·exact J1 e
theorem J2 {z:Str}:∀{D:Dt},z∈D.map (·.1)->∃v,D.lookup z=some v/\(eG D).lookup z=some (some v)/\(z,v)∈D
 | (y,u)::D,h=>by
  show ∃v,((y,u)::D).lookup z=some v/\((y,some u)::eG D).lookup z=some (some v)/\_
  rw [yL,yL]
  cases q:z==y with
  |true=>exact ⟨u,rfl,rfl,by rw [eq_of_beq q];exact ja ..⟩
  |false =>
   rw [yK] at h
   rcases yE.mp h with e|e
   ·rw [e] at q;simp at q
   ·obtain ⟨v,a,b,c⟩:=J2 e
    exact ⟨v,a,b,jg _ c⟩
structure K0 (m:Nat) (b:Int) (D:Dt):Prop where
 ks:D.map (·.1)=picks (λj=>!bitAt b j) 0 (bG m)
 vs:∀p∈D,Vl p.2
def J3 {m:Nat}{b:Int}{D:Dt}(k:K0 m b D):(D.map (·.1)++picks (bitAt b) 0 (bG m)).Nodup:=by
 rw [k.ks]
 exact (Ct (bitAt b) (bG m) 0).nodup_iff.mpr (Cw m)
def YK {m:Nat}{b:Int}{D:Dt}(k:K0 m b D) {r:Ad}{c:Nat}(hr:cf 0 c r):gz (bG m) (picks (bitAt b) 0 (bG m)++r) (bG m) 0 (eG D++e9 (picks (bitAt b) 0 (bG m))) D:=by
 have pm:=Ct (bitAt b) (bG m) 0
 have nd:=J3 k
 have dj:=(List.nodup_append.mp nd).2.2
 have kk:(eG D).map (·.1)=D.map (·.1):=BO D
 refine ⟨λz hz=>?_,λz h=>.inl ?_,λz h=>.inl ?_⟩
 ·have hm:=pm.mem_iff.mpr hz
  rw [<-k.ks] at hm
  rcases yU.mp hm with q|q
  ·obtain ⟨v,e1,e2,e3⟩:=J2 q
   refine .inr ⟨λq'=>?_,v,k.vs _ e3,vh e2,e1⟩
   rcases yU.mp q' with q'|q'
   ·exact dj z q z q' rfl
   ·exact X8 (vp m) hr hz q'
  ·have nz:z∉D.map (·.1):=λq'=>dj z q' z q rfl
   exact .inl ⟨jC _ q,by rw [JZ (by rw [kk];exact nz)];exact J1 q,Ck nz⟩
 ·rw [wW,kk,IQ,k.ks] at h
  exact pm.mem_iff.mp h
 ·rw [k.ks] at h
  exact pm.mem_iff.mp (jC _ h)
theorem YL {hd:Str}{L r:Ad}{l:An}(h:d8 hd L l r):L.Nodup->(L++r).Nodup/\r.length<=l.length:=by
 induction h with
 |nil L=>exact λn=>⟨by rw [List.append_nil];exact n,by simp⟩
 |ed _ _ ih=>exact λn=>⟨(ih n).1,by have:=(ih n).2;simp;omega⟩
 |@yes L r z w as ss _ _ _ hz _ ih =>
  intro n
  have n':(L++[z]).Nodup:=by
   rw [List.nodup_append]
   exact ⟨n,by simp,λa ha b hb e=>hz (by rw [<-jv.mp hb,<-e];exact ha)⟩
  obtain ⟨a,b⟩:=ih n'
  exact ⟨by rw [j6] at a;exact a,by simp;omega⟩
 |no _ _ _ _ ih=>exact λn=>⟨(ih n).1,by have:=(ih n).2;simp;omega⟩
theorem Cz:∀(b:Bk),∀v∈b.ln,Ed v\/∃t∈b.st,v=t.v
 |.give ss a,v,h=>by
  rcases yU.mp h with q|q
  ·obtain ⟨t,ht,rfl⟩:=wq.mp q;exact .inr ⟨t,ht,rfl⟩
  ·rw [jv.mp q];exact .inl (.give _)
 |.fail ss w,v,h=>by
  rcases yU.mp h with q|q
  ·obtain ⟨t,ht,rfl⟩:=wq.mp q;exact .inr ⟨t,ht,rfl⟩
  ·rw [jv.mp q];exact .inl (.fail _)
 |.ite ss a x y,v,h=>by
  rcases yU.mp h with q|q
  ·rcases yU.mp q with q|q
   ·rcases yU.mp q with q|q
    ·obtain ⟨t,ht,rfl⟩:=wq.mp q;exact .inr ⟨t,jC _ (jC _ ht),rfl⟩
    ·rw [jv.mp q];exact .inl (.ite _ _ _)
   ·rcases Cz x v q with q|⟨t,ht,e⟩
    ·exact .inl q
    ·exact .inr ⟨t,jC _ (yR _ ht),e⟩
  ·rcases Cz y v q with q|⟨t,ht,e⟩
   ·exact .inl q
   ·exact .inr ⟨t,yR _ ht,e⟩
def vq:PV->List Nat
 |.int i=>sg i
 |.str z=>("'" ++ z:Str).cps.toList
 |_=>[]
theorem YM:("word" : Str) ≠ "number" := by decide +kernel
theorem YN {v:PV}(h:Vl v):Sh v (vq v):=by
 cases h with
 |num n hn=>exact Ww hn
 |low =>
  have e:("'" ++ "low" : Str)=S (vq (.str "low")):=(r6 _).symm
  have l:("'" : Str).length+("low" : Str).length<=1000000:=by decide +kernel
  have kw:∀st,ma [.str "low"] st=.ok (.str "word") st:=λst=>by kernel_rfl
  refine ⟨by decide +kernel,λmr st=>?_⟩
  rw [<-e]
  exact zX rfl (zp (zP (zy (zF (zc rfl)) (kw st))) (zp (zV (zM (zj (zc rfl) rfl (a9 YM _)))) (yJ (yB (zM (zj (zc rfl) rfl (dF _))) (zT (zj rfl (zc rfl) (ad _ _ l _)))))))
theorem YO {m:Nat}(hm:m<=6) {b:Int}(hb:0<=b) {D:Dt}(k:K0 m b D) {bk:Bk}{c:Nat}(w:WB (bG m) 0 bk c) (d5:bk.dp<=5) (ln:bk.ln.length<=400) (dn:bk.st.length<=400) (hd:Str) :
  ∃L e r,(∀x∈L,bU 3 x)/\bU 12 e/\mz hd D bk L e/\(∀s,∃s1,uU [.tup [cJ "main" (bG m) bk.v],.int b,.tup [.tup [.str "main", .str hd]]] s=.ok (.tup [dA "main" b r]) s1/\Old s s1)/\∀s,∃s1,fh [.tup [cJ "main" (bG m) bk.v],.tup [dA "main" b r],.tup (D.map (·.2)),.int 1] s=.ok (.tup [.tup [nW (bG m) b L e],.tup [cx "main" b (D.map (·.2))]]) s1/\Old s s1:=by
 let P:=picks (bitAt b) 0 (bG m)
 have pl:P.length<=m:=by have:=(wm (p:=bitAt b) (zs:=bG m) (i:=0)).length_le;rw [wo] at this;exact this
 have uP:bY (bG m) 0 P:=λz h=>.inl (wm.subset h)
 obtain ⟨r,J4,past,H⟩:=X9 (hd:=hd) (vp m) w (L:=P) (JY _) uP
 have H0:∀t∈bk.st,lw hd (P++r) t.z t.as=decide (t.z∈r):=λt ht=>by
  have:=H [] ⟨c,λ_ h=>nomatch h⟩ t ht
  rw [List.append_nil] at this
  exact this
 have HL:∀t∈bk.st,t.z∈P++r↔t.z∈r:=λt ht=>by
  obtain ⟨i,_,_,e⟩:=w.ix t ht
  refine ⟨λq=>?_,λq=>yR _ q⟩
  rcases yU.mp q with q|q
  ·have:=wm.subset q
   rw [e] at this
   exact absurd this (vp m i)
  ·exact q
 obtain ⟨L,e,E',M,⟨X,x1,x2⟩,_,sm,se,LB⟩:=Yj (n:=5) (vp m) w (JY _) (YK k past) H0 HL d5 (by omega) (by omega)
 have nd:=YL J4 ((Cw m).sublist wm)
 have rl:=nd.2
 have YQ:r.Nodup:=(List.nodup_append.mp nd.1).2.1
 have dl:D.length<=m:=by
  have h:=congrArg List.length k.ks
  have h2:=(wm (p:=λj=>!bitAt b j) (zs:=bG m) (i:=0)).length_le
  rw [wo] at h2
  simp at h
  omega
 have El:E'.length<=900:=by
  rw [x1]
  have:P.length=(e9 P).length:=by simp [e9]
  simp only [iO,eG,e9,jD]
  show D.length+P.length+X.length<=900
  omega
 have sh:∀s,∃s1,kJ 3 [.tup (D.map (·.2))] s=.ok (.str (S (brk ((D.map (·.2)).map vq)))) s1/\Old s s1:=λs=>Wx (by simp) (by simp;omega) (λi v l hv hl=>by
  rw [y3,hv] at hl
  cases hl
  obtain ⟨p,hp,rfl⟩:=wq.mp (kW hv)
  exact YN (k.vs p hp)) s
 have O:One "main" (bG m) b D bk.v r L e (S (brk ((D.map (·.2)).map vq))):=⟨hb,k.ks.symm,by rw [wo];exact hm,YQ,by omega,J3 k,⟨E',M,El⟩,sh⟩
 have J5:=vf bk d5
 have BR:∀s,∃s1,rJ [.tup [cJ "main" (bG m) bk.v],.tup [dA "main" b r]] s=.ok .non s1/\Old s s1:=λs=>XI hb (by rw [wo];exact hm) nd.1 J5 (λv hv=>by
  rcases Cz bk v hv with q|⟨t,ht,e⟩
  ·exact .inl q
  ·refine .inr ⟨t.z,dB t.k,t.as,e,(nX t).1,(nX t).2,λq=>?_⟩
   have h0:=H0 t ht
   unfold lw at h0
   have q:t.as.any (aR (P++r))=true:=q
   rw [q,Bool.true_or] at h0
   exact yR _ (of_decide_eq_true h0.symm)) (by omega) (by omega) s
 exact ⟨L,e,r,sm,se,@LB,λs=>XD (nz := "main") (hd:=hd) hb (by rw [wo];exact hm) (Cw m) J5 J4 (by omega) (by omega) s,λs=>Xp O BR (Lm:=1) (by decide) s⟩
abbrev iK (ns:List Int):PV:=.frl (ns.map PV.int)
def vt (ns:List Int) (k:Nat) (st:aa):∃c,wS [iK ns,.int (k:Int)] st=.ok (.int c) st:=by
 have L:yH [iK ns] st=.ok (.int ns.length) st:=by rw [RL,jD]
 by_cases h:k<ns.length
 ·have a:cN (ns.map PV.int) k=some (.int (ns[k]'h)):=bJ (by rw [y3,yx h];rfl)
  have ix:zk (iK ns) (.int (k:Int)) st=.ok (.int (ns[k]'h)) st:=by
   show cg (cN (ns.map PV.int) k) st=_
   rw [a];rfl
  exact ⟨_,zX rfl (yJ (yB (zM (zj (zc rfl) (zy (zF (zc rfl)) L) (f7 true (by simp;omega) _))) (zT (zj (zc rfl) (zc rfl) ix))))⟩
 ·exact ⟨0,zX rfl (zp (zV (zM (zj (zc rfl) (zy (zF (zc rfl)) L) (f7 false (by simp;omega) _)))) (zT rfl))⟩
theorem J6 {z:Str}{x y:PV}:∀{ks:Ad}{xs:An},ks.length=xs.length->z∉ks->repl z x (ks++[z]) (xs++[y])=xs++[x]
 |[],[],_,_=>by simp [repl]
 |[],_::_,h,_=>by simp at h
 |_::_,[],h,_=>by simp at h
 |k::ks,u::xs,h,hz=>by
  show (if k=z then x else u)::repl z x (ks++[z]) (xs++[y])=_
  rw [zI (λe=>hz (by rw [e];exact ja ..)),J6 (by simpa using h) λq=>hz (jg _ q)]
  rfl
def YR {z:Str}{x y:PV}{ks:Ad}{xs:An}(hl:ks.length=xs.length) (h:z∉ks):j2 z x (ks++[z]) (xs++[y])=(ks++[z],xs++[x]):=by
 unfold j2
 rw [zw (by simp),J6 hl h]
abbrev bV:Aj:=(zW (mB (zf zZ (zf iA (zf iB (za 3) (za 6)) (Ar 1)) (Ar 0)))
  (zt (zQ 8 (zq wS (zd (za 0) (zd (zf yG (Ar 3) (za 6)) zh))))
  (zt (jH (za 4) (za 7) (zq pq (zd (zf jh (za 8) (Ar 16)) zh)))
  (zt (zW (mB (zf zZ (zf yF (za 8) (Ar 4)) (Ar 1)))
  (jH (za 4) (za 7) (As "low"))
  z0)
  (je (jr jp (za 5) (zf zk (za 4) (za 7)))))))
  z0)
abbrev eV (ns:List Int) (m pr:Nat) (b:Int) (th vl:Nat) (z6 z7 z8:Ao):zb:=[some (iK ns),some (nV m),Au pr,some (.int b),Au th,Au vl,z6,z7,z8,none,none,none,none,none,none]
def YS {j:Nat}{b:Int}{D:Dt}(k:K0 j b D) (hc:bitAt b j=true):K0 (j+1) b D:=⟨by rw [k.ks,Cu,Cs,wo,Nat.zero_add];simp [hc],k.vs⟩
def YT {j:Nat}{b:Int}{D:Dt}{v:PV}(k:K0 j b D) (hc:bitAt b j=false) (hv:Vl v):K0 (j+1) b (D++[(pN j,v)]):=by
 refine ⟨?_,λp hp=>?_⟩
 ·rw [wW,k.ks,Cu,Cs,wo,Nat.zero_add];simp [hc]
 ·rcases yU.mp hp with q|q
  ·exact k.vs p q
  ·rw [jv.mp q];exact hv
theorem YU (j:Nat):pN j∉bG j:=λh=>by
 obtain ⟨i,hi,e⟩:=wq.mp h
 have:=B7 (B9 e)
 have:=oF.mp hi
 omega
theorem YV {ns:List Int}{m pr th vl j:Nat}{b:Int}(hb:0<=b) {z8:Ao}{s:aa}(hj:j<50) {D:Dt}(k:K0 j b D) (ht:s[th]?=some (dD D)) (hv:s[vl]?=some (.lst (D.map (·.2)))) :
  ∃D' J7 s1,bV (eV ns m pr b th vl (some (nV j)) (some (.str (pN j))) z8) s=.ok (.nx (eV ns m pr b th vl (some (nV j)) (some (.str (pN j))) J7)) s1/\K0 (j+1) b D'/\s1[th]?=some (dD D')/\s1[vl]?=some (.lst (D'.map (·.2)))/\Kx [th,vl] s s1:=by
 have ne:th≠vl:=λq=>by subst q;rw [ht] at hv;cases hv
 obtain ⟨A1,A2⟩:=JV hb j s
 have T:∀{c},bitAt b j=c->(mB (zf zZ (zf iA (zf iB (za 3) (za 6)) (Ar 1)) (Ar 0))) (eV ns m pr b th vl (some (nV j)) (some (.str (pN j))) z8) s=.ok (!c) s:=λ{c} hc=>zM (zj (zj (zj (zc rfl) (zc rfl) A1) rfl A2) rfl (dW (!c) (by rw [YI,hc]) _))
 cases hc:bitAt b j with
 |true=>exact ⟨D,z8,s,zV (T hc),YS k hc,ht,hv,Kx.refl _ _⟩
 |false =>
  have kl:D.length<=j:=by
   have h:=congrArg List.length k.ks
   have h2:=(wm (p:=λj=>!bitAt b j) (zs:=bG j) (i:=0)).length_le
   rw [wo] at h2
   simp at h
   omega
  have kz:pN j∉D.map (·.1):=λh=>by rw [k.ks] at h;exact YU j (wm.subset h)
  obtain ⟨cl,CL⟩:=vt ns (3+j) s
  obtain ⟨n,hn,NN⟩:=JQ (y0 cl 16) s
  have P1:=kO (pK (z:=pN j) (x:=.int n) (xs:=D.map (·.2)) kz) (fo:=za 4) (fi:=za 7) (fv:=zq pq (zd (zf jh (za 8) (Ar 16)) zh)) (e:=eV ns m pr b th vl (some (nV j)) (some (.str (pN j))) (some (.int cl))) (s:=s) (zy (zF (zj (zc rfl) rfl (iC _ _ (by decide) (by decide)))) NN) (zc rfl) (zc rfl) ht (by simp;omega)
  let s1:=s.set th (.dic (D.map (·.1)++[pN j]) (D.map (·.2)++[.int n]))
  have t1:s1[th]?=some (.dic (D.map (·.1)++[pN j]) (D.map (·.2)++[.int n])):=yZ (yh ht)
  have v1:s1[vl]?=some (.lst (D.map (·.2))):=by show (s.set th _)[vl]?=_;rw [yr ne];exact hv
  obtain ⟨a,ha,MA⟩:=wn (x:=cl) (j:=4) (by decide) s1
  have T4:∀q,decide ((a:Int)=1)=q->(mB (zf zZ (zf yF (za 8) (Ar 4)) (Ar 1))) (eV ns m pr b th vl (some (nV j)) (some (.str (pN j))) (some (.int cl))) s1=.ok q s1:=λq h=>zM (zj (zj (zc rfl) rfl MA) rfl (dW q h _))
  have YW:∃v s2,Vl v/\(zW (mB (zf zZ (zf yF (za 8) (Ar 4)) (Ar 1))) (jH (za 4) (za 7) (As "low")) z0) (eV ns m pr b th vl (some (nV j)) (some (.str (pN j))) (some (.int cl))) s1=.ok (.nx (eV ns m pr b th vl (some (nV j)) (some (.str (pN j))) (some (.int cl)))) s2/\s2[th]?=some (dD (D++[(pN j,v)]))/\s2[vl]?=some (.lst (D.map (·.2)))/\Kx [th,vl] s1 s2:=by
   by_cases h1:(a:Int)=1
   ·have P2:=kO (YR (z:=pN j) (x:=.str "low") (y:=.int n) (ks:=D.map (·.1)) (xs:=D.map (·.2)) (by simp) kz) (fo:=za 4) (fi:=za 7) (fv:=As "low") (e:=eV ns m pr b th vl (some (nV j)) (some (.str (pN j))) (some (.int cl))) (s:=s1) rfl (zc rfl) (zc rfl) t1 (by simp;omega)
    exact ⟨.str "low", _,.low,yB (T4 true (jk h1)) P2,by rw [yZ (yh t1)];simp [dD],by rw [yr ne];exact v1,jY (by simp)⟩
   ·exact ⟨.int n,s1,.num n hn,zV (T4 false (yP h1)),by rw [t1];simp [dD],v1,Kx.refl _ _⟩
  obtain ⟨v,s2,vv,E2,t2,v2,k2⟩:=YW
  have kD:pN j∉D.map (·.1):=kz
  have IX:zk (.ref th) (.str (pN j)) s2=.ok v s2:=nR t2 (by rw [sF];exact vi kD)
  have A:=iH (y:=v) v2 (by simp;omega)
  refine ⟨D++[(pN j,v)],some (.int cl),_,yB (T hc) (zp (zP (zy (zR (zc rfl) (zj rfl (zc rfl) (HY 3 j))) CL)) (zp P1 (zp E2 (wI (wZ (zc rfl) v2 (zj (zc rfl) (zc rfl) IX) A))))),YT k hc vv,?_,?_,(jY (by simp)).trans (k2.trans (jY (by simp)))⟩
  ·rw [yr (yz ne)];exact t2
  ·rw [yZ (yh v2)];simp
theorem YX (ns:List Int):∃cs:List Int,cs.length<=15/\dM (ns.map PV.int) (some 9) (some 24)=cs.map PV.int:=by
 refine ⟨(ns.drop (HT.sIx ns.length 0 (some 9))).take (HT.sIx ns.length ns.length (some 24)-HT.sIx ns.length 0 (some 9)),?_,?_⟩
 ·have:HT.sIx ns.length ns.length (some 24)-HT.sIx ns.length 0 (some 9)<=15:=by
   simp [HT.sIx]
   omega
  rw [List.length_take]
  omega
 ·simp [dM,List.map_take,List.map_drop]
def YY (st:aa):iq (.int 10) (.int 22) st=.ok (.int 10000000000000000000000) st:=by
 have cp:dS 10 22=true:=by decide
 have pw:((10:Int) ^ (22:Int).toNat)=10000000000000000000000:=by decide
 show (if dS 10 22=true then Res.ok (PV.int (10 ^ (22:Int).toNat)) st else .stuck)=_
 rw [zw cp,pw]
theorem zxB (ns:List Int):∃st,HR [.frl (ns.map .int)] []=.ok (.bl true) st:=by
 obtain ⟨c0,C0⟩:=vt ns 0 []
 have C0:wS [iK ns,.int 0] []=.ok (.int c0) []:=C0
 obtain ⟨a,ha,MA⟩:=wn (x:=c0) (j:=6) (by decide) []
 let m:=1+a
 have hm:m<=6:=by show 1+a<=6;omega
 have p1:("p" : Str).length=1:=by decide +kernel
 obtain ⟨ys,t0,CP,hy⟩:=VT (fe:=(zf yG (As "p") (zq wY (zd (za 0) zh)))) (fs:=zd (za 1) zh) (env:=[some (iK ns),some (nV m),none,none,none,none,none,none,none,none,none,none,none,none,none]) (st:=[]) m (by omega) (zF (zc rfl)) (λi ys _=>ys=(bG i).map PV.str) (λi ys st hi h=>by
  have l3:=JA (n:=i) (by omega)
  exact ⟨.str (pN i),st,zj rfl (zy (zF (zc rfl)) (B8 (by omega) st)) (ad _ _ (by omega) _),by rw [h,Cu];simp⟩) rfl
 subst hy
 let pr:=t0.length
 let t1:=t0++[SO.lst ((bG m).map PV.str)]
 have P1:t1[pr]?=some (.lst ((bG m).map PV.str)):=ym _ _
 obtain ⟨c1,C1⟩:=vt ns 1 t1
 have C1:wS [iK ns,.int 1] t1=.ok (.int c1) t1:=C1
 have p2:(0:Int)<2 ^ m:=Int.pow_pos (by decide)
 let b:=c1%2 ^ m
 have hb:0<=b:=Int.emod_nonneg _ (by omega)
 have MB:yF (.int c1) (.int (2 ^ m)) t1=.ok (.int b) t1:=(AX _ _ (by omega)).trans (by rw [HS _ _ p2])
 let th:=t1.length
 let t2:=t1++[SO.dic [] []]
 let vl:=t2.length
 let t3:=t2++[SO.lst []]
 have o3:Old t1 t3:=(zY _ _).trans (zY _ _)
 have lv:vl=th+1:=by simp [vl,th,t2]
 have lp:pr<th:=yh P1
 have T3:t3[th]?=some (dD []):=zY _ _ _ _ (ym _ _)
 have V3:t3[vl]?=some (.lst (([]:Dt).map (·.2))):=ym _ _
 have P3:=o3 _ _ P1
 obtain ⟨eF,t4,FF,⟨y6,y7,y8,YZ⟩,D,K,T4,V4,k4⟩:=JX (g:=g2 6 7) (body:=bV) (n:=pr) ((bG m).map PV.str) (λi e s=>(∃z6 z7 z8,e=eV ns m pr b th vl z6 z7 z8)/\∃D,K0 i b D/\s[th]?=some (dD D)/\s[vl]?=some (.lst (D.map (·.2)))/\Kx [th,vl] t3 s) (λi e s ⟨_,_,_,_,_,k⟩=>k _ _ (by simp;omega) P3) (λi x e s hx ⟨⟨z6,z7,z8,he⟩,D,K,ht,hv,k⟩=>by
  subst he
  rw [y3] at hx
  obtain ⟨z,hz,rfl⟩:=Option.map_eq_some_iff.mp hx
  have il:=kN hz
  rw [wo] at il
  have ez:z=pN i:=by
   rw [bG,y3,List.getElem?_range il] at hz
   cases hz;rfl
  subst ez
  obtain ⟨D',J7,s1,E1,K1,t1,v1,k1⟩:=YV (ns:=ns) (m:=m) (pr:=pr) (z8:=z8) hb (by omega) K ht hv
  exact ⟨_,_,s1,rfl,E1,⟨_,_,_,rfl⟩,D',K1,t1,v1,k.trans k1⟩) (bG m).length 0 (lim+1) (eV ns m pr b th vl none none none) t3 (by simp) (by rw [wo];simp [lim];omega) ⟨⟨none,none,none,rfl⟩,[],⟨rfl,λ_ h=>nomatch h⟩,T3,V3,Kx.refl _ _⟩
 subst YZ
 have Y0:((bG m).map PV.str).length=m:=by simp [wo]
 rw [Y0] at K
 have P4:=k4 _ _ (by simp;omega) P3
 have lT4:=yh T4
 have lV4:=yh V4
 have lP4:=yh P4
 obtain ⟨cs,qf,ec⟩:=YX ns
 let e5:zb:=[some (iK ns),some (nV m),Au pr,some (.int b),Au th,Au vl,y6,y7,y8,none,none,none,none,none,none]
 have SL:(kg (za 0) (dc (Ar 9)) (dc (Ar 24))) e5 t4=.ok (.ref t4.length) (t4++[.lst (cs.map PV.int)]):=F0 (zc rfl) (AW rfl) (AW rfl) (by rw [QJ,ec])
 have CC:=sj (e:=e5) (fe:=(zf yF (za 0) (zf iq (Ar 10) (Ar 22)))) (Y:=(cs.map λc=>jG c 10000000000000000000000).map PV.int) SL (ym _ _) (by simp;omega) (by simp) (λi x y hx hy=>by
  rw [y3] at hx
  rw [y3,y3] at hy
  cases hi:cs[i]? with
  |none=>rw [hi] at hx;cases hx
  |some n =>
   rw [hi] at hx hy
   cases hx;cases hy
   exact zj (zc rfl) (zj rfl rfl (YY _)) (AX _ _ (by decide)))
 let t5:=t4++[SO.lst (cs.map PV.int)]
 let t6:=t5++[SO.lst ((cs.map λc=>jG c 10000000000000000000000).map PV.int)]
 let t7:=t6++[SO.lst ((bG m).map PV.str)]
 let t8:=t7++[SO.lst []]
 have J8:Old t4 t6:=(zY _ _).trans (zY _ _)
 have l5:t5.length=t4.length+1:=by simp [t5]
 have l6:t6.length=t4.length+2:=by simp [t6,t5]
 have l7:t7.length=t4.length+3:=by simp [t7,t6,t5]
 have LR:wH [.ref pr] t6=.ok (.ref t6.length) t7:=BA (J8 _ _ P4)
 have o8:Old t4 t8:=J8.trans ((zY _ _).trans (zY _ _))
 have Cc:t8[t5.length]?=some (.lst ((cs.map λc=>jG c 10000000000000000000000).map PV.int)):=zY _ _ _ _ (zY _ _ _ _ (ym _ _))
 have Cm:t8[t6.length]?=some (.lst ((bG m).map PV.str)):=zY _ _ _ _ (ym _ _)
 have Cq:t8[t7.length]?=some (.lst (zs 0)):=ym _ _
 obtain ⟨bk,cE,t9,E9,Y1,_,k9,d9,s9,u9⟩:=Cr (C:=t5.length) (Q:=t7.length) 5 0 (M:=t6.length) (.inr (.inr (.inr (by omega)))) (by omega) Cc Cm Cq (by omega) (by omega) (by omega) (by rw [wo];show 0<1+a;omega) (by omega) (by rw [wo];omega) (by omega)
 have o9:Old t4 t9:=λi so e=>k9 _ _ (by have:=yh e;simp;omega) (o8 _ _ e)
 have BK:(zq (iE 5) (zd (yW (yA (kg (za 0) (dc (Ar 9)) (dc (Ar 24)))) (zf yF (za 0) (zf iq (Ar 10) (Ar 22)))) (zd (Ar 0) (zd (zq wH (zd (za 2) zh)) (zd (jA zh) zh))))) e5 t4=.ok bk.v t9:=zy (jI CC rfl (zy (zF (zc rfl)) LR) (wJ jO (by simp))) E9
 obtain ⟨c2,C2⟩:=vt ns 2 t9
 have C2:wS [iK ns,.int 2] t9=.ok (.int c2) t9:=C2
 obtain ⟨h,hh,MH⟩:=wn (x:=c2) (j:=12) (by decide) t9
 obtain ⟨L,e,r,sm,se,LB,BE,Y2⟩:=YO hm hb K Y1 d9 (by omega) (by omega) (sN h)
 have P9:=o9 _ _ P4
 have T9:=o9 _ _ T4
 have V9:=o9 _ _ V4
 have TU:∀{s:aa} {n:Nat} {xs:An},s[n]?=some (.lst xs)->yQ [.ref n] s=.ok (.tup xs) s:=λh=>by rw [jS,yv h]
 let J9:zb:=[some (iK ns),some (nV m),Au pr,some (.int b),Au th,Au vl,y6,y7,y8,some bk.v,some (.str (sN h)),some (.tup [cJ "main" (bG m) bk.v]),none,none,none]
 have CE:=JW (ft:=mB (zf zZ (zf iA (zf iB (za 5) (za 0)) (Ar 1)) (Ar 1))) (fe:=za 1) (env:=J9) (p:=bitAt b) (bG m) P9 (λj z=>by
  obtain ⟨A1,A2⟩:=JV hb j t9
  exact zM (zj (zj (zj (zc rfl) (zc rfl) A1) rfl A2) rfl (rq _ _))) (λj z=>zc rfl) (bG m).length 0 (lim+1) [] (by omega) (by rw [wo];simp [lim];omega)
 rw [List.nil_append,List.drop_zero] at CE
 let tA:=t9++[SO.lst ((picks (bitAt b) 0 (bG m)).map PV.str)]
 have Y3:(ur (zd (za 2) zh) (mB (zf zZ (zf iA (zf iB (za 5) (za 0)) (Ar 1)) (Ar 1))) (za 1)) J9 t9=.ok (.ref t9.length) tA:=by
  unfold ur
  rw [zF (zc rfl),zH]
  show (yu t9 pr λ_=>Res.ok pr t9).bind _=_
  rw [yv P9,zH]
  exact CE
 have oA:Old t9 tA:=zY _ _
 have dl:D.length<=6:=by
  have h:=congrArg List.length K.ks
  have h2:=(wm (p:=λj=>!bitAt b j) (zs:=bG m) (i:=0)).length_le
  rw [wo] at h2
  simp at h
  omega
 obtain ⟨tB,EB,kB⟩:=Co (s:=tA) (th:=th) (@LB) (j:=4) (by omega) (by omega) (oA _ _ T9) (by omega) (by omega)
 have VB:=kB _ _ (by simp;omega) (oA _ _ V9)
 obtain ⟨tC,EC,oC⟩:=BE tB
 obtain ⟨tD,ED,oD⟩:=Y2 tC
 have VC:=oC _ _ VB
 have VD:=oD _ _ VC
 have IT:j7 isT [.tup [.tup [nW (bG m) b L e],.tup [cx "main" b (D.map (·.2))]],.ty "tuple"] tD=.ok (.bl true) tD:=by kernel_rfl
 have sp:bU 1 (.tup ((picks (bitAt b) 0 (bG m)).map PV.str)):=.tup _ _ λx hx=>by
  obtain ⟨z,_,rfl⟩:=wq.mp hx
  exact .str _ _
 have sv:bU 1 (.tup (D.map (·.2))):=.tup _ _ λx hx=>by
  obtain ⟨p,hp,rfl⟩:=wq.mp hx
  exact JH (K.vs p hp) _
 have SM:bU 16 (.tup [.tup [nW (bG m) b L e],.tup [cx "main" b (D.map (·.2))]]):=.tup _ _ (a_ (.tup _ _ (a_ (.tup _ _ (a_ (.str _ _) (a_ (sp.le (by omega)) (a_ (.tup _ _ (a_ ((bU.tup 3 _ sm).le (by omega)) (a_ se jU))) jU)))) jU)) (a_ (.tup _ _ (a_ (.tup _ _ (a_ (.str _ _) (a_ (.int _ _) (a_ (sv.le (by omega)) jU)))) jU)) jU))
 refine ⟨tD,zX rfl (zp (zP (zj rfl (zj (zy (zR (zc rfl) rfl) C0) rfl MA) (HY 1 a))) (zp (zP CP) (zp (zP (zj (zy (zR (zc rfl) rfl) C1) (zj rfl (zc rfl) (Wg m (by omega) t1)) MB)) (zp (zP rfl) (zp (zP (wJ jO (by simp))) (zp (YJ (zF (zc rfl)) P3 FF) (zp (zP BK) (zp (zP (zj rfl (zy (zF (zj (zy (zR (zc rfl) rfl) C2) rfl MH)) (B8 (by omega) t9)) (JS (by omega) t9))) (zp (zP (ya (zF (ya (wj rfl (zy (zF (zc rfl)) (TU P9)) (zc rfl)) (by simp))) (by simp))) (zp (zP (zy (zF Y3) pM)) (zp (zP (ya (zF (ya (wj rfl (zc rfl) (zy (wj (zc rfl) (zc rfl) (zc rfl)) EB)) (by simp))) (by simp))) (zp (zP (zy (jI (zc rfl) (zy (wj (zc rfl) (zc rfl) (ya (zF (ya (zR rfl (zc rfl)) (by simp))) (by simp))) EC) (zy (zF (zc rfl)) (TU VC)) rfl) ED)) (zT (FZ (zy (zR (zc rfl) rfl) IT) (zj (zc rfl) (ya (zR (zc rfl) (ya (zF (ya (wj rfl (zc rfl) (zy (zF (zc rfl)) (TU VD))) (by simp))) (by simp))) (by simp)) (Yd SM (by decide) _))))))))))))))))⟩
end FK63
open PySem PySem.W PyProof.Rows
set_option maxHeartbeats 0
namespace PySem.W.Fast
def tw8882888775470830277:=()
def tw5135875268274061338:=()
local macro_rules
|`(command|#print $s:str)=>do
 let c<-(s.getString.splitOn " ").toArray.flatMapM λw=>do
  let [p,a,b]:=w.splitOn "_"|Lean.Macro.throwUnsupported
  (Array.range (b.toNat!+1-a.toNat!)).mapM λk=>do
   let n:=Lean.mkIdent (.mkSimple s!"tw{((`hdT).str s!"{p}_{a.toNat!+k}").hash}")
   `(command|theorem $n : True := trivial)
 return Lean.mkNullNode c
#print "o_43_913 tree_47_913 heap_39_914 sts_49_907 env_41_41 view_39_39"
end PySem.W.Fast
open_top hdT for PySem.Challenge.rw_foreknown_k63_faults_and_ifs_made
theorem uu1 {us:List PySem.Value}(h:us.length=1):∃a,us=[a]:=match us,h with|[a],_=>⟨a,rfl⟩
theorem uu2 {us:List PySem.Value}(h:us.length=2):∃a b,us=[a,b]:=match us,h with|[a,b],_=>⟨a,b,rfl⟩
theorem uu3 {us:List PySem.Value}(h:us.length=3):∃a b c,us=[a,b,c]:=match us,h with|[a,b,c],_=>⟨a,b,c,rfl⟩
theorem uu4 {us:List PySem.Value}(h:us.length=4):∃a b c d,us=[a,b,c,d]:=match us,h with|[a,b,c,d],_=>⟨a,b,c,d,rfl⟩
theorem uu5 {us:List PySem.Value}(h:us.length=5):∃a b c d e,us=[a,b,c,d,e]:=match us,h with|[a,b,c,d,e],_=>⟨a,b,c,d,e,rfl⟩
theorem PySem.Challenge.cw_foreknown_k63_faults_and_ifs_made_holds : PySem.Challenge.rw_foreknown_k63_faults_and_ifs_made.Holds :=
 hdT (by
 k_fill
 refine Mi.walkM (l:=PySem.Challenge.rw_foreknown_k63_faults_and_ifs_made) (k:=27) (x := "_law_script") rfl rfl ⟨rfl,by decide,by decide⟩ (λw h Y=>PySem.W.kIn_of Y) ?F
 case F =>
  intro w mg fa h KX G hmg
  have x_Fault:Mi.XnF (L2.KOf KX) mg "Fault" "word" "Fault.__init__" FK63.zge:=by
   dsimp only [L2.KOf]
   refine' Mi.zrf KX G ?aC ?hC ?hB ?hN ?he ?hi ?fn ?kp ?sa ?hcl ?hl ?no ?hd ?l ?c ?k ?b
   (case aC|hC=>k_is)
   (case hB=>k_exc)
   (case hN=>k_is)
   (case he=>first|rfl|with_unfolding_all rfl|simp)
   (case hi|fn|kp|sa|hcl=>k_is)
   (case hl=>rfl)
   (case no|hd|l|c|k=>k_is)
   (case b=>exact λ_ _ _ _ _ _ us hl=>by obtain ⟨_,_,rfl⟩:=uu2 hl;rfl)
  have c_MOST_PARTS:∃t,mg "MOST_PARTS" = some (.int 60 t):=by
   refine' Mi.zi1 KX G ?a
   (case a=>k_is)
  have c_NUMBER_BOUND:∃t,mg "NUMBER_BOUND" = some (.int 1000000000000000000 t):=by
   refine' Mi.zi1 KX G ?a
   (case a=>k_is)
  have is:Mi.IsF (L2.KOf KX) mg FK63.isT:=by
   exact Mi.zrG rfl rfl rfl
  have kd_OPS:∀X:L2.Cx,X.K=(L2.KOf KX)->X.mg=mg->X.w=w->Mi.KdF X "OPS" FK63.js FK63.ju FK63.zgf:=by
   dsimp only [L2.KOf]
   refine' Mi.zrk KX G ?aO ?lO ?hk ?no ?hi
   (case aO|lO=>k_is)
   case hk =>
    repeat (refine ⟨⟨_,_,rfl,rfl⟩,?_⟩)
    exact trivial
   (case no=>first|rfl|decide)
   case hi =>
    simp only [FK63.js,FK63.ju,List.zip_cons_cons,List.zip_nil_left]
    refine Mi.all_cons ?_ ?_
    ·refine' Mi.zef KX G ?e ?l1 ?l2 ?a
     (case e|l1|l2|a=>k_is)
    refine Mi.all_cons ?_ ?_
    ·refine' Mi.zef KX G ?e ?l1 ?l2 ?a
     (case e|l1|l2|a=>k_is)
    refine Mi.all_cons ?_ ?_
    ·refine' Mi.zef KX G ?e ?l1 ?l2 ?a
     (case e|l1|l2|a=>k_is)
    refine Mi.all_cons ?_ ?_
    ·refine' Mi.zef KX G ?e ?l1 ?l2 ?a
     (case e|l1|l2|a=>k_is)
    refine Mi.all_cons ?_ ?_
    ·refine' Mi.zrj KX G ?e ?l1 ?l2 ?a
     (case e|l1|l2|a=>k_is)
    exact Mi.zri
  have T:FK63.Txt w (L2.KOf KX) mg:=by
   constructor
   case x_Fault=>exact x_Fault
   case c_MOST_PARTS=>exact c_MOST_PARTS
   case c_NUMBER_BOUND=>exact c_NUMBER_BOUND
   case is=>exact is
   case kd_OPS=>exact kd_OPS
   all_goals first
    | (show Mi.MtF _ _ _ _ _ _ [_];dsimp only [L2.KOf];refine' Mi.zee KX G ?aC ?pg ?hd ?po ?sa ?a ?i ?l ?c ?k ?b;(case aC|pg|hd|po|sa|a|i|l|c|k=>k_is);(case b=>exact λ_ _ _ _ _ _ us hl=>by obtain ⟨_,rfl⟩:=uu1 hl;rfl))
    | (show Mi.MtF _ _ _ _ _ _ [_,_];dsimp only [L2.KOf];refine' Mi.zee KX G ?aC ?pg ?hd ?po ?sa ?a ?i ?l ?c ?k ?b;(case aC|pg|hd|po|sa|a|i|l|c|k=>k_is);(case b=>exact λ_ _ _ _ _ _ us hl=>by obtain ⟨_,_,rfl⟩:=uu2 hl;rfl))
    | (show Mi.MtF _ _ _ _ _ _ [_,_,_];dsimp only [L2.KOf];refine' Mi.zee KX G ?aC ?pg ?hd ?po ?sa ?a ?i ?l ?c ?k ?b;(case aC|pg|hd|po|sa|a|i|l|c|k=>k_is);(case b=>exact λ_ _ _ _ _ _ us hl=>by obtain ⟨_,_,_,rfl⟩:=uu3 hl;rfl))
    | (show Mi.MtF _ _ _ _ _ _ [_,_,_,_];dsimp only [L2.KOf];refine' Mi.zee KX G ?aC ?pg ?hd ?po ?sa ?a ?i ?l ?c ?k ?b;(case aC|pg|hd|po|sa|a|i|l|c|k=>k_is);(case b=>exact λ_ _ _ _ _ _ us hl=>by obtain ⟨_,_,_,_,rfl⟩:=uu4 hl;rfl))
    | (show Mi.NwF _ _ _ _ _ [_,_];dsimp only [L2.KOf];refine' Mi.zfF KX G ?aC ?mk ?kc ?a ?i ?l ?c ?k ?b;(case aC|mk|kc|a|i|l|c|k=>k_is);(case b=>exact λ_ _ _ _ _ _ us hl=>by obtain ⟨_,_,rfl⟩:=uu2 hl;rfl))
    | (show Mi.NwF _ _ _ _ _ [_,_,_];dsimp only [L2.KOf];refine' Mi.zfF KX G ?aC ?mk ?kc ?a ?i ?l ?c ?k ?b;(case aC|mk|kc|a|i|l|c|k=>k_is);(case b=>exact λ_ _ _ _ _ _ us hl=>by obtain ⟨_,_,_,rfl⟩:=uu3 hl;rfl))
    | (show Mi.NwF _ _ _ _ _ [_,_,_,_,_];dsimp only [L2.KOf];refine' Mi.zfF KX G ?aC ?mk ?kc ?a ?i ?l ?c ?k ?b;(case aC|mk|kc|a|i|l|c|k=>k_is);(case b=>exact λ_ _ _ _ _ _ us hl=>by obtain ⟨_,_,_,_,_,rfl⟩:=uu5 hl;rfl))
    | (show Mi.FldF _ _ _ _ _
       refine ⟨λc hc=>?_,λc hc=>?_⟩
       ·simp [FK63.insOf,or_assoc] at hc
        rcases hc with rfl|rfl|rfl|rfl|rfl|rfl
        all_goals
         dsimp only [L2.KOf]
         refine' Mi.zrg KX G ?aC ?pg ?hd ?po ?sa ?na
         (case aC|pg|hd|po|sa|na=>k_is)
       ·simp [FK63.excOf,or_assoc] at hc
        rcases hc with rfl
        ·dsimp only [L2.KOf]
         refine' Mi.zrh KX G ?aC ?ga ?hk ?hB ?hd ?no
         (case aC|ga|hk|hB|hd|no=>k_is))
    | (show Mi.FnF _ _ _ _ [_];dsimp only [L2.KOf];refine' Mi.zcV KX G ?a ?l ?c ?k ?b;(case a|l|c|k=>k_is);(case b=>exact λ_ _ _ _ _ _ us hl=>by obtain ⟨_,rfl⟩:=uu1 hl;rfl))
    | (show Mi.FnF _ _ _ _ [_,_];dsimp only [L2.KOf];refine' Mi.zcV KX G ?a ?l ?c ?k ?b;(case a|l|c|k=>k_is);(case b=>exact λ_ _ _ _ _ _ us hl=>by obtain ⟨_,_,rfl⟩:=uu2 hl;rfl))
    | (show Mi.FnF _ _ _ _ [_,_,_];dsimp only [L2.KOf];refine' Mi.zcV KX G ?a ?l ?c ?k ?b;(case a|l|c|k=>k_is);(case b=>exact λ_ _ _ _ _ _ us hl=>by obtain ⟨_,_,_,rfl⟩:=uu3 hl;rfl))
    | (show Mi.FnF _ _ _ _ [_,_,_,_];dsimp only [L2.KOf];refine' Mi.zcV KX G ?a ?l ?c ?k ?b;(case a|l|c|k=>k_is);(case b=>exact λ_ _ _ _ _ _ us hl=>by obtain ⟨_,_,_,_,rfl⟩:=uu4 hl;rfl))
    | (show Mi.FnF _ _ _ _ [_,_,_,_,_];dsimp only [L2.KOf];refine' Mi.zcV KX G ?a ?l ?c ?k ?b;(case a|l|c|k=>k_is);(case b=>exact λ_ _ _ _ _ _ us hl=>by obtain ⟨_,_,_,_,_,rfl⟩:=uu5 hl;rfl))
    | (refine' Mi.zrm KX G ?a;case a=>k_is)
  exact Mi.zrl T.f_law hmg (λ_ _ _ _ _ _ _=>rfl) (λf fd F base=>FK63.zvl T F) (λns _=>FK63.zxB ns))
