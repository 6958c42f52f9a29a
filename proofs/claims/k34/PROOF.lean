import PyProof.Rows.All
import Wide.All
import OpenK.AllK
import Wide.FinOn
import Lean
import PyProof.EqAt
import PyProof.EqKinds
import PyProof.TupleCall
import KE.KUnpack
import PyProof.NeKinds
import PyProof.EnumFor
import PyProof.EnumStmt
import PyProof.EnumMake
import PyProof.Draws
import PyProof.StrWalks
import PyProof.Rows.FStr
import PyProof.Rows.CallKw2
import PyProof.StrBlockL
import KE.KIntText
import PyProof.ConsumeWalk
import PyProof.StrBlockG
import PyProof.CallStr
import PyProof.Rows.Range3
import PyProof.MeetsDict
import PyProof.DictList
import PyProof.StrLawsChain
import PyProof.StrLawsNeg
import KE.IntTextLaws
import KE.IntTextText
import PyProof.CallFns
import PyProof.CompUse
import PyProof.DictWalks
import KE.KDictSum
import PyProof.FString5
import KE.KLam
import KE.KSortKey
import KE.KNestM
import PyProof.Rows.RuleN_abs
import PyProof.WalkInts
import KE.KMinKey
import PySem.Challenge.RW_cleanrows_k34_ends_told
set_option Elab.async false
set_option linter.all false
set_option maxRecDepth 100000
namespace L2
open PySem PySem.Spec PyProof.Rows
abbrev Key:=Sum Int Str
def zfc:Key→Value→Bool
 | .inl k,v=>Value.isInt k v
 | .inr x,v=>Value.isStrOf x v
def zug (w:World):Key→Int
 | .inl k=>hashInt k
 | .inr x=>hashStr w x
theorem zb4:∀ {k:Key}{v:Value},zfc k v=true→(∃ i t,k=Sum.inl i∧v=Value.int i t)∨(∃ x t,k=Sum.inr x∧v=Value.str x t)
 | .inl i,v,h=>by
  obtain ⟨t,e⟩:=Value.isInt_shape (k:=i) (v:=v) h
  exact .inl ⟨i,t,rfl,e⟩
 | .inr x,v,h=>by
  obtain ⟨t,e⟩:=Value.isStrOf_shape (x:=x) (v:=v) h
  exact .inr ⟨x,t,rfl,e⟩
theorem zve (x:Str) (t:Tok):zfc (.inr x) (.str x t)=true:=by simp [zfc,Value.isStrOf]
theorem zni (a b:Int):decide ((Sum.inl a:Key)=Sum.inl b)=(a == b):=by
 by_cases e:a=b
 ·subst e;simp
 ·have h : ¬ (Sum.inl a:Key)=Sum.inl b:=fun q=>e (Sum.inl.inj q)
  rw [decide_eq_false h]
  exact (beq_eq_false_iff_ne.mpr e).symm
theorem zm7 (a b:Str):decide ((Sum.inr a:Key)=Sum.inr b)=decide (a=b):=by
 by_cases e:a=b
 ·subst e;simp
 ·have h : ¬ (Sum.inr a:Key)=Sum.inr b:=fun q=>e (Sum.inr.inj q)
  rw [decide_eq_false h,decide_eq_false e]
theorem zqJ (a:Int) (b:Str):decide ((Sum.inl a:Key)=Sum.inr b)=false:=decide_eq_false (fun q=>nomatch q)
theorem zsV (a:Str) (b:Int):decide ((Sum.inr a:Key)=Sum.inl b)=false:=decide_eq_false (fun q=>nomatch q)
def zb8 (prog:Program) (w:World):PySem.KeyKind prog w Key where
 is:=zfc
 hash:=zug w
 inj:=fun v a b ha hb=>by
  rcases zb4 ha with ⟨i,t,rfl,rfl⟩|⟨x,t,rfl,rfl⟩
  ·rcases zb4 hb with ⟨j,u,rfl,e⟩|⟨y,u,rfl,e⟩
   ·injection e with e1 _;rw [e1]
   ·exact nomatch e
  ·rcases zb4 hb with ⟨j,u,rfl,e⟩|⟨y,u,rfl,e⟩
   ·exact nomatch e
   ·injection e with e1 _;rw [e1]
 byValue:=fun k v h=>by
  rcases zb4 h with ⟨i,t,rfl,rfl⟩|⟨x,t,rfl,rfl⟩ <;> rfl
 pyHash:=fun hv h=>by
  rcases zb4 hv with ⟨i,t,rfl,rfl⟩|⟨x,t,rfl,rfl⟩
  ·exact wpAny_pyHash_int h
  ·exact wpAny_pyHash_str h
 eqBool:=fun hu hv h=>by
  rcases zb4 hu with ⟨i,t,rfl,rfl⟩|⟨x,t,rfl,rfl⟩
  ·rcases zb4 hv with ⟨j,u,rfl,rfl⟩|⟨y,u,rfl,rfl⟩
   ·rw [zni] at h;exact wpAny_eqBool_int h
   ·rw [zqJ] at h;exact SeqAt.EqAt.int_str i t y u _ _ _ _ h
  ·rcases zb4 hv with ⟨j,u,rfl,rfl⟩|⟨y,u,rfl,rfl⟩
   ·rw [zsV] at h;exact SeqAt.EqAt.str_int x t j u _ _ _ _ h
   ·rw [zm7] at h;exact wpAny_eqBool_str h
 «strs»:=fun k x t v h=>by
  rcases zb4 h with ⟨i,u,rfl,e⟩|⟨y,u,rfl,e⟩
  ·exact nomatch e
  ·injection e with e1 _
   subst e1
   cases v <;> rfl
theorem zii (prog:Program) (w:World) (x:Str) (t:Tok):(zb8 prog w).is (.inr x) (.str x t)=true:=zve x t
end L2
namespace L2
open PySem PySem.Spec PyProof.Rows
inductive V where
 | non|bl (b:Bool)|int (i:Int)|str (x:Str)|byt (b:Array UInt8)|flt (b:UInt64)|ref (a:Addr)|ty (n:String)
 deriving DecidableEq
def zi:V→Value→Prop
 | .non,u=>u=Value.none
 | .bl b,u=>u=Value.bool b
 | .int i,u=>∃ t,u=Value.int i t
 | .str x,u=>∃ t,u=Value.str x t
 | .byt b,u=>∃ t,u=Value.bytes b t
 | .flt b,u=>∃ t,u=Value.float b t
 | .ref a,u=>u=Value.ref a
 | .ty n,u=>u=Value.type n
abbrev zk:List V→List Value→Prop:=Paired zi
theorem zk.length {xs:List V}{us:List Value} (r:zk xs us):xs.length=us.length:=Paired.length r
theorem zk.get:∀ {xs:List V}{us:List Value}{i:Nat}{x:V},zk xs us→xs[i]?=some x→∃ u,us[i]?=some u∧zi x u
 | _,_,_,_,.nil,e=>by simp at e
 | _,_,0,_,.cons r _,e=>by simp at e;subst e;exact ⟨_,rfl,r⟩
 | _,_,i+1,x,.cons _ t,e=>by
  obtain ⟨u,h1,h2⟩:=zk.get (i:=i) (x:=x) t (by simpa using e)
  exact ⟨u,by simpa using h1,h2⟩
theorem zk.set {x:V}{u:Value} (r:zi x u):∀ {xs:List V}{us:List Value} (i:Nat),zk xs us→zk (xs.set i x) (us.set i u)
 | _,_,_,.nil=>.nil
 | _,_,0,.cons _ t=>.cons r t
 | _,_,i+1,.cons q t=>.cons q (zk.set r i t)
theorem zk.append:∀ {xs ys:List V}{us ws:List Value},zk xs us→zk ys ws→zk (xs++ys) (us++ws)
 | _,_,_,_,.nil,s=>s
 | _,_,_,_,.cons r t,s=>.cons r (zk.append t s)
theorem zk.take:∀ {xs:List V}{us:List Value} (n:Nat),zk xs us→zk (xs.take n) (us.take n)
 | _,_,0,_=>.nil
 | _,_,_+1,.nil=>.nil
 | _,_,n+1,.cons r t=>.cons r (zk.take n t)
theorem zk.drop:∀ {xs:List V}{us:List Value} (n:Nat),zk xs us→zk (xs.drop n) (us.drop n)
 | _,_,0,r=>r
 | _,_,_+1,.nil=>.nil
 | _,_,n+1,.cons _ t=>zk.drop n t
def zbf:Option V→Option Value→Prop
 | some v,some u=>zi v u
 | none,none=>True
 | _,_=>False
def KV {κ:Type}:List (κ×V)→List (κ×Value)→Prop:=Paired fun (p:κ×V) (q:κ×Value)=>p.1=q.1∧zi p.2 q.2
def kV:Key→V
 | .inl i=>.int i
 | .inr x=>.str x
inductive HO where
 | lst (xs:List V)
 | tup (xs:List V)
 | dK (kvs:List (Key×V))|dT (kvs:List (List Key×V))
 | set (S:Int→Bool) (n:Nat)
 | ins (C dx:Addr) (fs:List (Str×V))
 | own (x:Addr)
 | xd (fs:List (Str×V))
 | met (f x:Addr)
 | rng (lo hi:Int)
 | frz (o:Obj) (u:HO)
 | tbl (ps:Array Value)
 | ext (φ:Heap→Prop)
abbrev Hp:=Addr→Option HO
def upd (H:Hp) (a:Addr) (o:HO):Hp:=fun b=>if b=a then some o else H b
theorem zF {H:Hp}{a:Addr}{o:HO}:upd H a o a=some o:=by unfold upd;rw [if_pos rfl]
theorem ze {H:Hp}{a b:Addr}{o:HO} (h:b≠a):upd H a o b=H b:=by unfold upd;rw [if_neg h]
theorem zcI {H:Hp}{a:Addr}{o u:HO}:upd (upd H a o) a u=upd H a u:=by
 funext b;unfold upd;split <;> rfl
theorem zt {H:Hp}{a b:Addr}{o:HO} (h:H a=some o) (h':H b=none):a≠b:=by
 intro e;subst e;rw [h] at h';cases h'
section
variable (P:Program) (w:World)
def zY (H:Hp) (h:Heap) (a:Addr):HO→Prop
 | .lst xs=>xs.length≤sizeLine∧∃ (its:List Value) (n:Nat),zk xs its∧h.get? a=some { cls:=.type "list",data:=.seq its.toArray n }
 | .tup xs=>xs.length≤sizeLine∧∃ its:List Value,zk xs its∧IsTup h a its.toArray
 | .dK kvs=>kvs.length≤sizeLine∧(a == sysModules)=false∧∃ vs,KV kvs vs∧h.DictOf (zb8 P w) a vs
 | .dT kvs=>kvs.length≤sizeLine∧(a == sysModules)=false∧∃ xs:List (List Key×Addr×Value),
   Paired (fun (p:List Key×V) (q:List Key×Addr×Value)=>p.1=q.1∧H q.2.1=some (.tup (p.1.map kV))∧zi p.2 q.2.2) kvs xs ∧
   ∃ o es ep,h.get? a=some o∧o.ExactDict∧o.data = .dict es ep∧es.toList=xs.map (entryOfKey (tupleKind (zb8 P w)))∧(xs.map (·.1)).Nodup
 | .set S n=>h.SetOf (intKind P w) a S n
 | .ins C dx fs=>H dx=some (.own a)∧fs.length≤1000∧dx≠a∧h.get? a=some (PySem.W.instObj C dx) ∧
   ∃ mA,h.Ns1 dx mA∧(∀ f,zbf (fs.lookup f) (mA f))∧PySem.Within mA (fs.map (·.1))
 | .own _=>∃ o,h.get? a=some o
 | .xd fs=>∃ mA,h.Ns1 a mA∧∀ f,zbf (fs.lookup f) (mA f)
 | .rng lo hi=>∃ t u v,h.get? a=some { cls:=.type "range",data:=.fields #[.int lo t,.int hi u,.int 1 v] }
 | .frz o u=>h.get? a=some o∧zY H h a u
 | .tbl ps=>h.get? a=some { cls:=.none,data:=.fields ps }
 | .met f x=>h.get? a=some (PySem.W.methodObj (.ref f) (.ref x))
 | .ext φ=>φ h∧(∃ o,h.get? a=some o)∧∀ h1 h2:Heap,φ h1→(∀ o,h1.get? a=some o→h2.get? a=some o)→φ h2
def HOk (H:Hp) (h:Heap):Prop:=∀ a o,H a=some o→zY P w H h a o
end
section
variable {P:Program}{w:World}{H H':Hp}{h h':Heap}{a:Addr}{o:HO}
theorem zY.lt (x:zY P w H h a o):a<h.objs.size:=by
 cases o with
 | lst xs=>obtain ⟨_,_,_,_,e⟩:=x;exact Heap.lt_size e
 | tup xs=>obtain ⟨_,_,_,p⟩:=x;exact p.lt
 | dK kvs=>obtain ⟨_,_,_,_,o,_,_,e,_⟩:=x;exact Heap.lt_size e
 | dT kvs=>obtain ⟨_,_,_,_,o,_,_,e,_⟩:=x;exact Heap.lt_size e
 | set S n=>obtain ⟨o,_,_,_,e,_⟩:=x;exact Heap.lt_size e
 | ins C dx fs=>obtain ⟨_,_,_,e,_⟩:=x;exact Heap.lt_size e
 | own y=>obtain ⟨_,e⟩:=x;exact Heap.lt_size e
 | xd fs=>obtain ⟨_,⟨_,_,_,e,_⟩,_⟩:=x;exact Heap.lt_size e
 | rng lo hi=>obtain ⟨_,_,_,e⟩:=x;exact Heap.lt_size e
 | frz ob u=>obtain ⟨e,_⟩:=x;exact Heap.lt_size e
 | tbl ps=>exact Heap.lt_size (show h.get? a=some _ from x)
 | met f y=>exact Heap.lt_size (show h.get? a=some _ from x)
 | ext φ=>obtain ⟨_,⟨_,e⟩,_⟩:=x;exact Heap.lt_size e
theorem Paired.mapP {α β:Type}{F G:α→β→Prop}:∀ {l₁:List α}{l₂:List β},Paired F l₁ l₂→(∀ a b,F a b→G a b)→Paired G l₁ l₂
 | _,_,.nil,_=>.nil
 | _,_,.cons r t,f=>.cons (f _ _ r) (Paired.mapP t f)
theorem zY.stay (x:zY P w H h a o) (k:∀ b u,(b=a∨H b=some (.own a))→h.get? b=some u→h'.get? b=some u)
  (ho:∀ b,H b=some (.own a)→H' b=some (.own a)) (ht:∀ b xs,H b=some (.tup xs)→H' b=some (.tup xs)):zY P w H' h' a o:=by
 induction o with
 | lst xs=>obtain ⟨z,its,n,r,e⟩:=x;exact ⟨z,its,n,r,k _ _ (.inl rfl) e⟩
 | tup xs=>obtain ⟨z,its,r,ob,e,c⟩:=x;exact ⟨z,its,r,ob,k _ _ (.inl rfl) e,c⟩
 | dK kvs=>obtain ⟨z,y,vs,r,ob,es,ep,e,c⟩:=x;exact ⟨z,y,vs,r,ob,es,ep,k _ _ (.inl rfl) e,c⟩
 | dT kvs =>
  obtain ⟨z,y,xs,r,ob,es,ep,e,c⟩:=x
  exact ⟨z,y,xs,Paired.mapP r fun p q z=>⟨z.1,ht _ _ z.2.1,z.2.2⟩,ob,es,ep,k _ _ (.inl rfl) e,c⟩
 | set S n=>obtain ⟨ob,es,ep,t,e,c⟩:=x;exact ⟨ob,es,ep,t,k _ _ (.inl rfl) e,c⟩
 | ins C dx fs =>
  obtain ⟨d,z,ne,e,mA,⟨od,es,ep,e2,c⟩,r⟩:=x
  exact ⟨ho _ d,z,ne,k _ _ (.inl rfl) e,mA,⟨od,es,ep,k _ _ (.inr d) e2,c⟩,r⟩
 | own y=>obtain ⟨ob,e⟩:=x;exact ⟨ob,k _ _ (.inl rfl) e⟩
 | xd fs=>obtain ⟨mA,⟨od,es,ep,e,c⟩,r⟩:=x;exact ⟨mA,⟨od,es,ep,k _ _ (.inl rfl) e,c⟩,r⟩
 | rng lo hi=>obtain ⟨t,u,v,e⟩:=x;exact ⟨t,u,v,k _ _ (.inl rfl) e⟩
 | frz ob u ih=>obtain ⟨e,q⟩:=x;exact ⟨k _ _ (.inl rfl) e,ih q⟩
 | tbl ps =>
  have e:h.get? a=some { cls:=.none,data:=.fields ps }:=x
  show h'.get? a=some { cls:=.none,data:=.fields ps }
  exact k a _ (.inl rfl) e
 | met f y =>
  have e:h.get? a=some (PySem.W.methodObj (.ref f) (.ref y)):=x
  show h'.get? a=some (PySem.W.methodObj (.ref f) (.ref y))
  exact k a _ (.inl rfl) e
 | ext φ=>obtain ⟨p,⟨o,e⟩,st⟩:=x;exact ⟨st _ _ p fun o q=>k _ _ (.inl rfl) q,⟨o,k _ _ (.inl rfl) e⟩,st⟩
theorem HOk.lt (x:HOk P w H h) (e:H a=some o):a<h.objs.size:=(x a o e).lt
theorem HOk.fresh (x:HOk P w H h) (e:h.objs.size≤a):H a=none:=by
 cases q:H a with
 | none=>rfl
 | some u=>exact absurd (Nat.lt_of_lt_of_le (x.lt q) e) (Nat.lt_irrefl _)
theorem HOk.kept (x:HOk P w H h) (k:∀ b u,h.get? b=some u→h'.get? b=some u):HOk P w H h':=fun a o e =>
 (x a o e).stay (fun b u _ q=>k b u q) (fun _ q=>q) fun _ _ q=>q
theorem HOk.laid (x:HOk P w H h) (k:∀ b u,h.get? b=some u→h'.get? b=some u) (hp:h.objs.size≤a) (new:zY P w (upd H a o) h' a o):HOk P w (upd H a o) h':=fun b u e=>by
 have hn:=x.fresh hp
 by_cases hb:b=a
 ·subst hb;rw [zF] at e;cases e;exact new
 ·rw [ze hb] at e
  exact (x b u e).stay (fun c v _ q=>k c v q) (fun c q=>by rw [ze (zt q hn)];exact q) fun c xs q=>by rw [ze (zt q hn)];exact q
end
def Rd (H:Hp) (a:Addr) (u:HO):Prop:=H a=some u∨∃ o,H a=some (.frz o u)
theorem Rd.ok {P:Program}{w:World}{H:Hp}{h:Heap}{a:Addr}{u:HO} (r:Rd H a u) (x:HOk P w H h):zY P w H h a u:=by
 rcases r with r|⟨o,r⟩
 ·exact x a u r
 ·obtain ⟨_,q⟩:=x a _ r
  exact q
def Mut:Option HO→Prop
 | some (.lst _)=>True
 | some (.dK _)=>True
 | some (.dT _)=>True
 | some (.set _ _)=>True
 | some (.ins _ _ _)=>True
 | some (.ext _)=>True
 | _=>False
section
variable {P:Program}{w:World}{H:Hp}{h h':Heap}{x e:Addr}{o':HO}
theorem HOk.write (ok:HOk P w H h) (mu:Mut (H x)) (he:e=x∨H e=some (.own x)) (k:∀ b u,b≠e→h.get? b=some u→h'.get? b=some u) (heo:∃ u,h'.get? e=some u)
  (new:zY P w (upd H x o') h' x o'):HOk P w (upd H x o') h':=fun b u q=>by
 have nown:∀ c y,H c=some (.own y)→c≠x:=fun c y r z=>by subst z;rw [r] at mu;exact mu
 have ntup:∀ c xs,H c=some (.tup xs)→c≠x:=fun c xs r z=>by subst z;rw [r] at mu;exact mu
 by_cases hb:b=x
 ·subst hb;rw [zF] at q;cases q;exact new
 ·rw [ze hb] at q
  by_cases hbe:b=e
  ·have q':H b=some (.own x):=by
    rcases he with z|z
    ·exact absurd (hbe.trans z) hb
    ·rw [hbe];exact z
   rw [q] at q';cases q'
   obtain ⟨v,hv⟩:=heo
   exact ⟨v,by rw [hbe];exact hv⟩
  ·refine (ok b u q).stay (fun c v hc r=>k c v ?_ r) (fun c r=>by rw [ze (nown c b r)];exact r) fun c xs r=>by rw [ze (ntup c xs r)];exact r
   rcases hc with rfl|hc
   ·exact hbe
   ·rintro rfl
    rcases he with z|z
    ·exact nown c b hc z
    ·rw [hc] at z;cases z;exact hb rfl
end
structure Un (fs ex:List Addr) (H H':Hp) (h h':Heap):Prop where
 keep:∀ b o,h.get? b=some o→H b=none→b∉fs→b∉ex→h'.get? b=some o
 slot:∀ b o,h.get? b=some o→H b=none→b∈fs→b∉ex→∃ sl,h'.get? b=some { o with slots:=sl }
 free:∀ b o,h.get? b=some o→H b=none→b∉ex→H' b=none
 there:∀ b o,h.get? b=some o→b∉ex→∃ o',h'.get? b=some o'
 tups:∀ b xs,H b=some (.tup xs)→H' b=some (.tup xs)
 frzs:∀ b o u,H b=some (.frz o u)→H' b=some (.frz o u)
 tbls:∀ b ps,H b=some (.tbl ps)→∃ more,H' b=some (.tbl (ps++more))
section
variable {fs fs' ex ex':List Addr}{H H1 H2:Hp}{h h1 h2 h':Heap}{a x e:Addr}{o:HO}
theorem Un.any (u:Un fs ex H H1 h h1) {b:Addr}{ob:Obj} (q:h.get? b=some ob) (n:H b=none) (hx:b∉ex):∃ sl,h1.get? b=some { ob with slots:=sl }:=by
 by_cases hb:b∈fs
 ·exact u.slot b ob q n hb hx
 ·exact ⟨ob.slots,u.keep b ob q n hb hx⟩
theorem Un.kept (k:∀ b u,h.get? b=some u→h'.get? b=some u):Un fs ex H H h h' :=
 ⟨fun b ob q _ _ _=>k b ob q,fun b ob q _ _ _=>⟨ob.slots,k b ob q⟩,fun _ _ _ n _=>n,fun b ob q _=>⟨ob,k b ob q⟩,fun _ _ q=>q,fun _ _ _ q=>q,fun _ ps q=>⟨#[],by rw [q];simp⟩⟩
theorem Un.refl:Un fs ex H H h h:=Un.kept fun _ _ q=>q
theorem Un.laid (k:∀ b u,h.get? b=some u→h'.get? b=some u) (hp:h.objs.size≤a) (hn:H a=none):Un fs ex H (upd H a o) h h' where
 keep:=fun b u q _ _ _=>k b u q
 slot:=fun b u q _ _ _=>⟨u.slots,k b u q⟩
 free:=fun b u q n _=>by rw [ze (Nat.ne_of_lt (Nat.lt_of_lt_of_le (Heap.lt_size q) hp))];exact n
 there:=fun b u q _=>⟨u,k b u q⟩
 tups:=fun b xs q=>by rw [ze (zt q hn)];exact q
 frzs:=fun b u xs q=>by rw [ze (zt q hn)];exact q
 tbls:=fun b ps q=>⟨#[],by rw [ze (zt q hn),q];simp⟩
theorem Un.write (mu:Mut (H x)) (he:e=x∨H e=some (.own x)) (k:∀ b u,b≠e→h.get? b=some u→h'.get? b=some u) (heo:∃ u,h'.get? e=some u):Un fs ex H (upd H x o) h h':=by
 have hx:∀ b,H b=none→b≠x:=fun b n z=>by subst z;rw [n] at mu;exact mu
 have hb:∀ b,H b=none→b≠e:=fun b n z=>by
  subst z
  rcases he with r|r
  ·exact hx b n r
  ·rw [n] at r;cases r
 have hm:∀ b u,H b=some u→¬ Mut (some u)→b≠x:=fun b u q nm z=>by subst z;rw [q] at mu;exact nm mu
 refine ⟨fun b u q n _ _=>k b u (hb b n) q,fun b u q n _ _=>⟨u.slots,k b u (hb b n) q⟩,fun b u q n _=>by rw [ze (hx b n)];exact n,fun b u q _=>?_,
  fun b xs q=>by rw [ze (hm b _ q fun z=>z)];exact q,fun b u xs q=>by rw [ze (hm b _ q fun z=>z)];exact q,fun b ps q=>⟨#[],by rw [ze (hm b _ q fun z=>z),q];simp⟩⟩
 by_cases hbe:b=e
 ·subst hbe;exact heo
 ·exact ⟨u,k b u hbe q⟩
end
def trk (h:Heap) (H:Hp):List Addr:=(List.range h.objs.size).filter fun a=>(H a).isSome
def zbH (h:Heap) (H:Hp):Heap:=PySem.W.hideAll h (trk h H)
theorem zmv (h:Heap) (H:Hp):(zbH h H).objs.size=h.objs.size:=PySem.W.hideAll_size _ _
theorem znu {h:Heap}{H:Hp}{b:Addr}{o:Obj} (e:h.get? b=some o) (n:H b=none):(zbH h H).get? b=some o :=
 PySem.W.hideAll_get _ e fun hm=>by
  have q:(H b).isSome=true:=(List.mem_filter.mp hm).2
  rw [n] at q;simp at q
theorem zw1 {h:Heap}{H:Hp}{b:Addr}{o:Obj} (e:(zbH h H).get? b=some o):h.get? b=some o∧H b=none:=by
 have e':h.get? b=some o:=PySem.W.of_hideAll (trk h H) e
 refine ⟨e',?_⟩
 cases q:H b with
 | none=>rfl
 | some x =>
  have hm:b∈trk h H:=List.mem_filter.mpr ⟨List.mem_range.mpr (Heap.lt_size e'),by simp [q]⟩
  have z:(zbH h H).get? b=none:=PySem.W.hideAll_none (trk h H) hm
  rw [z] at e;cases e
def zcf (g h:Heap) (L:Addr):List (Addr×Obj):=(List.range h.objs.size).filterMap fun a=>if a=L∨(g.get? a).isSome=true then none else (h.get? a).map fun o=>(a,o)
theorem zpz {g h:Heap}{L a:Addr}{o:Obj} (h1:a≠L) (h2:g.get? a=none) (h3:h.get? a=some o):(a,o)∈zcf g h L :=
 List.mem_filterMap.mpr ⟨a,List.mem_range.mpr (Heap.lt_size h3),by simp [h1,h2,h3]⟩
theorem zsv {g h:Heap}{L:Addr}{p:Addr×Obj} (hp:p∈zcf g h L):p.1≠L∧g.get? p.1=none∧h.get? p.1=some p.2:=by
 obtain ⟨b,_,e⟩:=List.mem_filterMap.mp hp
 split at e
 ·cases e
 ·rename_i hn
  cases q:h.get? b with
  | none=>rw [q] at e;simp at e
  | some u =>
   rw [q] at e
   simp only [Option.map_some,Option.some.injEq] at e
   subst e
   refine ⟨fun z=>hn (.inl z),?_,q⟩
   show g.get? b=none
   cases r:g.get? b with
   | none=>rfl
   | some v=>exact (hn (.inr (by simp [r]))).elim
def zZ (g h:Heap) (L d:Addr):List (Addr×Obj):=(zcf g h L).filter fun p=>decide (p.1≠d)
theorem zmM {g h:Heap}{L:Addr}:News g L h (zcf g h L):=fun p hp=>let ⟨a,b,c⟩:=zsv hp;⟨c,a,b⟩
end L2
namespace L2
open PySem PySem.Spec PyProof.Rows
structure Mod (K:PySem.W.Frag) (mg:Str→Option Value) (base:Heap):Prop where
 kin:K.In base
 glob:base.Ns mainGlobals mg
 blt:∃ mb,base.Ns builtinsNs mb∧∀ x:Str,x≠"__name__"→mb x=bootBuiltins x
 nolimit:base.NoLimit
def zeo (A:Around) (H:Hp):Prop:=A.handled=none∨∃ (a:Addr) (o:Obj) (vs:Array Value),A.handled=some (.ref a)∧H a=some (.frz o (.own 0))∧o.data = .fields vs∧vs[2]?=some .none∧∃ C,o.cls = .ref C
theorem zeo.same {A:Around}{H H':Hp} (x:zeo A H) (k:∀ b o u,H b=some (.frz o u)→H' b=some (.frz o u)):zeo A H':=by
 rcases x with x|⟨a,o,vs,h1,h2,h3⟩
 ·exact .inl x
 ·exact .inr ⟨a,o,vs,h1,k _ _ _ h2,h3⟩
structure Cx where
 prog:Program
 w:World
 K:PySem.W.Frag
 mg:Str→Option Value
 base:Heap
 A:Around
 N:List Str
 s₀:Shared
 H₀:Hp
 env:Env
 outer:List Env
 stack:List Env
 ex:List Addr
 fn:Str→Bool
 calm:Bool
 pn:List (Addr×Obj)
 xe:Value→Shared→Prop
def frs (l:List Env):List Addr:=l.filterMap (·.frame)
abbrev Cx.fs (X:Cx):List Addr:=frs X.outer
def Vis (sc:Scope) (x:Str):Prop:=sc.names.lookup x=some .local∨sc.names.lookup x=some .cell∨sc.names.lookup x=some .free
def Loc (sc:Scope) (x:Str):Prop:=sc.names.lookup x=some .local∨sc.names.lookup x=some .cell
def zk4 (env:Env) (h:Heap) (m:Str→Option Value) (x:Str) (u:Value):Prop :=
 (env.kindOf x=some .local∧m x=some u)∨((env.kindOf x=some .cell∨env.kindOf x=some .free)∧∃ c,env.cells.lookup x=some c∧h.IsCell c (some u))
structure Cx.Ok (X:Cx):Prop where
 mod:Mod X.K X.mg X.base
 kind:X.env.scope.kind = .function
 glob:X.env.globals=mainGlobals
 blt:X.env.builtins=builtinsNs
 above:X.s₀.heap.objs.size≤X.env.locals
 inj:∀ x y c,X.env.cells.lookup x=some c→X.env.cells.lookup y=some c→x=y
 has:∀ x,(X.env.kindOf x=some .cell∨X.env.kindOf x=some .free)→∃ c,X.env.cells.lookup x=some c
 cab:∀ x c,X.fn x=true→X.env.cells.lookup x=some c→X.s₀.heap.objs.size≤c
 hd:X.calm=true→X.A.handled=none
 frames:X.A.frames=some X.stack
 stk:X.stack=X.outer∨(X.stack=X.env::X.outer∧X.env.frame=some X.env.locals)
 exf:∀ b∈X.ex,b≠X.env.locals∧∀ x c,X.env.cells.lookup x=some c→c≠b
 bs:∀ b o,X.base.get? b=some o→X.s₀.heap.get? b=some o∧X.H₀ b=none
 bsz:X.base.objs.size≤X.s₀.heap.objs.size
 noex:∀ b o,X.base.get? b=some o→b∉X.ex
 exfs:∀ b∈X.ex,b∉X.fs
 funs:X.s₀.heap.FunFrames X.base X.outer
 frf:∀ b∈X.fs,X.H₀ b=none
structure Inv (X:Cx) (pins:List (Addr×Obj)) (σ:List (Option V)) (H:Hp) (s:Shared):Prop where
 ok:X.Ok
 os:s.os=X.s₀.os
 bare:AllBare s.gens
 base:Un X.fs X.ex X.H₀ H X.s₀.heap s.heap
 loc:∃ m,s.heap.Ns X.env.locals m∧∀ (i:Nat) (x:Str) (v:V),X.N[i]?=some x→σ[i]?=some (some v)→Vis X.env.scope x→∃ u,zi v u∧zk4 X.env s.heap m x u
 cell:∀ x c,X.env.cells.lookup x=some c→∃ v,s.heap.IsCell c v
 free:H X.env.locals=none
 freeC:∀ x c,X.env.cells.lookup x=some c→H c=none
 pin:∀ p∈X.pn++pins,s.heap.get? p.1=some p.2∧H p.1=none∧p.1≠X.env.locals∧p.1∉X.fs∧∀ v,p.2.data≠.cell v
 hok:HOk X.prog X.w H s.heap
 len:σ.length=X.N.length
 hdk:zeo X.A H
section
variable {X:Cx}{pins:List (Addr×Obj)}{σ:List (Option V)}{H H':Hp}{s:Shared}{h':Heap}
theorem Cx.Ok.nofr (ok:X.Ok) {b:Addr}{o:Obj} (e:X.base.get? b=some o):b∉X.fs:=fun hb=>by
 have:=(ok.funs.mem hb).1
 rw [e] at this;cases this
theorem Inv.bs (I:Inv X pins σ H s):∀ b o,X.base.get? b=some o→s.heap.get? b=some o∧H b=none:=fun b o e =>
 ⟨I.base.keep b o (I.ok.bs b o e).1 (I.ok.bs b o e).2 (I.ok.nofr e) (I.ok.noex b o e),I.base.free b o (I.ok.bs b o e).1 (I.ok.bs b o e).2 (I.ok.noex b o e)⟩
theorem Inv.bk (I:Inv X pins σ H s):∀ b o,X.base.get? b=some o→s.heap.get? b=some o:=fun b o e=>(I.bs b o e).1
theorem Inv.mod (I:Inv X pins σ H s):Mod X.K X.mg X.base:=I.ok.mod
theorem Inv.kIn (I:Inv X pins σ H s):X.K.In s.heap:=I.ok.mod.kin.keeps I.bk
theorem Inv.fr (I:Inv X pins σ H s):∃ m,Fr X.base X.env.locals s.heap m :=
 let ⟨m,hn,_⟩:=I.loc
 ⟨m,hn,I.bk,Nat.le_trans I.ok.bsz I.ok.above⟩
theorem Inv.lt (I:Inv X pins σ H s):X.env.locals<s.heap.objs.size:=let ⟨_,hn,_⟩:=I.loc;hn.lt
theorem Inv.sz (I:Inv X pins σ H s):X.s₀.heap.objs.size≤s.heap.objs.size:=Nat.le_trans I.ok.above (Nat.le_of_lt I.lt)
theorem Inv.nofs (I:Inv X pins σ H s) {a:Addr} (h:s.heap.objs.size≤a):a∉X.fs:=fun hb=>by
 obtain ⟨_,o,ho,_⟩:=I.ok.funs.mem hb
 exact absurd (Nat.lt_of_lt_of_le (Heap.lt_size ho) (Nat.le_trans I.sz h)) (Nat.lt_irrefl _)
theorem Inv.cne (I:Inv X pins σ H s):∀ x c,X.env.cells.lookup x=some c→c≠X.env.locals:=fun x c e z=>by
 obtain ⟨v,o,ho,hd⟩:=I.cell x c e
 obtain ⟨m,⟨o',es,ep,ho',hd',_⟩,_⟩:=I.loc
 rw [z,ho'] at ho;cases ho;rw [hd'] at hd;cases hd
theorem Inv.funs (I:Inv X pins σ H s):s.heap.FunFrames X.base X.outer:=by
 have all:∀ (l:List Env),(∀ b∈frs l,b∈X.fs)→X.s₀.heap.FunFrames X.base l→s.heap.FunFrames X.base l:=by
  intro l
  induction l with
  | nil=>intro _ _;trivial
  | cons env r ih =>
   intro hs hl
   obtain ⟨hk,⟨L,o,hf,hn,ho,hd⟩,hr⟩:=hl
   have hL:L∈X.fs:=hs L (by unfold frs;rw [List.filterMap_cons,hf];exact List.mem_cons_self)
   obtain ⟨sl,e⟩:=I.base.slot L o ho (I.ok.frf L hL) hL fun z=>I.ok.exfs L z hL
   exact ⟨hk,⟨L,_,hf,hn,e,hd⟩,ih (fun b hb=>hs b (by unfold frs;rw [List.filterMap_cons,hf];exact List.mem_cons_of_mem _ hb)) hr⟩
 exact all X.outer (fun _ hb=>hb) I.ok.funs
theorem Inv.stack (I:Inv X pins σ H s):s.heap.FunFrames X.base X.stack:=by
 rcases I.ok.stk with e|⟨e,hf⟩
 ·rw [e];exact I.funs
 ·rw [e]
  obtain ⟨m,hn,_⟩:=I.loc
  refine .cons (by rw [I.ok.kind];decide) hf hn ?_ I.funs
  exact Heap.get?_none_of_le (Nat.le_trans I.ok.bsz I.ok.above)
theorem Inv.stkSub (I:Inv X pins σ H s):∀ b∈frs X.stack,b∈X.env.locals::X.fs:=fun b hb=>by
 rcases I.ok.stk with e|⟨e,hf⟩
 ·rw [e] at hb;exact List.mem_cons_of_mem _ hb
 ·rw [e] at hb
  unfold frs at hb
  rw [List.filterMap_cons,hf] at hb
  exact hb
theorem Inv.stkFree (I:Inv X pins σ H s):∀ b∈frs X.stack,H b=none:=fun b hb=>by
 rcases List.mem_cons.mp (I.stkSub b hb) with e|hb
 ·rw [e];exact I.free
 ·obtain ⟨_,o,ho,_⟩:=I.ok.funs.mem hb
  exact I.base.free b o ho (I.ok.frf b hb) fun z=>I.ok.exfs b z hb
theorem Inv.step {g':Array GenState}{t':Nat}{d':Drawn}{ch:List Addr} (I:Inv X pins σ H s)
  (hch:∀ b∈ch,(b∈X.ex∨X.s₀.heap.objs.size≤b)∧b≠X.env.locals∧(∀ x c,X.env.cells.lookup x=some c→c≠b)∧∀ p∈X.pn++pins,p.1≠b)
  (keep:∀ b o,b≠X.env.locals→b∉X.fs→b∉ch→s.heap.get? b=some o→H b=none→h'.get? b=some o)
  (slot:∀ b o,b≠X.env.locals→b∈X.fs→b∉ch→s.heap.get? b=some o→H b=none→∃ sl,h'.get? b=some { o with slots:=sl }) (free:∀ b o,b∉ch→s.heap.get? b=some o→H b=none→H' b=none)
  (there:∀ b o,b∉ch→s.heap.get? b=some o→∃ o',h'.get? b=some o')
  (tups:∀ b xs,H b=some (.tup xs)→H' b=some (.tup xs)) (frzs:∀ b o u,H b=some (.frz o u)→H' b=some (.frz o u)) (tbls:∀ b ps,H b=some (.tbl ps)→∃ more,H' b=some (.tbl (ps++more)))
  (ns:∀ m,s.heap.Ns X.env.locals m→h'.Ns X.env.locals m) (hok:HOk X.prog X.w H' h') (hg:AllBare g') :
  Inv X pins σ H' { s with heap:=h',gens:=g',drawn:=d',toks:=t' }:=by
 have neL:∀ b o,X.s₀.heap.get? b=some o→b≠X.env.locals:=fun b o e=>Nat.ne_of_lt (Nat.lt_of_lt_of_le (Heap.lt_size e) I.ok.above)
 have neC:∀ b o,X.s₀.heap.get? b=some o→b∉X.ex→b∉ch:=fun b o e hx hb=>by
  rcases (hch b hb).1 with z|z
  ·exact hx z
  ·exact absurd (Nat.lt_of_lt_of_le (Heap.lt_size e) z) (Nat.lt_irrefl _)
 have cellK:∀ x c,X.env.cells.lookup x=some c→∀ v,s.heap.IsCell c v→h'.IsCell c v:=fun x c e v ⟨o,ho,hd⟩=>by
  have nch:c∉ch:=fun z=>(hch c z).2.2.1 x c e rfl
  by_cases hc:c∈X.fs
  ·obtain ⟨sl,q⟩:=slot c o (I.cne x c e) hc nch ho (I.freeC x c e)
   exact ⟨_,q,hd⟩
  ·exact ⟨o,keep c o (I.cne x c e) hc nch ho (I.freeC x c e),hd⟩
 refine ⟨I.ok,I.os,hg,⟨fun b o e n hb hx=>?_,fun b o e n hb hx=>?_,fun b o e n hx=>?_,fun b o e hx=>?_,fun b xs e=>tups b xs (I.base.tups b xs e),fun b o xs e=>frzs b o xs (I.base.frzs b o xs e),fun b ps e=>?_⟩,?_,fun x c e=>?_,?_,fun x c e=>?_,fun p hp=>?_,hok,I.len,I.hdk.same frzs⟩
 ·exact keep b o (neL b o e) hb (neC b o e hx) (I.base.keep b o e n hb hx) (I.base.free b o e n hx)
 ·obtain ⟨sl,e1⟩:=I.base.slot b o e n hb hx
  obtain ⟨sl',e2⟩:=slot b _ (neL b o e) hb (neC b o e hx) e1 (I.base.free b o e n hx)
  exact ⟨sl',e2⟩
 ·obtain ⟨o',e1⟩:=I.base.there b o e hx
  exact free b o' (neC b o e hx) e1 (I.base.free b o e n hx)
 ·obtain ⟨o',e1⟩:=I.base.there b o e hx
  exact there b o' (neC b o e hx) e1
 ·obtain ⟨m1,e1⟩:=I.base.tbls b ps e
  obtain ⟨m2,e2⟩:=tbls b _ e1
  exact ⟨m1++m2,by rw [e2,Array.append_assoc]⟩
 ·obtain ⟨m,hn,hl⟩:=I.loc
  refine ⟨m,ns m hn,fun i x v e1 e2 e3=>?_⟩
  obtain ⟨u,r,l⟩:=hl i x v e1 e2 e3
  refine ⟨u,r,?_⟩
  rcases l with l|⟨k,c,e,z⟩
  ·exact .inl l
  ·exact .inr ⟨k,c,e,cellK x c e _ z⟩
 ·obtain ⟨v,z⟩:=I.cell x c e
  exact ⟨v,cellK x c e v z⟩
 ·obtain ⟨m,⟨o,_,_,ho,_⟩,_⟩:=I.loc
  exact free _ o (fun z=>(hch _ z).2.1 rfl) ho I.free
 ·obtain ⟨v,o,ho,hd⟩:=I.cell x c e
  exact free c o (fun z=>(hch c z).2.2.1 x c e rfl) ho (I.freeC x c e)
 ·obtain ⟨e,n,ne,nf,d⟩:=I.pin p hp
  have nch:p.1∉ch:=fun z=>(hch p.1 z).2.2.2 p hp rfl
  exact ⟨keep p.1 p.2 ne nf nch e n,free p.1 p.2 nch e n,ne,nf,d⟩
theorem Inv.un {t':Nat} (I:Inv X pins σ H s) (u:Un X.fs [] H H' s.heap h') (hok:HOk X.prog X.w H' h'):Inv X pins σ H' { s with heap:=h',toks:=t' }:=by
 obtain ⟨m,⟨o,es,ep,ho,r⟩,_⟩:=id I.loc
 obtain ⟨sl,hL⟩:=u.any ho I.free (by simp)
 exact I.step (g':=s.gens) (d':=s.drawn) (ch:=[]) (fun _ z=>nomatch z) (fun b o _ hb _ e n=>u.keep b o e n hb (by simp)) (fun b o _ hb _ e n=>u.slot b o e n hb (by simp)) (fun b o _ e n=>u.free b o e n (by simp)) (fun b o _ e=>u.there b o e (by simp)) u.tups u.frzs u.tbls (fun m' hm=>by
  obtain ⟨o',es',ep',ho',r'⟩:=hm
  rw [ho] at ho';cases ho'
  exact ⟨_,es',ep',hL,r'⟩) hok I.bare
theorem Inv.call {g':Array GenState}{t':Nat}{d':Drawn}{ch:List Addr} (I:Inv X pins σ H s) (u:Un (frs X.stack) ch H H' s.heap h') (hok:HOk X.prog X.w H' h') (hg:AllBare g')
  (hch:∀ b∈ch,(b∈X.ex∨X.s₀.heap.objs.size≤b)∧b≠X.env.locals∧(∀ x c,X.env.cells.lookup x=some c→c≠b)∧∀ p∈X.pn++pins,p.1≠b) :
  Inv X pins σ H' { s with heap:=h',gens:=g',drawn:=d',toks:=t' }:=by
 obtain ⟨m,⟨o,es,ep,ho,r⟩,_⟩:=id I.loc
 obtain ⟨sl,hL⟩:=u.any ho I.free fun z=>(hch _ z).2.1 rfl
 exact I.step (ch:=ch) hch (fun b o hL hb hc e n=>u.keep b o e n (fun z=>(List.mem_cons.mp (I.stkSub b z)).elim hL hb) hc) (fun b o _ _ hc e n=>u.any e n hc) (fun b o hc e n=>u.free b o e n hc) (fun b o hc e=>u.there b o e hc) u.tups u.frzs u.tbls (fun m' hm=>by
  obtain ⟨o',es',ep',ho',r'⟩:=hm
  rw [ho] at ho';cases ho'
  exact ⟨_,es',ep',hL,r'⟩) hok hg
theorem Inv.turned {t':Nat}{it:Addr} (I:Inv X pins σ H s) (k:∀ b o,b≠it→s.heap.get? b=some o→h'.get? b=some o) (hn:H it=none) (hL:it≠X.env.locals)
  (h1:it∈X.ex∨X.s₀.heap.objs.size≤it) (h2:∀ x c,X.env.cells.lookup x=some c→c≠it) (h3:∀ p∈X.pn++pins,p.1≠it):Inv X pins σ H { s with heap:=h',toks:=t' }:=by
 have nit:∀ b u,H b=some u→b≠it:=fun b u e z=>by rw [z,hn] at e;cases e
 refine I.step (g':=s.gens) (d':=s.drawn) (ch:=[it]) (fun b hb=>?_) (fun b o _ _ hc e _=>k b o (fun z=>hc (by simp [z])) e) (fun b o _ _ hc e _=>⟨o.slots,k b o (fun z=>hc (by simp [z])) e⟩) (fun _ _ _ _ n=>n)
  (fun b o hc e=>⟨o,k b o (fun z=>hc (by simp [z])) e⟩) (fun _ _ e=>e) (fun _ _ _ e=>e) (fun b ps e=>⟨#[],by rw [e];simp⟩) (fun m hm=>?_) (fun b u e=>?_) I.bare
 ·have e:b=it:=by simpa using hb
  subst e
  exact ⟨h1,hL,h2,h3⟩
 ·obtain ⟨o,es,ep,ho,r⟩:=hm
  exact ⟨o,es,ep,k _ o (Ne.symm hL) ho,r⟩
 ·refine (I.hok b u e).stay (fun c v hc q=>k c v ?_ q) (fun _ q=>q) fun _ _ q=>q
  rcases hc with z|z
  ·rw [z];exact nit b u e
  ·exact nit c _ z
theorem Inv.tok (I:Inv X pins σ H s) (t:Nat):Inv X pins σ H { s with toks:=t }:=I.un (h':=s.heap) (t':=t) Un.refl I.hok
theorem Inv.kept {t':Nat} (I:Inv X pins σ H s) (k:∀ b u,s.heap.get? b=some u→h'.get? b=some u):Inv X pins σ H { s with heap:=h',toks:=t' }:=I.un (Un.kept k) (I.hok.kept k)
theorem Inv.laid {a:Addr}{o:HO}{t':Nat} (I:Inv X pins σ H s) (k:∀ b u,s.heap.get? b=some u→h'.get? b=some u) (hp:s.heap.objs.size≤a) (new:zY X.prog X.w (upd H a o) h' a o) :
  Inv X pins σ (upd H a o) { s with heap:=h',toks:=t' }:=I.un (Un.laid k hp (I.hok.fresh hp)) (I.hok.laid k hp new)
theorem Inv.write {x e:Addr}{o:HO}{t':Nat} (I:Inv X pins σ H s) (mu:Mut (H x)) (he:e=x∨H e=some (.own x)) (k:∀ b u,b≠e→s.heap.get? b=some u→h'.get? b=some u) (heo:∃ u,h'.get? e=some u)
  (new:zY X.prog X.w (upd H x o) h' x o):Inv X pins σ (upd H x o) { s with heap:=h',toks:=t' }:=I.un (Un.write mu he k heo) (I.hok.write mu he k heo new)
theorem Inv.pins_of {pins':List (Addr×Obj)} (I:Inv X pins σ H s) (h:∀ p∈pins',s.heap.get? p.1=some p.2∧H p.1=none∧p.1≠X.env.locals∧p.1∉X.fs∧∀ v,p.2.data≠.cell v):Inv X pins' σ H s :=
 ⟨I.ok,I.os,I.bare,I.base,I.loc,I.cell,I.free,I.freeC,fun p hp=>(List.mem_append.mp hp).elim (fun z=>I.pin p (List.mem_append_left _ z)) (h p),I.hok,I.len,I.hdk⟩
theorem zhS {N:List Str} (hN:N.Nodup) {i j:Nat}{x:Str} (a:N[i]?=some x) (b:N[j]?=some x):i=j:=by
 obtain ⟨h1,e1⟩:=List.getElem?_eq_some_iff.mp a
 obtain ⟨h2,e2⟩:=List.getElem?_eq_some_iff.mp b
 exact (List.getElem_inj hN).mp (e1.trans e2.symm)
theorem zpq {M:Model}{A:Around}{E:Value→Shared→Prop}{i:Nat}{x:Str}{v:V}{u:Value}{Q:Unit→Shared→Prop} (I:Inv X pins σ H s) (hN:X.N.Nodup) (hi:X.N[i]?=some x) (hx:Loc X.env.scope x) (r:zi v u)
  (h:∀ s',Inv X pins (σ.set i (some v)) H s'→(∃ a,Heap.SameBut a s.heap s'.heap∧(a=X.env.locals∨X.env.cells.lookup x=some a))→Q () s') (hf:X.fn x=true∨X.env.scope.names.lookup x=some .local:=by first|exact .inl rfl|exact .inr rfl|assumption):wpAny M A (storeName X.env x u) Q E s:=by
 obtain ⟨m,hn,hl⟩:=id I.loc
 have hcls:(X.env.scope.kind == .class || (X.env.scope.kind == .module && X.env.locals != X.env.globals))=false:=by rw [I.ok.kind];rfl
 have hiσ:i<σ.length:=by rw [I.len];exact (List.getElem?_eq_some_iff.mp hi).1
 have cne:=I.cne
 have tracked:∀ {a:Addr}{h':Heap},(∃ o,s.heap.get? a=some o∧H a=none)→Heap.SameBut a s.heap h'→HOk X.prog X.w H h':=fun {a h'} ha hs b ob e=>by
  obtain ⟨_,_,hfree⟩:=ha
  refine (I.hok b ob e).stay (fun c w' hc q=>(hs.2 c ?_).trans q) (fun _ q=>q) fun _ _ q=>q
  rintro rfl
  rcases hc with rfl|hc
  ·rw [hfree] at e;cases e
  ·rw [hfree] at hc;cases hc
 rcases hx with hk|hk
 ·refine wpAny_storeName_local hk hn (fun h' hn' hs=>?_) hcls
  obtain ⟨oL,_,_,hoL,_⟩:=id hn
  refine h _ ⟨I.ok,I.os,I.bare,⟨fun b o e n hb hx=>?_,fun b o e n hb hx=>?_,I.base.free,fun b o e hx=>?_,I.base.tups,I.base.frzs,I.base.tbls⟩,⟨_,hn',fun j y v' e1 e2 e3=>?_⟩,fun y c e=>?_,I.free,I.freeC,fun p hp=>?_,tracked ⟨oL,hoL,I.free⟩ hs,by simpa using I.len,I.hdk⟩ ⟨_,hs,.inl rfl⟩
  ·exact (hs.2 b (Nat.ne_of_lt (Nat.lt_of_lt_of_le (Heap.lt_size e) I.ok.above))).trans (I.base.keep b o e n hb hx)
  ·obtain ⟨sl,e1⟩:=I.base.slot b o e n hb hx
   exact ⟨sl,(hs.2 b (Nat.ne_of_lt (Nat.lt_of_lt_of_le (Heap.lt_size e) I.ok.above))).trans e1⟩
  ·obtain ⟨o',e1⟩:=I.base.there b o e hx
   exact ⟨o',(hs.2 b (Nat.ne_of_lt (Nat.lt_of_lt_of_le (Heap.lt_size e) I.ok.above))).trans e1⟩
  ·by_cases hj:j=i
   ·subst hj
    rw [hi] at e1;cases e1
    rw [List.getElem?_set_self hiσ] at e2
    cases e2
    exact ⟨u,r,.inl ⟨hk,by simp⟩⟩
   ·rw [List.getElem?_set_ne (Ne.symm hj)] at e2
    obtain ⟨u',r',q⟩:=hl j y v' e1 e2 e3
    refine ⟨u',r',?_⟩
    rcases q with ⟨k,e⟩|⟨k,c,e,z⟩
    ·refine .inl ⟨k,?_⟩
     have:y≠x:=fun e=>hj (zhS hN e1 (e ▸ hi))
     simp [this,e]
    ·exact .inr ⟨k,c,e,z.sameBut hs (cne y c e)⟩
  ·obtain ⟨w',z⟩:=I.cell y c e
   exact ⟨w',z.sameBut hs (cne y c e)⟩
  ·obtain ⟨e,n,ne,nf,d⟩:=I.pin p hp
   exact ⟨(hs.2 p.1 ne).trans e,n,ne,nf,d⟩
 ·have hfn:X.fn x=true:=by
   rcases hf with z|z
   ·exact z
   ·rw [z] at hk;cases hk
  obtain ⟨c,hc⟩:=I.ok.has x (.inl hk)
  obtain ⟨w',z⟩:=I.cell x c hc
  refine wpAny_storeName_cell I.ok.kind hk hc z (fun h' hc' hs=>?_)
  obtain ⟨oc,hoc,hocd⟩:=id z
  refine h { s with heap:=h' } ⟨I.ok,I.os,I.bare,⟨fun b o e n hb hx=>?_,fun b o e n hb hx=>?_,I.base.free,fun b o e hx=>?_,I.base.tups,I.base.frzs,I.base.tbls⟩,⟨m,hn.sameBut hs (Ne.symm (cne x c hc)),fun j y v' e1 e2 e3=>?_⟩,fun y c' e=>?_,I.free,I.freeC,fun p hp=>?_,tracked ⟨oc,hoc,I.freeC x c hc⟩ hs,by simpa using I.len,I.hdk⟩ ⟨c,hs,.inr hc⟩
  ·exact (hs.2 b (Nat.ne_of_lt (Nat.lt_of_lt_of_le (Heap.lt_size e) (I.ok.cab x c hfn hc)))).trans (I.base.keep b o e n hb hx)
  ·obtain ⟨sl,e1⟩:=I.base.slot b o e n hb hx
   exact ⟨sl,(hs.2 b (Nat.ne_of_lt (Nat.lt_of_lt_of_le (Heap.lt_size e) (I.ok.cab x c hfn hc)))).trans e1⟩
  ·obtain ⟨o',e1⟩:=I.base.there b o e hx
   exact ⟨o',(hs.2 b (Nat.ne_of_lt (Nat.lt_of_lt_of_le (Heap.lt_size e) (I.ok.cab x c hfn hc)))).trans e1⟩
  ·by_cases hj:j=i
   ·subst hj
    rw [hi] at e1;cases e1
    rw [List.getElem?_set_self hiσ] at e2
    cases e2
    exact ⟨u,r,.inr ⟨.inl hk,c,hc,hc'⟩⟩
   ·rw [List.getElem?_set_ne (Ne.symm hj)] at e2
    obtain ⟨u',r',q⟩:=hl j y v' e1 e2 e3
    refine ⟨u',r',?_⟩
    rcases q with q|⟨k,c',e,z'⟩
    ·exact .inl q
    ·refine .inr ⟨k,c',e,z'.sameBut hs ?_⟩
     rintro rfl
     exact hj (zhS hN e1 (I.ok.inj _ _ _ e hc ▸ hi))
  ·by_cases hcc:c'=c
   ·subst hcc;exact ⟨_,hc'⟩
   ·obtain ⟨w2,z2⟩:=I.cell y c' e
    exact ⟨w2,z2.sameBut hs hcc⟩
  ·obtain ⟨e,n,ne,nf,d⟩:=I.pin p hp
   refine ⟨(hs.2 p.1 ?_).trans e,n,ne,nf,d⟩
   intro q
   rw [q,hoc] at e
   have q':oc=p.2:=Option.some.inj e
   exact d w' (by rw [← q'];exact hocd)
theorem zf4 {M:Model}{A:Around}{E:Value→Shared→Prop}{i:Nat}{x:Str}{v:V}{u:Value}{Q:Unit→Shared→Prop} (I:Inv X pins σ H s) (hN:X.N.Nodup) (hi:X.N[i]?=some x) (hx:Loc X.env.scope x) (r:zi v u)
  (h:∀ s',Inv X pins (σ.set i (some v)) H s'→Q () s') (hf:X.fn x=true∨X.env.scope.names.lookup x=some .local:=by first|exact .inl rfl|exact .inr rfl|assumption):wpAny M A (storeName X.env x u) Q E s :=
 zpq I hN hi hx r (fun s' I' _=>h s' I') hf
theorem Inv.call' {s':Shared}{ch:List Addr} (I:Inv X pins σ H s) (ho:s'.os=s.os) (u:Un (frs X.stack) ch H H' s.heap s'.heap) (hok:HOk X.prog X.w H' s'.heap) (hg:AllBare s'.gens)
  (hch:∀ b∈ch,(b∈X.ex∨X.s₀.heap.objs.size≤b)∧b≠X.env.locals∧(∀ x c,X.env.cells.lookup x=some c→c≠b)∧∀ p∈X.pn++pins,p.1≠b):Inv X pins σ H' s':=by
 obtain ⟨h',g',d',t',o'⟩:=s'
 have e:o'=s.os:=ho
 subst e
 exact I.call (g':=g') (t':=t') (d':=d') u hok hg hch
end
abbrev XK:=Value→Option Addr→Hp→Prop
abbrev St:=List (Option V)
abbrev VK:=V→Hp→Prop
abbrev TE:=St→Hp→VK→Prop
abbrev TT:=St→Hp→(Bool→Hp→Prop)→Prop
abbrev TA:=St→Hp→(List V→Hp→Prop)→Prop
structure zaq where
 nx:St→Hp→Prop
 rt:VK
 bk:St→Hp→Prop:=fun _ _=>False
 ct:St→Hp→Prop:=fun _ _=>False
abbrev TS:=zaq→St→Hp→Prop
def EP (X:Cx) (pins:List (Addr×Obj)) (σ:St) (Q:VK) (u:Value) (s':Shared):Prop:=∃ v H',Inv X pins σ H' s'∧zi v u∧Q v H'
def TP (X:Cx) (pins:List (Addr×Obj)) (σ:St) (Q:Bool→Hp→Prop) (b:Bool) (s':Shared):Prop:=∃ H',Inv X pins σ H' s'∧Q b H'
def AP (X:Cx) (pins:List (Addr×Obj)) (σ:St) (Q:List V→Hp→Prop) (us:List Value) (s':Shared):Prop:=∃ vs H',Inv X pins σ H' s'∧zk vs us∧Q vs H'
def SP (X:Cx) (pins:List (Addr×Obj)) (D:zaq) (f:Flow) (s':Shared):Prop :=
 match f with
 | .next=>∃ σ' H',Inv X pins σ' H' s'∧D.nx σ' H'
 | .brk=>∃ σ' H',Inv X pins σ' H' s'∧D.bk σ' H'
 | .cont=>∃ σ' H',Inv X pins σ' H' s'∧D.ct σ' H'
 | .ret u=>∃ v σ' H',Inv X pins σ' H' s'∧zi v u∧D.rt v H'
def PE (X:Cx) (e:Expr) (t:TE):Prop :=
 ∀ (pins:List (Addr×Obj)) (s:Shared) (σ:St) (H:Hp) (Q:VK),Inv X pins σ H s→t σ H Q→wpAny (model X.prog X.w) X.A (eval e X.env) (EP X pins σ Q) X.xe s
def PT (X:Cx) (e:Expr) (t:TT):Prop :=
 ∀ (pins:List (Addr×Obj)) (s:Shared) (σ:St) (H:Hp) (Q:Bool→Hp→Prop),Inv X pins σ H s→t σ H Q→wpAny (model X.prog X.w) X.A (isTrue e X.env (eval e X.env)) (TP X pins σ Q) X.xe s
def PW (X:Cx) (e:Expr) (t:TT):Prop :=
 ∀ (whole:Sem Value) (pins:List (Addr×Obj)) (s:Shared) (σ:St) (H:Hp) (Q:Bool→Hp→Prop),Inv X pins σ H s→t σ H Q→wpAny (model X.prog X.w) X.A (isTrue e X.env whole) (TP X pins σ Q) X.xe s
theorem PW.pt {X:Cx}{e:Expr}{t:TT} (h:PW X e t):PT X e t:=h _
def PA (X:Cx) (es:List Expr) (t:TA):Prop :=
 ∀ (pos:Pos) (pins:List (Addr×Obj)) (s:Shared) (σ:St) (H:Hp) (Q:List V→Hp→Prop),Inv X pins σ H s→t σ H Q→wpAny (model X.prog X.w) X.A (spliced (backTo pos (starEach es X.env))) (AP X pins σ Q) X.xe s
def PS (X:Cx) (st:Stmt) (t:TS):Prop :=
 ∀ (pins:List (Addr×Obj)) (s:Shared) (σ:St) (H:Hp) (D:zaq),Inv X pins σ H s→t D σ H→wpAny (model X.prog X.w) X.A (exec st X.env) (SP X pins D) X.xe s
def PSs (X:Cx) (st:List Stmt) (t:TS):Prop :=
 ∀ (pins:List (Addr×Obj)) (s:Shared) (σ:St) (H:Hp) (D:zaq),Inv X pins σ H s→t D σ H→wpAny (model X.prog X.w) X.A (execs st X.env) (SP X pins D) X.xe s
theorem thn {α:Type}{t:Sem α}{Q Q':α→Shared→Prop}{M:Model}{A:Around}{E:Value→Shared→Prop}{s:Shared} (h:wpAny M A t Q E s) (hQ:∀ a s,Q a s→Q' a s):wpAny M A t Q' E s:=wpAny_mono h hQ fun _ _ x=>x
end L2
namespace L2
open PySem PySem.Spec PyProof.Rows
section
variable {X:Cx}
theorem bin {a b:Expr}{ta tb:TE} (ha:PE X a ta) (hb:PE X b tb) {pins:List (Addr×Obj)}{s:Shared}{σ:St}{H:Hp}{R:V→V→Hp→Prop} (I:Inv X pins σ H s) (h:ta σ H fun x H1=>tb σ H1 fun y H2=>R x y H2)
  {α:Type}{Q:α→Shared→Prop}{f:Value→Value→Sem α}
  (hf:∀ v u s2 x y H2,Inv X pins σ H2 s2→zi x v→zi y u→R x y H2→wpAny (model X.prog X.w) X.A (f v u) Q X.xe s2) :
  wpAny (model X.prog X.w) X.A (eval a X.env) (fun v s₁=>wpAny (model X.prog X.w) X.A (eval b X.env) (fun u s₂=>wpAny (model X.prog X.w) X.A (f v u) Q X.xe s₂) X.xe s₁) X.xe s:=by
 refine thn (ha pins s σ H _ I h) fun v s1 ⟨x,H1,I1,r1,q1⟩=>?_
 refine thn (hb pins s1 σ H1 _ I1 q1) fun u s2 ⟨y,H2,I2,r2,q2⟩=>?_
 exact hf v u s2 x y H2 I2 r1 r2 q2
def zdb (i:Nat):TE:=fun σ H Q=>∃ v,σ[i]?=some (some v)∧Q v H
def tC (v:V):TE:=fun _ H Q=>Q v H
theorem zt8 {i:Nat}{x:Str}{pos:Pos} (hN:X.N[i]?=some x) (hv:Vis X.env.scope x) (hd:(x == ("__debug__":Str))=false:=by decide) (hcd:(x == ("__classdict__":Str))=false:=by decide):PE X (.Name x pos) (zdb i):=by
 intro pins s σ H Q I h
 obtain ⟨v,e,h⟩:=h
 obtain ⟨m,hn,hl⟩:=I.loc
 obtain ⟨u,r,l⟩:=hl i x v hN e hv
 have fin:EP X pins σ Q u s:=⟨v,H,I,r,h⟩
 rcases l with ⟨hk,hm⟩|⟨hk,c,hc,hcell⟩
 ·exact wpAny_Name (wpAny_loadName_local I.ok.kind hk hn hm fin) hd
 ·rcases hk with hk|hk
  ·exact wpAny_Name (wpAny_loadName_cell I.ok.kind hk hc hcell fin) hd
  ·exact wpAny_Name (wpAny_loadName_free I.ok.kind hk hc hcell fin hcd) hd
theorem ziR {i j pos}:PE X (.Constant (.int i) j pos) (tC (.int i)):=fun _ _ _ H _ I h=>wpAny_Constant_int ⟨.int i,H,I.tok _,⟨_,rfl⟩,h⟩
theorem zvo {b j pos}:PE X (.Constant (.bool b) j pos) (tC (.bl b)):=fun _ _ _ H _ I h=>Constant_bool ⟨.bl b,H,I,rfl,h⟩
theorem zvi {j pos}:PE X (.Constant .none j pos) (tC .non):=fun _ _ _ H _ I h=>Constant_none ⟨.non,H,I,rfl,h⟩
theorem zqD {x j pos}:PE X (.Constant (.str x) j pos) (tC (.str x)):=fun _ _ _ H _ I h=>Calls.Constant_str ⟨.str x,H,I.tok _,⟨_,rfl⟩,h⟩
def Gl (X:Cx) (x:Str):Prop:=X.env.kindOf x=some .globalImplicit
theorem zde {E:Value→Shared→Prop}{pins:List (Addr×Obj)}{s:Shared}{σ:St}{H:Hp}{x:Str}{u:Value}{pos:Pos}{Q:Value→Shared→Prop} (I:Inv X pins σ H s) (hg:Gl X x) (hm:X.mg x=some u) (h:Q u s)
  (hd:(x == ("__debug__":Str))=false:=by decide):wpAny (model X.prog X.w) X.A (eval (.Name x pos) X.env) Q E s :=
 Calls.Name_function_global I.ok.kind hg (Calls.loadGlobal_global (by rw [I.ok.glob];exact I.mod.glob.keeps I.bk) hm h) hd
theorem zbQ {E:Value→Shared→Prop}{pins:List (Addr×Obj)}{s:Shared}{σ:St}{H:Hp}{x:Str}{u:Value}{pos:Pos}{Q:Value→Shared→Prop} (I:Inv X pins σ H s) (hg:Gl X x) (hm:X.mg x=none) (hv:bootBuiltins x=some u) (h:Q u s)
  (hn:x≠"__name__":=by decide) (hd:(x == ("__debug__":Str))=false:=by decide):wpAny (model X.prog X.w) X.A (eval (.Name x pos) X.env) Q E s:=by
 obtain ⟨mb,h1,h2⟩:=I.mod.blt
 exact Calls.Name_function_global I.ok.kind hg (Calls.loadGlobal_builtin (by rw [I.ok.glob];exact I.mod.glob.keeps I.bk) hm (by rw [I.ok.blt];exact h1.keeps I.bk) ((h2 x hn).trans hv) h) hd
theorem zuG {x:Str}{v:V}{u:Value}{pos:Pos} (hg:Gl X x) (hm:X.mg x=some u) (r:zi v u) (hd:(x == ("__debug__":Str))=false:=by decide):PE X (.Name x pos) (tC v) :=
 fun _ _ _ H _ I h=>zde I hg hm ⟨v,H,I,r,h⟩ hd
theorem zqn {x:Str}{v:V}{u:Value}{pos:Pos} (hg:Gl X x) (hm:X.mg x=none) (hv:bootBuiltins x=some u) (r:zi v u) (hn:x≠"__name__":=by decide) (hd:(x == ("__debug__":Str))=false:=by decide):PE X (.Name x pos) (tC v) :=
 fun _ _ _ H _ I h=>zbQ I hg hm hv ⟨v,H,I,r,h⟩ hn hd
variable {a b:Expr}{ta tb:TE}{pos:Pos}
def tB (t:TE):TT:=fun σ H Q=>t σ H fun x H1=>∃ c,x = .bl c∧Q c H1
variable {tA tB':TT}{zZ:List Expr}
def zhU (t u:TT):TT:=fun σ H Q=>t σ H fun c H1=>if c=true then u σ H1 Q else Q false H1
def tOr (t u:TT):TT:=fun σ H Q=>t σ H fun c H1=>if c=true then Q true H1 else u σ H1 Q
def zgL (t:TT):TT:=fun σ H Q=>t σ H fun c H1=>Q (!c) H1
theorem zuZ (ha:PT X a tA):PW X (.BoolOp .And [a] pos) tA:=by
 intro wh pins s σ H Q I h
 refine isTrue_and (thn (ha pins s σ H Q I h) fun c s1 e=>?_)
 cases c with
 | true=>exact isTrue_and_nil e
 | false=>exact e
theorem zu9 (ha:PT X a tA):PW X (.BoolOp .Or [a] pos) tA:=by
 intro wh pins s σ H Q I h
 refine isTrue_or (thn (ha pins s σ H Q I h) fun c s1 e=>?_)
 cases c with
 | false=>exact isTrue_or_nil e
 | true=>exact e
theorem zmA (ha:PT X a tA) (hb:PW X (.BoolOp .And (b::zZ) pos) tB'):PW X (.BoolOp .And (a::b::zZ) pos) (zhU tA tB'):=by
 intro wh pins s σ H Q I h
 refine isTrue_and (thn (ha pins s σ H _ I h) fun c s1 ⟨H1,I1,q1⟩=>?_)
 cases c with
 | true=>exact hb wh pins s1 σ H1 Q I1 q1
 | false=>exact ⟨H1,I1,q1⟩
theorem zph (ha:PT X a tA) (hb:PW X (.BoolOp .Or (b::zZ) pos) tB'):PW X (.BoolOp .Or (a::b::zZ) pos) (tOr tA tB'):=by
 intro wh pins s σ H Q I h
 refine isTrue_or (thn (ha pins s σ H _ I h) fun c s1 ⟨H1,I1,q1⟩=>?_)
 cases c with
 | true=>exact ⟨H1,I1,q1⟩
 | false=>exact hb wh pins s1 σ H1 Q I1 q1
theorem zmx (ha:PT X a tA):PT X (.UnaryOp .Not a pos) (zgL tA):=by
 intro pins s σ H Q I h
 exact isTrue_not (ha pins s σ H (fun c H1=>Q (!c) H1) I h)
def ziy (ta tb:TE):TE:=fun σ H Q=>ta σ H fun x H1=>∃ c,x = .bl c∧if c=true then tb σ H1 Q else Q (.bl false) H1
def zhD (ta tb:TE):TE:=fun σ H Q=>ta σ H fun x H1=>∃ c,x = .bl c∧if c=true then Q (.bl true) H1 else tb σ H1 Q
def zgN (ta:TE):TE:=fun σ H Q=>ta σ H fun x H1=>∃ c,x = .bl c∧Q (.bl (!c)) H1
theorem zmS {op}{t:TE} (h:PE X a t):PE X (.BoolOp op [a] pos) t:=fun pins s σ H Q I hw=>BoolOp_one (h pins s σ H Q I hw)
theorem zrS (ha:PE X a ta) (hb:PE X (.BoolOp .And (b::zZ) pos) tb):PE X (.BoolOp .And (a::b::zZ) pos) (ziy ta tb):=by
 intro pins s σ H Q I h
 refine BoolOp_and (thn (ha pins s σ H _ I h) fun v s1 ⟨x,H1,I1,r1,q1⟩=>?_)
 obtain ⟨c,rfl,q1⟩:=q1
 cases r1
 refine wpAny_truthy_bool ?_
 cases c with
 | true=>exact hb pins s1 σ H1 Q I1 q1
 | false=>exact ⟨.bl false,H1,I1,rfl,q1⟩
theorem zwH (ha:PE X a ta) (hb:PE X (.BoolOp .Or (b::zZ) pos) tb):PE X (.BoolOp .Or (a::b::zZ) pos) (zhD ta tb):=by
 intro pins s σ H Q I h
 refine BoolOp_or (thn (ha pins s σ H _ I h) fun v s1 ⟨x,H1,I1,r1,q1⟩=>?_)
 obtain ⟨c,rfl,q1⟩:=q1
 cases r1
 refine wpAny_truthy_bool ?_
 cases c with
 | false=>exact hb pins s1 σ H1 Q I1 q1
 | true=>exact ⟨.bl true,H1,I1,rfl,q1⟩
theorem zqI (ha:PE X a ta):PE X (.UnaryOp .Not a pos) (zgN ta):=by
 intro pins s σ H Q I h
 refine UnaryOp_ (thn (ha pins s σ H _ I h) fun v s1 ⟨x,H1,I1,r1,q1⟩=>?_)
 obtain ⟨c,rfl,q1⟩:=q1
 cases r1
 exact not_of (wpAny_truthy_bool ⟨.bl (!c),H1,I1,rfl,q1⟩)
def tIf (t:TT) (ta tb:TE):TE:=fun σ H Q=>t σ H fun c H1=>if c=true then ta σ H1 Q else tb σ H1 Q
theorem zoq {c:Expr} (hc:PT X c tA) (ha:PE X a ta) (hb:PE X b tb):PE X (.IfExp c a b pos) (tIf tA ta tb):=by
 intro pins s σ H Q I h
 refine wpAny_IfExp (thn (hc pins s σ H _ I h) fun d s1 ⟨H1,I1,q1⟩=>?_)
 cases d with
 | true=>exact ha pins s1 σ H1 Q I1 q1
 | false=>exact hb pins s1 σ H1 Q I1 q1
end
end L2
namespace L2
open PySem PySem.Spec PyProof.Rows
def SqL (K:PySem.W.Frag) (H:Hp) (a:Addr) (xs:List V):Prop :=
 Rd H a (.lst xs) ∨
  ∃ (o:Obj) (its:Array Value) (n:Nat),K.lookup a=some o∧o.cls = .type "list"∧o.dict=none∧o.data = .seq its n∧its.size≤sizeLine∧zk xs its.toList
def SqT (K:PySem.W.Frag) (H:Hp) (a:Addr) (xs:List V):Prop :=
 Rd H a (.tup xs) ∨
  ∃ (o:Obj) (its:Array Value) (n:Nat),K.lookup a=some o∧o.cls = .type "tuple"∧o.data = .seq its n∧its.size≤sizeLine∧zk xs its.toList
def zpv:Value→Option V
 | .none=>some .non
 | .bool b=>some (.bl b)
 | .int i _=>some (.int i)
 | .str x _=>some (.str x)
 | .bytes b _=>some (.byt b)
 | .float b _=>some (.flt b)
 | .ref a=>some (.ref a)
 | .type n=>some (.ty n)
 | _=>none
theorem zi.abs {x:V}{u:Value} (r:zi x u):zpv u=some x:=by
 cases x with
 | non=>cases r;rfl
 | bl _=>cases r;rfl
 | int _=>obtain ⟨t,rfl⟩:=r;rfl
 | str _=>obtain ⟨t,rfl⟩:=r;rfl
 | byt _=>obtain ⟨t,rfl⟩:=r;rfl
 | flt _=>obtain ⟨t,rfl⟩:=r;rfl
 | ref _=>cases r;rfl
 | ty _=>cases r;rfl
theorem zi.inj {x y:V}{u:Value} (r:zi x u) (q:zi y u):x=y:=Option.some.inj (r.abs.symm.trans q.abs)
theorem zk.inj:∀ {xs ys:List V}{us:List Value},zk xs us→zk ys us→xs=ys
 | _,_,_,.nil,.nil=>rfl
 | _,_,_,.cons r t,.cons r' t'=>by rw [r.inj r',zk.inj t t']
section
variable {X:Cx}{pins:List (Addr×Obj)}{σ:St}{H:Hp}{s:Shared}{a:Addr}{xs ys:List V}
theorem SqL.of {K:PySem.W.Frag} (h:H a=some (.lst xs)):SqL K H a xs:=.inl (.inl h)
theorem SqT.of {K:PySem.W.Frag} (h:H a=some (.tup xs)):SqT K H a xs:=.inl (.inl h)
theorem Inv.list (I:Inv X pins σ H s) (h:SqL X.K H a xs):∃ its:List Value,zk xs its∧PlainL s.heap a its.toArray∧xs.length≤sizeLine:=by
 rcases h with h|⟨o,its,n,hk,hc,hd,hs,hz,r⟩
 ·obtain ⟨z,its,n,r,e⟩:=h.ok I.hok
  exact ⟨its,r,⟨_,n,e,rfl,rfl,rfl⟩,z⟩
 ·refine ⟨its.toList,r,⟨o,n,I.kIn a o hk,hc,hd,by simpa using hs⟩,?_⟩
  have e:=r.length
  simp only [Array.length_toList] at e
  omega
theorem Inv.tuple (I:Inv X pins σ H s) (h:SqT X.K H a xs):∃ its:List Value,zk xs its∧IsTup s.heap a its.toArray∧xs.length≤sizeLine:=by
 rcases h with h|⟨o,its,n,hk,hc,hs,hz,r⟩
 ·obtain ⟨z,its,r,p⟩:=h.ok I.hok
  exact ⟨its,r,p,z⟩
 ·refine ⟨its.toList,r,⟨o,I.kIn a o hk,hc,n,by simpa using hs⟩,?_⟩
  have e:=r.length
  simp only [Array.length_toList] at e
  omega
theorem Inv.list_inj (I:Inv X pins σ H s) (h:SqL X.K H a xs) (h':SqL X.K H a ys):xs=ys:=by
 obtain ⟨its,r,⟨o,n,e,_,_,d⟩,_⟩:=I.list h
 obtain ⟨its',r',⟨o',n',e',_,_,d'⟩,_⟩:=I.list h'
 rw [e] at e';cases e'
 rw [d] at d'
 injection d' with d1 _
 have:its=its':=by simpa using congrArg Array.toList d1
 subst this
 exact r.inj r'
theorem Inv.tuple_inj (I:Inv X pins σ H s) (h:SqT X.K H a xs) (h':SqT X.K H a ys):xs=ys:=by
 obtain ⟨its,r,⟨o,e,_,n,d⟩,_⟩:=I.tuple h
 obtain ⟨its',r',⟨o',e',_,n',d'⟩,_⟩:=I.tuple h'
 rw [e] at e';cases e'
 rw [d] at d'
 injection d' with d1 _
 have:its=its':=by simpa using congrArg Array.toList d1
 subst this
 exact r.inj r'
end
abbrev Cx.wish (X:Cx) (E:Value→Shared→Prop):Cx:={ X with xe:=E }
abbrev Cx.nox (X:Cx):Cx:=X.wish fun _ _=>False
theorem Cx.Ok.wish {X:Cx} (ok:X.Ok) (E:Value→Shared→Prop):(X.wish E).Ok :=
 ⟨ok.mod,ok.kind,ok.glob,ok.blt,ok.above,ok.inj,ok.has,ok.cab,ok.hd,ok.frames,ok.stk,ok.exf,ok.bs,ok.bsz,ok.noex,ok.exfs,ok.funs,ok.frf⟩
theorem Cx.Ok.unwish {X:Cx}{E:Value→Shared→Prop} (ok:(X.wish E).Ok):X.Ok :=
 ⟨ok.mod,ok.kind,ok.glob,ok.blt,ok.above,ok.inj,ok.has,ok.cab,ok.hd,ok.frames,ok.stk,ok.exf,ok.bs,ok.bsz,ok.noex,ok.exfs,ok.funs,ok.frf⟩
section
variable {X:Cx}{pins:List (Addr×Obj)}{σ:St}{H:Hp}{s:Shared}{E:Value→Shared→Prop}
theorem Inv.wish (I:Inv X pins σ H s) (E:Value→Shared→Prop):Inv (X.wish E) pins σ H s:=⟨I.ok.wish E,I.os,I.bare,I.base,I.loc,I.cell,I.free,I.freeC,I.pin,I.hok,I.len,I.hdk⟩
theorem Inv.unwish (I:Inv (X.wish E) pins σ H s):Inv X pins σ H s:=⟨I.ok.unwish,I.os,I.bare,I.base,I.loc,I.cell,I.free,I.freeC,I.pin,I.hok,I.len,I.hdk⟩
theorem SP.unwish {D:zaq}{f:Flow}{s':Shared} (h:SP (X.wish E) pins D f s'):SP X pins D f s':=by
 cases f with
 | next=>obtain ⟨σ',H',I,q⟩:=h;exact ⟨σ',H',I.unwish,q⟩
 | brk=>obtain ⟨σ',H',I,q⟩:=h;exact ⟨σ',H',I.unwish,q⟩
 | cont=>obtain ⟨σ',H',I,q⟩:=h;exact ⟨σ',H',I.unwish,q⟩
 | ret u=>obtain ⟨v,σ',H',I,r,q⟩:=h;exact ⟨v,σ',H',I.unwish,r,q⟩
theorem PSs.nox {st:List Stmt}{t:TS} (h:PSs X.nox st t):PSs X st t:=fun pins s σ H D I hw =>
 wpAny_mono (h pins s σ H D (I.wish _) hw) (fun _ _ q=>q.unwish) fun _ _ z=>False.elim z
end
section
variable {X:Cx}{st:Stmt}{zZ:List Stmt}{t u:TS}{e:Expr}{te:TE}{pos:Pos}
def ziz:TS:=fun D σ H=>D.nx σ H
def ziH (t u:TS):TS:=fun D σ H=>t { D with nx:=u D } σ H
theorem zi7:PSs X [] ziz:=fun _ _ σ H _ I h=>wpAny_execs_nil ⟨σ,H,I,h⟩
theorem zjO (h1:PS X st t) (h2:PSs X zZ u):PSs X (st::zZ) (ziH t u):=by
 intro pins s σ H D I h
 refine wpAny_execs_cons (thn (h1 pins s σ H { D with nx:=u D } I h) fun f s1 q=>?_)
 cases f with
 | next =>
  obtain ⟨σ',H',I',q⟩:=q
  exact h2 pins s1 σ' H' D I' q
 | ret v=>exact q
 | brk=>exact q
 | cont=>exact q
theorem ziu (h1:PS X st t):PSs X [st] t:=by
 intro pins s σ H D I h
 refine wpAny_execs_cons (thn (h1 pins s σ H D I h) fun f s1 q=>?_)
 cases f with
 | next=>exact wpAny_execs_nil q
 | ret v=>exact q
 | brk=>exact q
 | cont=>exact q
def zs3:TS:=fun D σ H=>D.bk σ H
def zmI:TS:=fun D σ H=>D.ct σ H
theorem Inv.quiet {pins:List (Addr×Obj)}{σ:St}{H:Hp}{s:Shared} (I:Inv X pins σ H s):interactive X.env=false:=by simp [interactive,I.ok.kind]
def zg4 (te:TE):TS:=fun D σ H=>te σ H fun _ H1=>D.nx σ H1
theorem zro (he:PE X e te) (hs:swapsWith e none pos.line X.env=pure false:=by rfl):PS X (.Expr e pos) (zg4 te):=by
 intro pins s σ H D I h
 exact wpAny_Expr_any (thn (he pins s σ H _ I h) fun v s1 ⟨x,H1,I1,r1,q1⟩=>⟨σ,H1,I1,q1⟩) I.quiet hs
def zh8 (te:TE):TS:=fun D σ H=>te σ H D.rt
theorem zhf (he:PE X e te):PS X (.Return (some e) pos) (zh8 te):=by
 intro pins s σ H D I h
 exact wpAny_Return_some (thn (he pins s σ H _ I h) fun v s1 ⟨x,H1,I1,r1,q1⟩=>⟨x,σ,H1,I1,r1,q1⟩)
def zvb:TS:=fun D _ H=>D.rt .non H
def zhb (c:TT) (t u:TS):TS:=fun D σ H=>c σ H fun b H1=>if b=true then t D σ H1 else u D σ H1
theorem zjR {c:Expr}{a b:List Stmt}{tc:TT} (hc:PT X c tc) (ha:PSs X a t) (hb:PSs X b u):PS X (.If c a b pos) (zhb tc t u):=by
 intro pins s σ H D I h
 refine wpAny_If (thn (hc pins s σ H _ I h) fun d s1 ⟨H1,I1,q1⟩=>?_)
 cases d with
 | true=>exact ha pins s1 σ H1 D I1 q1
 | false=>exact hb pins s1 σ H1 D I1 q1
end
abbrev TG:=V→St→Hp→(St→Hp→Prop)→Prop
abbrev TGs:=List V→St→Hp→(St→Hp→Prop)→Prop
def PG (X:Cx) (target:Expr) (t:TG):Prop :=
 ∀ (pins:List (Addr×Obj)) (s:Shared) (σ:St) (H:Hp) (v:V) (u:Value) (Q:St→Hp→Prop),Inv X pins σ H s→zi v u→t v σ H Q →
  wpAny (model X.prog X.w) X.A (assign target X.env u) (fun _ s'=>∃ σ' H',Inv X pins σ' H' s'∧Q σ' H') X.xe s
def PGs (X:Cx) (ts:List Expr) (t:TGs):Prop :=
 ∀ (pins:List (Addr×Obj)) (s:Shared) (σ:St) (H:Hp) (vs:List V) (us:List Value) (Q:St→Hp→Prop),Inv X pins σ H s→zk vs us→t vs σ H Q →
  wpAny (model X.prog X.w) X.A (assignInOrder ((assignEach ts X.env).map (·.2)) us) (fun _ s'=>∃ σ' H',Inv X pins σ' H' s'∧Q σ' H') X.xe s
abbrev zfp:=V→V→V→Hp→(Hp→Prop)→Prop
def ziv (X:Cx) (t:zfp):Prop :=
 ∀ (pins:List (Addr×Obj)) (s:Shared) (σ:St) (H:Hp) (o i v:V) (ov iv u:Value) (Q:Hp→Prop),Inv X pins σ H s→zi o ov→zi i iv→zi v u→t o i v H Q →
  wpAny (model X.prog X.w) X.A (setItem ov iv u) (fun _ s'=>∃ H',Inv X pins σ H' s'∧Q H') X.xe s
abbrev TIp:=V→V→Hp→VK→Prop
def PIp (X:Cx) (op:Operator) (t:TIp):Prop :=
 ∀ (pins:List (Addr×Obj)) (s:Shared) (σ:St) (H:Hp) (x y:V) (v u:Value) (Q:VK),Inv X pins σ H s→zi x v→zi y u→t x y H Q →
  wpAny (model X.prog X.w) X.A (inplaceOp op v u) (EP X pins σ Q) X.xe s
section
variable {X:Cx}{pos:Pos}
def zbC (i:Nat):TG:=fun v σ H Q=>Q (σ.set i (some v)) H
theorem zlp {i:Nat}{x:Str} (hN:X.N.Nodup) (hi:X.N[i]?=some x) (hx:Loc X.env.scope x) (hf:X.fn x=true∨X.env.scope.names.lookup x=some .local:=by first|exact .inl rfl|exact .inr rfl|assumption):PG X (.Name x pos) (zbC i):=by
 intro pins s σ H v u Q I r h
 exact wpAny_assign_Name (zf4 I hN hi hx r (fun s' I'=>⟨_,H,I',h⟩) hf)
def zfy:TGs:=fun vs σ H Q=>vs=[]∧Q σ H
def zeU (t:TG) (u:TGs):TGs:=fun vs σ H Q=>∃ v r,vs=v::r∧t v σ H fun σ' H'=>u r σ' H' Q
theorem zpX:PGs X [] zfy:=by
 intro pins s σ H vs us Q I r h
 obtain ⟨e,h⟩:=h
 subst e
 cases r
 exact assignInOrder_nil ⟨σ,H,I,h⟩
theorem zuB {e:Expr}{es:List Expr}{t:TG}{u:TGs} (h1:PG X e t) (h2:PGs X es u)
  (hs:(assignEach (e::es) X.env).map (·.2)=assign e X.env::(assignEach es X.env).map (·.2):=by rfl):PGs X (e::es) (zeU t u):=by
 intro pins s σ H vs us Q I r h
 obtain ⟨v,vr,e1,h⟩:=h
 subst e1
 cases r with
 | cons r rr =>
  rw [hs]
  refine assignInOrder_cons (thn (h1 pins s σ H _ _ _ I r h) fun _ s1 ⟨σ1,H1,I1,q1⟩=>?_)
  exact h2 pins s1 σ1 H1 _ _ Q I1 rr q1
def zeB (K:PySem.W.Frag) (n:Nat) (t:TGs):TG:=fun v σ H Q=>∃ a xs,v = .ref a∧SqT K H a xs∧xs.length=n∧t xs σ H Q
def zig (to ti:TE) (t:zfp):TG:=fun v σ H Q=>to σ H fun o H1=>ti σ H1 fun i H2=>t o i v H2 fun H3=>Q σ H3
theorem zvj {o i:Expr}{to ti:TE}{t:zfp} (ho:PE X o to) (hi:PE X i ti) (hs:ziv X t)
  (ha:∀ v,assign (.Subscript o i pos) X.env v=(do
   let ov←holding [v] (eval o X.env)
   let iv←holding [v,ov] (eval i X.env)
   standAt pos
   holding [v,ov,iv] (setItem ov iv v)
   release [v,ov,iv] []):=by intro _;rfl):PG X (.Subscript o i pos) (zig to ti t):=by
 intro pins s σ H v u Q I r h
 rw [ha]
 refine wpAny_bind (wpAny_holding (thn (ho pins s σ H _ I h) fun ov s1 ⟨x,H1,I1,r1,q1⟩=>?_))
 refine wpAny_bind (wpAny_holding (thn (hi pins s1 σ H1 _ I1 q1) fun iv s2 ⟨y,H2,I2,r2,q2⟩=>?_))
 refine wpAny_bind (wpAny_standAt (wpAny_bind (wpAny_holding (thn (hs pins s2 σ H2 x y v ov iv u _ I2 r1 r2 r q2) fun _ s3 ⟨H3,I3,q3⟩=>?_))))
 exact wpAny_release ⟨σ,H3,I3,q3⟩
def zc2 (te:TE) (g:TG):TS:=fun D σ H=>te σ H fun x H1=>g x σ H1 D.nx
theorem znZ {tg e:Expr}{te:TE}{g:TG} (he:PE X e te) (hg:PG X tg g) (hs:swapsWithSole [tg] e pos.line X.env=pure false:=by rfl) (hw:swappedStores [tg] e X.env=pure none:=by rfl)
  (h1:(assignEach [tg] X.env).map (·.2)=[assign tg X.env]:=by rfl):PS X (.Assign [tg] e pos) (zc2 te g):=by
 intro pins s σ H D I h
 refine wpAny_Assign_stores (thn (he pins s σ H _ I h) fun v s1 ⟨x,H1,I1,r1,q1⟩=>?_) hs hw
 rw [h1]
 exact thn (hg pins s1 σ H1 x v _ I1 r1 q1) fun _ s2 q=>q
theorem zne {i:Nat}{x:Str}{e:Expr}{te:TE}{pos':Pos} (hN:X.N.Nodup) (hi:X.N[i]?=some x) (hx:Loc X.env.scope x) (he:PE X e te) (hs:swapsWith e (some (.Name x pos')) pos.line X.env=pure false:=by rfl) (hf:X.fn x=true∨X.env.scope.names.lookup x=some .local:=by first|exact .inl rfl|exact .inr rfl|assumption) :
  PS X (.Assign [.Name x pos'] e pos) (zc2 te (zbC i)):=by
 intro pins s σ H D I h
 refine wpAny_Assign_Name (thn (he pins s σ H _ I h) fun v s1 ⟨y,H1,I1,r1,q1⟩=>?_) hs
 exact zf4 I1 hN hi hx r1 (fun s2 I2=>⟨_,H1,I2,q1⟩) hf
def zgJ (i:Nat) (te:TE) (ti:TIp):TS:=fun D σ H=>∃ x,σ[i]?=some (some x)∧te σ H fun y H1=>ti x y H1 fun z H2=>D.nx (σ.set i (some z)) H2
theorem zuq {i:Nat}{x:Str}{e:Expr}{te:TE}{op:Operator}{ti:TIp}{pos':Pos} (hN:X.N.Nodup) (hi:X.N[i]?=some x) (hx:Loc X.env.scope x) (he:PE X e te) (ho:PIp X op ti) (hf:X.fn x=true∨X.env.scope.names.lookup x=some .local:=by first|exact .inl rfl|exact .inr rfl|assumption) :
  PS X (.AugAssign (.Name x pos') op e pos) (zgJ i te ti):=by
 intro pins s σ H D I h
 obtain ⟨v,e1,h⟩:=h
 obtain ⟨m,hn,hl⟩:=I.loc
 have vis:Vis X.env.scope x:=by rcases hx with k|k;exact .inl k;exact .inr (.inl k)
 obtain ⟨u,r,l⟩:=hl i x v hi e1 vis
 refine wpAny_AugAssign_Name ?_
 have go:wpAny (model X.prog X.w) X.A (eval e X.env) (fun w s₂=>wpAny (model X.prog X.w) X.A (inplaceOp op u w) (fun r s₃=>wpAny (model X.prog X.w) X.A (storeName X.env x r) (fun _=>SP X pins D .next) X.xe s₃) X.xe s₂) X.xe s:=by
  refine thn (he pins s σ H _ I h) fun w s1 ⟨y,H1,I1,r1,q1⟩=>?_
  refine thn (ho pins s1 σ H1 v y u w _ I1 r r1 q1) fun z s2 ⟨zv,H2,I2,r2,q2⟩=>?_
  exact zf4 I2 hN hi hx r2 (fun s3 I3=>⟨_,H2,I3,q2⟩) hf
 rcases l with ⟨hk,hm⟩|⟨hk,c,hc,hcell⟩
 ·exact wpAny_loadName_local I.ok.kind hk hn hm go
 ·rcases hk with hk|hk
  ·exact wpAny_loadName_cell I.ok.kind hk hc hcell go
  ·rcases hx with k|k
   ·have:X.env.scope.names.lookup x=some .free:=hk
    rw [k] at this;cases this
   ·have:X.env.scope.names.lookup x=some .free:=hk
    rw [k] at this;cases this
def ipI (f:Int→Int→Int):TIp:=fun x y H Q=>∃ i j,x = .int i∧y = .int j∧Q (.int (f i j)) H
theorem zun:PIp X .Add (ipI fun i j=>i+j):=by
 intro pins s σ H x y v u Q I r1 r2 h
 obtain ⟨i,j,e1,e2,q⟩:=h
 subst e1;subst e2
 obtain ⟨t,rfl⟩:=r1
 obtain ⟨t',rfl⟩:=r2
 exact iadd_int ⟨.int _,H,I.tok _,⟨_,rfl⟩,q⟩
end
section
variable {X:Cx}{pos:Pos}
end
structure It where
 go:Nat→Hp→Prop
 yld:Nat→Hp→V→Hp→Prop
 stop:Nat→Hp→Prop
def zbb (X:Cx) (pins:List (Addr×Obj)) (H:Hp) (b:Addr):Prop :=
 H b=none∧b≠X.env.locals∧b∉X.fs∧(b∈X.ex∨X.s₀.heap.objs.size≤b)∧(∀ x c,X.env.cells.lookup x=some c→c≠b)∧∀ p∈X.pn++pins,p.1≠b
theorem Inv.fpOk {X:Cx}{pins:List (Addr×Obj)}{σ:St}{H H':Hp}{s:Shared}{b:Addr} (I:Inv X pins σ H s) (hb:s.heap.objs.size≤b) (hn:H' b=none):zbb X pins H' b:=by
 refine ⟨hn,Nat.ne_of_gt (Nat.lt_of_lt_of_le I.lt hb),I.nofs hb,.inr (Nat.le_trans I.sz hb),fun x c e z=>?_,fun p hp z=>?_⟩
 ·obtain ⟨v,q⟩:=I.cell x c e
  exact absurd (Nat.lt_of_lt_of_le q.lt (by rw [z];exact hb)) (Nat.lt_irrefl _)
 ·exact absurd (Nat.lt_of_lt_of_le (Heap.lt_size (I.pin p hp).1) (by rw [z];exact hb)) (Nat.lt_irrefl _)
structure zcl (c:Bool) (P:Program) (w:World) (K:PySem.W.Frag) (tg:Expr) (J:It) (fp:List Addr) (it:Addr) (tn:Nat→Heap→Prop):Prop where
 mem:it∈fp
 obj:∀ i h,tn i h→∀ b∈fp,∃ o,h.get? b=some o∧∀ v,o.data≠.cell v
 keep:∀ i h h',tn i h→(∀ b∈fp,∀ o,h.get? b=some o→h'.get? b=some o)→tn i h'
 item:∀ (X:Cx),X.prog=P→X.w=w→X.K=K→(c=true→X.calm=true)→∀ (i:Nat) (pins:List (Addr×Obj)) (s:Shared) (σ:St) (H:Hp) (E:Value→Shared→Prop),Inv X pins σ H s→(∀ b∈fp,zbb X pins H b)→tn i s.heap→J.go i H →
  wpAny (model P w) X.A (pyNext (.ref it)) (fun r s1=>∃ u,r=some u ∧
   wpAny (model P w) X.A (letOwnedTupleGo tg (.ref it) u) (fun _ s2=>∃ x H',Inv X pins σ H' s2∧zi x u∧J.yld i H x H'∧tn (i+1) s2.heap∧∀ b∈fp,H' b=none) E s1) E s
 done:∀ (X:Cx),X.prog=P→X.w=w→X.K=K→(c=true→X.calm=true)→∀ (i:Nat) (pins:List (Addr×Obj)) (s:Shared) (σ:St) (H:Hp) (E:Value→Shared→Prop),Inv X pins σ H s→(∀ b∈fp,zbb X pins H b)→tn i s.heap→J.stop i H →
  wpAny (model P w) X.A (pyNext (.ref it)) (fun r s1=>r=none∧Inv X pins σ H s1) E s
 self:∀ (A:Around) (i:Nat) (s:Shared) (Q:Value→Shared→Prop) (E:Value→Shared→Prop),tn i s.heap→Q (.ref it) s→wpAny (model P w) A (pyIter (.ref it)) Q E s
abbrev TI:=St→Hp→(It→Hp→Prop)→Prop
def PIE (c:Bool) (X:Cx) (pins:List (Addr×Obj)) (σ:St) (tg:Expr) (R:It→Hp→Prop) (itv:Value) (s2:Shared):Prop :=
 ∃ (it:Addr) (fp:List Addr) (tn:Nat→Heap→Prop) (J:It) (H':Hp),itv = .ref it∧Inv X pins σ H' s2∧zcl c X.prog X.w X.K tg J fp it tn∧tn 0 s2.heap∧(∀ b∈fp,zbb X pins H' b)∧R J H'
def PIc (c:Bool) (X:Cx) (tg iter:Expr) (wi:TI):Prop :=
 ∀ (pins:List (Addr×Obj)) (s:Shared) (σ:St) (H:Hp) (R:It→Hp→Prop),Inv X pins σ H s→wi σ H R →
  wpAny (model X.prog X.w) X.A (eval iter X.env) (fun v s1=>wpAny (model X.prog X.w) X.A (pyIter v) (PIE c X pins σ tg R) X.xe s1) X.xe s
abbrev PI:=PIc true
theorem zf5 {M:Model}{A:Around}{E:Value→Shared→Prop}{s:Shared}{tg:Expr}{it:Addr}{u:Value}{o:Obj}{n:String}{vs:Array Value}{Q:Unit→Shared→Prop} (ho:s.heap.get? it=some o) (hc:o.cls = .type n) (hd:o.data = .fields vs)
  (hn:["enumerate","zip","dict_itemiterator","dict_reverseitemiterator","odict_iterator","itertools.zip_longest","itertools.pairwise"].contains n=false) (hQ:Q () s):wpAny M A (letOwnedTupleGo tg (.ref it) u) Q E s:=by
 unfold letOwnedTupleGo
 cases tg <;> first
  | exact wpAny_pure hQ
  | (cases u <;> first
    | exact wpAny_pure hQ
    | (refine wpAny_bind (wpAny_load ho ?_)
       rw [hc, hd]
       show wpAny M A (if (["enumerate", "zip", "dict_itemiterator", "dict_reverseitemiterator", "odict_iterator", "itertools.zip_longest", "itertools.pairwise"].contains n && vs[0]? == some (rawInt _)) = true then _ else _) Q E s
       rw [if_neg (by intro h; rw [hn, Bool.false_and] at h; cases h)]
       exact wpAny_pure hQ))
def Itl (K:PySem.W.Frag) (a:Addr):It :=
 ⟨fun i H=>∃ xs x,SqL K H a xs∧xs[i]?=some x,fun i H x H'=>H'=H∧∀ xs,SqL K H a xs→xs[i]?=some x,fun i H=>∃ xs,SqL K H a xs∧xs.length≤i⟩
def Itt (K:PySem.W.Frag) (a:Addr):It :=
 ⟨fun i H=>∃ xs x,SqT K H a xs∧xs[i]?=some x,fun i H x H'=>H'=H∧∀ xs,SqT K H a xs→xs[i]?=some x,fun i H=>∃ xs,SqT K H a xs∧xs.length≤i⟩
def Itr (lo:Int) (n:Nat):It:=⟨fun i _=>i<n,fun i H x H'=>H'=H∧x = .int (lo+i),fun i _=>n≤i⟩
theorem zki {P:Program}{w:World}{K:PySem.W.Frag}{tg:Expr} (a it:Addr):zcl true P w K tg (Itl K a) [it] it (fun i h=>h.IsListIter it a i) where
 mem:=by simp
 obj:=fun i h st b hb=>by
  have e:b=it:=by simpa using hb
  subst e
  obtain ⟨o,e,c,d⟩:=st
  exact ⟨o,e,fun v z=>by rw [d] at z;cases z⟩
 keep:=fun i h h' st k=>st.at fun o e=>k it (by simp) o e
 item:=by
  intro X hP hw hK hc i pins s σ H E I hf st hg
  subst hP hw hK
  obtain ⟨xs,x,hq,hx⟩:=hg
  obtain ⟨its,rv,p,hz⟩:=I.list hq
  obtain ⟨u,hu,ru⟩:=rv.get hx
  obtain ⟨f0,f1,f2,f3,f4,f5⟩:=hf it (by simp)
  refine wpAny_pyNext_list_item st p.isList (x:=u) (by simpa using hu) fun h' st' sb=>?_
  have I1:Inv X pins σ H { s with heap:=h' }:=I.turned (t':=s.toks) (fun b o hb e=>(sb.2 b hb).trans e) f0 f1 f3 f4 f5
  obtain ⟨o,e,c,d⟩:=id st'
  exact ⟨u,rfl,zf5 (s:={ s with heap:=h' }) e c d (by decide) ⟨x,H,I1,ru,⟨rfl,fun ys hy=>by rw [I.list_inj hy hq];exact hx⟩,st',fun b hb=>(hf b hb).1⟩⟩
 done:=by
  intro X hP hw hK hc i pins s σ H E I hf st hg
  subst hP hw hK
  obtain ⟨xs,hq,hx⟩:=hg
  obtain ⟨its,rv,p,hz⟩:=I.list hq
  obtain ⟨f0,f1,f2,f3,f4,f5⟩:=hf it (by simp)
  have hl:=rv.length
  exact wpAny_pyNext_list_end (I.ok.hd (hc rfl)) st p.isList (by simp;omega) fun h' eb=>⟨rfl,I.turned (t':=s.toks) (fun b o hb e=>eb b o hb e) f0 f1 f3 f4 f5⟩
 self:=fun _ _ _ _ _ st h=>wpAny_pyIter_listiter st h
theorem zqd {P:Program}{w:World}{K:PySem.W.Frag}{tg:Expr} (a it:Addr):zcl true P w K tg (Itt K a) [it] it (fun i h=>h.IsTupleIter it a i) where
 mem:=by simp
 obj:=fun i h st b hb=>by
  have e:b=it:=by simpa using hb
  subst e
  obtain ⟨o,e,c,d⟩:=st
  exact ⟨o,e,fun v z=>by rw [d] at z;cases z⟩
 keep:=fun i h h' st k=>st.at fun o e=>k it (by simp) o e
 item:=by
  intro X hP hw hK hc i pins s σ H E I hf st hg
  subst hP hw hK
  obtain ⟨xs,x,hq,hx⟩:=hg
  obtain ⟨its,rv,p,hz⟩:=I.tuple hq
  obtain ⟨u,hu,ru⟩:=rv.get hx
  obtain ⟨f0,f1,f2,f3,f4,f5⟩:=hf it (by simp)
  refine wpAny_pyNext_tuple_item st (show s.heap.IsTuple a its.toArray from p) (x:=u) (by simpa using hu) fun h' st' sb=>?_
  have I1:Inv X pins σ H { s with heap:=h' }:=I.turned (t':=s.toks) (fun b o hb e=>(sb.2 b hb).trans e) f0 f1 f3 f4 f5
  obtain ⟨o,e,c,d⟩:=id st'
  exact ⟨u,rfl,zf5 (s:={ s with heap:=h' }) e c d (by decide) ⟨x,H,I1,ru,⟨rfl,fun ys hy=>by rw [I.tuple_inj hy hq];exact hx⟩,st',fun b hb=>(hf b hb).1⟩⟩
 done:=by
  intro X hP hw hK hc i pins s σ H E I hf st hg
  subst hP hw hK
  obtain ⟨xs,hq,hx⟩:=hg
  obtain ⟨its,rv,p,hz⟩:=I.tuple hq
  obtain ⟨f0,f1,f2,f3,f4,f5⟩:=hf it (by simp)
  have hl:=rv.length
  exact wpAny_pyNext_tuple_end (I.ok.hd (hc rfl)) st (show s.heap.IsTuple a its.toArray from p) (by simp;omega) fun h' eb=>⟨rfl,I.turned (t':=s.toks) (fun b o hb e=>eb b o hb e) f0 f1 f3 f4 f5⟩
 self:=fun _ _ _ _ _ st h=>wpAny_pyIter_tupleiter st h
theorem zwW {P:Program}{w:World}{K:PySem.W.Frag}{tg:Expr} (it:Addr) (lo:Int) (n:Nat):zcl true P w K tg (Itr lo n) [it] it (fun i h=>IsRangeIter h it (lo+(i:Nat)*1) ((n:Int) - (i:Nat)) 1) where
 mem:=by simp
 obj:=fun i h st b hb=>by
  have e:b=it:=by simpa using hb
  subst e
  exact ⟨_,st,fun v z=>by
   have z':Data.fields _=Data.cell v:=z
   cases z'⟩
 keep:=fun i h h' st k=>k it (by simp) _ st
 item:=by
  intro X hP hw hK hc i pins s σ H E I hf st hg
  subst hP hw hK
  obtain ⟨f0,f1,f2,f3,f4,f5⟩:=hf it (by simp)
  have W:=Walks.range (prog:=X.prog) (w:=X.w) (I.ok.hd (hc rfl)) it lo 1 n
  refine W.item i s _ _ hg st fun v h' tk hv st' kk=>?_
  obtain ⟨t,rfl⟩:=hv
  have I1:Inv X pins σ H { s with heap:=h',toks:=tk }:=I.turned (fun b o hb e=>kk b o (by simpa using hb) e) f0 f1 f3 f4 f5
  refine ⟨_,rfl,zf5 (s:={ s with heap:=h',toks:=tk }) (n:="range_iterator") st' rfl rfl (by decide) ⟨.int (lo+i),H,I1,⟨t,?_⟩,⟨rfl,rfl⟩,st',fun b hb=>(hf b hb).1⟩⟩
  rw [Int.mul_one]
 done:=by
  intro X hP hw hK hc i pins s σ H E I hf st hg
  subst hP hw hK
  obtain ⟨f0,f1,f2,f3,f4,f5⟩:=hf it (by simp)
  exact wpAny_pyNext_range_end (I.ok.hd (hc rfl)) st (by have:n≤i:=hg;omega) fun h' eb=>⟨rfl,I.turned (t':=s.toks) (fun b o hb e=>eb b o hb e) f0 f1 f3 f4 f5⟩
 self:=fun _ _ _ _ _ st h=>wpAny_pyIter_rangeiter st h
end L2
namespace L2
open PySem PySem.Spec PyProof.Rows
section
variable {X:Cx}{tg:Expr}
def ziC (K:PySem.W.Frag) (tl:TE):TI:=fun σ H R=>tl σ H fun x H1=>∃ a,x = .ref a∧(∃ xs,SqL K H1 a xs)∧R (Itl K a) H1
def zpi (K:PySem.W.Frag) (tl:TE):TI:=fun σ H R=>tl σ H fun x H1=>∃ a,x = .ref a∧(∃ xs,SqT K H1 a xs)∧R (Itt K a) H1
theorem ztm {l:Expr}{tl:TE} (hl:PE X l tl):PI X tg l (ziC X.K tl):=by
 intro pins s σ H R I h
 refine thn (hl pins s σ H _ I h) fun v s1 ⟨x,H1,I1,r1,q1⟩=>?_
 obtain ⟨a,e,⟨xs,hq⟩,q⟩:=q1
 subst e
 cases r1
 obtain ⟨its,rv,p,hz⟩:=I1.list hq
 refine wpAny_pyIter_list p.isList ?_
 refine ⟨s1.heap.objs.size,[s1.heap.objs.size],_,_,H1,rfl,I1.kept (t':=s1.toks) fun b o e=>Heap.get?_push_of_some _ e,zki a _,⟨_,Heap.get?_push_size _ rfl,rfl,rfl⟩,fun b hb=>?_,q⟩
 have e:b=s1.heap.objs.size:=by simpa using hb
 subst e
 exact I1.fpOk (Nat.le_refl _) (I1.hok.fresh (Nat.le_refl _))
theorem zs9 {pins:List (Addr×Obj)}{σ:St}{H:Hp}{s:Shared}{R:It→Hp→Prop}{E:Value→Shared→Prop}{lo hi:Int}{t u v:Tok}{tk:Nat} (I:Inv X pins σ H s) (h1 : -(2 ^ 62)≤lo) (h2:lo<2 ^ 62) (h3 : -(2 ^ 62)≤hi) (h4:hi<2 ^ 62)
  (q:R (Itr lo (hi - lo).toNat) H):wpAny (model X.prog X.w) X.A (pyIter (.ref s.heap.objs.size)) (PIE true X pins σ tg R) E { s with heap:=s.heap.push { cls:=.type "range",data:=.fields #[.int lo t,.int hi u,.int 1 v] },toks:=tk }:=by
 refine wpAny_pyIter_range (IsRange.new ..) (small_one h1 h2 h3 h4) ?_
 have I1:Inv X pins σ H { s with heap:=s.heap.push { cls:=.type "range",data:=.fields #[.int lo t,.int hi u,.int 1 v] },toks:=tk }:=I.kept fun b o e=>Heap.get?_push_of_some _ e
 refine ⟨(s.heap.push { cls:=.type "range",data:=.fields #[.int lo t,.int hi u,.int 1 v] }).objs.size,[(s.heap.push { cls:=.type "range",data:=.fields #[.int lo t,.int hi u,.int 1 v] }).objs.size],_,_,H,rfl,
  I1.kept (t':=tk) fun b o e=>Heap.get?_push_of_some _ e,zwW _ lo (hi - lo).toNat,?_,fun b hb=>?_,q⟩
 ·have e1:lo+((0:Nat):Int)*1=lo:=by simp
  have e2:(((hi - lo).toNat:Nat):Int) - ((0:Nat):Int)=Builtin.Range.rangeSize lo hi 1:=by rw [rangeSize_one];split <;> omega
  show IsRangeIter _ _ (lo+((0:Nat):Int)*1) ((((hi - lo).toNat:Nat):Int) - ((0:Nat):Int)) 1
  rw [e1,e2]
  exact Heap.get?_push_size _ rfl
 ·have e:b=(s.heap.push { cls:=.type "range",data:=.fields #[.int lo t,.int hi u,.int 1 v] }).objs.size:=by simpa using hb
  subst e
  exact I1.fpOk (Nat.le_refl _) (I1.hok.fresh (Nat.le_refl _))
def ze9 (ta:TA):TI:=fun σ H R=>ta σ H fun vs H1=>∃ j:Int,vs=[.int j]∧-(2 ^ 62)≤j∧j<2 ^ 62∧R (Itr 0 j.toNat) H1
def zof (ta:TA):TI:=fun σ H R=>ta σ H fun vs H1=>∃ i j:Int,vs=[.int i,.int j]∧(-(2 ^ 62)≤i∧i<2 ^ 62∧-(2 ^ 62)≤j∧j<2 ^ 62)∧R (Itr i (j - i).toNat) H1
theorem zm2 {a:Expr}{ta:TA}{p pos:Pos} (hg:Gl X "range") (hm:X.mg "range"=none) (ha:PA X [a] ta) (hs:starEach [a] X.env=[(false,eval a X.env)]:=by rfl):PI X tg (.Call (.Name "range" p) [a] [] pos) (ze9 ta):=by
 intro pins s σ H R I h
 refine Call_ (zbQ I hg hm boot_range (PyProof.Rows.callWith_type1 (thn (ha pos pins s σ H _ I h) fun us s1 ⟨vs,H1,I1,r1,q1⟩=>?_) hs rfl))
 obtain ⟨j,e,q1,q2,q⟩:=q1
 subst e
 cases r1 with
 | cons r rr =>
  cases rr
  obtain ⟨t,rfl⟩:=r
  exact call_range_1 (zs9 I1 (by omega) (by omega) q1 q2 (by simpa using q))
def zit (wi:TI) (g:TG) (tb:TS):TS:=fun D σ H=>wi σ H fun J H1=>∃ W:Nat→Nat→St→Hp→Prop,(∃ m,W 0 m σ H1)∧∀ i m σ H,W i m σ H →
 (J.stop i H∧D.nx σ H)∨(J.go i H∧∃ N:St→Hp→Prop,(∀ σ' H',N σ' H'→∃ m',m'<m∧W (i+1) m' σ' H')∧∀ x H',J.yld i H x H'→g x σ H' fun σ2 H2=>tb { D with nx:=N,ct:=N,bk:=D.nx } σ2 H2)
def zdP (fp:List Addr) (h:Heap):List (Addr×Obj):=fp.filterMap fun b=>(h.get? b).map fun o=>(b,o)
theorem zfe {fp:List Addr}{h:Heap}{b:Addr}{o:Obj} (hb:b∈fp) (e:h.get? b=some o):(b,o)∈zdP fp h:=List.mem_filterMap.mpr ⟨b,hb,by rw [e];rfl⟩
theorem zvU {fp:List Addr}{h:Heap}{p:Addr×Obj} (hp:p∈zdP fp h):p.1∈fp∧h.get? p.1=some p.2:=by
 obtain ⟨b,hb,e⟩:=List.mem_filterMap.mp hp
 cases q:h.get? b with
 | none=>rw [q] at e;cases e
 | some o =>
  rw [q] at e
  have e':(b,o)=p:=Option.some.inj e
  subst e'
  exact ⟨hb,q⟩
theorem Inv.pinned {pins:List (Addr×Obj)}{σ:St}{H:Hp}{s:Shared}{fp:List Addr} (I:Inv X pins σ H s) (hf:∀ b∈fp,zbb X pins H b) (ho:∀ b∈fp,∃ o,s.heap.get? b=some o∧∀ v,o.data≠.cell v):Inv X (pins++zdP fp s.heap) σ H s :=
 I.pins_of fun p hp=>(List.mem_append.mp hp).elim (fun z=>I.pin p (List.mem_append_right _ z)) fun z=>by
  obtain ⟨hb,e⟩:=zvU z
  obtain ⟨f0,f1,f2,_⟩:=hf p.1 hb
  obtain ⟨o,e',d⟩:=ho p.1 hb
  rw [e] at e';cases e'
  exact ⟨e,f0,f1,f2,d⟩
theorem Inv.unpinned {pins pl:List (Addr×Obj)}{σ:St}{H:Hp}{s:Shared} (I:Inv X (pins++pl) σ H s):Inv X pins σ H s:=I.pins_of fun p hp=>I.pin p (List.mem_append_right _ (List.mem_append_left _ hp))
theorem zsT {c:Bool}{iter:Expr}{body:List Stmt}{wi:TI}{g:TG}{tb:TS}{pos:Pos} (hp:PassesOwn (model X.prog X.w) X.A X.env X.xe) (hc:c=true→X.calm=true) (hi:PIc c X tg iter wi) (hg:PG X tg g) (hb:PSs X body tb)
  (hs:∀ x,foldedSetIterable iter X.env x=pure x:=by intro _;rfl):PS X (.For tg iter body [] pos) (zit wi g tb):=by
 intro pins s σ H D I h
 refine wpAny_For (thn (hi pins s σ H _ I h) fun v s1 h1=>thn h1 fun itv s2 h2=>?_) hs
 obtain ⟨it,fp,tn,J,H2,e,I2,T,st2,f2,W,⟨m0,w0⟩,turn⟩:=h2
 subst e
 have stat:∀ {H':Hp},(∀ b∈fp,H' b=none)→∀ b∈fp,zbb X pins H' b:=fun hn b hb=>⟨hn b hb,(f2 b hb).2⟩
 refine codeAny_forLoop_any (fun n s'=>∃ i σ' H',Inv X pins σ' H' s'∧tn i s'.heap∧(∀ b∈fp,H' b=none)∧W i n σ' H') ?_ m0 ⟨0,σ,H2,I2,st2,fun b hb=>(f2 b hb).1,w0⟩
 rintro n s3 ⟨i,σ3,H3,I3,st3,fr3,w3⟩
 rcases turn i n σ3 H3 w3 with ⟨stop,qn⟩|⟨go,N,hN,step⟩
 ·refine wpAny_passesOwn hp (thn (T.done X rfl rfl rfl hc i pins s3 σ3 H3 X.xe I3 (stat fr3) st3 stop) fun r s4 ⟨hr,I4⟩=>?_)
  subst hr
  exact wpAny_execs_nil ⟨σ3,H3,I4,qn⟩
 ·refine wpAny_passesOwn hp (thn (T.item X rfl rfl rfl hc i pins s3 σ3 H3 X.xe I3 (stat fr3) st3 go) fun r s4 ⟨u,hr,h4⟩=>?_)
  subst hr
  refine wpAny_passesOwn hp (thn h4 fun _ s5 ⟨x,H5,I5,r5,y5,st5,fr5⟩=>?_)
  have I5':=I5.pinned (stat fr5) (T.obj _ _ st5)
  refine wpAny_passesOwn hp (thn (hg _ s5 σ3 H5 x u _ I5' r5 (step x H5 y5)) fun _ s6 ⟨σ6,H6,I6,q6⟩=>?_)
  refine wpAny_passesOwn hp (thn (hb _ s6 σ6 H6 _ I6 q6) fun f s7 q7=>?_)
  have again:∀ {σ7:St}{H7:Hp},Inv X (pins++zdP fp s5.heap) σ7 H7 s7→N σ7 H7→∃ m,m<n∧∃ i σ' H',Inv X pins σ' H' s7∧tn i s7.heap∧(∀ b∈fp,H' b=none)∧W i m σ' H':=fun {σ7 H7} I7 n7=>by
   obtain ⟨m',hm,w7⟩:=hN σ7 H7 n7
   refine ⟨m',hm,i+1,σ7,H7,I7.unpinned,T.keep _ _ _ st5 fun b hb o e=>(I7.pin (b,o) (List.mem_append_right _ (List.mem_append_right _ (zfe hb e)))).1,fun b hb=>?_,w7⟩
   obtain ⟨o,e,d⟩:=T.obj _ _ st5 b hb
   exact (I7.pin (b,o) (List.mem_append_right _ (List.mem_append_right _ (zfe hb e)))).2.1
  cases f with
  | next=>obtain ⟨σ7,H7,I7,n7⟩:=q7;exact again I7 n7
  | cont=>obtain ⟨σ7,H7,I7,n7⟩:=q7;exact again I7 n7
  | brk=>obtain ⟨σ7,H7,I7,q7⟩:=q7;exact ⟨σ7,H7,I7.unpinned,q7⟩
  | ret v=>obtain ⟨x7,σ7,H7,I7,r7,q7⟩:=q7;exact ⟨x7,σ7,H7,I7.unpinned,r7,q7⟩
end
theorem zoc {K:PySem.W.Frag}{a:Addr}{xs:List V}{g:TG}{tb:TS}{D:zaq}{σ:St}{H:Hp} (Pv:Nat→St→Hp→Prop) (h0:Pv 0 σ H) (hl:∀ i σ H,i≤xs.length→Pv i σ H→SqL K H a xs)
  (hs:∀ i x σ H,xs[i]?=some x→Pv i σ H→g x σ H fun σ2 H2=>tb { D with nx:=Pv (i+1),ct:=Pv (i+1),bk:=D.nx } σ2 H2) (hd:∀ σ H,Pv xs.length σ H→D.nx σ H) :
  ∃ W:Nat→Nat→St→Hp→Prop,(∃ m,W 0 m σ H)∧∀ i m σ H,W i m σ H →
   ((Itl K a).stop i H∧D.nx σ H)∨((Itl K a).go i H∧∃ N:St→Hp→Prop,(∀ σ' H',N σ' H'→∃ m',m'<m∧W (i+1) m' σ' H')∧∀ x H',(Itl K a).yld i H x H'→g x σ H' fun σ2 H2=>tb { D with nx:=N,ct:=N,bk:=D.nx } σ2 H2):=by
 refine ⟨fun i m σ H=>m=xs.length - i∧i≤xs.length∧Pv i σ H,⟨xs.length,by simp,Nat.zero_le _,h0⟩,?_⟩
 rintro i m σ H ⟨rfl,hi,p⟩
 have q:=hl i σ H hi p
 by_cases hlt:i<xs.length
 ·refine .inr ⟨⟨xs,xs[i],q,by simp [hlt]⟩,Pv (i+1),fun σ' H' p'=>⟨xs.length - (i+1),by omega,rfl,hlt,p'⟩,fun x H' y=>?_⟩
  obtain ⟨e,y⟩:=y
  subst e
  exact hs i x σ _ (y xs q) p
 ·have e:i=xs.length:=by omega
  subst e
  exact .inl ⟨⟨xs,q,Nat.le_refl _⟩,hd σ H p⟩
theorem zrJ {K:PySem.W.Frag}{a:Addr}{xs:List V}{g:TG}{tb:TS}{D:zaq}{σ:St}{H:Hp} (Pv:Nat→St→Hp→Prop) (h0:Pv 0 σ H) (hl:∀ i σ H,i≤xs.length→Pv i σ H→SqT K H a xs)
  (hs:∀ i x σ H,xs[i]?=some x→Pv i σ H→g x σ H fun σ2 H2=>tb { D with nx:=Pv (i+1),ct:=Pv (i+1),bk:=D.nx } σ2 H2) (hd:∀ σ H,Pv xs.length σ H→D.nx σ H) :
  ∃ W:Nat→Nat→St→Hp→Prop,(∃ m,W 0 m σ H)∧∀ i m σ H,W i m σ H →
   ((Itt K a).stop i H∧D.nx σ H)∨((Itt K a).go i H∧∃ N:St→Hp→Prop,(∀ σ' H',N σ' H'→∃ m',m'<m∧W (i+1) m' σ' H')∧∀ x H',(Itt K a).yld i H x H'→g x σ H' fun σ2 H2=>tb { D with nx:=N,ct:=N,bk:=D.nx } σ2 H2):=by
 refine ⟨fun i m σ H=>m=xs.length - i∧i≤xs.length∧Pv i σ H,⟨xs.length,by simp,Nat.zero_le _,h0⟩,?_⟩
 rintro i m σ H ⟨rfl,hi,p⟩
 have q:=hl i σ H hi p
 by_cases hlt:i<xs.length
 ·refine .inr ⟨⟨xs,xs[i],q,by simp [hlt]⟩,Pv (i+1),fun σ' H' p'=>⟨xs.length - (i+1),by omega,rfl,hlt,p'⟩,fun x H' y=>?_⟩
  obtain ⟨e,y⟩:=y
  subst e
  exact hs i x σ _ (y xs q) p
 ·have e:i=xs.length:=by omega
  subst e
  exact .inl ⟨⟨xs,q,Nat.le_refl _⟩,hd σ H p⟩
theorem ztE {lo:Int}{n:Nat}{g:TG}{tb:TS}{D:zaq}{σ:St}{H:Hp} (Pv:Nat→St→Hp→Prop) (h0:Pv 0 σ H)
  (hs:∀ i σ H,i<n→Pv i σ H→g (.int (lo+i)) σ H fun σ2 H2=>tb { D with nx:=Pv (i+1),ct:=Pv (i+1),bk:=D.nx } σ2 H2) (hd:∀ σ H,Pv n σ H→D.nx σ H) :
  ∃ W:Nat→Nat→St→Hp→Prop,(∃ m,W 0 m σ H)∧∀ i m σ H,W i m σ H →
   ((Itr lo n).stop i H∧D.nx σ H)∨((Itr lo n).go i H∧∃ N:St→Hp→Prop,(∀ σ' H',N σ' H'→∃ m',m'<m∧W (i+1) m' σ' H')∧∀ x H',(Itr lo n).yld i H x H'→g x σ H' fun σ2 H2=>tb { D with nx:=N,ct:=N,bk:=D.nx } σ2 H2):=by
 refine ⟨fun i m σ H=>m=n - i∧i≤n∧Pv i σ H,⟨n,by simp,Nat.zero_le _,h0⟩,?_⟩
 rintro i m σ H ⟨rfl,hi,p⟩
 by_cases hlt:i<n
 ·refine .inr ⟨hlt,Pv (i+1),fun σ' H' p'=>⟨n - (i+1),by omega,rfl,hlt,p'⟩,fun x H' y=>?_⟩
  obtain ⟨e,y⟩:=y
  subst e y
  exact hs i σ _ hlt p
 ·have e:i=n:=by omega
  subst e
  exact .inl ⟨Nat.le_refl _,hd σ H p⟩
end L2
namespace L2
open PySem PySem.Spec PyProof.Rows
abbrev R2:=V→V→Hp→VK→Prop
def OpR (X:Cx) (f:Value→Value→Sem Value) (r:R2):Prop :=
 ∀ (pins:List (Addr×Obj)) (s:Shared) (σ:St) (H:Hp) (x y:V) (v u:Value) (Q:VK),Inv X pins σ H s→zi x v→zi y u→r x y H Q →
  wpAny (model X.prog X.w) X.A (f v u) (EP X pins σ Q) X.xe s
def UnR (X:Cx) (f:Value→Sem Value) (r:V→Hp→VK→Prop):Prop :=
 ∀ (pins:List (Addr×Obj)) (s:Shared) (σ:St) (H:Hp) (x:V) (v:Value) (Q:VK),Inv X pins σ H s→zi x v→r x H Q →
  wpAny (model X.prog X.w) X.A (f v) (EP X pins σ Q) X.xe s
def zJ (X:Cx) (f:Value) (r:List V→Hp→VK→Prop):Prop :=
 ∀ (pins:List (Addr×Obj)) (s:Shared) (σ:St) (H:Hp) (xs:List V) (us:List Value) (Q:VK),Inv X pins σ H s→zk xs us→r xs H Q →
  wpAny (model X.prog X.w) X.A (call f us) (EP X pins σ Q) X.xe s
def zqf (X:Cx) (r:V→Hp→(Bool→Hp→Prop)→Prop):Prop :=
 ∀ (pins:List (Addr×Obj)) (s:Shared) (σ:St) (H:Hp) (x:V) (v:Value) (Q:Bool→Hp→Prop),Inv X pins σ H s→zi x v→r x H Q →
  wpAny (model X.prog X.w) X.A (truthy v) (TP X pins σ Q) X.xe s
def tOp (r:R2) (ta tb:TE):TE:=fun σ H Q=>ta σ H fun x H1=>tb σ H1 fun y H2=>r x y H2 Q
def tUn (r:V→Hp→VK→Prop) (ta:TE):TE:=fun σ H Q=>ta σ H fun x H1=>r x H1 Q
def rI (C:Int→Int→Prop) (g:Int→Int→V):R2:=fun x y H Q=>∃ i j,x = .int i∧y = .int j∧C i j∧Q (g i j) H
def rI0 (g:Int→Int→V):R2:=fun x y H Q=>∃ i j,x = .int i∧y = .int j∧Q (g i j) H
def rU (g:Int→V):V→Hp→VK→Prop:=fun x H Q=>∃ i,x = .int i∧Q (g i) H
section
variable {X:Cx}{a b c:Expr}{ta tb tc:TE}{pos:Pos}
theorem zia (ha:PE X a ta) (hb:PE X b tb) {pins:List (Addr×Obj)}{s:Shared}{σ:St}{H:Hp}{R:V→V→Hp→Prop} (I:Inv X pins σ H s)
  (h:ta σ H fun x H1=>tb σ H1 fun y H2=>R x y H2) {Q:Value→Shared→Prop}{f:Value→Value→Sem Value}
  (hf:∀ v u s2 x y H2,Inv X pins σ H2 s2→zi x v→zi y u→R x y H2→wpAny (model X.prog X.w) X.A (f v u) Q X.xe s2) :
  wpAny (model X.prog X.w) X.A (eval a X.env) (fun v s₁=>wpAny (model X.prog X.w) X.A (eval b X.env) (fun u s₂=>wpAny (model X.prog X.w) X.A (f v u) Q X.xe s₂) X.xe s₁) X.xe s:=by
 refine thn (ha pins s σ H _ I h) fun v s1 ⟨x,H1,I1,r1,q1⟩=>?_
 refine thn (hb pins s1 σ H1 _ I1 q1) fun u s2 ⟨y,H2,I2,r2,q2⟩=>?_
 exact hf v u s2 x y H2 I2 r1 r2 q2
theorem zmC {op:Operator}{r:R2} (ho:OpR X (binaryOp op) r) (ha:PE X a ta) (hb:PE X b tb):PE X (.BinOp a op b pos) (tOp r ta tb):=by
 intro pins s σ H Q I h
 exact wpAny_BinOp (zia ha hb I h fun v u s2 x y H2 I2 rx ry q=>ho pins s2 σ H2 x y v u Q I2 rx ry q)
theorem zpP {op:UnaryOp}{r:V→Hp→VK→Prop} (ho:UnR X (unaryOp op) r) (ha:PE X a ta):PE X (.UnaryOp op a pos) (tUn r ta):=by
 intro pins s σ H Q I h
 exact UnaryOp_ (thn (ha pins s σ H _ I h) fun v s1 ⟨x,H1,I1,r1,q1⟩=>ho pins s1 σ H1 x v Q I1 r1 q1)
theorem opI {f:Value→Value→Sem Value}{C:Int→Int→Prop}{g:Int→Int→Int}
  (rule:∀ (i j:Int) (t u:Tok) (s:Shared) (Q:Value→Shared→Prop) (E:Value→Shared→Prop),C i j→Q (.int (g i j) s.toks) { s with toks:=s.toks+1 }→wpAny (model X.prog X.w) X.A (f (.int i t) (.int j u)) Q E s) :
  OpR X f (rI C fun i j=>.int (g i j)):=by
 intro pins s σ H x y v u Q I rx ry h
 obtain ⟨i,j,rfl,rfl,hc,q⟩:=h
 obtain ⟨t,rfl⟩:=rx
 obtain ⟨t',rfl⟩:=ry
 exact rule i j t t' s _ _ hc ⟨.int (g i j),H,I.tok _,⟨_,rfl⟩,q⟩
theorem zlY {f:Value→Value→Sem Value}{g:Int→Int→Int}
  (rule:∀ (i j:Int) (t u:Tok) (s:Shared) (Q:Value→Shared→Prop) (E:Value→Shared→Prop),Q (.int (g i j) s.toks) { s with toks:=s.toks+1 }→wpAny (model X.prog X.w) X.A (f (.int i t) (.int j u)) Q E s) :
  OpR X f (rI0 fun i j=>.int (g i j)):=by
 intro pins s σ H x y v u Q I rx ry h
 obtain ⟨i,j,rfl,rfl,q⟩:=h
 obtain ⟨t,rfl⟩:=rx
 obtain ⟨t',rfl⟩:=ry
 exact rule i j t t' s _ _ ⟨.int (g i j),H,I.tok _,⟨_,rfl⟩,q⟩
theorem zgF {f:Value→Value→Sem Value}{g:Int→Int→Bool}
  (rule:∀ (i j:Int) (t u:Tok) (s:Shared) (Q:Value→Shared→Prop) (E:Value→Shared→Prop),Q (.bool (g i j)) s→wpAny (model X.prog X.w) X.A (f (.int i t) (.int j u)) Q E s) :
  OpR X f (rI0 fun i j=>.bl (g i j)):=by
 intro pins s σ H x y v u Q I rx ry h
 obtain ⟨i,j,rfl,rfl,q⟩:=h
 obtain ⟨t,rfl⟩:=rx
 obtain ⟨t',rfl⟩:=ry
 exact rule i j t t' s _ _ ⟨.bl (g i j),H,I,rfl,q⟩
def zwl (i j:Int):Prop:=0<j∧j<1073741824
def zq2 (i j:Int):Prop:=0≤j∧j≤1000000∧i.natAbs<2 ^ 64
def zed (i j:Int):Prop:=(-(2 ^ 64)<i∧i<2 ^ 64)∨(-(2 ^ 64)<j∧j<2 ^ 64)
theorem zed.ok {i j:Int} (h:zed i j):IntMulOk i j:=by
 rcases h with ⟨h1,h2⟩|⟨h1,h2⟩
 ·exact .of_left (intBits_le_64 h1 h2)
 ·exact .of_right (intBits_le_64 h1 h2)
theorem zuD:OpR X (binaryOp .Add) (rI0 fun i j=>.int (i+j)):=zlY fun _ _ _ _ _ _ _ q=>add_int q
theorem zeR:OpR X (binaryOp .Sub) (rI0 fun i j=>.int (i - j)):=zlY fun _ _ _ _ _ _ _ q=>sub_int q
theorem zmN:OpR X (binaryOp .Mult) (rI zed fun i j=>.int (i*j)):=opI fun _ _ _ _ _ _ _ hc q=>mul_int q hc.ok
theorem zts:OpR X (binaryOp .FloorDiv) (rI zwl fun i j=>.int (i / j)):=opI fun i j _ _ _ _ _ hc q=>by
 have h1:(0:Int)<j:=hc.1
 have h2:j<1073741824:=hc.2
 exact floordiv_int (by omega) (by rw [Int.fdiv_eq_ediv_of_nonneg i (by omega)];exact q) (.inl (PyProof.noPylong_small (by omega)))
theorem zdL:OpR X (binaryOp .Mod) (rI (fun _ j=>0<j) fun i j=>.int (i % j)):=opI fun i j _ _ _ _ _ hc q=>by
 have h1:(0:Int)<j:=hc
 exact mod_int' (by omega) (by rw [Int.fmod_eq_emod_of_nonneg i (by omega)];exact q)
theorem zhV:OpR X (binaryOp .Pow) (rI zq2 fun i j=>.int (i ^ j.toNat)):=opI fun _ _ _ _ _ _ _ hc q=>pow_int_small hc.1 hc.2.1 hc.2.2 q
theorem unI {f:Value→Sem Value}{g:Int→Int}
  (rule:∀ (i:Int) (t:Tok) (s:Shared) (Q:Value→Shared→Prop) (E:Value→Shared→Prop),Q (.int (g i) s.toks) { s with toks:=s.toks+1 }→wpAny (model X.prog X.w) X.A (f (.int i t)) Q E s) :
  UnR X f (rU fun i=>.int (g i)):=by
 intro pins s σ H x v Q I rx h
 obtain ⟨i,rfl,q⟩:=h
 obtain ⟨t,rfl⟩:=rx
 exact rule i t s _ _ ⟨.int (g i),H,I.tok _,⟨_,rfl⟩,q⟩
theorem ziG:UnR X (unaryOp .USub) (rU fun i=>.int (-i)):=unI fun _ _ _ _ _ q=>neg_int q
end
def zbJ:V→V→Bool
 | .non,.non=>true | .non,.int _=>true | .int _,.non=>true | .non,.bl _=>true | .bl _,.non=>true | .non,.str _=>true | .str _,.non=>true
 | .int _,.int _=>true | .bl _,.bl _=>true | .str _,.str _=>true | .byt _,.byt _=>true
 | .int _,.str _=>true | .str _,.int _=>true | .bl _,.str _=>true | .str _,.bl _=>true
 | _,_=>false
def rEq:R2:=fun x y H Q=>zbJ x y=true∧Q (.bl (decide (x=y))) H
def rNe:R2:=fun x y H Q=>zbJ x y=true∧Q (.bl (!decide (x=y))) H
theorem zjx {i j:Int}:decide (V.int i=V.int j)=(i == j):=by
 rw [Bool.eq_iff_iff]
 simp
theorem zjN {i j:Bool}:decide (V.bl i=V.bl j)=(i == j):=by
 rw [Bool.eq_iff_iff]
 simp
theorem zkj {i j:Str}:decide (V.str i=V.str j)=(i == j):=by
 rw [Bool.eq_iff_iff]
 simp
theorem zkR {i j:Array UInt8}:decide (V.byt i=V.byt j)=(i.toList == j.toList):=by
 rw [Bool.eq_iff_iff]
 cases i
 cases j
 simp
section
variable {X:Cx}{a b c:Expr}{ta tb tc:TE}{pos:Pos}
theorem zW {pins:List (Addr×Obj)}{σ:St}{H:Hp}{s:Shared}{Q:VK}{k k':Bool} (I:Inv X pins σ H s) (q:Q (.bl k) H) (e:k=k'):EP X pins σ Q (.bool k') s:=by
 subst e
 exact ⟨.bl k,H,I,rfl,q⟩
theorem zsX:OpR X (compareOp .Eq) rEq:=by
 intro pins s σ H x y v u Q I rx ry h
 obtain ⟨hs,q⟩:=h
 cases x with
 | non =>
  cases rx
  cases y with
  | non=>cases ry;exact PySem.EqNone.eq_none_none (zW I q (by simp))
  | bl j=>cases ry;exact PySem.EqNone.eq_none_bool (zW I q (by simp))
  | int j=>obtain ⟨t',rfl⟩:=ry;exact PySem.EqNone.eq_none_int (zW I q (by simp))
  | str j=>obtain ⟨t',rfl⟩:=ry;exact PySem.EqNone.eq_none_str (zW I q (by simp))
  | _=>exact absurd (show false=true from hs) Bool.false_ne_true
 | bl i =>
  cases rx
  cases y with
  | non=>cases ry;exact PySem.EqNone.eq_bool_none (zW I q (by simp))
  | bl j=>cases ry;exact eq_bool (zW I q zjN)
  | str j=>obtain ⟨t',rfl⟩:=ry;exact PySem.EqMixed.eq_bool_str (zW I q (by simp))
  | _=>exact absurd (show false=true from hs) Bool.false_ne_true
 | int i =>
  obtain ⟨t,rfl⟩:=rx
  cases y with
  | non=>cases ry;exact PySem.EqNone.eq_int_none (zW I q (by simp))
  | int j=>obtain ⟨t',rfl⟩:=ry;exact eq_int (zW I q zjx)
  | str j=>obtain ⟨t',rfl⟩:=ry;exact PySem.EqMixed.eq_int_str (zW I q (by simp))
  | _=>exact absurd (show false=true from hs) Bool.false_ne_true
 | str i =>
  obtain ⟨t,rfl⟩:=rx
  cases y with
  | non=>cases ry;exact PySem.EqNone.eq_str_none (zW I q (by simp))
  | bl j=>cases ry;exact PySem.EqMixed.eq_str_bool (zW I q (by simp))
  | int j=>obtain ⟨t',rfl⟩:=ry;exact PySem.EqMixed.eq_str_int (zW I q (by simp))
  | str j=>obtain ⟨t',rfl⟩:=ry;exact eq_str (zW I q zkj)
  | _=>exact absurd (show false=true from hs) Bool.false_ne_true
 | byt i =>
  obtain ⟨t,rfl⟩:=rx
  cases y with
  | byt j=>obtain ⟨t',rfl⟩:=ry;exact PySem.W.eq_bytes (zW I q zkR)
  | _=>exact absurd (show false=true from hs) Bool.false_ne_true
 | _=>cases y <;> exact absurd (show false=true from hs) Bool.false_ne_true
theorem zmy:OpR X (compareOp .NotEq) rNe:=by
 intro pins s σ H x y v u Q I rx ry h
 obtain ⟨hs,q⟩:=h
 cases x with
 | non =>
  cases rx
  cases y with
  | non=>cases ry;exact PySem.EqNone.ne_none_none (zW I q (by simp))
  | bl j=>cases ry;exact PySem.EqNone.ne_none_bool (zW I q (by simp))
  | int j=>obtain ⟨t',rfl⟩:=ry;exact PySem.EqNone.ne_none_int (zW I q (by simp))
  | str j=>obtain ⟨t',rfl⟩:=ry;exact PySem.EqNone.ne_none_str (zW I q (by simp))
  | _=>exact absurd (show false=true from hs) Bool.false_ne_true
 | bl i =>
  cases rx
  cases y with
  | non=>cases ry;exact PySem.EqNone.ne_bool_none (zW I q (by simp))
  | bl j=>cases ry;exact ne_bool (zW I q (congrArg not zjN))
  | str j=>obtain ⟨t',rfl⟩:=ry;exact PySem.EqMixed.ne_bool_str (zW I q (by simp))
  | _=>exact absurd (show false=true from hs) Bool.false_ne_true
 | int i =>
  obtain ⟨t,rfl⟩:=rx
  cases y with
  | non=>cases ry;exact PySem.EqNone.ne_int_none (zW I q (by simp))
  | int j=>obtain ⟨t',rfl⟩:=ry;exact ne_int (zW I q (congrArg not zjx))
  | str j=>obtain ⟨t',rfl⟩:=ry;exact PySem.EqMixed.ne_int_str (zW I q (by simp))
  | _=>exact absurd (show false=true from hs) Bool.false_ne_true
 | str i =>
  obtain ⟨t,rfl⟩:=rx
  cases y with
  | non=>cases ry;exact PySem.EqNone.ne_str_none (zW I q (by simp))
  | bl j=>cases ry;exact PySem.EqMixed.ne_str_bool (zW I q (by simp))
  | int j=>obtain ⟨t',rfl⟩:=ry;exact PySem.EqMixed.ne_str_int (zW I q (by simp))
  | str j=>obtain ⟨t',rfl⟩:=ry;exact ne_str (zW I q (congrArg not zkj))
  | _=>exact absurd (show false=true from hs) Bool.false_ne_true
 | byt i =>
  obtain ⟨t,rfl⟩:=rx
  cases y with
  | byt j=>obtain ⟨t',rfl⟩:=ry;exact PySem.W.ne_bytes (zW I q (congrArg not zkR))
  | _=>exact absurd (show false=true from hs) Bool.false_ne_true
 | _=>cases y <;> exact absurd (show false=true from hs) Bool.false_ne_true
theorem zd2:OpR X (compareOp .Lt) (rI0 fun i j=>.bl (decide (i<j))):=zgF fun _ _ _ _ _ _ _ q=>lt_int q
theorem zfV:OpR X (compareOp .LtE) (rI0 fun i j=>.bl (decide (i≤j))):=zgF fun _ _ _ _ _ _ _ q=>le_int q
theorem zfI:OpR X (compareOp .Gt) (rI0 fun i j=>.bl (decide (j<i))):=zgF fun _ _ _ _ _ _ _ q=>gt_int q
theorem zv0:OpR X (compareOp .In) (fun x y H Q=>∃ i j,x = .str i∧y = .str j∧Q (.bl (!(Builtin.Str.occurrences j i 0 j.length 1).isEmpty)) H):=by
 intro pins s σ H x y v u Q I rx ry h
 obtain ⟨i,j,rfl,rfl,q⟩:=h
 obtain ⟨t,rfl⟩:=rx
 obtain ⟨t',rfl⟩:=ry
 exact in_str (zW I q rfl)
theorem zqa:OpR X (compareOp .Is) (fun x y H Q=>y = .non∧Q (.bl (decide (x = .non))) H):=by
 intro pins s σ H x y v u Q I rx ry h
 obtain ⟨rfl,q⟩:=h
 cases ry
 refine is_none_gen (zW I q ?_)
 cases x <;> first
  | (cases rx;rfl)
  | (obtain ⟨t,rfl⟩:=rx;rfl)
theorem zue:OpR X (compareOp .IsNot) (fun x y H Q=>y = .non∧Q (.bl (!decide (x = .non))) H):=by
 intro pins s σ H x y v u Q I rx ry h
 obtain ⟨rfl,q⟩:=h
 cases ry
 refine isnot_none_gen (zW I q ?_)
 cases x <;> first
  | (cases rx;rfl)
  | (obtain ⟨t,rfl⟩:=rx;rfl)
theorem OpR.or {f:Value→Value→Sem Value}{r r':R2} (h:OpR X f r) (h':OpR X f r'):OpR X f (fun x y H Q=>r x y H Q∨r' x y H Q):=by
 intro pins s σ H x y v u Q I rx ry q
 rcases q with q|q
 ·exact h pins s σ H x y v u Q I rx ry q
 ·exact h' pins s σ H x y v u Q I rx ry q
theorem zD (b:Expr) {op:CmpOp} (h:op≠.In:=by decide) (h2:op≠.NotIn:=by decide):behindInMarks op b=false:=by
 have e1:(op == CmpOp.In)=false:=by cases op <;> first|rfl|exact absurd rfl h
 have e2:(op == CmpOp.NotIn)=false:=by cases op <;> first|rfl|exact absurd rfl h2
 cases b <;> simp [behindInMarks,e1,e2]
theorem zsr {op:CmpOp}{r:R2} (ho:OpR X (compareOp op) r) (ha:PE X a ta) (hb:PE X b tb) (hm:behindInMarks op b=false):PE X (.Compare a [op] [b] pos) (tOp r ta tb):=by
 intro pins s σ H Q I h
 exact wpAny_Compare1 (zia ha hb I h fun v u s2 x y H2 I2 rx ry q=>ho pins s2 σ H2 x y v u Q I2 rx ry q) hm
def zfh (t:TE):TT:=fun σ H Q=>t σ H fun x H'=>∃ k,x = .bl k∧Q k H'
theorem zkN {op:CmpOp}{r:R2} (ho:OpR X (compareOp op) r) (ha:PE X a ta) (hb:PE X b tb) (hm:behindInMarks op b=false):PT X (.Compare a [op] [b] pos) (zfh (tOp r ta tb)):=by
 intro pins s σ H Q I h
 refine wpAny_isTrue_Compare1 (thn (ha pins s σ H _ I h) fun v s1 ⟨x,H1,I1,r1,q1⟩=>thn (hb pins s1 σ H1 _ I1 q1) fun u s2 ⟨y,H2,I2,r2,q2⟩ =>
  thn (ho pins s2 σ H2 x y v u _ I2 r1 r2 q2) fun c s3 ⟨z,H3,I3,r3,k,e,q3⟩=>?_) hm
 subst e
 cases r3
 exact wpAny_truthy_bool ⟨H3,I3,q3⟩
def zid (r r':R2) (ta tb tc:TE):TE:=fun σ H Q=>ta σ H fun x H1=>tb σ H1 fun y H2=>r x y H2 fun z H3=>∃ k,z = .bl k ∧
 (if k=true then tc σ H3 fun w' H4=>r' y w' H4 Q else Q (.bl false) H3)
theorem zqr {op op':CmpOp}{r r':R2} (ho:OpR X (compareOp op) r) (ho':OpR X (compareOp op') r') (ha:PE X a ta) (hb:PE X b tb) (hc:PE X c tc)
  (hm:lastMarks [op,op'] [b,c]=false:=by with_unfolding_all rfl):PE X (.Compare a [op,op'] [b,c] pos) (zid r r' ta tb tc):=by
 intro pins s σ H Q I h
 refine Compare_chain (thn (ha pins s σ H _ I h) fun v s1 ⟨x,H1,I1,r1,q1⟩=>chain_link (thn (hb pins s1 σ H1 _ I1 q1) fun u s2 ⟨y,H2,I2,r2,q2⟩ =>
  thn (ho pins s2 σ H2 x y v u _ I2 r1 r2 q2) fun d s3 ⟨z,H3,I3,r3,k,e,q3⟩=>?_)) hm
 subst e
 cases r3
 refine wpAny_truthy_bool ?_
 cases k with
 | false=>exact ite_ff ⟨.bl false,H3,I3,rfl,q3⟩
 | true=>exact ite_tt (chain_last (thn (hc pins s3 σ H3 _ I3 q3) fun w' s4 ⟨z',H4,I4,r4,q4⟩=>ho' pins s4 σ H4 y z' u w' Q I4 r2 r4 q4))
def zcB (K:PySem.W.Frag) (x:V) (H:Hp) (k:Bool):Prop :=
 match x with
 | .non=>k=false
 | .bl b=>k=b
 | .int i=>k=(i != 0)
 | .str y=>y.length≤sizeLine∧k=((y.length:Int) != 0)
 | .byt y=>y.size≤sizeLine∧k=((y.size:Int) != 0)
 | .ref p=>(∃ xs,SqL K H p xs∧k = !xs.isEmpty)∨(∃ xs,SqT K H p xs∧k = !xs.isEmpty)∨∃ kvs,H p=some (.dK kvs)∧k = !kvs.isEmpty
 | _=>False
theorem zti {κ:Type}{kvs:List (κ×V)}{vs:List (κ×Value)} (r:KV kvs vs):(!vs.isEmpty) = !kvs.isEmpty:=by
 cases r <;> rfl
theorem zjc {xs:List V}{its:List Value} (r:zk xs its):(!its.toArray.isEmpty) = !xs.isEmpty:=by
 cases r <;> simp
theorem zcW:(sizeLine:Nat)<2 ^ 63:=by rw [sizeLine_eq];decide
theorem zrM:zqf X (fun x H Q=>∃ k,zcB X.K x H k∧Q k H):=by
 intro pins s σ H x v Q I rx h
 obtain ⟨k,e,q⟩:=h
 have hl:=zcW
 have hs:sizeLine=16777216:=sizeLine_eq
 cases x with
 | non =>
  cases rx
  have e':k=false:=e
  subst e'
  exact truthy_none ⟨H,I,q⟩
 | bl b =>
  cases rx
  have e':k=b:=e
  subst e'
  exact wpAny_truthy_bool ⟨H,I,q⟩
 | int i =>
  obtain ⟨t,rfl⟩:=rx
  have e':k=(i != 0):=e
  subst e'
  exact PySem.P.truthy_int ⟨H,I,q⟩
 | str y =>
  obtain ⟨t,rfl⟩:=rx
  obtain ⟨hy,e'⟩:y.length≤sizeLine∧k=((y.length:Int) != 0):=e
  subst e'
  exact PySem.P.truthy_str (by omega) ⟨H,I.tok _,q⟩
 | byt y =>
  obtain ⟨t,rfl⟩:=rx
  obtain ⟨hy,e'⟩:y.size≤sizeLine∧k=((y.size:Int) != 0):=e
  subst e'
  exact PySem.W.truthy_bytes (by omega) ⟨H,I.tok _,q⟩
 | ref p =>
  cases rx
  have e':(∃ xs,SqL X.K H p xs∧k = !xs.isEmpty)∨(∃ xs,SqT X.K H p xs∧k = !xs.isEmpty)∨∃ kvs,H p=some (.dK kvs)∧k = !kvs.isEmpty:=e
  rcases e' with ⟨xs,hx,e'⟩|⟨xs,hx,e'⟩|⟨kvs,hx,e'⟩
  ·subst e'
   obtain ⟨its,r,pl,hz⟩:=I.list hx
   have hlen:=r.length
   exact wpAny_truthy_list pl.isList (by simp only [List.size_toArray];omega) ⟨H,I.tok _,by rw [zjc r];exact q⟩
  ·subst e'
   obtain ⟨its,r,pl,hz⟩:=I.tuple hx
   have hlen:=r.length
   exact truthy_tuple pl (by simp only [List.size_toArray];omega) ⟨H,I.tok _,by rw [zjc r];exact q⟩
  ·subst e'
   obtain ⟨hz,hS,vs,r,m⟩:kvs.length≤sizeLine∧(p == sysModules)=false∧∃ vs,KV kvs vs∧s.heap.DictOf (zb8 X.prog X.w) p vs:=I.hok p _ hx
   have hlen:kvs.length=vs.length:=Paired.length r
   exact wpAny_truthy_dict hS m (by omega) ⟨H,I.tok _,by rw [zti r];exact q⟩
 | _=>exact (show False from e).elim
theorem zpZ (ha:PE X a ta) (he:∀ whole,isTrue a X.env whole=(do let v←whole;standAt a.pos;holding [v] (truthy v))) :
  PT X a (fun σ H Q=>ta σ H fun x H'=>∃ k,zcB X.K x H' k∧Q k H'):=by
 intro pins s σ H Q I h
 exact isTrue_plain (thn (ha pins s σ H _ I h) fun v s1 ⟨x,H1,I1,r1,q1⟩=>zrM pins s1 σ H1 x v Q I1 r1 q1) (he _)
theorem zmK:OpR X (binaryOp .Add) (fun x y H Q=>∃ i j,x = .str i∧y = .str j∧i.length+j.length≤sizeLine∧Q (.str (i++j)) H):=by
 intro pins s σ H x y v u Q I rx ry h
 obtain ⟨i,j,rfl,rfl,hz,q⟩:=h
 obtain ⟨t,rfl⟩:=rx
 obtain ⟨t',rfl⟩:=ry
 exact add_str (fun t' tk=>⟨.str (i++j),H,I.tok _,⟨_,rfl⟩,q⟩) hz
theorem zbN {x:V}{us:List Value} (r:zk [x] us):∃ u,us=[u]∧zi x u:=by
 cases r with
 | cons r1 r2=>cases r2;exact ⟨_,rfl,r1⟩
theorem zg5 {x y:V}{us:List Value} (r:zk [x,y] us):∃ u w',us=[u,w']∧zi x u∧zi y w':=by
 cases r with
 | cons r1 r2 =>
  cases r2 with
  | cons r3 r4=>cases r4;exact ⟨_,_,rfl,r1,r3⟩
theorem zxo (hc:X.calm=true):zJ X (.builtin "max") (fun xs H Q=>∃ i j,xs=[.int i,.int j]∧Q (.int (if j>i then j else i)) H):=by
 intro pins s σ H xs us Q I r h
 obtain ⟨i,j,rfl,q⟩:=h
 obtain ⟨u,w',rfl,⟨t,rfl⟩,⟨t',rfl⟩⟩:=zg5 r
 refine max_two_ints (I.ok.hd hc) fun h' tk k=>⟨_,H,I.kept k,?_,q⟩
 by_cases hj:j>i
 ·rw [if_pos hj,if_pos hj];exact ⟨_,rfl⟩
 ·rw [if_neg hj,if_neg hj];exact ⟨_,rfl⟩
theorem zsP (hc:X.calm=true):zJ X (.builtin "min") (fun xs H Q=>∃ i j,xs=[.int i,.int j]∧Q (.int (if j<i then j else i)) H):=by
 intro pins s σ H xs us Q I r h
 obtain ⟨i,j,rfl,q⟩:=h
 obtain ⟨u,w',rfl,⟨t,rfl⟩,⟨t',rfl⟩⟩:=zg5 r
 refine min_two_ints (I.ok.hd hc) fun h' tk k=>⟨_,H,I.kept k,?_,q⟩
 by_cases hj:j<i
 ·rw [if_pos hj,if_pos hj];exact ⟨_,rfl⟩
 ·rw [if_neg hj,if_neg hj];exact ⟨_,rfl⟩
theorem zq1:zJ X (.type "int") (fun xs H Q=>(∃ i,xs=[.int i]∧Q (.int i) H)∨∃ k,xs=[.bl k]∧Q (.int (if k then 1 else 0)) H):=by
 intro pins s σ H xs us Q I r h
 rcases h with ⟨i,rfl,q⟩|⟨k,rfl,q⟩
 ·obtain ⟨u,rfl,t,rfl⟩:=zbN r
  exact call_int_int ⟨.int i,H,I,⟨_,rfl⟩,q⟩
 ·obtain ⟨u,rfl,r1⟩:=zbN r
  cases r1
  exact call_int_bool ⟨.int (if k then 1 else 0),H,I.tok _,⟨_,rfl⟩,q⟩
theorem zxh:zJ X (.type "str") (fun xs H Q=>∃ i,xs=[.int i]∧i.natAbs.log2<1920∧Q (.str (toString i)) H):=by
 intro pins s σ H xs us Q I r h
 obtain ⟨i,rfl,hz,q⟩:=h
 obtain ⟨u,rfl,t,rfl⟩:=zbN r
 exact PySem.P.str_of_int hz ⟨.str _,H,I.tok _,⟨_,rfl⟩,q⟩
theorem zn8:zJ X (.builtin "ord") (fun xs H Q=>∃ x,xs=[.str x]∧x.length=1∧Q (.int (x.cps.getD 0 0:Nat)) H):=by
 intro pins s σ H xs us Q I r h
 obtain ⟨x,rfl,hz,q⟩:=h
 obtain ⟨u,rfl,t,rfl⟩:=zbN r
 exact ord_of_one hz ⟨.int _,H,I.tok _,⟨_,rfl⟩,q⟩
end
end L2
namespace L2
open PySem PySem.Spec PyProof.Rows
structure zcX (h:Heap) (x dx C:Addr) (mA:Str→Option Value):Prop where
 obj:h.get? x=some (PySem.W.instObj C dx)
 ns:h.Ns1 dx mA
 ne:dx≠x
theorem zwJ {h:Heap}{dx:Addr}{mA:Str→Option Value} (n:h.Ns1 dx mA):∃ od,h.get? dx=some od∧∀ name,PySem.W.lookIn name od=some (mA name):=by
 obtain ⟨o,es,ep,ho,hd,hk,_,hm⟩:=n
 refine ⟨o,ho,fun name=>?_⟩
 have e:=hm name
 unfold nsFind findBy at e
 rw [← Array.find?_toList] at e
 unfold PySem.W.lookIn
 rw [hd]
 dsimp only
 split
 ·rename_i y q
  rw [q] at e
  exact congrArg some e
 ·rename_i q
  rw [q] at e
  have a:es.toList.any (·.refKey)=false:=by
   rw [List.any_eq_false]
   intro y hy
   obtain ⟨z,t,hkey⟩:=hk y (Array.mem_toList_iff.mp hy)
   simp [DictEntry.refKey,hkey]
  have a' : ¬ es.toList.any (·.refKey)=true:=by rw [a];exact Bool.false_ne_true
  rw [if_neg a']
  exact congrArg some e
theorem zcX.look {h:Heap}{x dx C:Addr}{mA:Str→Option Value} (I:zcX h x dx C mA):∃ od,PySem.W.InstAt h x (PySem.W.instObj C dx) C (some od)∧∀ name,PySem.W.lookIn name od=some (mA name) :=
 let ⟨od,ho,hl⟩:=zwJ I.ns
 ⟨od,⟨I.obj,rfl,rfl,ho⟩,hl⟩
section
variable {prog:Program}{w:World}{A:Around}{E:Value→Shared→Prop}{s:Shared}{K:PySem.W.Frag}{x dx C f:Addr}{mA:Str→Option Value}{name:Str}{v:Value}
theorem zpT {expr:Bool}{Q:Value→Shared→Prop} (X:K.In s.heap) (I:zcX s.heap x dx C mA) (hg:PySem.W.plainGet K C name=true) (hh:PySem.W.hasDictIn K C=true)
  (ha:PySem.W.findIn K (.ref C) name=some none) (hv:mA name=some v) (hv':PySem.W.handedIn v=true) (h:Q v { s with toks:=s.toks+1 }) :
  wpAny (model prog w) A (getAttr (.ref x) name expr) Q E s:=by
 obtain ⟨od,J,hl⟩:=I.look
 exact PySem.W.get_value X J (PySem.W.plainGet_of hg).1 (PySem.W.findObj_own hh ha rfl (by rw [hl,hv])) hv' h
theorem zxe {pl:Sem Bool}{Q:Value×List Value→Shared→Prop} (X:K.In s.heap) (I:zcX s.heap x dx C mA) (hg:PySem.W.plainGet K C name=true)
  (hf:PySem.W.findIn K (.ref C) name=some (some (.ref f))) (ht:PySem.W.isFn K (.ref f)=true) (hv:mA name=none) (h:Q (.ref f,[.ref x]) s) :
  wpAny (model prog w) A (getMethod (.ref x) name pl) Q E s:=by
 obtain ⟨od,J,hl⟩:=I.look
 exact PySem.W.method_fn X J (PySem.W.plainGet_of hg).1 (PySem.W.plainGet_of hg).2 hf (beq_iff_eq.mp ht) (by show (PySem.W.lookIn name od).map (·.isSome)=some false;rw [hl,hv];rfl) h
theorem zoK {ns:List Str}{Q:Unit→Shared→Prop} (X:K.In s.heap) (I:zcX s.heap x dx C mA)
  (hs:PySem.W.findIn K (.ref C) "__setattr__"=some (some (.builtin "object.__setattr__"))) (hp:PySem.W.plainOver K C=true) (ht:PySem.W.takerIn K C name=some none) (hh:PySem.W.hasDictIn K C=true)
  (hw:PySem.Within mA ns) (hsz:ns.length≤sizeLine)
  (h:∀ h',zcX h' x dx C (fun y=>if y=name then some v else mA y)→Heap.SameBut dx s.heap h'→Q () { s with heap:=h',toks:=s.toks+2 }) :
  wpAny (model prog w) A (setAttr (.ref x) name v) Q E s:=by
 obtain ⟨od,J,hl⟩:=I.look
 refine PySem.W.set_plain X J hs (PySem.W.osa_open (s:={ s with toks:=s.toks+1 }) (r:=none) X J hp ht fun b=>?_)
 obtain ⟨cd,hc,hd'⟩:=PySem.W.any_some hh
 have hx:s.heap.get? x=some ⟨.ref C,some dx,.plain,#[]⟩:=I.obj
 refine wpAny_bind (wpAny_pure (wpAny_bind (wpAny_bind (wpAny_loadPart hx (wpAny_bind (PySem.W.Looks.here (s:={ s with toks:=s.toks+1 }) (PySem.W.looks_clsIn X hc) ?_))))))
 rw [hd']
 refine wpAny_pure (a:=some dx) (wpAny_bind (wpAny_pure (wpAny_bind ?_)))
 refine wpAny_nsSet1 (s:={ s with toks:=s.toks+1 }) I.ns fun h' hn2 hs2=>?_
 obtain ⟨oD,esD,epD,hoD,hdD,hcD⟩:=hn2.count (PySem.Within.cons name v hw)
 refine wpAny_bind (wpAny_lookBehind hoD (by rw [hdD];exact pastItsLine_dict (Nat.le_trans hcD (by rw [List.length_cons];omega))) ?_)
 exact wpAny_pure (h _ ⟨(hs2.2 _ (Ne.symm I.ne)).trans I.obj,hn2,I.ne⟩ hs2)
theorem zoy {R:Result→Shared→Prop}{vs:List Value}{kw:List (Str×Value)} (X:K.In s.heap) (hm:PySem.W.makesIn K C=true)
  (hi:PySem.W.findIn K (.ref C) "__init__"=some (some (.ref f))) (hf:PySem.W.typeIn K (.ref f)=some (.type "function"))
  (h:codeAny (model prog w) (A.under (.builtin "type.__call__" ⟨.ref C::vs,kw⟩)) (.call (.ref f) ⟨.ref (s.heap.objs.size+1)::vs,kw⟩) (PySem.W.InitBack (s.heap.objs.size+1) R)
   { s with heap:=(s.heap.push PySem.W.emptyDict).push (PySem.W.instObj C s.heap.objs.size) }) :
  codeAny (model prog w) A (.call (.ref C) ⟨vs,kw⟩) R s:=by
 obtain ⟨hh,g,d,t,os⟩:=s
 exact PySem.W.make_core (PySem.W.makes_of X hm) (PySem.W.looks_findIn X hi) (fun self=>PySem.W.bind_fn X self hf) (.inl rfl) h
end
def zL (f:Str) (v:V):List (Str×V)→List (Str×V)
 | []=>[(f,v)]
 | (g,x)::r=>if g=f then (g,v)::r else (g,x)::zL f v r
theorem zlb (f g:Str) (v:V):∀ fs:List (Str×V),(zL f v fs).lookup g=if g=f then some v else fs.lookup g
 | []=>by
  show List.lookup g [(f,v)]=_
  by_cases h:g=f
  ·have hb:(g == f)=true:=beq_iff_eq.mpr h
   simp only [List.lookup,hb,if_pos h]
  ·have hb:(g == f)=false:=beq_eq_false_iff_ne.mpr h
   simp only [List.lookup,hb,if_neg h]
 | (k,x)::r=>by
  have ih:=zlb f g v r
  rw [show zL f v ((k,x)::r)=(if k=f then (k,v)::r else (k,x)::zL f v r) from rfl]
  by_cases hk:k=f
  ·rw [if_pos hk]
   by_cases h:g=k
   ·have hb:(g == k)=true:=beq_iff_eq.mpr h
    simp only [List.lookup,hb,if_pos (h.trans hk)]
   ·have hb:(g == k)=false:=beq_eq_false_iff_ne.mpr h
    simp only [List.lookup,hb,if_neg (fun e:g=f=>h (e.trans hk.symm))]
  ·rw [if_neg hk]
   by_cases h:g=k
   ·have hb:(g == k)=true:=beq_iff_eq.mpr h
    simp only [List.lookup,hb,if_neg (fun e:g=f=>hk (h.symm.trans e))]
   ·have hb:(g == k)=false:=beq_eq_false_iff_ne.mpr h
    simp only [List.lookup,hb]
    exact ih
theorem zhd (f:Str) (v:V):∀ fs:List (Str×V),f∈(zL f v fs).map (·.1)∧∀ g,g∈fs.map (·.1)→g∈(zL f v fs).map (·.1)
 | []=>⟨by simp [zL],fun g h=>by simp at h⟩
 | (k,x)::r=>by
  obtain ⟨i1,i2⟩:=zhd f v r
  rw [show zL f v ((k,x)::r)=(if k=f then (k,v)::r else (k,x)::zL f v r) from rfl]
  by_cases hk:k=f
  ·rw [if_pos hk]
   subst hk
   exact ⟨by simp,fun g h=>by simpa using h⟩
  ·rw [if_neg hk]
   refine ⟨?_,fun g h=>?_⟩
   ·rw [List.map_cons]
    exact List.mem_cons_of_mem _ i1
   ·rw [List.map_cons] at h ⊢
    rcases List.mem_cons.mp h with e|e
    ·exact List.mem_cons.mpr (.inl e)
    ·exact List.mem_cons_of_mem _ (i2 g e)
theorem zkg (f:Str) (v:V):∀ fs:List (Str×V),(zL f v fs).length≤fs.length+1
 | []=>by simp [zL]
 | (k,x)::r=>by
  have ih:=zkg f v r
  rw [show zL f v ((k,x)::r)=(if k=f then (k,v)::r else (k,x)::zL f v r) from rfl]
  by_cases hk:k=f
  ·rw [if_pos hk,List.length_cons,List.length_cons];omega
  ·rw [if_neg hk,List.length_cons,List.length_cons];omega
theorem zbf.some_of {v:V}{o:Option Value} (r:zbf (some v) o):∃ u,o=some u∧zi v u:=by
 cases o with
 | none=>exact (show False from r).elim
 | some u=>exact ⟨u,rfl,r⟩
theorem zbf.none_of {o:Option Value} (r:zbf none o):o=none:=by
 cases o with
 | none=>rfl
 | some u=>exact (show False from r).elim
theorem zwi {v:V}{u:Value} (r:zi v u):PySem.W.handedIn u=true:=by
 cases v with
 | non=>cases (show u=Value.none from r);rfl
 | bl b=>cases (show u=Value.bool b from r);rfl
 | int i=>obtain ⟨t,e⟩:=(show ∃ t,u=Value.int i t from r);cases e;rfl
 | str x=>obtain ⟨t,e⟩:=(show ∃ t,u=Value.str x t from r);cases e;rfl
 | byt b=>obtain ⟨t,e⟩:=(show ∃ t,u=Value.bytes b t from r);cases e;rfl
 | flt b=>obtain ⟨t,e⟩:=(show ∃ t,u=Value.float b t from r);cases e;rfl
 | ref a=>cases (show u=Value.ref a from r);rfl
 | ty n=>cases (show u=Value.type n from r);rfl
section
variable {P:Program}{w:World}{H H':Hp}{h h':Heap}{a C dx:Addr}{fs fs':List (Str×V)}
theorem zet (hok:HOk P w H h) (e:H a=some (.ins C dx fs)):∃ mA,zcX h a dx C mA∧(∀ f,zbf (fs.lookup f) (mA f))∧PySem.Within mA (fs.map (·.1))∧fs.length≤1000∧H dx=some (.own a):=by
 obtain ⟨d,z,ne,ob,mA,n,r,q⟩:=(show zY P w H h a (.ins C dx fs) from hok a _ e)
 exact ⟨mA,⟨ob,n,ne⟩,r,q,z,d⟩
end
structure Cls (K:PySem.W.Frag) (C:Addr):Prop where
 pg:PySem.W.plainGet K C Str.empty=true
 hd:PySem.W.hasDictIn K C=true
 po:PySem.W.plainOver K C=true
 sa:PySem.W.findIn K (.ref C) "__setattr__"=some (some (.builtin "object.__setattr__"))
theorem Cls.get {K:PySem.W.Frag}{C:Addr} (c:Cls K C) (f:Str):PySem.W.plainGet K C f=true:=c.pg
def zaP (K:PySem.W.Frag) (C:Addr) (f:Str):Prop:=PySem.W.findIn K (.ref C) f=some none
theorem zaP.taker {K:PySem.W.Frag}{C:Addr}{f:Str} (n:zaP K C f):PySem.W.takerIn K C f=some none:=by
 unfold PySem.W.takerIn
 rw [show PySem.W.findIn K (.ref C) f=some none from n]
 rfl
structure zcg (K:PySem.W.Frag) (C:Addr) (m:Str) (f:Addr):Prop where
 at_:PySem.W.findIn K (.ref C) m=some (some (.ref f))
 fn:PySem.W.isFn K (.ref f)=true
 kp:PySem.W.keepIn K (.ref f)=true
section
variable {X:Cx}{pins:List (Addr×Obj)}{σ:St}{H:Hp}{s:Shared}{a C dx:Addr}{fs:List (Str×V)}{f:Str}{v:V}{A:Around}{E:Value→Shared→Prop}
theorem zlW {b:Bool}{Q:Value→Shared→Prop} (I:Inv X pins σ H s) (e:H a=some (.ins C dx fs)) (c:Cls X.K C) (n:zaP X.K C f) (l:fs.lookup f=some v)
  (h:∀ u s',Inv X pins σ H s'→zi v u→Q u s'):wpAny (model X.prog X.w) A (getAttr (.ref a) f b) Q E s:=by
 obtain ⟨mA,O,r,_,_,_⟩:=zet I.hok e
 obtain ⟨u,hu,ru⟩:=zbf.some_of (v:=v) (o:=mA f) (by rw [← l];exact r f)
 exact zpT I.kIn O (c.get f) c.hd n hu (zwi ru) (h u _ (I.tok _) ru)
theorem zeq {m:Str}{g:Addr}{pl:Sem Bool}{Q:Value×List Value→Shared→Prop} (I:Inv X pins σ H s) (e:H a=some (.ins C dx fs)) (c:Cls X.K C) (k:zcg X.K C m g) (l:fs.lookup m=none)
  (h:Q (.ref g,[.ref a]) s):wpAny (model X.prog X.w) A (getMethod (.ref a) m pl) Q E s:=by
 obtain ⟨mA,O,r,_,_,_⟩:=zet I.hok e
 have hn:mA m=none:=zbf.none_of (by rw [← l];exact r m)
 exact zxe I.kIn O (c.get m) k.at_ k.fn hn h
theorem zlq {y:V}{u:Value}{Q:Unit→Shared→Prop} (I:Inv X pins σ H s) (e:H a=some (.ins C dx fs)) (c:Cls X.K C) (n:zaP X.K C f) (hl:fs.length<1000) (ry:zi y u)
  (h:∀ s',Inv X pins σ (upd H a (.ins C dx (zL f y fs))) s'→Q () s'):wpAny (model X.prog X.w) A (setAttr (.ref a) f u) Q E s:=by
 obtain ⟨mA,O,r,wi,_,ho⟩:=zet I.hok e
 have hz:(fs.map (·.1)).length≤sizeLine:=by rw [List.length_map,sizeLine_eq];omega
 refine zoK I.kIn O c.sa c.po n.taker c.hd wi hz fun h' O' sb=>h _ ?_
 have hd:∃ o,h'.get? dx=some o:=let ⟨o,_,_,e',_⟩:=O'.ns;⟨o,e'⟩
 refine I.write (x:=a) (e:=dx) (by rw [e];exact True.intro) (.inr ho) (fun b q hb z=>(sb.2 b hb).trans z) hd ?_
 refine ⟨by rw [ze O.ne];exact ho,?_,O.ne,O'.obj,_,O'.ns,fun g=>?_,fun g hg=>?_⟩
 ·have:=zkg f y fs;omega
 ·show zbf ((zL f y fs).lookup g) (if g=f then some u else mA g)
  rw [zlb]
  by_cases q:g=f
  ·rw [if_pos q,if_pos q];exact ry
  ·rw [if_neg q,if_neg q];exact r g
 ·by_cases q:g=f
  ·rw [q];exact (zhd f y fs).1
  ·refine (zhd f y fs).2 g (wi g fun z=>hg ?_)
   show (if g=f then some u else mA g)=none
   rw [if_neg q];exact z
theorem Inv.made (I:Inv X pins σ H s):Inv X pins σ (upd (upd H s.heap.objs.size (.own (s.heap.objs.size+1))) (s.heap.objs.size+1) (.ins C s.heap.objs.size []))
  { s with heap:=(s.heap.push PySem.W.emptyDict).push (PySem.W.instObj C s.heap.objs.size) }:=by
 have e1:(s.heap.push PySem.W.emptyDict).get? s.heap.objs.size=some PySem.W.emptyDict:=Heap.get?_push_size s.heap rfl
 have e2:((s.heap.push PySem.W.emptyDict).push (PySem.W.instObj C s.heap.objs.size)).get? (s.heap.objs.size+1)=some (PySem.W.instObj C s.heap.objs.size):=by
  have:=Heap.get?_push_size (s.heap.push PySem.W.emptyDict) (o:=PySem.W.instObj C s.heap.objs.size) rfl
  rwa [Heap.size_push] at this
 have e3:(s.heap.push PySem.W.emptyDict).Ns s.heap.objs.size (fun _=>none):=⟨PySem.W.emptyDict,#[],_,e1,rfl,(fun e he=>absurd he (by simp)),fun _=>rfl⟩
 have I1:=I.laid (a:=s.heap.objs.size) (o:=.own (s.heap.objs.size+1)) (h':=s.heap.push PySem.W.emptyDict) (t':=s.toks) (fun b u q=>Heap.get?_push_of_some _ q) (Nat.le_refl _) ⟨_,e1⟩
 refine I1.laid (a:=s.heap.objs.size+1) (o:=.ins C s.heap.objs.size []) (t':=s.toks) (fun b u q=>Heap.get?_push_of_some _ q) (Nat.le_of_eq (Heap.size_push _ _)) ?_
 have ne:s.heap.objs.size≠s.heap.objs.size+1:=Nat.ne_of_lt (Nat.lt_succ_self _)
 refine ⟨by rw [ze ne,zF],Nat.zero_le _,ne,e2,fun _=>none,(Heap.Ns1.of_empty e3).at fun o q=>Heap.get?_push_of_some _ q,fun _=>True.intro,fun y hy=>absurd rfl hy⟩
theorem znh {prog:Program}{w:World}{env:Env}{e:Expr}{f:Str}{pos:Pos}{s:Shared}{Q:Value→Shared→Prop} (hb:attributeBase e f env (eval e env)=eval e env)
  (h:wpAny (model prog w) A (eval e env) (fun o s₁=>wpAny (model prog w) A (getAttr o f true) Q E s₁) E s):wpAny (model prog w) A (eval (.Attribute e f pos) env) Q E s :=
 Attribute_any_ h (by rw [arm_eval_Attribute,hb])
end
def zf6 (X:Cx) (op:Operator) (rd:V→V→Hp→VK→Prop):Prop :=
 ∀ (pins:List (Addr×Obj)) (s:Shared) (σ:St) (H:Hp) (x y:V) (u v:Value) (Q:VK),Inv X pins σ H s→zi x u→zi y v→rd x y H Q→wpAny (model X.prog X.w) X.A (inplaceOp op u v) (EP X pins σ Q) X.xe s
section
variable {X:Cx}{o e value:Expr}{f:Str}{pos pos' tpos:Pos}{ta tv:TE}
def zh4:V→V→Hp→VK→Prop:=fun x y H Q=>∃ i j,x = .int i∧y = .int j∧Q (.int (i+j)) H
def zhK:V→V→Hp→VK→Prop:=fun x y H Q=>∃ i j,x = .int i∧y = .int j∧Q (.int (i - j)) H
theorem zpV:zf6 X .Add zh4:=by
 rintro pins s σ H x y u v Q I rx ry ⟨i,j,rfl,rfl,q⟩
 obtain ⟨t,rfl⟩:=(show ∃ t,u=Value.int i t from rx)
 obtain ⟨t',rfl⟩:=(show ∃ t',v=Value.int j t' from ry)
 exact PyProof.Rows.iadd_int ⟨.int (i+j),H,I.tok _,⟨_,rfl⟩,q⟩
theorem zwq:zf6 X .Sub zhK:=by
 rintro pins s σ H x y u v Q I rx ry ⟨i,j,rfl,rfl,q⟩
 obtain ⟨t,rfl⟩:=(show ∃ t,u=Value.int i t from rx)
 obtain ⟨t',rfl⟩:=(show ∃ t',v=Value.int j t' from ry)
 exact PyProof.Rows.isub_int ⟨.int (i - j),H,I.tok _,⟨_,rfl⟩,q⟩
theorem zxu {pl:Sem Bool}{m:Str}{apos:Pos}{args:List Expr}{pins:List (Addr×Obj)}{s:Shared}{σ:St}{H:Hp}{Q:Value→Shared→Prop}{te:TE} (he:PE X e te) (I:Inv X pins σ H s)
  (h:te σ H fun x H1=>∃ a C dx fs g,x = .ref a∧H1 a=some (.ins C dx fs)∧Cls X.K C∧zcg X.K C m g∧fs.lookup m=none ∧
   ∀ s1,Inv X pins σ H1 s1→wpAny (model X.prog X.w) X.A (callWith pos (.ref g) [.ref a] (backTo pos (starEach args X.env)) (backToKw pos (keywordEach [] X.env))) Q X.xe s1)
  (ht:eval (.Call (.Attribute e m apos) args [] pos) X.env=(do
   let ov←eval e X.env
   standAt apos.atName
   let (f,first)←holding [ov] (getMethod ov m pl)
   callWith pos f first (backTo pos (starEach args X.env)) (backToKw pos (keywordEach [] X.env)))) :
  wpAny (model X.prog X.w) X.A (eval (.Call (.Attribute e m apos) args [] pos) X.env) Q X.xe s:=by
 refine PySem.W.methodCall_KW (pl:=pl) (thn (he pins s σ H _ I h) fun u s1 ⟨x,H1,I1,rx,a,C,dx,fs,g,ex,ea,c,k,l,q⟩=>?_) ht
 subst ex
 obtain rfl:u=Value.ref a:=rx
 exact zeq I1 ea c k l (q s1 I1)
end
section
variable {X:Cx}{pins:List (Addr×Obj)}{σ:St}{H:Hp}{s:Shared}{A:Around}{E:Value→Shared→Prop}{Q:Value→Shared→Prop}{c:Value}{b:Bool}
inductive zbc (K:PySem.W.Frag) (H:Hp):V→Value→Prop where
 | non:zbc K H .non (.type "NoneType")
 | bl (x:Bool):zbc K H (.bl x) (.type "bool")
 | int (i:Int):zbc K H (.int i) (.type "int")
 | str (x:Str):zbc K H (.str x) (.type "str")
 | flt (x:UInt64):zbc K H (.flt x) (.type "float")
 | lst {a:Addr}{xs:List V} (e:H a=some (.lst xs)):zbc K H (.ref a) (.type "list")
 | frz {a:Addr}{o:Obj}{xs:List V} (e:H a=some (.frz o (.lst xs))):zbc K H (.ref a) (.type "list")
 | tup {a:Addr}{xs:List V} (e:H a=some (.tup xs)):zbc K H (.ref a) (.type "tuple")
 | dK {a:Addr}{kvs:List (Key×V)} (e:H a=some (.dK kvs)):zbc K H (.ref a) (.type "dict")
 | dT {a:Addr}{kvs:List (List Key×V)} (e:H a=some (.dT kvs)):zbc K H (.ref a) (.type "dict")
 | ins {a C dx:Addr}{fs:List (Str×V)} (e:H a=some (.ins C dx fs)) (cl:Cls K C) (ha:PySem.W.findIn K (.ref C) "__class__"=some (some (.builtin "object.__class__")))
   (hn:PySem.W.specialIn K (.builtin "object.__class__") "__get__"=some (some (.builtin "getset_descriptor.__get__"))) (htk:PySem.W.takesIn K (.builtin "object.__class__")=some true)
   (hm:PySem.W.mroIn K C (.type "object")=some true):zbc K H (.ref a) (.ref C)
theorem zuh {x:V}{u t:Value} (I:Inv X pins σ H s) (rx:zi x u) (ty:zbc X.K H x t) (e:PySem.W.kitOne X.K t c=some b) (h:∀ tk,Q (.bool b) { s with toks:=tk }) :
  wpAny (model X.prog X.w) A (call (.builtin "isinstance") [u,c]) Q E s:=by
 cases ty with
 | non=>cases (show u=Value.none from rx);exact PySem.W.kia_one PySem.W.kitx_none I.kIn True.intro e (fun z=>nomatch z) h
 | bl y=>cases (show u=Value.bool y from rx);exact PySem.W.kia_one PySem.W.kitx_bool I.kIn True.intro e (fun z=>nomatch z) h
 | int i=>obtain ⟨t,q⟩:=(show ∃ t,u=Value.int i t from rx);cases q;exact PySem.W.kia_one PySem.W.kitx_int I.kIn True.intro e (fun z=>nomatch z) h
 | str y=>obtain ⟨t,q⟩:=(show ∃ t,u=Value.str y t from rx);cases q;exact PySem.W.kia_one PySem.W.kitx_str I.kIn True.intro e (fun z=>nomatch z) h
 | flt y=>obtain ⟨t,q⟩:=(show ∃ t,u=Value.float y t from rx);cases q;exact PySem.W.kia_one PySem.W.kitx_float I.kIn True.intro e (fun z=>nomatch z) h
 | @lst a xs ea =>
  cases (show u=Value.ref a from rx)
  obtain ⟨_,_,n,_,h1⟩:=(show zY X.prog X.w H s.heap a (.lst xs) from I.hok a _ ea)
  exact PySem.W.kia_one PySem.W.kitx_list I.kIn ⟨_,h1,rfl⟩ e (fun z=>nomatch z) h
 | @frz a ob xs ea =>
  cases (show u=Value.ref a from rx)
  obtain ⟨_,_,_,n,_,h1⟩:=(show zY X.prog X.w H s.heap a (.frz ob (.lst xs)) from I.hok a _ ea)
  exact PySem.W.kia_one PySem.W.kitx_list I.kIn ⟨_,h1,rfl⟩ e (fun z=>nomatch z) h
 | @tup a xs ea =>
  cases (show u=Value.ref a from rx)
  obtain ⟨_,_,_,p⟩:=(show zY X.prog X.w H s.heap a (.tup xs) from I.hok a _ ea)
  obtain ⟨o,h1,h2,_⟩:=p
  exact PySem.W.kia_one PySem.W.kitx_tuple I.kIn ⟨o,h1,h2⟩ e (fun z=>nomatch z) h
 | @dK a kvs ea =>
  cases (show u=Value.ref a from rx)
  obtain ⟨_,_,vs,_,p⟩:=(show zY X.prog X.w H s.heap a (.dK kvs) from I.hok a _ ea)
  obtain ⟨o,es,ep,h1,h2,_⟩:=p
  exact PySem.W.kia_one PySem.W.kitx_dict I.kIn ⟨o,h1,h2.1⟩ e (fun z=>nomatch z) h
 | @dT a kvs ea =>
  cases (show u=Value.ref a from rx)
  obtain ⟨_,_,xs,_,o,es,ep,h1,h2,_⟩:=(show zY X.prog X.w H s.heap a (.dT kvs) from I.hok a _ ea)
  exact PySem.W.kia_one PySem.W.kitx_dict I.kIn ⟨o,h1,h2.1⟩ e (fun z=>nomatch z) h
 | @ins a C dx fs ea cl ha hn htk hm =>
  cases (show u=Value.ref a from rx)
  obtain ⟨mA,O,_⟩:=zet I.hok ea
  obtain ⟨od,J,_⟩:=O.look
  exact PySem.W.kia_one (PySem.W.kitx_own (cl.get _) cl.hd ha hn htk hm) I.kIn J e (fun z=>nomatch z) h
end
end L2
namespace L2
open PySem PySem.Spec PyProof.Rows
structure zE (c:Bool) (k:Nat) (A:Around):Prop where
 hd:c=true→A.handled=none
 dp:A.depth+3*k+5<recursionLimit
 un:A.units+16*k+200<cLine
 gd:A.guards=some []
theorem zE.mono {c:Bool}{j k:Nat}{A:Around} (r:zE c k A) (h:j≤k):zE c j A:=⟨r.hd,by have:=r.dp;omega,by have:=r.un;omega,r.gd⟩
theorem zE.deeper {c:Bool}{k:Nat}{A:Around} (r:zE c (k+1) A) (env:Env):zE c k (A.deeper env) :=
 ⟨r.hd,by have:=r.dp;show A.depth+1+3*k+5<_;omega,by have:=r.un;show A.units+3+16*k+200<_;omega,by first|exact r.gd|simpa [Around.deeper,Around.under,Code.isGuard] using r.gd⟩
theorem zpF {A:Around}{C:Addr}{us:List Value}{kw:List (Str×Value)}:(A.under (.builtin "type.__call__" ⟨.ref C::us,kw⟩)).depth=A.depth+1:=by
 first|rfl|simp [Around.under,Code.weight,Code.isCreation,Code.isGuard,Code.isCaller,Code.frames,Code.isFrame,guardIds]
theorem zwL {A:Around}{C:Addr}{us:List Value}{kw:List (Str×Value)}:(A.under (.builtin "type.__call__" ⟨.ref C::us,kw⟩)).units=A.units+1:=by
 first|rfl|simp [Around.under,Code.cUnits,Code.frames,Code.isFrame]
theorem zE.make {c:Bool}{k:Nat}{A:Around} (r:zE c (k+1) A) (C:Addr) (us:List Value) (kw:List (Str×Value)):zE c k (A.under (.builtin "type.__call__" ⟨.ref C::us,kw⟩)) :=
 ⟨r.hd,by have:=r.dp;rw [zpF];omega,by have:=r.un;rw [zwL];omega,by first|exact r.gd|simpa [Around.under,Code.isGuard,guardIds] using r.gd⟩
theorem zE.depth {c:Bool}{k:Nat}{A:Around} (r:zE c k A):A.depth<recursionLimit:=by have:=r.dp;omega
theorem zE.units {c:Bool}{k:Nat}{A:Around} (r:zE c k A):A.units+64<cLine:=by have:=r.un;omega
def zbv:TA:=fun _ H Q=>Q [] H
def zel (ta:TE) (tr:TA):TA:=fun σ H Q=>ta σ H fun x H1=>tr σ H1 fun xs H2=>Q (x::xs) H2
section
variable {X:Cx}{e:Expr}{es:List Expr}{te:TE}{t:TA}{pos:Pos}
theorem zbF:PA X [] zbv:=fun _ _ _ _ H Q I h=>Calls.spliced_nil ⟨[],H,I,.nil,h⟩
theorem zbI (ha:PE X e te) (hr:PA X es t) (hs:starEach (e::es) X.env=(false,eval e X.env)::starEach es X.env:=by rfl):PA X (e::es) (zel te t):=by
 intro pos pins s σ H Q I h
 rw [hs]
 show wpAny _ _ (spliced ((false,eval e X.env)::backTo pos (starEach es X.env))) _ _ s
 refine Calls.spliced_cons (thn (ha pins s σ H _ I h) fun u s1 ⟨x,H1,I1,r1,q1⟩=>?_)
 exact thn (hr pos pins s1 σ H1 _ I1 q1) fun us s2 ⟨xs,H2,I2,r2,q2⟩=>⟨x::xs,H2,I2,.cons r1 r2,q2⟩
def zvQ (t:TA):TE:=fun σ H Q=>t σ H fun xs H1=>xs.length≤sizeLine∧∀ p,H1 p=none→Q (.ref p) (upd H1 p (.tup xs))
theorem znj {x1} (h:PA X es t):PE X (.Tuple es x1 pos) (zvQ t):=by
 intro pins s σ H Q I hq
 refine wpAny_Tuple_spliced (thn (h pos pins s σ H _ I hq) fun us s1 ⟨xs,H1,I1,r,z,q⟩=>⟨by rw [← r.length];exact z,?_⟩)
 have hf:H1 s1.heap.objs.size=none:=I1.hok.fresh (Nat.le_refl _)
 refine ⟨.ref s1.heap.objs.size,upd H1 s1.heap.objs.size (.tup xs),I1.laid (t':=s1.toks) (fun b u e=>Heap.get?_push_of_some _ e) (Nat.le_refl _) ?_,rfl,q _ hf⟩
 exact ⟨z,us,r,⟨_,Heap.get?_push_size _ rfl,rfl,_,rfl⟩⟩
end
abbrev Sp:=List V→Hp→VK→XK→Prop
abbrev CXT:=List Env→Hp→Shared→XK→Value→Shared→Prop
structure zc8 (P:Program) (w:World) (K:PySem.W.Frag) (mg:Str→Option Value) (base:Heap) (A:Around) (outer:List Env) (s:Shared) (H:Hp):Prop where
 frames:A.frames=some outer
 hdk:zeo A H
 mod:Mod K mg base
 bs:∀ b o,base.get? b=some o→s.heap.get? b=some o∧H b=none
 bsz:base.objs.size≤s.heap.objs.size
 funs:s.heap.FunFrames base outer
 frf:∀ b∈frs outer,H b=none
 hok:HOk P w H s.heap
 bare:AllBare s.gens
def CE (outer:List Env) (P:Program) (w:World) (H:Hp) (s:Shared) (Q:VK) (u:Value) (s':Shared):Prop :=
 ∃ v H',s'.os=s.os∧AllBare s'.gens∧Un (frs outer) [] H H' s.heap s'.heap∧HOk P w H' s'.heap∧zi v u∧Q v H'
def CR (CX:CXT) (outer:List Env) (P:Program) (w:World) (H:Hp) (s:Shared) (Q:VK) (E:XK) (r:Result) (s':Shared):Prop :=
 match r with
 | .ok (.ret u)=>CE outer P w H s Q u s'
 | .ok _=>False
 | .error e=>CX outer H s E e s'
structure zp (P:Program) (w:World) (K:PySem.W.Frag) (mg:Str→Option Value) (base:Heap) (CX:CXT) (c:Bool) (k:Nat) (f:Addr) (fd:FuncData) (ps:List Str) (sp:Sp):Prop where
 len:∀ vs H Q E,sp vs H Q E→vs.length=ps.length
 run:∀ (A:Around) (outer:List Env) (s:Shared) (H:Hp) (args:Args) (us:List Value) (vs:List V) (Q:VK) (E:XK),zE c k A→zc8 P w K mg base A outer s H→BindsTo s fd args (ps.zip us)→zk vs us→sp vs H Q E →
  codeAny (model P w) A (.call (.ref f) args) (CR CX outer P w H s Q E) s
theorem zc8.make {P:Program}{w:World}{K:PySem.W.Frag}{mg:Str→Option Value}{base:Heap}{A:Around}{outer:List Env}{s:Shared}{H:Hp} (e:zc8 P w K mg base A outer s H) (C:Addr) (us:List Value) (kw:List (Str×Value)) :
  zc8 P w K mg base (A.under (.builtin "type.__call__" ⟨.ref C::us,kw⟩)) outer s H:=⟨by first|exact e.frames|(simpa [Around.under,Code.envs,Code.isFrame,pushEnvs] using e.frames),e.hdk,e.mod,e.bs,e.bsz,e.funs,e.frf,e.hok,e.bare⟩
section
variable {X:Cx}{pins:List (Addr×Obj)}{σ:St}{H:Hp}{s s':Shared}
theorem Inv.env0 (I:Inv X pins σ H s):zc8 X.prog X.w X.K X.mg X.base X.A X.stack s H :=
 ⟨I.ok.frames,I.hdk,I.ok.mod,I.bs,Nat.le_trans I.ok.bsz I.sz,I.stack,I.stkFree,I.hok,I.bare⟩
theorem Inv.after {Q:VK}{u:Value} (I:Inv X pins σ H s) (h:CE X.stack X.prog X.w H s Q u s'):EP X pins σ Q u s':=by
 obtain ⟨v,H',os,bare,un,hok,r,q⟩:=h
 obtain ⟨hh,g,d,t,os'⟩:=s'
 obtain rfl:os'=s.os:=os
 exact ⟨v,H',I.call (h':=hh) (g':=g) (d':=d) (t':=t) (ch:=[]) un hok bare (fun b z=>absurd z (by simp)),r,q⟩
end
def zeJ (sp:Sp) (dvs:List V) (E:XK) (t:TA):TE:=fun σ H Q=>t σ H fun vs H1=>sp (vs++dvs) H1 Q E
def zcq (C:Addr) (m:Str) (sp:Sp) (dvs:List V) (E:XK) (ta:TE) (t:TA):TE:=fun σ H Q=>ta σ H fun x H1=>∃ a dx fs,x = .ref a∧H1 a=some (.ins C dx fs)∧fs.lookup m=none ∧
 t σ H1 fun vs H2=>sp (x::(vs++dvs)) H2 Q E
def zaM (K:PySem.W.Frag) (fd:FuncData) (ps:List Str) (ds:List Value):Prop :=
 ∀ (s:Shared) (us:List Value),K.In s.heap→(us++ds).length=ps.length→BindsTo s fd ⟨us,[]⟩ (ps.zip (us++ds))
theorem zaM.all {K:PySem.W.Frag}{fd:FuncData}{ps:List Str} (h:∀ us:List Value,us.length=ps.length→bindArgs fd ⟨us,[]⟩=pure (ps.zip us)):zaM K fd ps []:=fun s us _ hl=>by
 rw [List.append_nil] at hl ⊢
 exact .of_eq (h us hl)
def zez (CX:CXT) (X:Cx) (E:XK):Prop:=∀ (pins:List (Addr×Obj)) (σ:St) (H:Hp) (s:Shared) (e:Value) (s':Shared),Inv X pins σ H s→CX X.stack H s E e s'→X.xe e s'
section
variable {X:Cx}{CX:CXT}{cm:Bool}{k:Nat}{f C:Addr}{fd:FuncData}{ps:List Str}{sp:Sp}{dvs:List V}{ds:List Value}{E:XK}{x m:Str}{p pos apos:Pos}{e o:Expr}{es:List Expr}{ta:TE}{t:TA}
theorem zgv {pins:List (Addr×Obj)}{σ:St}{H:Hp}{s:Shared}{Q:VK}{us:List Value}{vs:List V} (F:zp X.prog X.w X.K X.mg X.base CX cm k f fd ps sp) (hr:zE cm k X.A) (hb:zaM X.K fd ps ds) (hd:zk dvs ds) (hx:zez CX X E)
  (I:Inv X pins σ H s) (r:zk vs us) (h:sp (vs++dvs) H Q E):wpAny (model X.prog X.w) X.A (call (.ref f) us) (EP X pins σ Q) X.xe s:=by
 have r2:zk (vs++dvs) (us++ds):=r.append hd
 have hl:(us++ds).length=ps.length:=by rw [← r2.length];exact F.len _ _ _ _ h
 refine wpAny_call (codeAny_mono (F.run X.A X.stack s H ⟨us,[]⟩ (us++ds) (vs++dvs) Q E hr I.env0 (hb s us I.kIn hl) r2 h) fun r s' hq=>?_)
 cases r with
 | error e=>exact hx pins σ H s e s' I hq
 | ok fl =>
  cases fl with
  | ret u=>exact I.after hq
  | next=>exact False.elim hq
  | brk=>exact False.elim hq
  | cont=>exact False.elim hq
theorem zwb (F:zp X.prog X.w X.K X.mg X.base CX cm k f fd ps sp) (hr:zE cm k X.A) (hg:Gl X x) (hm:X.mg x=some (.ref f)) (hk:PySem.W.keepIn X.K (.ref f)=true) (hb:zaM X.K fd ps ds) (hd:zk dvs ds) (hx:zez CX X E)
  (ha:PA X (e::es) t) (hdb:(x == ("__debug__":Str))=false:=by decide) (he:starEach (e::es) X.env=(false,eval e X.env)::starEach es X.env:=by rfl) (hpl:(backTo pos (starEach es X.env)).any (·.1)=false:=by rfl) :
  PE X (.Call (.Name x p) (e::es) [] pos) (zeJ sp dvs E t):=by
 intro pins s σ H Q I h
 refine wpAny_Call_Name_kw (zde I hg hm ?_ hdb)
 refine PySem.W.callWith_K (h₀:=X.base) I.ok.mod.kin hk (thn (ha pos pins s σ H _ I h) fun us s1 ⟨vs,H1,I1,r,q⟩=>⟨I1.kIn,?_⟩) he hpl
 exact zgv F hr hb hd hx I1 r q
theorem zog {pl:Sem Bool} (he:PE X o ta) (c:Cls X.K C) (hm:zcg X.K C m f) (F:zp X.prog X.w X.K X.mg X.base CX cm k f fd ps sp) (hr:zE cm k X.A) (hb:zaM X.K fd ps ds) (hd:zk dvs ds) (hx:zez CX X E) (ha:PA X (e::es) t)
  (hst:starEach (e::es) X.env=(false,eval e X.env)::starEach es X.env:=by rfl) (hpl:(backTo pos (starEach es X.env)).any (·.1)=false:=by rfl)
  (ht:eval (.Call (.Attribute o m apos) (e::es) [] pos) X.env=(do
   let ov←eval o X.env
   standAt apos.atName
   let (f,first)←holding [ov] (getMethod ov m pl)
   callWith pos f first (backTo pos (starEach (e::es) X.env)) (backToKw pos (keywordEach [] X.env))):=by rfl) :
  PE X (.Call (.Attribute o m apos) (e::es) [] pos) (zcq C m sp dvs E ta t):=by
 intro pins s σ H Q I h
 refine PySem.W.methodCall_KW (pl:=pl) (thn (he pins s σ H _ I h) fun u s1 ⟨x,H1,I1,rx,a,dx,fs,ex,ea,l,q⟩=>?_) ht
 subst ex
 obtain rfl:u=Value.ref a:=rx
 refine zeq I1 ea c hm l ?_
 refine PySem.W.callWith_K (first:=[.ref a]) (h₀:=X.base) I.ok.mod.kin hm.kp (thn (ha pos pins s1 σ H1 _ I1 q) fun us s2 ⟨vs,H2,I2,r,q2⟩=>⟨I2.kIn,?_⟩) hst hpl
 exact zgv (us:=.ref a::us) (vs:=.ref a::vs) F hr hb hd hx I2 (.cons rfl r) q2
theorem zp1 {pl:Sem Bool} (he:PE X o ta) (c:Cls X.K C) (hm:zcg X.K C m f) (F:zp X.prog X.w X.K X.mg X.base CX cm k f fd ps sp) (hr:zE cm k X.A) (hb:zaM X.K fd ps ds) (hd:zk dvs ds) (hx:zez CX X E)
  (ht:eval (.Call (.Attribute o m apos) [] [] pos) X.env=(do
   let ov←eval o X.env
   standAt apos.atName
   let (f,first)←holding [ov] (getMethod ov m pl)
   callWith pos f first (backTo pos (starEach [] X.env)) (backToKw pos (keywordEach [] X.env))):=by rfl) :
  PE X (.Call (.Attribute o m apos) [] [] pos) (zcq C m sp dvs E ta zbv):=by
 intro pins s σ H Q I h
 refine PySem.W.methodCall_KW (pl:=pl) (thn (he pins s σ H _ I h) fun u s1 ⟨x,H1,I1,rx,a,dx,fs,ex,ea,l,q⟩=>?_) ht
 subst ex
 obtain rfl:u=Value.ref a:=rx
 refine zeq I1 ea c hm l ?_
 exact PySem.W.callWith_K0 (first:=[.ref a]) I1.kIn hm.kp (zgv (us:=[.ref a]) (vs:=[.ref a]) F hr hb hd hx I1 (.cons rfl .nil) q)
structure Mk (K:PySem.W.Frag) (C f:Addr):Prop where
 makes:PySem.W.makesIn K C=true
 init:PySem.W.findIn K (.ref C) "__init__"=some (some (.ref f))
 fn:PySem.W.isFn K (.ref f)=true
 kp:PySem.W.keepIn K (.ref C)=true
end
section
variable {X:Cx}{CX:CXT}{cm:Bool}{k:Nat}{f C:Addr}{fd:FuncData}{ps ks:List Str}{sp:Sp}{E:XK}{x m:Str}{p pos apos kpos:Pos}{e o:Expr}{es:List Expr}{kws:List Keyword}{te ta:TE}{t tk:TA}{nm:Option Str}
variable {g:List Value→List Value→List Value}{gV:List V→List V→List V}
end
structure zz (N P:List Str) (sc:Scope):Prop where
 kind:sc.kind = .function
 co:sc.isCoroutine=false
 gen:sc.isGenerator=false
 nd:N.Nodup
 pre:N.take P.length=P
 par:∀ x∈P,sc.names.lookup x=some .local∨sc.names.lookup x=some .cell
 nofree:∀ y∈sc.names,y.2≠.free
theorem zkF {kindOf:Str→Option NameKind}{x:Str}:∀ {binds:List (Str×Value)}{m:Str→Option Value},(∀ v,(x,v)∉binds)→bindL kindOf binds m x=m x
 | [],_,_=>rfl
 | (n,v)::r,m,h=>by
  unfold bindL
  rw [zkF fun w hw=>h w (List.mem_cons_of_mem _ hw)]
  split
  ·have:x≠n:=by rintro rfl;exact h v List.mem_cons_self
   simp [this]
  ·rfl
theorem zlG {kindOf:Str→Option NameKind}{x:Str}:∀ {binds:List (Str×Value)}{m:Str→Option Value},(∀ v,(x,v)∉binds)→bindC kindOf binds m x=m x
 | [],_,_=>rfl
 | (n,v)::r,m,h=>by
  unfold bindC
  rw [zlG fun w hw=>h w (List.mem_cons_of_mem _ hw)]
  split
  ·rfl
  ·have:x≠n:=by rintro rfl;exact h v List.mem_cons_self
   simp [this]
theorem zi2 {kindOf:Str→Option NameKind}{x:Str}{v:Value}:∀ {P:List Str}{vs:List Value}{i:Nat}{m:Str→Option Value},P.Nodup→P[i]?=some x→vs[i]?=some v→kindOf x=some .local →
  bindL kindOf (P.zip vs) m x=some v
 | [],_,_,_,_,h,_,_=>by simp at h
 | _::_,[],_,_,_,_,h,_=>by simp at h
 | p::P,w::vs,0,m,nd,h1,h2,hk=>by
  simp at h1 h2;subst h1;subst h2
  show bindL kindOf ((p,w)::P.zip vs) m p=_
  unfold bindL
  rw [zkF fun v hv=>(List.nodup_cons.mp nd).1 (List.of_mem_zip hv).1,if_pos hk]
  simp
 | p::P,w::vs,i+1,m,nd,h1,h2,hk=>by
  show bindL kindOf ((p,w)::P.zip vs) m x=_
  unfold bindL
  exact zi2 (i:=i) (List.nodup_cons.mp nd).2 (by simpa using h1) (by simpa using h2) hk
theorem ziU {kindOf:Str→Option NameKind}{x:Str}{v:Value}:∀ {P:List Str}{vs:List Value}{i:Nat}{m:Str→Option Value},P.Nodup→P[i]?=some x→vs[i]?=some v→kindOf x≠some .local →
  bindC kindOf (P.zip vs) m x=some v
 | [],_,_,_,_,h,_,_=>by simp at h
 | _::_,[],_,_,_,_,h,_=>by simp at h
 | p::P,w::vs,0,m,nd,h1,h2,hk=>by
  simp at h1 h2;subst h1;subst h2
  show bindC kindOf ((p,w)::P.zip vs) m p=_
  unfold bindC
  rw [zlG fun v hv=>(List.nodup_cons.mp nd).1 (List.of_mem_zip hv).1,if_neg hk]
  simp
 | p::P,w::vs,i+1,m,nd,h1,h2,hk=>by
  show bindC kindOf ((p,w)::P.zip vs) m x=_
  unfold bindC
  exact ziU (i:=i) (List.nodup_cons.mp nd).2 (by simpa using h1) (by simpa using h2) hk
def start (N:List Str) (vs:List V):St:=vs.map some++List.replicate (N.length - vs.length) none
def zbe (CX:CXT) (cm:Bool) (P:Program) (w:World) (K:PySem.W.Frag) (mg:Str→Option Value) (base:Heap) (N:List Str) (qual:Str) (scope:Scope) (f:Addr) (cd:Value) (A:Around) (outer:List Env) (s:Shared) (H:Hp) (E:XK):Cx where
 prog:=P
 w:=w
 K:=K
 mg:=mg
 base:=base
 A:=A.deeper (envOfC qual scope s.heap.objs.size f cd)
 N:=N
 s₀:=s
 H₀:=H
 env:=envOfC qual scope s.heap.objs.size f cd
 outer:=outer
 stack:=envOfC qual scope s.heap.objs.size f cd::outer
 ex:=[]
 calm:=cm
 fn:=fun _=>true
 pn:=[]
 xe:=fun e s'=>wpAny (model P w) (A.deeper (envOfC qual scope s.heap.objs.size f cd)) (leaving (envOfC qual scope s.heap.objs.size f cd) e) (fun _ s''=>CX outer H s E e s'') (fun e' s''=>CX outer H s E e' s'') s'
theorem zlS {sc:Scope}{n:Nat}{x:Str} (h:sc.names.lookup x=some .cell):∃ c,(cellsFrom n sc.names []).lookup x=some c:=by
 have q:=PySem.W.cellsFrom_some sc.names n [] (.inl h)
 exact Option.isSome_iff_exists.mp q
theorem zwf {CX:CXT}{cm:Bool}{P:Program}{w:World}{K:PySem.W.Frag}{mg:Str→Option Value}{base:Heap}{N ps:List Str}{qual:Str}{scope:Scope}{f:Addr}{cd:Value}{A:Around}{outer:List Env}{s s1:Shared}{H:Hp}{E:XK}{us:List Value}{vs:List V}
  (S:zz N ps scope) (hd:cm=true→A.handled=none) (e0:zc8 P w K mg base A outer s H) (hl:vs.length=ps.length) (r:zk vs us)
  (x:InCallC s s.heap.objs.size (bindL (envOfC qual scope s.heap.objs.size f cd).kindOf (ps.zip us) fun _=>none) (cellsFrom (s.heap.objs.size+1) scope.names []) (bindC (envOfC qual scope s.heap.objs.size f cd).kindOf (ps.zip us) fun _=>none) s1) :
  Inv (zbe CX cm P w K mg base N qual scope f cd A outer s H E) [] (start N vs) H s1:=by
 have hpl:ps.length≤N.length:=by have:=congrArg List.length S.pre;rw [List.length_take] at this;omega
 obtain ⟨h1,tk,rfl,hk⟩:=x.done
 have noA:∀ b:Addr,b∉(zbe CX cm P w K mg base N qual scope f cd A outer s H E).ex:=fun b z=>absurd (show b∈([]:List Addr) from z) (by simp)
 refine ⟨⟨e0.mod,S.kind,rfl,rfl,Nat.le_refl _,fun y z c h1 h2=>?_,fun y hy=>?_,fun y c _ h=>?_,hd,Around.frames_deeper e0.frames,.inr ⟨rfl,rfl⟩,fun b z=>absurd z (noA b),e0.bs,e0.bsz,fun b _ _=>noA b,fun b z=>absurd z (noA b),e0.funs,e0.frf⟩,
  rfl,e0.bare,Un.kept hk,⟨_,x.toInCall.ns,fun i y v h1 h2 h3=>?_⟩,fun y c h=>⟨_,x.cell y c h⟩,e0.hok.fresh (Nat.le_refl _),fun y c h=>?_,fun p hp=>absurd (show p∈([]:List (Addr×Obj)) from hp) (by simp),e0.hok.kept hk,?_,e0.hdk⟩
 ·exact name_of_addr x.apart (PySem.mem_of_lookup h1) (PySem.mem_of_lookup h2)
 ·have hy:scope.names.lookup y=some .cell∨scope.names.lookup y=some .free:=hy
  rcases hy with hy|hy
  ·exact zlS hy
  ·exact absurd rfl (S.nofree _ (PySem.mem_of_lookup hy))
 ·exact Nat.le_of_lt (x.above y c (PySem.mem_of_lookup h))
 ·have hi:i<vs.length:=by
   unfold start at h2
   by_cases hi:i<vs.length
   ·exact hi
   ·rw [List.getElem?_append_right (by simpa using hi)] at h2
    rw [List.getElem?_replicate] at h2
    split at h2 <;> cases h2
  have ha:vs[i]?=some v:=by
   unfold start at h2
   rw [List.getElem?_append_left (by simpa using hi),List.getElem?_map] at h2
   cases e:vs[i]? with
   | none=>rw [e] at h2;cases h2
   | some a=>rw [e] at h2;cases h2;rfl
  obtain ⟨u,hu,rv⟩:=r.get ha
  have hp:ps[i]?=some y:=by
   rw [← S.pre,List.getElem?_take_of_lt (by omega)];exact h1
  have ndP:ps.Nodup:=by rw [← S.pre];exact S.nd.sublist (List.take_sublist _ _)
  refine ⟨u,rv,?_⟩
  rcases S.par y (List.mem_of_getElem? hp) with k|k
  ·exact .inl ⟨k,zi2 ndP hp hu k⟩
  ·obtain ⟨c,e⟩:=zlS (n:=s.heap.objs.size+1) k
   refine .inr ⟨.inl k,c,e,?_⟩
   have q:=x.cell y c e
   rw [ziU ndP hp hu (by show scope.names.lookup y≠_;rw [k];decide)] at q
   exact q
 ·exact e0.hok.fresh (Nat.le_of_lt (x.above y c (PySem.mem_of_lookup h)))
 ·unfold start
  show _=N.length
  rw [List.length_append,List.length_map,List.length_replicate]
  omega
theorem zh6 {CX:CXT}{cm:Bool}{P:Program}{w:World}{K:PySem.W.Frag}{mg:Str→Option Value}{base:Heap}{k:Nat}{f:Addr}{name qual:Str}{params:Arguments}{body:List Stmt}{scope:Scope}{dV kV doc pm cdv ct oc:Value}{an od:Option Addr}
  {osl:Array (Option Value)}{N ps:List Str}{sp:Sp} (lk:K.lookup f=some ⟨oc,od,.func (PySem.W.fnOf name qual params body scope dV kV doc pm an cdv ct),osl⟩) (hcd:PySem.W.codeIn K cdv qual=true) (S:zz N ps scope)
  (len:∀ vs H Q E,sp vs H Q E→vs.length=ps.length)
  (hbody:∀ (A:Around) (outer:List Env) (s:Shared) (H:Hp) (vs:List V) (Q:VK) (E:XK),zE cm k (A.deeper (envOfC qual scope s.heap.objs.size f cdv))→sp vs H Q E →
   ∃ t,PSs (zbe CX cm P w K mg base N qual scope f cdv A outer s H E) body t∧t { nx:=fun _ H'=>Q .non H',rt:=Q } (start N vs) H) :
  zp P w K mg base CX cm (k+1) f (PySem.W.fnOf name qual params body scope dV kV doc pm an cdv ct) ps sp:=by
 refine ⟨len,fun A outer s H args us vs Q E hr e0 hb r hsp=>?_⟩
 have hl:=len _ _ _ _ hsp
 have KX:K.In s.heap:=e0.mod.kin.keeps fun b o e=>(e0.bs b o e).1
 have lim:s.heap.NoLimit:=e0.mod.nolimit.keeps fun b o e=>(e0.bs b o e).1
 have hkind:∀ y∈ps.zip us,scope.names.lookup y.1=some .local∨(scope.names.lookup y.1=some .cell∧((cellsFrom (s.heap.objs.size+1) scope.names []).lookup y.1).isSome=true):=fun ⟨n,v⟩ hy=>by
  rcases S.par n (List.of_mem_zip hy).1 with q|q
  ·exact .inl q
  ·exact .inr ⟨q,PySem.W.cellsFrom_some _ _ _ (.inl q)⟩
 refine codeAny_call_function hr.depth (KX _ _ lk) rfl S.co S.gen rfl (PySem.W.codeRec_of KX hcd) (hb _ _ _ _ ?_)
 refine wpAny_newFunctionEnv_cells S.kind hkind fun env he s1 x=>?_
 subst he
 refine ⟨lim.keeps x.toInCall.keep,codeAny_func ?_⟩
 obtain ⟨t,ht,hq⟩:=hbody A outer s H vs Q E (hr.deeper _) hsp
 have I:Inv (zbe CX cm P w K mg base N qual scope f cdv A outer s H E) [] (start N vs) H s1:=zwf S hr.hd e0 hl r x
 refine wpAny_mono (ht [] s1 (start N vs) H _ I hq) (fun fl s' hs=>?_) fun e s' hs=>hs
 have fin:∀ {σ':St}{H':Hp}{v:V}{u:Value},Inv (zbe CX cm P w K mg base N qual scope f cdv A outer s H E) [] σ' H' s'→zi v u→Q v H'→CE outer P w H s Q u s' :=
  fun {σ' H' v u} J rv q=>⟨v,H',J.os,J.bare,J.base,J.hok,rv,q⟩
 cases fl with
 | ret u =>
  obtain ⟨v,σ',H',J,rv,q⟩:=hs
  exact fin J rv q
 | next =>
  obtain ⟨σ',H',J,q⟩:=hs
  exact fin (v:=V.non) (u:=Value.none) J rfl q
 | brk =>
  obtain ⟨_,_,_,q⟩:=hs
  exact False.elim q
 | cont =>
  obtain ⟨_,_,_,q⟩:=hs
  exact False.elim q
end L2
namespace L2
open PySem PySem.Spec PyProof.Rows
section
variable {X:Cx}{x:Str}{p pos:Pos}{e:Expr}{es:List Expr}{t:TA}{id T:String}{r:List V→Hp→VK→Prop}
def tCB (r:List V→Hp→VK→Prop) (t:TA):TE:=fun σ H Q=>t σ H fun vs H1=>r vs H1 Q
theorem zlz (hc:zJ X (.builtin id) r) (hg:Gl X x) (hm:X.mg x=none) (hv:bootBuiltins x=some (.builtin id)) (ha:PA X (e::es) t) (hn:x≠"__name__":=by decide) (hdb:(x == ("__debug__":Str))=false:=by decide)
  (he:starEach (e::es) X.env=(false,eval e X.env)::starEach es X.env:=by rfl) (hpl:(backTo pos (starEach es X.env)).any (·.1)=false:=by rfl):PE X (.Call (.Name x p) (e::es) [] pos) (tCB r t):=by
 intro pins s σ H Q I h
 refine wpAny_Call_Name_kw (zbQ I hg hm hv ?_ hn hdb)
 exact PyProof.Rows.callWith_builtin1 (thn (ha pos pins s σ H _ I h) fun us s1 ⟨vs,H1,I1,r1,q1⟩=>hc pins s1 σ H1 vs us Q I1 r1 q1) he hpl
theorem zmF (hc:zJ X (.type T) r) (hg:Gl X x) (hm:X.mg x=none) (hv:bootBuiltins x=some (.type T)) (ha:PA X (e::es) t) (hn:x≠"__name__":=by decide) (hdb:(x == ("__debug__":Str))=false:=by decide)
  (he:starEach (e::es) X.env=(false,eval e X.env)::starEach es X.env:=by rfl) (hpl:(backTo pos (starEach es X.env)).any (·.1)=false:=by rfl):PE X (.Call (.Name x p) (e::es) [] pos) (tCB r t):=by
 intro pins s σ H Q I h
 refine wpAny_Call_Name_kw (zbQ I hg hm hv ?_ hn hdb)
 exact PyProof.Rows.callWith_type1 (thn (ha pos pins s σ H _ I h) fun us s1 ⟨vs,H1,I1,r1,q1⟩=>hc pins s1 σ H1 vs us Q I1 r1 q1) he hpl
end
end L2
namespace HT
open PySem PyProof.Rows
section
open PySem.SeqAt
open PySem.AutoSeq1 (wpAny_loadPart')
open PySem.MeetsSeq PySem.MeetsSeq2 PySem.MeetsSeq3
end
section
variable {prog:Program}{w:World}{A:Around}{E:Value→Shared→Prop}{s:Shared}
def sIx (n d:Nat):Option Int→Nat
 | none=>d
 | some v=>if v<0 then (v+(n:Int)).toNat else min v.toNat n
theorem sIx_none (n d:Nat):sIx n d none=d:=rfl
theorem sIx_nat (n d k:Nat):sIx n d (some (k:Int))=min k n:=by
 show (if (k:Int)<0 then ((k:Int)+(n:Int)).toNat else min (k:Int).toNat n)=min k n
 rw [if_neg (by omega),Int.toNat_natCast]
end
end HT
namespace L2
open PySem PySem.Spec PyProof.Rows
abbrev TO:=St→Hp→(Option Int→Hp→Prop)→Prop
def PO (X:Cx) (e:Option Expr) (t:TO):Prop :=
 ∀ (pins:List (Addr×Obj)) (s:Shared) (σ:St) (H:Hp) (Q:Option Int→Hp→Prop),Inv X pins σ H s→t σ H Q →
  wpAny (model X.prog X.w) X.A (evalPart e X.env) (fun u s'=>∃ o H',Inv X pins σ H' s'∧IsPart u o∧Q o H') X.xe s
def ziF:TO:=fun _ H Q=>Q none H
def ziI (t:TE):TO:=fun σ H Q=>t σ H fun x H1=>∃ i,x = .int i∧Q (some i) H1
section
variable {X:Cx}{e:Expr}{te:TE}{lo hi:Option Expr}{tl th:TO}{pos p2:Pos}
theorem zu0:PO X none ziF:=by
 intro pins s σ H Q I h
 rw [evalPart_none]
 exact wpAny_pure ⟨none,H,I,.none,h⟩
theorem zsi (h:PE X e te):PO X (some e) (ziI te):=by
 intro pins s σ H Q I hw
 rw [evalPart_some]
 refine thn (h pins s σ H _ I hw) fun u s1 ⟨x,H1,I1,r1,q1⟩=>?_
 obtain ⟨i,rfl,q⟩:=q1
 obtain ⟨t,rfl⟩:=r1
 exact ⟨some i,H1,I1,.int i t,q⟩
def SlR (X:Cx) (r:V→Option Int→Option Int→Hp→VK→Prop):Prop :=
 ∀ (pins:List (Addr×Obj)) (s:Shared) (σ:St) (H:Hp) (x:V) (v vl vu:Value) (lo hi:Option Int) (sl:Addr) (Q:VK),Inv X pins σ H s→zi x v→s.heap.IsSliceOf sl vl vu .none→IsPart vl lo→IsPart vu hi→r x lo hi H Q →
  ∃ T id,typeLookup (.type T) "__getitem__"=pure (some (.builtin id))∧s.TypeIs v T∧wpAny (model X.prog X.w) X.A (getItem v (.ref sl)) (EP X pins σ Q) X.xe s
theorem SlR.or {r r':V→Option Int→Option Int→Hp→VK→Prop} (h:SlR X r) (h':SlR X r'):SlR X (fun x lo hi H Q=>r x lo hi H Q∨r' x lo hi H Q):=by
 intro pins s σ H x v vl vu lo hi sl Q I rx hs pl pu q
 rcases q with q|q
 ·exact h pins s σ H x v vl vu lo hi sl Q I rx hs pl pu q
 ·exact h' pins s σ H x v vl vu lo hi sl Q I rx hs pl pu q
def tSl (r:V→Option Int→Option Int→Hp→VK→Prop) (te:TE) (tl th:TO):TE:=fun σ H Q=>te σ H fun x H1=>tl σ H1 fun l H2=>th σ H2 fun u H3=>r x l u H3 Q
theorem zmP {r:V→Option Int→Option Int→Hp→VK→Prop} (hr:SlR X r) (he:PE X e te) (hl:PO X lo tl) (hu:PO X hi th):PE X (.Subscript e (.Slice lo hi none p2) pos) (tSl r te tl th):=by
 intro pins s σ H Q I h
 refine Subscript_ (thn (he pins s σ H _ I h) fun v s1 ⟨x,H1,I1,r1,q1⟩=>?_)
 refine wpAny_Slice (thn (hl pins s1 σ H1 _ I1 q1) fun vl s2 ⟨l,H2,I2,pl,q2⟩=>thn (hu pins s2 σ H2 _ I2 q2) fun vu s3 ⟨u,H3,I3,pu,q3⟩=>?_)
 rw [evalPart_none]
 refine wpAny_pure ?_
 have I4:Inv X pins σ H3 { s3 with heap:=s3.heap.push { cls:=.type "slice",data:=.fields #[vl,vu,.none] } }:=I3.kept (t':=s3.toks) fun b ob q=>Heap.get?_push_of_some _ q
 obtain ⟨T,id,hT,ht,hg⟩:=hr pins { s3 with heap:=s3.heap.push { cls:=.type "slice",data:=.fields #[vl,vu,.none] } } σ H3 x v vl vu l u s3.heap.objs.size Q I4 r1 (Heap.IsSliceOf.new ..) pl pu q3
 show wpAny (model X.prog X.w) X.A (subscriptTail e (.Slice lo hi none p2) v (.ref s3.heap.objs.size)) (EP X pins σ Q) X.xe { s3 with heap:=s3.heap.push { cls:=.type "slice",data:=.fields #[vl,vu,.none] } }
 exact tail_any (ops:=[.ref s3.heap.objs.size,v]) ht hT hg (by with_unfolding_all rfl)
def za7 (xs:List V) (lo hi:Option Int):List V:=(xs.drop (HT.sIx xs.length 0 lo)).take (HT.sIx xs.length xs.length hi - HT.sIx xs.length 0 lo)
theorem zqg (xs:List V) (lo hi:Option Int):(za7 xs lo hi).length≤xs.length:=by
 unfold za7
 rw [List.length_take,List.length_drop]
 omega
end
end L2
namespace L2
open PySem PySem.Spec PyProof.Rows
def ixN (n:Nat) (i:Int):Option Nat:=if 0≤i then (if i<n then some i.toNat else none) else if -(n:Int)≤i then some (i+n).toNat else none
def atI {α:Type} (xs:List α) (i:Int):Option α:=(ixN xs.length i).bind fun j=>xs[j]?
theorem zjn {n:Nat}{i:Int}{j:Nat} (h:ixN n i=some j):seqIndex? i n=some j∧j<n∧-(n:Int)≤i∧i<n:=by
 unfold ixN at h
 by_cases h0:0≤i
 ·rw [if_pos h0] at h
  by_cases h1:i<n
  ·rw [if_pos h1] at h
   have e:i.toNat=j:=Option.some.inj h
   exact ⟨by rw [seqIndex_of h0 h1,e],by omega,by omega,h1⟩
  ·rw [if_neg h1] at h;cases h
 ·rw [if_neg h0] at h
  by_cases h1 : -(n:Int)≤i
  ·rw [if_pos h1] at h
   have e:(i+n).toNat=j:=Option.some.inj h
   exact ⟨by rw [seqIndex_neg (by omega) h1,e],by omega,h1,by omega⟩
  ·rw [if_neg h1] at h;cases h
theorem zgy {α:Type}{xs:List α}{i:Int}{v:α} (h:atI xs i=some v):∃ j,seqIndex? i xs.length=some j∧xs[j]?=some v∧j<xs.length∧-(xs.length:Int)≤i∧i<xs.length:=by
 unfold atI at h
 cases e:ixN xs.length i with
 | none=>rw [e] at h;cases h
 | some j =>
  rw [e] at h
  obtain ⟨h1,h2,h3,h4⟩:=zjn e
  exact ⟨j,h1,h,h2,h3,h4⟩
theorem zaU {α:Type}{xs:List α}{j:Nat}{v:α} (h:xs[j]?=some v):atI xs (j:Int)=some v:=by
 have hj:j<xs.length:=(List.getElem?_eq_some_iff.mp h).1
 have e:ixN xs.length (j:Int)=some j:=by
  unfold ixN
  rw [if_pos (by omega),if_pos (by omega)];simp
 unfold atI;rw [e];exact h
theorem zjp {α:Type} (xs:List α) (v:α):atI (xs++[v]) (-1)=some v:=by
 have hl:(xs++[v]).length=xs.length+1:=by simp
 have e:ixN (xs++[v]).length (-1)=some xs.length:=by
  unfold ixN
  rw [hl,if_neg (by decide),if_pos (by omega)]
  congr 1
  omega
 unfold atI
 rw [e]
 show (xs++[v])[xs.length]?=some v
 simp
def zl9 (b:Expr):Prop:=∀ o i,subscripted b false o i=operate [o,i] (getItem o i)
def IxR (X:Cx) (r:R2):Prop :=
 ∀ (value slice:Expr) (pins:List (Addr×Obj)) (s:Shared) (σ:St) (H:Hp) (x y:V) (v u:Value) (Q:VK),Inv X pins σ H s→zi x v→zi y u→r x y H Q →
  subscripted slice false v u=operate [v,u] (getItem v u)→wpAny (model X.prog X.w) X.A (subscriptTail value slice v u) (EP X pins σ Q) X.xe s
def MtR (X:Cx) (id:String) (r:V→List V→Hp→VK→Prop):Prop :=
 ∀ (pins:List (Addr×Obj)) (s:Shared) (σ:St) (H:Hp) (x:V) (xs:List V) (v:Value) (us:List Value) (Q:VK),Inv X pins σ H s→zi x v→zk xs us→r x xs H Q →
  wpAny (model X.prog X.w) X.A (call (.builtin id) (v::us)) (EP X pins σ Q) X.xe s
section
variable {X:Cx}{a b:Expr}{ta tb:TE}{pos:Pos}
theorem IxR.or {r r':R2} (h:IxR X r) (h':IxR X r'):IxR X (fun x y H Q=>r x y H Q∨r' x y H Q):=by
 intro value slice pins s σ H x y v u Q I rx ry q hs
 rcases q with q|q
 ·exact h value slice pins s σ H x y v u Q I rx ry q hs
 ·exact h' value slice pins s σ H x y v u Q I rx ry q hs
theorem zj9 {r:R2} (hr:IxR X r) (ha:PE X a ta) (hb:PE X b tb) (hs:zl9 b):PE X (.Subscript a b pos) (tOp r ta tb):=by
 intro pins s σ H Q I h
 exact Subscript_ (zia ha hb I h fun v u s2 x y H2 I2 rx ry q=>hr a b pins s2 σ H2 x y v u Q I2 rx ry q (hs _ _))
def zi8 (K:PySem.W.Frag):R2:=fun x y H Q=>∃ p xs i v,x = .ref p∧y = .int i∧SqL K H p xs∧atI xs i=some v∧Q v H
def zl3 (K:PySem.W.Frag):R2:=fun x y H Q=>∃ p xs i v,x = .ref p∧y = .int i∧SqT K H p xs∧atI xs i=some v∧Q v H
def zi6:R2:=fun x y H Q=>∃ z i c,x = .str z∧y = .int i∧z.length≤sizeLine∧atI z.cps.toList i=some c∧Q (.str ⟨#[c]⟩) H
theorem zkh:IxR X (zi8 X.K):=by
 intro value slice pins s σ H x y v u Q I rx ry h hs
 obtain ⟨p,xs,i,z,rfl,rfl,hq,he,q⟩:=h
 cases rx
 obtain ⟨t,rfl⟩:=ry
 obtain ⟨its,r,pl,hz⟩:=I.list hq
 obtain ⟨j,h1,h2,h3,h4,h5⟩:=zgy he
 obtain ⟨w,ew,rw'⟩:=r.get h2
 have hl:=r.length
 have hn:=zcW
 have fin:EP X pins σ Q w s:=⟨z,H,I,rw',q⟩
 by_cases h0:0≤i
 ·have hj:i.toNat=j:=by
   rw [seqIndex_of h0 h5] at h1
   exact Option.some.inj h1
  exact item_listR pl.isList h0 (by omega) (by rw [hj];simpa using ew) fin hs
 ·have hj:(i+(its.toArray.size:Int)).toNat=j:=by
   rw [seqIndex_neg (by omega) h4] at h1
   rw [List.size_toArray,← hl]
   exact Option.some.inj h1
  exact subscriptTail_builtinR (x:=w) pl.isList.typeIs slot_list_getitem.lookup
   (wpAny_getItem_list_neg (Q:=fun r s'=>r=w∧EP X pins σ Q r s') pl.isList (by omega) (by rw [List.size_toArray] <;> omega) (by omega) (by rw [hj];simpa using ew) ⟨rfl,fin⟩) hs
theorem zo5:IxR X (zl3 X.K):=by
 intro value slice pins s σ H x y v u Q I rx ry h hs
 obtain ⟨p,xs,i,z,rfl,rfl,hq,he,q⟩:=h
 cases rx
 obtain ⟨t,rfl⟩:=ry
 obtain ⟨its,r,pl,hz⟩:=I.tuple hq
 obtain ⟨j,h1,h2,h3,h4,h5⟩:=zgy he
 obtain ⟨w,ew,rw'⟩:=r.get h2
 have hl:=r.length
 have hn:=zcW
 have fin:EP X pins σ Q w s:=⟨z,H,I,rw',q⟩
 exact subscriptTail_builtinR (x:=w) pl.typeIs slot_tuple_getitem.lookup
  (getItem_tuple (j:=j) (Q:=fun r s'=>r=w∧EP X pins σ Q r s') pl (by omega) (by omega) (by rw [List.size_toArray,← hl];exact h1) (by simpa using ew) ⟨rfl,fin⟩) hs
theorem zw9:IxR X zi6:=by
 intro value slice pins s σ H x y v u Q I rx ry h hs
 obtain ⟨z,i,c,rfl,rfl,hz,he,q⟩:=h
 obtain ⟨t,rfl⟩:=rx
 obtain ⟨t',rfl⟩:=ry
 obtain ⟨j,h1,h2,h3,h4,h5⟩:=zgy he
 have hl:z.cps.toList.length=z.length:=by simp [Str.length]
 rw [hl] at h1 h4 h5
 have hn:=zcW
 exact tail_any (typeIs_str s z t) slot_str_getitem.lookup (getItem_str (c:=c) (by
  have e1:decide (i < -(2 ^ 63:Int))=false:=decide_eq_false (by omega)
  have e2:decide (i ≥ 2 ^ 63)=false:=decide_eq_false (by omega)
  rw [e1,e2,Bool.or_false]) (by rw [h1];simpa using h2) ⟨.str ⟨#[c]⟩,H,I.tok _,⟨_,rfl⟩,q⟩) hs
def rIx (K:PySem.W.Frag):R2:=fun x y H Q=>zi8 K x y H Q∨zl3 K x y H Q∨zi6 x y H Q
theorem zrm:IxR X (rIx X.K):=zkh.or (zo5.or zw9)
theorem ztB (its:List Value) (n j:Nat) (u:Value):Obj.mapSeq (·.setIfInBounds j u) { cls:=.type "list",data:=.seq its.toArray n }={ cls:=.type "list",data:=.seq (its.set j u).toArray n }:=by
 simp [Obj.mapSeq]
theorem Inv.lst {pins:List (Addr×Obj)}{σ:St}{H:Hp}{s:Shared}{p:Addr}{xs:List V} (I:Inv X pins σ H s) (h:H p=some (.lst xs)) :
  ∃ (its:List Value) (n:Nat),zk xs its∧s.heap.get? p=some { cls:=.type "list",data:=.seq its.toArray n }∧xs.length≤sizeLine:=by
 obtain ⟨z,its,n,r,e⟩:=I.hok p _ h
 exact ⟨its,n,r,e,z⟩
theorem Inv.lstUpd {pins:List (Addr×Obj)}{σ:St}{H:Hp}{s:Shared}{p:Addr}{xs ys:List V}{its its':List Value}{n n':Nat}{f:Obj→Obj} (I:Inv X pins σ H s) (h:H p=some (.lst xs))
  (ho:s.heap.get? p=some { cls:=.type "list",data:=.seq its.toArray n }) (hf:f { cls:=.type "list",data:=.seq its.toArray n }={ cls:=.type "list",data:=.seq its'.toArray n' }) (r:zk ys its') (hz:ys.length≤sizeLine) (t:Nat) :
  Inv X pins σ (upd H p (.lst ys)) { s with heap:=s.heap.update p f,toks:=t }:=by
 have e:(s.heap.update p f).get? p=some { cls:=.type "list",data:=.seq its'.toArray n' }:=by
  rw [Heap.get?_update_self f ho (by rw [hf] <;> rfl),hf]
 refine I.write (x:=p) (e:=p) (by rw [h];trivial) (.inl rfl) (fun b u hb q=>(Heap.get?_update_other _ _ (Ne.symm hb)).trans q) ⟨_,e⟩ ?_
 exact ⟨hz,its',n',r,e⟩
def zhu:V→V→V→Hp→(Hp→Prop)→Prop:=fun o i v H Q=>∃ p xs k j,o = .ref p∧i = .int k∧H p=some (.lst xs)∧ixN xs.length k=some j∧Q (upd H p (.lst (xs.set j v)))
theorem zem:ziv X zhu:=by
 intro pins s σ H o i v ov iv u Q I ro ri rv h
 obtain ⟨p,xs,k,j,rfl,rfl,hp,hj,q⟩:=h
 cases ro
 obtain ⟨t,rfl⟩:=ri
 obtain ⟨its,n,r,ho,hz⟩:=I.lst hp
 obtain ⟨h1,h2,h3,h4⟩:=zjn hj
 have hl:=r.length
 have hn:=zcW
 have I':Inv X pins σ (upd H p (.lst (xs.set j v))) { s with heap:=s.heap.update p (Obj.mapSeq (·.setIfInBounds j u)) } :=
  I.lstUpd hp ho (ztB its n j u) (r.set rv j) (by rw [List.length_set];exact hz) s.toks
 by_cases h0:0≤k
 ·have hk:k.toNat=j:=by
   rw [seqIndex_of h0 h4] at h1
   exact Option.some.inj h1
  exact PySem.W.ki_setAt ho h0 (by omega) (by rw [List.size_toArray,← hl];exact h4) (by rw [hk];exact ⟨_,I',q⟩)
 ·have hk:(k+(its.toArray.size:Int)).toNat=j:=by
   rw [seqIndex_neg (by omega) h3] at h1
   rw [List.size_toArray,← hl]
   exact Option.some.inj h1
  exact PySem.W.ki_setBack ho (by omega) (by rw [List.size_toArray,← hl];exact h3) (by omega) (by rw [hk];exact ⟨_,I',q⟩)
theorem zuY (lo hi:Option Int) (n:Nat):(sliceBounds lo hi none n).1=((HT.sIx n 0 lo:Nat):Int)∧(sliceBounds lo hi none n).2.1=((HT.sIx n n hi:Nat):Int)∧(sliceBounds lo hi none n).2.2=1:=by
 refine ⟨?_,?_,rfl⟩
 ·cases lo with
  | none=>simp [sliceBounds,HT.sIx]
  | some i =>
   simp only [sliceBounds,HT.sIx,Option.getD_none,show (1:Int)>0 by decide,if_true]
   by_cases h:i<0
   ·simp only [h,if_true] <;> omega
   ·simp only [h,if_false] <;> omega
 ·cases hi with
  | none=>simp [sliceBounds,HT.sIx]
  | some i =>
   simp only [sliceBounds,HT.sIx,Option.getD_none,show (1:Int)>0 by decide,if_true]
   by_cases h:i<0
   ·simp only [h,if_true] <;> omega
   ·simp only [h,if_false] <;> omega
theorem zs6 (its:List Value) (lo hi:Option Int):slicePick its.toArray lo hi none=((its.drop (HT.sIx its.length 0 lo)).take (HT.sIx its.length its.length hi - HT.sIx its.length 0 lo)).toArray:=by
 obtain ⟨h1,h2,h3⟩:=zuY lo hi its.toArray.size
 unfold slicePick
 rw [h1,h2,h3]
 simp only [sliceRange_one,pick_run,List.size_toArray] <;> rfl
def zuA (K:PySem.W.Frag):V→Option Int→Option Int→Hp→VK→Prop:=fun x lo hi H Q=>∃ a xs,x = .ref a∧SqL K H a xs∧∀ p,H p=none→Q (.ref p) (upd H p (.lst (za7 xs lo hi)))
theorem znf:SlR X (zuA X.K):=by
 intro pins s σ H x v vl vu lo hi sl Q I rx hs pl pu h
 obtain ⟨a,xs,rfl,hx,q⟩:=h
 cases rx
 obtain ⟨its,r,ht,hz⟩:=I.list hx
 have hlen:=r.length
 refine ⟨"list",_,slot_list_getitem.lookup,ht.isList.typeIs,?_⟩
 refine wpAny_getItem_list_slice ht.isList hs pl pu .none (by simp) ?_ (by rw [List.size_toArray] <;> omega)
 rw [zs6,← hlen]
 refine ⟨.ref s.heap.objs.size,_,I.laid (t':=s.toks) (o:=.lst (za7 xs lo hi)) (fun b ob q=>Heap.get?_push_of_some _ q) (Nat.le_refl _) ?_,rfl,q _ (I.hok.fresh (Nat.le_refl _))⟩
 exact ⟨Nat.le_trans (zqg xs lo hi) hz,_,0,(r.drop (HT.sIx xs.length 0 lo)).take (HT.sIx xs.length xs.length hi - HT.sIx xs.length 0 lo),Heap.get?_push_size _ rfl⟩
def zS:V→Bool
 | .non=>true
 | .bl _=>true
 | .int _=>true
 | .str _=>true
 | _=>false
def eqV:V→V→Bool
 | .non,.non=>true
 | .bl a,.bl b=>a == b
 | .bl a,.int b=>(if a then 1 else 0) == b
 | .int a,.bl b=>a == (if b then 1 else 0)
 | .int a,.int b=>a == b
 | .str a,.str b=>a == b
 | _,_=>false
theorem zkD {A:Around}{s:Shared}{y x:V}{u v:Value} (ry:zi y u) (rx:zi x v) (fy:zS y=true) (fx:zS x=true):SeqAt.EqAt A s u v (eqV y x):=by
 cases y with
 | non =>
  cases ry
  cases x with
  | non=>cases rx;exact SeqAt.EqAt.same _
  | bl b=>cases rx;exact SeqAt.EqAt.none_bool b
  | int b=>obtain ⟨t,rfl⟩:=rx;exact SeqAt.EqAt.none_int b t
  | str b=>obtain ⟨t,rfl⟩:=rx;exact SeqAt.EqAt.none_str b t
  | _=>exact absurd (show false=true from fx) Bool.false_ne_true
 | bl a =>
  cases ry
  cases x with
  | non=>cases rx;exact SeqAt.EqAt.bool_none a
  | bl b=>cases rx;exact SeqAt.EqAt.bool_bool a b
  | int b=>obtain ⟨t,rfl⟩:=rx;exact SeqAt.EqAt.bool_int a b t
  | str b=>obtain ⟨t,rfl⟩:=rx;exact SeqAt.EqAt.bool_str a b t
  | _=>exact absurd (show false=true from fx) Bool.false_ne_true
 | int a =>
  obtain ⟨t',rfl⟩:=ry
  cases x with
  | non=>cases rx;exact SeqAt.EqAt.int_none a t'
  | bl b=>cases rx;exact SeqAt.EqAt.int_bool a t' b
  | int b=>obtain ⟨t,rfl⟩:=rx;exact SeqAt.EqAt.int_int a t' b t
  | str b=>obtain ⟨t,rfl⟩:=rx;exact SeqAt.EqAt.int_str a t' b t
  | _=>exact absurd (show false=true from fx) Bool.false_ne_true
 | str a =>
  obtain ⟨t',rfl⟩:=ry
  cases x with
  | non=>cases rx;exact SeqAt.EqAt.str_none a t'
  | bl b=>cases rx;exact SeqAt.EqAt.str_bool a t' b
  | int b=>obtain ⟨t,rfl⟩:=rx;exact SeqAt.EqAt.str_int a t' b t
  | str b=>obtain ⟨t,rfl⟩:=rx;exact SeqAt.EqAt.str_str a t' b t
  | _=>exact absurd (show false=true from fx) Bool.false_ne_true
 | _=>exact absurd (show false=true from fy) Bool.false_ne_true
def eqU (x:V) (u:Value):Bool:=match u with
 | .none=>eqV .non x
 | .bool b=>eqV (.bl b) x
 | .int i _=>eqV (.int i) x
 | .str z _=>eqV (.str z) x
 | _=>false
theorem zkz {x y:V}{u:Value} (r:zi y u) (f:zS y=true):eqU x u=eqV y x:=by
 cases y with
 | non=>cases r;rfl
 | bl b=>cases r;rfl
 | int i=>obtain ⟨t,rfl⟩:=r;rfl
 | str z=>obtain ⟨t,rfl⟩:=r;rfl
 | _=>exact absurd (show false=true from f) Bool.false_ne_true
theorem zha {x:V}:∀ {xs:List V}{us:List Value},zk xs us→xs.all zS=true→us.any (eqU x)=xs.any fun y=>eqV y x
 | _,_,.nil,_=>rfl
 | y::xs,u::us,.cons r t,f=>by
  rw [List.all_cons,Bool.and_eq_true] at f
  rw [List.any_cons,List.any_cons,zkz r f.1,zha t f.2]
theorem zih {A:Around}{s:Shared}{x:V}{v:Value} (rx:zi x v) (fx:zS x=true):∀ {xs:List V}{us:List Value},zk xs us→xs.all zS=true→∀ u∈us,SeqAt.EqAt A s u v (eqU x u)
 | _,_,.nil,_=>fun u hu=>by cases hu
 | y::xs,u::us,.cons r t,f=>fun u' hu=>by
  rw [List.all_cons,Bool.and_eq_true] at f
  rcases List.mem_cons.mp hu with rfl|hu
  ·rw [zkz r f.1];exact zkD r rx f.1 fx
  ·exact zih rx fx t f.2 u' hu
def inV (x:V) (xs:List V):Bool:=xs.any fun y=>eqV y x
def rIn (K:PySem.W.Frag) (neg:Bool):R2:=fun x y H Q=>∃ p xs,y = .ref p∧(SqL K H p xs∨SqT K H p xs)∧zS x=true∧xs.all zS=true∧Q (.bl (if neg then !inV x xs else inV x xs)) H
theorem ztR:OpR X (compareOp .In) (rIn X.K false):=by
 intro pins s σ H x y v u Q I rx ry h
 obtain ⟨p,xs,rfl,hq,fx,fs,q⟩:=h
 cases ry
 rcases hq with hq|hq
 ·obtain ⟨its,r,pl,hz⟩:=I.list hq
  refine SeqAt.in_listAt (eqU x) pl.isList (fun w hw=>zih rx fx r fs w (by simpa using hw)) ⟨.bl _,H,I,rfl,?_⟩
  rw [show its.toArray.any (eqU x)=its.any (eqU x) by simp,zha r fs]
  exact q
 ·obtain ⟨its,r,pl,hz⟩:=I.tuple hq
  refine SeqAt.in_tupleAt (eqU x) pl (fun w hw=>zih rx fx r fs w (by simpa using hw)) ⟨.bl _,H,I,rfl,?_⟩
  rw [show its.toArray.any (eqU x)=its.any (eqU x) by simp,zha r fs]
  exact q
theorem zfA:zJ X (.builtin "len") (fun xs H Q=>∃ p ys,xs=[.ref p]∧(SqL X.K H p ys∨SqT X.K H p ys)∧Q (.int ys.length) H):=by
 intro pins s σ H xs us Q I r h
 obtain ⟨p,ys,rfl,hq,q⟩:=h
 obtain ⟨u,rfl,rx⟩:=zbN r
 cases rx
 have hn:=zcW
 rcases hq with hq|hq
 ·obtain ⟨its,r',pl,hz⟩:=I.list hq
  have hlen:=r'.length
  exact Calls.call_len_list pl.isList (by simp only [List.size_toArray] <;> omega) ⟨.int ys.length,H,I.tok _,⟨s.toks+1,by rw [List.size_toArray,hlen]⟩,q⟩
 ·obtain ⟨its,r',pl,hz⟩:=I.tuple hq
  have hlen:=r'.length
  exact len_tuple pl (by simp only [List.size_toArray] <;> omega) ⟨.int ys.length,H,I.tok _,⟨s.toks+1,by rw [List.size_toArray,hlen]⟩,q⟩
theorem zsW:zJ X (.builtin "len") (fun xs H Q=>∃ z,xs=[.str z]∧z.length≤sizeLine∧Q (.int z.length) H):=by
 intro pins s σ H xs us Q I r h
 obtain ⟨z,rfl,hz,q⟩:=h
 obtain ⟨u,rfl,t,rfl⟩:=zbN r
 have hn:=zcW
 exact len_str (by omega) ⟨.int z.length,H,I.tok _,⟨_,rfl⟩,q⟩
theorem zJ.or {f:Value}{r r':List V→Hp→VK→Prop} (h:zJ X f r) (h':zJ X f r'):zJ X f (fun xs H Q=>r xs H Q∨r' xs H Q):=by
 intro pins s σ H xs us Q I rs q
 rcases q with q|q
 ·exact h pins s σ H xs us Q I rs q
 ·exact h' pins s σ H xs us Q I rs q
theorem zui:zJ X (.type "list") (fun xs H Q=>∃ p ys,xs=[.ref p]∧(SqL X.K H p ys∨SqT X.K H p ys)∧∀ l,H l=none→Q (.ref l) (upd H l (.lst ys))):=by
 intro pins s σ H xs us Q I r h
 obtain ⟨p,ys,rfl,hq,q⟩:=h
 obtain ⟨u,rfl,rx⟩:=zbN r
 cases rx
 have fin:∀ (its:List Value),zk ys its→ys.length≤sizeLine→∀ (h':Heap) (c':Nat),(∀ b o',s.heap.get? b=some o'→h'.get? b=some o') →
   h'.get? s.heap.objs.size=some { cls:=.type "list",dict:=none,data:=.seq its.toArray c',slots:=#[] }→EP X pins σ Q (.ref s.heap.objs.size) { s with heap:=h' }:=fun its r' hz h' c' kp e =>
  ⟨.ref s.heap.objs.size,_,I.laid (t':=s.toks) kp (Nat.le_refl _) (show zY X.prog X.w _ h' _ (.lst ys) from ⟨hz,its,c',r',e⟩),rfl,q _ (I.hok.fresh (Nat.le_refl _))⟩
 rcases hq with hq|hq
 ·obtain ⟨its,r',pl,hz⟩:=I.list hq
  have hlen:=r'.length
  obtain ⟨o,ho,hc,n,hd⟩:=pl.isList
  exact call_list_seq p (.inl rfl) ho hc hd (fun h' c' kp e=>fin its r' hz h' c' kp e) (by simp only [List.size_toArray] <;> omega)
 ·obtain ⟨its,r',pl,hz⟩:=I.tuple hq
  have hlen:=r'.length
  obtain ⟨o,ho,hc,n,hd⟩:=pl
  exact call_list_seq p (.inr rfl) ho hc hd (fun h' c' kp e=>fin its r' hz h' c' kp e) (by simp only [List.size_toArray] <;> omega)
theorem zor:zJ X (.type "tuple") (fun xs H Q=>∃ p ys,xs=[.ref p]∧((SqL X.K H p ys∧∀ l,H l=none→Q (.ref l) (upd H l (.tup ys)))∨(SqT X.K H p ys∧Q (.ref p) H))):=by
 intro pins s σ H xs us Q I r h
 obtain ⟨p,ys,rfl,h⟩:=h
 obtain ⟨u,rfl,rx⟩:=zbN r
 cases rx
 rcases h with ⟨hq,q⟩|⟨hq,q⟩
 ·obtain ⟨its,r',pl,hz⟩:=I.list hq
  have hlen:=r'.length
  refine call_tuple_list pl.isList (fun h' kp=>?_) (by simp only [List.size_toArray] <;> omega)
  have I1:Inv X pins σ H { s with heap:=h' }:=I.kept (t':=s.toks) kp
  have I2:Inv X pins σ (upd H h'.objs.size (.tup ys)) { s with heap:=h'.push { cls:=.type "tuple",data:=.seq its.toArray } } :=
   I1.laid (t':=s.toks) (fun b o e=>Heap.get?_push_of_some _ e) (Nat.le_refl _) (show zY X.prog X.w _ _ _ (.tup ys) from ⟨hz,its,r',IsTup.new _ _⟩)
  exact ⟨.ref h'.objs.size,_,I2,rfl,q _ (I1.hok.fresh (Nat.le_refl _))⟩
 ·obtain ⟨its,r',pl,hz⟩:=I.tuple hq
  exact call_tuple_same pl ⟨.ref p,H,I,rfl,q⟩
def tyV (K:PySem.W.Frag) (T:String) (x:V) (H:Hp):Prop:=match x with
 | .str _=>T="str"
 | .int _=>T="int"
 | .ref p=>(T="list"∧∃ xs,SqL K H p xs)∨(T="tuple"∧∃ o,K.lookup p=some o∧o.cls = .type "tuple"∧o.dict=none) ∨
   (T="dict"∧((∃ kvs,H p=some (.dK kvs))∨∃ kvs,H p=some (.dT kvs)))∨(T="set"∧∃ S n,H p=some (.set S n))
 | _=>False
theorem zd9 {pins:List (Addr×Obj)}{σ:St}{H:Hp}{s:Shared}{T:String}{x:V}{v:Value} (I:Inv X pins σ H s) (r:zi x v) (ty:tyV X.K T x H) :
  s.TypeIs v T∧∀ a,v = .ref a→∃ ob,s.heap.get? a=some ob∧ob.dict=none:=by
 cases x with
 | str z =>
  obtain ⟨t,rfl⟩:=r
  cases (show T="str" from ty)
  exact ⟨typeIs_str s z t,fun _ e=>nomatch e⟩
 | int i =>
  obtain ⟨t,rfl⟩:=r
  cases (show T="int" from ty)
  exact ⟨typeIs_int s i t,fun _ e=>nomatch e⟩
 | ref p =>
  cases r
  rcases ty with ⟨rfl,xs,hq⟩|⟨rfl,o,hk,hc,hd⟩|⟨rfl,hk⟩|⟨rfl,S,n,hk⟩
  ·obtain ⟨its,_,pl,_⟩:=I.list hq
   refine ⟨pl.isList.typeIs,fun a e=>?_⟩
   cases e
   obtain ⟨o,n,e,c,hd,_⟩:=pl
   exact ⟨o,e,hd⟩
  ·refine ⟨⟨o,I.kIn p o hk,hc⟩,fun a e=>?_⟩
   cases e
   exact ⟨o,I.kIn _ o hk,hd⟩
  ·have z:∃ o,s.heap.get? p=some o∧o.ExactDict:=by
    rcases hk with ⟨kvs,hk⟩|⟨kvs,hk⟩
    ·obtain ⟨_,_,_,_,o,_,_,e,ex,_⟩:=I.hok p _ hk
     exact ⟨o,e,ex⟩
    ·obtain ⟨_,_,_,_,o,_,_,e,ex,_⟩:=I.hok p _ hk
     exact ⟨o,e,ex⟩
   obtain ⟨o,e,ex⟩:=z
   refine ⟨⟨o,e,ex.1⟩,fun a e2=>?_⟩
   cases e2
   exact ⟨o,e,ex.2.1⟩
  ·obtain ⟨o,_,_,_,e,ex,_⟩:=I.hok p _ hk
   refine ⟨⟨o,e,ex.1⟩,fun a e2=>?_⟩
   cases e2
   exact ⟨o,e,ex.2.1⟩
 | _=>exact False.elim ty
variable {o e:Expr}{es:List Expr}{to:TE}{t:TA}{name:Str}{apos cpos:Pos}{T id:String}{r:V→List V→Hp→VK→Prop}
end
end L2
namespace L2
open PySem PySem.Spec PyProof.Rows
def MtM (X:Cx) (id:String) (r:V→List V→Hp→VK→Prop):Prop :=
 ∀ (pins:List (Addr×Obj)) (s:Shared) (σ:St) (H:Hp) (x:V) (xs:List V) (v:Value) (us:List Value) (Q:VK),Inv X pins σ H s→zi x v→zk xs us→r x xs H Q →
  wpAny (model X.prog X.w) X.A (call (.builtin id) (v::us)) (EP X pins σ Q) X.xe s
theorem zk.one:∀ {x:V}{us:List Value},zk [x] us→∃ u,us=[u]∧zi x u
 | _,_,.cons r .nil=>⟨_,rfl,r⟩
theorem zk.zero:∀ {us:List Value},zk [] us→us=[]
 | _,.nil=>rfl
theorem zk.dropLast {xs:List V}{us:List Value} (h:zk xs us):zk xs.dropLast us.dropLast:=by
 induction h with
 | nil=>exact .nil
 | cons r t ih =>
  cases t with
  | nil=>exact .nil
  | cons q t'=>exact .cons r ih
theorem zk.eraseIdx:∀ {xs:List V}{us:List Value} (i:Nat),zk xs us→zk (xs.eraseIdx i) (us.eraseIdx i)
 | _,_,_,.nil=>.nil
 | _,_,0,.cons _ t=>t
 | _,_,i+1,.cons r t=>.cons r (zk.eraseIdx i t)
theorem zk.rep {xs:List V}{us:List Value} (h:zk xs us):∀ k:Nat,zk (List.replicate k xs).flatten (List.replicate k us).flatten
 | 0=>.nil
 | k+1=>by
  rw [List.replicate_succ,List.replicate_succ,List.flatten_cons,List.flatten_cons]
  exact zk.append h (zk.rep h k)
theorem zwF {α:Type} (l:List α):l.eraseIdx (l.length - 1)=l.dropLast:=by
 induction l with
 | nil=>rfl
 | cons a r ih =>
  cases r with
  | nil=>rfl
  | cons b r =>
   have e:(a::b::r).length - 1=((b::r).length - 1)+1:=by
    have h1:(a::b::r).length=r.length+2:=rfl
    have h2:(b::r).length=r.length+1:=rfl
    omega
   rw [e,List.eraseIdx_cons_succ,ih]
   all_goals rfl
theorem zk6 {α:Type}:∀ (l:List α) (i:Nat),(l.eraseIdx i).length≤l.length
 | [],_=>Nat.le_refl _
 | _::_,0=>Nat.le_succ _
 | _::r,i+1=>Nat.succ_le_succ (zk6 r i)
theorem zl1 (its:List Value):∀ (k:Nat) (acc:List Value),
  List.foldl (fun x1 x2=>x1++x2) acc.toArray (List.replicate k its.toArray)=(acc++(List.replicate k its).flatten).toArray
 | 0,acc=>by simp
 | k+1,acc=>by
  have e:acc.toArray++its.toArray=(acc++its).toArray:=by simp
  have e2:(acc++its)++(List.replicate k its).flatten=acc++(List.replicate (k+1) its).flatten:=by
   rw [List.replicate_succ,List.flatten_cons,List.append_assoc]
  rw [← e2,← zl1 its k (acc++its),← e,List.replicate_succ,List.foldl_cons]
section
variable {X:Cx}{pins:List (Addr×Obj)}{σ:St}{H:Hp}{s:Shared}{l b:Addr}{xs ys zs:List V}
theorem Inv.lset {its its':List Value}{n:Nat}{f:Array Value→Array Value}{t':Nat} (I:Inv X pins σ H s) (hH:H l=some (.lst xs))
  (e:s.heap.get? l=some { cls:=.type "list",data:=.seq its.toArray n }) (hf:f its.toArray=its'.toArray) (hv:zk ys its') (hz:ys.length≤sizeLine) :
  Inv X pins σ (upd H l (.lst ys)) { s with heap:=s.heap.update l (Obj.mapSeq f),toks:=t' }:=by
 have q:=PySem.IsL.update e f
 rw [hf] at q
 refine I.write (x:=l) (e:=l) (by rw [hH];exact trivial) (.inl rfl) (fun b' u hb hu=>(Heap.get?_update_other s.heap (Obj.mapSeq f) (Ne.symm hb)).trans hu) ⟨_,q⟩ ?_
 exact ⟨hz,its',_,hv,q⟩
theorem Inv.lnew {its:List Value}{t':Nat} (I:Inv X pins σ H s) (hv:zk ys its) (hz:ys.length≤sizeLine) :
  Inv X pins σ (upd H s.heap.objs.size (.lst ys)) { s with heap:=s.heap.push { cls:=.type "list",data:=.seq its.toArray },toks:=t' } :=
 I.laid (fun _ _ q=>Heap.get?_push_of_some _ q) (Nat.le_refl _) ⟨hz,its,0,hv,Heap.get?_push_size _ rfl⟩
theorem Inv.fresh (I:Inv X pins σ H s):H s.heap.objs.size=none:=I.hok.fresh (Nat.le_refl _)
theorem Inv.lstM (I:Inv X pins σ H s) (hH:H l=some (.lst xs)):xs.length≤sizeLine∧∃ (its:List Value) (n:Nat),zk xs its∧xs.length=its.length∧s.heap.get? l=some { cls:=.type "list",data:=.seq its.toArray n }:=by
 obtain ⟨z,its,n,r,e⟩:=I.hok l _ hH
 exact ⟨z,its,n,r,r.length,e⟩
theorem zmj {n:Nat} (h:n≤sizeLine):Builtin.List.listTooLong n=false:=by
 unfold Builtin.List.listTooLong
 exact decide_eq_false (by omega)
end
section
variable {X:Cx}
def zms:V→List V→Hp→VK→Prop:=fun x vs H Q=>∃ l xs y,x = .ref l∧vs=[y]∧H l=some (.lst xs)∧xs.length<sizeLine∧Q .non (upd H l (.lst (xs++[y])))
theorem zww:MtM X "list.append" zms:=by
 intro pins s σ H x vs v us Q I rx rv h
 obtain ⟨l,xs,y,rfl,rfl,hH,hz,q⟩:=h
 cases rx
 obtain ⟨u,rfl,ru⟩:=rv.one
 obtain ⟨z,its,n,r,hl,e⟩:=I.lstM hH
 refine call_meets F.slot_list_append ⟨_,e,rfl⟩ F.entry_list_append (F.args_list_append_2 _ _) (PySem.list_append l its.toArray n u (by rw [List.size_toArray];omega)) ⟨e,?_⟩
 refine ⟨.non,_,I.lset (its':=its++[u]) hH e (by simp) (r.append (.cons ru .nil)) ?_,rfl,q⟩
 rw [List.length_append,List.length_singleton]
 omega
def zpp:V→List V→Hp→VK→Prop:=fun x vs H Q=>∃ l b xs zs,x = .ref l∧vs=[.ref b]∧H l=some (.lst xs)∧H b=some (.lst zs)∧xs.length+zs.length≤sizeLine∧Q .non (upd H l (.lst (xs++zs)))
theorem zm0:MtM X "list.extend" zpp:=by
 intro pins s σ H x vs v us Q I rx rv h
 obtain ⟨l,b,xs,zs,rfl,rfl,hH,hB,hz,q⟩:=h
 cases rx
 obtain ⟨u,rfl,ru⟩:=rv.one
 cases ru
 obtain ⟨z,its,n,r,hl,e⟩:=I.lstM hH
 obtain ⟨z2,its2,n2,r2,hl2,e2⟩:=I.lstM hB
 have hsz:its.toArray.size+its2.toArray.size≤sizeLine:=by rw [List.size_toArray,List.size_toArray];omega
 have hlong : ¬ (!its.toArray.isEmpty && Builtin.List.listTooLong (its.toArray.size+its2.toArray.size))=true:=by
  rw [zmj hsz,Bool.and_false]
  exact Bool.false_ne_true
 refine call_meets F.slot_list_extend ⟨_,e,rfl⟩ F.entry_list_extend (F.args_list_extend_2 _ _)
  (AutoSeq1.list_extend_list_list_0 l its.toArray n b its2.toArray n2 hlong (by rw [List.size_toArray];omega) (by omega)) ⟨e,e2,?_⟩
 refine ⟨.non,_,I.lset (its':=its++its2) hH e (by simp) (r.append r2) ?_,rfl,q⟩
 rw [List.length_append]
 omega
def zvJ:V→List V→Hp→VK→Prop:=fun x vs H Q=>∃ l xs y,x = .ref l∧vs=[]∧H l=some (.lst xs)∧xs[xs.length - 1]?=some y∧Q y (upd H l (.lst xs.dropLast))
theorem zxt:MtM X "list.pop" zvJ:=by
 intro pins s σ H x vs v us Q I rx rv h
 obtain ⟨l,xs,y,rfl,rfl,hH,hy,q⟩:=h
 cases rx
 have hus:=rv.zero
 subst hus
 obtain ⟨z,its,n,r,hl,e⟩:=I.lstM hH
 obtain ⟨u,hu,ru⟩:=r.get hy
 have hy':its.toArray[its.toArray.size - 1]?=some u:=by
  show its.toArray[its.length - 1]?=some u
  rw [← Array.getElem?_toList,← hl]
  exact hu
 refine call_meets F.slot_list_pop ⟨_,e,rfl⟩ F.entry_list_pop (F.args_list_pop_1 _) (MeetsSeq.list_pop_last l its.toArray n u hy' (by rw [List.size_toArray];omega)) ⟨e,?_⟩
 refine ⟨y,_,I.lset (its':=its.dropLast) hH e ?_ r.dropLast ?_,ru,q⟩
 ·show its.toArray.eraseIdxIfInBounds (its.toArray.size - 1)=its.dropLast.toArray
  rw [List.size_toArray,List.eraseIdxIfInBounds_toArray,zwF]
 ·rw [List.length_dropLast]
  omega
def ztx:V→List V→Hp→VK→Prop:=fun x vs H Q=>∃ l xs i k y,x = .ref l∧vs=[.int i]∧H l=some (.lst xs)∧-(2 ^ 63)≤i∧i<2 ^ 63∧seqIndex? i xs.length=some k∧xs[k]?=some y∧Q y (upd H l (.lst (xs.eraseIdx k)))
theorem zo8:MtM X "list.pop" ztx:=by
 intro pins s σ H x vs v us Q I rx rv h
 obtain ⟨l,xs,i,k,y,rfl,rfl,hH,h1,h2,hk,hy,q⟩:=h
 cases rx
 obtain ⟨u,rfl,ru⟩:=rv.one
 obtain ⟨t,rfl⟩:=ru
 obtain ⟨z,its,n,r,hl,e⟩:=I.lstM hH
 obtain ⟨w,hw,rw'⟩:=r.get hy
 refine call_meets F.slot_list_pop ⟨_,e,rfl⟩ F.entry_list_pop (F.args_list_pop_2 _ _)
  (MeetsSeq.list_pop_at l its.toArray n i t k w (fitsIndex_both h1 h2) (by rw [List.size_toArray,← hl];exact hk) (by rw [← Array.getElem?_toList];exact hw) (by rw [List.size_toArray];omega)) ⟨e,?_⟩
 refine ⟨y,_,I.lset (its':=its.eraseIdx k) hH e ?_ (r.eraseIdx k) ?_,rw',q⟩
 ·show its.toArray.eraseIdxIfInBounds k=(its.eraseIdx k).toArray
  rw [List.eraseIdxIfInBounds_toArray]
 ·have:=zk6 xs k
  omega
def zsZ:V→List V→Hp→VK→Prop:=fun x vs H Q=>∃ l xs,x = .ref l∧vs=[]∧H l=some (.lst xs)∧Q .non (upd H l (.lst []))
theorem zrZ:MtM X "list.clear" zsZ:=by
 intro pins s σ H x vs v us Q I rx rv h
 obtain ⟨l,xs,rfl,rfl,hH,q⟩:=h
 cases rx
 have hus:=rv.zero
 subst hus
 obtain ⟨z,its,n,r,hl,e⟩:=I.lstM hH
 refine call_meets F.slot_list_clear ⟨_,e,rfl⟩ F.entry_list_clear (F.args_list_clear_1 _) (AutoSeq1.list_clear_list_0 l its.toArray n (by rw [List.size_toArray];omega)) ⟨e,?_⟩
 exact ⟨.non,_,I.lset (its':=[]) (ys:=[]) hH e rfl .nil (Nat.zero_le _),rfl,q⟩
def zn1:R2:=fun x y H Q=>∃ l b xs zs,x = .ref l∧y = .ref b∧H l=some (.lst xs)∧H b=some (.lst zs)∧xs.length+zs.length≤sizeLine∧∀ p,H p=none→Q (.ref p) (upd H p (.lst (xs++zs)))
theorem zv8:OpR X (binaryOp .Add) zn1:=by
 intro pins s σ H x y v u Q I rx ry h
 obtain ⟨l,b,xs,zs,rfl,rfl,hH,hB,hz,q⟩:=h
 cases rx
 cases ry
 obtain ⟨z,its,n,r,hl,e⟩:=I.lstM hH
 obtain ⟨z2,its2,n2,r2,hl2,e2⟩:=I.lstM hB
 refine PySem.P.add_list e e2 ?_ (by rw [List.size_toArray,List.size_toArray];omega)
 have ea:its.toArray++its2.toArray=(its++its2).toArray:=by simp
 rw [ea]
 exact ⟨.ref _,_,I.lnew (t':=s.toks) (r.append r2) (by rw [List.length_append];omega),rfl,q _ I.fresh⟩
def zvk:R2:=fun x y H Q=>∃ l k xs,x = .ref l∧y = .int k∧H l=some (.lst xs)∧-(2 ^ 63)≤k∧k<2 ^ 63∧xs.length*k.toNat≤sizeLine ∧
 ∀ p,H p=none→Q (.ref p) (upd H p (.lst (List.replicate k.toNat xs).flatten))
theorem zvx {α:Type} (xs:List α) (k:Nat):(List.replicate k xs).flatten.length=k*xs.length:=by
 induction k with
 | zero=>simp
 | succ k ih=>rw [List.replicate_succ,List.flatten_cons,List.length_append,ih,Nat.succ_mul,Nat.add_comm]
theorem zmQ:OpR X (binaryOp .Mult) zvk:=by
 intro pins s σ H x y v u Q I rx ry h
 obtain ⟨l,k,xs,rfl,rfl,hH,h1,h2,hz,q⟩:=h
 cases rx
 obtain ⟨t,rfl⟩:=ry
 obtain ⟨z,its,n,r,hl,e⟩:=I.lstM hH
 have hlen:its.toArray.size*k.toNat≤sizeLine:=by rw [List.size_toArray,← hl];exact hz
 have hcap : ¬ its.toArray.size*k.toNat>(2 ^ 63 - 1) / 8:=by
  have:(sizeLine:Nat)≤(2 ^ 63 - 1) / 8:=by decide
  omega
 have hfit : ¬ (!Builtin.List.listFitsIndex k)=true:=by
  rw [fitsIndex_both h1 h2]
  exact Bool.false_ne_true
 have hlong : ¬ Builtin.List.listTooLong (its.toArray.size*k.toNat)=true:=by
  rw [zmj hlen]
  exact Bool.false_ne_true
 have hnew:List.foldl (fun x1 x2=>x1++x2) #[] (List.replicate (if its.toArray.isEmpty=true then 0 else k.toNat) its.toArray)=(List.replicate k.toNat its).flatten.toArray:=by
  have f0:∀ m:Nat,List.foldl (fun x1 x2=>x1++x2) #[] (List.replicate m its.toArray)=(List.replicate m its).flatten.toArray:=fun m=>by
   have:=zl1 its m []
   rw [List.nil_append] at this
   exact this
  rw [f0]
  cases its with
  | nil=>simp
  | cons a r'=>rw [if_neg (by simp)]
 refine wpAny_binaryOp_repeat_ref (T:="list") (U:="int") (by decide) ⟨_,e,rfl⟩ (fun s'=>typeIs_int s' k t) noFill_list_mul F.fills_int_mul F.slot_int_rmul repeat_list F.slot_int_index.lookup
  (call_meets F.slot_int_rmul (typeIs_int s k t) F.entry_int_rmul (F.args_int_rmul_2 _ _) (int___rmul___int_list k t l its.toArray n)
   ⟨e,rfl,⟨_,e,rfl⟩,call_meets F.slot_list_mul ⟨_,e,rfl⟩ F.entry_list_mul (F.args_list_mul_2 _ _) (AutoListH.list___mul___list_int_3 l its.toArray n k t hfit hcap hlong) ⟨e,?_⟩⟩)
 rw [hnew]
 exact ⟨.ref _,_,I.lnew (t':=s.toks) (r.rep k.toNat) (by rw [zvx,Nat.mul_comm];exact hz),rfl,q _ I.fresh⟩
end
section
variable {prog:Program}{w:World}{A:Around}{E:Value→Shared→Prop}{s:Shared}
end
section
variable {X:Cx}
end
end L2
namespace Att
open PySem PySem.W PySem.Calls PyProof.Rows
theorem zv3 {P:Params}{h:Heap}:∀ (ns:List Int) (vs:List Value),WellAll P h vs (ns.map WData.int)→IntsAre vs ns:=by
 intro ns
 induction ns with
 | nil =>
  intro vs w
  rw [List.map_nil] at w
  cases w
  exact .nil
 | cons n ns ih =>
  intro vs w
  rw [List.map_cons] at w
  cases w with
  | cons a b =>
   cases a
   exact .cons _ _ (ih _ b)
theorem zpS {l:OpenLaw}{n:Nat} (hn:l.most=some n) {P:Params}{h:Heap}{args:List WData}{vals:List Value}
  (hpre:l.row.toRowW.claim.pre args=true) (hwl:WellAll P h vals args) :
  ∃ a vs ns,vals=[Value.ref a]∧args=[WData.list (ns.map WData.int)]∧h.get? a=some { cls:=.type "list",data:=.seq vs.toArray }∧IntsAre vs ns∧ns.length≤n:=by
 have hsh:WShape.hasAll [] args [.list .int]=true:=(pre_splitW hpre).1
 have hc:l.pre.holds [] { args:=args }=true:=(pre_splitW hpre).2
 obtain ⟨d,r,rfl,h1,h2⟩:=hasAllW_cons hsh
 obtain rfl:=hasAllW_nil h2
 obtain ⟨xs,rfl,h3⟩:=hasW_list h1
 obtain ⟨ns,rfl⟩:=items_int h3
 have hlen:ns.length≤n:=by
  unfold OpenLaw.pre at hc
  have h4:(WTm.not (.lt (.lit (.int (n:Int))) (.len (.arg 0)))).holds [] { args:=[.list (ns.map .int)] }=true:=by
   have h4:=(holds_andW hc).1
   rw [hn] at h4
   exact h4
  have h5:=condW_of h4 (w_not (w_lt w_lit (w_len_list (w_arg rfl))))
  rw [List.length_map] at h5
  refine Nat.le_of_not_lt fun q=>?_
  have q':(n:Int)<((ns.length:Nat):Int):=by omega
  first
   | (rw [decide_eq_true q'] at h5;exact absurd h5 (by decide))
   | (simp at h5;omega)
 cases hwl with
 | cons w1 w2 =>
  cases w2
  cases w1 with
  | list ho hall=>exact ⟨_,_,ns,rfl,rfl,ho,zv3 ns _ hall,hlen⟩
theorem zmT (l:OpenLaw) (args:List WData):l.row.toRowW.claim.post args (.bool true) args=true :=
 postW_of (r:=l.row.toRowW) (X:=(true == true))
  (show WShape.has [] (.bool true) .bool=true by first|rfl|decide|simp [WShape.has,WShape.arms,WShape.armsAll])
  (show (WTm.eq .res (.lit (.bool true))).value [] { args:=args,res:=some (.bool true),after:=args }=some (.bool (true == true)) from w_eq_bool (w_res rfl) w_lit) rfl
theorem attach_call {l:OpenLaw}{n:Nat}{q:Program}{loose:List Str}{XP:(Str→Option Value)→Heap→Prop}{YP:World→Heap→Prop}{d:DefRec}
  (hn:l.most=some n) (hdf:d.params.defaults=[])
  (call:∀ (w:World) (s₀ s₁:Shared) (mg mb:Str→Option Value) (fa:Addr) (o:Obj) (pm cd doc:Value) (a:Addr) (vs:List Value) (ns:List Int),
   Ground q loose [] XP w s₀ mg mb s₁.heap→YP w s₁.heap →
   s₁.heap.get? fa=some o→o.data = .func (docDef d.name d.params d.body d.scope pm cd doc)→s₁.heap.CodeRec cd d.name→mg d.name=some (.ref fa) →
   s₁.heap.get? a=some { cls:=.type "list",data:=.seq vs.toArray }→IntsAre vs ns→ns.length≤n→s₁.gens = #[] →
   codeAny (model l.prog w) callerA (.call (.ref fa) ⟨[.ref a],[]⟩) (fun r s'=>r = .ok (.ret (.bool true))∧OldK s₁.heap s'.heap∧s'.os=s₁.os∧AllBare s'.gens) s₁) :
  WalkO q loose XP YP l.row.toRowW d [] (fun f vs=>PySem.call f vs):=by
 intro w s₀ s₁ mg mb G Y fa o pm cd doc dV kV ho hd hcd hD hmg hg args vals as hpre hlay hrd hwl hlo
 obtain rfl:dV = .none:=Dflts.none hD hdf
 obtain rfl:kV = .none:=Dflts.noKw hD
 obtain ⟨a,vs,ns,rfl,rfl,hobj,hints,hlen⟩:=zpS hn hpre hwl
 refine enter_call (codeAny_mono (call w s₀ s₁ mg mb fa o pm cd doc a vs ns G Y ho (fd_plain hd) hcd hmg hobj hints hlen hg) fun r s' hq=>?_)
 obtain ⟨rfl,h2,h3,h4⟩:=hq
 exact ⟨.inl ⟨.bool true,.bool true,[],rfl,fun _=>rfl,.bool true,zmT l _,fun _=>⟨List.Pairwise.nil,fun _ hm=>(nomatch hm)⟩⟩,h2,h3,h4⟩
section
variable {prog:Program}{w:World}{A:Around}{E:Value→Shared→Prop}{s:Shared}{K:Frag}
end
end Att
namespace L2
open PySem PySem.Spec PyProof.Rows
theorem zkc:∀ {vs:List Value}{ns:List Int},IntsAre vs ns→zk (ns.map V.int) vs
 | _,_,.nil=>.nil
 | _,_,.cons n t h=>.cons ⟨t,rfl⟩ (zkc h)
end L2
namespace L2
open PySem PySem.Spec PyProof.Rows
end L2
namespace L2
open PySem PySem.Spec PyProof.Rows
def zaX (s:Stmt) (j:Nat):Stmt:=match s with
 | .ClassDef _ _ _ body _ _ _ _ _ _ _=>body.getD j (.Pass ⟨0,0,0,0⟩)
 | _=>.Pass ⟨0,0,0,0⟩
def zA (s:Stmt):Arguments:=match s with
 | .FunctionDef _ a _ _ _ _ _ _ _ _=>a
 | _=>{ posonlyargs:=[],args:=[],vararg:=none,kwonlyargs:=[],kw_defaults:=[],kwarg:=none,defaults:=[] }
def zy (s:Stmt):List Stmt:=match s with
 | .FunctionDef _ _ b _ _ _ _ _ _ _=>b
 | _=>[]
def zd (s:Stmt):Scope:=match s with
 | .FunctionDef _ _ _ _ _ _ sc _ _ _=>sc
 | _=>{ kind:=.function,names:=[],isGenerator:=false,isCoroutine:=false }
abbrev CX0:CXT:=fun _ _ _ _ _ _=>False
abbrev E0:XK:=fun _ _ _=>False
theorem zhl {X:Cx}:zez CX0 X E0:=fun _ _ _ _ _ _ _ h=>h.elim
structure Fun (K:PySem.W.Frag) (x qual:Str) (st:Stmt) (f:Addr) (fd:FuncData):Prop where
 ex:∃ (oc:Value) (od:Option Addr) (kV doc pm:Value) (an:Option Addr) (cdv ct:Value) (osl:Array (Option Value)),
  fd=PySem.W.fnOf x qual (zA st) (zy st) (zd st) .none kV doc pm an cdv ct∧K.lookup f=some ⟨oc,od,.func fd,osl⟩∧PySem.W.codeIn K cdv qual=true
 kp:PySem.W.keepIn K (.ref f)=true
section
variable {P:Program}{w:World}{K:PySem.W.Frag}{mg:Str→Option Value}{base:Heap}
theorem Fun.ok {x qual:Str}{st:Stmt}{f:Addr}{fd:FuncData}{N ps:List Str}{cm:Bool}{k:Nat}{sp:Sp} (F:Fun K x qual st f fd) (S:zz N ps (zd st)) (len:∀ vs H Q E,sp vs H Q E→vs.length=ps.length)
  (hbody:∀ (cdv:Value) (A:Around) (outer:List Env) (s:Shared) (H:Hp) (vs:List V) (Q:VK) (E:XK),zE cm k (A.deeper (envOfC qual (zd st) s.heap.objs.size f cdv))→sp vs H Q E →
   ∃ t,PSs (zbe CX0 cm P w K mg base N qual (zd st) f cdv A outer s H E).nox (zy st) t∧t { nx:=fun _ H'=>Q .non H',rt:=Q } (start N vs) H):zp P w K mg base CX0 cm (k+1) f fd ps sp:=by
 obtain ⟨oc,od,kV,doc,pm,an,cdv,ct,osl,rfl,lk,hcd⟩:=F.ex
 refine zh6 lk hcd S len fun A outer s H vs Q E hr hsp=>?_
 obtain ⟨t,h,q⟩:=hbody cdv A outer s H vs Q E hr hsp
 exact ⟨t,h.nox,q⟩
theorem Fun.binds {x qual:Str}{st:Stmt}{f:Addr}{fd:FuncData}{ps:List Str} (F:Fun K x qual st f fd)
  (h:∀ (kV doc pm:Value) (an:Option Addr) (cdv ct:Value) (us:List Value),us.length=ps.length→bindArgs (PySem.W.fnOf x qual (zA st) (zy st) (zd st) .none kV doc pm an cdv ct) ⟨us,[]⟩=pure (ps.zip us)):zaM K fd ps []:=by
 obtain ⟨oc,od,kV,doc,pm,an,cdv,ct,osl,rfl,lk,hcd⟩:=F.ex
 exact .all (h kV doc pm an cdv ct)
theorem zC {x qual:Str}{st:Stmt}{f:Addr}{oc:Value}{od an:Option Addr}{osl:Array (Option Value)}{kV doc pm cdv ct:Value} (l:K.lookup f=some ⟨oc,od,.func (PySem.W.fnOf x qual (zA st) (zy st) (zd st) .none kV doc pm an cdv ct),osl⟩)
  (c:PySem.W.codeIn K cdv qual=true) (k:PySem.W.keepIn K (.ref f)=true):Fun K x qual st f (PySem.W.fnOf x qual (zA st) (zy st) (zd st) .none kV doc pm an cdv ct):=⟨⟨oc,od,kV,doc,pm,an,cdv,ct,osl,rfl,l,c⟩,k⟩
end
theorem zax {A:Around}{c:Bool}{k:Nat} (hr:zE c k A):A.units+1<cLine:=Nat.lt_of_le_of_lt (Nat.add_le_add_left (by decide:1≤64) _) hr.units
theorem zh3 {n:Nat} (h:n≤1000):n<sizeLine:=Nat.lt_of_le_of_lt h (by decide)
section
variable {X:Cx}
theorem pv (i:Nat) {x:Str}{pos:Pos} (hN:X.N[i]?=some x:=by rfl) (hv:Vis X.env.scope x:=by first|exact Or.inl rfl|exact Or.inr (Or.inl rfl)|exact Or.inr (Or.inr rfl)) (hd:(x == ("__debug__":Str))=false:=by decide)
  (hcd:(x == ("__classdict__":Str))=false:=by decide):PE X (.Name x pos) (zdb i):=zt8 hN hv hd hcd
end
theorem zhB {A B:Prop} (h:B):if false=true then A else B:=by
 rw [if_neg Bool.false_ne_true]
 exact h
theorem zfa {A B:Prop} (h:A):if true=true then A else B:=by
 rw [if_pos rfl]
 exact h
theorem zad {c A B:Prop} [Decidable c] (h1:c→A) (h2 : ¬ c→B):if c then A else B:=by
 by_cases h:c
 ·rw [if_pos h]
  exact h1 h
 ·rw [if_neg h]
  exact h2 h
def zl (H H':Hp):Prop:=∀ b o,H b=some o→H' b=some o
theorem zl.refl (H:Hp):zl H H:=fun _ _ h=>h
theorem zl.trans {H H1 H2:Hp} (a:zl H H1) (b:zl H1 H2):zl H H2:=fun c o h=>b c o (a c o h)
theorem zl.free {H H':Hp} (e:zl H H') {l:Addr} (h:H' l=Option.none):H l=Option.none:=by
 cases q:H l with
 | none=>rfl
 | some o =>
  rw [e l o q] at h
  cases h
end L2
set_option Elab.async false
set_option linter.all false
set_option maxRecDepth 100000
set_option maxHeartbeats 4000000
namespace L2
open PySem PySem.Spec PyProof.Rows
def zaB (cells:List (Str×Addr)):List (Str×NameKind)→List (Str×Addr)→List (Str×Addr)
 | [],cs=>cs
 | (n,k)::r,cs=>zaB cells r (if k == .free then (match cells.lookup n with|some c=>(n,c)::cs|none=>cs) else cs)
theorem zjS {scope:Scope}{env:Env} (h:∀ y∈scope.names,y.2 = .free→∃ c,env.cells.lookup y.1=some c):closureFor scope env=pure (zaB env.cells scope.names []):=by
 simp only [closureFor]
 have all:∀ (l:List (Str×NameKind)) (cs:List (Str×Addr)),(∀ y∈l,y.2 = .free→∃ c,env.cells.lookup y.1=some c) →
   (forIn l cs fun (x:Str×NameKind) (r:List (Str×Addr))=>match x with|(name,kind)=>if (kind == NameKind.free)=true then do let a←cellOf env name;pure (ForInStep.yield ((name,a)::r)) else pure (ForInStep.yield r):Sem (List (Str×Addr)))=pure (zaB env.cells l cs):=by
  intro l
  induction l with
  | nil=>intro cs _;rfl
  | cons y r ih =>
   intro cs hy
   obtain ⟨n,k⟩:=y
   rw [List.forIn_cons]
   by_cases hk:k = .free
   ·subst hk
    obtain ⟨c,hc⟩:=hy (n,.free) List.mem_cons_self rfl
    have hc':env.cells.lookup n=some c:=hc
    simp only [cellOf,hc',zaB,beq_self_eq_true,if_true]
    exact ih _ fun z hz=>hy z (List.mem_cons_of_mem _ hz)
   ·have hb:(k == NameKind.free)=false:=by simpa using hk
    simp only [zaB,hb,Bool.false_eq_true,if_false]
    exact ih _ fun z hz=>hy z (List.mem_cons_of_mem _ hz)
 have e:=all scope.names [] h
 show (do let cs←forIn scope.names [] _;pure cs)=_
 first
  | (rw [bind_pure];exact e)
  | exact e
  | (simpa using e)
theorem zfK {cells:List (Str×Addr)}:∀ {l:List (Str×NameKind)}{cs:List (Str×Addr)}{x:Str}{c:Addr},(zaB cells l cs).lookup x=some c→cs.lookup x=some c∨(cells.lookup x=some c∧(x,NameKind.free)∈l)
 | [],_,_,_,h=>.inl h
 | (n,k)::r,cs,x,c,h=>by
  unfold zaB at h
  rcases zfK h with h|⟨h1,h2⟩
  ·by_cases hk:k = .free
   ·subst hk
    simp only [beq_self_eq_true,if_true] at h
    cases e:cells.lookup n with
    | none=>rw [e] at h;exact .inl h
    | some c' =>
     rw [e] at h
     simp only [List.lookup_cons] at h
     by_cases hx:x=n
     ·subst hx
      simp only [beq_self_eq_true] at h
      cases h
      exact .inr ⟨e,List.mem_cons_self⟩
     ·have hb:(x == n)=false:=by simpa using hx
      rw [hb] at h
      exact .inl h
   ·have hb:(k == NameKind.free)=false:=by simpa using hk
    rw [hb] at h
    exact .inl h
  ·exact .inr ⟨h1,List.mem_cons_of_mem _ h2⟩
theorem zi5 {cells:List (Str×Addr)}:∀ {l:List (Str×NameKind)}{cs:List (Str×Addr)}{x:Str},(cs.lookup x).isSome=true→((zaB cells l cs).lookup x).isSome=true
 | [],_,_,h=>h
 | (n,k)::r,cs,x,h=>by
  unfold zaB
  refine zi5 ?_
  split
  ·split
   ·simp only [List.lookup_cons]
    split
    ·rfl
    ·exact h
   ·exact h
  ·exact h
theorem zjA {cells:List (Str×Addr)}:∀ {l:List (Str×NameKind)}{cs:List (Str×Addr)}{x:Str}{c:Addr},(x,NameKind.free)∈l→cells.lookup x=some c→((zaB cells l cs).lookup x).isSome=true
 | (n,k)::r,cs,x,c,hm,hc=>by
  unfold zaB
  rcases List.mem_cons.mp hm with e|hm
  ·cases e
   refine zi5 ?_
   simp only [beq_self_eq_true,if_true,hc,List.lookup_cons]
   rfl
  ·exact zjA hm hc
def zaT (sc:Scope) (names:List (Str×NameKind)) (N N':List Str) (ix:List (Option Nat)):Bool :=
 sc.kind == .function && sc.names.all (fun y=>y.2 != .cell && (y.2 != .local || sc.names.lookup y.1 == some .local) && (y.2 != .free || (names.lookup y.1 == some .cell && sc.names.lookup y.1 == some .free)) ) &&
 ix.length == N'.length && (List.range ix.length).all (fun i=>match ix.getD i none with
  | none=>true
  | some j=>(match N'[i]?,N[j]? with|some x,some y=>x == y && sc.names.lookup x == some .free|_,_=>false))
def zbh (ix:List (Option Nat)) (σ:St):St:=ix.map fun o=>o.bind fun j=>(σ[j]?).join
structure zaz (X:Cx) (sc:Scope) (N':List Str) (ix:List (Option Nat)):Prop where
 kind:sc.kind = .function
 cell:∀ y∈sc.names,y.2≠.cell
 names:∀ y∈sc.names,y.2 = .local→sc.names.lookup y.1=some .local
 free:∀ y∈sc.names,y.2 = .free→X.env.kindOf y.1=some .cell∧sc.names.lookup y.1=some .free
 len:ix.length=N'.length
 at_:∀ (i j:Nat),ix[i]?=some (some j)→∃ x,N'[i]?=some x∧X.N[j]?=some x∧sc.names.lookup x=some .free
theorem zaz.of {X:Cx}{sc:Scope}{N':List Str}{ix:List (Option Nat)} (h:zaT sc X.env.scope.names X.N N' ix=true):zaz X sc N' ix:=by
 unfold zaT at h
 simp only [Bool.and_eq_true,List.all_eq_true] at h
 obtain ⟨⟨⟨h1,h2⟩,h3⟩,h4⟩:=h
 refine ⟨by simpa using h1,fun y hy=>?_,fun y hy hk=>?_,fun y hy hk=>?_,by simpa using h3,fun i j e=>?_⟩
 ·simpa using (h2 y hy).1.1
 ·have q:=(h2 y hy).1.2
  rw [hk] at q
  simpa using q
 ·have q:=(h2 y hy).2
  rw [hk] at q
  simp only [bne_self_eq_false,Bool.false_or,Bool.and_eq_true,beq_iff_eq] at q
  exact q
 ·have hi:i<ix.length:=(List.getElem?_eq_some_iff.mp e).1
  have:=h4 i (List.mem_range.mpr hi)
  have eg:ix.getD i none=some j:=by rw [List.getD_eq_getElem?_getD,e];rfl
  rw [eg] at this
  dsimp only at this
  cases e1:N'[i]? with
  | none=>rw [e1] at this;simp at this
  | some x =>
   cases e2:X.N[j]? with
   | none=>rw [e1,e2] at this;simp at this
   | some y =>
    rw [e1,e2] at this
    simp only [Bool.and_eq_true,beq_iff_eq] at this
    exact ⟨x,rfl,by rw [this.1],this.2⟩
def zP (X:Cx) (sc:Scope) (N':List Str) (pins:List (Addr×Obj)) (C:Addr) (fp:List Addr) (s:Shared) (H:Hp):Cx :=
 { X with N:=N',s₀:=s,H₀:=H,env:=compEnvC sc (zaB X.env.cells sc.names []) C X.env,outer:=X.stack,stack:=X.stack,ex:=fp,fn:=fun _=>false,pn:=X.pn++pins,xe:=fun _ _=>False }
theorem HOk.add {P:Program}{w:World}{H:Hp}{h:Heap}{D:Addr}{o:HO} (x:HOk P w H h) (hn:H D=none) (new:zY P w (upd H D o) h D o):HOk P w (upd H D o) h:=fun b u e=>by
 by_cases hb:b=D
 ·subst hb;rw [zF] at e;cases e;exact new
 ·rw [ze hb] at e
  exact (x b u e).stay (fun _ _ _ q=>q) (fun c q=>by rw [ze (zt q hn)];exact q) fun c xs q=>by rw [ze (zt q hn)];exact q
theorem HOk.but {P:Program}{w:World}{H:Hp}{h h':Heap}{C:Addr} (x:HOk P w H h) (hn:H C=none) (k:∀ b u,b≠C→h.get? b=some u→h'.get? b=some u):HOk P w H h':=fun b u e =>
 (x b u e).stay (fun c v hc q=>k c v (by
  rcases hc with z|z
  ·rw [z];exact zt e hn
  ·exact zt z hn) q) (fun _ q=>q) fun _ _ q=>q
theorem ztJ {sc:Scope}{env:Env} (hk:env.scope.kind = .function) (hf:∀ y∈sc.names,y.2 = .free→env.kindOf y.1=some .cell) :
  ∀ x,(relabel sc env).names.lookup x=(sc.names.lookup x).map fun k=>if k == .free then .cell else k:=by
 intro x
 have em:(relabel sc env).names=sc.names.map fun y=>(y.1,if y.2 == .free then NameKind.cell else y.2):=by
  show sc.names.map _=_
  refine List.map_congr_left fun y hy=>?_
  obtain ⟨n,k⟩:=y
  by_cases hk':k = .free
  ·subst hk'
   have e:env.kindOf n=some .cell:=hf (n,.free) hy rfl
   simp [hk,e]
  ·have hb:(k == NameKind.free)=false:=by simpa using hk'
   simp [hb]
 rw [em]
 generalize sc.names=l
 induction l with
 | nil=>rfl
 | cons y r ih =>
  obtain ⟨n,k⟩:=y
  simp only [List.map_cons,List.lookup_cons]
  cases x == n with
  | true=>rfl
  | false=>exact ih
section
variable {X:Cx}{sc:Scope}{N':List Str}{ix:List (Option Nat)}
theorem zq3 {σ:St}{i:Nat}{v:V} (h:(zbh ix σ)[i]?=some (some v)):∃ j,ix[i]?=some (some j)∧σ[j]?=some (some v):=by
 unfold zbh at h
 rw [List.getElem?_map] at h
 cases e:ix[i]? with
 | none=>rw [e] at h;cases h
 | some o =>
  rw [e] at h
  have h':(o.bind fun j=>(σ[j]?).join)=some v:=Option.some.inj h
  cases o with
  | none=>cases h'
  | some j =>
   have h'':(σ[j]?).join=some v:=h'
   cases e2:σ[j]? with
   | none=>rw [e2] at h'';cases h''
   | some z =>
    rw [e2] at h''
    have:z=some v:=h''
    exact ⟨j,rfl,by rw [e2,this]⟩
theorem zkJ {pins:List (Addr×Obj)}{σ:St}{H:Hp}{s:Shared}{fp:List Addr}{h₁:Heap}{C:Addr}{tk:Nat}{m:Str→Option Value} (I:Inv X pins σ H s) (L:zaz X sc N' ix) (f:∀ b∈fp,zbb X pins H b) (fl:∀ b∈fp,b<s.heap.objs.size)
  (hC:s.heap.objs.size≤C) (hns:h₁.Ns C m) (old:∀ b o,s.heap.get? b=some o→h₁.get? b=some o) :
  Inv (zP X sc N' pins C fp s H) [] (zbh ix σ) H { s with heap:=h₁,toks:=tk }:=by
 have cof:∀ x c,(zaB X.env.cells sc.names []).lookup x=some c→X.env.cells.lookup x=some c∧(x,NameKind.free)∈sc.names:=fun x c h=>by
  rcases zfK h with h|h
  ·cases h
  ·exact h
 have rl:=ztJ (sc:=sc) (env:=X.env) I.ok.kind fun y hy hk=>(L.free y hy hk).1
 have chas:∀ x,sc.names.lookup x=some .free→∃ c,(zaB X.env.cells sc.names []).lookup x=some c∧X.env.cells.lookup x=some c:=fun x hx=>by
  have hm:(x,NameKind.free)∈sc.names:=PySem.mem_of_lookup hx
  obtain ⟨c,hc⟩:=I.ok.has x (.inl (L.free _ hm rfl).1)
  obtain ⟨c',hc'⟩:=Option.isSome_iff_exists.mp (zjA (cs:=[]) hm hc)
  exact ⟨c',hc',(cof x c' hc').1⟩
 refine ⟨⟨I.ok.mod,L.kind,I.ok.glob,I.ok.blt,hC,fun x y c h1 h2=>I.ok.inj x y c (cof x c h1).1 (cof y c h2).1,fun x hx=>?_,fun x c h=>(nomatch h),I.ok.hd,I.ok.frames,.inl rfl,fun b hb=>⟨Nat.ne_of_lt (Nat.lt_of_lt_of_le (fl b hb) hC),fun x c h=>(f b hb).2.2.2.2.1 x c (cof x c h).1⟩,
   I.bs,Nat.le_trans I.ok.bsz I.sz,fun b o e hb=>?_,fun b hb z=>?_,I.stack,I.stkFree⟩,rfl,I.bare,Un.kept old,⟨m,hns,fun i x v e1 e2 e3=>?_⟩,fun x c h=>?_,I.hok.fresh hC,fun x c h=>I.freeC x c (cof x c h).1,fun p hp=>?_,I.hok.kept old,?_,I.hdk⟩
 ·have hx':(relabel sc X.env).names.lookup x=some .cell∨(relabel sc X.env).names.lookup x=some .free:=hx
  rw [rl x] at hx'
  cases e:sc.names.lookup x with
  | none=>rw [e] at hx';simp at hx'
  | some k =>
   have hk:k = .free:=by
    cases k with
    | free=>rfl
    | cell=>exact absurd rfl (L.cell _ (PySem.mem_of_lookup e))
    | _=>rw [e] at hx';revert hx';decide
   subst hk
   obtain ⟨c,h1,_⟩:=chas x e
   exact ⟨c,h1⟩
 ·rcases (f b hb).2.2.2.1 with z|z
  ·exact I.ok.noex b o e z
  ·exact absurd (Nat.lt_of_lt_of_le (Heap.lt_size (I.ok.bs b o e).1) z) (Nat.lt_irrefl _)
 ·rcases List.mem_cons.mp (I.stkSub b z) with e|e
  ·exact (f b hb).2.1 e
  ·exact (f b hb).2.2.1 e
 ·obtain ⟨j,hj,hv⟩:=zq3 e2
  obtain ⟨y,n1,n2,n3⟩:=L.at_ i j hj
  have exy:x=y:=Option.some.inj ((show N'[i]?=some x from e1).symm.trans n1)
  subst exy
  obtain ⟨c,c1,c2⟩:=chas x n3
  have kf:=(L.free _ (PySem.mem_of_lookup n3) rfl).1
  obtain ⟨m0,hn0,hl⟩:=I.loc
  obtain ⟨u,r,l⟩:=hl j x v n2 hv (.inr (.inl kf))
  refine ⟨u,r,.inr ⟨.inl ?_,c,c1,?_⟩⟩
  ·show (relabel sc X.env).names.lookup x=some .cell
   rw [rl x,n3];rfl
  ·rcases l with ⟨hk,_⟩|⟨_,c',hc',z⟩
   ·have kf':X.env.kindOf x=some .cell:=kf
    rw [hk] at kf';cases kf'
   ·rw [c2] at hc'
    cases hc'
    obtain ⟨oc,ho,hd⟩:=z
    exact ⟨oc,old _ _ ho,hd⟩
 ·obtain ⟨v,oc,ho,hd⟩:=I.cell x c (cof x c h).1
  exact ⟨v,oc,old _ _ ho,hd⟩
 ·have hp':p∈X.pn++pins:=by
   have:p∈(X.pn++pins)++[]:=hp
   simpa using this
  obtain ⟨a,b,c,d,e⟩:=I.pin p hp'
  exact ⟨old _ _ a,b,Nat.ne_of_lt (Nat.lt_of_lt_of_le (Heap.lt_size a) hC),fun z=>(List.mem_cons.mp (I.stkSub p.1 z)).elim c d,e⟩
 ·show (zbh ix σ).length=N'.length
  unfold zbh
  rw [List.length_map,L.len]
end
def PTs (X:Cx) (ifs:List Expr) (t:TT):Prop :=
 ∀ (pins:List (Addr×Obj)) (s:Shared) (σ:St) (H:Hp) (Q:Bool→Hp→Prop),Inv X pins σ H s→t σ H Q →
  wpAny (model X.prog X.w) X.A (forIn ifs true fun c r=>if r=true then do let ok←isTrue c X.env (eval c X.env);pure (ForInStep.yield ok) else pure (ForInStep.yield r)) (TP X pins σ Q) X.xe s
def zgt:TT:=fun _ H Q=>Q true H
theorem zum {X:Cx}:PTs X [] zgt:=fun _ _ _ H _ I h=>wpAny_tests_nil ⟨H,I,h⟩
theorem zv5 {X:Cx}{c:Expr}{t:TT} (h:PT X c t):PTs X [c] t:=fun pins s σ H Q I q=>wpAny_tests_one (h pins s σ H Q I q)
theorem zkB {prog:Program}{w:World}{A:Around}{R:Result→Shared→Prop}{s:Shared}{elt target iter:Expr}{ifs:List Expr}{scope:Scope}{pos:Pos}{it acc:Value}{env:Env} (I:Nat→Shared→Prop)
  (turn:∀ n s,I n s→wpAny (model prog w) A (pyNext it) (fun r s₁=>match r with
   | none=>R (.ok .next) s₁
   | some v=>wpAny (model prog w) A (letOwnedTupleGo target it v) (fun _ s₁'=>wpAny (model prog w) A (assign target env v) (fun _ s₂ =>
     wpAny (model prog w) A (forIn ifs true fun c r=>if r=true then do let ok←isTrue c env (eval c env);pure (ForInStep.yield ok) else pure (ForInStep.yield r)) (fun ok s₃ =>
      if ok=true then wpAny (model prog w) A (eval elt env) (fun x s₄ =>
       wpAny (model prog w) A (call (.builtin "list.append") [acc,x]) (fun _ s₅=>∃ m,m<n∧I m s₅) (fun _ _=>False) s₄) (fun _ _=>False) s₃
      else ∃ m,m<n∧I m s₃) (fun _ _=>False) s₂) (fun _ _=>False) s₁') (fun _ _=>False) s₁) (fun _ _=>False) s)
  (n:Nat) (h:I n s):codeAny (model prog w) A (.compLoop (.ListComp elt [⟨target,iter,ifs,0⟩] scope pos) 0 it acc env) R s:=by
 refine codeAny_loop rfl I (fun n s hI=>?_) n h
 show wpAny _ A ((compTurn (.ListComp elt [⟨target,iter,ifs,0⟩] scope pos) 0 it acc env).onRaise (fun x=>do noteFrame x env;theTreesLotGoes x)) _ _ s
 refine wpAny_noted (wpAny_mono (E:=fun _ _=>False) ?_ (fun _ _ q=>q) fun _ _ z=>z.elim)
 rw [compTurn_list]
 refine wpAny_bind (wpAny_standAt (wpAny_bind (wpAny_mono (turn n s hI) (fun r s₁ h₁=>?_) fun _ _ h'=>h')))
 cases r with
 | none=>exact wpAny_pure h₁
 | some v =>
  refine wpAny_bind (wpAny_mono h₁ (fun _ s₁' h₁'=>?_) fun _ _ h'=>h')
  refine wpAny_bind (wpAny_mono h₁' (fun _ s₂ h₂=>wpAny_bind (wpAny_mono h₂ (fun ok s₃ h₃=>?_) fun _ _ h'=>h')) fun _ _ h'=>h')
  cases ok with
  | false=>exact wpAny_pure ⟨rfl,h₃⟩
  | true=>exact wpAny_bind (wpAny_bind (wpAny_mono h₃ (fun x s₄ h₄=>wpAny_bind (wpAny_mono h₄ (fun _ s₅ h₅=>wpAny_pure (wpAny_pure ⟨rfl,h₅⟩)) fun _ _ h'=>h')) fun _ _ h'=>h'))
def tLC (ix:List (Option Nat)) (wi:TI) (g:TG) (tt:TT) (te:TE):TE:=fun σ H Q=>wi σ H fun J H1=>∃ W:Nat→Nat→St→List V→Hp→Prop,(∃ m,W 0 m (zbh ix σ) [] H1)∧∀ i m τ ys H2,W i m τ ys H2→ys.length<sizeLine ∧
 ((J.stop i H2 ∧ ∀ D, H2 D = none → D ≠ sysModules → Q (.ref D) (upd H2 D (.lst ys))) ∨
  (J.go i H2 ∧ ∀ x H3, J.yld i H2 x H3 → g x τ H3 fun τ1 H4 => tt τ1 H4 fun ok H5 => if ok = true then te τ1 H5 fun y H6 => ∃ m', m' < m ∧ W (i + 1) m' τ1 (ys ++ [y]) H6 else ∃ m', m' < m ∧ W (i + 1) m' τ1 ys H5))
theorem znV {c:Bool}{X:Cx}{elt tg iter:Expr}{ifs:List Expr}{sc:Scope}{pos:Pos}{N':List Str}{ix:List (Option Nat)}{wi:TI}{g:TG}{tt:TT}{te:TE} (hc:c=true→X.calm=true) (L:zaz X sc N' ix) (hi:PIc c X tg iter wi)
  (hg:∀ pins C fp s H,PG (zP X sc N' pins C fp s H) tg g) (ht:∀ pins C fp s H,PTs (zP X sc N' pins C fp s H) ifs tt) (he:∀ pins C fp s H,PE (zP X sc N' pins C fp s H) elt te)
  (hs:∀ x,foldedSetIterable iter X.env x=pure x:=by intro _;rfl):PE X (.ListComp elt [⟨tg,iter,ifs,0⟩] sc pos) (tLC ix wi g tt te):=by
 intro pins s σ H Q I h
 rw [eval_ListComp]
 have hclos:closureFor sc X.env=pure (zaB X.env.cells sc.names []):=zjS fun y hy hk=>I.ok.has y.1 (.inl (L.free y hy hk).1)
 refine wpAny_comprehension_free (use:=none) rfl hs hclos L.kind L.names (thn (hi pins s σ H _ I h) fun v s1 h1=>thn h1 fun itv s2 h2=>?_)
 obtain ⟨it,fp,tn,J,H2,e,I2,T,st2,f2,W,⟨m0,w0⟩,turn⟩:=h2
 subst e
 refine wpAny_newObj_type (wpAny_newFunctionEnv L.cell (by intro y hy;simp at hy) (fun h₁ hns₁ hsb₁=>?_) L.kind)
 dsimp only at hns₁ hsb₁ ⊢
 generalize hH2:s2.heap.push { cls:=.type "list",dict:=none,data:=.seq ([]:List Value).toArray }=G2 at hns₁ hsb₁ ⊢
 have hC:G2.objs.size=s2.heap.objs.size+1:=by rw [← hH2,Heap.size_push]
 have hDC:s2.heap.objs.size≠G2.objs.size:=by rw [hC];exact Nat.ne_of_lt (Nat.lt_succ_self _)
 have hCle:s2.heap.objs.size≤G2.objs.size:=by rw [hC];exact Nat.le_succ _
 have below:∀ b,b<s2.heap.objs.size→b≠G2.objs.size∧b≠s2.heap.objs.size:=fun b hb=>⟨by rw [hC];exact Nat.ne_of_lt (Nat.lt_succ_of_lt hb),Nat.ne_of_lt hb⟩
 have old:∀ b o,s2.heap.get? b=some o→h₁.get? b=some o:=fun b o e=>hsb₁.extBut b o (below b (Heap.lt_size e)).1 (Heap.get?_push_of_some _ (hH2 ▸ Heap.get?_push_of_some _ e))
 have hacc:h₁.get? s2.heap.objs.size=some { cls:=.type "list",data:=.seq ([]:List Value).toArray 0 }:=hsb₁.extBut _ _ hDC (Heap.get?_push_of_some _ (hH2 ▸ Heap.get?_push_size _ rfl))
 have fl:∀ b∈fp,b<s2.heap.objs.size:=fun b hb=>by
  obtain ⟨o,e,_⟩:=T.obj 0 _ st2 b hb
  exact Heap.lt_size e
 have hDfp:s2.heap.objs.size∉fp:=fun z=>Nat.lt_irrefl _ (fl _ z)
 generalize hD:s2.heap.objs.size=D at *
 generalize hCe:G2.objs.size=C at *
 have cof:∀ x c,(zaB X.env.cells sc.names []).lookup x=some c→X.env.cells.lookup x=some c:=fun x c h=>by
  rcases zfK h with h|h
  ·cases h
  ·exact h.1
 have st1:tn 0 h₁:=T.keep _ _ _ st2 fun b _ o e=>old b o e
 have I3:Inv (zP X sc N' pins C fp s2 H2) [] (zbh ix σ) H2 { s2 with heap:=h₁,toks:=s2.toks+([]:List (Str×Value)).length }:=zkJ I2 L f2 (fun b hb=>by rw [hD];exact fl b hb) (by rw [hD];exact hCle) hns₁ old
 have D0:H2 D=none:=I2.hok.fresh (Nat.le_of_eq hD)
 have fD:∀ {H':Hp},H' D=none→zbb (zP X sc N' pins C fp s2 H2) [] H' D:=fun {H'} hn=>by
  refine ⟨hn,hDC,fun z=>?_,.inr (Nat.le_of_eq hD),fun x c hx z=>?_,fun p hp z=>?_⟩
  ·obtain ⟨_,o,ho,_⟩:=I2.stack.mem (show D∈frs X.stack from z)
   exact absurd (Heap.lt_size ho) (by rw [hD];exact Nat.lt_irrefl _)
  ·obtain ⟨v,q⟩:=I2.cell x c (cof x c hx)
   have:=q.lt
   rw [z,hD] at this
   exact Nat.lt_irrefl _ this
  ·have hp':p∈X.pn++pins:=by
    have:p∈(X.pn++pins)++[]:=hp
    simpa using this
   have:=Heap.lt_size (I2.pin p hp').1
   rw [z,hD] at this
   exact Nat.lt_irrefl _ this
 have fF:∀ {H':Hp},(∀ b∈fp,H' b=none)→∀ b∈fp,zbb (zP X sc N' pins C fp s2 H2) [] H' b:=fun {H'} hn b hb=>by
  obtain ⟨_,g1,g2,g3,g4,g5⟩:=f2 b hb
  refine ⟨hn b hb,(below b (fl b hb)).1,fun z=>?_,.inl hb,fun x c hx=>g4 x c (cof x c hx),fun p hp=>g5 p ?_⟩
  ·rcases List.mem_cons.mp (I2.stkSub b z) with e|e
   ·exact g1 e
   ·exact g2 e
  ·have:p∈(X.pn++pins)++[]:=hp
   simpa using this
 have loop:∀ s₃:Shared,s₃={ s2 with heap:=h₁,toks:=s2.toks+([]:List (Str×Value)).length } →
   codeAny (model X.prog X.w) X.A (.compLoop (.ListComp elt [⟨tg,iter,ifs,0⟩] sc pos) 0 (.ref it) (.ref D) (compEnvC sc (zaB X.env.cells sc.names []) C X.env))
    (compPost (model X.prog X.w) X.A X.xe none (EP X pins σ Q) (.ref D) C) s₃:=by
  rintro s₃ rfl
  refine zkB (fun n s'=>∃ i τ ys H',Inv (zP X sc N' pins C fp s2 H2) [] τ H' s'∧tn i s'.heap∧(∀ b∈fp,H' b=none)∧H' D=none∧(∃ its k,zk ys its∧s'.heap.get? D=some { cls:=.type "list",data:=.seq its.toArray k })∧W i n τ ys H')
   ?_ m0 ⟨0,_,[],H2,I3,st1,fun b hb=>(f2 b hb).1,D0,⟨[],0,.nil,hacc⟩,w0⟩
  rintro n s4 ⟨i,τ,ys,H4,I4,st4,fr4,dn4,⟨its,k,rv,dg⟩,w4⟩
  obtain ⟨hlen,step⟩:=turn i n τ ys H4 w4
  rcases step with ⟨stop,fin⟩|⟨go,step⟩
  ·refine thn (T.done (zP X sc N' pins C fp s2 H2) rfl rfl rfl hc i [(D,({ cls:=.type "list",data:=.seq its.toArray k }:Obj))] s4 τ H4 (fun _ _=>False) (I4.pins_of fun p hp=>?_) (fun b hb=>?_) st4 stop) fun r s5 ⟨hr,I5⟩=>?_
   ·have e:p=(D,{ cls:=.type "list",data:=.seq its.toArray k }):=by simpa using hp
    subst e
    obtain ⟨g0,g1,g2,_⟩:=fD dn4
    exact ⟨dg,g0,g1,g2,fun v z=>(nomatch z)⟩
   ·obtain ⟨g0,g1,g2,g3,g4,g5⟩:=fF fr4 b hb
    refine ⟨g0,g1,g2,g3,g4,fun p hp=>?_⟩
    rcases List.mem_append.mp hp with z|z
    ·exact g5 p (List.mem_append_left _ z)
    ·have e:p=(D,{ cls:=.type "list",data:=.seq its.toArray k }):=by simpa using z
     subst e
     exact fun q=>hDfp (by have q':D=b:=q;rw [q'];exact hb)
   ·subst hr
    have dg5:=(I5.pin (D,_) (List.mem_append_right _ (List.mem_singleton.mpr rfl))).1
    obtain ⟨m5,hn5,_⟩:=id I5.loc
    refine ⟨m5,hn5,fun h' hsb=>?_⟩
    have kb:∀ b u,b≠C→s5.heap.get? b=some u→h'.get? b=some u:=fun b u hb e=>(hsb.2 b hb).trans e
    have hlt:∀ b o,s2.heap.get? b=some o→b≠C∧b≠D:=fun b o e=>by
     have:=Heap.lt_size e
     rw [hD] at this
     exact below b this
    have U:=I5.base
    refine ⟨.ref D,upd H4 D (.lst ys),I2.call' (s':={ s5 with heap:=h' }) (ch:=fp) I5.os ⟨fun b o e n hb hx=>kb b o (hlt b o e).1 (U.keep b o e n hb hx),fun b o e n hb hx=>?_,fun b o e n hx=>?_,fun b o e hx=>?_,fun b xs e=>?_,fun b o u e=>?_,fun b ps e=>?_⟩ ?_ I5.bare (fun b hb=>?_),rfl,fin D dn4 (by have h:mainGlobals<s2.heap.objs.size:=(I2.mod.glob.keeps I2.bk).lt;rw [hD] at h;exact Nat.ne_of_gt (Nat.lt_trans (by decide) h))⟩
    ·obtain ⟨sl,q⟩:=U.slot b o e n hb hx
     exact ⟨sl,kb b _ (hlt b o e).1 q⟩
    ·rw [ze (hlt b o e).2]
     exact U.free b o e n hx
    ·obtain ⟨o',q⟩:=U.there b o e hx
     exact ⟨o',kb b _ (hlt b o e).1 q⟩
    ·have q:=U.tups b xs e
     rw [ze (zt q dn4)]
     exact q
    ·have q:=U.frzs b o u e
     rw [ze (zt q dn4)]
     exact q
    ·obtain ⟨more,q⟩:=U.tbls b ps e
     exact ⟨more,by rw [ze (zt q dn4)];exact q⟩
    ·refine (I5.hok.but I5.free kb).add dn4 ?_
     exact ⟨Nat.le_of_lt hlen,its,k,rv,kb _ _ hDC dg5⟩
    ·obtain ⟨_,g1,g2,g3,g4,g5⟩:=f2 b hb
     exact ⟨g3,g1,g4,g5⟩
  ·refine thn (T.item (zP X sc N' pins C fp s2 H2) rfl rfl rfl hc i [(D,({ cls:=.type "list",data:=.seq its.toArray k }:Obj))] s4 τ H4 (fun _ _=>False) (I4.pins_of fun p hp=>?_) (fun b hb=>?_) st4 go) fun r s5 ⟨u,hr,h5⟩=>?_
   ·have e:p=(D,{ cls:=.type "list",data:=.seq its.toArray k }):=by simpa using hp
    subst e
    obtain ⟨g0,g1,g2,_⟩:=fD dn4
    exact ⟨dg,g0,g1,g2,fun v z=>(nomatch z)⟩
   ·obtain ⟨g0,g1,g2,g3,g4,g5⟩:=fF fr4 b hb
    refine ⟨g0,g1,g2,g3,g4,fun p hp=>?_⟩
    rcases List.mem_append.mp hp with z|z
    ·exact g5 p (List.mem_append_left _ z)
    ·have e:p=(D,{ cls:=.type "list",data:=.seq its.toArray k }):=by simpa using z
     subst e
     exact fun q=>hDfp (by have q':D=b:=q;rw [q'];exact hb)
   ·subst hr
    refine thn h5 fun _ s6 ⟨x,H6,I6,r6,y6,st6,fr6⟩=>?_
    obtain ⟨dg6,dn6,_⟩:=I6.pin (D,_) (List.mem_append_right _ (List.mem_singleton.mpr rfl))
    have dn6':H6 D=none:=dn6
    have all6:∀ b∈D::fp,zbb (zP X sc N' pins C fp s2 H2) [] H6 b:=fun b hb=>by
     rcases List.mem_cons.mp hb with z|z
     ·subst z;exact fD dn6'
     ·exact fF fr6 b z
    have obj6:∀ b∈D::fp,∃ o,s6.heap.get? b=some o∧∀ v,o.data≠.cell v:=fun b hb=>by
     rcases List.mem_cons.mp hb with z|z
     ·subst z;exact ⟨_,dg6,fun v q=>(nomatch q)⟩
     ·exact T.obj _ _ st6 b z
    have I6':=(I6.unpinned (pins:=[])).pinned all6 obj6
    refine thn (hg pins C fp s2 H2 _ s6 τ H6 x u _ I6' r6 (step x H6 y6)) fun _ s7 ⟨τ7,H7,I7,q7⟩=>?_
    refine thn (ht pins C fp s2 H2 _ s7 τ7 H7 _ I7 q7) fun ok s8 ⟨H8,I8,q8⟩=>?_
    have back:∀ {s9:Shared}{H9:Hp},Inv (zP X sc N' pins C fp s2 H2) ([]++zdP (D::fp) s6.heap) τ7 H9 s9→s9.heap.get? D=some { cls:=.type "list",data:=.seq its.toArray k }∧H9 D=none∧tn (i+1) s9.heap∧∀ b∈fp,H9 b=none:=fun {s9 H9} I9=>by
     have pin:∀ b o,b∈D::fp→s6.heap.get? b=some o→s9.heap.get? b=some o∧H9 b=none:=fun b o hb e=>by
      have q:=I9.pin (b,o) (List.mem_append_right _ (List.mem_append_right _ (zfe hb e)))
      exact ⟨q.1,q.2.1⟩
     refine ⟨(pin D _ List.mem_cons_self dg6).1,(pin D _ List.mem_cons_self dg6).2,T.keep _ _ _ st6 fun b hb o e=>(pin b o (List.mem_cons_of_mem _ hb) e).1,fun b hb=>?_⟩
     obtain ⟨o,e,_⟩:=T.obj _ _ st6 b hb
     exact (pin b o (List.mem_cons_of_mem _ hb) e).2
    cases ok with
    | false =>
     obtain ⟨b1,b2,b3,b4⟩:=back I8
     simp only [Bool.false_eq_true,if_false] at q8 ⊢
     obtain ⟨m',hm,w'⟩:=q8
     exact ⟨m',hm,i+1,τ7,ys,H8,I8.unpinned,b3,b4,b2,⟨its,k,rv,b1⟩,w'⟩
    | true =>
     simp only [if_true] at q8 ⊢
     refine thn (he pins C fp s2 H2 _ s8 τ7 H8 _ I8 q8) fun y s9 ⟨yv,H9,I9,r9,m',hm,w'⟩=>?_
     obtain ⟨b1,b2,b3,b4⟩:=back I9
     have el:its.toArray.size≤sizeLine:=by
      have:=rv.length
      simp only [List.size_toArray]
      omega
     refine append_at (hsz:=el) b1 fun h10 sb hD10=>?_
     obtain ⟨_,g1,_,g3,g4,g5⟩:=fD b2
     refine ⟨m',hm,i+1,τ7,ys++[yv],H9,(I9.unpinned (pins:=[])).turned (t':=s9.toks) (fun b o hb e=>(sb.2 b hb).trans e) b2 g1 g3 g4 g5,T.keep _ _ _ b3 fun b hb o e=>(sb.2 b fun q=>hDfp (by rw [← q];exact hb)).trans e,b4,b2,⟨its++[y],k+1,rv.append (.cons r9 .nil),?_⟩,w'⟩
     show h10.get? D=_
     rw [hD10]
     simp
 exact codeAny_compStart_list (loop _ rfl) (T.self _ 0 _ _ _ st1 (loop _ rfl))
end L2
set_option Elab.async false
set_option linter.all false
set_option maxRecDepth 100000
set_option maxHeartbeats 4000000
namespace L2
open PySem PySem.Spec PyProof.Rows
structure zaw (B:Heap) (l:List Env) (e:Addr) (cls fl:Value) (h:Heap):Prop where
 stays:B.StaysIn h
 new:B.get? e=none
 frames:h.FunFrames B l
 obj:∃ oe vs,h.get? e=some oe∧oe.cls=cls∧oe.dict=none∧oe.data = .fields vs∧2<vs.size∧vs[2]?=some .none ∧
  (vs[1]?=some .none∨∃ T oT ts,vs[1]?=some (.ref T)∧B.get? T=none∧T≠e∧h.get? T=some oT∧oT.data = .fields ts∧ts[3]?=some fl)
section
variable {M:Model}{A:Around}{E:Value→Shared→Prop}{s:Shared}{B:Heap}{env:Env}{outer l:List Env}{L e:Addr}{cls fl:Value}
theorem ziX (o:Obj) (f:Array Value→Array Value):(o.mapFields f).dict=o.dict:=by
 obtain ⟨c,d,dt,sl⟩:=o
 cases dt <;> rfl
theorem ziV {oe:Obj}{vs:Array Value}{head:Value}{had:Bool}{Q:Unit→Shared→Prop} (hfr:A.frames=some (env::outer)) (hf:env.frame=some L) (st:B.StaysIn s.heap) (hn:B.get? e=none)
  (hl:s.heap.FunFrames B (env::outer)) (he:s.heap.get? e=some oe) (hc:oe.cls=cls) (hdi:oe.dict=none) (hd:oe.data = .fields vs) (hz:2<vs.size) (h2:vs[2]?=some .none)
  (k:∀ h',zaw B (env::outer) e cls (rawInt L) h'→s.heap.UpToSlots h'→Q () { s with heap:=h' }) :
  wpAny M A (do let a←frameOf env;let pl←entryPlaceOf L had;let b←EntryCells.newEntry head a .none (rawInt L) .none pl;setField (.ref e) 1 b) Q E s:=by
 have nfr:e∉(env::outer).filterMap (·.frame):=fun z=>by
  obtain ⟨_,o,ho,nf⟩:=hl.mem z
  rw [he] at ho
  cases ho
  exact nf vs hd
 refine wpAny_bind (wpAny_frameOf_fun hfr hl hf fun g only=>?_)
 obtain ⟨_,same,slots⟩:=only
 refine wpAny_bind (wpAny_entryPlaceOf fun pl hpl=>?_)
 have key:∀ (tb:Obj) (ts:Array Value),tb.data = .fields ts→ts[3]?=some (rawInt L)→wpAny M A (setField (.ref e) 1 (.ref g.objs.size)) Q E { s with heap:=g.push tb }:=by
  intro tb ts td t3
  have e1:g.get? e=some oe:=(same e nfr).trans he
  have e2:(g.push tb).get? e=some oe:=Heap.get?_push_of_some _ e1
  have hT:(g.push tb).get? g.objs.size=some tb:=Heap.get?_push_size _ (by rw [Obj.isFreed_of_fields td])
  have hne:g.objs.size≠e:=Nat.ne_of_gt (Heap.lt_size e1)
  have fresh:B.get? g.objs.size=none:=by
   cases q:B.get? g.objs.size with
   | none=>rfl
   | some o =>
    obtain ⟨sl,z⟩:=slots _ o (st _ o q)
    exact absurd (Heap.lt_size z) (Nat.lt_irrefl _)
  have up:∀ b o,b≠e→g.get? b=some o→((g.push tb).update e (Obj.mapFields (·.setIfInBounds 1 (.ref g.objs.size)))).get? b=some o:=fun b o hb q =>
   (Heap.get?_update_other _ _ (Ne.symm hb)).trans (Heap.get?_push_of_some _ q)
  have notE:∀ b o,s.heap.get? b=some o→(∀ ws,o.data≠.fields ws)→b≠e:=fun b o q nf z=>by
   rw [z,he] at q
   cases q
   exact nf vs hd
  have dd:=Obj.data_mapFields hd (·.setIfInBounds 1 (Value.ref g.objs.size))
  refine wpAny_setField e2 hd (by omega) (k _ ⟨fun b o q=>?_,hn,?_,?_⟩ fun b o q nf=>?_)
  ·refine up b o (fun z=>by rw [z,hn] at q;cases q) ((same b fun z=>?_).trans (st b o q))
   rw [(hl.mem z).1] at q
   cases q
  ·refine hl.of_keeps fun b o q nf=>?_
   obtain ⟨sl,z⟩:=slots b o q
   exact ⟨_,up b _ (notE b o q nf) z,rfl⟩
  ·refine ⟨_,_,Heap.get?_update_self _ e2 (Obj.isFreed_of_fields dd),(Obj.cls_mapFields _ _).trans hc,(ziX _ _).trans hdi,dd,by simpa using hz,by rw [Array.getElem?_setIfInBounds_ne (by decide)];exact h2,.inr ⟨g.objs.size,tb,ts,?_,fresh,hne,?_,td,t3⟩⟩
   ·rw [Array.getElem?_setIfInBounds_self_of_lt (by omega)]
   ·rw [Heap.get?_update_other _ _ (Ne.symm hne)]
    exact hT
  ·obtain ⟨sl,z⟩:=slots b o q
   exact ⟨sl,up b _ (notE b o q nf) z⟩
 unfold EntryCells.newEntry newFields
 refine wpAny_bind (wpAny_newObj_type ?_ (hpl.sizeOk5 _ _ _ _ _))
 exact key _ _ rfl (by simp)
theorem zhY {Q:Unit→Shared→Prop} (hfr:A.frames=some (env::outer)) (hf:env.frame=some L) (x:zaw B (env::outer) e cls fl s.heap)
  (k:∀ h',zaw B (env::outer) e cls (rawInt L) h'→s.heap.UpToSlots h'→Q () { s with heap:=h' }):wpAny M A (noteFrame (.ref e) env) Q E s:=by
 obtain ⟨st,hn,hl,oe,vs,he,hc,hdi,hd,hz,h2,h1⟩:=x
 unfold noteFrame
 simp only [hf]
 rcases h1 with h1|⟨T,oT,ts,h1,nT,Te,gT,dT,t3⟩
 ·refine wpAny_bind (wpAny_field he hd h1 ?_)
  rw [if_neg (show ¬ ((Value.none != Value.none)=true) by decide)]
  exact ziV hfr hf st hn hl he hc hdi hd hz h2 k
 ·refine wpAny_bind (wpAny_field he hd h1 ?_)
  rw [if_pos (show (Value.ref T != Value.none)=true by simp)]
  refine wpAny_bind (wpAny_field gT dT t3 ?_)
  by_cases hfl:fl=rawInt L
  ·subst hfl
   rw [if_pos (show (rawInt L == rawInt L)=true by simp)]
   exact wpAny_pure (k s.heap ⟨st,hn,hl,oe,vs,he,hc,hdi,hd,hz,h2,.inr ⟨T,oT,ts,h1,nT,Te,gT,dT,t3⟩⟩ (Heap.UpToSlots.refl _))
  ·rw [if_neg (show ¬ ((fl == rawInt L)=true) by simpa using hfl)]
   refine wpAny_bind (wpAny_setField gT dT (Array.getElem?_eq_some_iff.mp t3).1 ?_)
   have oth:∀ b,b≠T→(s.heap.update T (Obj.mapFields (·.setIfInBounds 3 Value.none))).get? b=s.heap.get? b:=fun b hb=>Heap.get?_update_other _ _ (Ne.symm hb)
   have notT:∀ b o,s.heap.get? b=some o→(∀ ws,o.data≠.fields ws)→b≠T:=fun b o q nf z=>by
    rw [z,gT] at q
    cases q
    exact nf ts dT
   refine ziV (B:=B) (cls:=cls) hfr hf (fun b o q=>?_) hn (hl.of_keeps fun b o q nf=>⟨o,(oth b (notT b o q nf)).trans q,rfl⟩) ((oth e (Ne.symm Te)).trans he) hc hdi hd hz h2 fun h' y up=>k h' y fun b o q nf=>up b o ((oth b (notT b o q nf)).trans q) nf
   exact (oth b fun z=>by rw [z,nT] at q;cases q).trans (st b o q)
theorem zeP {Q:Unit→Shared→Prop} (x:zaw B l e cls fl s.heap) (k:∀ h',zaw B l e cls .none h'→s.heap.UpToSlots h'→Q () { s with heap:=h' }):wpAny M A (setFlight (.ref e) none) Q E s:=by
 obtain ⟨st,hn,hl,oe,vs,he,hc,hdi,hd,hz,h2,h1⟩:=x
 unfold setFlight
 rcases h1 with h1|⟨T,oT,ts,h1,nT,Te,gT,dT,t3⟩
 ·refine wpAny_bind (wpAny_field he hd h1 ?_)
  rw [if_neg (show ¬ ((Value.none != Value.none)=true) by decide)]
  exact wpAny_pure (k s.heap ⟨st,hn,hl,oe,vs,he,hc,hdi,hd,hz,h2,.inl h1⟩ (Heap.UpToSlots.refl _))
 ·refine wpAny_bind (wpAny_field he hd h1 ?_)
  rw [if_pos (show (Value.ref T != Value.none)=true by simp)]
  have lt3:3<ts.size:=(Array.getElem?_eq_some_iff.mp t3).1
  have dd:=Obj.data_mapFields dT (·.setIfInBounds 3 Value.none)
  have oth:∀ b,b≠T→(s.heap.update T (Obj.mapFields (·.setIfInBounds 3 Value.none))).get? b=s.heap.get? b:=fun b hb=>Heap.get?_update_other _ _ (Ne.symm hb)
  have notT:∀ b o,s.heap.get? b=some o→(∀ ws,o.data≠.fields ws)→b≠T:=fun b o q nf z=>by
   rw [z,gT] at q
   cases q
   exact nf ts dT
  refine wpAny_setField gT dT lt3 (k _ ⟨fun b o q=>(oth b fun z=>by rw [z,nT] at q;cases q).trans (st b o q),hn,hl.of_keeps fun b o q nf=>⟨o,(oth b (notT b o q nf)).trans q,rfl⟩,oe,vs,(oth e (Ne.symm Te)).trans he,hc,hdi,hd,hz,h2,
   .inr ⟨T,_,_,h1,nT,Te,Heap.get?_update_self _ gT (Obj.isFreed_of_fields dd),dd,?_⟩⟩ fun b o q nf=>⟨o.slots,(oth b (notT b o q nf)).trans q⟩)
  rw [Array.getElem?_setIfInBounds_self_of_lt lt3]
theorem zq0 {Q:Unit→Shared→Prop} (hfr:A.frames=some (env::outer)) (hf:env.frame=some L) (x:zaw B (env::outer) e cls fl s.heap)
  (k:∀ h',zaw B outer e cls .none h'→s.heap.UpToSlots h'→Q () { s with heap:=h' }):wpAny M A (leaving env (.ref e)) Q E s:=by
 unfold leaving
 refine wpAny_bind (zhY hfr hf x fun h1 y u1=>zeP (s:={ s with heap:=h1 }) y fun h2 z u2=>?_)
 obtain ⟨a,b,⟨_,_,c⟩,d⟩:=z
 exact k h2 ⟨a,b,c,d⟩ (u1.trans u2)
end
def CXW (P:Program) (w:World):CXT:=fun outer H s E e s'=>∃ (ea C:Addr) (B:Heap) (H':Hp) (sI:Shared),e = .ref ea∧zaw B outer ea (.ref C) .none s'.heap∧Un (frs outer) [] H H' s.heap sI.heap∧HOk P w H' sI.heap ∧
 sI.os=s.os∧AllBare sI.gens∧s'.os=s.os∧AllBare s'.gens∧(∀ b o,sI.heap.get? b=some o→b∉frs outer→B.get? b=some o)∧sI.heap.UpToSlots s'.heap∧E (.ref C) none H'
def zan (X:Cx) (Ex:Addr→St→Hp→Prop):Prop:=∀ (pins:List (Addr×Obj)) (σ:St) (H:Hp) (sI:Shared) (ea C:Addr) (B:Heap) (fl:Value) (s':Shared),Inv X pins σ H sI→zaw B X.stack ea (.ref C) fl s'.heap→s'.os=sI.os→AllBare s'.gens →
 (∀ b o,sI.heap.get? b=some o→b∉frs X.stack→B.get? b=some o)→sI.heap.UpToSlots s'.heap→Ex C σ H→X.xe (.ref ea) s'
theorem zbM {X:Cx}:zan X (fun _ _ _=>False):=fun _ _ _ _ _ _ _ _ _ _ _ _ _ _ _ h=>h.elim
theorem zbO {cm:Bool}{P:Program}{w:World}{K:PySem.W.Frag}{mg:Str→Option Value}{base:Heap}{N:List Str}{qual:Str}{scope:Scope}{f:Addr}{cd:Value}{A:Around}{outer:List Env}{s:Shared}{H:Hp}{E:XK} :
  zan (zbe (CXW P w) cm P w K mg base N qual scope f cd A outer s H E) (fun C _ H'=>E (.ref C) none H'):=by
 intro pins σ H' sI ea C B fl s' I x os bare hB up q
 have ff:A.frames=some outer:=by
  have:=I.ok.frames
  cases h:A.frames with
  | none =>
   have z:(A.deeper (envOfC qual scope s.heap.objs.size f cd)).frames=none:=by
    first|(show (A.frames.map _)=none;rw [h];rfl)|simp [Around.deeper,Around.under,h]
   rw [show (zbe (CXW P w) cm P w K mg base N qual scope f cd A outer s H E).A=A.deeper (envOfC qual scope s.heap.objs.size f cd) from rfl,z] at this
   cases this
  | some l =>
   have z:=Around.frames_deeper (env:=envOfC qual scope s.heap.objs.size f cd) h
   rw [show (zbe (CXW P w) cm P w K mg base N qual scope f cd A outer s H E).A=A.deeper (envOfC qual scope s.heap.objs.size f cd) from rfl,z] at this
   have:=Option.some.inj this
   exact congrArg some (List.cons.inj this).2
 show wpAny (model P w) (A.deeper (envOfC qual scope s.heap.objs.size f cd)) (leaving (envOfC qual scope s.heap.objs.size f cd) (.ref ea)) _ _ s'
 refine zq0 (L:=s.heap.objs.size) (Around.frames_deeper ff) rfl x fun h' y u=>?_
 have hid:∀ b o,b≠s.heap.objs.size→sI.heap.get? b=some o→(PySem.W.hideAll sI.heap [s.heap.objs.size]).get? b=some o:=fun b o hb e=>PySem.W.hideAll_get _ e (by simpa using hb)
 have U:=I.base
 have lt:∀ b o,s.heap.get? b=some o→b≠s.heap.objs.size:=fun b o e=>Nat.ne_of_lt (Heap.lt_size e)
 have nl:∀ b:Addr,b∉(zbe (CXW P w) cm P w K mg base N qual scope f cd A outer s H E).ex:=fun b z=>absurd (show b∈([]:List Addr) from z) (by simp)
 refine ⟨ea,C,B,H',{ sI with heap:=PySem.W.hideAll sI.heap [s.heap.objs.size] },rfl,y,⟨fun b o e n hb _=>hid b o (lt b o e) (U.keep b o e n hb (nl b)),fun b o e n hb _=>?_,fun b o e n _=>U.free b o e n (nl b),fun b o e _=>?_,U.tups,U.frzs,U.tbls⟩,
  I.hok.but (C:=s.heap.objs.size) I.free hid,I.os,I.bare,os.trans I.os,bare,fun b o e hb=>?_,fun b o e nf=>?_,q⟩
 ·obtain ⟨sl,z⟩:=U.slot b o e n hb (nl b)
  exact ⟨sl,hid b _ (lt b o e) z⟩
 ·obtain ⟨o',z⟩:=U.there b o e (nl b)
  exact ⟨o',hid b _ (lt b o e) z⟩
 ·have e':=PySem.W.of_hideAll _ e
  refine hB b o e' fun z=>?_
  have z':b∈s.heap.objs.size::frs outer:=z
  rcases List.mem_cons.mp z' with r|r
  ·rw [r] at e
   have z9:(PySem.W.hideAll sI.heap [s.heap.objs.size]).get? s.heap.objs.size=none:=PySem.W.hideAll_none _ (by simp)
   exact absurd (z9.symm.trans e) (by simp)
  ·exact hb r
 ·exact (up.trans u) b o (PySem.W.of_hideAll _ e) nf
def XE (Ex:Addr→St→Hp→Prop) (σ:St):XK:=fun c _ H'=>∃ C,c = .ref C∧Ex C σ H'
def zfY (sp:Sp) (dvs:List V) (Ex:Addr→St→Hp→Prop) (t:TA):TE:=fun σ H Q=>t σ H fun vs H1=>sp (vs++dvs) H1 Q (XE Ex σ)
def zcc (C:Addr) (m:Str) (sp:Sp) (dvs:List V) (Ex:Addr→St→Hp→Prop) (ta:TE) (t:TA):TE:=fun σ H Q=>ta σ H fun x H1=>∃ a dx fs,x = .ref a∧H1 a=some (.ins C dx fs)∧fs.lookup m=none ∧
 t σ H1 fun vs H2=>sp (x::(vs++dvs)) H2 Q (XE Ex σ)
def zmB (C:Addr) (sp:Sp) (dvs:List V) (Ex:Addr→St→Hp→Prop) (t:TA):TE:=fun σ H Q=>t σ H fun vs H1=>∀ x dx,H1 x=none→H1 dx=none→dx≠x →
 sp (.ref x::(vs++dvs)) (upd (upd H1 dx (.own x)) x (.ins C dx [])) (fun v H2=>v = .non∧Q (.ref x) H2) (XE Ex σ)
section
variable {X:Cx}{cm:Bool}{k:Nat}{f C:Addr}{fd:FuncData}{ps:List Str}{sp:Sp}{dvs:List V}{ds:List Value}{Ex:Addr→St→Hp→Prop}{x m:Str}{p pos apos:Pos}{e o:Expr}{es:List Expr}{ta:TE}{t:TA}
theorem zan.of {pins:List (Addr×Obj)}{σ:St}{H:Hp}{s s':Shared}{v:Value} (T:zan X Ex) (I:Inv X pins σ H s) (h:CXW X.prog X.w X.stack H s (XE Ex σ) v s'):X.xe v s':=by
 obtain ⟨ea,C,B,H',sI,rfl,y,un,hok,os,bare,os',bare',hB,up,C',ec,q⟩:=h
 cases ec
 exact T pins σ H' sI ea C B .none s' (I.call' os un hok bare fun b z=>absurd z (by simp)) y (os'.trans os.symm) bare' hB up q
theorem zgu {pins:List (Addr×Obj)}{σ:St}{H:Hp}{s:Shared}{Q:VK}{us:List Value}{vs:List V} (T:zan X Ex) (F:zp X.prog X.w X.K X.mg X.base (CXW X.prog X.w) cm k f fd ps sp) (hr:zE cm k X.A) (hb:zaM X.K fd ps ds) (hd:zk dvs ds)
  (I:Inv X pins σ H s) (r:zk vs us) (h:sp (vs++dvs) H Q (XE Ex σ)):wpAny (model X.prog X.w) X.A (call (.ref f) us) (EP X pins σ Q) X.xe s:=by
 have r2:zk (vs++dvs) (us++ds):=r.append hd
 have hl:(us++ds).length=ps.length:=by rw [← r2.length];exact F.len _ _ _ _ h
 refine wpAny_call (codeAny_mono (F.run X.A X.stack s H ⟨us,[]⟩ (us++ds) (vs++dvs) Q (XE Ex σ) hr I.env0 (hb s us I.kIn hl) r2 h) fun r s' hq=>?_)
 cases r with
 | error v=>exact T.of I hq
 | ok fl =>
  cases fl with
  | ret u=>exact I.after hq
  | next=>exact False.elim hq
  | brk=>exact False.elim hq
  | cont=>exact False.elim hq
theorem ztC (T:zan X Ex) (F:zp X.prog X.w X.K X.mg X.base (CXW X.prog X.w) cm k f fd ps sp) (hr:zE cm k X.A) (hg:Gl X x) (hm:X.mg x=some (.ref f)) (hk:PySem.W.keepIn X.K (.ref f)=true) (hb:zaM X.K fd ps ds) (hd:zk dvs ds)
  (ha:PA X (e::es) t) (hdb:(x == ("__debug__":Str))=false:=by decide) (he:starEach (e::es) X.env=(false,eval e X.env)::starEach es X.env:=by rfl) (hpl:(backTo pos (starEach es X.env)).any (·.1)=false:=by rfl) :
  PE X (.Call (.Name x p) (e::es) [] pos) (zfY sp dvs Ex t):=by
 intro pins s σ H Q I h
 refine wpAny_Call_Name_kw (zde I hg hm ?_ hdb)
 refine PySem.W.callWith_K (h₀:=X.base) I.ok.mod.kin hk (thn (ha pos pins s σ H _ I h) fun us s1 ⟨vs,H1,I1,r,q⟩=>⟨I1.kIn,?_⟩) he hpl
 exact zgu T F hr hb hd I1 r q
theorem zqU {pl:Sem Bool} (he:PE X o ta) (c:Cls X.K C) (hm:zcg X.K C m f) (T:zan X Ex) (F:zp X.prog X.w X.K X.mg X.base (CXW X.prog X.w) cm k f fd ps sp) (hr:zE cm k X.A) (hb:zaM X.K fd ps ds) (hd:zk dvs ds) (ha:PA X (e::es) t)
  (hst:starEach (e::es) X.env=(false,eval e X.env)::starEach es X.env:=by rfl) (hpl:(backTo pos (starEach es X.env)).any (·.1)=false:=by rfl)
  (ht:eval (.Call (.Attribute o m apos) (e::es) [] pos) X.env=(do
   let ov←eval o X.env
   standAt apos.atName
   let (f,first)←holding [ov] (getMethod ov m pl)
   callWith pos f first (backTo pos (starEach (e::es) X.env)) (backToKw pos (keywordEach [] X.env))):=by rfl) :
  PE X (.Call (.Attribute o m apos) (e::es) [] pos) (zcc C m sp dvs Ex ta t):=by
 intro pins s σ H Q I h
 refine PySem.W.methodCall_KW (pl:=pl) (thn (he pins s σ H _ I h) fun u s1 ⟨x,H1,I1,rx,a,dx,fs,ex,ea,l,q⟩=>?_) ht
 subst ex
 obtain rfl:u=Value.ref a:=rx
 refine zeq I1 ea c hm l ?_
 refine PySem.W.callWith_K (first:=[.ref a]) (h₀:=X.base) I.ok.mod.kin hm.kp (thn (ha pos pins s1 σ H1 _ I1 q) fun us s2 ⟨vs,H2,I2,r,q2⟩=>⟨I2.kIn,?_⟩) hst hpl
 exact zgu (us:=.ref a::us) (vs:=.ref a::vs) T F hr hb hd I2 (.cons rfl r) q2
theorem zr6 {pl:Sem Bool} (he:PE X o ta) (c:Cls X.K C) (hm:zcg X.K C m f) (T:zan X Ex) (F:zp X.prog X.w X.K X.mg X.base (CXW X.prog X.w) cm k f fd ps sp) (hr:zE cm k X.A) (hb:zaM X.K fd ps ds) (hd:zk dvs ds)
  (ht:eval (.Call (.Attribute o m apos) [] [] pos) X.env=(do
   let ov←eval o X.env
   standAt apos.atName
   let (f,first)←holding [ov] (getMethod ov m pl)
   callWith pos f first (backTo pos (starEach [] X.env)) (backToKw pos (keywordEach [] X.env))):=by rfl) :
  PE X (.Call (.Attribute o m apos) [] [] pos) (zcc C m sp dvs Ex ta zbv):=by
 intro pins s σ H Q I h
 refine PySem.W.methodCall_KW (pl:=pl) (thn (he pins s σ H _ I h) fun u s1 ⟨x,H1,I1,rx,a,dx,fs,ex,ea,l,q⟩=>?_) ht
 subst ex
 obtain rfl:u=Value.ref a:=rx
 refine zeq I1 ea c hm l ?_
 exact PySem.W.callWith_K0 (first:=[.ref a]) I1.kIn hm.kp (zgu (us:=[.ref a]) (vs:=[.ref a]) T F hr hb hd I1 (.cons rfl .nil) q)
theorem zpI (M:Mk X.K C f) (T:zan X Ex) (F:zp X.prog X.w X.K X.mg X.base (CXW X.prog X.w) cm k f fd ps sp) (hr:zE cm (k+1) X.A) (hg:Gl X x) (hm:X.mg x=some (.ref C)) (hb:zaM X.K fd ps ds) (hd:zk dvs ds)
  (ha:PA X (e::es) t) (hdb:(x == ("__debug__":Str))=false:=by decide) (he:starEach (e::es) X.env=(false,eval e X.env)::starEach es X.env:=by rfl) (hpl:(backTo pos (starEach es X.env)).any (·.1)=false:=by rfl) :
  PE X (.Call (.Name x p) (e::es) [] pos) (zmB C sp dvs Ex t):=by
 intro pins s σ H Q I h
 refine wpAny_Call_Name_kw (zde I hg hm ?_ hdb)
 refine PySem.W.callWith_K (h₀:=X.base) I.ok.mod.kin M.kp (thn (ha pos pins s σ H _ I h) fun us s1 ⟨vs,H1,I1,r,q⟩=>⟨I1.kIn,?_⟩) he hpl
 have hq:=q (s1.heap.objs.size+1) s1.heap.objs.size (I1.hok.fresh (Nat.le_succ _)) (I1.hok.fresh (Nat.le_refl _)) (Nat.ne_of_lt (Nat.lt_succ_self _))
 have I2:=Inv.made (C:=C) I1
 have r2:zk (V.ref (s1.heap.objs.size+1)::(vs++dvs)) (Value.ref (s1.heap.objs.size+1)::(us++ds)):=.cons rfl (r.append hd)
 have hl:(Value.ref (s1.heap.objs.size+1)::us++ds).length=ps.length:=by
  have e:=r2.length
  rw [F.len _ _ _ _ hq] at e
  exact e.symm
 refine wpAny_call (zoy (f:=f) I1.kIn M.makes M.init (beq_iff_eq.mp M.fn) (codeAny_mono (F.run _ X.stack _ _ ⟨Value.ref (s1.heap.objs.size+1)::us,[]⟩ (Value.ref (s1.heap.objs.size+1)::(us++ds)) _ _ (XE Ex σ) (hr.make C us [])
  (I2.env0.make C us []) (hb _ (Value.ref (s1.heap.objs.size+1)::us) I2.kIn hl) r2 hq) fun r s' hq'=>?_))
 cases r with
 | error e=>exact T.of I2 hq'
 | ok fl =>
  cases fl with
  | ret u =>
   obtain ⟨v,H',I3,rv,ev,q3⟩:=I2.after hq'
   subst ev
   exact ⟨rv,⟨V.ref (s1.heap.objs.size+1),H',I3,rfl,q3⟩⟩
  | next=>exact False.elim hq'
  | brk=>exact False.elim hq'
  | cont=>exact False.elim hq'
end
theorem PS.nox {X:Cx}{st:Stmt}{t:TS} (h:PS X.nox st t):PS X st t:=fun pins s σ H D I hw =>
 wpAny_mono (h pins s σ H D (I.wish _) hw) (fun _ _ q=>q.unwish) fun _ _ z=>False.elim z
theorem Fun.okW {P:Program}{w:World}{K:PySem.W.Frag}{mg:Str→Option Value}{base:Heap}{x qual:Str}{st:Stmt}{f:Addr}{fd:FuncData}{N ps:List Str}{cm:Bool}{k:Nat}{sp:Sp} (F:Fun K x qual st f fd) (S:zz N ps (zd st)) (len:∀ vs H Q E,sp vs H Q E→vs.length=ps.length)
  (hbody:∀ (cdv:Value) (A:Around) (outer:List Env) (s:Shared) (H:Hp) (vs:List V) (Q:VK) (E:XK),zE cm k (A.deeper (envOfC qual (zd st) s.heap.objs.size f cdv))→sp vs H Q E →
   ∃ t,PSs (zbe (CXW P w) cm P w K mg base N qual (zd st) f cdv A outer s H E) (zy st) t∧t { nx:=fun _ H'=>Q .non H',rt:=Q } (start N vs) H):zp P w K mg base (CXW P w) cm (k+1) f fd ps sp:=by
 obtain ⟨oc,od,kV,doc,pm,an,cdv,ct,osl,rfl,lk,hcd⟩:=F.ex
 exact zh6 lk hcd S len fun A outer s H vs Q E hr hsp=>hbody cdv A outer s H vs Q E hr hsp
end L2
set_option Elab.async false
set_option linter.all false
set_option maxRecDepth 100000
set_option maxHeartbeats 4000000
namespace L2
open PySem PySem.Spec PyProof.Rows
def bmV:List Value:=[.type "ValueError",.type "Exception",.type "BaseException",.type "object"]
def zas (K:PySem.W.Frag) (C:Addr):Prop:=PySem.W.excIn K C bmV "ValueError.__new__"=true
structure zil (h:Heap) (C:Addr) (mro:List Value):Prop where
 ex:∃ bm N nm q bs hdct sn sub ab col dd k0 k1 k2 k3 k5 mN,mro = .ref C::bm∧h.get? C=some (excClassObj nm q C N bs bm hdct sn sub ab col dd k0 k1 k2 k3 k5 "ValueError.__new__")∧h.Ns N mN∧mN "__init__"=none∧OwnTail h bmV bm
theorem zas.obj {K:PySem.W.Frag}{C:Addr}{h:Heap} (x:zas K C) (X:K.In h):∃ cd,PySem.W.clsIn K C=some cd∧zil h C cd.mro:=by
 unfold zas PySem.W.excIn at x
 split at x
 ·rename_i dd cd sl look
  have hc:PySem.W.clsIn K C=some cd:=by
   unfold PySem.W.clsIn
   rw [look]
  refine ⟨cd,hc,?_⟩
  split at x
  ·rename_i C' bm k0 k1 k2 k3 n k5 em es
   simp only [Bool.and_eq_true,beq_iff_eq,Bool.not_eq_true'] at x
   obtain ⟨⟨⟨⟨⟨c1,c2⟩,c3⟩,c4⟩,c5⟩,c6⟩:=x
   subst c1 c2
   obtain ⟨a1,a2,a3,a4,a5,a6,a7,a8,a9,a10,a11⟩:=cd
   dsimp only at em c3 c5 c6 ⊢
   subst em c3
   obtain ⟨sl⟩:=sl
   dsimp only at es
   subst es
   exact ⟨bm,a4,a1,a5,a2,a6,a7,a8,a9,a10,dd,k0,k1,k2,k3,k5,_,rfl,X _ _ look,.of_isNs (PySem.W.isNs_of_in X c5),PySem.W.nsMap_none_of_in X c5 c6,PySem.W.tail_of_in X c4⟩
  ·cases x
 ·cases x
def zf8 (C:Addr) (Ex:Addr→St→Hp→Prop) (t:TA):TS:=fun _ σ H=>t σ H fun vs H1=>vs.length≤sizeLine∧Ex C σ H1
theorem zpe {X:Cx}{Ex:Addr→St→Hp→Prop}{C:Addr}{x:Str}{np cpos pos:Pos}{e:Expr}{es:List Expr}{t:TA} (hc:X.calm=true) (T:zan X Ex) (O:zas X.K C) (hg:Gl X x) (hm:X.mg x=some (.ref C)) (ha:PA X (e::es) t)
  (hdb:(x == ("__debug__":Str))=false:=by decide) (hst:starEach (e::es) X.env=(false,eval e X.env)::starEach es X.env:=by rfl) (hpl:(backTo cpos (starEach es X.env)).any (·.1)=false:=by rfl) :
  PS X (.Raise (some (.Call (.Name x np) (e::es) [] cpos)) none pos) (zf8 C Ex t):=by
 intro pins s σ H D I h
 obtain ⟨cd,_,⟨bm,N,nm,q,bs,hdct,sn,sub,ab,col,dd,k0,k1,k2,k3,k5,mN,em,hC,hN,hni,TL⟩⟩:=O.obj I.ok.mod.kin
 refine wpAny_Raise_call_subT (C:=C) (nm:=nm) (q:=q) (N:=N) (bs:=bs) (bm:=bm) (hdct:=hdct) (sn:=sn) (sub:=sub) (ab:=ab) (col:=col) (dd:=dd) (k0:=k0) (k1:=k1) (k2:=k2) (k3:=k3) (k5:=k5) (mN:=mN) PySem.F.excBase_ValueError (TL.hasType (by decide)) (I.ok.hd hc)
  (by rw [hst];show (false || (backTo cpos (starEach es X.env)).any (·.1))=false;rw [hpl];rfl) hni (zde I hg hm ⟨rfl,?_⟩ hdb)
 have hA:=ha cpos pins s σ H _ I h
 rw [hst] at hA ⊢
 refine Calls.evalArgs_plain (thn hA fun us s2 ⟨vs,H2,I2,r2,hz,q2⟩=>⟨rfl,by rw [← r2.length];exact hz,I2.bk _ _ hC,hN.keeps I2.bk,TL.keeps I2.bk,fun h' ea hm'=>?_⟩)
 obtain ⟨tt,he,htn,_⟩:=hm'.there
 have hin:∀ env∈X.stack,∀ a,env.frame=some a→a∈frs X.stack:=fun env hm a ha=>List.mem_filterMap.mpr ⟨env,hm,ha⟩
 refine T pins σ H2 s2 ea C (PySem.W.hideAll s2.heap (frs X.stack)) .none { s2 with heap:=h' } I2 ⟨fun b o e=>hm'.keeps b o (PySem.W.of_hideAll _ e),?_,?_,?_⟩ rfl I2.bare (fun b o e hb=>PySem.W.hideAll_get _ e hb) (fun b o e _=>⟨o.slots,hm'.keeps b o e⟩) q2
 ·cases z:(PySem.W.hideAll s2.heap (frs X.stack)).get? ea with
  | none=>rfl
  | some o =>
   have:=PySem.W.of_hideAll _ z
   rw [hm'.new] at this
   cases this
 ·exact (PySem.W.funFrames_hide I2.stack hin).of_keeps fun b o e _=>⟨o,hm'.keeps b o e,rfl⟩
 ·exact ⟨_,_,he,rfl,rfl,rfl,by simp,rfl,.inl rfl⟩
section
variable {M:Model}{A:Around}{E:Value→Shared→Prop}
theorem zlK {h:Heap}{g:Array GenState}{d:Drawn}{t:Nat}{os:OsState}{e C D:Addr}{oe:Obj}{mC mD:List Value}{Q:Bool→Shared→Prop} (OC:zil h C mC) (OD:zil h D mD) (he:h.get? e=some oe) (hcls:oe.cls = .ref C)
  (hsub:mC.contains (.ref D)=true) (hq:Q true ⟨h,g,d,t,os⟩):wpAny M A (excMatches (.ref e) (.ref D)) Q E ⟨h,g,d,t,os⟩:=by
 obtain ⟨bm,N,nm,q,bs,hdct,sn,sub,ab,col,dd,k0,k1,k2,k3,k5,mN,rfl,hC,_,_,TC⟩:=OC
 obtain ⟨bm',N',nm',q',bs',hdct',sn',sub',ab',col',dd',j0,j1,j2,j3,j5,mN',rfl,hD,_,_,TD⟩:=OD
 have b1:(Value.ref D::bm').contains (.type "BaseException")=true:=by
  rw [List.contains_cons,TD.hasType (X:="BaseException") (b:=true) (by decide),Bool.or_true]
 have b2:=tc_notTuple
 unfold excMatches
 repeat (first|(with_reducible refine wpAny_loadPart_at he ?_;rw [hcls])|with_reducible refine wpAny_loadPart_at hD ?_|(with_reducible refine wpAny_isSubtype_exc hD ?_;rw [b1])|(with_reducible refine wpAny_isSubtype_exc hC ?_;rw [hsub])|wp_step)
 exact hq
end
theorem zY.ex {P:Program}{w:World}{H:Hp}{h:Heap}{a:Addr}{o:HO} (x:zY P w H h a o):∃ ob,h.get? a=some ob:=by
 cases o with
 | lst xs=>obtain ⟨_,_,_,_,e⟩:=x;exact ⟨_,e⟩
 | tup xs=>obtain ⟨_,_,_,o,e,_⟩:=x;exact ⟨_,e⟩
 | dK kvs=>obtain ⟨_,_,_,_,o,_,_,e,_⟩:=x;exact ⟨_,e⟩
 | dT kvs=>obtain ⟨_,_,_,_,o,_,_,e,_⟩:=x;exact ⟨_,e⟩
 | set S n=>obtain ⟨o,_,_,_,e,_⟩:=x;exact ⟨_,e⟩
 | ins C dx fs=>obtain ⟨_,_,_,e,_⟩:=x;exact ⟨_,e⟩
 | own y=>exact x
 | xd fs=>obtain ⟨_,⟨_,_,_,e,_⟩,_⟩:=x;exact ⟨_,e⟩
 | rng lo hi=>obtain ⟨_,_,_,e⟩:=x;exact ⟨_,e⟩
 | frz ob u=>exact ⟨_,x.1⟩
 | tbl ps=>exact ⟨_,x⟩
 | met f y=>exact ⟨_,x⟩
 | ext φ=>exact x.2.1
abbrev cxP (X:Cx) (pins:List (Addr×Obj)):Cx:={ X with pn:=X.pn++pins }
theorem Cx.Ok.p {X:Cx} (ok:X.Ok) (pins:List (Addr×Obj)):(cxP X pins).Ok :=
 ⟨ok.mod,ok.kind,ok.glob,ok.blt,ok.above,ok.inj,ok.has,ok.cab,ok.hd,ok.frames,ok.stk,ok.exf,ok.bs,ok.bsz,ok.noex,ok.exfs,ok.funs,ok.frf⟩
theorem Inv.p {X:Cx}{pins:List (Addr×Obj)}{σ:St}{H:Hp}{s:Shared} (I:Inv X pins σ H s):Inv (cxP X pins) [] σ H s :=
 ⟨I.ok.p pins,I.os,I.bare,I.base,I.loc,I.cell,I.free,I.freeC,fun p hp=>I.pin p (by have h:p∈(X.pn++pins)++[]:=hp;simpa using h),I.hok,I.len,I.hdk⟩
theorem Inv.unp {X:Cx}{pins:List (Addr×Obj)}{σ:St}{H:Hp}{s:Shared} (ok:X.Ok) (I:Inv (cxP X pins) [] σ H s):Inv X pins σ H s :=
 ⟨ok,I.os,I.bare,I.base,I.loc,I.cell,I.free,I.freeC,fun p hp=>I.pin p (by show p∈(X.pn++pins)++[];simpa using hp),I.hok,I.len,I.hdk⟩
abbrev zes (X:Cx) (pins:List (Addr×Obj)) (Ex:Addr→St→Hp→Prop):Cx:=(cxP X pins).wish fun e s'=>∃ (ea C:Addr) (B:Heap) (H':Hp) (fl:Value) (σ:St) (sI:Shared),e = .ref ea∧Inv (cxP X pins) [] σ H' sI∧zaw B X.stack ea (.ref C) fl s'.heap ∧
 s'.os=sI.os∧AllBare s'.gens∧(∀ b o,sI.heap.get? b=some o→b∉frs X.stack→B.get? b=some o)∧sI.heap.UpToSlots s'.heap∧Ex C σ H'
theorem zfl {X:Cx}{pins:List (Addr×Obj)}{Ex:Addr→St→Hp→Prop}:zan (zes X pins Ex) Ex:=fun ps σ H sI ea C B fl s' I y os bare hB up q =>
 ⟨ea,C,B,H,fl,σ,sI,rfl,(I.unwish.pins_of fun p hp=>(nomatch hp)),y,os,bare,hB,up,q⟩
abbrev zbK (X:Cx) (pins:List (Addr×Obj)) (ea:Addr):Cx:={ X with pn:=X.pn++pins,A:=X.A.mark (some (.ref ea)),calm:=false,xe:=fun _ _=>False }
def zdt (C:Addr) (o:Obj):Prop:=o.cls = .ref C∧o.dict=none∧∃ vs,o.data = .fields vs
theorem zfR {X:Cx}{pins:List (Addr×Obj)}{σ:St}{H:Hp}{sI s':Shared}{ea C:Addr}{B:Heap}{fl:Value} (hex:X.ex=[]) (I:Inv (cxP X pins) [] σ H sI) (y:zaw B X.stack ea (.ref C) fl s'.heap) (os:s'.os=sI.os) (bare:AllBare s'.gens)
  (hB:∀ b o,sI.heap.get? b=some o→b∉frs X.stack→B.get? b=some o) (up:sI.heap.UpToSlots s'.heap) :
  H ea=none∧∃ oe,zdt C oe∧s'.heap.get? ea=some oe∧Inv (zbK X pins ea) [] σ (upd H ea (.frz oe (.own 0))) s':=by
 obtain ⟨st,hn,hl,oe,vs,he,hc,hdi,hd,hz,h2,h1⟩:=y
 have nea:ea∉frs X.stack:=fun z=>by
  obtain ⟨_,o,ho,nf⟩:=hl.mem z
  rw [he] at ho
  cases ho
  exact nf vs hd
 have new:sI.heap.get? ea=none:=by
  cases q:sI.heap.get? ea with
  | none=>rfl
  | some o =>
   have:=hB _ o q nea
   rw [hn] at this
   cases this
 have hH:H ea=none:=by
  cases q:H ea with
  | none=>rfl
  | some u =>
   obtain ⟨ob,z⟩:=(I.hok ea u q).ex
   rw [new] at z
   cases z
 have keep:∀ b o,sI.heap.get? b=some o→b∉frs X.stack→s'.heap.get? b=some o:=fun b o e hb=>st b o (hB b o e hb)
 have slot:∀ b o,sI.heap.get? b=some o→b∈frs X.stack→∃ sl,s'.heap.get? b=some { o with slots:=sl }:=fun b o e hb=>by
  obtain ⟨_,o',ho',nf⟩:=I.stack.mem (show b∈(cxP X pins).stack.filterMap (·.frame) from hb)
  rw [e] at ho'
  cases ho'
  exact up b o e nf
 have I1:Inv (cxP X pins) [] σ H s':=I.call' (ch:=[]) os ⟨fun b o e _ hb _=>keep b o e hb,fun b o e _ hb _=>slot b o e hb,fun _ _ _ n _=>n,fun b o e _=>?_,fun _ _ e=>e,fun _ _ _ e=>e,fun b ps e=>⟨#[],by rw [e];simp⟩⟩
  (fun b u e=>(I.hok b u e).stay (fun c v hc q=>keep c v q fun z=>?_) (fun _ q=>q) fun _ _ q=>q) bare fun b z=>absurd z (by simp)
 ·have nel:ea≠X.env.locals:=fun z=>by
   obtain ⟨m,⟨o,es,ep,ho,hdd,_⟩,_⟩:=I1.loc
   have ho':s'.heap.get? ea=some o:=by rw [z];exact ho
   rw [he] at ho'
   cases ho'
   rw [hd] at hdd
   cases hdd
  refine ⟨hH,oe,⟨hc,hdi,vs,hd⟩,he,⟨⟨I1.ok.mod,I1.ok.kind,I1.ok.glob,I1.ok.blt,I1.ok.above,I1.ok.inj,I1.ok.has,I1.ok.cab,fun z=>(nomatch z),I1.ok.frames,I1.ok.stk,I1.ok.exf,I1.ok.bs,I1.ok.bsz,I1.ok.noex,I1.ok.exfs,I1.ok.funs,I1.ok.frf⟩,I1.os,I1.bare,
   ⟨I1.base.keep,I1.base.slot,fun b o e n hx=>?_,I1.base.there,fun b xs e=>?_,fun b o u e=>?_,fun b ps e=>?_⟩,I1.loc,I1.cell,?_,fun x c e=>?_,fun p hp=>?_,I1.hok.add hH ⟨he,oe,he⟩,I1.len,.inr ⟨ea,oe,vs,rfl,zF,hd,h2,C,hc⟩⟩⟩
  ·obtain ⟨o',z⟩:=I.base.there b o e hx
   rw [ze (fun w=>by rw [w,new] at z;cases z)]
   exact I1.base.free b o e n hx
  ·have z:=I1.base.tups b xs e
   rw [ze (zt z hH)]
   exact z
  ·have z:=I1.base.frzs b o u e
   rw [ze (zt z hH)]
   exact z
  ·obtain ⟨more,z⟩:=I1.base.tbls b ps e
   exact ⟨more,by rw [ze (zt z hH)];exact z⟩
  ·rw [ze (Ne.symm nel)]
   exact I1.free
  ·have nc:c≠ea:=fun w=>by
    obtain ⟨v,o,ho,hdd⟩:=I1.cell x c e
    rw [w,he] at ho
    cases ho
    rw [hd] at hdd
    cases hdd
   rw [ze nc]
   exact I1.freeC x c e
  ·obtain ⟨a,b,c,d,f⟩:=I1.pin p hp
   refine ⟨a,?_,c,d,f⟩
   rw [ze fun w=>?_]
   ·exact b
   ·have:=(I.pin p hp).1
    rw [w,new] at this
    cases this
 ·by_cases hb:b∈frs X.stack
  ·obtain ⟨sl,z⟩:=slot b o e hb
   exact ⟨_,z⟩
  ·exact ⟨o,keep b o e hb⟩
 ·have zf:H c=none:=I.stkFree c z
  rcases hc with w|w
  ·rw [w] at zf
   rw [zf] at e
   cases e
  ·rw [zf] at w
   cases w
theorem Inv.unbound {X:Cx}{pins:List (Addr×Obj)}{σ:St}{H:Hp}{s:Shared}{i:Nat}{n:Str}{m:Str→Option Value}{v:Option Value}{h':Heap}{tk:Nat} (I:Inv X pins σ H s) (hN:X.N.Nodup) (hi:X.N[i]?=some n)
  (hm:s.heap.Ns X.env.locals m∧∀ (i:Nat) (x:Str) (v:V),X.N[i]?=some x→σ[i]?=some (some v)→Vis X.env.scope x→∃ u,zi v u∧zk4 X.env s.heap m x u)
  (hn':h'.Ns X.env.locals (fun x=>if x=n then v else m x)) (hs:Heap.SameBut X.env.locals s.heap h'):Inv X pins (σ.set i none) H { s with heap:=h',toks:=tk }:=by
 obtain ⟨oL,_,_,hoL,_⟩:=id hm.1
 have hiσ:i<σ.length:=by rw [I.len];exact (List.getElem?_eq_some_iff.mp hi).1
 have ne0:∀ b o,X.s₀.heap.get? b=some o→b≠X.env.locals:=fun b o e=>Nat.ne_of_lt (Nat.lt_of_lt_of_le (Heap.lt_size e) I.ok.above)
 refine ⟨I.ok,I.os,I.bare,⟨fun b o e n hb hx=>(hs.2 b (ne0 b o e)).trans (I.base.keep b o e n hb hx),fun b o e n hb hx=>?_,I.base.free,fun b o e hx=>?_,I.base.tups,I.base.frzs,I.base.tbls⟩,⟨_,hn',fun j y w e1 e2 e3=>?_⟩,fun y c e=>?_,I.free,I.freeC,fun p hp=>?_,
  I.hok.but I.free fun b u hb e=>(hs.2 b hb).trans e,by simpa using I.len,I.hdk⟩
 ·obtain ⟨sl,z⟩:=I.base.slot b o e n hb hx
  exact ⟨sl,(hs.2 b (ne0 b o e)).trans z⟩
 ·obtain ⟨o',z⟩:=I.base.there b o e hx
  exact ⟨o',(hs.2 b (ne0 b o e)).trans z⟩
 ·by_cases hj:j=i
  ·subst hj
   rw [List.getElem?_set_self hiσ] at e2
   cases e2
  ·rw [List.getElem?_set_ne (Ne.symm hj)] at e2
   obtain ⟨u,r,l⟩:=hm.2 j y w e1 e2 e3
   refine ⟨u,r,?_⟩
   have hy:y≠n:=fun q=>hj (zhS hN e1 (q ▸ hi))
   rcases l with ⟨k1,k2⟩|⟨k1,c,e,z⟩
   ·exact .inl ⟨k1,by simp [hy,k2]⟩
   ·exact .inr ⟨k1,c,e,z.sameBut hs (I.cne y c e)⟩
 ·obtain ⟨w,z⟩:=I.cell y c e
  exact ⟨w,z.sameBut hs (I.cne y c e)⟩
 ·obtain ⟨a,b,c,d,f⟩:=I.pin p hp
  exact ⟨(hs.2 p.1 c).trans a,b,c,d,f⟩
theorem Inv.unsuite {X:Cx}{pins:List (Addr×Obj)}{σ:St}{H:Hp}{s:Shared}{ea:Addr} (ok:X.Ok) (hh:X.A.handled=none) (I:Inv (zbK X pins ea) [] σ H s):Inv X pins σ H s :=
 ⟨ok,I.os,I.bare,I.base,I.loc,I.cell,I.free,I.freeC,fun p hp=>I.pin p (by show p∈(X.pn++pins)++[];simpa using hp),I.hok,I.len,.inl hh⟩
def zho (K:PySem.W.Frag) (i:Nat) (D:Addr) (tb:(Addr→St→Hp→Prop)→TS) (ts:TS):TS:=fun Z σ H =>
 tb (fun C σ' H'=>zas K C∧PySem.W.mroIn K C (.ref D)=some true∧∀ ea oe,H' ea=none→zdt C oe →
  ts { nx:=fun σ2 H2=>Z.nx (σ2.set i none) H2,rt:=Z.rt,bk:=fun σ2 H2=>Z.bk (σ2.set i none) H2,ct:=fun σ2 H2=>Z.ct (σ2.set i none) H2 } (σ'.set i (some (.ref ea))) (upd H' ea (.frz oe (.own 0)))) Z σ H
theorem zvr {X:Cx}{i:Nat}{D:Addr}{x n:Str}{np hpos pos:Pos}{body:List Stmt}{b₀:Stmt}{suite:List Stmt}{tb:(Addr→St→Hp→Prop)→TS}{ts:TS} (hc:X.calm=true) (hex:X.ex=[]) (hstk:X.stack=X.env::X.outer∧X.env.frame=some X.env.locals)
  (hN:X.N.Nodup) (hi:X.N[i]?=some n) (hlo:X.env.scope.names.lookup n=some .local) (OD:zas X.K D) (hg:Gl X x) (hm:X.mg x=some (.ref D))
  (hb:∀ pins Ex,PSs (zes X pins Ex) body (tb Ex)) (hs:∀ pins ea,PSs (zbK X pins ea) (b₀::suite) ts) (hdb:(x == ("__debug__":Str))=false:=by decide) :
  PS X (.Try body [.ExceptHandler (some (.Name x np)) (some n) (b₀::suite) hpos] [] [] pos) (zho X.K i D tb ts):=by
 intro pins s σ H Z I h
 have hh:X.A.handled=none:=I.ok.hd hc
 have hp:(X.env.scope.kind == .class || (X.env.scope.kind == .module && X.env.locals != X.env.globals))=false:=by rw [I.ok.kind];rfl
 refine wpAny_Try_except (wpAny_mono (hb pins _ [] s σ H Z (I.p.wish _) h) (fun f s1 q=>?_) fun e s1 q=>?_)
 ·cases f with
  | next =>
   obtain ⟨σ',H',J,q⟩:=q
   exact wpAny_execs_nil ⟨σ',H',Inv.unp I.ok J.unwish,q⟩
  | brk=>obtain ⟨σ',H',J,q⟩:=q;exact ⟨σ',H',Inv.unp I.ok J.unwish,q⟩
  | cont=>obtain ⟨σ',H',J,q⟩:=q;exact ⟨σ',H',Inv.unp I.ok J.unwish,q⟩
  | ret u=>obtain ⟨v,σ',H',J,r,q⟩:=q;exact ⟨v,σ',H',Inv.unp I.ok J.unwish,r,q⟩
 ·obtain ⟨ea,C,B,H',fl,σ',sI,rfl,J,y,os,bare,hB,up,OC,sub,want⟩:=q
  have fr:X.A.frames=some (X.env::X.outer):=by rw [I.ok.frames,hstk.1]
  rw [hstk.1] at y
  refine zhY fr hstk.2 y fun h2 y2 u2=>zeP (s:={ s1 with heap:=h2 }) y2 fun h3 y3 u3=>?_
  have y3':zaw B X.stack ea (.ref C) .none h3:=by rw [hstk.1];exact y3
  have up3:=(up.trans u2).trans u3
  obtain ⟨_,oe3,c3,g3,J3⟩:=zfR (s':={ s1 with heap:=h3 }) hex J y3' os bare hB up3
  obtain ⟨cdC,cC,eC⟩:=OC.obj J3.kIn
  obtain ⟨cdD,cD,eD⟩:=OD.obj J3.kIn
  have hsub:cdC.mro.contains (.ref D)=true:=by
   unfold PySem.W.mroIn at sub
   rw [cC] at sub
   simp only [Option.bind_some] at sub
   split at sub
   ·cases sub
   ·exact Option.some.inj sub
  refine wpAny_handleBy_cons (codeAny_handlers_test (zde (X:=zbK X pins ea) J3 hg hm ?_ hdb)) (by intro q;cases q)
  refine zlK (h:=h3) (g:=s1.gens) (d:=s1.drawn) (t:=s1.toks) (os:=s1.os) eC eD g3 c3.1 hsub ?_
  refine codeAny_handlers_suite_as ?_
  refine zeP (s:={ s1 with heap:=h3 }) y3 fun h4 y4 u4=>?_
  have y4':zaw B X.stack ea (.ref C) .none h4:=by rw [hstk.1];exact y4
  obtain ⟨hH4,oe4,c4,g4,J4⟩:=zfR (s':={ s1 with heap:=h4 }) hex J y4' os bare hB (up3.trans u4)
  refine zf4 (X:=zbK X pins ea) (i:=i) (v:=.ref ea) J4 hN hi (.inl hlo) rfl (fun s5 J5=>?_) (.inr hlo)
  refine wpAny_mono (hs pins ea [] s5 _ _ _ J5 (want ea oe4 hH4 c4)) (fun f s6 q6=>?_) fun _ _ z=>z.elim
  have go:∀ {σ7:St}{H7:Hp},Inv (zbK X pins ea) [] σ7 H7 s6→(∀ s7,Inv X pins (σ7.set i none) H7 s7→SP X pins Z f s7) →
    wpAny (model X.prog X.w) X.A (do bindName X.env n .none;unbindBehindTheSuite X.env n hpos) (fun _ s7=>SP X pins Z f s7) X.xe s6:=fun {σ7 H7} J7 k=>by
   have J8:=Inv.unsuite I.ok hh J7
   obtain ⟨m,hns,hl⟩:=id J8.loc
   exact wpAny_nameGoes_keeps hlo hns hp fun h' v hn' hsb=>k _ (J8.unbound hN hi ⟨hns,hl⟩ hn' hsb)
  cases f with
  | next=>obtain ⟨σ7,H7,J7,q7⟩:=q6;exact go J7 fun s7 I7=>⟨_,_,I7,q7⟩
  | brk=>obtain ⟨σ7,H7,J7,q7⟩:=q6;exact go J7 fun s7 I7=>⟨_,_,I7,q7⟩
  | cont=>obtain ⟨σ7,H7,J7,q7⟩:=q6;exact go J7 fun s7 I7=>⟨_,_,I7,q7⟩
  | ret u=>obtain ⟨v,σ7,H7,J7,r7,q7⟩:=q6;exact go J7 fun s7 I7=>⟨v,_,_,I7,r7,q7⟩
end L2
set_option Elab.async false
set_option linter.all false
set_option maxRecDepth 100000
set_option maxHeartbeats 4000000
namespace L2
open PySem PySem.Spec PyProof.Rows PySem.W
section
variable {prog:Program}{w:World}{A:Around}{E:Value→Shared→Prop}{K:Frag}{h:Heap}{g:Array GenState}{d:Drawn}{t:Nat}{os:OsState}{e C:Addr}{oe:Obj}
theorem zqv {tk:Tok}{Q:Fin→Shared→Prop} (X:K.In h) (I:InstAt h e oe C none) (f3:findIn K (.ref C) "__class__"=some (some (.builtin "object.__class__"))) (hm:mroIn K C (.type "object")=some true)
  (hq:Q (.done (.ret (.ref C))) ⟨h,g,d,t,os⟩):wpAny (model prog w) A (Builtin.«object.__getattribute__» ⟨[.ref e,.str "__class__" tk],[]⟩) Q E ⟨h,g,d,t,os⟩:=by
 have L0:=I.type (M:=model prog w)
 have L3:=looks_findIn (M:=model prog w) X f3
 have f5:=F.typeOf_object_class
 have f6:=F.slot_gs_get.lookup
 have f7:=F.slot_gs_set.lookup
 repeat (any_goals (first|assumption|with_reducible refine L0.at ?_|with_reducible refine L3.at ?_|wp_step))
 exact class_get (s:=⟨h,g,d,t,os⟩) X I hm (wpAny_pure hq)
theorem zpo {nameV:Value}{Q:Unit→Shared→Prop} (X:K.In h) (I:InstAt h e oe C none) (hb:mroIn K C (.type "BaseException")=some true) (hq:Q () ⟨h,g,d,t,os⟩) :
  wpAny (model prog w) A (checkBuiltinCall "BaseException.__getattribute__" ⟨[.ref e,nameV],[]⟩) Q E ⟨h,g,d,t,os⟩:=by
 have L0:=I.type (M:=model prog w)
 have L4:=looks_mroIn (M:=model prog w) X hb
 have c1:builtinKind "BaseException.__getattribute__"=some .slot:=by decide +kernel
 have c2:splitId "BaseException.__getattribute__"=some ("BaseException","__getattribute__"):=by decide +kernel
 have c3:=F.args_bexc_ga (.ref e) nameV
 simp only [checkBuiltinCall,c1,c2]
 refine wpAny_bind ?_
 unfold isInstance
 repeat (first|with_reducible refine L0.at ?_|with_reducible refine L4.at ?_|wp_step)
 exact hq
theorem zoM {Q:Option Value→Shared→Prop} (X:K.In h) (I:InstAt h e oe C none) (f1:findIn K (.ref C) "__getattribute__"=some (some (.builtin "BaseException.__getattribute__"))) (f2:findIn K (.ref C) "__getattr__"=some none)
  (f3:findIn K (.ref C) "__class__"=some (some (.builtin "object.__class__"))) (hm:mroIn K C (.type "object")=some true) (hb:mroIn K C (.type "BaseException")=some true) (hq:Q (some (.ref C)) ⟨h,g,d,t+1,os⟩) :
  wpAny (model prog w) A (getAttr? (.ref e) "__class__") Q E ⟨h,g,d,t,os⟩:=by
 have L0:=I.type (M:=model prog w)
 have L1:=looks_findIn (M:=model prog w) X f1
 have L2:=looks_findIn (M:=model prog w) X f2
 have f4:=PySem.F.attr_ValueError.ga.bind (.ref e)
 have x2:(Value.builtin "BaseException.__getattribute__" == Value.builtin "object.__getattribute__")=false:=by decide +kernel
 have x1:(onTheHeap (Value.ref C) && Value.builtin "BaseException.__getattribute__" == Value.builtin "object.__getattribute__")=false:=by rw [x2];rfl
 have x0:(false && onTheHeap (Value.builtin "BaseException.__getattribute__"))=false:=rfl
 unfold getAttr? getAttrBy?
 refine wpAny_bind (wpAny_mkText (wpAny_bind (wpAny_attempt ?_)))
 repeat (any_goals (first|assumption|with_reducible refine L0.at ?_|with_reducible refine L1.at ?_|with_reducible refine L2.at ?_|wp_step))
 refine codeAny_call_builtin PySem.F.attr_ValueError.ga.plain F.entry_bexc_ga (zpo X I hb (zqv X I f3 hm ?_))
 repeat (any_goals (first|assumption|wp_step))
structure zhz (K:Frag) (C:Addr):Prop where
 err:zas K C
 ga:findIn K (.ref C) "__getattribute__"=some (some (.builtin "BaseException.__getattribute__"))
 gr:findIn K (.ref C) "__getattr__"=some none
 cl:findIn K (.ref C) "__class__"=some (some (.builtin "object.__class__"))
 ob:mroIn K C (.type "object")=some true
 ba:mroIn K C (.type "BaseException")=some true
theorem zjd (O:zhz K C):KitX K (.ref e) (.ref C) (fun h=>InstAt h e oe C none) where
 ty:=fun _ _ _ I=>I.type
 it:=fun M h X I=>by
  obtain ⟨cd,_,⟨bm,N,nm,q,bs,hdct,sn,sub,ab,col,dd,k0,k1,k2,k3,k5,mN,_,hC,_⟩⟩:=O.err.obj X
  intro A' Q' E' s' k q'
  unfold isType loadHead
  exact wpAny_bind (wpAny_loadPart (k _ _ hC) (wpAny_pure q'))
 ne:=fun h tp dd its n sl X htp=>by
  obtain ⟨cd,_,⟨bm,N,nm,q,bs,hdct,sn,sub,ab,col,d1,k0,k1,k2,k3,k5,mN,_,hC,_⟩⟩:=O.err.obj X
  refine Bool.eq_false_iff.mpr fun z=>?_
  have ec:C=tp:=Value.ref.inj (beq_iff_eq.mp z)
  subst ec
  have wd:=congrArg Obj.data (Option.some.inj (hC.symm.trans htp))
  cases wd
 ca:=fun {prog w A E Q s} X I k=>by
  obtain ⟨h,g,d,t,os⟩:=s
  exact zoM X I O.ga O.gr O.cl O.ob O.ba k
end
def zhp:V→Option Value
 | .ref a=>some (.ref a)
 | .ty n=>some (.type n)
 | _=>none
inductive TyX (K:Frag) (H:Hp):V→Value→Prop where
 | of {x:V}{t:Value} (h:zbc K H x t):TyX K H x t
 | exc {a C:Addr}{o:Obj} (e:H a=some (.frz o (.own 0))) (ho:zdt C o) (O:zhz K C):TyX K H (.ref a) (.ref C)
def zeh (K:Frag):List V→Hp→VK→Prop:=fun xs H Q=>∃ x c t u b,xs=[x,c]∧zhp c=some u∧TyX K H x t∧kitOne K t u=some b∧Q (.bl b) H
theorem zdB {X:Cx}:zJ X (.builtin "isinstance") (zeh X.K):=by
 intro pins s σ H xs us Q I r h
 obtain ⟨x,c,t,u,b,rfl,hc,ty,hk,q⟩:=h
 cases r with
 | cons r1 rr =>
  cases rr with
  | cons r2 rr =>
   cases rr
   rename_i v1 v2
   have e2:v2=u:=by
    cases c with
    | ref a=>cases hc;exact r2
    | ty n=>cases hc;exact r2
    | _=>cases hc
   subst e2
   cases ty with
   | of ty=>exact zuh I r1 ty hk fun tk=>⟨.bl b,H,I.tok tk,rfl,q⟩
   | exc e ho O =>
    rename_i a C o
    obtain rfl:v1=Value.ref a:=r1
    obtain ⟨z,_⟩:=I.hok a _ e
    obtain ⟨c1,c2,vs,c3⟩:=ho
    have J:InstAt s.heap a o C none:=⟨z,c1,by unfold notCls;rw [c3],by rw [c2];trivial⟩
    exact kia_one (zjd O) I.kIn J hk (fun w=>nomatch w) fun tk=>⟨.bl b,H,I.tok tk,rfl,q⟩
end L2
set_option Elab.async false
set_option linter.all false
set_option maxRecDepth 100000
set_option maxHeartbeats 4000000
namespace L2
open PySem PySem.Spec PyProof.Rows
def Hnd (A:Around) (h:Heap):Prop:=A.handled=none∨∃ (a:Addr) (o:Obj) (vs:Array Value),A.handled=some (.ref a)∧h.get? a=some o∧o.data = .fields vs∧vs[2]?=some .none∧∃ C,o.cls = .ref C
theorem Inv.hnd {X:Cx}{pins:List (Addr×Obj)}{σ:St}{H:Hp}{s:Shared} (I:Inv X pins σ H s):Hnd X.A s.heap:=by
 rcases I.hdk with h|⟨a,o,vs,h1,h2,h3⟩
 ·exact .inl h
 ·exact .inr ⟨a,o,vs,h1,(I.hok a _ h2).1,h3⟩
theorem Hnd.keeps {A:Around}{h h':Heap} (x:Hnd A h) (k:∀ b o,(∃ C,o.cls = .ref C)→h.get? b=some o→h'.get? b=some o):Hnd A h':=by
 rcases x with x|⟨a,o,vs,h1,h2,h3,h4,h5⟩
 ·exact .inl x
 ·exact .inr ⟨a,o,vs,h1,k a o h5 h2,h3,h4,h5⟩
theorem zto:entryFor table "proto.unchain"=some Builtin.«proto.unchain»:=entryFor_of_tree (by kernel_rfl)
section
variable {prog:Program}{w:World}{A:Around}{E:Value→Shared→Prop}{s:Shared}
theorem zmt {α:Type}{e:Addr}{oe:Obj}{ws:Array Value}{Q:α→Shared→Prop} (hh:Hnd A s.heap) (he:s.heap.get? e=some oe) (hd:oe.data = .fields ws) (hz:2<ws.size) (hc:∀ C,oe.cls≠.ref C)
  (k:∀ h',Heap.SameBut e s.heap h'→(∃ o,h'.get? e=some o∧o.cls=oe.cls)→E (.ref e) { s with heap:=h' }):wpAny (model prog w) A (raiseNew (.ref e):Sem α) Q E s:=by
 unfold raiseNew
 refine wpAny_bind (wpAny_handled ?_)
 rcases hh with hh|⟨a,o,vs,h1,h2,h3,h4,C,h5⟩
 ·rw [hh]
  exact wpAny_bind (wpAny_pure (wpAny_throw (k s.heap (Heap.SameBut.refl _ _) ⟨oe,he,rfl⟩)))
 ·rw [h1]
  have ne:a≠e:=fun z=>by rw [z,he] at h2;cases h2;exact hc C h5
  dsimp only
  rw [if_pos (show (Value.ref a != Value.ref e)=true by simpa using ne)]
  refine wpAny_bind (wpAny_holding (wpAny_runValue (codeAny_builtin zto ?_)))
  refine wpAny_bind (m:=field (.ref a) 2) (wpAny_field h2 h3 h4 ?_)
  rw [if_pos (show (Value.none == Value.none)=true by rfl)]
  refine wpAny_pure (wpAny_bind ?_)
  show wpAny _ _ (setField (.ref e) 2 (.ref a)) _ _ _
  have dd:=Obj.data_mapFields hd (·.setIfInBounds 2 (Value.ref a))
  exact wpAny_setField he hd hz (wpAny_throw (k _ (Heap.SameBut.update ..) ⟨_,Heap.get?_update_self _ he (Obj.isFreed_of_fields dd),Obj.cls_mapFields _ _⟩))
theorem zlm {α:Type}{Q:α→Shared→Prop} (hh:Hnd A s.heap) (k:∀ h' e,(∀ b o,s.heap.get? b=some o→h'.get? b=some o)→(∃ o,h'.get? e=some o∧o.cls = .type "StopIteration")→E (.ref e) { s with heap:=h' }) :
  wpAny (model prog w) A (newExc (.type "StopIteration") []>>=fun e=>(raiseNew e:Sem α)) Q E s:=by
 refine wpAny_bind ?_
 simp only [newExc,newTuple]
 refine wpAny_bind (wpAny_newObj_type (wpAny_bind (m:=firstArgMember _ _) (wpAny_of_eq (a:=Value.none) (by first|rfl|(simp only [firstArgMember];rfl)) (wpAny_newObj_type ?_ (by size_fits)))) (by size_fits))
 have old:∀ (o1 o2:Obj) b o,s.heap.get? b=some o→((s.heap.push o1).push o2).get? b=some o:=fun o1 o2 b o q=>Heap.get?_push_of_some _ (Heap.get?_push_of_some _ q)
 refine zmt (hh.keeps fun b o _ q=>old _ _ b o q) (Heap.get?_push_size _ rfl) rfl (by simp;omega) (fun C z=>by cases z) fun h' sb ⟨o,g,c⟩=>k h' _ (fun b o q=>?_) ⟨o,g,c⟩
 refine (sb.2 b (fun z=>?_)).trans (old _ _ b o q)
 have:=Heap.lt_size q
 rw [z,Heap.size_push] at this
 exact absurd (Nat.lt_of_succ_lt this) (Nat.lt_irrefl _)
theorem zvH {it t:Addr}{i:Nat}{items:Array Value}{Q:Option Value→Shared→Prop} (hh:Hnd A s.heap) (hit:s.heap.IsTupleIter it t i) (ht:s.heap.IsTuple t items) (hx:items[i]?=none)
  (k:∀ h',Heap.ExtBut it s.heap h'→Q none { s with heap:=h' }):wpAny (model prog w) A (pyNext (.ref it)) Q E s:=by
 obtain ⟨o,ho,hc,hd⟩:=id hit
 obtain ⟨ol,hol,_,nl,hdl⟩:=ht
 unfold pyNext
 refine wpAny_bind (wpAny_attempt (wpAny_callSpecial?_slot (name:=Str.ofString "__next__") hit.typeIs F.slot_tuple_iterator_next (wpAny_call_entry F.slot_tuple_iterator_next hit.typeIs F.entry_tuple_iterator_next ?_ (F.args_tuple_iterator_next_1 _))))
 refine wpAny_bind (m:=field (.ref it) 0) (wpAny_field ho hd (x:=.ref t) rfl ?_)
 rw [if_neg (show ¬ ((Value.ref t == Value.none)=true) by simp)]
 refine wpAny_bind (m:=field (.ref it) 1) (wpAny_field ho hd (x:=.int i 0) rfl (wpAny_bind (m:=seqItems? (.ref t)) (wpAny_seqItems hol hdl ?_)))
 simp only [Int.toNat_natCast,hx]
 refine wpAny_bind (wpAny_rule (wpAny_bind (wpAny_setField ho hd (by simp) ?_)))
 refine zlm (hh.keeps fun b q hq e=>(Heap.get?_update_other _ _ fun z=>?_).trans e) fun h' e up ⟨o',g',c'⟩ =>
  wpAny_bind (wpAny_isInstance (T:="StopIteration") (b:=true) ⟨o',g',c'⟩ isSubtype_stop (wpAny_pure (k h' fun b q hb z=>up b q ((Heap.get?_update_other _ _ (Ne.symm hb)).trans z))))
 obtain ⟨C,hC⟩:=hq
 rw [← z,ho] at e
 cases e
 rw [hc] at hC
 cases hC
theorem ztt {env:Env}{elts:List Expr} {x1}{pos:Pos}{t:Addr}{items:Array Value}{Q:Unit→Shared→Prop} (hh:Hnd A s.heap) (ht:IsTup s.heap t items) (hn:(assignEach elts env).length=items.size) (hstar:(assignEach elts env).findIdx? (·.1)=none)
  (h:∀ h',Heap.ExtBut s.heap.objs.size s.heap h'→wpAny (model prog w) A (assignInOrder ((assignEach elts env).map (·.2)) items.toList) Q E { s with heap:=h' }):wpAny (model prog w) A (assign (.Tuple elts x1 pos) env (.ref t)) Q E s:=by
 have lt:t≠s.heap.objs.size:=by obtain ⟨o,ho,_⟩:=ht;exact Nat.ne_of_lt (Heap.lt_size ho)
 have all:List.take items.size (List.drop 0 items.toList)=items.toList:=by rw [List.drop_zero];exact List.take_of_length_le (by simp)
 have core:wpAny (model prog w) A (unpackItems (.ref t) items.size none) (fun vs s'=>∃ h',vs=items.toList∧s'={ s with heap:=h' }∧Heap.ExtBut s.heap.objs.size s.heap h') E s:=by
  unfold unpackItems
  refine wpAny_bind ?_
  unfold notIterableAtAll
  refine wpAny_bind (wpAny_specialOf ht.typeIs slot_tuple_iter.lookup (wpAny_pure ?_))
  simp only [Bool.false_eq_true,if_false]
  refine wpAny_bind (wpAny_holding (iter_tuple ht (wpAny_bind (wpAny_holding (draw_tuple lt items.size 0 _ _ ⟨_,Heap.get?_push_size _ rfl,rfl,rfl⟩ (ht.push _) (by omega) fun h1 it1 s1=>?_)))))
  rw [all,if_neg (by simp)]
  have t1:IsTup h1 t items:=(ht.push _).extBut s1.extBut lt
  have up1:∀ b o,b≠s.heap.objs.size→s.heap.get? b=some o→h1.get? b=some o:=fun b o hb e=>s1.extBut b o hb (Heap.get?_push_of_some _ e)
  refine wpAny_bind (wpAny_holding (zvH (s:={ s with heap:=h1 }) (hh.keeps fun b o _ e=>up1 b o (Nat.ne_of_lt (Heap.lt_size e)) e) it1 t1 (by simp) fun h2 e2=>?_))
  simp only [Option.isSome_none,Bool.false_eq_true,if_false]
  exact wpAny_pure ⟨h2,rfl,rfl,fun b o hb e=>e2 b o hb (up1 b o hb e)⟩
 rw [assign_Tuple]
 refine wpAny_bind (wpAny_standAt ?_)
 unfold unpack
 rw [hstar,hn]
 refine wpAny_bind (wpAny_holding (wpAny_mono core (fun vs s' ⟨h',e1,e2,x⟩=>?_) fun _ _ z=>z))
 subst e1 e2
 exact h h' x
end
end L2
set_option Elab.async false
set_option linter.all false
set_option maxRecDepth 100000
set_option maxHeartbeats 4000000
namespace L2
open PySem PySem.Spec PyProof.Rows
theorem zml {X:Cx}{pos:Pos}{es:List Expr}{k:Nat}{t:TGs}{n:Nat} (h:PGs X es t) (hl:(assignEach es X.env).length=n:=by rfl) (hst:(assignEach es X.env).findIdx? (·.1)=none:=by rfl):PG X (.Tuple es k pos) (zeB X.K n t):=by
 intro pins s σ H v u Q I r q
 obtain ⟨a,xs,rfl,hx,hn,q⟩:=q
 obtain rfl:u=Value.ref a:=r
 obtain ⟨its,rv,ht,hz⟩:=I.tuple hx
 refine ztt I.hnd ht (by rw [hl,← hn,rv.length];simp) hst fun h' ex=>?_
 have I1:Inv X pins σ H { s with heap:=h' }:=I.kept (t':=s.toks) fun b o e=>ex b o (Nat.ne_of_lt (Heap.lt_size e)) e
 have:=h pins { s with heap:=h' } σ H xs its Q I1 rv q
 simpa using this
section
variable {prog:Program}{w:World}{A:Around}{E:Value→Shared→Prop}{s:Shared}
end
def Itz (K:PySem.W.Frag) (a b:Addr):It :=
 ⟨fun i H=>∃ xs ys x y,SqL K H a xs∧SqL K H b ys∧xs[i]?=some x∧ys[i]?=some y,fun i H v H'=>∃ T x y,H T=none∧v = .ref T∧H'=upd H T (.tup [x,y])∧(∀ xs,SqL K H a xs→xs[i]?=some x)∧∀ ys,SqL K H b ys→ys[i]?=some y,
  fun i H=>∃ xs ys,SqL K H a xs∧SqL K H b ys∧xs.length≤i⟩
structure zhT (z TI TO i1 i2 l1 l2:Addr) (i:Nat) (h:Heap):Prop where
 z:IsZip h z TI TO .none
 ti:IsPair h TI (.ref i1) (.ref i2)
 to:∃ a b,IsPair h TO a b
 a:h.IsListIter i1 l1 i
 b:h.IsListIter i2 l2 i
theorem zhT.keep {z TI TO i1 i2 l1 l2:Addr}{i:Nat}{h h':Heap} (x:zhT z TI TO i1 i2 l1 l2 i h) (k:∀ b∈[z,TI,TO,i1,i2],∀ o,h.get? b=some o→h'.get? b=some o):zhT z TI TO i1 i2 l1 l2 i h':=by
 obtain ⟨a1,a2,⟨u,v,a3⟩,a4,a5⟩:=x
 exact ⟨k _ (by simp) _ a1,k _ (by simp) _ a2,⟨u,v,k _ (by simp) _ a3⟩,a4.at fun o e=>k _ (by simp) o e,a5.at fun o e=>k _ (by simp) o e⟩
end L2
set_option Elab.async false
set_option linter.all false
set_option maxRecDepth 100000
set_option maxHeartbeats 4000000
namespace L2
open PySem PySem.Spec PyProof.Rows
def eqL (xs ys:List V):Bool:=xs.length == ys.length && (List.range xs.length).all fun i=>eqV (xs.getD i .non) (ys.getD i .non)
section
variable {X:Cx}
def zk7 (K:PySem.W.Frag) (neg:Bool):R2:=fun x y H Q=>∃ a b xs ys,x = .ref a∧y = .ref b∧SqL K H a xs∧SqL K H b ys∧xs.all zS=true∧ys.all zS=true∧Q (.bl (if neg then !eqL xs ys else eqL xs ys)) H
theorem zkU {pins:List (Addr×Obj)}{σ:St}{H:Hp}{s:Shared}{a b:Addr}{xs ys:List V} (I:Inv X pins σ H s) (ha:SqL X.K H a xs) (hb:SqL X.K H b ys) (fx:xs.all zS=true) (fy:ys.all zS=true) :
  ∃ is js:List Value,s.heap.IsList a is.toArray∧s.heap.IsList b js.toArray∧xs.length=is.length∧ys.length=js.length∧∀ (A:Around) (j:Nat) (h1:j<is.toArray.size) (h2:j<js.toArray.size),SeqAt.EqAt A s is.toArray[j] js.toArray[j] (eqV (xs.getD j .non) (ys.getD j .non)):=by
 obtain ⟨is,r1,p1,_⟩:=I.list ha
 obtain ⟨js,r2,p2,_⟩:=I.list hb
 refine ⟨is,js,p1.isList,p2.isList,r1.length,r2.length,fun A j h1 h2=>?_⟩
 have l1:=r1.length
 have l2:=r2.length
 simp only [List.size_toArray] at h1 h2
 have e1:xs[j]?=some (xs.getD j .non):=by rw [List.getD_eq_getElem?_getD,List.getElem?_eq_getElem (by omega)];rfl
 have e2:ys[j]?=some (ys.getD j .non):=by rw [List.getD_eq_getElem?_getD,List.getElem?_eq_getElem (by omega)];rfl
 obtain ⟨u,g1,q1⟩:=r1.get e1
 obtain ⟨v,g2,q2⟩:=r2.get e2
 rw [List.getElem?_eq_getElem h1] at g1
 rw [List.getElem?_eq_getElem h2] at g2
 have f1:=List.all_eq_true.mp fx _ (List.mem_of_getElem? e1)
 have f2:=List.all_eq_true.mp fy _ (List.mem_of_getElem? e2)
 have z:=zkD (A:=A) (s:=s) q1 q2 f1 f2
 have w1:is.toArray[j]=u:=by simpa using Option.some.inj g1
 have w2:js.toArray[j]=v:=by simpa using Option.some.inj g2
 rw [w1,w2]
 exact z
theorem zjY (hu:X.A.units<cLine):OpR X (compareOp .Eq) (zk7 X.K false):=by
 intro pins s σ H x y v u Q I rx ry h
 obtain ⟨a,b,xs,ys,rfl,rfl,ha,hb,fx,fy,q⟩:=h
 cases rx
 cases ry
 obtain ⟨is,js,p1,p2,l1,l2,eq⟩:=zkU I ha hb fx fy
 by_cases hz:is.toArray.size=js.toArray.size
 ·refine SeqAt.eq_listAt p1 p2 hz hu (fun j h1 h2=>eq _ j h1 h2) ⟨.bl _,H,I,rfl,?_⟩
  have e:eqL xs ys=(List.range is.toArray.size).all fun j=>eqV (xs.getD j .non) (ys.getD j .non):=by
   unfold eqL
   simp only [List.size_toArray] at hz ⊢
   rw [l1,l2,hz]
   simp
  rw [← e]
  exact q
 ·refine SeqAt.eq_list_lengthsAt p1 p2 (by simpa using hz) hu ⟨.bl false,H,I,rfl,?_⟩
  have e:eqL xs ys=false:=by
   unfold eqL
   have:(xs.length == ys.length)=false:=by simp only [List.size_toArray] at hz;rw [l1,l2];simpa using hz
   rw [this,Bool.false_and]
  have q':Q (.bl (eqL xs ys)) H:=q
  rw [e] at q'
  exact q'
theorem zk1 (hu:X.A.units<cLine):OpR X (compareOp .NotEq) (zk7 X.K true):=by
 intro pins s σ H x y v u Q I rx ry h
 obtain ⟨a,b,xs,ys,rfl,rfl,ha,hb,fx,fy,q⟩:=h
 cases rx
 cases ry
 obtain ⟨is,js,p1,p2,l1,l2,eq⟩:=zkU I ha hb fx fy
 have q':Q (.bl (!eqL xs ys)) H:=q
 by_cases hz:is.toArray.size=js.toArray.size
 ·refine SeqAt.RcNeAt.lists p1 p2 hz hu (fun j h1 h2=>eq _ j h1 h2) _ _ _ _ ⟨.bl _,H,I,rfl,?_⟩
  have e:eqL xs ys=(List.range is.toArray.size).all fun j=>eqV (xs.getD j .non) (ys.getD j .non):=by
   unfold eqL
   simp only [List.size_toArray] at hz ⊢
   rw [l1,l2,hz]
   simp
  rw [← e]
  exact q'
 ·refine SeqAt.RcNeAt.lists_lengths p1 p2 (by simpa using hz) hu _ _ _ _ ⟨.bl true,H,I,rfl,?_⟩
  have e:eqL xs ys=false:=by
   unfold eqL
   have:(xs.length == ys.length)=false:=by simp only [List.size_toArray] at hz;rw [l1,l2];simpa using hz
   rw [this,Bool.false_and]
  rw [e] at q'
  exact q'
mutual
inductive za1 (H:Hp):V→PyData→Prop
 | non:za1 H .non .none
 | bl (b:Bool):za1 H (.bl b) (.bool b)
 | int (i:Int):za1 H (.int i) (.int i)
 | str (x:Str):za1 H (.str x) (.str x)
 | lst {a:Addr}{xs:List V}{ds:List PyData}:a≠sysModules→H a=some (.lst xs)→za9 H xs ds→za1 H (.ref a) (.list ds)
 | tup {a:Addr}{xs:List V}{ds:List PyData}:H a=some (.tup xs)→za9 H xs ds→za1 H (.ref a) (.tuple ds)
 | dic {a:Addr}:H a=some (.dK [])→za1 H (.ref a) (.dict [])
inductive za9 (H:Hp):List V→List PyData→Prop
 | nil:za9 H [] []
 | cons {x:V}{xs:List V}{d:PyData}{ds:List PyData}:za1 H x d→za9 H xs ds→za9 H (x::xs) (d::ds)
end
mutual
theorem za1.reads {pins:List (Addr×Obj)}{σ:St}{H:Hp}{s:Shared} (I:Inv X pins σ H s):∀ {x:V}{d:PyData}{u:Value},za1 H x d→zi x u→∃ as,Reads s.heap u d as∧sysModules∉as
 | _,_,u,.non,r=>⟨[],by cases (show u=Value.none from r);exact .none,by simp⟩
 | _,_,u,.bl b,r=>⟨[],by cases (show u=Value.bool b from r);exact .bool b,by simp⟩
 | _,_,u,.int i,r=>⟨[],by obtain ⟨t,rfl⟩:=r;exact .int i t,by simp⟩
 | _,_,u,.str x,r=>⟨[],by obtain ⟨t,rfl⟩:=r;exact .str x t,by simp⟩
 | _,_,u,.lst (a:=a) na h ds,r=>by
  obtain rfl:u=Value.ref a:=r
  obtain ⟨z,its,n,rv,e⟩:=I.hok a _ h
  obtain ⟨as,q,hn⟩:=za9.reads I ds rv
  refine ⟨a::as,.list e rfl rfl q,fun w=>?_⟩
  rcases List.mem_cons.mp w with w|w
  ·exact na w.symm
  ·exact hn w
 | _,_,u,.tup (a:=a) h ds,r=>by
  obtain rfl:u=Value.ref a:=r
  obtain ⟨z,its,rv,o,e,hc,n,hd⟩:=I.hok a _ h
  obtain ⟨as,q,hn⟩:=za9.reads I ds rv
  exact ⟨as,.tuple e hc hd q,hn⟩
 | _,_,u,.dic (a:=a) h,r=>by
  obtain rfl:u=Value.ref a:=r
  obtain ⟨z,hs,vs,kv,o,es,ep,e,ed,ee,er⟩:=I.hok a _ h
  cases kv
  have e0:es.toList=[]:=by
   have w:=er.2.1
   generalize es.toList=l at w
   cases w
   rfl
  refine ⟨[a]++[],.dict (kvs:=[]) (as:=[]) (bs:=[]) e ed.1 ee (by rw [e0];exact .nil) (by rw [e0];exact .nil),fun w=>?_⟩
  have w':sysModules=a:=by simpa using w
  rw [w'] at hs
  simp at hs
theorem za9.reads {pins:List (Addr×Obj)}{σ:St}{H:Hp}{s:Shared} (I:Inv X pins σ H s):∀ {xs:List V}{ds:List PyData}{us:List Value},za9 H xs ds→zk xs us→∃ as,ReadsAll s.heap us ds as∧sysModules∉as
 | _,_,_,.nil,.nil=>⟨[],.nil,by simp⟩
 | _,_,_,.cons d ds,.cons r rs=>by
  obtain ⟨as,q,hn⟩:=za1.reads I d r
  obtain ⟨bs,qs,hm⟩:=za9.reads I ds rs
  exact ⟨as++bs,.cons q qs,fun w=>(List.mem_append.mp w).elim hn hm⟩
end
def zkl (A:Around):List V→Hp→VK→Prop:=fun xs H Q=>∃ a d,xs=[.ref a]∧za1 H (.ref a) d∧d.showable=true∧A.units+(d.depth+1)<cLine∧d.shown.length≤sizeLine∧Q (.str d.shown) H
theorem zoh (hg:X.A.guards=some []):zJ X (.builtin "repr") (zkl X.A):=by
 intro pins s σ H xs us Q I r h
 obtain ⟨a,d,rfl,dv,hs,hu,hz,q⟩:=h
 cases r with
 | cons r1 rr =>
  cases rr
  obtain ⟨as,rd,hn⟩:=dv.reads I r1
  rename_i u
  obtain rfl:u=Value.ref a:=r1
  exact repr_of_reads' rd hs (fun _=>hn) hg hu (fun _ _ e=>e) (fun h' u tk k=>⟨.str d.shown,H,I.kept k,⟨_,rfl⟩,q⟩) hz
theorem Inv.big {pins:List (Addr×Obj)}{σ:St}{H:Hp}{s:Shared} (I:Inv X pins σ H s):sysModules<s.heap.objs.size:=by
 have h:mainGlobals<s.heap.objs.size:=(I.mod.glob.keeps I.bk).lt
 exact Nat.lt_trans (by decide) h
def zi0 (K:PySem.W.Frag) (ta:TA):TI:=fun σ H R=>ta σ H fun vs H1=>∃ a b,vs=[.ref a,.ref b]∧(∃ xs,SqL K H1 a xs)∧(∃ ys,SqL K H1 b ys)∧R (Itz K a b) H1
end
end L2
set_option Elab.async false
set_option linter.all false
set_option maxRecDepth 100000
set_option maxHeartbeats 4000000
namespace L2
open PySem PySem.Spec PyProof.Rows
theorem zE.mark {c:Bool}{k:Nat}{A:Around}{v:Option Value} (r:zE c k A):zE false k (A.mark v):=⟨fun h=>(nomatch h),r.dp,r.un,r.gd⟩
def zI:Expr→Bool
 | .Starred _ _=>false
 | _=>true
theorem zbu {e:Expr}{es:List Expr}{env:Env} (h:zI e=true):starEach (e::es) env=(false,eval e env)::starEach es env:=by
 cases e <;> first|rfl|(exact absurd (show false=true from h) Bool.false_ne_true)
def zaE (es:List Expr):Bool:=es.all zI
theorem zk8 {env:Env}:∀ {es:List Expr} (h:zaE es=true),(starEach es env).any (·.1)=false
 | [],_=>rfl
 | e::es,h=>by
  unfold zaE at h
  rw [List.all_cons,Bool.and_eq_true] at h
  rw [zbu h.1,List.any_cons,zk8 h.2]
  rfl
theorem zcd {pos:Pos}{env:Env}{es:List Expr} (h:zaE es=true):(backTo pos (starEach es env)).any (·.1)=false:=by
 have q:=zk8 (env:=env) h
 unfold backTo
 rw [List.any_map]
 exact q
theorem zbr {e:Expr}{env:Env} (h:zI e=true):starEach [e] env=[(false,eval e env)]:=(zbu h).trans rfl
section
variable {X:Cx}
theorem zol {e:Expr}{es:List Expr}{te:TE}{t:TA} (ha:PE X e te) (hr:PA X es t) (hp:zI e=true:=by rfl):PA X (e::es) (zel te t):=zbI ha hr (zbu hp)
theorem zsc {id:String}{r:List V→Hp→VK→Prop}{x:Str}{e:Expr}{es:List Expr}{t:TA}{p pos:Pos} (hc:zJ X (.builtin id) r) (hg:Gl X x) (hm:X.mg x=none) (hv:bootBuiltins x=some (.builtin id)) (ha:PA X (e::es) t) (hp:zI e=true:=by rfl) (hps:zaE es=true:=by rfl) (hn:x≠"__name__":=by decide) (hdb:(x == ("__debug__":Str))=false:=by decide):PE X (.Call (.Name x p) (e::es) [] pos) (tCB r t) :=
 zlz hc hg hm hv ha hn hdb (zbu hp) (zcd hps)
theorem zrr {T:String}{r:List V→Hp→VK→Prop}{x:Str}{e:Expr}{es:List Expr}{t:TA}{p pos:Pos} (hc:zJ X (.type T) r) (hg:Gl X x) (hm:X.mg x=none) (hv:bootBuiltins x=some (.type T)) (ha:PA X (e::es) t) (hp:zI e=true:=by rfl) (hps:zaE es=true:=by rfl) (hn:x≠"__name__":=by decide) (hdb:(x == ("__debug__":Str))=false:=by decide):PE X (.Call (.Name x p) (e::es) [] pos) (tCB r t) :=
 zmF hc hg hm hv ha hn hdb (zbu hp) (zcd hps)
theorem ztw {tg a:Expr}{ta:TA}{p pos:Pos} (hg:Gl X "range") (hm:X.mg "range"=none) (ha:PA X [a] ta) (hp:zI a=true:=by rfl):PIc true X tg (.Call (.Name "range" p) [a] [] pos) (ze9 ta):=zm2 hg hm ha (zbr hp)
theorem zpJ {Ex:Addr→St→Hp→Prop}{C:Addr}{x:Str}{np cpos pos:Pos}{e:Expr}{es:List Expr}{t:TA} (hc:X.calm=true) (T:zan X Ex) (O:zas X.K C) (hg:Gl X x) (hm:X.mg x=some (.ref C)) (ha:PA X (e::es) t) (hp:zI e=true:=by rfl) (hps:zaE es=true:=by rfl)
  (hdb:(x == ("__debug__":Str))=false:=by decide):PS X (.Raise (some (.Call (.Name x np) (e::es) [] cpos)) none pos) (zf8 C Ex t):=zpe hc T O hg hm ha hdb (zbu hp) (zcd hps)
end
structure New (H:Hp) (p:Addr) (o:HO) (H':Hp):Prop where
 no:H p=none
 at_:H' p=some o
 same:zl H H'
theorem New.mk' {H:Hp}{p:Addr}{o:HO} (h:H p=none):New H p o (upd H p o):=⟨h,zF,fun b u e=>by rw [ze (zt e h)];exact e⟩
section
variable {X:Cx}
def zfq (t:TA):TE:=fun σ H Q=>t σ H fun xs H1=>xs.length≤sizeLine∧∀ p H2,New H1 p (.lst xs) H2→p≠sysModules→Q (.ref p) H2
theorem zwd {es:List Expr}{t:TA}{pos:Pos} (h:PA X es t):PE X (.List es pos) (zfq t):=by
 intro pins s σ H Q I hq
 refine wpAny_List_spliced (thn (h pos pins s σ H _ I hq) fun us s1 ⟨xs,H1,I1,r,z,q⟩=>⟨by rw [← r.length];exact z,?_⟩)
 have hf:H1 s1.heap.objs.size=none:=I1.hok.fresh (Nat.le_refl _)
 refine ⟨.ref s1.heap.objs.size,upd H1 s1.heap.objs.size (.lst xs),I1.laid (t':=s1.toks) (fun b u e=>Heap.get?_push_of_some _ e) (Nat.le_refl _) ?_,rfl,q _ _ (.mk' hf) (Nat.ne_of_gt I1.big)⟩
 exact ⟨z,us,0,r,Heap.get?_push_size _ rfl⟩
def zgH (t:TA):TE:=fun σ H Q=>t σ H fun xs H1=>xs.length≤sizeLine∧∀ p H2,New H1 p (.tup xs) H2→Q (.ref p) H2
theorem zla {es:List Expr}{t:TA}{R R':List V→Hp→Prop} (hw:∀ xs H,R xs H→R' xs H) (h:PA X es t) (pos:Pos) (pins:List (Addr×Obj)) (s:Shared) (σ:St) (H:Hp) (I:Inv X pins σ H s) (q:t σ H R) :
  wpAny (model X.prog X.w) X.A (spliced (backTo pos (starEach es X.env))) (AP X pins σ R') X.xe s :=
 thn (h pos pins s σ H R I q) fun _ _ ⟨vs,H',a,b,c⟩=>⟨vs,H',a,b,hw _ _ c⟩
theorem zvc {es:List Expr}{t:TA} {x1}{pos:Pos} (h:PA X es t):PE X (.Tuple es x1 pos) (zgH t):=by
 have h':PA X es (fun σ H Q=>∃ R:List V→Hp→Prop,t σ H R∧∀ xs H,R xs H→Q xs H):=fun pos pins s σ H Q I ⟨R,q,hw⟩=>zla hw h pos pins s σ H I q
 intro pins s σ H Q I hq
 exact znj h' pins s σ H Q I ⟨_,hq,fun xs H1 ⟨z,q⟩=>⟨z,fun p hp=>q p _ (.mk' hp)⟩⟩
def zv2:TE:=fun _ H Q=>∀ p H2,New H p (.dK []) H2→Q (.ref p) H2
end
def uR (v:V) (q:Addr→Prop):Prop:=∃ a,v = .ref a∧q a
def zgG (to te:TE):TE:=fun σ H Q=>to σ H fun x H1=>uR x fun l=>(∃ xs,H1 l=some (.lst xs))∧te σ H1 fun y H2=>∃ xs,H2 l=some (.lst xs)∧xs.length<sizeLine∧Q .non (upd H2 l (.lst (xs++[y])))
section
variable {X:Cx}
theorem OpR.weak {f:Value→Value→Sem Value}{r r':R2} (h:OpR X f r) (hw:∀ x y H Q,r' x y H Q→r x y H Q):OpR X f r' :=
 fun pins s σ H x y v u Q I rx ry q=>h pins s σ H x y v u Q I rx ry (hw x y H Q q)
theorem zJ.weak {f:Value}{r r':List V→Hp→VK→Prop} (h:zJ X f r) (hw:∀ xs H Q,r' xs H Q→r xs H Q):zJ X f r' :=
 fun pins s σ H xs us Q I rs q=>h pins s σ H xs us Q I rs (hw xs H Q q)
theorem IxR.weak {r r':R2} (h:IxR X r) (hw:∀ x y H Q,r' x y H Q→r x y H Q):IxR X r' :=
 fun value slice pins s σ H x y v u Q I rx ry q hs=>h value slice pins s σ H x y v u Q I rx ry (hw x y H Q q) hs
def za8:R2:=fun x y H Q=>(∃ i j,x = .int i∧y = .int j∧Q (.int (i+j)) H)∨(∃ i j,x = .str i∧y = .str j∧i.length+j.length≤sizeLine∧Q (.str (i++j)) H) ∨
 (∃ l b xs zs,x = .ref l∧y = .ref b∧H l=some (.lst xs)∧H b=some (.lst zs)∧xs.length+zs.length≤sizeLine∧∀ p H2,New H p (.lst (xs++zs)) H2→Q (.ref p) H2)
theorem zaC:OpR X (binaryOp .Add) za8:=zuD.or (zmK.or (zv8.weak fun x y H Q h=>by
 obtain ⟨l,b,xs,zs,e1,e2,h1,h2,h3,h4⟩:=h
 exact ⟨l,b,xs,zs,e1,e2,h1,h2,h3,fun p hp=>h4 p _ (.mk' hp)⟩))
def zct:R2:=fun x y H Q=>(∃ i j,x = .int i∧y = .int j∧zed i j∧Q (.int (i*j)) H) ∨
 (∃ l k xs,x = .ref l∧y = .int k∧H l=some (.lst xs)∧-(2 ^ 63)≤k∧k<2 ^ 63∧xs.length*k.toNat≤sizeLine∧∀ p H2,New H p (.lst (List.replicate k.toNat xs).flatten) H2→Q (.ref p) H2)
theorem zuS:OpR X (binaryOp .Mult) zct:=zmN.or (zmQ.weak fun x y H Q h=>by
 obtain ⟨l,k,xs,e1,e2,h1,h2,h3,h5,h4⟩:=h
 exact ⟨l,k,xs,e1,e2,h1,h2,h3,h5,fun p hp=>h4 p _ (.mk' hp)⟩)
def uIx:R2:=fun x y H Q=>(∃ p xs i v,x = .ref p∧y = .int i∧H p=some (.lst xs)∧atI xs i=some v∧Q v H) ∨
 (∃ p xs i v,x = .ref p∧y = .int i∧H p=some (.tup xs)∧atI xs i=some v∧Q v H)∨(∃ z i c,x = .str z∧y = .int i∧z.length≤sizeLine∧atI z.cps.toList i=some c∧Q (.str ⟨#[c]⟩) H)
theorem zQ:IxR X uIx:=zrm.weak fun x y H Q h=>by
 rcases h with ⟨p,xs,i,v,e1,e2,h,r⟩|⟨p,xs,i,v,e1,e2,h,r⟩|h
 ·exact .inl ⟨p,xs,i,v,e1,e2,SqL.of h,r⟩
 ·exact .inr (.inl ⟨p,xs,i,v,e1,e2,SqT.of h,r⟩)
 ·exact .inr (.inr h)
def zeH:List V→Hp→VK→Prop:=fun xs H Q=>(∃ p ys,xs=[.ref p]∧H p=some (.lst ys)∧Q (.int ys.length) H)∨(∃ p ys,xs=[.ref p]∧H p=some (.tup ys)∧Q (.int ys.length) H) ∨
 (∃ z,xs=[.str z]∧z.length≤sizeLine∧Q (.int z.length) H)
theorem zaQ:zJ X (.builtin "len") zeH:=(zfA.or zsW).weak fun xs H Q h=>by
 rcases h with ⟨p,ys,e,h,q⟩|⟨p,ys,e,h,q⟩|h
 ·exact .inl ⟨p,ys,e,.inl (SqL.of h),q⟩
 ·exact .inl ⟨p,ys,e,.inr (SqT.of h),q⟩
 ·exact .inr h
def uEq (neg:Bool):R2:=fun x y H Q=>(zbJ x y=true∧Q (.bl (if neg then !decide (x=y) else decide (x=y))) H) ∨
 (∃ a b xs ys,x = .ref a∧y = .ref b∧H a=some (.lst xs)∧H b=some (.lst ys)∧xs.all zS=true∧ys.all zS=true∧Q (.bl (if neg then !eqL xs ys else eqL xs ys)) H)
theorem zaL (hu:X.A.units<cLine):OpR X (compareOp .Eq) (uEq false):=(zsX.or (zjY hu)).weak fun x y H Q h=>by
 rcases h with h|⟨a,b,xs,ys,e1,e2,h1,h2,r⟩
 ·exact .inl ⟨h.1,by simpa using h.2⟩
 ·exact .inr ⟨a,b,xs,ys,e1,e2,SqL.of h1,SqL.of h2,r⟩
theorem zbW (hu:X.A.units<cLine):OpR X (compareOp .NotEq) (uEq true):=(zmy.or (zk1 hu)).weak fun x y H Q h=>by
 rcases h with h|⟨a,b,xs,ys,e1,e2,h1,h2,r⟩
 ·exact .inl ⟨h.1,by simpa using h.2⟩
 ·exact .inr ⟨a,b,xs,ys,e1,e2,SqL.of h1,SqL.of h2,r⟩
def zfx (K:PySem.W.Frag) (ta:TE):TT:=fun σ H Q=>ta σ H fun x H'=>∃ k,zcB K x H' k∧Q k H'
theorem zjo {a:Expr}{ta:TE} (ha:PE X a ta) (he:∀ whole,isTrue a X.env whole=(do let v←whole;standAt a.pos;holding [v] (truthy v)):=by intro _;rfl):PT X a (zfx X.K ta):=zpZ ha he
def zff (C:Addr) (ta:TE) (f:Str):TE:=fun σ H Q=>ta σ H fun x H1=>∃ a dx fs v,x = .ref a∧H1 a=some (.ins C dx fs)∧fs.lookup f=some v∧Q v H1
theorem zpB {C:Addr}{e:Expr}{ta:TE}{f:Str}{pos:Pos} (c:Cls X.K C) (n:zaP X.K C f) (he:PE X e ta) (hb:attributeBase e f X.env (eval e X.env)=eval e X.env:=by rfl):PE X (.Attribute e f pos) (zff C ta f):=by
 intro pins s σ H Q I h
 refine znh hb (thn (he pins s σ H _ I h) fun u s1 ⟨x,H1,I1,rx,a,dx,fs,v,ex,ea,l,q⟩=>?_)
 subst ex
 obtain rfl:u=Value.ref a:=rx
 exact zlW I1 ea c n l fun u' s2 I2 ru=>⟨v,H1,I2,ru,q⟩
def zfU (C:Addr) (ta tv:TE) (f:Str):TS:=fun D σ H=>tv σ H fun y H1=>ta σ H1 fun x H2=>∃ a dx fs,x = .ref a∧H2 a=some (.ins C dx fs)∧fs.length<1000∧D.nx σ (upd H2 a (.ins C dx (zL f y fs)))
theorem znY {C:Addr}{o value:Expr}{ta tv:TE}{f:Str}{pos pos':Pos} (c:Cls X.K C) (n:zaP X.K C f) (ha:PE X o ta) (hv:PE X value tv) (hs:swapsWith value (some (.Attribute o f pos')) pos.line X.env=pure false:=by rfl):PS X (.Assign [.Attribute o f pos'] value pos) (zfU C ta tv f):=by
 intro pins s σ H D I h
 refine plainObj_wpAny_Assign_Attribute (thn (hv pins s σ H _ I h) fun u s1 ⟨y,H1,I1,ry,q⟩=>thn (ha pins s1 σ H1 _ I1 q) fun ov s2 ⟨x,H2,I2,rx,a,dx,fs,ex,ea,l,q2⟩=>?_) hs
 subst ex
 obtain rfl:ov=Value.ref a:=rx
 exact zlq I2 ea c n l ry fun s3 I3=>⟨σ,_,I3,q2⟩
structure GF (P:Program) (w:World) (K:PySem.W.Frag) (mg:Str→Option Value) (base:Heap) (cm:Bool) (k:Nat) (x:Str) (ps:List Str) (sp:Sp):Prop where
 ex:∃ (f:Addr) (fd:FuncData),zp P w K mg base CX0 cm k f fd ps sp∧mg x=some (.ref f)∧PySem.W.keepIn K (.ref f)=true∧zaM K fd ps []
structure GX (P:Program) (w:World) (K:PySem.W.Frag) (mg:Str→Option Value) (base:Heap) (cm:Bool) (k:Nat) (x:Str) (ps:List Str) (sp:Sp):Prop where
 ex:∃ (f:Addr) (fd:FuncData),zp P w K mg base (CXW P w) cm k f fd ps sp∧mg x=some (.ref f)∧PySem.W.keepIn K (.ref f)=true∧zaM K fd ps []
structure GM (P:Program) (w:World) (K:PySem.W.Frag) (mg:Str→Option Value) (base:Heap) (cm:Bool) (k:Nat) (C:Addr) (m:Str) (ps:List Str) (sp:Sp):Prop where
 ex:∃ (f:Addr) (fd:FuncData),zp P w K mg base CX0 cm k f fd ps sp∧zcg K C m f∧zaM K fd ps []
structure GMX (P:Program) (w:World) (K:PySem.W.Frag) (mg:Str→Option Value) (base:Heap) (cm:Bool) (k:Nat) (C:Addr) (m:Str) (ps:List Str) (sp:Sp):Prop where
 ex:∃ (f:Addr) (fd:FuncData),zp P w K mg base (CXW P w) cm k f fd ps sp∧zcg K C m f∧zaM K fd ps []
structure GCX (P:Program) (w:World) (K:PySem.W.Frag) (mg:Str→Option Value) (base:Heap) (cm:Bool) (k:Nat) (x:Str) (C:Addr) (ps:List Str) (sp:Sp):Prop where
 ex:∃ (f:Addr) (fd:FuncData),zp P w K mg base (CXW P w) cm k f fd ps sp∧mg x=some (.ref C)∧Mk K C f∧zaM K fd ps []
variable {cm:Bool}{k j:Nat}{x m:Str}{C:Addr}{ps:List Str}{sp:Sp}{e o:Expr}{es:List Expr}{t:TA}{ta:TE}{p pos apos:Pos}{Ex:Addr→St→Hp→Prop}
theorem zrN (G:GF X.prog X.w X.K X.mg X.base cm j x ps sp) (hr:zE cm k X.A) (hg:Gl X x) (ha:PA X (e::es) t) (hj:j≤k:=by decide) (hdb:(x == ("__debug__":Str))=false:=by decide) (hp:zI e=true:=by rfl) (hps:zaE es=true:=by rfl) :
  PE X (.Call (.Name x p) (e::es) [] pos) (zeJ sp [] E0 t):=by
 obtain ⟨f,fd,F,hm,hk,hb⟩:=G.ex
 exact zwb F (hr.mono hj) hg hm hk hb .nil zhl ha hdb (zbu hp) (zcd hps)
theorem zst (T:zan X Ex) (G:GX X.prog X.w X.K X.mg X.base cm j x ps sp) (hr:zE cm k X.A) (hg:Gl X x) (ha:PA X (e::es) t) (hj:j≤k:=by decide) (hdb:(x == ("__debug__":Str))=false:=by decide) (hp:zI e=true:=by rfl) (hps:zaE es=true:=by rfl) :
  PE X (.Call (.Name x p) (e::es) [] pos) (zfY sp [] Ex t):=by
 obtain ⟨f,fd,F,hm,hk,hb⟩:=G.ex
 exact ztC T F (hr.mono hj) hg hm hk hb .nil ha hdb (zbu hp) (zcd hps)
theorem znB {pl:Sem Bool} (he:PE X o ta) (c:Cls X.K C) (G:GM X.prog X.w X.K X.mg X.base cm j C m ps sp) (hr:zE cm k X.A) (ha:PA X (e::es) t) (hj:j≤k:=by decide)
  (hp:zI e=true:=by rfl) (hps:zaE es=true:=by rfl)
  (ht:eval (.Call (.Attribute o m apos) (e::es) [] pos) X.env=(do
   let ov←eval o X.env
   standAt apos.atName
   let (f,first)←holding [ov] (getMethod ov m pl)
   callWith pos f first (backTo pos (starEach (e::es) X.env)) (backToKw pos (keywordEach [] X.env))):=by rfl) :
  PE X (.Call (.Attribute o m apos) (e::es) [] pos) (zcq C m sp [] E0 ta t):=by
 obtain ⟨f,fd,F,hm,hb⟩:=G.ex
 exact zog he c hm F (hr.mono hj) hb .nil zhl ha (zbu hp) (zcd hps) ht
theorem zny {pl:Sem Bool} (he:PE X o ta) (c:Cls X.K C) (G:GM X.prog X.w X.K X.mg X.base cm j C m ps sp) (hr:zE cm k X.A) (hj:j≤k:=by decide)
  (ht:eval (.Call (.Attribute o m apos) [] [] pos) X.env=(do
   let ov←eval o X.env
   standAt apos.atName
   let (f,first)←holding [ov] (getMethod ov m pl)
   callWith pos f first (backTo pos (starEach [] X.env)) (backToKw pos (keywordEach [] X.env))):=by rfl) :
  PE X (.Call (.Attribute o m apos) [] [] pos) (zcq C m sp [] E0 ta zbv):=by
 obtain ⟨f,fd,F,hm,hb⟩:=G.ex
 exact zp1 he c hm F (hr.mono hj) hb .nil zhl ht
theorem zoY {pl:Sem Bool} (he:PE X o ta) (c:Cls X.K C) (T:zan X Ex) (G:GMX X.prog X.w X.K X.mg X.base cm j C m ps sp) (hr:zE cm k X.A) (ha:PA X (e::es) t) (hj:j≤k:=by decide)
  (hp:zI e=true:=by rfl) (hps:zaE es=true:=by rfl)
  (ht:eval (.Call (.Attribute o m apos) (e::es) [] pos) X.env=(do
   let ov←eval o X.env
   standAt apos.atName
   let (f,first)←holding [ov] (getMethod ov m pl)
   callWith pos f first (backTo pos (starEach (e::es) X.env)) (backToKw pos (keywordEach [] X.env))):=by rfl) :
  PE X (.Call (.Attribute o m apos) (e::es) [] pos) (zcc C m sp [] Ex ta t):=by
 obtain ⟨f,fd,F,hm,hb⟩:=G.ex
 exact zqU he c hm T F (hr.mono hj) hb .nil ha (zbu hp) (zcd hps) ht
theorem zv9 {pl:Sem Bool} (he:PE X o ta) (c:Cls X.K C) (T:zan X Ex) (G:GMX X.prog X.w X.K X.mg X.base cm j C m ps sp) (hr:zE cm k X.A) (hj:j≤k:=by decide)
  (ht:eval (.Call (.Attribute o m apos) [] [] pos) X.env=(do
   let ov←eval o X.env
   standAt apos.atName
   let (f,first)←holding [ov] (getMethod ov m pl)
   callWith pos f first (backTo pos (starEach [] X.env)) (backToKw pos (keywordEach [] X.env))):=by rfl) :
  PE X (.Call (.Attribute o m apos) [] [] pos) (zcc C m sp [] Ex ta zbv):=by
 obtain ⟨f,fd,F,hm,hb⟩:=G.ex
 exact zr6 he c hm T F (hr.mono hj) hb .nil ht
structure zfW (H:Hp) (C x dx:Addr) (H':Hp):Prop where
 no:H x=none
 nod:H dx=none
 ne:dx≠x
 at_:H' x=some (.ins C dx [])
 own:H' dx=some (.own x)
 same:zl H H'
theorem zfW.mk' {H:Hp}{C x dx:Addr} (h:H x=none) (hd:H dx=none) (ne:dx≠x):zfW H C x dx (upd (upd H dx (.own x)) x (.ins C dx [])) :=
 ⟨h,hd,ne,zF,by rw [ze ne,zF],fun b u e=>by rw [ze (zt e h),ze (zt e hd)];exact e⟩
def zpn (C:Addr) (sp:Sp) (t:TA):TE:=fun σ H Q=>t σ H fun vs H1=>∀ x dx H2,zfW H1 C x dx H2→sp (.ref x::vs) H2 (fun v H3=>v = .non∧Q (.ref x) H3) E0
def zhc (C:Addr) (sp:Sp) (Ex:Addr→St→Hp→Prop) (t:TA):TE:=fun σ H Q=>t σ H fun vs H1=>∀ x dx H2,zfW H1 C x dx H2→sp (.ref x::vs) H2 (fun v H3=>v = .non∧Q (.ref x) H3) (XE Ex σ)
theorem PA.any {es:List Expr}{t:TA} (h:PA X es t):PA X es (fun σ H Q=>∃ R:List V→Hp→Prop,t σ H R∧∀ xs H,R xs H→Q xs H):=fun pos pins s σ H Q I ⟨R,q,hw⟩=>zla hw h pos pins s σ H I q
theorem zuk (T:zan X Ex) (G:GCX X.prog X.w X.K X.mg X.base cm j x C ps sp) (hr:zE cm k X.A) (hg:Gl X x) (ha:PA X (e::es) t) (hj:j+1≤k:=by decide) (hdb:(x == ("__debug__":Str))=false:=by decide) (hp:zI e=true:=by rfl) (hps:zaE es=true:=by rfl) :
  PE X (.Call (.Name x p) (e::es) [] pos) (zhc C sp Ex t):=by
 obtain ⟨f,fd,F,hm,M,hb⟩:=G.ex
 intro pins s σ H Q I h
 exact zpI M T F (hr.mono hj) hg hm hb .nil ha.any hdb (zbu hp) (zcd hps) pins s σ H Q I ⟨_,h,fun vs H1 q x dx hx hd ne=>by rw [List.append_nil];exact q x dx _ (.mk' hx hd ne)⟩
theorem zjl {v:V}{pos:Pos} (hg:Gl X x) (hm:∃ u,X.mg x=some u∧zi v u) (hd:(x == ("__debug__":Str))=false:=by decide):PE X (.Name x pos) (tC v):=by
 obtain ⟨u,hm,r⟩:=hm
 exact zuG hg hm r hd
theorem zrW {o e:Expr}{to te:TE}{apos cpos:Pos} (ho:PE X o to) (he:PE X e te)
  (hbase:attributeBase o "append" X.env (eval o X.env)=eval o X.env:=by rfl)
  (hline:(apos.endLine == cpos.line)=true:=by rfl) (hp:zI e=true:=by rfl):PE X (.Call (.Attribute o "append" apos) [e] [] cpos) (zgG to te):=by
 intro pins s σ H Q I h
 have hs:starEach [e] X.env=[(false,eval e X.env)]:=zbr hp
 refine wpAny_Call_method_late hbase (by rw [hs];rfl) hline rfl (thn (ho pins s σ H _ I h) fun v s1 ⟨x,H1,I1,r1,l,ex,⟨xs,hx⟩,q1⟩=>?_)
 subst ex
 obtain ⟨h1,h2⟩:=zd9 (T:="list") I1 r1 (.inl ⟨rfl,xs,SqL.of hx⟩)
 refine ⟨"list","list.append",PySem.F.plainAttrs_list,PySem.F.slot_list_append,PySem.F.type_list_append,h1,h2,?_⟩
 rw [hs]
 refine Calls.callWith_builtin rfl (Calls.evalArgs_plain ?_)
 have hA:=zbI he zbF (hs:=hs) cpos pins s1 σ H1 (fun ys H2=>match ys with|[y]=>∃ xs,H2 l=some (.lst xs)∧xs.length<sizeLine∧Q .non (upd H2 l (.lst (xs++[y])))|_=>False) I1 q1
 rw [hs] at hA
 refine thn hA fun us s2 ⟨vs,H2,I2,r2,q2⟩=>?_
 match vs,q2,r2 with
 | [y],⟨xs2,hx2,hl2,q2⟩,r2=>exact zww pins s2 σ H2 (.ref l) [y] v us Q I2 r1 r2 ⟨l,xs2,y,rfl,rfl,hx2,hl2,q2⟩
end
section
variable {X:Cx}
def zb6:List V→Hp→VK→Prop:=fun xs H Q=>(∃ i,xs=[.int i]∧Q (.int i) H)∨∃ k,xs=[.bl k]∧Q (.int (if k then 1 else 0)) H
theorem zsG:zJ X (.type "int") zb6:=zq1
def zc6:List V→Hp→VK→Prop:=fun xs H Q=>∃ i,xs=[.int i]∧i.natAbs.log2<1920∧Q (.str (toString i)) H
theorem ztV:zJ X (.type "str") zc6:=zxh
theorem zxb {i:Int}{H:Hp}{Q:VK}:zb6 [.int i] H Q=Q (.int i) H:=by simp [zb6]
theorem zo4 {k:Bool}{H:Hp}{Q:VK}:zb6 [.bl k] H Q=Q (.int (if k then 1 else 0)) H:=by simp [zb6]
theorem zoE {i:Int}{H:Hp}{Q:VK}:zc6 [.int i] H Q=(i.natAbs.log2<1920∧Q (.str (toString i)) H):=by simp [zc6]
def zhO:List V→Hp→VK→Prop:=fun xs H Q=>∃ i j,xs=[.int i,.int j]∧Q (.int (if j>i then j else i)) H
def zkv:List V→Hp→VK→Prop:=fun xs H Q=>∃ i j,xs=[.int i,.int j]∧Q (.int (if j<i then j else i)) H
theorem zsI (hc:X.calm=true):zJ X (.builtin "max") zhO:=zxo hc
theorem zhj (hc:X.calm=true):zJ X (.builtin "min") zkv:=zsP hc
theorem zg8 {i j:Int}{H:Hp}{Q:VK}:zhO [.int i,.int j] H Q=Q (.int (if j>i then j else i)) H:=by
 apply propext;constructor
 ·rintro ⟨a,b,e,q⟩;cases e;exact q
 ·exact fun q=>⟨i,j,rfl,q⟩
theorem zte {i j:Int}{H:Hp}{Q:VK}:zkv [.int i,.int j] H Q=Q (.int (if j<i then j else i)) H:=by
 apply propext;constructor
 ·rintro ⟨a,b,e,q⟩;cases e;exact q
 ·exact fun q=>⟨i,j,rfl,q⟩
end
section
variable {Y:Cx}{sc:Scope}{N':List Str}{pins:List (Addr×Obj)}{D:Addr}{fp:List Addr}{s:Shared}{H:Hp}
theorem zuc {pos:Pos}{es:List Expr}{k:Nat}{t:TGs}{n:Nat} (h:PGs (zP Y sc N' pins D fp s H) es t) (hl:(assignEach es (zP Y sc N' pins D fp s H).env).length=n:=by rfl) (hst:(assignEach es (zP Y sc N' pins D fp s H).env).findIdx? (·.1)=none:=by rfl):PG (zP Y sc N' pins D fp s H) (.Tuple es k pos) (zeB Y.K n t):=zml h hl hst
end
theorem zq8 {t:TG}{u:TGs}{v:V}{r:List V}{σ:St}{H:Hp}{Q:St→Hp→Prop}:zeU t u (v::r) σ H Q=t v σ H fun σ' H'=>u r σ' H' Q:=by
 apply propext;constructor
 ·rintro ⟨v,r,e,h⟩;cases e;exact h
 ·exact fun h=>⟨v,r,rfl,h⟩
theorem zwc {σ:St}{H:Hp}{Q:St→Hp→Prop}:zfy [] σ H Q=Q σ H:=by
 apply propext;constructor
 ·exact fun h=>h.2
 ·exact fun h=>⟨rfl,h⟩
section
variable {H:Hp}{Q:VK}{i j:Int}{x y:Str}{a b:Addr}{K:PySem.W.Frag}{g:Int→Int→V}{C:Int→Int→Prop}{k c:Bool}{QB:Bool→Hp→Prop}
theorem zeI:za8 (.int i) (.int j) H Q=Q (.int (i+j)) H:=by simp [za8]
theorem zs0:za8 (.str x) (.str y) H Q=(x.length+y.length≤sizeLine∧Q (.str (x++y)) H):=by simp [za8]
theorem zcS:za8 (.ref a) (.ref b) H Q = ∃ xs zs,H a=some (.lst xs)∧H b=some (.lst zs)∧xs.length+zs.length≤sizeLine∧∀ p H2,New H p (.lst (xs++zs)) H2→Q (.ref p) H2:=by simp [za8]
theorem zkL:zct (.int i) (.int j) H Q=(zed i j∧Q (.int (i*j)) H):=by simp [zct]
theorem zvs:zct (.ref a) (.int i) H Q = ∃ xs,H a=some (.lst xs)∧-(2 ^ 63)≤i∧i<2 ^ 63∧xs.length*i.toNat≤sizeLine∧∀ p H2,New H p (.lst (List.replicate i.toNat xs).flatten) H2→Q (.ref p) H2:=by simp [zct]
theorem zdq:uIx (.ref a) (.int i) H Q = ∃ xs,(H a=some (.lst xs)∨H a=some (.tup xs))∧∃ v,atI xs i=some v∧Q v H:=by
 apply propext;constructor
 ·rintro (⟨p,xs,i,v,e1,e2,h,r⟩|⟨p,xs,i,v,e1,e2,h,r⟩|⟨z,i,c,e,_⟩)
  ·cases e1;cases e2;exact ⟨xs,.inl h,v,r⟩
  ·cases e1;cases e2;exact ⟨xs,.inr h,v,r⟩
  ·cases e
 ·rintro ⟨xs,h|h,v,r⟩
  ·exact .inl ⟨_,xs,_,v,rfl,rfl,h,r⟩
  ·exact .inr (.inl ⟨_,xs,_,v,rfl,rfl,h,r⟩)
theorem zgO:uIx (.str x) (.int i) H Q=(x.length≤sizeLine∧∃ c,atI x.cps.toList i=some c∧Q (.str ⟨#[c]⟩) H):=by simp [uIx]
theorem zg6:zeH [.ref a] H Q = ∃ ys,(H a=some (.lst ys)∨H a=some (.tup ys))∧Q (.int ys.length) H:=by
 apply propext;constructor
 ·rintro (⟨p,xs,e1,h,r⟩|⟨p,xs,e1,h,r⟩|⟨z,e,_⟩)
  ·cases e1;exact ⟨xs,.inl h,r⟩
  ·cases e1;exact ⟨xs,.inr h,r⟩
  ·cases e
 ·rintro ⟨xs,h|h,r⟩
  ·exact .inl ⟨_,xs,rfl,h,r⟩
  ·exact .inr (.inl ⟨_,xs,rfl,h,r⟩)
theorem zkx:zeH [.str x] H Q=(x.length≤sizeLine∧Q (.int x.length) H):=by simp [zeH]
theorem zrt:rI C g (.int i) (.int j) H Q=(C i j∧Q (g i j) H):=by simp [rI]
theorem zji:rI0 g (.int i) (.int j) H Q=Q (g i j) H:=by simp [rI0]
theorem zxf {g:Int→V}:rU g (.int i) H Q=Q (g i) H:=by simp [rU]
theorem zks:uEq c (.int i) (.int j) H Q=Q (.bl (if c then !decide (i=j) else decide (i=j))) H:=by simp [uEq,zbJ]
theorem zvn:uEq c (.str x) (.str y) H Q=Q (.bl (if c then !decide (x=y) else decide (x=y))) H:=by simp [uEq,zbJ]
theorem zu5:uEq c (.bl k) (.bl k') H Q=Q (.bl (if c then !decide (k=k') else decide (k=k'))) H:=by simp [uEq,zbJ]
theorem zeF:uEq c (.ref a) (.ref b) H Q = ∃ xs ys,H a=some (.lst xs)∧H b=some (.lst ys)∧xs.all zS=true∧ys.all zS=true∧Q (.bl (if c then !eqL xs ys else eqL xs ys)) H:=by simp [uEq,zbJ]
def zcr (K:PySem.W.Frag) (v:V) (H:Hp) (Q:Bool→Hp→Prop):Prop:=∃ k,zcB K v H k∧Q k H
theorem zw8:zcr K (.bl k) H QB=QB k H:=by simp [zcr,zcB]
theorem zsA:zcr K .non H QB=QB false H:=by simp [zcr,zcB]
theorem zpx:zcr K (.int i) H QB=QB (i != 0) H:=by simp [zcr,zcB]
theorem zpC {xs:List V} (h:H a=some (.lst xs)) (q:QB (!xs.isEmpty) H):zcr K (.ref a) H QB:=⟨_,.inl ⟨xs,SqL.of h,rfl⟩,q⟩
theorem zn3 {ta:TE}{σ:St}:zfx K ta σ H QB=ta σ H fun x H'=>zcr K x H' QB:=rfl
def uB (v:V) (q:Bool→Prop):Prop:=∃ c,v = .bl c∧q c
theorem zmf {q:Bool→Prop}:uB (.bl k) q=q k:=by simp [uB]
theorem zuM {t:TE}{σ:St}:tB t σ H QB=t σ H fun x H1=>uB x fun c=>QB c H1:=rfl
theorem zsJ {t:TE}{σ:St}:zfh t σ H QB=t σ H fun x H1=>uB x fun c=>QB c H1:=rfl
theorem ztg {t u:TE}{σ:St}:ziy t u σ H Q=t σ H fun x H1=>uB x fun c=>if c=true then u σ H1 Q else Q (.bl false) H1:=rfl
theorem zuz {t u:TE}{σ:St}:zhD t u σ H Q=t σ H fun x H1=>uB x fun c=>if c=true then Q (.bl true) H1 else u σ H1 Q:=rfl
theorem zxl {t:TE}{σ:St}:zgN t σ H Q=t σ H fun x H1=>uB x fun c=>Q (.bl (!c)) H1:=rfl
theorem zw4 {r r':R2}{ta tb tc:TE}{σ:St}:zid r r' ta tb tc σ H Q=ta σ H fun x H1=>tb σ H1 fun y H2=>r x y H2 fun z H3=>uB z fun k=>if k=true then tc σ H3 fun w' H4=>r' y w' H4 Q else Q (.bl false) H3:=rfl
theorem zfC {q:Addr→Prop}:uR (.ref a) q=q a:=by simp [uR]
theorem zvu {C:Addr}{ta:TE}{f:Str}{σ:St}:zff C ta f σ H Q=ta σ H fun x H1=>uR x fun a=>∃ dx fs v,H1 a=some (.ins C dx fs)∧fs.lookup f=some v∧Q v H1:=by
 unfold zff uR
 congr;funext x H1
 apply propext
 constructor
 ·rintro ⟨a,dx,fs,v,h1,h2,h3,h4⟩;exact ⟨a,h1,dx,fs,v,h2,h3,h4⟩
 ·rintro ⟨a,h1,dx,fs,v,h2,h3,h4⟩;exact ⟨a,dx,fs,v,h1,h2,h3,h4⟩
theorem zpR {C:Addr}{ta tv:TE}{f:Str}{σ:St}{D:zaq}:zfU C ta tv f D σ H=tv σ H fun y H1=>ta σ H1 fun x H2=>uR x fun a=>∃ dx fs,H2 a=some (.ins C dx fs)∧fs.length<1000∧D.nx σ (upd H2 a (.ins C dx (zL f y fs))):=by
 unfold zfU uR
 congr;funext x H1;congr;funext x2 H2
 apply propext
 constructor
 ·rintro ⟨a,dx,fs,h1,h2,h3,h4⟩;exact ⟨a,h1,dx,fs,h2,h3,h4⟩
 ·rintro ⟨a,h1,dx,fs,h2,h3,h4⟩;exact ⟨a,dx,fs,h1,h2,h3,h4⟩
theorem zoC {C:Addr}{m:Str}{sp:Sp}{dvs:List V}{E:XK}{ta:TE}{t:TA}{σ:St}:zcq C m sp dvs E ta t σ H Q=ta σ H fun x H1=>uR x fun a=>∃ dx fs,H1 a=some (.ins C dx fs)∧fs.lookup m=none∧t σ H1 fun vs H2=>sp (.ref a::(vs++dvs)) H2 Q E:=by
 unfold zcq uR
 congr;funext x H1
 apply propext
 constructor
 ·rintro ⟨a,dx,fs,rfl,h2,h3,h4⟩;exact ⟨a,rfl,dx,fs,h2,h3,h4⟩
 ·rintro ⟨a,rfl,dx,fs,h2,h3,h4⟩;exact ⟨a,dx,fs,rfl,h2,h3,h4⟩
theorem zpO {C:Addr}{m:Str}{sp:Sp}{dvs:List V}{Ex:Addr→St→Hp→Prop}{ta:TE}{t:TA}{σ:St}:zcc C m sp dvs Ex ta t σ H Q=ta σ H fun x H1=>uR x fun a=>∃ dx fs,H1 a=some (.ins C dx fs)∧fs.lookup m=none∧t σ H1 fun vs H2=>sp (.ref a::(vs++dvs)) H2 Q (XE Ex σ):=by
 unfold zcc uR
 congr;funext x H1
 apply propext
 constructor
 ·rintro ⟨a,dx,fs,rfl,h2,h3,h4⟩;exact ⟨a,rfl,dx,fs,h2,h3,h4⟩
 ·rintro ⟨a,rfl,dx,fs,h2,h3,h4⟩;exact ⟨a,dx,fs,rfl,h2,h3,h4⟩
end
section
variable {K:PySem.W.Frag}{g:TG}{tb:TS}{D:zaq}{σ:St}{H:Hp}{ta:TA}{tl:TE}{wi:TI}{R:It→Hp→Prop}{j:Int}{tt:TT}{te:TE}{ix:List (Option Nat)}{Q:VK}
def zak (J:It) (g:TG) (tb:TS) (D:zaq) (σ:St) (H:Hp):Prop:=∃ W:Nat→Nat→St→Hp→Prop,(∃ m,W 0 m σ H)∧∀ i m σ H,W i m σ H →
 (J.stop i H∧D.nx σ H)∨(J.go i H∧∃ N:St→Hp→Prop,(∀ σ' H',N σ' H'→∃ m',m'<m∧W (i+1) m' σ' H')∧∀ x H',J.yld i H x H'→g x σ H' fun σ2 H2=>tb { D with nx:=N,ct:=N,bk:=D.nx } σ2 H2)
theorem zm1:zit wi g tb D σ H=wi σ H fun J H1=>zak J g tb D σ H1:=rfl
def uI1 (vs:List V) (q:Int→Prop):Prop:=∃ j,vs=[.int j]∧q j
theorem znA {q:Int→Prop}:uI1 [.int j] q=q j:=by simp [uI1]
theorem zu8:ze9 ta σ H R=ta σ H fun vs H1=>uI1 vs fun j=>-(2 ^ 62)≤j∧j<2 ^ 62∧R (Itr 0 j.toNat) H1:=rfl
theorem zvz:ziC K tl σ H R=tl σ H fun x H1=>uR x fun a=>(∃ xs,SqL K H1 a xs)∧R (Itl K a) H1:=rfl
theorem zwo:zpi K tl σ H R=tl σ H fun x H1=>uR x fun a=>(∃ xs,SqT K H1 a xs)∧R (Itt K a) H1:=rfl
def uR2 (vs:List V) (q:Addr→Addr→Prop):Prop:=∃ a b,vs=[.ref a,.ref b]∧q a b
theorem zvL {q:Addr→Addr→Prop}{a b:Addr}:uR2 [.ref a,.ref b] q=q a b:=by
 apply propext
 constructor
 ·rintro ⟨c,d,e,h⟩;cases e;exact h
 ·exact fun h=>⟨a,b,rfl,h⟩
theorem zuo:zi0 K ta σ H R=ta σ H fun vs H1=>uR2 vs fun a b=>(∃ xs,SqL K H1 a xs)∧(∃ ys,SqL K H1 b ys)∧R (Itz K a b) H1:=by
 unfold zi0 uR2
 rfl
def zah (J:It) (g:TG) (tt:TT) (te:TE) (τ:St) (H:Hp) (Q:VK):Prop:=∃ W:Nat→Nat→St→List V→Hp→Prop,(∃ m,W 0 m τ [] H)∧∀ i m τ ys H2,W i m τ ys H2→ys.length<sizeLine ∧
 ((J.stop i H2 ∧ ∀ D, H2 D = none → D ≠ sysModules → Q (.ref D) (upd H2 D (.lst ys))) ∨
  (J.go i H2 ∧ ∀ x H3, J.yld i H2 x H3 → g x τ H3 fun τ1 H4 => tt τ1 H4 fun ok H5 => if ok = true then te τ1 H5 fun y H6 => ∃ m', m' < m ∧ W (i + 1) m' τ1 (ys ++ [y]) H6 else ∃ m', m' < m ∧ W (i + 1) m' τ1 ys H5))
theorem zwG:tLC ix wi g tt te σ H Q=wi σ H fun J H1=>zah J g tt te (zbh ix σ) H1 Q:=rfl
theorem zak.rng {lo:Int}{n:Nat} (Pv:Nat→St→Hp→Prop) (h0:Pv 0 σ H)
  (hs:∀ i σ H,i<n→Pv i σ H→g (.int (lo+i)) σ H fun σ2 H2=>tb { D with nx:=Pv (i+1),ct:=Pv (i+1),bk:=D.nx } σ2 H2) (hd:∀ σ H,Pv n σ H→D.nx σ H):zak (Itr lo n) g tb D σ H:=ztE Pv h0 hs hd
theorem zak.lst {a:Addr}{xs:List V} (Pv:Nat→St→Hp→Prop) (h0:Pv 0 σ H) (hl:∀ i σ H,i≤xs.length→Pv i σ H→SqL K H a xs)
  (hs:∀ i x σ H,xs[i]?=some x→Pv i σ H→g x σ H fun σ2 H2=>tb { D with nx:=Pv (i+1),ct:=Pv (i+1),bk:=D.nx } σ2 H2) (hd:∀ σ H,Pv xs.length σ H→D.nx σ H):zak (Itl K a) g tb D σ H:=zoc Pv h0 hl hs hd
def zbU (N:St→List V→Hp→Prop) (ys:List V) (τ1:St) (te:TE) (ok:Bool) (H5:Hp):Prop:=if ok=true then te τ1 H5 fun y H6=>N τ1 (ys++[y]) H6 else N τ1 ys H5
theorem znR {N:St→List V→Hp→Prop}{ys:List V}{τ:St}:zbU N ys τ te true H=te τ H fun y H6=>N τ (ys++[y]) H6:=rfl
theorem ztk {N:St→List V→Hp→Prop}{ys:List V}{τ:St}:zbU N ys τ te false H=N τ ys H:=rfl
theorem zah.rng {lo:Int}{n:Nat}{τ:St} (Pv:Nat→St→List V→Hp→Prop) (hz:∀ i τ ys H,Pv i τ ys H→ys.length<sizeLine) (h0:Pv 0 τ [] H)
  (hs:∀ (N:St→List V→Hp→Prop) i τ ys H,i<n→Pv i τ ys H→(∀ τ ys H,Pv (i+1) τ ys H→N τ ys H)→g (.int (lo+i)) τ H fun τ1 H4=>tt τ1 H4 fun ok H5=>zbU N ys τ1 te ok H5) (hd:∀ τ ys H,Pv n τ ys H→∀ D H',New H D (.lst ys) H'→Q (.ref D) H'):zah (Itr lo n) g tt te τ H Q:=by
 refine ⟨fun i m τ ys H=>m=n - i∧i≤n∧Pv i τ ys H,⟨n,by simp,Nat.zero_le _,h0⟩,?_⟩
 rintro i m τ ys H2 ⟨rfl,hi,p⟩
 refine ⟨hz i τ ys H2 p,?_⟩
 by_cases hlt:i<n
 ·refine .inr ⟨hlt,fun x H' y=>?_⟩
  obtain ⟨e,y⟩:=y
  subst e y
  exact hs (fun τ1 ys H=>∃ m',m'<n - i∧m'=n - (i+1)∧i+1≤n∧Pv (i+1) τ1 ys H) i τ ys _ hlt p fun τ1 zs H q=>⟨n - (i+1),by omega,rfl,hlt,q⟩
 ·have e:i=n:=by omega
  subst e
  exact .inl ⟨Nat.le_refl _,fun D hD _=>hd τ ys H2 p D _ (.mk' hD)⟩
end
end L2
set_option Elab.async false
set_option linter.all false
set_option maxRecDepth 100000
set_option maxHeartbeats 4000000
namespace L2
open PySem PySem.Spec PyProof.Rows
section
variable {X:Cx}
def zfz:V→Option Int→Option Int→Hp→VK→Prop:=fun x lo hi H Q=>∃ z,x = .str z∧z.length≤sizeLine∧Q (.str (Txt.slice z lo hi)) H
theorem zvd {h:Heap}{sl:Addr}{vl vu:Value}{lo hi:Option Int} (hs:h.IsSliceOf sl vl vu .none) (pl:IsPart vl lo) (pu:IsPart vu hi):∃ l u:Option (Int×Tok),h.IsSlice sl l u none∧l.map (·.1)=lo∧u.map (·.1)=hi:=by
 obtain ⟨o,h1,h2,h3⟩:=hs
 cases pl with
 | none =>
  cases pu with
  | none=>exact ⟨none,none,⟨o,h1,h2,h3⟩,rfl,rfl⟩
  | int j t=>exact ⟨none,some (j,t),⟨o,h1,h2,h3⟩,rfl,rfl⟩
 | int i t' =>
  cases pu with
  | none=>exact ⟨some (i,t'),none,⟨o,h1,h2,h3⟩,rfl,rfl⟩
  | int j t=>exact ⟨some (i,t'),some (j,t),⟨o,h1,h2,h3⟩,rfl,rfl⟩
theorem znM:SlR X zfz:=by
 intro pins s σ H x v vl vu lo hi sl Q I rx hs pl pu h
 obtain ⟨z,rfl,hz,q⟩:=h
 obtain ⟨t,rfl⟩:=rx
 obtain ⟨l,u,hS,e1,e2⟩:=zvd hs pl pu
 subst e1 e2
 exact ⟨"str",_,F.slot_str_getitem.lookup,typeIs_str _ _ _,wpAny_getItem_str_slice (l:=l) (u:=u) (st:=none) hS rfl
  (post_val_or_str ⟨Nat.le_trans (Txt.slice_le z _ _) hz,fun t' k=>⟨.str _,H,I.tok k,⟨_,rfl⟩,q⟩⟩)⟩
def uSl:V→Option Int→Option Int→Hp→VK→Prop:=fun x lo hi H Q=>(∃ a xs,x = .ref a∧H a=some (.lst xs)∧∀ p H2,New H p (.lst (za7 xs lo hi)) H2→Q (.ref p) H2)∨zfz x lo hi H Q
theorem SlR.weak {r r':V→Option Int→Option Int→Hp→VK→Prop} (h:SlR X r) (hw:∀ x l u H Q,r' x l u H Q→r x l u H Q):SlR X r' :=
 fun pins s σ H x v vl vu lo hi sl Q I rx hs pl pu q=>h pins s σ H x v vl vu lo hi sl Q I rx hs pl pu (hw _ _ _ _ _ q)
theorem zeg:SlR X uSl:=((znf (X:=X)).or znM).weak fun x l u H Q h=>by
 rcases h with ⟨a,xs,e,h,q⟩|h
 ·exact .inl ⟨a,xs,e,SqL.of h,fun p hp=>q p _ (.mk' hp)⟩
 ·exact .inr h
def zhn (v:V) (q:Int→Prop):Prop:=∃ i,v = .int i∧q i
theorem zl2 {i:Int}{q:Int→Prop}:zhn (.int i) q=q i:=by simp [zhn]
theorem zpE {t:TE}{σ:St}{H:Hp}{Q:Option Int→Hp→Prop}:ziI t σ H Q=t σ H fun x H1=>zhn x fun i=>Q (some i) H1:=rfl
theorem zkE {z:Str}{lo hi:Option Int}{H:Hp}{Q:VK}:uSl (.str z) lo hi H Q=(z.length≤sizeLine∧Q (.str (Txt.slice z lo hi)) H):=by simp [uSl,zfz]
theorem zhA {a:Addr}{lo hi:Option Int}{H:Hp}{Q:VK}:uSl (.ref a) lo hi H Q = ∃ xs,H a=some (.lst xs)∧∀ p H2,New H p (.lst (za7 xs lo hi)) H2→Q (.ref p) H2:=by simp [uSl,zfz]
theorem zqq {ys:List Str}:∀ {us:List Value},zk (ys.map V.str) us→StrsAre us ys:=by
 induction ys with
 | nil=>intro us r;rw [List.map_nil] at r;cases r;exact .nil
 | cons n ns ih =>
  intro us r
  rw [List.map_cons] at r
  cases r with
  | cons r1 r2 =>
   obtain ⟨t,e⟩:=r1
   subst e
   exact .cons n t (ih r2)
def zev:V→List V→Hp→VK→Prop:=fun x vs H Q=>∃ z p ys,x = .str z∧vs=[.ref p]∧H p=some (.lst (ys.map V.str))∧(ys.map (·.length)).sum+ys.length*z.length≤16777216∧Q (.str (Txt.join z ys)) H
theorem zvv:MtR X "str.join" zev:=by
 intro pins s σ H x xs v us Q I rx rs h
 obtain ⟨z,p,ys,rfl,rfl,hp,hz,q⟩:=h
 obtain ⟨t,rfl⟩:=rx
 cases rs with
 | cons r1 rr =>
  cases rr
  cases (show _=Value.ref p from r1)
  obtain ⟨its,r,ht,_⟩:=I.list (SqL.of (K:=X.K) hp)
  exact join_list ht.isList (by simpa using zqq r) hz fun t' k=>⟨.str _,H,I.tok k,⟨_,rfl⟩,q⟩
def ze6 (z:Str) (n:Nat):Str:=⟨((List.replicate n z.cps.toList).flatten).toArray⟩
theorem zjG {α:Type} (l:List α):∀ (n:Nat) (acc:List α),List.foldl (fun x1 x2:Array α=>x1++x2) acc.toArray (List.replicate n l.toArray)=(acc++(List.replicate n l).flatten).toArray
 | 0,acc=>by simp
 | n+1,acc=>by
  rw [List.replicate_succ,List.foldl_cons,List.append_toArray,zjG l n (acc++l)]
  simp [List.replicate_succ]
theorem zrG (z:Str) (n:Nat):(⟨(List.replicate n z.cps).foldl (·++·) #[]⟩:Str)=ze6 z n:=by
 have h:=zjG z.cps.toList n []
 unfold ze6
 congr 1
theorem zjT {α:Type} (l:List α):∀ n:Nat,((List.replicate n l).flatten).length=l.length*n
 | 0=>by simp
 | n+1=>by rw [List.replicate_succ,List.flatten_cons,List.length_append,zjT l n,Nat.mul_succ];omega
theorem zoR (z:Str) (n:Nat):(ze6 z n).length=z.length*n:=by
 show (((List.replicate n z.cps.toList).flatten).toArray).size=_
 rw [List.size_toArray,zjT]
 rfl
def ze3:R2:=fun x y H Q=>∃ z n,x = .str z∧y = .int n∧1<n∧n<2 ^ 31∧z.length≠0∧z.length*n.toNat≤sizeLine∧Q (.str (ze6 z n.toNat)) H
theorem zvm:OpR X (binaryOp .Mult) ze3:=by
 intro pins s σ H x y v u Q I rx ry h
 obtain ⟨z,n,rfl,rfl,h1,h2,h3,h4,q⟩:=h
 obtain ⟨t,rfl⟩:=rx
 obtain ⟨t',rfl⟩:=ry
 have hs:sizeLine=16777216:=sizeLine_eq
 have hc:(n == 1 || z.length == 0)=false:=by
  rw [Bool.or_eq_false_iff]
  exact ⟨beq_eq_false_iff_ne.mpr (by omega),beq_eq_false_iff_ne.mpr h3⟩
 have hz:z.length≤16777216:=by
  have:z.length*1≤z.length*n.toNat:=Nat.mul_le_mul_left _ (by omega)
  omega
 refine PySem.P.mul_str ?_ ?_ ?_ ?_
 ·rw [decide_eq_false (show ¬ n < -(2 ^ 63:Int) by omega),decide_eq_false (show ¬ n ≥ 2 ^ 63 by omega)];rfl
 ·intro _ _ hgt
  have:(16777216:Int)≤(2 ^ 63 - 1) / n:=Int.le_ediv_of_mul_le (by omega) (by omega)
  omega
 ·intro _ _
  exact decide_eq_false (by omega)
 ·rw [if_neg (show ¬ n<1 by omega),if_neg (by rw [hc];exact Bool.false_ne_true),zrG]
  exact ⟨by rw [zoR];omega,⟨.str _,H,I.tok _,⟨_,rfl⟩,q⟩⟩
theorem zl7 {p:Addr}{k:Int}{v:V}{H:Hp}{Q:Hp→Prop}:zhu (.ref p) (.int k) v H Q = ∃ xs j,H p=some (.lst xs)∧ixN xs.length k=some j∧Q (upd H p (.lst (xs.set j v))):=by
 apply propext;constructor
 ·rintro ⟨p',xs,k',j,e1,e2,h⟩;cases e1;cases e2;exact ⟨xs,j,h⟩
 ·rintro ⟨xs,j,h⟩;exact ⟨p,xs,k,j,rfl,rfl,h⟩
def zjk:List V→Hp→VK→Prop:=fun xs H Q=>∃ p ys,xs=[.ref p]∧(H p=some (.lst ys)∨H p=some (.tup ys))∧∀ l H2,New H l (.lst ys) H2→Q (.ref l) H2
theorem zlJ:zJ X (.type "list") zjk:=zui.weak fun xs H Q h=>by
 obtain ⟨p,ys,e,h1,q⟩:=h
 exact ⟨p,ys,e,h1.elim (fun h=>.inl (SqL.of h)) (fun h=>.inr (SqT.of h)),fun l hl=>q l _ (.mk' hl)⟩
theorem zq5 {a:Addr}{H:Hp}{Q:VK}:zjk [.ref a] H Q = ∃ ys,(H a=some (.lst ys)∨H a=some (.tup ys))∧∀ l H2,New H l (.lst ys) H2→Q (.ref l) H2:=by
 apply propext;constructor
 ·rintro ⟨p,ys,e,h⟩;cases e;exact ⟨ys,h⟩
 ·rintro ⟨ys,h⟩;exact ⟨a,ys,rfl,h⟩
def zgT (to:TE):TE:=fun σ H Q=>to σ H fun x H1=>uR x fun l=>∃ xs,H1 l=some (.lst xs)∧Q .non (upd H1 l (.lst []))
theorem zp2 {o:Expr}{to:TE}{apos cpos:Pos} (ho:PE X o to) (hbase:attributeBase o "clear" X.env (eval o X.env)=eval o X.env:=by rfl) (hline:(apos.endLine == cpos.line)=true:=by rfl):PE X (.Call (.Attribute o "clear" apos) [] [] cpos) (zgT to):=by
 intro pins s σ H Q I h
 refine wpAny_Call_method0_late hbase hline (thn (ho pins s σ H _ I h) fun v s1 ⟨x,H1,I1,r1,l,ex,xs,hx,q1⟩=>?_)
 subst ex
 obtain ⟨h1,h2⟩:=zd9 (T:="list") I1 r1 (.inl ⟨rfl,xs,SqL.of hx⟩)
 exact ⟨"list","list.clear",PySem.F.plainAttrs_list,PySem.F.slot_list_clear,PySem.F.type_list_clear,h1,h2,Calls.callWith_builtin rfl (PySem.evalArgs_none (zrZ pins s1 σ H1 (.ref l) [] v [] Q I1 r1 .nil ⟨l,xs,rfl,rfl,hx,q1⟩))⟩
theorem zl5 {z:Str}{p:Addr}{H:Hp}{Q:VK}:zev (.str z) [.ref p] H Q = ∃ ys:List Str,H p=some (.lst (ys.map V.str))∧(ys.map (·.length)).sum+ys.length*z.length≤16777216∧Q (.str (Txt.join z ys)) H:=by
 apply propext;constructor
 ·rintro ⟨z',p',ys,e1,e2,h⟩;cases e1;cases e2;exact ⟨ys,h⟩
 ·rintro ⟨ys,h⟩;exact ⟨z,p,ys,rfl,rfl,h⟩
end
end L2
set_option Elab.async false
set_option linter.all false
set_option maxRecDepth 100000
set_option maxHeartbeats 4000000
namespace L2
open PySem PySem.Spec PyProof.Rows
def Ite (K:PySem.W.Frag) (a:Addr):It :=
 ⟨fun i H=>∃ xs x,SqL K H a xs∧xs[i]?=some x,fun i H v H'=>∃ T x,H T=none∧v = .ref T∧H'=upd H T (.tup [.int i,x])∧∀ xs,SqL K H a xs→xs[i]?=some x,fun i H=>∃ xs,SqL K H a xs∧xs.length≤i⟩
structure zux (e it l:Addr) (i:Nat) (h:Heap):Prop where
 z:∃ old,IsEnum h e it i old
 a:h.IsListIter it l i
theorem zpU {P:Program}{w:World}{K:PySem.W.Frag}{elts:List Expr}{kk:Nat}{tp:Pos}{l e it:Addr} (hne:e≠it) :
  zcl true P w K (.Tuple elts kk tp) (Ite K l) [e,it] e (zux e it l) where
 mem:=by simp
 obj:=fun i h st b hb=>by
  obtain ⟨⟨old,a1⟩,⟨o4,a4,_,d4⟩⟩:=st
  simp only [List.mem_cons,List.not_mem_nil,or_false] at hb
  rcases hb with rfl|rfl
  ·exact ⟨_,a1,fun v q=>nomatch q⟩
  ·exact ⟨_,a4,fun v q=>by rw [d4] at q;cases q⟩
 keep:=fun i h h' st k=>by
  obtain ⟨⟨old,a1⟩,a4⟩:=st
  exact ⟨⟨old,k _ (by simp) _ a1⟩,a4.at fun o e=>k _ (by simp) o e⟩
 item:=by
  intro X hP hw hK hc i pins s σ H E I hf st hg
  subst hP hw hK
  obtain ⟨xs,x,hq1,hx⟩:=hg
  obtain ⟨is1,rv1,p1,hz1⟩:=I.list hq1
  obtain ⟨u1,hu1,ru1⟩:=rv1.get hx
  obtain ⟨⟨old,a1⟩,a4⟩:=st
  refine wpAny_pyNext_enum_item a1 a4 p1.isList (x:=u1) (by simpa using hu1) hne fun h' b1 b2 b3 b4 b5=>?_
  refine ⟨_,rfl,wpAny_letOwnedTupleGo_enum (s:={ s with heap:=h',toks:=s.toks+1 }) b1 fun h2 c1 c2=>?_⟩
  have zlt:e<s.heap.objs.size:=Heap.lt_size a1
  have nz:s.heap.objs.size≠e:=Nat.ne_of_gt zlt
  have all:∀ c o,c≠e→c≠it→s.heap.get? c=some o→h2.get? c=some o:=fun c o n1 n2 q=>c2.extBut c o n1 (b5 c o n1 n2 q)
  have tT:h2.get? s.heap.objs.size=some { cls:=.type "tuple",data:=.seq #[.int i s.toks,u1] }:=c2.extBut _ _ nz b3
  have hfr:H s.heap.objs.size=none:=I.hok.fresh (Nat.le_refl _)
  have hok0:HOk X.prog X.w H h2:=fun b u q0=>by
   refine (I.hok b u q0).stay (fun c v hc q=>?_) (fun _ q=>q) fun _ _ q=>q
   have hnn:∀ d∈[e,it],c≠d:=fun d hd w=>by
    have fd:=(hf d hd).1
    rcases hc with k|k
    ·rw [k] at w;rw [w,fd] at q0;cases q0
    ·rw [w,fd] at k;cases k
   exact all c v (hnn e (by simp)) (hnn it (by simp)) q
  have lt0:∀ b o,s.heap.get? b=some o→b≠s.heap.objs.size:=fun b o e=>Nat.ne_of_lt (Heap.lt_size e)
  have I2:Inv X pins σ (upd H s.heap.objs.size (.tup [.int i,x])) { s with heap:=h2,toks:=s.toks+1 }:=by
   refine I.step (g':=s.gens) (d':=s.drawn) (t':=s.toks+1) (ch:=[e,it]) (fun b hb=>?_) (fun b o _ _ hb q _=>?_) (fun b o _ _ hb q _=>?_) (fun b o _ q n=>?_) (fun b o hb q=>?_) (fun b ps q=>?_) (fun b o u q=>?_) (fun b ps q=>?_) (fun m hm=>?_) (hok0.add hfr ?_) I.bare
   ·obtain ⟨f0,f1,f2,f3,f4,f5⟩:=hf b hb
    exact ⟨f3,f1,f4,f5⟩
   ·simp only [List.mem_cons,List.not_mem_nil,or_false,not_or] at hb
    exact all b o hb.1 hb.2 q
   ·simp only [List.mem_cons,List.not_mem_nil,or_false,not_or] at hb
    exact ⟨o.slots,all b o hb.1 hb.2 q⟩
   ·rw [ze (lt0 b o q)];exact n
   ·simp only [List.mem_cons,List.not_mem_nil,or_false,not_or] at hb
    exact ⟨o,all b o hb.1 hb.2 q⟩
   ·rw [ze (zt q hfr)];exact q
   ·rw [ze (zt q hfr)];exact q
   ·exact ⟨#[],by rw [ze (zt q hfr),q];simp⟩
   ·obtain ⟨o,es,ep,ho,r⟩:=hm
    exact ⟨o,es,ep,all _ o (Ne.symm (hf e (by simp)).2.1) (Ne.symm (hf it (by simp)).2.1) ho,r⟩
   ·exact ⟨by show 2≤sizeLine;decide,[.int i s.toks,u1],.cons ⟨_,rfl⟩ (.cons ru1 .nil),⟨_,tT,rfl,_,rfl⟩⟩
  refine ⟨.ref s.heap.objs.size,_,I2,rfl,⟨_,x,hfr,rfl,rfl,fun zs hz=>by rw [I.list_inj hz hq1];exact hx⟩,?_,fun b hb=>?_⟩
  ·exact ⟨⟨_,c1⟩,b2.extBut c2.extBut (Ne.symm hne)⟩
  ·have ne:b≠s.heap.objs.size:=fun q=>by
    have:b<s.heap.objs.size:=by
     simp only [List.mem_cons,List.not_mem_nil,or_false] at hb
     obtain ⟨o4,a4,_⟩:=a4
     rcases hb with rfl|rfl
     ·exact zlt
     ·exact Heap.lt_size a4
    exact absurd (q ▸ this) (Nat.lt_irrefl _)
   rw [ze ne]
   exact (hf b hb).1
 done:=by
  intro X hP hw hK hc i pins s σ H E I hf st hg
  subst hP hw hK
  obtain ⟨xs,hq1,hx⟩:=hg
  obtain ⟨is1,rv1,p1,hz1⟩:=I.list hq1
  have hl:=rv1.length
  obtain ⟨⟨old,a1⟩,a4⟩:=st
  refine wpAny_pyNext_enum_end (I.ok.hd (hc rfl)) a1 a4 p1.isList (by simp;omega) fun h' up=>⟨rfl,?_⟩
  refine I.step (g':=s.gens) (d':=s.drawn) (t':=s.toks) (ch:=[it]) (fun b hb=>?_) (fun b o _ _ hb q _=>?_) (fun b o _ _ hb q _=>?_) (fun _ _ _ _ n=>n) (fun b o hb q=>?_) (fun _ _ q=>q) (fun _ _ _ q=>q) (fun b ps q=>⟨#[],by rw [q];simp⟩) (fun m hm=>?_) (fun b u q0=>?_) I.bare
  ·have hb':b∈[e,it]:=by simp only [List.mem_cons,List.not_mem_nil,or_false] at hb ⊢;exact .inr hb
   obtain ⟨f0,f1,f2,f3,f4,f5⟩:=hf b hb'
   exact ⟨f3,f1,f4,f5⟩
  ·simp only [List.mem_cons,List.not_mem_nil,or_false] at hb
   exact up b o hb q
  ·simp only [List.mem_cons,List.not_mem_nil,or_false] at hb
   exact ⟨o.slots,up b o hb q⟩
  ·simp only [List.mem_cons,List.not_mem_nil,or_false] at hb
   exact ⟨o,up b o hb q⟩
  ·obtain ⟨o,es,ep,ho,r⟩:=hm
   exact ⟨o,es,ep,up _ o (Ne.symm (hf it (by simp)).2.1) ho,r⟩
  ·refine (I.hok b u q0).stay (fun c v hc q=>?_) (fun _ q=>q) fun _ _ q=>q
   have hnn:c≠it:=fun w=>by
    have fd:=(hf it (by simp)).1
    rcases hc with k|k
    ·rw [k] at w;rw [w,fd] at q0;cases q0
    ·rw [w,fd] at k;cases k
   exact up c v hnn q
 self:=fun _ _ _ _ _ st h=>by
  obtain ⟨old,a1⟩:=st.z
  exact wpAny_pyIter_enum a1 h
section
variable {X:Cx}
def zgK (K:PySem.W.Frag) (ta:TA):TI:=fun σ H R=>ta σ H fun vs H1=>∃ a,vs=[.ref a]∧(∃ xs,SqL K H1 a xs)∧R (Ite K a) H1
theorem zsf {elts:List Expr}{kk:Nat}{tp p pos:Pos}{a:Expr}{ta:TA} (hg:Gl X "enumerate") (hm:X.mg "enumerate"=none) (ha:PA X [a] ta) (hp:zI a=true:=by rfl) :
  PIc true X (.Tuple elts kk tp) (.Call (.Name "enumerate" p) [a] [] pos) (zgK X.K ta):=by
 intro pins s σ H R I h
 have hs:starEach [a] X.env=[(false,eval a X.env)]:=zbr hp
 refine Call_ (zbQ I hg hm boot_enumerate (PyProof.Rows.callWith_type1 (thn (ha pos pins s σ H _ I h) fun us s1 ⟨vs,H1,I1,r1,q1⟩=>?_) hs rfl))
 obtain ⟨l1,e,⟨xs,h1⟩,q⟩:=q1
 subst e
 cases r1 with
 | cons r rr =>
  cases rr
  cases (show _=Value.ref l1 from r)
  obtain ⟨is1,rv1,p1,_⟩:=I1.list h1
  refine call_enumerate_list p1.isList fun h' a1 a4 a6 a7=>wpAny_pyIter_enum (s:={ s1 with heap:=h' }) a1 ?_
  refine ⟨_,_,_,_,H1,rfl,I1.kept (t':=s1.toks) a7,zpU (Nat.succ_ne_self _),⟨⟨_,a1⟩,a4⟩,fun b hb=>?_,q⟩
  have le:s1.heap.objs.size≤b:=by
   simp only [List.mem_cons,List.not_mem_nil,or_false] at hb
   rcases hb with rfl|rfl <;> omega
  exact I1.fpOk le (I1.hok.fresh le)
end
section
variable {K:PySem.W.Frag}{g:TG}{tb:TS}{D:zaq}{σ:St}{H:Hp}{ta:TA}{R:It→Hp→Prop}
def uR1 (vs:List V) (q:Addr→Prop):Prop:=∃ a,vs=[.ref a]∧q a
theorem zcx {q:Addr→Prop}{a:Addr}:uR1 [.ref a] q=q a:=by
 apply propext;constructor
 ·rintro ⟨c,e,h⟩;cases e;exact h
 ·exact fun h=>⟨a,rfl,h⟩
theorem zvK:zgK K ta σ H R=ta σ H fun vs H1=>uR1 vs fun a=>(∃ xs,SqL K H1 a xs)∧R (Ite K a) H1:=rfl
theorem zak.enum {a:Addr}{xs:List V} (Pv:Nat→St→Hp→Prop) (h0:Pv 0 σ H) (hl:∀ i σ H,i≤xs.length→Pv i σ H→SqL K H a xs)
  (hs:∀ i x p σ H,xs[i]?=some x→Pv i σ H→H p=none→g (.ref p) σ (upd H p (.tup [.int i,x])) fun σ2 H2=>tb { D with nx:=Pv (i+1),ct:=Pv (i+1),bk:=D.nx } σ2 H2) (hd:∀ σ H,Pv xs.length σ H→D.nx σ H):zak (Ite K a) g tb D σ H:=by
 refine ⟨fun i m σ H=>m=xs.length - i∧i≤xs.length∧Pv i σ H,⟨xs.length,by simp,Nat.zero_le _,h0⟩,?_⟩
 rintro i m σ H ⟨rfl,hi,p⟩
 have q:=hl i σ H hi p
 by_cases hlt:i<xs.length
 ·refine .inr ⟨⟨xs,xs[i],q,by simp [hlt]⟩,Pv (i+1),fun σ' H' p'=>⟨xs.length - (i+1),by omega,rfl,hlt,p'⟩,fun x H' y=>?_⟩
  obtain ⟨T,z,hT,rfl,rfl,hz⟩:=y
  exact hs i z T σ _ (hz xs q) p hT
 ·have e:i=xs.length:=by omega
  subst e
  exact .inl ⟨⟨xs,q,Nat.le_refl _⟩,hd σ H p⟩
end
end L2
set_option Elab.async false
set_option linter.all false
set_option maxRecDepth 100000
set_option maxHeartbeats 4000000
namespace L2
open PySem PySem.Spec PyProof.Rows
section
variable {X:Cx}
def zhC (C:Addr) (ta tv:TE) (rd:V→V→Hp→VK→Prop) (f:Str):TS:=fun D σ H=>ta σ H fun x H1=>uR x fun a=>∃ dx fs v,H1 a=some (.ins C dx fs)∧fs.lookup f=some v ∧
 tv σ H1 fun y H2=>rd v y H2 fun z H3=>∃ dx' fs',H3 a=some (.ins C dx' fs')∧fs'.length<1000∧D.nx σ (upd H3 a (.ins C dx' (zL f z fs')))
theorem zrF {C:Addr}{o value:Expr}{f:Str}{tpos pos:Pos}{ta tv:TE}{op:Operator}{rd:V→V→Hp→VK→Prop} (c:Cls X.K C) (n:zaP X.K C f) (ha:PE X o ta) (hv:PE X value tv) (hop:zf6 X op rd):PS X (.AugAssign (.Attribute o f tpos) op value pos) (zhC C ta tv rd f):=by
 intro pins s σ H D I h
 refine wpAny_AugAssign_AttributeAny (thn (ha pins s σ H _ I h) fun ov s1 ⟨x,H1,I1,rx,a,ex,dx,fs,v,ea,l,q⟩=>?_)
 subst ex
 obtain rfl:ov=Value.ref a:=rx
 refine zlW I1 ea c n l fun u s2 I2 ru=>thn (hv pins s2 σ H1 _ I2 q) fun w3 s3 ⟨y,H2,I3,ry,q3⟩=>thn (hop pins s3 σ H2 v y u w3 _ I3 ru ry q3) fun w4 s4 ⟨z,H3,I4,rz,dx',fs',ea',l',q4⟩=>?_
 exact zlq I4 ea' c n l' rz fun s5 I5=>⟨σ,_,I5,q4⟩
theorem ztU {i j:Int}{H:Hp}{Q:VK}:zh4 (.int i) (.int j) H Q=Q (.int (i+j)) H:=by simp [zh4]
theorem zu6 {i j:Int}{H:Hp}{Q:VK}:zhK (.int i) (.int j) H Q=Q (.int (i - j)) H:=by simp [zhK]
def zbA (neg:Bool):R2:=fun x y H Q=>y = .non∧Q (.bl (if neg then !decide (x = .non) else decide (x = .non))) H
theorem zfo:OpR X (compareOp .Is) (zbA false):=zqa.weak fun x y H Q h=>⟨h.1,by simpa using h.2⟩
theorem zdS:OpR X (compareOp .IsNot) (zbA true):=zue.weak fun x y H Q h=>⟨h.1,by simpa using h.2⟩
theorem zvF {c:Bool}{H:Hp}{Q:VK}:zbA c .non .non H Q=Q (.bl (if c then false else true)) H:=by simp [zbA]
theorem zoI {c:Bool}{i:Int}{H:Hp}{Q:VK}:zbA c (.int i) .non H Q=Q (.bl (if c then true else false)) H:=by simp [zbA]
def zcH:R2:=fun x y H Q=>zct x y H Q∨ze3 x y H Q
theorem zdT:OpR X (binaryOp .Mult) zcH:=zuS.or zvm
theorem zjr {i j:Int}{H:Hp}{Q:VK}:zcH (.int i) (.int j) H Q=(zed i j∧Q (.int (i*j)) H):=by simp [zcH,zkL,ze3]
theorem znz {a:Addr}{i:Int}{H:Hp}{Q:VK}:zcH (.ref a) (.int i) H Q=zct (.ref a) (.int i) H Q:=by simp [zcH,ze3]
theorem zmV {z:Str}{i:Int}{H:Hp}{Q:VK}:zcH (.str z) (.int i) H Q=(1<i∧i<2 ^ 31∧z.length≠0∧z.length*i.toNat≤sizeLine∧Q (.str (ze6 z i.toNat)) H):=by
 simp [zcH,zct,ze3]
def uS (v:V) (q:Str→Prop):Prop:=∃ z,v = .str z∧q z
theorem zfk {z:Str}{q:Str→Prop}:uS (.str z) q=q z:=by simp [uS]
def zie (to te:TE):TE:=fun σ H Q=>to σ H fun x H1=>uS x fun z=>te σ H1 fun y H2=>zev (.str z) [y] H2 Q
theorem zp6 {o e:Expr}{to te:TE}{apos cpos:Pos} (ho:PE X o to) (he:PE X e te) (hbase:attributeBase o "join" X.env (eval o X.env)=eval o X.env:=by rfl) (hline:(apos.endLine == cpos.line)=true:=by rfl) (hp:zI e=true:=by rfl) :
  PE X (.Call (.Attribute o "join" apos) [e] [] cpos) (zie to te):=by
 intro pins s σ H Q I h
 have hs:starEach [e] X.env=[(false,eval e X.env)]:=zbr hp
 refine wpAny_Call_method_late hbase (by rw [hs];rfl) hline rfl (thn (ho pins s σ H _ I h) fun v s1 ⟨x,H1,I1,r1,z,ex,q1⟩=>?_)
 subst ex
 obtain ⟨h1,h2⟩:=zd9 (T:="str") I1 r1 rfl
 refine ⟨"str","str.join",PySem.F.plainAttrs_str,PySem.F.slot_str_join,PySem.F.type_str_join,h1,h2,?_⟩
 rw [hs]
 refine Calls.callWith_builtin rfl (Calls.evalArgs_plain ?_)
 have hA:=zbI he zbF (hs:=hs) cpos pins s1 σ H1 (fun ys H2=>match ys with|[y]=>zev (.str z) [y] H2 Q|_=>False) I1 q1
 rw [hs] at hA
 refine thn hA fun us s2 ⟨vs,H2,I2,r2,q2⟩=>?_
 match vs,q2,r2 with
 | [y],q2,r2=>exact zvv pins s2 σ H2 (.str z) [y] v us Q I2 r1 r2 q2
def zs7 (te:TE):TE:=fun σ H Q=>te σ H fun x H1=>uR x fun a=>∃ xs,H1 a=some (.lst xs)∧∀ ys:List V,(∀ y∈ys,y∈xs)→ys.length≤xs.length→∀ p H2,New H1 p (.lst ys) H2→Q (.ref p) H2
end
section
variable {K:PySem.W.Frag}{g:TG}{tb:TS}{D:zaq}{σ:St}{H:Hp}{ta:TA}{tl:TE}{wi:TI}{R:It→Hp→Prop}{j:Int}{tt:TT}{te:TE}{ix:List (Option Nat)}{Q:VK}
def uI2 (vs:List V) (q:Int→Int→Prop):Prop:=∃ i j,vs=[.int i,.int j]∧q i j
theorem zo0 {i:Int}{q:Int→Int→Prop}:uI2 [.int i,.int j] q=q i j:=by
 apply propext;constructor
 ·rintro ⟨a,b,e,h⟩;cases e;exact h
 ·exact fun h=>⟨i,j,rfl,h⟩
theorem zse:zof ta σ H R=ta σ H fun vs H1=>uI2 vs fun i j=>(-(2 ^ 62)≤i∧i<2 ^ 62∧-(2 ^ 62)≤j∧j<2 ^ 62)∧R (Itr i (j - i).toNat) H1:=rfl
theorem zak.tup {a:Addr}{xs:List V} (Pv:Nat→St→Hp→Prop) (h0:Pv 0 σ H) (hl:∀ i σ H,i≤xs.length→Pv i σ H→SqT K H a xs)
  (hs:∀ i x σ H,xs[i]?=some x→Pv i σ H→g x σ H fun σ2 H2=>tb { D with nx:=Pv (i+1),ct:=Pv (i+1),bk:=D.nx } σ2 H2) (hd:∀ σ H,Pv xs.length σ H→D.nx σ H):zak (Itt K a) g tb D σ H:=zrJ Pv h0 hl hs hd
theorem zah.lst {a:Addr}{xs:List V}{τ:St} (Pv:Nat→St→List V→Hp→Prop) (hz:∀ i τ ys H,Pv i τ ys H→ys.length<sizeLine) (ha:∀ i τ ys H,Pv i τ ys H→SqL K H a xs) (h0:Pv 0 τ [] H)
  (hs:∀ (N:St→List V→Hp→Prop) i x τ ys H,xs[i]?=some x→Pv i τ ys H→(∀ τ ys H,Pv (i+1) τ ys H→N τ ys H)→g x τ H fun τ1 H4=>tt τ1 H4 fun ok H5=>zbU N ys τ1 te ok H5) (hd:∀ τ ys H,Pv xs.length τ ys H→∀ D H',New H D (.lst ys) H'→Q (.ref D) H'):zah (Itl K a) g tt te τ H Q:=by
 refine ⟨fun i m τ ys H=>m=xs.length - i∧i≤xs.length∧Pv i τ ys H,⟨xs.length,by simp,Nat.zero_le _,h0⟩,?_⟩
 rintro i m τ ys H2 ⟨rfl,hi,p⟩
 refine ⟨hz i τ ys H2 p,?_⟩
 have q:=ha i τ ys H2 p
 by_cases hlt:i<xs.length
 ·refine .inr ⟨⟨xs,xs[i],q,by simp [hlt]⟩,fun x H' y=>?_⟩
  obtain ⟨e,y⟩:=y
  subst e
  exact hs (fun τ1 ys H=>∃ m',m'<xs.length - i∧m'=xs.length - (i+1)∧i+1≤xs.length∧Pv (i+1) τ1 ys H) i x τ ys _ (y xs q) p fun τ1 zs H q=>⟨xs.length - (i+1),by omega,rfl,hlt,q⟩
 ·have e:i=xs.length:=by omega
  subst e
  exact .inl ⟨⟨xs,q,Nat.le_refl _⟩,fun D hD _=>hd τ ys H2 p D _ (.mk' hD)⟩
def zhZ (t:TS):TS:=fun D σ H=>∃ Mid:St→Hp→Prop,t { D with nx:=Mid } σ H∧∀ σ' H',Mid σ' H'→D.nx σ' H'
theorem znS {st:Stmt}{t:TS} (h:PS X st t):PS X st (zhZ t):=fun pins s σ H D I hw=>by
 obtain ⟨Mid,h1,h2⟩:=hw
 refine thn (h pins s σ H _ I h1) fun f s1 q=>?_
 cases f with
 | next=>obtain ⟨σ',H',I',q⟩:=q;exact ⟨σ',H',I',h2 _ _ q⟩
 | ret v=>exact q
 | brk=>exact q
 | cont=>exact q
theorem zgU {t:TS}{D:zaq}{σ:St}{H:Hp}:zhZ t D σ H = ∃ Mid:St→Hp→Prop,t { D with nx:=Mid } σ H∧∀ σ' H',Mid σ' H'→D.nx σ' H':=rfl
end
end L2
set_option Elab.async false
set_option linter.all false
set_option maxRecDepth 100000
set_option maxHeartbeats 4000000
namespace L2
open PySem PySem.Spec PyProof.Rows
structure W (p:Prop):Prop where
 h:p
section
variable {X:Cx}
theorem zU  : W (PSs X [] ziz):=⟨zi7 ⟩
theorem zg {st:Stmt}{zZ:List Stmt}{t:TS}{u:TS} (h1:W (PS X st t)) (h2:W (PSs X zZ u)):W (PSs X (st::zZ) (ziH t u)):=⟨zjO (h1:=h1.h) (h2:=h2.h)⟩
theorem zh {st:Stmt}{t:TS} (h1:W (PS X st t)):W (PSs X [st] t):=⟨ziu (h1:=h1.h)⟩
theorem zu {e:Expr}{te:TE}{pos:Pos} (he:W (PE X e te)):W (PS X (.Return (some e) pos) (zh8 te)):=⟨zhf (he:=he.h)⟩
theorem zaa {e:Expr}{te:TE}{pos:Pos} (he:W (PE X e te)) (hs:swapsWith e none pos.line X.env=pure false:=by rfl):W (PS X (.Expr e pos) (zg4 te)):=⟨zro (he:=he.h) (hs:=hs)⟩
theorem zx {pos:Pos}{i:Nat}{x:Str}{e:Expr}{te:TE}{pos':Pos} (hN:X.N.Nodup) (hi:X.N[i]?=some x) (hx:Loc X.env.scope x) (he:W (PE X e te)) (hs:swapsWith e (some (.Name x pos')) pos.line X.env=pure false:=by rfl) (hf:X.fn x=true∨X.env.scope.names.lookup x=some .local:=by first|exact .inl rfl|exact .inr rfl|assumption):W (PS X (.Assign [.Name x pos'] e pos) (zc2 te (zbC i))):=⟨zne (hN:=hN) (hi:=hi) (hx:=hx) (he:=he.h) (hs:=hs) (hf:=hf)⟩
theorem zbx {C:Addr}{o value:Expr}{ta tv:TE}{f:Str}{pos pos':Pos} (c:Cls X.K C) (n:zaP X.K C f) (ha:W (PE X o ta)) (hv:W (PE X value tv)) (hs:swapsWith value (some (.Attribute o f pos')) pos.line X.env=pure false:=by rfl):W (PS X (.Assign [.Attribute o f pos'] value pos) (zfU C ta tv f)):=⟨znY (c:=c) (n:=n) (ha:=ha.h) (hv:=hv.h) (hs:=hs)⟩
theorem zdo {pos:Pos}{tg e:Expr}{te:TE}{g:TG} (he:W (PE X e te)) (hg:W (PG X tg g)) (hs:swapsWithSole [tg] e pos.line X.env=pure false:=by rfl) (hw:swappedStores [tg] e X.env=pure none:=by rfl) (h1:(assignEach [tg] X.env).map (·.2)=[assign tg X.env]:=by rfl):W (PS X (.Assign [tg] e pos) (zc2 te g)):=⟨znZ (he:=he.h) (hg:=hg.h) (hs:=hs) (hw:=hw) (h1:=h1)⟩
theorem zoj {pos:Pos}{i:Nat}{x:Str}{e:Expr}{te:TE}{op:Operator}{ti:TIp}{pos':Pos} (hN:X.N.Nodup) (hi:X.N[i]?=some x) (hx:Loc X.env.scope x) (he:W (PE X e te)) (ho:PIp X op ti) (hf:X.fn x=true∨X.env.scope.names.lookup x=some .local:=by first|exact .inl rfl|exact .inr rfl|assumption):W (PS X (.AugAssign (.Name x pos') op e pos) (zgJ i te ti)):=⟨zuq (hN:=hN) (hi:=hi) (hx:=hx) (he:=he.h) (ho:=ho) (hf:=hf)⟩
theorem zN {t:TS}{u:TS}{pos:Pos}{c:Expr}{a b:List Stmt}{tc:TT} (hc:W (PT X c tc)) (ha:W (PSs X a t)) (hb:W (PSs X b u)):W (PS X (.If c a b pos) (zhb tc t u)):=⟨zjR (hc:=hc.h) (ha:=ha.h) (hb:=hb.h)⟩
theorem zbl {tg:Expr}{c:Bool}{iter:Expr}{body:List Stmt}{wi:TI}{g:TG}{tb:TS}{pos:Pos} (hp:PassesOwn (model X.prog X.w) X.A X.env X.xe) (hc:c=true→X.calm=true) (hi:W (PIc c X tg iter wi)) (hg:W (PG X tg g)) (hb:W (PSs X body tb)) (hs:∀ x,foldedSetIterable iter X.env x=pure x:=by intro _;rfl):W (PS X (.For tg iter body [] pos) (zit wi g tb)):=⟨zsT (hp:=hp) (hc:=hc) (hi:=hi.h) (hg:=hg.h) (hb:=hb.h) (hs:=hs)⟩
theorem zcv {Ex:Addr→St→Hp→Prop}{C:Addr}{x:Str}{np cpos pos:Pos}{e:Expr}{es:List Expr}{t:TA} (hc:X.calm=true) (T:zan X Ex) (O:zas X.K C) (hg:Gl X x) (hm:X.mg x=some (.ref C)) (ha:W (PA X (e::es) t)) (hp:zI e=true:=by rfl) (hps:zaE es=true:=by rfl) (hdb:(x == ("__debug__":Str))=false:=by decide):W (PS X (.Raise (some (.Call (.Name x np) (e::es) [] cpos)) none pos) (zf8 C Ex t)):=⟨zpJ (hc:=hc) (T:=T) (O:=O) (hg:=hg) (hm:=hm) (ha:=ha.h) (hp:=hp) (hps:=hps) (hdb:=hdb)⟩
theorem zbG {tg a:Expr}{ta:TA}{p pos:Pos} (hg:Gl X "range") (hm:X.mg "range"=none) (ha:W (PA X [a] ta)) (hp:zI a=true:=by rfl):W (PIc true X tg (.Call (.Name "range" p) [a] [] pos) (ze9 ta)):=⟨ztw (hg:=hg) (hm:=hm) (ha:=ha.h) (hp:=hp)⟩
theorem zd8 {tg:Expr}{l:Expr}{tl:TE} (hl:W (PE X l tl)):W (PI X tg l (ziC X.K tl)):=⟨ztm (hl:=hl.h)⟩
theorem zc  : W (PA X [] zbv):=⟨zbF ⟩
theorem zb {e:Expr}{es:List Expr}{te:TE}{t:TA} (ha:W (PE X e te)) (hr:W (PA X es t)) (hp:zI e=true:=by rfl):W (PA X (e::es) (zel te t)):=⟨zol (ha:=ha.h) (hr:=hr.h) (hp:=hp)⟩
theorem zbs {a:Expr}{pos:Pos}{tA:TT} (ha:W (PT X a tA)):W (PT X (.UnaryOp .Not a pos) (zgL tA)):=⟨zmx (ha:=ha.h)⟩
theorem zdO {a:Expr}{pos:Pos}{tA:TT} (ha:W (PT X a tA)):W (PW X (.BoolOp .And [a] pos) tA):=⟨zuZ (ha:=ha.h)⟩
theorem zhk {a:Expr}{pos:Pos}{tA:TT} (ha:W (PT X a tA)):W (PW X (.BoolOp .Or [a] pos) tA):=⟨zu9 (ha:=ha.h)⟩
theorem zca {a:Expr}{b:Expr}{pos:Pos}{tA:TT}{tB':TT}{zZ:List Expr} (ha:W (PT X a tA)) (hb:W (PW X (.BoolOp .And (b::zZ) pos) tB')):W (PW X (.BoolOp .And (a::b::zZ) pos) (zhU tA tB')):=⟨zmA (ha:=ha.h) (hb:=hb.h)⟩
theorem zim {a:Expr}{b:Expr}{pos:Pos}{tA:TT}{tB':TT}{zZ:List Expr} (ha:W (PT X a tA)) (hb:W (PW X (.BoolOp .Or (b::zZ) pos) tB')):W (PW X (.BoolOp .Or (a::b::zZ) pos) (tOr tA tB')):=⟨zph (ha:=ha.h) (hb:=hb.h)⟩
theorem zM {a:Expr}{b:Expr}{ta:TE}{tb:TE}{pos:Pos}{op:CmpOp}{r:R2} (ho:OpR X (compareOp op) r) (ha:W (PE X a ta)) (hb:W (PE X b tb)) (hm:behindInMarks op b=false):W (PT X (.Compare a [op] [b] pos) (zfh (tOp r ta tb))):=⟨zkN (ho:=ho) (ha:=ha.h) (hb:=hb.h) (hm:=hm)⟩
theorem zaH {a:Expr}{ta:TE} (ha:W (PE X a ta)) (he:∀ whole,isTrue a X.env whole=(do let v←whole;standAt a.pos;holding [v] (truthy v)):=by intro _;rfl):W (PT X a (zfx X.K ta)):=⟨zjo (ha:=ha.h) (he:=he)⟩
theorem za (i:Nat) {x:Str}{pos:Pos} (hN:X.N[i]?=some x:=by rfl) (hv:Vis X.env.scope x:=by first|exact Or.inl rfl|exact Or.inr (Or.inl rfl)|exact Or.inr (Or.inr rfl)) (hd:(x == ("__debug__":Str))=false:=by decide) (hcd:(x == ("__classdict__":Str))=false:=by decide):W (PE X (.Name x pos) (zdb i)):=⟨pv (i:=i) (hN:=hN) (hv:=hv) (hd:=hd) (hcd:=hcd)⟩
theorem zac {x:Str}{v:V}{pos:Pos} (hg:Gl X x) (hm:∃ u,X.mg x=some u∧zi v u) (hd:(x == ("__debug__":Str))=false:=by decide):W (PE X (.Name x pos) (tC v)):=⟨zjl (hg:=hg) (hm:=hm) (hd:=hd)⟩
theorem zeN {x:Str}{v:V}{u:Value}{pos:Pos} (hg:Gl X x) (hm:X.mg x=none) (hv:bootBuiltins x=some u) (r:zi v u) (hn:x≠"__name__":=by decide) (hd:(x == ("__debug__":Str))=false:=by decide):W (PE X (.Name x pos) (tC v)):=⟨zqn (hg:=hg) (hm:=hm) (hv:=hv) (r:=r) (hn:=hn) (hd:=hd)⟩
theorem zal {j pos}:W (PE X (.Constant .none j pos) (tC .non)):=⟨zvi ⟩
theorem zaJ {b j pos}:W (PE X (.Constant (.bool b) j pos) (tC (.bl b))):=⟨zvo ⟩
theorem zj {i j pos}:W (PE X (.Constant (.int i) j pos) (tC (.int i))):=⟨ziR ⟩
theorem zG {x j pos}:W (PE X (.Constant (.str x) j pos) (tC (.str x))):=⟨zqD ⟩
theorem zK {a:Expr}{b:Expr}{ta:TE}{tb:TE}{pos:Pos}{op:Operator}{r:R2} (ho:OpR X (binaryOp op) r) (ha:W (PE X a ta)) (hb:W (PE X b tb)):W (PE X (.BinOp a op b pos) (tOp r ta tb)):=⟨zmC (ho:=ho) (ha:=ha.h) (hb:=hb.h)⟩
theorem zop {a:Expr}{ta:TE}{pos:Pos} (ha:W (PE X a ta)):W (PE X (.UnaryOp .Not a pos) (zgN ta)):=⟨zqI (ha:=ha.h)⟩
theorem ziD {a:Expr}{ta:TE}{pos:Pos}{op:UnaryOp}{r:V→Hp→VK→Prop} (ho:UnR X (unaryOp op) r) (ha:W (PE X a ta)):W (PE X (.UnaryOp op a pos) (tUn r ta)):=⟨zpP (ho:=ho) (ha:=ha.h)⟩
theorem zds {a:Expr}{pos:Pos} {op}{t:TE} (h:W (PE X a t)):W (PE X (.BoolOp op [a] pos) t):=⟨zmS (h:=h.h)⟩
theorem zfD {a:Expr}{b:Expr}{ta:TE}{tb:TE}{pos:Pos}{zZ:List Expr} (ha:W (PE X a ta)) (hb:W (PE X (.BoolOp .And (b::zZ) pos) tb)):W (PE X (.BoolOp .And (a::b::zZ) pos) (ziy ta tb)):=⟨zrS (ha:=ha.h) (hb:=hb.h)⟩
theorem zkS {a:Expr}{b:Expr}{ta:TE}{tb:TE}{pos:Pos}{zZ:List Expr} (ha:W (PE X a ta)) (hb:W (PE X (.BoolOp .Or (b::zZ) pos) tb)):W (PE X (.BoolOp .Or (a::b::zZ) pos) (zhD ta tb)):=⟨zwH (ha:=ha.h) (hb:=hb.h)⟩
theorem zba {a:Expr}{b:Expr}{ta:TE}{tb:TE}{pos:Pos}{op:CmpOp}{r:R2} (ho:OpR X (compareOp op) r) (ha:W (PE X a ta)) (hb:W (PE X b tb)) (hm:behindInMarks op b=false):W (PE X (.Compare a [op] [b] pos) (tOp r ta tb)):=⟨zsr (ho:=ho) (ha:=ha.h) (hb:=hb.h) (hm:=hm)⟩
theorem zlu {a:Expr}{b:Expr}{c:Expr}{ta:TE}{tb:TE}{tc:TE}{pos:Pos}{op op':CmpOp}{r r':R2} (ho:OpR X (compareOp op) r) (ho':OpR X (compareOp op') r') (ha:W (PE X a ta)) (hb:W (PE X b tb)) (hc:W (PE X c tc)) (hm:lastMarks [op,op'] [b,c]=false:=by with_unfolding_all rfl):W (PE X (.Compare a [op,op'] [b,c] pos) (zid r r' ta tb tc)):=⟨zqr (ho:=ho) (ho':=ho') (ha:=ha.h) (hb:=hb.h) (hc:=hc.h) (hm:=hm)⟩
theorem ze7 {a:Expr}{b:Expr}{ta:TE}{tb:TE}{pos:Pos}{tA:TT}{c:Expr} (hc:W (PT X c tA)) (ha:W (PE X a ta)) (hb:W (PE X b tb)):W (PE X (.IfExp c a b pos) (tIf tA ta tb)):=⟨zoq (hc:=hc.h) (ha:=ha.h) (hb:=hb.h)⟩
theorem zX {es:List Expr}{t:TA}{pos:Pos} (h:W (PA X es t)):W (PE X (.List es pos) (zfq t)):=⟨zwd (h:=h.h)⟩
theorem zaY {es:List Expr}{t:TA} {x1}{pos:Pos} (h:W (PA X es t)):W (PE X (.Tuple es x1 pos) (zgH t)):=⟨zvc (h:=h.h)⟩
theorem zaN {C:Addr}{e:Expr}{ta:TE}{f:Str}{pos:Pos} (c:Cls X.K C) (n:zaP X.K C f) (he:W (PE X e ta)) (hb:attributeBase e f X.env (eval e X.env)=eval e X.env:=by rfl):W (PE X (.Attribute e f pos) (zff C ta f)):=⟨zpB (c:=c) (n:=n) (he:=he.h) (hb:=hb)⟩
theorem zR {a:Expr}{b:Expr}{ta:TE}{tb:TE}{pos:Pos}{r:R2} (hr:IxR X r) (ha:W (PE X a ta)) (hb:W (PE X b tb)) (hs:zl9 b):W (PE X (.Subscript a b pos) (tOp r ta tb)):=⟨zj9 (hr:=hr) (ha:=ha.h) (hb:=hb.h) (hs:=hs)⟩
theorem zdW {e:Expr}{te:TE}{lo:Option Expr}{hi:Option Expr}{tl:TO}{th:TO}{pos:Pos}{p2:Pos}{r:V→Option Int→Option Int→Hp→VK→Prop} (hr:SlR X r) (he:W (PE X e te)) (hl:W (PO X lo tl)) (hu:W (PO X hi th)):W (PE X (.Subscript e (.Slice lo hi none p2) pos) (tSl r te tl th)):=⟨zmP (hr:=hr) (he:=he.h) (hl:=hl.h) (hu:=hu.h)⟩
theorem zo {cm:Bool}{k:Nat}{j:Nat}{x:Str}{ps:List Str}{sp:Sp}{e:Expr}{es:List Expr}{t:TA}{p:Pos}{pos:Pos} (G:GF X.prog X.w X.K X.mg X.base cm j x ps sp) (hr:zE cm k X.A) (hg:Gl X x) (ha:W (PA X (e::es) t)) (hj:j≤k:=by decide) (hdb:(x == ("__debug__":Str))=false:=by decide) (hp:zI e=true:=by rfl) (hps:zaE es=true:=by rfl):W (PE X (.Call (.Name x p) (e::es) [] pos) (zeJ sp [] E0 t)):=⟨zrN (G:=G) (hr:=hr) (hg:=hg) (ha:=ha.h) (hj:=hj) (hdb:=hdb) (hp:=hp) (hps:=hps)⟩
theorem zfj {cm:Bool}{k:Nat}{j:Nat}{x:Str}{ps:List Str}{sp:Sp}{e:Expr}{es:List Expr}{t:TA}{p:Pos}{pos:Pos}{Ex:Addr→St→Hp→Prop} (T:zan X Ex) (G:GX X.prog X.w X.K X.mg X.base cm j x ps sp) (hr:zE cm k X.A) (hg:Gl X x) (ha:W (PA X (e::es) t)) (hj:j≤k:=by decide) (hdb:(x == ("__debug__":Str))=false:=by decide) (hp:zI e=true:=by rfl) (hps:zaE es=true:=by rfl):W (PE X (.Call (.Name x p) (e::es) [] pos) (zfY sp [] Ex t)):=⟨zst (T:=T) (G:=G) (hr:=hr) (hg:=hg) (ha:=ha.h) (hj:=hj) (hdb:=hdb) (hp:=hp) (hps:=hps)⟩
theorem zhG {cm:Bool}{k:Nat}{j:Nat}{x:Str}{C:Addr}{ps:List Str}{sp:Sp}{e:Expr}{es:List Expr}{t:TA}{p:Pos}{pos:Pos}{Ex:Addr→St→Hp→Prop} (T:zan X Ex) (G:GCX X.prog X.w X.K X.mg X.base cm j x C ps sp) (hr:zE cm k X.A) (hg:Gl X x) (ha:W (PA X (e::es) t)) (hj:j+1≤k:=by decide) (hdb:(x == ("__debug__":Str))=false:=by decide) (hp:zI e=true:=by rfl) (hps:zaE es=true:=by rfl):W (PE X (.Call (.Name x p) (e::es) [] pos) (zhc C sp Ex t)):=⟨zuk (T:=T) (G:=G) (hr:=hr) (hg:=hg) (ha:=ha.h) (hj:=hj) (hdb:=hdb) (hp:=hp) (hps:=hps)⟩
theorem zH {id:String}{r:List V→Hp→VK→Prop}{x:Str}{e:Expr}{es:List Expr}{t:TA}{p pos:Pos} (hc:zJ X (.builtin id) r) (hg:Gl X x) (hm:X.mg x=none) (hv:bootBuiltins x=some (.builtin id)) (ha:W (PA X (e::es) t)) (hp:zI e=true:=by rfl) (hps:zaE es=true:=by rfl) (hn:x≠"__name__":=by decide) (hdb:(x == ("__debug__":Str))=false:=by decide):W (PE X (.Call (.Name x p) (e::es) [] pos) (tCB r t)):=⟨zsc (hc:=hc) (hg:=hg) (hm:=hm) (hv:=hv) (ha:=ha.h) (hp:=hp) (hps:=hps) (hn:=hn) (hdb:=hdb)⟩
theorem zeA {T:String}{r:List V→Hp→VK→Prop}{x:Str}{e:Expr}{es:List Expr}{t:TA}{p pos:Pos} (hc:zJ X (.type T) r) (hg:Gl X x) (hm:X.mg x=none) (hv:bootBuiltins x=some (.type T)) (ha:W (PA X (e::es) t)) (hp:zI e=true:=by rfl) (hps:zaE es=true:=by rfl) (hn:x≠"__name__":=by decide) (hdb:(x == ("__debug__":Str))=false:=by decide):W (PE X (.Call (.Name x p) (e::es) [] pos) (tCB r t)):=⟨zrr (hc:=hc) (hg:=hg) (hm:=hm) (hv:=hv) (ha:=ha.h) (hp:=hp) (hps:=hps) (hn:=hn) (hdb:=hdb)⟩
theorem zcu {cm : Bool} {k : Nat} {j : Nat} {m : Str} {C : Addr} {ps : List Str} {sp : Sp} {e : Expr} {o : Expr} {es : List Expr} {t : TA} {ta : TE} {pos : Pos} {apos : Pos} {pl : Sem Bool} (he : W (PE X o ta)) (c : Cls X.K C) (G : GM X.prog X.w X.K X.mg X.base cm j C m ps sp) (hr : zE cm k X.A) (ha : W (PA X (e :: es) t)) (hj : j ≤ k := by decide) (hp : zI e = true := by rfl) (hps : zaE es = true := by rfl) (ht : eval (.Call (.Attribute o m apos) (e :: es) [] pos) X.env = (do
      let ov ← eval o X.env
      standAt apos.atName
      let (f, first) ← holding [ov] (getMethod ov m pl)
      callWith pos f first (backTo pos (starEach (e :: es) X.env)) (backToKw pos (keywordEach [] X.env))) := by rfl) : W (PE X (.Call (.Attribute o m apos) (e :: es) [] pos) (zcq C m sp [] E0 ta t)) := ⟨znB (he := he.h) (c := c) (G := G) (hr := hr) (ha := ha.h) (hj := hj) (hp := hp) (hps := hps) (ht := ht)⟩
theorem zby {cm : Bool} {k : Nat} {j : Nat} {m : Str} {C : Addr} {ps : List Str} {sp : Sp} {o : Expr} {ta : TE} {pos : Pos} {apos : Pos} {pl : Sem Bool} (he : W (PE X o ta)) (c : Cls X.K C) (G : GM X.prog X.w X.K X.mg X.base cm j C m ps sp) (hr : zE cm k X.A) (hj : j ≤ k := by decide) (ht : eval (.Call (.Attribute o m apos) [] [] pos) X.env = (do
      let ov ← eval o X.env
      standAt apos.atName
      let (f, first) ← holding [ov] (getMethod ov m pl)
      callWith pos f first (backTo pos (starEach [] X.env)) (backToKw pos (keywordEach [] X.env))) := by rfl) : W (PE X (.Call (.Attribute o m apos) [] [] pos) (zcq C m sp [] E0 ta zbv)) := ⟨zny (he := he.h) (c := c) (G := G) (hr := hr) (hj := hj) (ht := ht)⟩
theorem zcp {cm : Bool} {k : Nat} {j : Nat} {m : Str} {C : Addr} {ps : List Str} {sp : Sp} {e : Expr} {o : Expr} {es : List Expr} {t : TA} {ta : TE} {pos : Pos} {apos : Pos} {Ex : Addr → St → Hp → Prop} {pl : Sem Bool} (he : W (PE X o ta)) (c : Cls X.K C) (T : zan X Ex) (G : GMX X.prog X.w X.K X.mg X.base cm j C m ps sp) (hr : zE cm k X.A) (ha : W (PA X (e :: es) t)) (hj : j ≤ k := by decide) (hp : zI e = true := by rfl) (hps : zaE es = true := by rfl) (ht : eval (.Call (.Attribute o m apos) (e :: es) [] pos) X.env = (do
      let ov ← eval o X.env
      standAt apos.atName
      let (f, first) ← holding [ov] (getMethod ov m pl)
      callWith pos f first (backTo pos (starEach (e :: es) X.env)) (backToKw pos (keywordEach [] X.env))) := by rfl) : W (PE X (.Call (.Attribute o m apos) (e :: es) [] pos) (zcc C m sp [] Ex ta t)) := ⟨zoY (he := he.h) (c := c) (T := T) (G := G) (hr := hr) (ha := ha.h) (hj := hj) (hp := hp) (hps := hps) (ht := ht)⟩
theorem zcV {cm : Bool} {k : Nat} {j : Nat} {m : Str} {C : Addr} {ps : List Str} {sp : Sp} {o : Expr} {ta : TE} {pos : Pos} {apos : Pos} {Ex : Addr → St → Hp → Prop} {pl : Sem Bool} (he : W (PE X o ta)) (c : Cls X.K C) (T : zan X Ex) (G : GMX X.prog X.w X.K X.mg X.base cm j C m ps sp) (hr : zE cm k X.A) (hj : j ≤ k := by decide) (ht : eval (.Call (.Attribute o m apos) [] [] pos) X.env = (do
      let ov ← eval o X.env
      standAt apos.atName
      let (f, first) ← holding [ov] (getMethod ov m pl)
      callWith pos f first (backTo pos (starEach [] X.env)) (backToKw pos (keywordEach [] X.env))) := by rfl) : W (PE X (.Call (.Attribute o m apos) [] [] pos) (zcc C m sp [] Ex ta zbv)) := ⟨zv9 (he := he.h) (c := c) (T := T) (G := G) (hr := hr) (hj := hj) (ht := ht)⟩
theorem zcj {o e:Expr}{to te:TE}{apos cpos:Pos} (ho:W (PE X o to)) (he:W (PE X e te)) (hbase:attributeBase o "append" X.env (eval o X.env)=eval o X.env:=by rfl) (hline:(apos.endLine == cpos.line)=true:=by rfl) (hp:zI e=true:=by rfl):W (PE X (.Call (.Attribute o "append" apos) [e] [] cpos) (zgG to te)):=⟨zrW (ho:=ho.h) (he:=he.h) (hbase:=hbase) (hline:=hline) (hp:=hp)⟩
theorem zb5 {c:Bool}{X:Cx}{elt tg iter:Expr}{ifs:List Expr}{sc:Scope}{pos:Pos}{N':List Str}{ix:List (Option Nat)}{wi:TI}{g:TG}{tt:TT}{te:TE} (hc:c=true→X.calm=true) (L:zaz X sc N' ix) (hi:W (PIc c X tg iter wi)) (hg:∀ pins C fp s H,W (PG (zP X sc N' pins C fp s H) tg g)) (ht:∀ pins C fp s H,W (PTs (zP X sc N' pins C fp s H) ifs tt)) (he:∀ pins C fp s H,W (PE (zP X sc N' pins C fp s H) elt te)) (hs:∀ x,foldedSetIterable iter X.env x=pure x:=by intro _;rfl):W (PE X (.ListComp elt [⟨tg,iter,ifs,0⟩] sc pos) (tLC ix wi g tt te)):=⟨znV (hc:=hc) (L:=L) (hi:=hi.h) (hg:=fun z0 z1 z2 z3 z4=>(hg z0 z1 z2 z3 z4).h) (ht:=fun z0 z1 z2 z3 z4=>(ht z0 z1 z2 z3 z4).h) (he:=fun z0 z1 z2 z3 z4=>(he z0 z1 z2 z3 z4).h) (hs:=hs)⟩
theorem zO {pos:Pos}{i:Nat}{x:Str} (hN:X.N.Nodup) (hi:X.N[i]?=some x) (hx:Loc X.env.scope x) (hf:X.fn x=true∨X.env.scope.names.lookup x=some .local:=by first|exact .inl rfl|exact .inr rfl|assumption):W (PG X (.Name x pos) (zbC i)):=⟨zlp (hN:=hN) (hi:=hi) (hx:=hx) (hf:=hf)⟩
theorem zd5 {X:Cx}{pos:Pos}{es:List Expr}{k:Nat}{t:TGs}{n:Nat} (h:W (PGs X es t)) (hl:(assignEach es X.env).length=n:=by rfl) (hst:(assignEach es X.env).findIdx? (·.1)=none:=by rfl):W (PG X (.Tuple es k pos) (zeB X.K n t)):=⟨zml (h:=h.h) (hl:=hl) (hst:=hst)⟩
theorem zbL  : W (PGs X [] zfy):=⟨zpX ⟩
theorem zau {e:Expr}{es:List Expr}{t:TG}{u:TGs} (h1:W (PG X e t)) (h2:W (PGs X es u)) (hs:(assignEach (e::es) X.env).map (·.2)=assign e X.env::(assignEach es X.env).map (·.2):=by rfl):W (PGs X (e::es) (zeU t u)):=⟨zuB (h1:=h1.h) (h2:=h2.h) (hs:=hs)⟩
theorem zdE {X:Cx}:W (PTs X [] zgt):=⟨zum ⟩
theorem zdf {X:Cx}{c:Expr}{t:TT} (h:W (PT X c t)):W (PTs X [c] t):=⟨zv5 (h:=h.h)⟩
theorem zoT {X:Cx}{i:Nat}{D:Addr}{x n:Str}{np hpos pos:Pos}{body:List Stmt}{b₀:Stmt}{suite:List Stmt}{tb:(Addr→St→Hp→Prop)→TS}{ts:TS} (hc:X.calm=true) (hex:X.ex=[]) (hstk:X.stack=X.env::X.outer∧X.env.frame=some X.env.locals) (hN:X.N.Nodup) (hi:X.N[i]?=some n) (hlo:X.env.scope.names.lookup n=some .local) (OD:zas X.K D) (hg:Gl X x) (hm:X.mg x=some (.ref D)) (hb:∀ pins Ex,W (PSs (zes X pins Ex) body (tb Ex))) (hs:∀ pins ea,W (PSs (zbK X pins ea) (b₀::suite) ts)) (hdb:(x == ("__debug__":Str))=false:=by decide):W (PS X (.Try body [.ExceptHandler (some (.Name x np)) (some n) (b₀::suite) hpos] [] [] pos) (zho X.K i D tb ts)):=⟨zvr (hc:=hc) (hex:=hex) (hstk:=hstk) (hN:=hN) (hi:=hi) (hlo:=hlo) (OD:=OD) (hg:=hg) (hm:=hm) (hb:=fun z0 z1=>(hb z0 z1).h) (hs:=fun z0 z1=>(hs z0 z1).h) (hdb:=hdb)⟩
theorem zfS {Y:Cx}{sc:Scope}{N':List Str}{pins:List (Addr×Obj)}{D:Addr}{fp:List Addr}{s:Shared}{H:Hp}{pos:Pos}{es:List Expr}{k:Nat}{t:TGs}{n:Nat} (h:W (PGs (zP Y sc N' pins D fp s H) es t)) (hl:(assignEach es (zP Y sc N' pins D fp s H).env).length=n:=by rfl) (hst:(assignEach es (zP Y sc N' pins D fp s H).env).findIdx? (·.1)=none:=by rfl):W (PG (zP Y sc N' pins D fp s H) (.Tuple es k pos) (zeB Y.K n t)):=⟨zuc (h:=h.h) (hl:=hl) (hst:=hst)⟩
theorem zh1 {o:Expr}{to:TE}{apos cpos:Pos} (ho:W (PE X o to)) (hbase:attributeBase o "clear" X.env (eval o X.env)=eval o X.env:=by rfl) (hline:(apos.endLine == cpos.line)=true:=by rfl):W (PE X (.Call (.Attribute o "clear" apos) [] [] cpos) (zgT to)):=⟨zp2 (ho:=ho.h) (hbase:=hbase) (hline:=hline)⟩
theorem znH {o e:Expr}{to te:TE}{apos cpos:Pos} (ho:W (PE X o to)) (he:W (PE X e te)) (hbase:attributeBase o "join" X.env (eval o X.env)=eval o X.env:=by rfl) (hline:(apos.endLine == cpos.line)=true:=by rfl) (hp:zI e=true:=by rfl):W (PE X (.Call (.Attribute o "join" apos) [e] [] cpos) (zie to te)):=⟨zp6 (ho:=ho.h) (he:=he.h) (hbase:=hbase) (hline:=hline) (hp:=hp)⟩
theorem ze2 {elts:List Expr}{kk:Nat}{tp p pos:Pos}{a:Expr}{ta:TA} (hg:Gl X "enumerate") (hm:X.mg "enumerate"=none) (ha:W (PA X [a] ta)) (hp:zI a=true:=by rfl):W (PIc true X (.Tuple elts kk tp) (.Call (.Name "enumerate" p) [a] [] pos) (zgK X.K ta)):=⟨zsf (hg:=hg) (hm:=hm) (ha:=ha.h) (hp:=hp)⟩
theorem zjf {C:Addr}{o value:Expr}{f:Str}{tpos pos:Pos}{ta tv:TE}{op:Operator}{rd:V→V→Hp→VK→Prop} (c:Cls X.K C) (n:zaP X.K C f) (ha:W (PE X o ta)) (hv:W (PE X value tv)) (hop:zf6 X op rd):W (PS X (.AugAssign (.Attribute o f tpos) op value pos) (zhC C ta tv rd f)):=⟨zrF (c:=c) (n:=n) (ha:=ha.h) (hv:=hv.h) (hop:=hop)⟩
theorem zex {pos : Pos} {o i : Expr} {to ti : TE} {t : zfp} (ho : W (PE X o to)) (hi : W (PE X i ti)) (hs : ziv X t) (ha : ∀ v, assign (.Subscript o i pos) X.env v = (do
      let ov ← holding [v] (eval o X.env)
      let iv ← holding [v, ov] (eval i X.env)
      standAt pos
      holding [v, ov, iv] (setItem ov iv v)
      release [v, ov, iv] []) := by intro _; rfl) : W (PG X (.Subscript o i pos) (zig to ti t)) := ⟨zvj (ho := ho.h) (hi := hi.h) (hs := hs) (ha := ha)⟩
theorem zea  : W (PO X none ziF):=⟨zu0 ⟩
theorem zdV {e:Expr}{te:TE} (h:W (PE X e te)):W (PO X (some e) (ziI te)):=⟨zsi (h:=h.h)⟩
theorem zh9 {st:Stmt}{t:TS} (h:W (PS X st t)):W (PS X st (zhZ t)):=⟨znS (h:=h.h)⟩
theorem zb3 {e:Expr}{t:TT} (h:W (PW X e t)):W (PT X e t):=⟨PW.pt h.h⟩
theorem zqV {st:Stmt}{t:TS} (h:W (PS X.nox st t)):W (PS X st t):=⟨PS.nox h.h⟩
end
end L2
set_option Elab.async false
set_option linter.all false
set_option maxRecDepth 100000
set_option maxHeartbeats 4000000
namespace L2
open PySem PySem.Spec PyProof.Rows
def asc (z:Str):Bool:=z.cps.all (· < 128)
def Its (z:Str):It:=⟨fun i _=>i<z.cps.size,fun i H x H'=>H'=H∧∃ c,z.cps[i]?=some c∧x = .str ⟨#[c]⟩,fun i _=>z.cps.size≤i⟩
theorem zoZ {P:Program}{w:World}{K:PySem.W.Frag}{tg:Expr} (z:Str) (it:Addr):zcl true P w K tg (Its z) [it] it (fun i h=>∃ t,h.IsStrIter it "str_ascii_iterator" z t i) where
 mem:=by simp
 obj:=fun i h st b hb=>by
  have e:b=it:=by simpa using hb
  subst e
  obtain ⟨t,o,e,c,d⟩:=st
  exact ⟨o,e,fun v z=>by rw [d] at z;cases z⟩
 keep:=fun i h h' st k=>by
  obtain ⟨t,o,e,r⟩:=st
  exact ⟨t,o,k it (by simp) o e,r⟩
 item:=by
  intro X hP hw hK hc i pins s σ H E I hf st hg
  subst hP hw hK
  obtain ⟨t,st⟩:=st
  obtain ⟨f0,f1,f2,f3,f4,f5⟩:=hf it (by simp)
  have hi:i<z.cps.size:=hg
  refine wpAny_pyNext_ascii_item st (c:=z.cps[i]) (by simp [hi]) fun h' st' sb=>?_
  have I1:Inv X pins σ H { s with heap:=h',toks:=s.toks+1 }:=I.turned (fun b o hb e=>(sb.2 b hb).trans e) f0 f1 f3 f4 f5
  obtain ⟨o,e,c,d⟩:=id st'
  exact ⟨_,rfl,zf5 (s:={ s with heap:=h',toks:=s.toks+1 }) e c d (by decide) ⟨.str ⟨#[z.cps[i]]⟩,H,I1,⟨_,rfl⟩,⟨rfl,_,by simp [hi],rfl⟩,⟨t,st'⟩,fun b hb=>(hf b hb).1⟩⟩
 done:=by
  intro X hP hw hK hc i pins s σ H E I hf st hg
  subst hP hw hK
  obtain ⟨t,st⟩:=st
  obtain ⟨f0,f1,f2,f3,f4,f5⟩:=hf it (by simp)
  have hi:z.cps.size≤i:=hg
  exact wpAny_pyNext_ascii_end (I.ok.hd (hc rfl)) st (by simp [hi]) fun h' eb=>⟨rfl,I.turned (t':=s.toks) (fun b o hb e=>eb b o hb e) f0 f1 f3 f4 f5⟩
 self:=fun _ _ _ _ _ st h=>by
  obtain ⟨t,st⟩:=st
  exact wpAny_pyIter_striter_ascii st h
section
variable {X:Cx}{tg:Expr}
def zhq (tl:TE):TI:=fun σ H R=>tl σ H fun x H1=>uS x fun z=>asc z=true∧R (Its z) H1
theorem zsY {tl:TE}{σ:St}{H:Hp}{R:It→Hp→Prop}:zhq tl σ H R=tl σ H fun x H1=>uS x fun z=>asc z=true∧R (Its z) H1:=rfl
theorem zpt {l:Expr}{tl:TE} (hl:PE X l tl):PIc true X tg l (zhq tl):=by
 intro pins s σ H R I h
 refine thn (hl pins s σ H _ I h) fun v s1 ⟨x,H1,I1,r1,q1⟩=>?_
 obtain ⟨z,e,ha,q⟩:=q1
 subst e
 obtain ⟨t,rfl⟩:=r1
 refine wpAny_pyIter_ascii ha ?_
 refine ⟨s1.heap.objs.size,[s1.heap.objs.size],_,_,H1,rfl,I1.kept (t':=s1.toks) fun b o e=>Heap.get?_push_of_some _ e,zoZ z _,⟨t,_,Heap.get?_push_size _ rfl,rfl,rfl⟩,fun b hb=>?_,q⟩
 have e:b=s1.heap.objs.size:=by simpa using hb
 subst e
 exact I1.fpOk (Nat.le_refl _) (I1.hok.fresh (Nat.le_refl _))
end
theorem Draws.later {prog:Program}{w:World}{A:Around}{it:Addr}{fp:List Addr}{n k:Nat}{P:Nat→Value→Prop}{St:Nat→Heap→Prop} (D:Draws prog w A it fp n P St) :
  Draws prog w A it fp (n+k) (fun i v=>P (i - k) v) (fun i h=>k≤i∧St (i - k) h) where
 live:=fun _ _ st=>D.live _ _ st.2
 frame:=fun _ _ _ st hk=>⟨st.1,D.frame _ _ _ st.2 hk⟩
 item:=fun i s Q E hi st hQ=>D.item (i - k) s Q E (by have:=st.1;omega) st.2 fun x h' tk p st' sb=>hQ x h' tk p ⟨by have:=st.1;omega,by
  have e:i+1 - k=i - k+1:=by have:=st.1;omega
  rw [e];exact st'⟩ sb
 done:=fun s Q E st hE=>D.done s Q E (by
  have e:n+k - k=n:=by omega
  have:=st.2;rwa [e] at this) hE
def zd7 (z:Str) (k:Nat):It :=
 ⟨fun i _=>i<z.cps.size,fun i H v H'=>∃ T c,H T=none∧v = .ref T∧z.cps[i]?=some c∧H'=upd H T (.tup [.int ((i:Nat)+k:Nat),.str ⟨#[c]⟩]),fun i _=>i=z.cps.size⟩
structure zno (e it:Addr) (z:Str) (k i:Nat) (h:Heap):Prop where
 en:∃ old,IsEnum h e it ((i+k:Nat):Int) old
 a:∃ t,h.IsStrIter it "str_ascii_iterator" z t i
theorem zj4 {P:Program}{w:World}{K:PySem.W.Frag}{elts:List Expr}{kk:Nat}{tp:Pos}{z:Str}{k:Nat}{e it:Addr} (hne:e≠it) :
  zcl true P w K (.Tuple elts kk tp) (zd7 z k) [e,it] e (zno e it z k) where
 mem:=by simp
 obj:=fun i h st b hb=>by
  obtain ⟨⟨old,a1⟩,⟨t,o4,a4,_,d4⟩⟩:=st
  simp only [List.mem_cons,List.not_mem_nil,or_false] at hb
  rcases hb with rfl|rfl
  ·exact ⟨_,a1,fun v q=>nomatch q⟩
  ·exact ⟨_,a4,fun v q=>by rw [d4] at q;cases q⟩
 keep:=fun i h h' st k=>by
  obtain ⟨⟨old,a1⟩,⟨t,o,a4,r⟩⟩:=st
  exact ⟨⟨old,k _ (by simp) _ a1⟩,t,o,k _ (by simp) o a4,r⟩
 item:=by
  intro X hP hw hK hc i pins s σ H E I hf st hg
  subst hP hw hK
  obtain ⟨⟨old,a1⟩,⟨t,a4⟩⟩:=st
  have hi:i<z.cps.size:=hg
  have hid:=I.ok.hd (hc rfl)
  have D:=Draws.later (k:=k) (Draws.strAscii (prog:=X.prog) (w:=X.w) (A:=X.A.in1) hid it z t)
  refine wpAny_pyNext_enum_itemD D a1 (i:=i+k) ⟨by omega,by rw [Nat.add_sub_cancel];exact a4⟩ (by omega) hne (by simpa using hne) fun x h' tk px b1 b2 b3 b4 b5=>?_
  obtain ⟨c,u,hcc,rfl⟩:=px
  rw [Nat.add_sub_cancel] at hcc
  refine ⟨_,rfl,wpAny_letOwnedTupleGo_enum (s:={ s with heap:=h',toks:=tk+1 }) b1 fun h2 c1 c2=>?_⟩
  have zlt:e<s.heap.objs.size:=Heap.lt_size a1
  have nz:s.heap.objs.size≠e:=Nat.ne_of_gt zlt
  have all:∀ c o,c≠e→c≠it→s.heap.get? c=some o→h2.get? c=some o:=fun c o n1 n2 q=>c2.extBut c o n1 (b5 c o n1 n2 q)
  have tT:h2.get? s.heap.objs.size=some { cls:=.type "tuple",data:=.seq #[.int ((i+k:Nat):Int) tk,.str ⟨#[c]⟩ u] }:=c2.extBut _ _ nz b3
  have hfr:H s.heap.objs.size=none:=I.hok.fresh (Nat.le_refl _)
  have hok0:HOk X.prog X.w H h2:=fun b u q0=>by
   refine (I.hok b u q0).stay (fun c v hc q=>?_) (fun _ q=>q) fun _ _ q=>q
   have hnn:∀ d∈[e,it],c≠d:=fun d hd w=>by
    have fd:=(hf d hd).1
    rcases hc with k|k
    ·rw [k] at w;rw [w,fd] at q0;cases q0
    ·rw [w,fd] at k;cases k
   exact all c v (hnn e (by simp)) (hnn it (by simp)) q
  have lt0:∀ b o,s.heap.get? b=some o→b≠s.heap.objs.size:=fun b o e=>Nat.ne_of_lt (Heap.lt_size e)
  have I2:Inv X pins σ (upd H s.heap.objs.size (.tup [.int ((i+k:Nat):Int),.str ⟨#[c]⟩])) { s with heap:=h2,toks:=tk+1 }:=by
   refine I.step (g':=s.gens) (d':=s.drawn) (t':=tk+1) (ch:=[e,it]) (fun b hb=>?_) (fun b o _ _ hb q _=>?_) (fun b o _ _ hb q _=>?_) (fun b o _ q n=>?_) (fun b o hb q=>?_) (fun b ps q=>?_) (fun b o u q=>?_) (fun b ps q=>?_) (fun m hm=>?_) (hok0.add hfr ?_) I.bare
   ·obtain ⟨f0,f1,f2,f3,f4,f5⟩:=hf b hb
    exact ⟨f3,f1,f4,f5⟩
   ·simp only [List.mem_cons,List.not_mem_nil,or_false,not_or] at hb
    exact all b o hb.1 hb.2 q
   ·simp only [List.mem_cons,List.not_mem_nil,or_false,not_or] at hb
    exact ⟨o.slots,all b o hb.1 hb.2 q⟩
   ·rw [ze (lt0 b o q)];exact n
   ·simp only [List.mem_cons,List.not_mem_nil,or_false,not_or] at hb
    exact ⟨o,all b o hb.1 hb.2 q⟩
   ·rw [ze (zt q hfr)];exact q
   ·rw [ze (zt q hfr)];exact q
   ·exact ⟨#[],by rw [ze (zt q hfr),q];simp⟩
   ·obtain ⟨o,es,ep,ho,r⟩:=hm
    exact ⟨o,es,ep,all _ o (Ne.symm (hf e (by simp)).2.1) (Ne.symm (hf it (by simp)).2.1) ho,r⟩
   ·exact ⟨by show 2≤sizeLine;decide,[.int ((i+k:Nat):Int) tk,.str ⟨#[c]⟩ u],.cons ⟨_,rfl⟩ (.cons ⟨_,rfl⟩ .nil),⟨_,tT,rfl,_,rfl⟩⟩
  refine ⟨.ref s.heap.objs.size,_,I2,rfl,⟨_,c,hfr,rfl,hcc,rfl⟩,?_,fun b hb=>?_⟩
  ·obtain ⟨_,b2⟩:=b2
   have e1:i+k+1 - k=i+1:=by omega
   rw [e1] at b2
   obtain ⟨o,b2,r⟩:=b2
   have e3:((i+1+k:Nat):Int)=((i+k:Nat):Int)+1:=by omega
   refine ⟨?_,t,o,c2.extBut _ _ (Ne.symm hne) b2,r⟩
   rw [e3]
   exact ⟨_,c1⟩
  ·have ne:b≠s.heap.objs.size:=fun q=>by
    have:b<s.heap.objs.size:=by
     simp only [List.mem_cons,List.not_mem_nil,or_false] at hb
     obtain ⟨o4,a4,_⟩:=a4
     rcases hb with rfl|rfl
     ·exact zlt
     ·exact Heap.lt_size a4
    exact absurd (q ▸ this) (Nat.lt_irrefl _)
   rw [ze ne]
   exact (hf b hb).1
 done:=by
  intro X hP hw hK hc i pins s σ H E I hf st hg
  subst hP hw hK
  obtain ⟨⟨old,a1⟩,⟨t,a4⟩⟩:=st
  have hi:i=z.cps.size:=hg
  have hid:=I.ok.hd (hc rfl)
  have D:=Draws.strAscii (prog:=X.prog) (w:=X.w) (A:=X.A.in1) hid it z t
  rw [hi] at a4
  refine wpAny_pyNext_enum_endD D a1 a4 fun h' up=>⟨rfl,?_⟩
  refine I.step (g':=s.gens) (d':=s.drawn) (t':=s.toks) (ch:=[it]) (fun b hb=>?_) (fun b o _ _ hb q _=>?_) (fun b o _ _ hb q _=>?_) (fun _ _ _ _ n=>n) (fun b o hb q=>?_) (fun _ _ q=>q) (fun _ _ _ q=>q) (fun b ps q=>⟨#[],by rw [q];simp⟩) (fun m hm=>?_) (fun b u q0=>?_) I.bare
  ·have hb':b∈[e,it]:=by simp only [List.mem_cons,List.not_mem_nil,or_false] at hb ⊢;exact .inr hb
   obtain ⟨f0,f1,f2,f3,f4,f5⟩:=hf b hb'
   exact ⟨f3,f1,f4,f5⟩
  ·simp only [List.mem_cons,List.not_mem_nil,or_false] at hb
   exact up b o hb q
  ·simp only [List.mem_cons,List.not_mem_nil,or_false] at hb
   exact ⟨o.slots,up b o hb q⟩
  ·simp only [List.mem_cons,List.not_mem_nil,or_false] at hb
   exact ⟨o,up b o hb q⟩
  ·obtain ⟨o,es,ep,ho,r⟩:=hm
   exact ⟨o,es,ep,up _ o (Ne.symm (hf it (by simp)).2.1) ho,r⟩
  ·refine (I.hok b u q0).stay (fun c v hc q=>?_) (fun _ q=>q) fun _ _ q=>q
   have hnn:c≠it:=fun w=>by
    have fd:=(hf it (by simp)).1
    rcases hc with k|k
    ·rw [k] at w;rw [w,fd] at q0;cases q0
    ·rw [w,fd] at k;cases k
   exact up c v hnn q
 self:=fun _ _ _ _ _ st h=>by
  obtain ⟨old,a1⟩:=st.en
  exact wpAny_pyIter_enum a1 h
end L2
set_option Elab.async false
set_option linter.all false
set_option maxRecDepth 100000
set_option maxHeartbeats 4000000
namespace L2
open PySem PySem.Spec PyProof.Rows
section
variable {prog:Program}{w:World}{A:Around}{E:Value→Shared→Prop}{s:Shared}
theorem zs5 (a b:Value):checkTypeCall "enumerate" ⟨[a],[(Str.ofString "start",b)]⟩=pure ():=by kernel_rfl
theorem ztn (a b:Value):checkBuiltinCall "enumerate.__new__" ⟨[.type "enumerate",a],[(Str.ofString "start",b)]⟩=pure ():=by kernel_rfl
theorem znq (o a b:Value):argsOk "object.__init__" ⟨[o,a],[(Str.ofString "start",b)]⟩:=by
 unfold argsOk;kernel_rfl
theorem zrl (x : Str) (t u : Tok) : Meets (Builtin.«enumerate.__new__» ⟨[.type "enumerate", .str x t], [(Str.ofString "start", .int 1 u)]⟩) (fun _ R s =>
      R (.ok (.ret (.ref (s.heap.push { cls := .type (strIterType x), data := .fields #[.str x t, .int 0 0] }).objs.size)))
        { s with heap := (s.heap.push { cls := .type (strIterType x), data := .fields #[.str x t, .int 0 0] }).push { cls := .type "enumerate", data := .fields #[.none, .bool false, .ref s.heap.objs.size, rawInt 1, .none, .none] } }) :=
 .of_wp fun prog w A R s h=>by
  obtain ⟨hp,g,d,tk,os⟩:=s
  have hsub:=sub_enumerate
  wp_walk
  refine wpAny_stack_any fun st=>wpAny_pure ?_
  split
  ·rename_i c _ _ _ _ _
   cases (c == Value.type "enumerate")
   ·wp_walk using wpAny_pyIter_strU
    exact ⟨_,rfl,h⟩
   ·wp_walk using wpAny_pyIter_strU
    exact ⟨_,rfl,h⟩
  ·wp_walk using wpAny_pyIter_strU
   exact ⟨_,rfl,h⟩
end
end L2
set_option Elab.async false
set_option linter.all false
set_option maxRecDepth 100000
set_option maxHeartbeats 4000000
namespace L2
open PySem PySem.Spec PyProof.Rows
section
variable {prog:Program}{w:World}{A:Around}{E:Value→Shared→Prop}{s:Shared}
theorem zmD {T newId:String}{self a:Value}{kws:List (Str×Value)} (hl:typeLookup (.type T) "__init__"=pure (some (.builtin "object.__init__")))
  (hm:Bind.madeBy (.type T)=pure (some newId)) (hne:(some newId != some "object.__new__")=true):Meets (Builtin.«object.__init__» ⟨[self,a],kws⟩) (fun _ R s=>s.TypeIs self T∧R (.ok (.ret .none)) s):=by
 refine Meets.of_wp fun prog w A R s ⟨hT,hq⟩=>?_
 repeat (any_goals (first|assumption|wp_step))
 exact ⟨_,rfl,hq⟩
theorem zus {T newId:String}{Bn:Builtin}{a:Value}{kws:List (Str×Value)}{S:PySem.Spec}{Q:Value→Shared→Prop} (ft:TypeCalled T newId "object.__init__") (hne:(some newId != some "object.__new__")=true)
  (hct:checkTypeCall T ⟨[a],kws⟩=pure ()) (hcn:checkBuiltinCall newId ⟨[.type T,a],kws⟩=pure ()) (hok:∀ obj,argsOk "object.__init__" ⟨[obj,a],kws⟩) (entryN:entryFor table newId=some Bn) (g:Meets (Bn ⟨[.type T,a],kws⟩) S)
  (h:S A.in1 (wants (fun obj s₁=>s₁.TypeIs obj T∧Q obj s₁) E) s):wpAny (model prog w) A (call (.type T) [a] kws) Q E s:=by
 obtain ⟨c,tl,hmro⟩:=ft.mro
 have hmade:=ft.made
 have hsub:=ft.sub
 refine wpAny_call (A:=A) (codeAny_of_tree (A:=A) ?_)
 show wpAny (model prog w) _ (callAny (.type T) _) _ _ _
 refine wpAny_pure ⟨Code.quiet_builtin _ (by decide +kernel),codeAny_builtin (A:=A) F.entry_type_call ?_⟩
 rw [Around.under_plain (weight_type_call_type T [a] kws) (units_type_call_type T [a] kws)]
 have k1:=ft.notType
 have k2:=ft.canCreate
 repeat (any_goals (first|assumption|wp_step))
 refine codeAny_mono (codeAny_call_builtin ft.plain entryN (wpAny_of_eq hcn (g prog w A.in1 _ s h))) fun r s1 hr=>?_
 cases r with
 | error e=>exact hr
 | ok fl =>
  cases fl with
  | ret obj =>
   have hli:=ft.init.lookup
   have hbi:=ft.init.bind obj
   have hT:=hr.1
   repeat (any_goals (first|assumption|wp_step))
   refine codeAny_mono (codeAny_call_builtin ft.init.plain F.entry_object_init (ft.init.check _ _ _ _ _ _ _ _ hr.1 (hok obj) (zmD ft.init.lookup ft.made hne prog w A.in1 (wants (fun r s2=>r = .none∧Q obj s2) E) s1 ⟨hr.1,rfl,hr.2⟩))) fun r2 s2 hr2=>?_
   cases r2 with
   | error e=>exact hr2
   | ok fl2 =>
    cases fl2 with
    | ret r =>
     obtain ⟨rfl,hq⟩:=hr2
     repeat (any_goals (first|assumption|wp_step))
    | _=>exact hr2.elim
  | _=>exact hr.elim
theorem ztM {x:Str}{t u:Tok}{Q:Value→Shared→Prop}
  (h:∀ h',IsEnum h' (s.heap.objs.size+1) s.heap.objs.size 1 .none→h'.IsStrIter s.heap.objs.size (strIterType x) x t 0→h'.objs.size=s.heap.objs.size+2→(∀ b o,s.heap.get? b=some o→h'.get? b=some o)→Q (.ref (s.heap.objs.size+1)) { s with heap:=h' }) :
  wpAny (model prog w) A (call (.type "enumerate") [.str x t] [(Str.ofString "start",.int 1 u)]) Q E s:=by
 refine zus F.called_enumerate (by decide) (zs5 _ _) (ztn _ _) (fun obj=>znq obj _ _) F.entry_enumerate_new (zrl x t u) ?_
 have hz:(s.heap.push { cls:=.type (strIterType x),data:=.fields #[.str x t,.int 0 0] }).objs.size=s.heap.objs.size+1:=Heap.size_push ..
 show _∧_
 rw [hz]
 have he:IsEnum ((s.heap.push { cls:=.type (strIterType x),data:=.fields #[.str x t,.int 0 0] }).push { cls:=.type "enumerate",data:=.fields #[.none,.bool false,.ref s.heap.objs.size,rawInt 1,.none,.none] }) (s.heap.objs.size+1) s.heap.objs.size 1 .none:=by
  have q:=Heap.get?_push_size (s.heap.push { cls:=.type (strIterType x),data:=.fields #[.str x t,.int 0 0] }) (o:={ cls:=.type "enumerate",data:=.fields #[.none,.bool false,.ref s.heap.objs.size,rawInt 1,.none,.none] }) rfl
  rw [hz] at q;exact q
 exact ⟨⟨_,he,rfl⟩,h _ he ⟨_,Heap.get?_push_of_some _ (Heap.get?_push_size _ rfl),rfl,rfl⟩ (by rw [Heap.size_push,hz]) fun b o y=>Heap.get?_push_of_some _ (Heap.get?_push_of_some _ y)⟩
theorem zru {M:Model}{pos:Pos}{T:String}{args:List (Bool×Sem Value)}{keywords:List (Option Str×Sem Value)}{Q:Value→Shared→Prop} (hplain:args.any (·.1)=false) (hkw:keywords.any (·.1.isNone)=false)
  (h:wpAny M A (evalArgs (.type T) true args keywords) (fun a s1=>wpAny M A (call (.type T) a.pos a.kw) Q E s1) E s):wpAny M A (callWith pos (.type T) [] args keywords) Q E s:=by
 unfold callWith
 refine wpAny_bind (wpAny_holding (wpAny_mono h (fun a s1 h1=>wpAny_bind (wpAny_standAt ?_)) fun _ _ x=>x))
 simp only [hplain,hkw,Bool.or_false]
 exact wpAny_bind (wpAny_pure (wpAny_bind (wpAny_mono h1 (fun r s2 hr=>wpAny_bind (wpAny_holding (wpAny_point (wpAny_pure hr)))) fun _ _ x=>x)))
end
section
variable {X:Cx}
def zgn (k:Nat) (ta:TE):TI:=fun σ H R=>ta σ H fun x H1=>uS x fun z=>asc z=true∧R (zd7 z k) H1
theorem zo2 {k:Nat}{ta:TE}{σ:St}{H:Hp}{R:It→Hp→Prop}:zgn k ta σ H R=ta σ H fun x H1=>uS x fun z=>asc z=true∧R (zd7 z k) H1:=rfl
theorem zjF {z:Str} (h:asc z=true):strIterType z="str_ascii_iterator":=by
 unfold strIterType;rw [show z.cps.all (· < 128)=true from h];rfl
theorem zxs {elts:List Expr}{kk:Nat}{tp p pos:Pos}{a:Expr}{ta:TE} (hg:Gl X "enumerate") (hm:X.mg "enumerate"=none) (ha:PE X a ta) (hp:zI a=true:=by rfl) :
  PIc true X (.Tuple elts kk tp) (.Call (.Name "enumerate" p) [a] [] pos) (zgn 0 ta):=by
 intro pins s σ H R I h
 have hs:starEach [a] X.env=[(false,eval a X.env)]:=zbr hp
 have hA:=zbI ha zbF (hs:=hs) pos pins s σ H (fun ys H2=>match ys with|[y]=>uS y fun z=>asc z=true∧R (zd7 z 0) H2|_=>False) I h
 refine Call_ (zbQ I hg hm boot_enumerate (PyProof.Rows.callWith_type1 (thn hA fun us s1 ⟨vs,H1,I1,r1,q1⟩=>?_) hs rfl))
 match vs,q1,r1 with
 | [y],⟨z,ey,hz,q⟩,r1 =>
  subst ey
  cases r1 with
  | cons r rr =>
   cases rr
   obtain ⟨t,rfl⟩:=r
   refine call_enumerate_str fun h' a1 a4 a6 a7=>wpAny_pyIter_enum (s:={ s1 with heap:=h' }) a1 ?_
   rw [zjF hz] at a4
   refine ⟨_,_,_,_,H1,rfl,I1.kept (t':=s1.toks) a7,zj4 (Nat.succ_ne_self _),⟨⟨_,a1⟩,t,a4⟩,fun b hb=>?_,q⟩
   have le:s1.heap.objs.size≤b:=by
    simp only [List.mem_cons,List.not_mem_nil,or_false] at hb
    rcases hb with rfl|rfl <;> omega
   exact I1.fpOk le (I1.hok.fresh le)
theorem zm4 {elts:List Expr}{kk j:Nat}{tp p pos kp cp:Pos}{a:Expr}{ta:TE} (hg:Gl X "enumerate") (hm:X.mg "enumerate"=none) (ha:PE X a ta) (hp:zI a=true:=by rfl) :
  PIc true X (.Tuple elts kk tp) (.Call (.Name "enumerate" p) [a] [⟨some (Str.ofString "start"),.Constant (.int 1) j cp,kp⟩] pos) (zgn 1 ta):=by
 intro pins s σ H R I h
 have hs:starEach [a] X.env=[(false,eval a X.env)]:=zbr hp
 have hA:=zbI ha zbF (hs:=hs) pos pins s σ H (fun ys H2=>match ys with|[y]=>uS y fun z=>asc z=true∧R (zd7 z 1) H2|_=>False) I h
 refine wpAny_Call_Name_kw (zbQ I hg hm boot_enumerate (zru (by rw [hs];rfl) rfl ?_))
 rw [hs] at hA ⊢
 refine evalArgs_kwB rfl (thn hA fun us s1 ⟨vs,H1,I1,r1,q1⟩=>kws_cons (thn (ziR pins s1 σ H1 (fun v H=>v = .int 1∧H=H1) I1 ⟨rfl,rfl⟩) fun w2 s2 ⟨y2,H2,I2,r2,ey2,eH2⟩=>kws_nil ?_))
 subst ey2 eH2
 obtain ⟨t2,rfl⟩:=r2
 match vs,q1,r1 with
 | [y],⟨z,ey,hz,q⟩,r1 =>
  subst ey
  cases r1 with
  | cons r rr =>
   cases rr
   obtain ⟨t,rfl⟩:=r
   refine ztM (s:=s2) fun h' a1 a4 a6 a7=>wpAny_pyIter_enum (s:={ s2 with heap:=h' }) a1 ?_
   rw [zjF hz] at a4
   refine ⟨_,_,_,_,H2,rfl,I2.kept (t':=s2.toks) a7,zj4 (Nat.succ_ne_self _),⟨⟨_,a1⟩,t,a4⟩,fun b hb=>?_,q⟩
   have le:s2.heap.objs.size≤b:=by
    simp only [List.mem_cons,List.not_mem_nil,or_false] at hb
    rcases hb with rfl|rfl
    ·exact Nat.le_succ _
    ·exact Nat.le_refl _
   exact I2.fpOk le (I2.hok.fresh le)
end
section
variable {K:PySem.W.Frag}{g:TG}{tb:TS}{D:zaq}{σ:St}{H:Hp}{tt:TT}{te:TE}{Q:VK}
theorem zak.enumS {z:Str}{k:Nat} (Pv:Nat→St→Hp→Prop) (h0:Pv 0 σ H)
  (hs:∀ i c p σ H,z.cps[i]?=some c→Pv i σ H→H p=none→g (.ref p) σ (upd H p (.tup [.int ((i+k:Nat):Int),.str ⟨#[c]⟩])) fun σ2 H2=>tb { D with nx:=Pv (i+1),ct:=Pv (i+1),bk:=D.nx } σ2 H2) (hd:∀ σ H,Pv z.cps.size σ H→D.nx σ H):zak (zd7 z k) g tb D σ H:=by
 refine ⟨fun i m σ H=>m=z.cps.size - i∧i≤z.cps.size∧Pv i σ H,⟨z.cps.size,by simp,Nat.zero_le _,h0⟩,?_⟩
 rintro i m σ H ⟨rfl,hi,p⟩
 by_cases hlt:i<z.cps.size
 ·refine .inr ⟨hlt,Pv (i+1),fun σ' H' p'=>⟨z.cps.size - (i+1),by omega,rfl,hlt,p'⟩,fun x H' y=>?_⟩
  obtain ⟨T,c,hT,rfl,hc,rfl⟩:=y
  exact hs i c T σ _ hc p hT
 ·have e:i=z.cps.size:=by omega
  subst e
  exact .inl ⟨rfl,hd σ H p⟩
theorem zah.str {z:Str}{τ:St} (Pv:Nat→St→List V→Hp→Prop) (hz:∀ i τ ys H,Pv i τ ys H→ys.length<sizeLine) (h0:Pv 0 τ [] H)
  (hs:∀ (N:St→List V→Hp→Prop) i c τ ys H,z.cps[i]?=some c→Pv i τ ys H→(∀ τ ys H,Pv (i+1) τ ys H→N τ ys H)→g (.str ⟨#[c]⟩) τ H fun τ1 H4=>tt τ1 H4 fun ok H5=>zbU N ys τ1 te ok H5) (hd:∀ τ ys H,Pv z.cps.size τ ys H→∀ D H',New H D (.lst ys) H'→Q (.ref D) H'):zah (Its z) g tt te τ H Q:=by
 refine ⟨fun i m τ ys H=>m=z.cps.size - i∧i≤z.cps.size∧Pv i τ ys H,⟨z.cps.size,by simp,Nat.zero_le _,h0⟩,?_⟩
 rintro i m τ ys H2 ⟨rfl,hi,p⟩
 refine ⟨hz i τ ys H2 p,?_⟩
 by_cases hlt:i<z.cps.size
 ·refine .inr ⟨hlt,fun x H' y=>?_⟩
  obtain ⟨e,c,hc,rfl⟩:=y
  subst e
  exact hs (fun τ1 ys H=>∃ m',m'<z.cps.size - i∧m'=z.cps.size - (i+1)∧i+1≤z.cps.size∧Pv (i+1) τ1 ys H) i c τ ys _ hc p fun τ1 zs H q=>⟨z.cps.size - (i+1),by omega,rfl,hlt,q⟩
 ·have e:i=z.cps.size:=by omega
  subst e
  exact .inl ⟨Nat.le_refl _,fun D hD _=>hd τ ys H2 p D _ (.mk' hD)⟩
end
end L2
set_option Elab.async false
set_option linter.all false
set_option maxRecDepth 100000
set_option maxHeartbeats 4000000
namespace L2
open PySem PySem.Spec PyProof.Rows
section
variable {X:Cx}
def zkK:List V→Hp→VK→Prop:=fun xs H Q=>uR1 xs fun p=>∃ bs:List Bool,H p=some (.lst (bs.map V.bl))∧Q (.bl (bs.all id)) H
theorem zs4 {bs:List Bool}:∀ {us:List Value},zk (bs.map V.bl) us→us=bs.map Value.bool:=by
 induction bs with
 | nil=>intro us r;rw [List.map_nil] at r;cases r;rfl
 | cons b bs ih =>
  intro us r
  rw [List.map_cons] at r
  cases r with
  | cons r1 r2=>rw [show _=Value.bool b from r1,ih r2];rfl
theorem zm3 (hc:X.calm=true):zJ X (.builtin "all") zkK:=by
 intro pins s σ H xs us Q I r h
 obtain ⟨p,rfl,bs,hp,q⟩:=h
 cases r with
 | cons r1 rr =>
  cases rr
  cases (show _=Value.ref p from r1)
  obtain ⟨its,rv,pl,_⟩:=I.list (SqL.of (K:=X.K) hp)
  have e:=zs4 rv
  subst e
  have hne:p≠s.heap.objs.size:=by obtain ⟨o,e,_⟩:=pl.isList;exact Nat.ne_of_lt (Heap.lt_size e)
  refine call_all_walk (wpAny_pyIter_list pl.isList ?_)
  have hl:∀ k:Nat,k=bs.length→(List.range k).all (fun i=>bs.getD i true)=bs.all id:=by
   intro k e
   subst e
   rw [Bool.eq_iff_iff,List.all_eq_true,List.all_eq_true]
   constructor
   ·intro h x hx
    obtain ⟨i,hi,rfl⟩:=List.getElem_of_mem hx
    have:=h i (List.mem_range.mpr hi)
    rw [List.getD_eq_getElem?_getD,List.getElem?_eq_getElem hi] at this
    exact this
   ·intro h i hi
    have hi:=List.mem_range.mp hi
    rw [List.getD_eq_getElem?_getD,List.getElem?_eq_getElem hi]
    exact h _ (List.getElem_mem hi)
  refine ⟨s.heap.objs.size,_,_,_,_,_,fun i=>bs.getD i true,rfl,Walks.list (prog:=X.prog) (w:=X.w) (A:=X.A.in1) (show X.A.in1.handled=none from I.ok.hd hc) s.heap.objs.size p hne (bs.map Value.bool).toArray,⟨⟨_,Heap.get?_push_size _ rfl,rfl,rfl⟩,pl.isList.push _⟩,?_,fun h' tk kp=>?_⟩
  ·intro i v s2 Q2 E2 hv hQ
   have hv:(bs.map Value.bool)[i]?=some v:=by simpa using hv
   rw [List.getElem?_map] at hv
   cases e:bs[i]? with
   | none=>rw [e] at hv;cases hv
   | some b =>
    rw [e] at hv
    cases hv
    have e2:bs.getD i true=b:=by rw [List.getD_eq_getElem?_getD,e];rfl
    have hQ:Q2 (bs.getD i true) s2:=hQ
    rw [e2] at hQ
    exact wpAny_pure hQ
  ·refine ⟨.bl _,H,I.kept (t':=tk) fun b o e=>kp b o ?_ (Heap.get?_push_of_some _ e),rfl,?_⟩
   ·simpa using Nat.ne_of_lt (Heap.lt_size e)
   ·rw [hl _ (by simp)];exact q
theorem znU {p:Addr}{H:Hp}{Q:VK}:zkK [.ref p] H Q = ∃ bs:List Bool,H p=some (.lst (bs.map V.bl))∧Q (.bl (bs.all id)) H:=zcx
def uIs (neg:Bool):R2:=fun x y H Q=>(y = .non∨∃ b,y = .bl b∧zS x=true)∧Q (.bl (if neg then !decide (x=y) else decide (x=y))) H
theorem zo7 {c b:Bool}{x:V}{H:Hp}{Q:VK}:uIs c x (.bl b) H Q=(zS x=true∧Q (.bl (if c then !decide (x = .bl b) else decide (x = .bl b))) H):=by simp [uIs]
theorem zsz {c:Bool}{x:V}{H:Hp}{Q:VK}:uIs c x .non H Q=Q (.bl (if c then !decide (x = .non) else decide (x = .non))) H:=by simp [uIs]
def uIn:R2:=fun x y H Q=>(∃ i j,x = .str i∧y = .str j∧Q (.bl (!(Builtin.Str.occurrences j i 0 j.length 1).isEmpty)) H)∨∃ p xs,y = .ref p∧(H p=some (.lst xs)∨H p=some (.tup xs))∧zS x=true∧xs.all zS=true∧Q (.bl (inV x xs)) H
theorem ziZ (hu:X.A.units<cLine):OpR X (compareOp .In) uIn:=(zv0.or ztR).weak fun x y H Q h=>by
 rcases h with h|⟨p,xs,e,h,f1,f2,q⟩
 ·exact .inl h
 ·exact .inr ⟨p,xs,e,h.elim (fun h=>.inl (SqL.of h)) (fun h=>.inr (SqT.of h)),f1,f2,by simpa using q⟩
theorem zk2 {x y:Str}{H:Hp}{Q:VK}:uIn (.str x) (.str y) H Q=Q (.bl (!(Builtin.Str.occurrences y x 0 y.length 1).isEmpty)) H:=by simp [uIn]
theorem zj2 {x:V}{p:Addr}{H:Hp}{Q:VK}:uIn x (.ref p) H Q = ∃ xs,(H p=some (.lst xs)∨H p=some (.tup xs))∧zS x=true∧xs.all zS=true∧Q (.bl (inV x xs)) H:=by simp [uIn]
def uM1 (to te:TE) (r:Str→V→Hp→VK→Prop):TE:=fun σ H Q=>to σ H fun x H1=>uS x fun z=>te σ H1 fun y H2=>r z y H2 Q
theorem zwO {to te:TE}{r:Str→V→Hp→VK→Prop}{σ:St}{H:Hp}{Q:VK}:uM1 to te r σ H Q=to σ H fun x H1=>uS x fun z=>te σ H1 fun y H2=>r z y H2 Q:=rfl
theorem zlc {o e:Expr}{to te:TE}{apos cpos:Pos}{m:Str}{id:String}{r:Str→V→Hp→VK→Prop} (hs1:Slot "str" m id) (hs2:typeOf (.builtin id)=pure (.type "method_descriptor"))
  (hr:∀ (pins:List (Addr×Obj)) (s:Shared) (σ:St) (H:Hp) (z:Str) (y:V) (t:Tok) (v:Value) (Q:VK),Inv X pins σ H s→zi y v→r z y H Q→wpAny (model X.prog X.w) X.A (call (.builtin id) [.str z t,v]) (fun u s1=>∃ x H',Inv X pins σ H' s1∧zi x u∧Q x H') X.xe s)
  (ho:PE X o to) (he:PE X e te) (hbase:attributeBase o m X.env (eval o X.env)=eval o X.env:=by rfl) (hline:(apos.endLine == cpos.line)=true:=by rfl) (hp:zI e=true:=by rfl) :
  PE X (.Call (.Attribute o m apos) [e] [] cpos) (uM1 to te r):=by
 intro pins s σ H Q I h
 have hs:starEach [e] X.env=[(false,eval e X.env)]:=zbr hp
 refine wpAny_Call_method_late hbase (by rw [hs];rfl) hline rfl (thn (ho pins s σ H _ I h) fun v s1 ⟨x,H1,I1,r1,z,ex,q1⟩=>?_)
 subst ex
 obtain ⟨h1,h2⟩:=zd9 (T:="str") I1 r1 rfl
 refine ⟨"str",id,PySem.F.plainAttrs_str,hs1,hs2,h1,h2,?_⟩
 rw [hs]
 refine Calls.callWith_builtin rfl (Calls.evalArgs_plain ?_)
 have hA:=zbI he zbF (hs:=hs) cpos pins s1 σ H1 (fun ys H2=>match ys with|[y]=>r z y H2 Q|_=>False) I1 q1
 rw [hs] at hA
 refine thn hA fun us s2 ⟨vs,H2,I2,r2,q2⟩=>?_
 obtain ⟨t,rfl⟩:=r1
 match vs,q2,r2 with
 | [y],q2,.cons ry .nil=>exact hr pins s2 σ H2 z y t _ Q I2 ry q2
def zh7:Str→V→Hp→VK→Prop:=fun z y H Q=>uS y fun q=>Q (.int (PySem.Txt.rfind z q)) H
theorem zwE {o e:Expr}{to te:TE}{apos cpos:Pos} (ho:PE X o to) (he:PE X e te) (hbase:attributeBase o "rfind" X.env (eval o X.env)=eval o X.env:=by rfl) (hline:(apos.endLine == cpos.line)=true:=by rfl) (hp:zI e=true:=by rfl) :
  PE X (.Call (.Attribute o "rfind" apos) [e] [] cpos) (uM1 to te zh7) :=
 zlc PySem.F.slot_str_rfind PySem.F.type_str_rfind (fun pins s σ H z y t v Q I ry q=>by
  obtain ⟨w,rfl,q⟩:=q
  obtain ⟨u,rfl⟩:=ry
  exact call_meets PySem.F.slot_str_rfind (typeIs_str _ _ _) PySem.F.entry_str_rfind (PySem.F.args_str_rfind_2 _ _) (gives_str_rfind z w t u).meets ⟨.int _,H,I.tok _,⟨_,rfl⟩,q⟩) ho he hbase hline hp
theorem ztA {z q:Str}{H:Hp}{Q:VK}:zh7 z (.str q) H Q=Q (.int (PySem.Txt.rfind z q)) H:=zfk
theorem zmh:∀ (k:Nat) (ys:List Str),zk (ys.map V.str) (strsFrom k ys)
 | _,[]=>.nil
 | k,y::ys=>.cons ⟨k,rfl⟩ (zmh (k+1) ys)
def zik:Str→V→Hp→VK→Prop:=fun z y H Q=>uS y fun q=>(q.length == 0)=false∧z.length<sizeLine∧(PySem.Txt.split z q).length≤sizeLine∧∀ p H2,New H p (.lst ((PySem.Txt.split z q).map V.str)) H2→Q (.ref p) H2
theorem ztD {o e:Expr}{to te:TE}{apos cpos:Pos} (ho:PE X o to) (he:PE X e te) (hbase:attributeBase o "split" X.env (eval o X.env)=eval o X.env:=by rfl) (hline:(apos.endLine == cpos.line)=true:=by rfl) (hp:zI e=true:=by rfl) :
  PE X (.Call (.Attribute o "split" apos) [e] [] cpos) (uM1 to te zik) :=
 zlc PySem.F.slot_str_split PySem.F.type_str_split (fun pins s σ H z y t v Q I ry q=>by
  obtain ⟨w,rfl,hw,hz,hn,q⟩:=q
  obtain ⟨u,rfl⟩:=ry
  have lay:∀ (ys:List Str) (us:List Value) (k:Nat),ys=PySem.Txt.split z w→zk (ys.map V.str) us→∃ x H',Inv X pins σ H' { s with heap:=s.heap.push { cls:=.type "list",data:=.seq us.toArray },toks:=k }∧zi x (.ref s.heap.objs.size)∧Q x H':=fun ys us k e rv=>by
   subst e
   have hl:=rv.length
   rw [List.length_map] at hl
   exact ⟨.ref s.heap.objs.size,_,I.laid (t':=k) (o:=.lst _) (fun b ob q=>Heap.get?_push_of_some _ q) (Nat.le_refl _) ⟨by rw [List.length_map];exact hn,us,0,rv,Heap.get?_push_size _ rfl⟩,rfl,q _ _ (.mk' (I.hok.fresh (Nat.le_refl _)))⟩
  cases h1:(decide (z.length<w.length) || decide (Builtin.Str.strKind z<Builtin.Str.strKind w))
  ·cases hf:(Builtin.Str.occurrences z w 0 z.length (z.length+1)).isEmpty
   ·have es:PySem.Txt.split z w=Builtin.Str.partsBetween z (Builtin.Str.occurrences z w 0 z.length (z.length+1)) w.length:=(if_neg (ne_true_of_eq_false h1)).trans (if_neg (ne_true_of_eq_false hf))
    rw [es] at hn
    exact call_meets PySem.F.slot_str_split (typeIs_str _ _ _) PySem.F.entry_str_split (PySem.F.args_str_split_2 _ _) (meets_str_split_sep z w t u h1 hw hf (Nat.le_of_lt hz) hn) (lay _ _ _ es.symm (zmh _ _))
   ·exact call_meets PySem.F.slot_str_split (typeIs_str _ _ _) PySem.F.entry_str_split (PySem.F.args_str_split_2 _ _) (meets_str_split_not_found z w t u h1 hw hf) (lay [z] [.str z t] s.toks ((if_neg (ne_true_of_eq_false h1)).trans (if_pos hf)).symm (.cons ⟨t,rfl⟩ .nil))
  ·exact call_meets PySem.F.slot_str_split (typeIs_str _ _ _) PySem.F.entry_str_split (PySem.F.args_str_split_2 _ _) (meets_str_split_cannot_occur z w t u h1) (lay [z] [.str z t] s.toks (if_pos h1).symm (.cons ⟨t,rfl⟩ .nil))) ho he hbase hline hp
theorem zrV {z q:Str}{H:Hp}{Q:VK}:zik z (.str q) H Q=((q.length == 0)=false∧z.length<sizeLine∧(PySem.Txt.split z q).length≤sizeLine∧∀ p H2,New H p (.lst ((PySem.Txt.split z q).map V.str)) H2→Q (.ref p) H2):=zfk
def zgP (te:TE):TE:=fun σ H Q=>te σ H fun x H1=>(∃ z,x = .str z∧z.length≤sizeLine∧Q (.str z) H1)∨∃ i,x = .int i∧i.natAbs.log2<1920∧Q (.str (toString i)) H1
def zeS:V→Hp→VK→Prop:=fun x H1 Q=>(∃ z,x = .str z∧z.length≤sizeLine∧Q (.str z) H1)∨∃ i,x = .int i∧i.natAbs.log2<1920∧Q (.str (toString i)) H1
theorem zo6 {te:TE}{σ:St}{H:Hp}{Q:VK}:zgP te σ H Q=te σ H fun x H1=>zeS x H1 Q:=rfl
theorem zs1 {z:Str}{H:Hp}{Q:VK}:zeS (.str z) H Q=(z.length≤sizeLine∧Q (.str z) H):=by simp [zeS]
theorem zxc {i:Int}{H:Hp}{Q:VK}:zeS (.int i) H Q=(i.natAbs.log2<1920∧Q (.str (toString i)) H):=by simp [zeS]
theorem zvI {e:Expr}{te:TE}{pos:Pos} (he:PE X e te):PE X (.FormattedValue e (-1) none pos) (zgP te):=by
 intro pins s σ H Q I h
 refine FormattedValue_plain (thn (he pins s σ H _ I h) fun v s1 ⟨x,H1,I1,r1,q1⟩=>?_)
 rcases q1 with ⟨z,rfl,hz,q⟩|⟨i,rfl,hi,q⟩
 ·obtain ⟨t,rfl⟩:=r1
  exact formatField_str (fun t' tk=>⟨.str z,H1,I1.tok _,⟨_,rfl⟩,q⟩) hz
 ·obtain ⟨t,rfl⟩:=r1
  exact formatField_int_small hi ⟨.str _,H1,I1.tok _,⟨_,rfl⟩,q⟩
abbrev TJ:=Str→TE
def PJ (X:Cx) (es:List Expr) (tj:TJ):Prop:=∀ (out:Str) (pins:List (Addr×Obj)) (s:Shared) (σ:St) (H:Hp) (Q:VK),Inv X pins σ H s→tj out σ H Q →
 wpAny (model X.prog X.w) X.A (joinParts out (evalEach es X.env)) (fun u s1=>∃ x H',Inv X pins σ H' s1∧zi x u∧Q x H') X.xe s
def zgS:TJ:=fun out _ H Q=>out.length≤sizeLine∧Q (.str out) H
def zgB (te:TE) (tj:TJ):TJ:=fun out σ H Q=>te σ H fun x H1=>uS x fun y=>(out++y).length≤sizeLine∧tj (out++y) σ H1 Q
theorem zuX:PJ X [] zgS:=fun out pins s σ H Q I h=>joinParts_nil ⟨.str out,H,I.tok _,⟨_,rfl⟩,h.2⟩ h.1
theorem zsM {e:Expr}{es:List Expr}{te:TE}{tj:TJ} (he:PE X e te) (hj:PJ X es tj):PJ X (e::es) (zgB te tj):=fun out pins s σ H Q I h=>by
 refine joinParts_cons (thn (he pins s σ H _ I h) fun v s1 ⟨x,H1,I1,r1,q1⟩=>?_)
 obtain ⟨y,rfl,hy,q⟩:=q1
 obtain ⟨t,rfl⟩:=r1
 exact ⟨hy,hj _ pins s1 σ H1 Q I1 q⟩
def zg7 (tj:TJ):TE:=tj Str.empty
theorem zwr {tj:TJ}:zg7 tj=tj Str.empty:=rfl
theorem zw5 {e e':Expr}{es:List Expr}{tj:TJ}{pos:Pos} (h:PJ X (e::e'::es) tj):PE X (.JoinedStr (e::e'::es) pos) (zg7 tj):=fun pins s σ H Q I q=>JoinedStr_many (h Str.empty pins s σ H Q I q)
def zcy:List V→Hp→VK→Prop:=fun xs H Q=>zb6 xs H Q∨∃ z n,xs=[.str z]∧z.length≤640∧PySem.intText? z=some n∧Q (.int n) H
theorem zuH:zJ X (.type "int") zcy:=by
 intro pins s σ H xs us Q I r h
 rcases h with h|⟨z,n,rfl,hl,hn,q⟩
 ·exact zsG pins s σ H xs us Q I r h
 ·cases r with
  | cons r1 rr =>
   cases rr
   obtain ⟨t,rfl⟩:=r1
   exact PySem.W.KIN.call_text hn hl ⟨.int n,H,I.tok _,⟨_,rfl⟩,q⟩
theorem zpg {i:Int}{H:Hp}{Q:VK}:zcy [.int i] H Q=Q (.int i) H:=by simp [zcy,zb6]
theorem ztz {k:Bool}{H:Hp}{Q:VK}:zcy [.bl k] H Q=Q (.int (if k then 1 else 0)) H:=by simp [zcy,zb6]
theorem zqT {z:Str}{H:Hp}{Q:VK}:zcy [.str z] H Q = ∃ n,z.length≤640∧PySem.intText? z=some n∧Q (.int n) H:=by simp [zcy,zb6]
def zcQ:List V→Hp→VK→Prop:=fun xs H Q=>zc6 xs H Q∨∃ z,xs=[.str z]∧Q (.str z) H
theorem zuy:zJ X (.type "str") zcQ:=by
 intro pins s σ H xs us Q I r h
 rcases h with h|⟨z,rfl,q⟩
 ·exact ztV pins s σ H xs us Q I r h
 ·cases r with
  | cons r1 rr =>
   cases rr
   obtain ⟨t,rfl⟩:=r1
   exact PySem.P.str_of_str ⟨.str z,H,I,⟨_,rfl⟩,q⟩
theorem zlg {i:Int}{H:Hp}{Q:VK}:zcQ [.int i] H Q=(i.natAbs.log2<1920∧Q (.str (toString i)) H):=by simp [zcQ,zc6]
theorem zlP {z:Str}{H:Hp}{Q:VK}:zcQ [.str z] H Q=Q (.str z) H:=by simp [zcQ,zc6]
def zjQ:List V→Hp→VK→Prop:=fun xs H Q=>uR1 xs fun p=>∃ ys,H p=some (.lst ys)∧∀ l H2,New H l (.tup ys) H2→Q (.ref l) H2
theorem zvA:zJ X (.type "tuple") zjQ:=zor.weak fun xs H Q h=>by
 obtain ⟨p,e,ys,h1,q⟩:=h
 exact ⟨p,ys,e,.inl ⟨SqL.of h1,fun l hl=>q l _ (.mk' hl)⟩⟩
theorem znW {p:Addr}{H:Hp}{Q:VK}:zjQ [.ref p] H Q = ∃ ys,H p=some (.lst ys)∧∀ l H2,New H l (.tup ys) H2→Q (.ref l) H2:=zcx
def ziK:List V→Hp→VK→Prop:=fun xs H Q=>∃ x,xs=[.str x]∧x.length=1∧Q (.int (x.cps.getD 0 0:Nat)) H
theorem zpM:zJ X (.builtin "ord") ziK:=zn8
theorem zub {x:Str}{H:Hp}{Q:VK}:ziK [.str x] H Q=(x.length=1∧Q (.int (x.cps.getD 0 0:Nat)) H):=by simp [ziK]
end
end L2
set_option Elab.async false
set_option linter.all false
set_option maxRecDepth 100000
set_option maxHeartbeats 4000000
namespace L2
open PySem PySem.Spec PyProof.Rows
section
variable {X:Cx}
def zc3:R2:=fun x y H Q=>uEq false x y H Q∨∃ a b xs ys,x = .ref a∧y = .ref b∧H a=some (.tup xs)∧H b=some (.tup ys)∧xs.all zS=true∧ys.all zS=true∧Q (.bl (eqL xs ys)) H
theorem zt7 {i j:Int}{H:Hp}{Q:VK}:zc3 (.int i) (.int j) H Q=Q (.bl (decide (i=j))) H:=by simp [zc3,uEq,zbJ]
theorem zuN {x y:Str}{H:Hp}{Q:VK}:zc3 (.str x) (.str y) H Q=Q (.bl (decide (x=y))) H:=by simp [zc3,uEq,zbJ]
theorem zq6 {x y:Bool}{H:Hp}{Q:VK}:zc3 (.bl x) (.bl y) H Q=Q (.bl (decide (x=y))) H:=by simp [zc3,uEq,zbJ]
theorem zqx {a b:Addr}{H:Hp}{Q:VK}:zc3 (.ref a) (.ref b) H Q = ∃ xs ys,((H a=some (.lst xs)∧H b=some (.lst ys))∨(H a=some (.tup xs)∧H b=some (.tup ys)))∧xs.all zS=true∧ys.all zS=true∧Q (.bl (eqL xs ys)) H:=by
 apply propext;constructor
 ·rintro (h|⟨a',b',xs,ys,e1,e2,h1,h2,f1,f2,q⟩)
  ·rw [zeF] at h
   obtain ⟨xs,ys,h1,h2,f1,f2,q⟩:=h
   exact ⟨xs,ys,.inl ⟨h1,h2⟩,f1,f2,q⟩
  ·cases e1;cases e2;exact ⟨xs,ys,.inr ⟨h1,h2⟩,f1,f2,q⟩
 ·rintro ⟨xs,ys,⟨h1,h2⟩|⟨h1,h2⟩,f1,f2,q⟩
  ·exact .inl (by rw [zeF];exact ⟨xs,ys,h1,h2,f1,f2,q⟩)
  ·exact .inr ⟨a,b,xs,ys,rfl,rfl,h1,h2,f1,f2,q⟩
end
end L2
set_option Elab.async false
set_option linter.all false
set_option maxRecDepth 100000
set_option maxHeartbeats 4000000
namespace L2
open PySem PySem.Spec PyProof.Rows
section
variable {X:Cx}
inductive zeZ (w:World):List DictEntry→List (Str×Addr)→Prop
 | nil:zeZ w [] []
 | cons {k:Str}{t:Tok}{r:Addr}{es:List DictEntry}{kvs:List (Str×Addr)}:zeZ w es kvs→zeZ w ({ hash:=PyData.keyHash w.params k,key:=.str k t,val:=.ref r }::es) ((k,r)::kvs)
structure zeK (w:World) (K:PySem.W.Frag) (a:Addr) (kvs:List (Str×Addr)):Prop where
 ex:∃ es n,K.lookup a=some { cls:=.type "dict",dict:=none,data:=.dict es n,slots:=#[] }∧zeZ w es.toList kvs
 nd:(kvs.map (·.1)).Nodup
 ns:(a == sysModules)=false
def zbR (kvs:List (Str×Addr)) (z:Str):V:=match kvs.find? (fun p=>p.1=z) with|some p=>.ref p.2|none=>.non
theorem zjs {P:Program}{w:World}:∀ {es:List DictEntry}{kvs:List (Str×Addr)},zeZ w es kvs→PySem.Pairs (zb8 P w) es (kvs.map fun p=>(Sum.inr p.1,Value.ref p.2))∧∀ e∈es,∃ k,(zb8 P w).is k e.key=true∧e.hash=(zb8 P w).hash k
 | _,_,.nil=>⟨.nil,fun e he=>by cases he⟩
 | _,_,.cons (k:=k) (t:=t) h=>by
  obtain ⟨h1,h2⟩:=zjs (P:=P) h
  refine ⟨.cons (zii P w k t) rfl h1,fun e he=>?_⟩
  rcases List.mem_cons.mp he with rfl|he
  ·exact ⟨Sum.inr k,zii P w k t,rfl⟩
  ·exact h2 e he
theorem zeK.dictOf {w:World}{P:Program}{K:PySem.W.Frag}{a:Addr}{kvs:List (Str×Addr)}{h:Heap} (D:zeK w K a kvs) (hk:∀ o,K.lookup a=some o→h.get? a=some o):h.DictOf (zb8 P w) a (kvs.map fun p=>(Sum.inr p.1,Value.ref p.2)):=by
 obtain ⟨es,n,h1,h2⟩:=D.ex
 obtain ⟨p1,p2⟩:=zjs (P:=P) h2
 refine ⟨_,es,n,hk _ h1,⟨rfl,rfl,rfl⟩,rfl,fun e he=>p2 e (by simpa using he),p1,?_⟩
 rw [List.map_map]
 have e:((fun p:Key×Value=>p.1)∘fun p:Str×Addr=>((Sum.inr p.1:Key),Value.ref p.2))=(fun z:Str=>(Sum.inr z:Key))∘(fun p:Str×Addr=>p.1):=rfl
 rw [e,← List.map_map]
 exact List.Pairwise.map _ (fun x y q z=>q (Sum.inr.inj z)) D.nd
def zib (kvs:List (Str×Addr)) (te:TE):TE:=fun σ H Q=>te σ H fun y H1=>uS y fun z=>Q (zbR kvs z) H1
theorem zoF {kvs:List (Str×Addr)}{te:TE}{σ:St}{H:Hp}{Q:VK}:zib kvs te σ H Q=te σ H fun y H1=>uS y fun z=>Q (zbR kvs z) H1:=rfl
theorem zwV {kvs:List (Str×Addr)}{z:Str}:zi (zbR kvs z) ((PySem.valueAt (kvs.map fun p=>((Sum.inr p.1:Key),Value.ref p.2)) (Sum.inr z)).getD .none):=by
 unfold zbR PySem.valueAt
 rw [List.find?_map]
 have e:((fun kv:Key×Value=>decide (kv.1=Sum.inr z))∘fun p:Str×Addr=>((Sum.inr p.1:Key),Value.ref p.2))=fun p:Str×Addr=>decide (p.1=z):=by
  funext p
  simp
 rw [e]
 cases kvs.find? (fun p=>decide (p.1=z)) with
 | none=>rfl
 | some p=>rfl
theorem zwt {x:Str}{a:Addr}{kvs:List (Str×Addr)}{e:Expr}{te:TE}{np apos cpos:Pos} (hg:Gl X x) (hm:X.mg x=some (.ref a)) (D:zeK X.w X.K a kvs) (he:PE X e te)
  (hbase:attributeBase (.Name x np) "get" X.env (eval (.Name x np) X.env)=eval (.Name x np) X.env:=by rfl) (hline:(apos.endLine == cpos.line)=true:=by rfl) (hp:zI e=true:=by rfl) (hd:(x == ("__debug__":Str))=false:=by decide) :
  PE X (.Call (.Attribute (.Name x np) "get" apos) [e] [] cpos) (zib kvs te):=by
 intro pins s σ H Q I h
 have hs:starEach [e] X.env=[(false,eval e X.env)]:=zbr hp
 refine wpAny_Call_method_late hbase (by rw [hs];rfl) hline rfl (thn (zjl (v:=.ref a) hg ⟨_,hm,rfl⟩ hd pins s σ H (fun v H1=>v = .ref a∧H1=H) I ⟨rfl,rfl⟩) fun v s1 ⟨x1,H1,I1,r1,ex,eH⟩=>?_)
 subst ex eH
 cases r1
 have dd:=D.dictOf (P:=X.prog) (h:=s1.heap) fun o ho=>I1.kIn a o ho
 refine ⟨"dict","dict.get",PySem.F.plainAttrs_dict,PySem.F.slot_dict_get,PySem.F.type_dict_get,dd.typeIs,fun b q=>?_,?_⟩
 ·cases q
  obtain ⟨ob,_,_,h1,h2,_⟩:=dd
  exact ⟨ob,h1,h2.2.1⟩
 rw [hs]
 refine Calls.callWith_builtin rfl (Calls.evalArgs_plain ?_)
 have hA:=zbI he zbF (hs:=hs) cpos pins s1 σ H1 (fun ys H2=>match ys with|[y]=>uS y fun z=>Q (zbR kvs z) H2|_=>False) I1 h
 rw [hs] at hA
 refine thn hA fun us s2 ⟨vs,H2,I2,r2,q2⟩=>?_
 match vs,q2,r2 with
 | [y],q2,.cons ry .nil =>
  obtain ⟨z,ey,q⟩:=q2
  subst ey
  obtain ⟨t,rfl⟩:=ry
  have dd2:=D.dictOf (P:=X.prog) (h:=s2.heap) fun o ho=>I2.kIn a o ho
  refine call_meetsIn PySem.F.slot_dict_get dd2.typeIs PySem.F.entry_dict_get (PySem.F.args_dict_get_2 _ _) (meets_dict_get (zb8 X.prog X.w) a (zii X.prog X.w z t) D.ns) ⟨_,dd2.mapOf,?_⟩
  exact ⟨zbR kvs z,H2,I2.tok _,zwV,q⟩
end
end L2
set_option Elab.async false
set_option linter.all false
set_option maxRecDepth 100000
set_option maxHeartbeats 4000000
namespace L2
open PySem PySem.Spec PyProof.Rows
def zjg (lo st:Int) (n:Nat):It:=⟨fun i _=>i<n,fun i H x H'=>H'=H∧x = .int (lo+i*st),fun i _=>n≤i⟩
section
variable {X:Cx}{tg:Expr}
def uI3 (vs:List V) (q:Int→Int→Int→Prop):Prop:=∃ i j k,vs=[.int i,.int j,.int k]∧q i j k
theorem zqY {i j k:Int}{q:Int→Int→Int→Prop}:uI3 [.int i,.int j,.int k] q=q i j k:=by
 apply propext;constructor
 ·rintro ⟨a,b,c,e,h⟩;cases e;exact h
 ·exact fun h=>⟨i,j,k,rfl,h⟩
def zwR (ta:TA):TI:=fun σ H R=>ta σ H fun vs H1=>uI3 vs fun i j k=>(0≤i∧i≤j∧j<2 ^ 20∧0<k∧k<2 ^ 20)∧R (zjg i k ((j - i+k - 1) / k).toNat) H1
theorem zng {ta:TA}{σ:St}{H:Hp}{R:It→Hp→Prop}:zwR ta σ H R=ta σ H fun vs H1=>uI3 vs fun i j k=>(0≤i∧i≤j∧j<2 ^ 20∧0<k∧k<2 ^ 20)∧R (zjg i k ((j - i+k - 1) / k).toNat) H1:=rfl
end
section
variable {g:TG}{tb:TS}{D:zaq}{σ:St}{H:Hp}
end
end L2
set_option Elab.async false
set_option linter.all false
set_option maxRecDepth 100000
set_option maxHeartbeats 4000000
namespace L2
open PySem PySem.Spec PyProof.Rows
section
variable {prog:Program}{w:World}{A:Around}{E:Value→Shared→Prop}{s:Shared}
theorem zlw {h h':Heap}{l:Addr}{xs:Array Value} (x:h.IsTuple l xs) (k:∀ o,h.get? l=some o→h'.get? l=some o):h'.IsTuple l xs:=by
 obtain ⟨o,e,r⟩:=x
 exact ⟨o,k o e,r⟩
theorem zqF {it t:Addr}{i:Nat}{items:Array Value}{x:Value}{Q:Value→Shared→Prop} (hit:s.heap.IsTupleIter it t i) (ht:s.heap.IsTuple t items) (hx:items[i]?=some x)
  (k:∀ h',h'.IsTupleIter it t (i+1)→Heap.SameBut it s.heap h'→Q x { s with heap:=h' }):wpAny (model prog w) A (Builtin.SmallTypes.nextOf (.ref it)) Q E s:=by
 obtain ⟨o,ho,hc,hd⟩:=id hit
 obtain ⟨ol,hol,_,nl,hdl⟩:=ht
 unfold Builtin.SmallTypes.nextOf
 refine wpAny_bind (wpAny_callSpecial?_slot (name:=Str.ofString "__next__") hit.typeIs F.slot_tuple_iterator_next (wpAny_call_entry F.slot_tuple_iterator_next hit.typeIs F.entry_tuple_iterator_next ?_ (F.args_tuple_iterator_next_1 _)))
 refine wpAny_bind (m:=field (.ref it) 0) (wpAny_field ho hd (x:=.ref t) rfl ?_)
 rw [if_neg (show ¬ ((Value.ref t == Value.none)=true) by simp)]
 refine wpAny_bind (m:=field (.ref it) 1) (wpAny_field ho hd (x:=.int i 0) rfl (wpAny_bind (m:=seqItems? (.ref t)) (wpAny_seqItems hol hdl ?_)))
 simp only [Int.toNat_natCast,hx]
 refine wpAny_bind (m:=setField _ _ _) (wpAny_setField ho hd (by simp) (wpAny_pure ⟨x,rfl,wpAny_pure (k _ ?_ (Heap.SameBut.update ..))⟩))
 refine ⟨_,Heap.get?_update_self _ ho (Obj.isFreed_of_fields (Obj.data_mapFields hd _)),(Obj.cls_mapFields ..).trans hc,?_⟩
 rw [Obj.data_mapFields hd]
 simp [rawInt]
theorem zsS {it t:Addr}{i:Nat}{items:Array Value}{Q:Value→Shared→Prop} (hh:Hnd A s.heap) (hit:s.heap.IsTupleIter it t i) (ht:s.heap.IsTuple t items) (hx:items[i]?=none)
  (k:∀ h' e,Heap.ExtBut it s.heap h'→(∃ o,h'.get? e=some o∧o.cls = .type "StopIteration")→E (.ref e) { s with heap:=h' }):wpAny (model prog w) A (Builtin.SmallTypes.nextOf (.ref it)) Q E s:=by
 obtain ⟨o,ho,hc,hd⟩:=id hit
 obtain ⟨ol,hol,_,nl,hdl⟩:=ht
 unfold Builtin.SmallTypes.nextOf
 refine wpAny_bind (wpAny_callSpecial?_slot (name:=Str.ofString "__next__") hit.typeIs F.slot_tuple_iterator_next (wpAny_call_entry F.slot_tuple_iterator_next hit.typeIs F.entry_tuple_iterator_next ?_ (F.args_tuple_iterator_next_1 _)))
 refine wpAny_bind (m:=field (.ref it) 0) (wpAny_field ho hd (x:=.ref t) rfl ?_)
 rw [if_neg (show ¬ ((Value.ref t == Value.none)=true) by simp)]
 refine wpAny_bind (m:=field (.ref it) 1) (wpAny_field ho hd (x:=.int i 0) rfl (wpAny_bind (m:=seqItems? (.ref t)) (wpAny_seqItems hol hdl ?_)))
 simp only [Int.toNat_natCast,hx]
 refine wpAny_bind (wpAny_rule (wpAny_bind (wpAny_setField ho hd (by simp) ?_)))
 refine zlm (hh.keeps fun b q hq e=>(Heap.get?_update_other _ _ fun z=>?_).trans e) fun h' e up st=>k h' e (fun b q hb z=>up b q ((Heap.get?_update_other _ _ (Ne.symm hb)).trans z)) st
 obtain ⟨C,hC⟩:=hq
 rw [← z,ho] at e
 cases e
 rw [hc] at hC
 cases hC
theorem zqA {z TI TO i1 i2 l1 l2:Addr}{k1 k2:Nat}{xs ys:Array Value}{x y a b:Value}{Q:Option Value→Shared→Prop} (D:ZipApart z TI TO i1 i2 l1 l2) (hz:IsZip s.heap z TI TO .none) (hTI:IsPair s.heap TI (.ref i1) (.ref i2)) (hTO:IsPair s.heap TO a b)
  (h1:s.heap.IsTupleIter i1 l1 k1) (h2:s.heap.IsListIter i2 l2 k2) (hl1:s.heap.IsTuple l1 xs) (hl2:s.heap.IsList l2 ys) (hx:xs[k1]?=some x) (hy:ys[k2]?=some y)
  (k:∀ h',IsZip h' z TI TO (rawInt s.heap.objs.size)→IsPair h' TO x y→h'.IsTupleIter i1 l1 (k1+1)→h'.IsListIter i2 l2 (k2+1)→IsPair h' s.heap.objs.size x y→h'.objs.size=s.heap.objs.size+1 →
   (∀ c o,c≠z→c≠TO→c≠i1→c≠i2→s.heap.get? c=some o→h'.get? c=some o)→Q (some (.ref s.heap.objs.size)) { s with heap:=h' }):wpAny (model prog w) A (pyNext (.ref z)) Q E s:=by
 have hT:s.TypeIs (.ref z) "zip":=⟨_,hz,rfl⟩
 have core:∀ (Q':Value→Shared→Prop) (E':Value→Shared→Prop),(∀ h',IsZip h' z TI TO (rawInt s.heap.objs.size)→IsPair h' TO x y→h'.IsTupleIter i1 l1 (k1+1)→h'.IsListIter i2 l2 (k2+1)→IsPair h' s.heap.objs.size x y→h'.objs.size=s.heap.objs.size+1 →
   (∀ c o,c≠z→c≠TO→c≠i1→c≠i2→s.heap.get? c=some o→h'.get? c=some o)→Q' (.ref s.heap.objs.size) { s with heap:=h' }) →
   wpAny (model prog w) A.in1 (Builtin.«zip.__next__» ⟨[.ref z],[]⟩) (fun fin s'=>∃ v,fin = .done (.ret v)∧Q' v s') E' s:=by
  intro Q' E' kk
  refine wpAny_bind (m:=field (.ref z) 2) (wpAny_field hz rfl (x:=.bool false) rfl (wpAny_bind (m:=field (.ref z) 3) (wpAny_field hz rfl (x:=.ref TI) rfl (wpAny_bind (wpAny_seqItems hTI rfl (wpAny_bind (m:=Builtin.SmallTypes.ownedTupleIsFree (.ref z)) ?_))))))
  unfold Builtin.SmallTypes.ownedTupleIsFree
  refine wpAny_bind (wpAny_field hz rfl (x:=.none) rfl (wpAny_pure ?_))
  simp only [if_true]
  refine wpAny_bind (wpAny_rule (wpAny_bind (wpAny_field hz rfl (x:=.ref TO) rfl (wpAny_bind (wpAny_setField_rec hz (by simp) fun g1 z1 s1=>?_)))))
  replace z1:IsZip g1 z TI TO .ellipsis:=z1
  refine wpAny_bind ?_
  simp only [List.zipIdx_cons,List.zipIdx_nil,List.forIn_cons,List.forIn_nil]
  refine wpAny_bind (wpAny_bind (wpAny_onRaise (wpAny_bind (m:=Builtin.SmallTypes.nextOf (.ref i1)) ?_)))
  refine zqF (s:={ s with heap:=g1 }) (h1.at fun o e=>s1.extBut _ o D.i1z e) (zlw hl1 fun o e=>s1.extBut _ o D.l1z e) hx fun g2 a2 s2=>wpAny_pure ?_
  have t2:IsPair g2 TO a b:=s2.extBut _ _ D.TOi1 (s1.extBut _ _ D.TOz hTO)
  refine wpAny_bind (wpAny_seqItems t2 rfl (wpAny_bind (wpAny_updateSeq_pair t2 fun g3 t3 s3=>?_)))
  replace t3:IsPair g3 TO x b:=t3
  refine wpAny_bind (wpAny_letGo (wpAny_pure (wpAny_bind (wpAny_bind (wpAny_onRaise (wpAny_bind (m:=Builtin.SmallTypes.nextOf (.ref i2)) ?_))))))
  refine wpAny_nextOf_list_item (((h2.extBut s1.extBut D.i2z).extBut s2.extBut D.i12.symm).extBut s3.extBut D.TOi2.symm) (((hl2.extBut s1.extBut D.l2z).extBut s2.extBut D.l2i1).extBut s3.extBut D.l2TO) hy fun g4 b4 s4=>wpAny_pure ?_
  have t4:IsPair g4 TO x b:=s4.extBut _ _ D.TOi2 t3
  refine wpAny_bind (wpAny_seqItems t4 rfl (wpAny_bind (wpAny_updateSeq_pair t4 fun g5 t5 s5=>?_)))
  replace t5:IsPair g5 TO x y:=t5
  refine wpAny_bind (wpAny_letGo (wpAny_pure (wpAny_pure (wpAny_bind (wpAny_seqItems t5 rfl (wpAny_bind (wpAny_newTuple ?_)))))))
  have sz:g5.objs.size=s.heap.objs.size:=by rw [s5.1,s4.1,s3.1,s2.1,s1.1]
  have z5:IsZip g5 z TI TO .ellipsis:=s5.extBut _ _ D.TOz.symm (s4.extBut _ _ D.i2z.symm (s3.extBut _ _ D.TOz.symm (s2.extBut _ _ D.i1z.symm z1)))
  have old:∀ c o,c≠z→c≠TO→c≠i1→c≠i2→s.heap.get? c=some o→g5.get? c=some o:=fun c o c1 c2 c3 c4 e=>s5.extBut _ _ c2 (s4.extBut _ _ c4 (s3.extBut _ _ c2 (s2.extBut _ _ c3 (s1.extBut _ _ c1 e))))
  have a5:g5.IsTupleIter i1 l1 (k1+1):=a2.at fun o e=>s5.extBut _ _ D.TOi1.symm (s4.extBut _ _ D.i12 (s3.extBut _ _ D.TOi1.symm e))
  have b5:g5.IsListIter i2 l2 (k2+1):=b4.extBut s5.extBut D.TOi2.symm
  have zlt:z<g5.objs.size:=Heap.lt_size z5
  refine wpAny_bind (m:=Builtin.SmallTypes.ownedTupleHandOut (.ref z) (.ref g5.objs.size)) ?_
  unfold Builtin.SmallTypes.ownedTupleHandOut
  have z6:IsZip (g5.push { cls:=.type "tuple",data:=.seq #[x,y] }) z TI TO .ellipsis:=Heap.get?_push_of_some _ z5
  refine wpAny_bind (wpAny_setField_rec z6 (by simp) fun g7 z7 s7=>?_)
  replace z7:IsZip g7 z TI TO (rawInt g5.objs.size):=z7
  refine wpAny_setField_rec z7 (by simp) fun g8 z8 s8=>?_
  replace z8:IsZip g8 z TI TO (rawInt g5.objs.size):=z8
  have up:∀ c o,c≠z→g5.get? c=some o→g8.get? c=some o:=fun c o c1 e=>s8.extBut _ _ c1 (s7.extBut _ _ c1 (Heap.get?_push_of_some _ e))
  have t8:IsPair g8 g5.objs.size x y:=s8.extBut _ _ (Nat.ne_of_gt zlt) (s7.extBut _ _ (Nat.ne_of_gt zlt) (Heap.get?_push_size _ rfl))
  have sz8:g8.objs.size=g5.objs.size+1:=by rw [s8.1,s7.1,Heap.size_push]
  rw [sz] at z8 t8 sz8
  refine wpAny_pure ⟨_,rfl,?_⟩
  show Q' (.ref g5.objs.size) _
  rw [sz]
  exact kk g8 z8 (up _ _ D.TOz t5) (a5.at fun o e=>up _ o D.i1z e) (b5.at fun o e=>up _ o D.i2z e) t8 sz8 fun c o c1 c2 c3 c4 e=>up c o c1 (old c o c1 c2 c3 c4 e)
 unfold pyNext
 exact wpAny_bind (wpAny_attempt (wpAny_callSpecial?_slot (name:=Str.ofString "__next__") hT F.slot_zip_next (wpAny_call_entry F.slot_zip_next hT F.entry_zip_next (core _ _ fun h' q1 q2 q3 q4 q5 q6 q7=>wpAny_pure (k h' q1 q2 q3 q4 q5 q6 q7)) (F.args_zip_next_1 _))))
theorem zvR {z TI TO i1 i2 l1 l2:Addr}{k1:Nat}{xs:Array Value}{a b:Value}{Q:Option Value→Shared→Prop} (hh:Hnd A s.heap) (D:ZipApart z TI TO i1 i2 l1 l2) (hz:IsZip s.heap z TI TO .none) (hTI:IsPair s.heap TI (.ref i1) (.ref i2)) (hTO:IsPair s.heap TO a b)
  (h1:s.heap.IsTupleIter i1 l1 k1) (hl1:s.heap.IsTuple l1 xs) (hx:xs[k1]?=none)
  (k:∀ h',(∀ c o,c≠z→c≠i1→s.heap.get? c=some o→h'.get? c=some o)→Q none { s with heap:=h' }):wpAny (model prog w) A (pyNext (.ref z)) Q E s:=by
 have hT:s.TypeIs (.ref z) "zip":=⟨_,hz,rfl⟩
 have core:∀ (Q':Fin→Shared→Prop) (E':Value→Shared→Prop),(∀ h' e,(∀ c o,c≠z→c≠i1→s.heap.get? c=some o→h'.get? c=some o)→(∃ o,h'.get? e=some o∧o.cls = .type "StopIteration")→E' (.ref e) { s with heap:=h' }) →
   wpAny (model prog w) A.in1 (Builtin.«zip.__next__» ⟨[.ref z],[]⟩) Q' E' s:=by
  intro Q' E' kE
  refine wpAny_bind (m:=field (.ref z) 2) (wpAny_field hz rfl (x:=.bool false) rfl (wpAny_bind (m:=field (.ref z) 3) (wpAny_field hz rfl (x:=.ref TI) rfl (wpAny_bind (wpAny_seqItems hTI rfl (wpAny_bind (m:=Builtin.SmallTypes.ownedTupleIsFree (.ref z)) ?_))))))
  unfold Builtin.SmallTypes.ownedTupleIsFree
  refine wpAny_bind (wpAny_field hz rfl (x:=.none) rfl (wpAny_pure ?_))
  simp only [if_true]
  refine wpAny_bind (wpAny_rule (wpAny_bind (wpAny_field hz rfl (x:=.ref TO) rfl (wpAny_bind (wpAny_setField_rec hz (by simp) fun g1 z1 s1=>?_)))))
  refine wpAny_bind ?_
  simp only [List.zipIdx_cons,List.zipIdx_nil,List.forIn_cons,List.forIn_nil]
  refine wpAny_bind (wpAny_bind (wpAny_onRaise (wpAny_bind (m:=Builtin.SmallTypes.nextOf (.ref i1)) ?_)))
  have hh1:Hnd A.in1 g1:=Hnd.keeps (h:=s.heap) hh fun c o ⟨C,hC⟩ e=>s1.extBut c o (fun q=>by rw [q,hz] at e;cases e;cases hC) e
  refine zsS (s:={ s with heap:=g1 }) hh1 (h1.at fun o e=>s1.extBut _ o D.i1z e) (zlw hl1 fun o e=>s1.extBut _ o D.l1z e) hx fun g2 e s2 st=>?_
  obtain ⟨oe,ge,ce⟩:=st
  have z2:IsZip g2 z TI TO .ellipsis:=s2 _ _ D.i1z.symm z1
  have ez:e≠z:=fun q=>by rw [q,z2] at ge;cases ge;simp at ce
  exact wpAny_setField_rec z2 (by simp) fun g3 _ s3=>kE g3 e (fun c o c1 c2 q=>s3.extBut _ _ c1 (s2 _ _ c2 (s1.extBut _ _ c1 q))) ⟨oe,s3.extBut _ _ ez ge,ce⟩
 unfold pyNext
 refine wpAny_bind (wpAny_attempt (wpAny_callSpecial?_slot (name:=Str.ofString "__next__") hT F.slot_zip_next (wpAny_call_entry F.slot_zip_next hT F.entry_zip_next (core _ _ fun h' e up st=>?_) (F.args_zip_next_1 _))))
 obtain ⟨o,g,c⟩:=st
 exact wpAny_bind (wpAny_isInstance (T:="StopIteration") (b:=true) ⟨o,g,c⟩ isSubtype_stop (wpAny_pure (k h' up)))
end
abbrev zT1 (h:Heap) (l1:Addr):Heap:=h.push { cls:=.type "tuple_iterator",data:=.fields #[.ref l1,.int 0 0] }
abbrev zT2 (h:Heap) (l1 l2:Addr):Heap:=(zT1 h l1).push { cls:=.type "list_iterator",data:=.fields #[.ref l2,.int 0 0] }
abbrev zT3 (h:Heap) (l1 l2:Addr):Heap:=(zT2 h l1 l2).push { cls:=.type "tuple",data:=.seq #[.ref h.objs.size,.ref (zT1 h l1).objs.size] }
abbrev zT4 (h:Heap) (l1 l2:Addr):Heap:=(zT3 h l1 l2).push { cls:=.type "tuple",data:=.seq #[.none,.none] }
abbrev zT5 (h:Heap) (l1 l2:Addr):Heap:=(zT4 h l1 l2).push { cls:=.type "zip",data:=.fields #[.none,.bool false,.bool false,.ref (zT2 h l1 l2).objs.size,.ref (zT3 h l1 l2).objs.size] }
theorem zxa (l1 l2:Addr) (xs ys:Array Value):Meets (Builtin.«zip.__new__» ⟨[.type "zip",.ref l1,.ref l2],[]⟩) (fun _ R s=>s.heap.IsTuple l1 xs∧s.heap.IsList l2 ys∧R (.ok (.ret (.ref (zT4 s.heap l1 l2).objs.size))) { s with heap:=zT5 s.heap l1 l2 }) :=
 .of_wp fun prog w A R s h=>by
  obtain ⟨hp,g,d,tk,os⟩:=s;obtain ⟨hl1,hl2,h⟩:=h
  have hsub:=sub_zip
  have hL1:Heap.IsTuple (Shared.heap ⟨hp,g,d,tk,os⟩) l1 xs:=hl1
  have hL2:Heap.IsList (Shared.heap ⟨hp.push { cls:=.type "tuple_iterator",data:=.fields #[.ref l1,.int 0 0] },g,d,tk,os⟩) l2 ys:=Heap.IsList.push hl2 _
  wp_walk using wpAny_pyIter_tuple hL1,wpAny_pyIter_list hL2
  exact ⟨_,rfl,h⟩
section
variable {prog:Program}{w:World}{A:Around}{E:Value→Shared→Prop}{s:Shared}
theorem zrP {l1 l2:Addr}{xs ys:Array Value}{Q:Value→Shared→Prop} (hl1:s.heap.IsTuple l1 xs) (hl2:s.heap.IsList l2 ys)
  (h:∀ h',IsZip h' (s.heap.objs.size+4) (s.heap.objs.size+2) (s.heap.objs.size+3) .none→IsPair h' (s.heap.objs.size+2) (.ref s.heap.objs.size) (.ref (s.heap.objs.size+1)) →
   IsPair h' (s.heap.objs.size+3) .none .none→h'.IsTupleIter s.heap.objs.size l1 0→h'.IsListIter (s.heap.objs.size+1) l2 0→h'.objs.size=s.heap.objs.size+5 →
   (∀ c o,s.heap.get? c=some o→h'.get? c=some o)→Q (.ref (s.heap.objs.size+4)) { s with heap:=h' }):wpAny (model prog w) A (call (.type "zip") [.ref l1,.ref l2]) Q E s:=by
 refine callType_new F.called_zip (by decide) (F.typeCall_zip_2 _ _) (F.newCall_zip_2 _ _) (fun obj=>F.args_object_init_3 obj _ _) F.entry_zip_new (zxa l1 l2 xs ys) ⟨hl1,hl2,?_⟩
 have z1:(zT1 s.heap l1).objs.size=s.heap.objs.size+1:=Heap.size_push ..
 have z2:(zT2 s.heap l1 l2).objs.size=s.heap.objs.size+2:=by rw [Heap.size_push,z1]
 have z3:(zT3 s.heap l1 l2).objs.size=s.heap.objs.size+3:=by rw [Heap.size_push,z2]
 have z4:(zT4 s.heap l1 l2).objs.size=s.heap.objs.size+4:=by rw [Heap.size_push,z3]
 have z5:(zT5 s.heap l1 l2).objs.size=s.heap.objs.size+5:=by rw [Heap.size_push,z4]
 have g5:(zT5 s.heap l1 l2).get? (zT4 s.heap l1 l2).objs.size=some _:=Heap.get?_push_size _ rfl
 have g4:(zT5 s.heap l1 l2).get? (zT3 s.heap l1 l2).objs.size=some _:=Heap.get?_push_of_some _ (Heap.get?_push_size _ rfl)
 have g3:(zT5 s.heap l1 l2).get? (zT2 s.heap l1 l2).objs.size=some _:=Heap.get?_push_of_some _ (Heap.get?_push_of_some _ (Heap.get?_push_size _ rfl))
 have g2:(zT5 s.heap l1 l2).get? (zT1 s.heap l1).objs.size=some _:=Heap.get?_push_of_some _ (Heap.get?_push_of_some _ (Heap.get?_push_of_some _ (Heap.get?_push_size _ rfl)))
 have g1:(zT5 s.heap l1 l2).get? s.heap.objs.size=some _:=Heap.get?_push_of_some _ (Heap.get?_push_of_some _ (Heap.get?_push_of_some _ (Heap.get?_push_of_some _ (Heap.get?_push_size _ rfl))))
 show _∧_
 rw [z2,z3,z4] at g5
 rw [z1,z2] at g3
 rw [z3] at g4
 rw [z1] at g2
 rw [z4]
 refine ⟨⟨_,g5,rfl⟩,h _ g5 g3 g4 ⟨_,g1,rfl,rfl⟩ ⟨_,g2,rfl,rfl⟩ z5 fun c o x=>?_⟩
 exact Heap.get?_push_of_some _ (Heap.get?_push_of_some _ (Heap.get?_push_of_some _ (Heap.get?_push_of_some _ (Heap.get?_push_of_some _ x))))
end
def zfH (K:PySem.W.Frag) (a b:Addr):It :=
 ⟨fun i H=>∃ xs ys x y,SqT K H a xs∧SqL K H b ys∧xs[i]?=some x∧ys[i]?=some y,fun i H v H'=>∃ T x y,H T=none∧v = .ref T∧H'=upd H T (.tup [x,y])∧(∀ xs,SqT K H a xs→xs[i]?=some x)∧∀ ys,SqL K H b ys→ys[i]?=some y,
  fun i H=>∃ xs ys,SqT K H a xs∧SqL K H b ys∧xs.length≤i⟩
structure zfw (z TI TO i1 i2 l1 l2:Addr) (i:Nat) (h:Heap):Prop where
 z:IsZip h z TI TO .none
 ti:IsPair h TI (.ref i1) (.ref i2)
 to:∃ a b,IsPair h TO a b
 a:h.IsTupleIter i1 l1 i
 b:h.IsListIter i2 l2 i
theorem zfw.keep {z TI TO i1 i2 l1 l2:Addr}{i:Nat}{h h':Heap} (x:zfw z TI TO i1 i2 l1 l2 i h) (k:∀ b∈[z,TI,TO,i1,i2],∀ o,h.get? b=some o→h'.get? b=some o):zfw z TI TO i1 i2 l1 l2 i h':=by
 obtain ⟨a1,a2,⟨u,v,a3⟩,a4,a5⟩:=x
 exact ⟨k _ (by simp) _ a1,k _ (by simp) _ a2,⟨u,v,k _ (by simp) _ a3⟩,a4.at fun o e=>k _ (by simp) o e,a5.at fun o e=>k _ (by simp) o e⟩
theorem zsL {P:Program}{w:World}{K:PySem.W.Frag}{elts:List Expr}{kk:Nat}{tp:Pos}{l1 l2 z TI TO i1 i2:Addr} (D:ZipApart z TI TO i1 i2 l1 l2) :
  zcl false P w K (.Tuple elts kk tp) (zfH K l1 l2) [z,TI,TO,i1,i2] z (zfw z TI TO i1 i2 l1 l2) where
 mem:=by simp
 obj:=fun i h st b hb=>by
  obtain ⟨a1,a2,⟨u,v,a3⟩,⟨o4,a4,_,d4⟩,⟨o5,a5,_,d5⟩⟩:=st
  simp only [List.mem_cons,List.not_mem_nil,or_false] at hb
  rcases hb with rfl|rfl|rfl|rfl|rfl
  ·exact ⟨_,a1,fun v q=>nomatch q⟩
  ·exact ⟨_,a2,fun v q=>nomatch q⟩
  ·exact ⟨_,a3,fun v q=>nomatch q⟩
  ·exact ⟨_,a4,fun v q=>by rw [d4] at q;cases q⟩
  ·exact ⟨_,a5,fun v q=>by rw [d5] at q;cases q⟩
 keep:=fun i h h' st k=>st.keep k
 item:=by
  intro X hP hw hK hc i pins s σ H E I hf st hg
  subst hP hw hK
  obtain ⟨xs,ys,x,y,hq1,hq2,hx,hy⟩:=hg
  obtain ⟨is1,rv1,p1,hz1⟩:=I.tuple hq1
  obtain ⟨is2,rv2,p2,hz2⟩:=I.list hq2
  obtain ⟨u1,hu1,ru1⟩:=rv1.get hx
  obtain ⟨u2,hu2,ru2⟩:=rv2.get hy
  obtain ⟨a1,a2,⟨u,v,a3⟩,a4,a5⟩:=st
  refine zqA D a1 a2 a3 a4 a5 p1 p2.isList (x:=u1) (y:=u2) (by simpa using hu1) (by simpa using hu2) fun h' b1 b2 b3 b4 b5 b6 b7=>?_
  refine ⟨_,rfl,wpAny_letOwnedTupleGo_zip (s:={ s with heap:=h' }) b1 fun h2 c1 c2=>?_⟩
  have zlt:z<s.heap.objs.size:=Heap.lt_size a1
  have nz:s.heap.objs.size≠z:=Nat.ne_of_gt zlt
  have all:∀ c o,c≠z→c≠TO→c≠i1→c≠i2→s.heap.get? c=some o→h2.get? c=some o:=fun c o n1 n2 n3 n4 e=>c2.extBut c o n1 (b7 c o n1 n2 n3 n4 e)
  have tT:h2.get? s.heap.objs.size=some { cls:=.type "tuple",data:=.seq #[u1,u2] }:=c2.extBut _ _ nz b5
  have hfr:H s.heap.objs.size=none:=I.hok.fresh (Nat.le_refl _)
  have hok0:HOk X.prog X.w H h2:=fun b u e=>by
   refine (I.hok b u e).stay (fun c v hc q=>?_) (fun _ q=>q) fun _ _ q=>q
   have hne:∀ d∈[z,TI,TO,i1,i2],c≠d:=fun d hd w=>by
    have fd:=(hf d hd).1
    rcases hc with k|k
    ·rw [k] at w;rw [w,fd] at e;cases e
    ·rw [w,fd] at k;cases k
   exact all c v (hne z (by simp)) (hne TO (by simp)) (hne i1 (by simp)) (hne i2 (by simp)) q
  have lt0:∀ b o,s.heap.get? b=some o→b≠s.heap.objs.size:=fun b o e=>Nat.ne_of_lt (Heap.lt_size e)
  have I2:Inv X pins σ (upd H s.heap.objs.size (.tup [x,y])) { s with heap:=h2 }:=by
   refine I.step (g':=s.gens) (d':=s.drawn) (t':=s.toks) (ch:=[z,TO,i1,i2]) (fun b hb=>?_) (fun b o _ _ hb e _=>?_) (fun b o _ _ hb e _=>?_) (fun b o _ e n=>?_) (fun b o hb e=>?_) (fun b ps e=>?_) (fun b o u e=>?_) (fun b ps e=>?_) (fun m hm=>?_) (hok0.add hfr ?_) I.bare
   ·have hb':b∈[z,TI,TO,i1,i2]:=by simp only [List.mem_cons,List.not_mem_nil,or_false] at hb ⊢;rcases hb with h|h|h|h <;> simp [h]
    obtain ⟨f0,f1,f2,f3,f4,f5⟩:=hf b hb'
    exact ⟨f3,f1,f4,f5⟩
   ·simp only [List.mem_cons,List.not_mem_nil,or_false,not_or] at hb
    exact all b o hb.1 hb.2.1 hb.2.2.1 hb.2.2.2 e
   ·simp only [List.mem_cons,List.not_mem_nil,or_false,not_or] at hb
    exact ⟨o.slots,all b o hb.1 hb.2.1 hb.2.2.1 hb.2.2.2 e⟩
   ·rw [ze (lt0 b o e)];exact n
   ·simp only [List.mem_cons,List.not_mem_nil,or_false,not_or] at hb
    exact ⟨o,all b o hb.1 hb.2.1 hb.2.2.1 hb.2.2.2 e⟩
   ·rw [ze (zt e hfr)];exact e
   ·rw [ze (zt e hfr)];exact e
   ·exact ⟨#[],by rw [ze (zt e hfr),e];simp⟩
   ·obtain ⟨o,es,ep,ho,r⟩:=hm
    exact ⟨o,es,ep,all _ o (Ne.symm (hf z (by simp)).2.1) (Ne.symm (hf TO (by simp)).2.1) (Ne.symm (hf i1 (by simp)).2.1) (Ne.symm (hf i2 (by simp)).2.1) ho,r⟩
   ·exact ⟨by show 2≤sizeLine;decide,[u1,u2],.cons ru1 (.cons ru2 .nil),⟨_,tT,rfl,_,rfl⟩⟩
  refine ⟨.ref s.heap.objs.size,_,I2,rfl,⟨_,x,y,hfr,rfl,rfl,fun zs hz=>by rw [I.tuple_inj hz hq1];exact hx,fun zs hz=>by rw [I.list_inj hz hq2];exact hy⟩,?_,fun b hb=>?_⟩
  ·exact ⟨c1,c2.extBut _ _ D.TIz (b7 _ _ D.TIz D.TITO D.TIi1 D.TIi2 a2),⟨u1,u2,c2.extBut _ _ D.TOz b2⟩,b3.at fun o e=>c2.extBut _ o D.i1z e,b4.extBut c2.extBut D.i2z⟩
  ·have ne:b≠s.heap.objs.size:=fun q=>by
    have:b<s.heap.objs.size:=by
     simp only [List.mem_cons,List.not_mem_nil,or_false] at hb
     obtain ⟨o4,a4,_⟩:=a4
     obtain ⟨o5,a5,_⟩:=a5
     rcases hb with rfl|rfl|rfl|rfl|rfl
     ·exact zlt
     ·exact Heap.lt_size a2
     ·exact Heap.lt_size a3
     ·exact Heap.lt_size a4
     ·exact Heap.lt_size a5
    exact absurd (q ▸ this) (Nat.lt_irrefl _)
   rw [ze ne]
   exact (hf b hb).1
 done:=by
  intro X hP hw hK hc i pins s σ H E I hf st hg
  subst hP hw hK
  obtain ⟨xs,ys,hq1,hq2,hx⟩:=hg
  obtain ⟨is1,rv1,p1,hz1⟩:=I.tuple hq1
  have hl:=rv1.length
  obtain ⟨a1,a2,⟨u,v,a3⟩,a4,a5⟩:=st
  refine zvR I.hnd D a1 a2 a3 a4 p1 (by simp;omega) fun h' up=>⟨rfl,?_⟩
  refine I.step (g':=s.gens) (d':=s.drawn) (t':=s.toks) (ch:=[z,i1]) (fun b hb=>?_) (fun b o _ _ hb e _=>?_) (fun b o _ _ hb e _=>?_) (fun _ _ _ _ n=>n) (fun b o hb e=>?_) (fun _ _ e=>e) (fun _ _ _ e=>e) (fun b ps e=>⟨#[],by rw [e];simp⟩) (fun m hm=>?_) (fun b u e=>?_) I.bare
  ·have hb':b∈[z,TI,TO,i1,i2]:=by simp only [List.mem_cons,List.not_mem_nil,or_false] at hb ⊢;rcases hb with h|h <;> simp [h]
   obtain ⟨f0,f1,f2,f3,f4,f5⟩:=hf b hb'
   exact ⟨f3,f1,f4,f5⟩
  ·simp only [List.mem_cons,List.not_mem_nil,or_false,not_or] at hb
   exact up b o hb.1 hb.2 e
  ·simp only [List.mem_cons,List.not_mem_nil,or_false,not_or] at hb
   exact ⟨o.slots,up b o hb.1 hb.2 e⟩
  ·simp only [List.mem_cons,List.not_mem_nil,or_false,not_or] at hb
   exact ⟨o,up b o hb.1 hb.2 e⟩
  ·obtain ⟨o,es,ep,ho,r⟩:=hm
   exact ⟨o,es,ep,up _ o (Ne.symm (hf z (by simp)).2.1) (Ne.symm (hf i1 (by simp)).2.1) ho,r⟩
  ·refine (I.hok b u e).stay (fun c v hc q=>?_) (fun _ q=>q) fun _ _ q=>q
   have hne:∀ d∈[z,TI,TO,i1,i2],c≠d:=fun d hd w=>by
    have fd:=(hf d hd).1
    rcases hc with k|k
    ·rw [k] at w;rw [w,fd] at e;cases e
    ·rw [w,fd] at k;cases k
   exact up c v (hne z (by simp)) (hne i1 (by simp)) q
 self:=fun _ _ _ _ _ st h=>wpAny_pyIter_zip st.z h
section
variable {X:Cx}
def zgQ (K:PySem.W.Frag) (ta:TA):TI:=fun σ H R=>ta σ H fun vs H1=>∃ a b,vs=[.ref a,.ref b]∧(∃ xs,SqT K H1 a xs)∧(∃ ys,SqL K H1 b ys)∧R (zfH K a b) H1
theorem zoN {elts:List Expr}{kk:Nat}{tp p pos:Pos}{a b:Expr}{ta:TA} (hg:Gl X "zip") (hm:X.mg "zip"=none) (ha:PA X [a,b] ta) (hs:starEach [a,b] X.env=[(false,eval a X.env),(false,eval b X.env)]:=by rfl) (hs2:starEach [b] X.env=[(false,eval b X.env)]:=by rfl) :
  PIc false X (.Tuple elts kk tp) (.Call (.Name "zip" p) [a,b] [] pos) (zgQ X.K ta):=by
 intro pins s σ H R I h
 refine Call_ (zbQ I hg hm boot_zip (PyProof.Rows.callWith_type1 (thn (ha pos pins s σ H _ I h) fun us s1 ⟨vs,H1,I1,r1,q1⟩=>?_) (by rw [hs,hs2]) (by rw [hs2];rfl)))
 obtain ⟨l1,l2,e,⟨xs,h1⟩,⟨ys,h2⟩,q⟩:=q1
 subst e
 cases r1 with
 | cons r rr =>
  cases rr with
  | cons r' rr =>
   cases rr
   cases (show _=Value.ref l1 from r)
   cases (show _=Value.ref l2 from r')
   obtain ⟨is1,rv1,p1,_⟩:=I1.tuple h1
   obtain ⟨is2,rv2,p2,_⟩:=I1.list h2
   have lt1:l1<s1.heap.objs.size:=by obtain ⟨o,e,_⟩:=p1;exact Heap.lt_size e
   have lt2:l2<s1.heap.objs.size:=by obtain ⟨o,e,_⟩:=p2.isList;exact Heap.lt_size e
   refine zrP p1 p2.isList fun h' a1 a2 a3 a4 a5 a6 a7=>wpAny_pyIter_zip (s:={ s1 with heap:=h' }) a1 ?_
   refine ⟨_,_,_,_,H1,rfl,I1.kept (t':=s1.toks) a7,zsL (zipApart_new lt1 lt2),⟨a1,a2,⟨_,_,a3⟩,a4,a5⟩,fun b hb=>?_,q⟩
   have le:s1.heap.objs.size≤b:=by
    simp only [List.mem_cons,List.not_mem_nil,or_false] at hb
    rcases hb with rfl|rfl|rfl|rfl|rfl <;> omega
   exact I1.fpOk le (I1.hok.fresh le)
end
section
variable {K:PySem.W.Frag}{g:TG}{tb:TS}{D:zaq}{σ:St}{H:Hp}{ta:TA}{R:It→Hp→Prop}
theorem zr3:zgQ K ta σ H R=ta σ H fun vs H1=>uR2 vs fun a b=>(∃ xs,SqT K H1 a xs)∧(∃ ys,SqL K H1 b ys)∧R (zfH K a b) H1:=by
 apply propext
 constructor
 ·intro h
  exact h
 ·intro h
  exact h
theorem zak.zipT {a b:Addr}{xs ys:List V} (hlen:xs.length=ys.length) (Pv:Nat→St→Hp→Prop) (h0:Pv 0 σ H) (hl:∀ i σ H,i≤xs.length→Pv i σ H→SqT K H a xs∧SqL K H b ys)
  (hs:∀ i x y p σ H,xs[i]?=some x→ys[i]?=some y→Pv i σ H→H p=none→g (.ref p) σ (upd H p (.tup [x,y])) fun σ2 H2=>tb { D with nx:=Pv (i+1),ct:=Pv (i+1),bk:=D.nx } σ2 H2) (hd:∀ σ H,Pv xs.length σ H→D.nx σ H):zak (zfH K a b) g tb D σ H:=by
 refine ⟨fun i m σ H=>m=xs.length - i∧i≤xs.length∧Pv i σ H,⟨xs.length,by simp,Nat.zero_le _,h0⟩,?_⟩
 rintro i m σ H ⟨rfl,hi,p⟩
 obtain ⟨q1,q2⟩:=hl i σ H hi p
 by_cases hlt:i<xs.length
 ·refine .inr ⟨⟨xs,ys,xs[i],ys[i]'(by omega),q1,q2,by simp [hlt],by simp [hlen ▸ hlt]⟩,Pv (i+1),fun σ' H' p'=>⟨xs.length - (i+1),by omega,rfl,hlt,p'⟩,fun v H' y=>?_⟩
  obtain ⟨T,x,y,hT,rfl,rfl,hx,hy⟩:=y
  exact hs i x y T σ _ (hx xs q1) (hy ys q2) p hT
 ·have e:i=xs.length:=by omega
  subst e
  exact .inl ⟨⟨xs,ys,q1,q2,Nat.le_refl _⟩,hd σ H p⟩
end
end L2
set_option Elab.async false
set_option linter.all false
set_option maxRecDepth 100000
set_option maxHeartbeats 4000000
namespace L2
open PySem PySem.Spec PyProof.Rows
section
variable {X:Cx}
theorem zsR {tg:Expr}{l:Expr}{tl:TE} (hl:W (PE X l tl)):W (PIc true X tg l (zhq tl)):=⟨zpt (hl:=hl.h)⟩
theorem zvV {elts:List Expr}{kk j:Nat}{tp p pos kp cp:Pos}{a:Expr}{ta:TE} (hg:Gl X "enumerate") (hm:X.mg "enumerate"=none) (ha:W (PE X a ta)) (hp:zI a=true:=by rfl):W (PIc true X (.Tuple elts kk tp) (.Call (.Name "enumerate" p) [a] [⟨some (Str.ofString "start"),.Constant (.int 1) j cp,kp⟩] pos) (zgn 1 ta)):=⟨zm4 (hg:=hg) (hm:=hm) (ha:=ha.h) (hp:=hp)⟩
theorem zt1 {o e:Expr}{to te:TE}{apos cpos:Pos} (ho:W (PE X o to)) (he:W (PE X e te)) (hbase:attributeBase o "rfind" X.env (eval o X.env)=eval o X.env:=by rfl) (hline:(apos.endLine == cpos.line)=true:=by rfl) (hp:zI e=true:=by rfl):W (PE X (.Call (.Attribute o "rfind" apos) [e] [] cpos) (uM1 to te zh7)):=⟨zwE (ho:=ho.h) (he:=he.h) (hbase:=hbase) (hline:=hline) (hp:=hp)⟩
theorem zrE {o e:Expr}{to te:TE}{apos cpos:Pos} (ho:W (PE X o to)) (he:W (PE X e te)) (hbase:attributeBase o "split" X.env (eval o X.env)=eval o X.env:=by rfl) (hline:(apos.endLine == cpos.line)=true:=by rfl) (hp:zI e=true:=by rfl):W (PE X (.Call (.Attribute o "split" apos) [e] [] cpos) (uM1 to te zik)):=⟨ztD (ho:=ho.h) (he:=he.h) (hbase:=hbase) (hline:=hline) (hp:=hp)⟩
theorem zjj {e:Expr}{te:TE}{pos:Pos} (he:W (PE X e te)):W (PE X (.FormattedValue e (-1) none pos) (zgP te)):=⟨zvI (he:=he.h)⟩
theorem zvG  : W (PJ X [] zgS):=⟨zuX ⟩
theorem zgC {e:Expr}{es:List Expr}{te:TE}{tj:TJ} (he:W (PE X e te)) (hj:W (PJ X es tj)):W (PJ X (e::es) (zgB te tj)):=⟨zsM (he:=he.h) (hj:=hj.h)⟩
theorem zr1 {e e':Expr}{es:List Expr}{tj:TJ}{pos:Pos} (h:W (PJ X (e::e'::es) tj)):W (PE X (.JoinedStr (e::e'::es) pos) (zg7 tj)):=⟨zw5 (h:=h.h)⟩
theorem zvg {x:Str}{a:Addr}{kvs:List (Str×Addr)}{e:Expr}{te:TE}{np apos cpos:Pos} (hg:Gl X x) (hm:X.mg x=some (.ref a)) (D:zeK X.w X.K a kvs) (he:W (PE X e te)) (hbase:attributeBase (.Name x np) "get" X.env (eval (.Name x np) X.env)=eval (.Name x np) X.env:=by rfl) (hline:(apos.endLine == cpos.line)=true:=by rfl) (hp:zI e=true:=by rfl) (hd:(x == ("__debug__":Str))=false:=by decide):W (PE X (.Call (.Attribute (.Name x np) "get" apos) [e] [] cpos) (zib kvs te)):=⟨zwt (hg:=hg) (hm:=hm) (D:=D) (he:=he.h) (hbase:=hbase) (hline:=hline) (hp:=hp) (hd:=hd)⟩
theorem zou {elts:List Expr}{kk:Nat}{tp p pos:Pos}{a b:Expr}{ta:TA} (hg:Gl X "zip") (hm:X.mg "zip"=none) (ha:W (PA X [a,b] ta)) (hs:starEach [a,b] X.env=[(false,eval a X.env),(false,eval b X.env)]:=by rfl) (hs2:starEach [b] X.env=[(false,eval b X.env)]:=by rfl):W (PIc false X (.Tuple elts kk tp) (.Call (.Name "zip" p) [a,b] [] pos) (zgQ X.K ta)):=⟨zoN (hg:=hg) (hm:=hm) (ha:=ha.h) (hs:=hs) (hs2:=hs2)⟩
end
end L2
set_option Elab.async false
set_option linter.all false
set_option maxRecDepth 100000
set_option maxHeartbeats 4000000
namespace L2
open PySem PySem.Spec PyProof.Rows
def tx (l:List Nat):Str:=⟨l.toArray⟩
def sg (z:Str):List Nat:=z.cps.toList
theorem zaW (l:List Nat):sg (tx l)=l:=by simp [sg,tx]
theorem ze0 (z:Str):tx (sg z)=z:=by cases z;simp [sg,tx]
theorem zhi {a b:Str} (h:sg a=sg b):a=b:=by rw [← ze0 a,h,ze0]
theorem zbq (a b:Str):sg (a++b)=sg a++sg b:=by simp [sg,Str.cps_append]
theorem zT (z:Str):(sg z).length=z.length:=by simp [sg,Str.length]
theorem zge (l:List Nat):(tx l).length=l.length:=by simp [tx,Str.length]
def c1 (c:Nat):Str:=⟨#[c]⟩
theorem zf9 {x:Str}{c i:Nat}:StrLaws.At x (c1 c) x.length i↔(sg x)[i]?=some c:=by
 unfold StrLaws.At
 rw [StrLaws.subAt_eq]
 show i+1≤x.length∧((((sg x).drop i).take 1) == [c])=true↔_
 rw [← zT x]
 constructor
 ·rintro ⟨h1,h2⟩
  have h2:=eq_of_beq h2
  rw [List.getElem?_eq_getElem (by omega)]
  have h3:((sg x).drop i).take 1=[(sg x)[i]'(by omega)]:=by
   rw [List.drop_eq_getElem_cons (by omega)];rfl
  rw [h3] at h2
  injection h2 with h2 _
  rw [h2]
 ·intro h
  obtain ⟨h1,h2⟩:=List.getElem?_eq_some_iff.mp h
  refine ⟨by omega,?_⟩
  rw [List.drop_eq_getElem_cons h1,h2]
  simp
theorem zsn (y:Str) (c:Nat):(!(Builtin.Str.occurrences y ⟨#[c]⟩ 0 y.length 1).isEmpty)=(sg y).contains c:=by
 rcases StrLaws.occ_head y (c1 c) 1 (Nat.le_refl _) with ⟨h,hn⟩|⟨i,r,h,ha,_⟩
 ·rw [show Builtin.Str.occurrences y ⟨#[c]⟩ 0 y.length 1=[] from h]
  symm
  show (sg y).contains c=false
  rw [Bool.eq_false_iff]
  intro hc
  obtain ⟨i,hi,e⟩:=List.getElem_of_mem (List.contains_iff_mem.mp hc)
  exact hn i (zf9.mpr (by rw [List.getElem?_eq_getElem hi,e]))
 ·rw [show Builtin.Str.occurrences y ⟨#[c]⟩ 0 y.length 1=i::r from h]
  symm
  exact List.contains_iff_mem.mpr (List.mem_of_getElem? (zf9.mp ha))
def zaj (c:Nat):List Nat→List (List Nat)
 | []=>[[]]
 | x::t=>if x=c then []::zaj c t else match zaj c t with
  | []=>[[x]]
  | h::r=>(x::h)::r
def zck (p:List Nat):List (List Nat)→List (List Nat)
 | []=>[p]
 | h::r=>(p++h)::r
theorem zcL (c:Nat):∀ l,∃ h r,zaj c l=h::r
 | []=>⟨_,_,rfl⟩
 | x::t=>by
  unfold zaj
  split
  ·exact ⟨_,_,rfl⟩
  ·obtain ⟨h,r,e⟩:=zcL c t
   rw [e];exact ⟨_,_,rfl⟩
theorem ze1 (c x:Nat) (t:List Nat) (h:x≠c):zaj c (x::t)=zck [x] (zaj c t):=by
 obtain ⟨a,r,e⟩:=zcL c t
 show (if x=c then _ else _)=_
 rw [if_neg h,e]
 rfl
theorem zp3 (p q:List Nat) (l:List (List Nat)):zck p (zck q l)=zck (p++q) l:=by
 cases l <;> simp [zck]
theorem zg9 (s:Str) (c hi limit:Nat):∀ (l:List Nat) (st:Array Nat×Nat),(∀ i∈l,st.2≤i)→l.Pairwise (· < ·)→st.1.size+l.length≤limit →
  (forIn l st (StrLaws.occBody s (c1 c) hi limit)).run.fst.toList=st.1.toList++l.filter fun i=>decide (i+1≤hi) && Builtin.Str.subAt s (c1 c) i
 | [],st,_,_,_=>by simp
 | a::l,st,h1,h2,h3=>by
  rw [List.forIn_cons]
  unfold StrLaws.occBody
  have ha:=h1 a (List.mem_cons_self ..)
  rw [List.pairwise_cons] at h2
  simp only [List.length_cons] at h3
  split
  ·rename_i hc
   have ih:=zg9 s c hi limit l (st.1.push a,a+(c1 c).length) (fun i hi=>by have:=h2.1 i hi;show a+1≤i;omega) h2.2 (by simp;omega)
   have e2:(decide (a+1≤hi) && Builtin.Str.subAt s (c1 c) a)=true:=by rw [Bool.and_eq_true];exact ⟨decide_eq_true hc.1.2,hc.2⟩
   rw [List.filter_cons,e2,if_pos rfl]
   refine Eq.trans ih ?_
   simp
  ·rename_i hc
   have ih:=zg9 s c hi limit l st (fun i hi=>h1 i (List.mem_cons_of_mem _ hi)) h2.2 (by omega)
   have e2:(decide (a+1≤hi) && Builtin.Str.subAt s (c1 c) a)=false:=by
    rw [Bool.eq_false_iff]
    intro h
    rw [Bool.and_eq_true] at h
    exact hc ⟨⟨⟨by omega,ha⟩,of_decide_eq_true h.1⟩,h.2⟩
   rw [List.filter_cons,e2,if_neg (by simp)]
   exact ih
theorem zjX (x:Str) (c:Nat):Builtin.Str.occurrences x (c1 c) 0 x.length (x.length+1)=(List.range' 0 (x.length+1)).filter fun i=>(sg x)[i]? == some c:=by
 rw [StrLaws.occ_eq]
 rw [zg9 x c x.length (x.length+1) _ _ (fun _ _=>Nat.zero_le _) (List.pairwise_lt_range' (s:=0) (n:=x.length+1 - 0)) (by simp)]
 simp only [List.nil_append,Nat.sub_zero]
 refine List.filter_congr fun i _=>?_
 rw [Bool.eq_iff_iff]
 have:=zf9 (x:=x) (c:=c) (i:=i)
 unfold StrLaws.At at this
 rw [Bool.and_eq_true,decide_eq_true_eq,beq_iff_eq]
 exact this
theorem zgW (x:Str) (c:Nat):∀ (k a i:Nat),i+k=x.length→a≤i→StrLaws.partsFrom x 1 a ((List.range' i (k+1)).filter fun i=>(sg x)[i]? == some c)=(zck (((sg x).drop a).take (i - a)) (zaj c ((sg x).drop i))).map tx
 | 0,a,i,h,ha=>by
  have hl:=zT x
  have e1:(sg x)[i]?=none:=List.getElem?_eq_none (by omega)
  have e2:(sg x).drop i=[]:=List.drop_eq_nil_of_le (by omega)
  have e3:(List.range' i (0+1)).filter (fun i=>(sg x)[i]? == some c)=[]:=by
   show List.filter _ [i]=[]
   rw [List.filter_cons,e1];rfl
  rw [e2,e3]
  show [Builtin.Str.strSub x a x.length]=[tx _]
  refine congrArg (·::[]) (zhi ?_)
  rw [zaW]
  show (Builtin.Str.strSub x a x.length).cps.toList=_
  rw [StrLaws.strSub_toList,show x.length=i by omega]
  simp [zaj,sg]
 | k+1,a,i,h,ha=>by
  have hl:=zT x
  have hi:i<(sg x).length:=by omega
  have e0:(sg x)[i]?=some ((sg x)[i]):=List.getElem?_eq_getElem hi
  have ed:(sg x).drop i=(sg x)[i]::(sg x).drop (i+1):=List.drop_eq_getElem_cons hi
  rw [List.range'_succ,List.filter_cons,e0,ed]
  by_cases hc:(sg x)[i]=c
  ·rw [if_pos (by simp [hc])]
   have ih:=zgW x c k (i+1) (i+1) (by omega) (Nat.le_refl _)
   show Builtin.Str.strSub x a i::StrLaws.partsFrom x 1 (i+1) _=_
   rw [ih]
   have e4:zaj c ((sg x)[i]::(sg x).drop (i+1))=[]::zaj c ((sg x).drop (i+1)):=by
    show (if _=c then _ else _)=_
    rw [if_pos hc]
   rw [e4]
   obtain ⟨p,r,e⟩:=zcL c ((sg x).drop (i+1))
   rw [e]
   simp only [Nat.sub_self,List.take_zero,zck,List.nil_append,List.append_nil,List.map_cons]
   refine congrArg (·::_) (zhi ?_)
   rw [zaW]
   exact StrLaws.strSub_toList x a i
  ·rw [if_neg (by simp [hc])]
   rw [zgW x c k a (i+1) (by omega) (by omega),ze1 c _ _ hc,zp3]
   have e5:((sg x).drop a).take (i+1 - a)=((sg x).drop a).take (i - a)++[(sg x)[i]]:=by
    rw [show i+1 - a=(i - a)+1 by omega,List.take_add_one]
    congr 1
    rw [List.getElem?_drop,show a+(i - a)=i by omega,e0]
    rfl
   rw [e5]
theorem zkA {c:Nat}:∀ {l:List Nat},c∉l→zaj c l=[l]
 | [],_=>rfl
 | x::t,h=>by
  rw [List.mem_cons,not_or] at h
  rw [ze1 c x t (Ne.symm h.1),zkA h.2]
  rfl
theorem zll (x:Str) {c:Nat} (hc:c<128):PySem.Txt.split x (c1 c)=(zaj c (sg x)).map tx:=by
 have hk:Builtin.Str.strKind (c1 c)=1:=by
  unfold Builtin.Str.strKind
  rw [if_pos]
  show (#[c]:Array Nat).all (· < 256)=true
  simp;omega
 have hk2 : ¬ Builtin.Str.strKind x<Builtin.Str.strKind (c1 c):=by
  rw [hk]
  unfold Builtin.Str.strKind
  split <;> (try split) <;> omega
 have whole:c∉sg x→[x]=(zaj c (sg x)).map tx:=fun h=>by rw [zkA h];show [x]=[tx (sg x)];rw [ze0]
 unfold PySem.Txt.split
 split
 ·rename_i h
  rw [decide_eq_false hk2,Bool.or_false,decide_eq_true_eq] at h
  have h:x.length<1:=h
  rw [← zT] at h
  refine whole ?_
  have e0:sg x=[]:=List.eq_nil_of_length_eq_zero (by omega)
  rw [e0]
  exact List.not_mem_nil
 ·split
  ·rename_i h
   refine whole fun hm=>?_
   obtain ⟨i,hi,e⟩:=List.getElem_of_mem hm
   rw [zjX] at h
   have:i∈(List.range' 0 (x.length+1)).filter fun i=>(sg x)[i]? == some c:=by
    rw [List.mem_filter]
    refine ⟨?_,by rw [List.getElem?_eq_getElem hi,e];simp⟩
    rw [List.mem_range'_1]
    rw [zT] at hi
    omega
   rw [List.isEmpty_iff.mp h] at this
   exact absurd this List.not_mem_nil
  ·rw [StrLaws.partsBetween_eq,zjX]
   show StrLaws.partsFrom x 1 0 _=_
   rw [zgW x c x.length 0 0 (by omega) (Nat.le_refl _)]
   simp only [Nat.sub_self,List.take_zero,List.drop_zero]
   obtain ⟨h,r,e⟩:=zcL c (sg x)
   rw [e];rfl
theorem zhP {c:Nat}:∀ (w:List Nat) (ws:List (List Nat)),(∀ v∈w::ws,c∉v)→zaj c (w++(ws.map (c::·)).flatten)=w::ws
 | [],[],_=>rfl
 | [],v::ws,h=>by
  have ih:=zhP v ws fun u hu=>h u (List.mem_cons_of_mem _ hu)
  show zaj c (c::(v++(ws.map (c::·)).flatten))=_
  show (if c=c then _ else _)=_
  rw [if_pos rfl,ih]
 | x::w,ws,h=>by
  have hx:=h _ (List.mem_cons_self ..)
  rw [List.mem_cons,not_or] at hx
  have ih:=zhP w ws fun u hu=>by
   rcases List.mem_cons.mp hu with rfl|hu
   ·exact hx.2
   ·exact h u (List.mem_cons_of_mem _ hu)
  show zaj c (x::(w++(ws.map (c::·)).flatten))=_
  rw [ze1 c x _ (Ne.symm hx.1),ih]
  rfl
theorem zg2 (x:Str) (c hi:Nat):∀ (l:List Nat) (st:Option Nat),(forIn l st (fun i r=>if (decide (i+(c1 c).length≤hi) && Builtin.Str.subAt x (c1 c) i)=true then (pure (ForInStep.yield (some i)):Id _) else pure (ForInStep.yield r))).run =
  l.foldl (fun acc i=>if (decide (i+1≤hi) && Builtin.Str.subAt x (c1 c) i)=true then some i else acc) st
 | [],st=>rfl
 | a::l,st=>by
  rw [List.forIn_cons,List.foldl_cons]
  show _=l.foldl _ (if (decide (a+(c1 c).length≤hi) && Builtin.Str.subAt x (c1 c) a)=true then some a else st)
  split
  ·exact zg2 x c hi l _
  ·exact zg2 x c hi l _
theorem zkW (x:Str) (c:Nat):Builtin.Str.lastOccurrence x (c1 c) 0 x.length=(List.range' 0 (x.length+1)).foldl (fun acc i=>if (sg x)[i]?=some c then some i else acc) none:=by
 have e:Builtin.Str.lastOccurrence x (c1 c) 0 x.length=(forIn (List.range' 0 (x.length+1)) none (fun i r=>if (decide (i+(c1 c).length≤x.length) && Builtin.Str.subAt x (c1 c) i)=true then (pure (ForInStep.yield (some i)):Id _) else pure (ForInStep.yield r))).run:=by
  unfold Builtin.Str.lastOccurrence
  simp
 rw [e,zg2]
 congr 1
 funext acc i
 have:=zf9 (x:=x) (c:=c) (i:=i)
 unfold StrLaws.At at this
 by_cases h:(sg x)[i]?=some c
 ·rw [if_pos h,if_pos]
  rw [Bool.and_eq_true,decide_eq_true_eq]
  exact this.mpr h
 ·rw [if_neg h,if_neg]
  intro q
  rw [Bool.and_eq_true,decide_eq_true_eq] at q
  exact h (this.mp q)
theorem zhR {p:Nat→Prop} [DecidablePred p]:∀ (l:List Nat) (a:Option Nat),(∀ i∈l,¬ p i)→l.foldl (fun acc i=>if p i then some i else acc) a=a
 | [],_,_=>rfl
 | x::l,a,h=>by
  rw [List.foldl_cons,if_neg (h x (List.mem_cons_self ..))]
  exact zhR l a fun i hi=>h i (List.mem_cons_of_mem _ hi)
theorem zrQ {x:Str}{c:Nat}{a b:List Nat} (h:sg x=a++c::b) (hb:c∉b):PySem.Txt.rfind x (c1 c)=a.length:=by
 have hl:x.length=a.length+(b.length+1):=by rw [← zT,h];simp
 have e:Builtin.Str.lastOccurrence x (c1 c) 0 x.length=some a.length:=by
  rw [zkW,show x.length+1=a.length+((b.length+1)+1) by omega,← List.range'_append_1,List.foldl_append,List.range'_succ,List.foldl_cons]
  rw [if_pos (by rw [h];simp),Nat.zero_add]
  refine zhR (p:=fun i=>(sg x)[i]?=some c) _ _ fun i hi=>?_
  rw [List.mem_range'_1] at hi
  intro q
  rw [h,List.getElem?_append_right (by omega)] at q
  obtain ⟨j,hj⟩:∃ j,i - a.length=j+1:=⟨i - a.length - 1,by omega⟩
  rw [hj,List.getElem?_cons_succ] at q
  exact hb (List.mem_of_getElem? q)
 show (match Builtin.Str.lastOccurrence x (c1 c) 0 x.length with|some i=>(i:Int)|none=>-1)=_
 rw [e]
theorem zm5 {x:Str}{c:Nat} (h:c∉sg x):PySem.Txt.rfind x (c1 c) = -1:=by
 have e:Builtin.Str.lastOccurrence x (c1 c) 0 x.length=none:=by
  rw [zkW]
  exact zhR (p:=fun i=>(sg x)[i]?=some c) _ _ fun i _ q=>h (List.mem_of_getElem? q)
 show (match Builtin.Str.lastOccurrence x (c1 c) 0 x.length with|some i=>(i:Int)|none=>-1)=_
 rw [e]
theorem zew {x:Str}{j:Nat} (h:j≤(sg x).length):PySem.Txt.slice x none (some (j:Int))=tx ((sg x).take j):=by
 have e:=StrLaws.sliceText_to (x:=x) (j:=(j:Int)) ⟨by omega,by simpa [sg] using h⟩
 refine Eq.trans (show PySem.Txt.slice x none (some (j:Int))=StrLaws.sliceText x none (some (j:Int)) from rfl) (e.trans ?_)
 show tx _=tx _
 simp [sg]
theorem zlC {x:Str} (h:0<(sg x).length):PySem.Txt.slice x none (some (-1))=tx ((sg x).dropLast):=by
 rw [zT] at h
 have e:=StrLaws.sliceText_to_neg (x:=x) (j:=-1) (by omega) (by omega)
 refine Eq.trans (show PySem.Txt.slice x none (some (-1))=StrLaws.sliceText x none (some (-1)) from rfl) (e.trans ?_)
 show tx _=tx _
 rw [List.dropLast_eq_take,zT,List.drop_zero,show (-1+(x.length:Int) - 0).toNat=x.length - 1 by omega]
 rfl
theorem zei (m:Nat):sg (toString ((m:Nat):Int):Str)=(Nat.toDigits 10 m).map Char.toNat:=PySem.W.KIN.signs_num m
end L2
set_option Elab.async false
set_option linter.all false
set_option maxRecDepth 100000
set_option maxHeartbeats 4000000
namespace L2
open PySem PySem.Spec PyProof.Rows
section
variable {X:Cx}{tg:Expr}
def zhg (K:PySem.W.Frag) (tl:TE):TI:=fun σ H R=>tl σ H fun x H1=>uR x fun a=>(∃ xs,SqL K H1 a xs∧R (Itl K a) H1)∨∃ xs,SqT K H1 a xs∧R (Itt K a) H1
theorem zr2 {K:PySem.W.Frag}{tl:TE}{σ:St}{H:Hp}{R:It→Hp→Prop}:zhg K tl σ H R=tl σ H fun x H1=>uR x fun a=>(∃ xs,SqL K H1 a xs∧R (Itl K a) H1)∨∃ xs,SqT K H1 a xs∧R (Itt K a) H1:=rfl
theorem zud {l:Expr}{tl:TE} (hl:PE X l tl):PIc true X tg l (zhg X.K tl):=by
 intro pins s σ H R I h
 refine thn (hl pins s σ H _ I h) fun v s1 ⟨x,H1,I1,r1,q1⟩=>?_
 obtain ⟨a,e,q1⟩:=q1
 subst e
 cases r1
 rcases q1 with ⟨xs,hq,q⟩|⟨xs,hq,q⟩
 ·obtain ⟨its,rv,p,hz⟩:=I1.list hq
  refine wpAny_pyIter_list p.isList ⟨s1.heap.objs.size,[s1.heap.objs.size],_,_,H1,rfl,I1.kept (t':=s1.toks) fun b o e=>Heap.get?_push_of_some _ e,zki a _,⟨_,Heap.get?_push_size _ rfl,rfl,rfl⟩,fun b hb=>?_,q⟩
  have e:b=s1.heap.objs.size:=by simpa using hb
  subst e
  exact I1.fpOk (Nat.le_refl _) (I1.hok.fresh (Nat.le_refl _))
 ·obtain ⟨its,rv,p,hz⟩:=I1.tuple hq
  refine wpAny_pyIter_tuple (show s1.heap.IsTuple a its.toArray from p) ⟨s1.heap.objs.size,[s1.heap.objs.size],_,_,H1,rfl,I1.kept (t':=s1.toks) fun b o e=>Heap.get?_push_of_some _ e,zqd a _,⟨_,Heap.get?_push_size _ rfl,rfl,rfl⟩,fun b hb=>?_,q⟩
  have e:b=s1.heap.objs.size:=by simpa using hb
  subst e
  exact I1.fpOk (Nat.le_refl _) (I1.hok.fresh (Nat.le_refl _))
theorem zwD {l:Expr}{tl:TE} (hl:W (PE X l tl)):W (PIc true X tg l (zhg X.K tl)):=⟨zud hl.h⟩
end
section
variable {K:PySem.W.Frag}{g:TG}{tt:TT}{te:TE}{H:Hp}{Q:VK}{R:It→Hp→Prop}
theorem zah.tup {a:Addr}{xs:List V}{τ:St} (Pv:Nat→St→List V→Hp→Prop) (hz:∀ i τ ys H,Pv i τ ys H→ys.length<sizeLine) (ha:∀ i τ ys H,Pv i τ ys H→SqT K H a xs) (h0:Pv 0 τ [] H)
  (hs:∀ (N:St→List V→Hp→Prop) i x τ ys H,xs[i]?=some x→Pv i τ ys H→(∀ τ ys H,Pv (i+1) τ ys H→N τ ys H)→g x τ H fun τ1 H4=>tt τ1 H4 fun ok H5=>zbU N ys τ1 te ok H5) (hd:∀ τ ys H,Pv xs.length τ ys H→∀ D H',New H D (.lst ys) H'→Q (.ref D) H'):zah (Itt K a) g tt te τ H Q:=by
 refine ⟨fun i m τ ys H=>m=xs.length - i∧i≤xs.length∧Pv i τ ys H,⟨xs.length,by simp,Nat.zero_le _,h0⟩,?_⟩
 rintro i m τ ys H2 ⟨rfl,hi,p⟩
 refine ⟨hz i τ ys H2 p,?_⟩
 have q:=ha i τ ys H2 p
 by_cases hlt:i<xs.length
 ·refine .inr ⟨⟨xs,xs[i],q,by simp [hlt]⟩,fun x H' y=>?_⟩
  obtain ⟨e,y⟩:=y
  subst e
  exact hs (fun τ1 ys H=>∃ m',m'<xs.length - i∧m'=xs.length - (i+1)∧i+1≤xs.length∧Pv (i+1) τ1 ys H) i x τ ys _ (y xs q) p fun τ1 zs H q=>⟨xs.length - (i+1),by omega,rfl,hlt,q⟩
 ·have e:i=xs.length:=by omega
  subst e
  exact .inl ⟨⟨xs,q,Nat.le_refl _⟩,fun D hD _=>hd τ ys H2 p D _ (.mk' hD)⟩
theorem zpD {c:Bool}{a:Addr}{H:Hp}{Q:VK}:zbA c (.ref a) .non H Q=Q (.bl (if c then true else false)) H:=by simp [zbA]
theorem zpH {c:Bool}{a:Str}{H:Hp}{Q:VK}:zbA c (.str a) .non H Q=Q (.bl (if c then true else false)) H:=by simp [zbA]
theorem zaD (z:Str):asc z=(sg z).all (· < 128):=by simp [asc,sg]
end
end L2
set_option Elab.async false
set_option linter.all false
set_option maxRecDepth 100000
set_option maxHeartbeats 4000000
namespace L2
open PySem PySem.Spec PyProof.Rows
def zlO (h:Heap) (e:Addr):Prop:=∃ oe vs T,h.get? e=some oe∧oe.data = .fields vs∧vs[1]?=some (Value.ref T)
section
variable {M:Model}{A:Around}{E:Value→Shared→Prop}{s:Shared}{B:Heap}{env:Env}{outer l:List Env}{L e:Addr}{cls fl:Value}
theorem zld {oe:Obj}{vs:Array Value}{head:Value}{had:Bool}{Q:Unit→Shared→Prop} (hfr:A.frames=some (env::outer)) (hf:env.frame=some L) (st:B.StaysIn s.heap) (hn:B.get? e=none)
  (hl:s.heap.FunFrames B (env::outer)) (he:s.heap.get? e=some oe) (hc:oe.cls=cls) (hdi:oe.dict=none) (hd:oe.data = .fields vs) (hz:2<vs.size) (h2:vs[2]?=some .none)
  (k:∀ h',zaw B (env::outer) e cls (rawInt L) h'→zlO h' e→s.heap.UpToSlots h'→Q () { s with heap:=h' }) :
  wpAny M A (do let a←frameOf env;let pl←entryPlaceOf L had;let b←EntryCells.newEntry head a .none (rawInt L) .none pl;setField (.ref e) 1 b) Q E s:=by
 have nfr:e∉(env::outer).filterMap (·.frame):=fun z=>by
  obtain ⟨_,o,ho,nf⟩:=hl.mem z
  rw [he] at ho
  cases ho
  exact nf vs hd
 refine wpAny_bind (wpAny_frameOf_fun hfr hl hf fun g only=>?_)
 obtain ⟨_,same,slots⟩:=only
 refine wpAny_bind (wpAny_entryPlaceOf fun pl hpl=>?_)
 have key:∀ (tb:Obj) (ts:Array Value),tb.data = .fields ts→ts[3]?=some (rawInt L)→wpAny M A (setField (.ref e) 1 (.ref g.objs.size)) Q E { s with heap:=g.push tb }:=by
  intro tb ts td t3
  have e1:g.get? e=some oe:=(same e nfr).trans he
  have e2:(g.push tb).get? e=some oe:=Heap.get?_push_of_some _ e1
  have hT:(g.push tb).get? g.objs.size=some tb:=Heap.get?_push_size _ (by rw [Obj.isFreed_of_fields td])
  have hne:g.objs.size≠e:=Nat.ne_of_gt (Heap.lt_size e1)
  have fresh:B.get? g.objs.size=none:=by
   cases q:B.get? g.objs.size with
   | none=>rfl
   | some o =>
    obtain ⟨sl,z⟩:=slots _ o (st _ o q)
    exact absurd (Heap.lt_size z) (Nat.lt_irrefl _)
  have up:∀ b o,b≠e→g.get? b=some o→((g.push tb).update e (Obj.mapFields (·.setIfInBounds 1 (.ref g.objs.size)))).get? b=some o:=fun b o hb q =>
   (Heap.get?_update_other _ _ (Ne.symm hb)).trans (Heap.get?_push_of_some _ q)
  have notE:∀ b o,s.heap.get? b=some o→(∀ ws,o.data≠.fields ws)→b≠e:=fun b o q nf z=>by
   rw [z,he] at q
   cases q
   exact nf vs hd
  have dd:=Obj.data_mapFields hd (·.setIfInBounds 1 (Value.ref g.objs.size))
  refine wpAny_setField e2 hd (by omega) (k _ ⟨fun b o q=>?_,hn,?_,?_⟩ ⟨_,_,g.objs.size,Heap.get?_update_self _ e2 (Obj.isFreed_of_fields dd),dd,by rw [Array.getElem?_setIfInBounds_self_of_lt (by omega)]⟩ fun b o q nf=>?_)
  ·refine up b o (fun z=>by rw [z,hn] at q;cases q) ((same b fun z=>?_).trans (st b o q))
   rw [(hl.mem z).1] at q
   cases q
  ·refine hl.of_keeps fun b o q nf=>?_
   obtain ⟨sl,z⟩:=slots b o q
   exact ⟨_,up b _ (notE b o q nf) z,rfl⟩
  ·refine ⟨_,_,Heap.get?_update_self _ e2 (Obj.isFreed_of_fields dd),(Obj.cls_mapFields _ _).trans hc,(ziX _ _).trans hdi,dd,by simpa using hz,by rw [Array.getElem?_setIfInBounds_ne (by decide)];exact h2,.inr ⟨g.objs.size,tb,ts,?_,fresh,hne,?_,td,t3⟩⟩
   ·rw [Array.getElem?_setIfInBounds_self_of_lt (by omega)]
   ·rw [Heap.get?_update_other _ _ (Ne.symm hne)]
    exact hT
  ·obtain ⟨sl,z⟩:=slots b o q
   exact ⟨sl,up b _ (notE b o q nf) z⟩
 unfold EntryCells.newEntry newFields
 refine wpAny_bind (wpAny_newObj_type ?_ (hpl.sizeOk5 _ _ _ _ _))
 exact key _ _ rfl (by simp)
theorem zwP {Q:Unit→Shared→Prop} (hfr:A.frames=some (env::outer)) (hf:env.frame=some L) (x:zaw B (env::outer) e cls fl s.heap)
  (k:∀ h',zaw B (env::outer) e cls (rawInt L) h'→zlO h' e→s.heap.UpToSlots h'→Q () { s with heap:=h' }):wpAny M A (noteFrame (.ref e) env) Q E s:=by
 obtain ⟨st,hn,hl,oe,vs,he,hc,hdi,hd,hz,h2,h1⟩:=x
 unfold noteFrame
 simp only [hf]
 rcases h1 with h1|⟨T,oT,ts,h1,nT,Te,gT,dT,t3⟩
 ·refine wpAny_bind (wpAny_field he hd h1 ?_)
  rw [if_neg (show ¬ ((Value.none != Value.none)=true) by decide)]
  exact zld hfr hf st hn hl he hc hdi hd hz h2 k
 ·refine wpAny_bind (wpAny_field he hd h1 ?_)
  rw [if_pos (show (Value.ref T != Value.none)=true by simp)]
  refine wpAny_bind (wpAny_field gT dT t3 ?_)
  by_cases hfl:fl=rawInt L
  ·subst hfl
   rw [if_pos (show (rawInt L == rawInt L)=true by simp)]
   exact wpAny_pure (k s.heap ⟨st,hn,hl,oe,vs,he,hc,hdi,hd,hz,h2,.inr ⟨T,oT,ts,h1,nT,Te,gT,dT,t3⟩⟩ ⟨oe,vs,T,he,hd,h1⟩ (Heap.UpToSlots.refl _))
  ·rw [if_neg (show ¬ ((fl == rawInt L)=true) by simpa using hfl)]
   refine wpAny_bind (wpAny_setField gT dT (Array.getElem?_eq_some_iff.mp t3).1 ?_)
   have oth:∀ b,b≠T→(s.heap.update T (Obj.mapFields (·.setIfInBounds 3 Value.none))).get? b=s.heap.get? b:=fun b hb=>Heap.get?_update_other _ _ (Ne.symm hb)
   have notT:∀ b o,s.heap.get? b=some o→(∀ ws,o.data≠.fields ws)→b≠T:=fun b o q nf z=>by
    rw [z,gT] at q
    cases q
    exact nf ts dT
   refine zld (B:=B) (cls:=cls) hfr hf (fun b o q=>?_) hn (hl.of_keeps fun b o q nf=>⟨o,(oth b (notT b o q nf)).trans q,rfl⟩) ((oth e (Ne.symm Te)).trans he) hc hdi hd hz h2 fun h' y ht up=>k h' y ht fun b o q nf=>up b o ((oth b (notT b o q nf)).trans q) nf
   exact (oth b fun z=>by rw [z,nT] at q;cases q).trans (st b o q)
theorem zuu {Q:Unit→Shared→Prop} (x:zaw B l e cls fl s.heap) (k:∀ h',zaw B l e cls (rawInt L) h'→s.heap.UpToSlots h'→Q () { s with heap:=h' }):wpAny M A (setFlight (.ref e) (some L)) Q E s:=by
 obtain ⟨st,hn,hl,oe,vs,he,hc,hdi,hd,hz,h2,h1⟩:=x
 unfold setFlight
 rcases h1 with h1|⟨T,oT,ts,h1,nT,Te,gT,dT,t3⟩
 ·refine wpAny_bind (wpAny_field he hd h1 ?_)
  rw [if_neg (show ¬ ((Value.none != Value.none)=true) by decide)]
  exact wpAny_pure (k s.heap ⟨st,hn,hl,oe,vs,he,hc,hdi,hd,hz,h2,.inl h1⟩ (Heap.UpToSlots.refl _))
 ·refine wpAny_bind (wpAny_field he hd h1 ?_)
  rw [if_pos (show (Value.ref T != Value.none)=true by simp)]
  have lt3:3<ts.size:=(Array.getElem?_eq_some_iff.mp t3).1
  have dd:=Obj.data_mapFields dT (·.setIfInBounds 3 (rawInt L))
  have oth:∀ b,b≠T→(s.heap.update T (Obj.mapFields (·.setIfInBounds 3 (rawInt L)))).get? b=s.heap.get? b:=fun b hb=>Heap.get?_update_other _ _ (Ne.symm hb)
  have notT:∀ b o,s.heap.get? b=some o→(∀ ws,o.data≠.fields ws)→b≠T:=fun b o q nf z=>by
   rw [z,gT] at q
   cases q
   exact nf ts dT
  refine wpAny_setField gT dT lt3 (k _ ⟨fun b o q=>(oth b fun z=>by rw [z,nT] at q;cases q).trans (st b o q),hn,hl.of_keeps fun b o q nf=>⟨o,(oth b (notT b o q nf)).trans q,rfl⟩,oe,vs,(oth e (Ne.symm Te)).trans he,hc,hdi,hd,hz,h2,
   .inr ⟨T,_,_,h1,nT,Te,Heap.get?_update_self _ gT (Obj.isFreed_of_fields dd),dd,?_⟩⟩ fun b o q nf=>⟨o.slots,(oth b (notT b o q nf)).trans q⟩)
  rw [Array.getElem?_setIfInBounds_self_of_lt lt3]
end
def zlr (X:Cx) (Ex:Addr→St→Hp→Prop):Value→Shared→Prop:=fun e s'=>∃ (ea C:Addr) (B:Heap) (H':Hp) (fl:Value) (σ:St) (sI:Shared) (pins:List (Addr×Obj)),e = .ref ea∧Inv X pins σ H' sI∧zaw B X.stack ea (.ref C) fl s'.heap ∧
 s'.os=sI.os∧AllBare s'.gens∧(∀ b o,sI.heap.get? b=some o→b∉frs X.stack→B.get? b=some o)∧sI.heap.UpToSlots s'.heap∧Ex C σ H'
abbrev cxF (X:Cx) (Ex:Addr→St→Hp→Prop):Cx:=X.wish (zlr X Ex)
theorem znk {X:Cx}{Ex:Addr→St→Hp→Prop}:zan (cxF X Ex) Ex:=fun ps σ H sI ea C B fl s' I y os bare hB up q =>
 ⟨ea,C,B,H,fl,σ,sI,ps,rfl,I.unwish,y,os,bare,hB,up,q⟩
theorem zuF {X:Cx}{Ex:Addr→St→Hp→Prop} (hst:X.stack=X.env::X.outer) (hfr:X.Ok→X.A.frames=some (X.env::X.outer)) {L:Addr} (hL:X.env.frame=some L):PassesOwn (model X.prog X.w) X.A X.env (zlr X Ex):=by
 rintro e s' ⟨ea,C,B,H',fl,σ,sI,pins,rfl,I,y,os,bare,hB,up,q⟩
 have fr:=hfr I.ok
 rw [hst] at y
 refine zwP fr hL y fun h1 y1 ht u1=>?_
 obtain ⟨oe,vs,T,g1,g2,g3⟩:=ht
 refine wpAny_bind (wpAny_field g1 g2 g3 ?_)
 rw [if_neg (show ¬ ((Value.ref T == Value.none)=true) by simp)]
 rw [hL]
 refine zuu (s:={ s' with heap:=h1 }) y1 fun h2 y2 u2=>?_
 rw [← hst] at y2
 exact ⟨ea,C,B,H',_,σ,sI,pins,rfl,I,y2,os,bare,hB,(up.trans u1).trans u2,q⟩
theorem PS.thr {X:Cx}{Ex:Addr→St→Hp→Prop}{st:Stmt}{t:TS} (T:zan X Ex) (h:PS (cxF X Ex) st t):PS X st t:=fun pins s σ H D I hw =>
 wpAny_mono (h pins s σ H D (I.wish _) hw) (fun _ _ q=>q.unwish) fun e s' ⟨ea,C,B,H',fl,σ',sI,ps,he,I',y,os,bare,hB,up,q⟩=>by
  subst he
  exact T ps σ' H' sI ea C B fl s' I' y os bare hB up q
theorem zv4 {X:Cx}{Ex:Addr→St→Hp→Prop}{st:Stmt}{t:TS} (T:zan X Ex) (h:W (PS (cxF X Ex) st t)):W (PS X st t):=⟨PS.thr T h.h⟩
end L2
set_option Elab.async false
set_option linter.all false
set_option maxRecDepth 100000
set_option maxHeartbeats 4000000
namespace L2
open PySem PySem.Spec PyProof.Rows
section
variable {X:Cx}
def zns:R2:=fun x y H Q=>uEq true x y H Q∨∃ a b xs ys,x = .ref a∧y = .ref b∧H a=some (.tup xs)∧H b=some (.tup ys)∧xs.all zS=true∧ys.all zS=true∧Q (.bl (!eqL xs ys)) H
theorem zt3 {a b:Addr}{H:Hp}{Q:VK}:zns (.ref a) (.ref b) H Q = ∃ xs ys,((H a=some (.lst xs)∧H b=some (.lst ys))∨(H a=some (.tup xs)∧H b=some (.tup ys)))∧xs.all zS=true∧ys.all zS=true∧Q (.bl (!eqL xs ys)) H:=by
 apply propext;constructor
 ·rintro (h|⟨a',b',xs,ys,e1,e2,h1,h2,f1,f2,q⟩)
  ·rw [zeF] at h
   obtain ⟨xs,ys,h1,h2,f1,f2,q⟩:=h
   exact ⟨xs,ys,.inl ⟨h1,h2⟩,f1,f2,q⟩
  ·cases e1;cases e2;exact ⟨xs,ys,.inr ⟨h1,h2⟩,f1,f2,q⟩
 ·rintro ⟨xs,ys,⟨h1,h2⟩|⟨h1,h2⟩,f1,f2,q⟩
  ·exact .inl (by rw [zeF];exact ⟨xs,ys,h1,h2,f1,f2,q⟩)
  ·exact .inr ⟨a,b,xs,ys,rfl,rfl,h1,h2,f1,f2,q⟩
theorem zlT {K:PySem.W.Frag} (h:X.K=K):zJ X (.builtin "isinstance") (zeh K):=by subst h;exact zdB
def zrb:Str→V→Hp→VK→Prop:=fun z y H Q=>uS y fun q=>Q (.int (PySem.Txt.find z q)) H
theorem zpj {z q:Str}{H:Hp}{Q:VK}:zrb z (.str q) H Q=Q (.int (PySem.Txt.find z q)) H:=zfk
end
end L2
set_option Elab.async false
set_option linter.all false
set_option maxRecDepth 100000
set_option maxHeartbeats 4000000
namespace L2
open PySem PySem.Spec PyProof.Rows
section
variable {X:Cx}
def zeC (A:Around):List V→Hp→VK→Prop:=fun xs H Q=>zkl A xs H Q∨(∃ z,xs=[.str z]∧(PyData.str z).shown.length≤sizeLine∧Q (.str (PyData.str z).shown) H)∨(∃ i,xs=[.int i]∧i.natAbs.log2<1920∧Q (.str (toString i)) H) ∨
 (∃ b:Bool,xs=[.bl b]∧Q (.str (if b then "True" else "False")) H)∨(xs=[.non]∧Q (.str "None") H)
theorem zbz (hg:X.A.guards=some []):zJ X (.builtin "repr") (zeC X.A):=by
 intro pins s σ H xs us Q I r h
 rcases h with h|⟨z,rfl,hz,q⟩|⟨i,rfl,hi,q⟩|⟨b,rfl,q⟩|⟨rfl,q⟩
 ·exact zoh hg pins s σ H xs us Q I r h
 ·cases r with
  | cons r1 rr =>
   cases rr
   obtain ⟨t,rfl⟩:=r1
   have e:(PyData.str z).shown=PySem.reprText z:=by simp only [PyData.shown]
   rw [e] at hz q
   exact PySem.P.repr_of_str ⟨.str _,H,I.tok _,⟨_,rfl⟩,q⟩ hz
 ·cases r with
  | cons r1 rr =>
   cases rr
   obtain ⟨t,rfl⟩:=r1
   exact PySem.P.repr_of_int hi ⟨.str _,H,I.tok _,⟨_,rfl⟩,q⟩
 ·cases r with
  | cons r1 rr =>
   cases rr
   cases (show _=Value.bool b from r1)
   exact PySem.P.repr_of_bool ⟨.str _,H,I.tok _,⟨_,by cases b <;> rfl⟩,q⟩
 ·cases r with
  | cons r1 rr =>
   cases rr
   cases (show _=Value.none from r1)
   exact PySem.P.repr_of_none ⟨.str _,H,I.tok _,⟨_,rfl⟩,q⟩
def zcE:List V→Hp→VK→Prop:=fun xs H Q=>zcQ xs H Q∨∃ b:Bool,xs=[.bl b]∧Q (.str (if b then "True" else "False")) H
theorem zuv:zJ X (.type "str") zcE:=by
 intro pins s σ H xs us Q I r h
 rcases h with h|⟨b,rfl,q⟩
 ·exact zuy pins s σ H xs us Q I r h
 ·cases r with
  | cons r1 rr =>
   cases rr
   cases (show _=Value.bool b from r1)
   exact PySem.P.str_of_bool ⟨.str _,H,I.tok _,⟨_,by cases b <;> rfl⟩,q⟩
theorem zvW {i:Int}{H:Hp}{Q:VK}:zcE [.int i] H Q=(i.natAbs.log2<1920∧Q (.str (toString i)) H):=by simp [zcE,zlg]
theorem zqp {z:Str}{H:Hp}{Q:VK}:zcE [.str z] H Q=Q (.str z) H:=by simp [zcE,zlP]
theorem zxm {b:Bool}{H:Hp}{Q:VK}:zcE [.bl b] H Q=Q (.str (if b then "True" else "False")) H:=by simp [zcE,zcQ,zc6]
end
end L2
set_option Elab.async false
set_option linter.all false
set_option maxRecDepth 100000
set_option maxHeartbeats 4000000
namespace L2
open PySem PySem.Spec PyProof.Rows
theorem zqt {c:Bool}{X:Cx}{elt tg iter:Expr}{ifs:List Expr}{sc:Scope}{pos pos' pos0:Pos}{N':List Str}{ix:List (Option Nat)}{wi:TI}{g:TG}{tt:TT}{te:TE}{i0:Nat}{x0:Str} (hN0:X.N.Nodup) (hi0:X.N[i0]?=some x0) (hx0:Loc X.env.scope x0) (hc:c=true→X.calm=true) (L:zaz X sc N' ix) (hi:PIc c X tg iter wi)
  (hg:∀ pins C fp s H,PG (zP X sc N' pins C fp s H) tg g) (ht:∀ pins C fp s H,PTs (zP X sc N' pins C fp s H) ifs tt) (he:∀ pins C fp s H,PE (zP X sc N' pins C fp s H) elt te)
  (hs:∀ x,foldedSetIterable iter X.env x=pure x:=by intro _;rfl) (hsw:swapsWith (.ListComp elt [⟨tg,iter,ifs,0⟩] sc pos) (some (.Name x0 pos')) pos0.line X.env=pure true:=by rfl) (hf0:X.fn x0=true∨X.env.scope.names.lookup x0=some .local:=by first|exact .inl rfl|exact .inr rfl|assumption) :
  PS X (.Assign [.Name x0 pos'] (.ListComp elt [⟨tg,iter,ifs,0⟩] sc pos) pos0) (zc2 (tLC ix wi g tt te) (zbC i0)):=by
 intro pins s σ H Z I h
 rw [exec_Assign_Name_used x0 pos' _ pos0 hsw]
 refine wpAny_bind (wpAny_standAt (wpAny_bind ?_))
 rw [arm_evalThenUse_ListComp]
 have hclos:closureFor sc X.env=pure (zaB X.env.cells sc.names []):=zjS fun y hy hk=>I.ok.has y.1 (.inl (L.free y hy hk).1)
 show wpAny (model X.prog X.w) X.A (comprehension (.ListComp elt [⟨tg,iter,ifs,0⟩] sc pos) sc X.env (firstIterPos [⟨tg,iter,ifs,0⟩] pos) (newList []) (firstAsync [⟨tg,iter,ifs,0⟩]) (firstIter [⟨tg,iter,ifs,0⟩] X.env) (some (assign (.Name x0 pos') X.env))>>=fun _=>pure ()) _ _ _
 refine wpAny_bind ?_
 refine wpAny_comprehension_free (use:=some (assign (.Name x0 pos') X.env)) rfl hs hclos L.kind L.names (thn (hi pins s σ H _ I h) fun v s1 h1=>thn h1 fun itv s2 h2=>?_)
 obtain ⟨it,fp,tn,J,H2,e,I2,T,st2,f2,W,⟨m0,w0⟩,turn⟩:=h2
 subst e
 refine wpAny_newObj_type (wpAny_newFunctionEnv L.cell (by intro y hy;simp at hy) (fun h₁ hns₁ hsb₁=>?_) L.kind)
 dsimp only at hns₁ hsb₁ ⊢
 generalize hH2:s2.heap.push { cls:=.type "list",dict:=none,data:=.seq ([]:List Value).toArray }=G2 at hns₁ hsb₁ ⊢
 have hC:G2.objs.size=s2.heap.objs.size+1:=by rw [← hH2,Heap.size_push]
 have hDC:s2.heap.objs.size≠G2.objs.size:=by rw [hC];exact Nat.ne_of_lt (Nat.lt_succ_self _)
 have hCle:s2.heap.objs.size≤G2.objs.size:=by rw [hC];exact Nat.le_succ _
 have below:∀ b,b<s2.heap.objs.size→b≠G2.objs.size∧b≠s2.heap.objs.size:=fun b hb=>⟨by rw [hC];exact Nat.ne_of_lt (Nat.lt_succ_of_lt hb),Nat.ne_of_lt hb⟩
 have old:∀ b o,s2.heap.get? b=some o→h₁.get? b=some o:=fun b o e=>hsb₁.extBut b o (below b (Heap.lt_size e)).1 (Heap.get?_push_of_some _ (hH2 ▸ Heap.get?_push_of_some _ e))
 have hacc:h₁.get? s2.heap.objs.size=some { cls:=.type "list",data:=.seq ([]:List Value).toArray 0 }:=hsb₁.extBut _ _ hDC (Heap.get?_push_of_some _ (hH2 ▸ Heap.get?_push_size _ rfl))
 have fl:∀ b∈fp,b<s2.heap.objs.size:=fun b hb=>by
  obtain ⟨o,e,_⟩:=T.obj 0 _ st2 b hb
  exact Heap.lt_size e
 have hDfp:s2.heap.objs.size∉fp:=fun z=>Nat.lt_irrefl _ (fl _ z)
 generalize hD:s2.heap.objs.size=D at *
 generalize hCe:G2.objs.size=C at *
 have cof:∀ x c,(zaB X.env.cells sc.names []).lookup x=some c→X.env.cells.lookup x=some c:=fun x c h=>by
  rcases zfK h with h|h
  ·cases h
  ·exact h.1
 have st1:tn 0 h₁:=T.keep _ _ _ st2 fun b _ o e=>old b o e
 have I3:Inv (zP X sc N' pins C fp s2 H2) [] (zbh ix σ) H2 { s2 with heap:=h₁,toks:=s2.toks+([]:List (Str×Value)).length }:=zkJ I2 L f2 (fun b hb=>by rw [hD];exact fl b hb) (by rw [hD];exact hCle) hns₁ old
 have D0:H2 D=none:=I2.hok.fresh (Nat.le_of_eq hD)
 have fD:∀ {H':Hp},H' D=none→zbb (zP X sc N' pins C fp s2 H2) [] H' D:=fun {H'} hn=>by
  refine ⟨hn,hDC,fun z=>?_,.inr (Nat.le_of_eq hD),fun x c hx z=>?_,fun p hp z=>?_⟩
  ·obtain ⟨_,o,ho,_⟩:=I2.stack.mem (show D∈frs X.stack from z)
   exact absurd (Heap.lt_size ho) (by rw [hD];exact Nat.lt_irrefl _)
  ·obtain ⟨v,q⟩:=I2.cell x c (cof x c hx)
   have:=q.lt
   rw [z,hD] at this
   exact Nat.lt_irrefl _ this
  ·have hp':p∈X.pn++pins:=by
    have:p∈(X.pn++pins)++[]:=hp
    simpa using this
   have:=Heap.lt_size (I2.pin p hp').1
   rw [z,hD] at this
   exact Nat.lt_irrefl _ this
 have fF:∀ {H':Hp},(∀ b∈fp,H' b=none)→∀ b∈fp,zbb (zP X sc N' pins C fp s2 H2) [] H' b:=fun {H'} hn b hb=>by
  obtain ⟨_,g1,g2,g3,g4,g5⟩:=f2 b hb
  refine ⟨hn b hb,(below b (fl b hb)).1,fun z=>?_,.inl hb,fun x c hx=>g4 x c (cof x c hx),fun p hp=>g5 p ?_⟩
  ·rcases List.mem_cons.mp (I2.stkSub b z) with e|e
   ·exact g1 e
   ·exact g2 e
  ·have:p∈(X.pn++pins)++[]:=hp
   simpa using this
 have loop:∀ s₃:Shared,s₃={ s2 with heap:=h₁,toks:=s2.toks+([]:List (Str×Value)).length } →
   codeAny (model X.prog X.w) X.A (.compLoop (.ListComp elt [⟨tg,iter,ifs,0⟩] sc pos) 0 (.ref it) (.ref D) (compEnvC sc (zaB X.env.cells sc.names []) C X.env))
    (compPost (model X.prog X.w) X.A X.xe (some (assign (.Name x0 pos') X.env)) (fun _ s'=>wpAny (model X.prog X.w) X.A (pure ()) (fun _ s''=>wpAny (model X.prog X.w) X.A (pure Flow.next) (SP X pins Z) X.xe s'') X.xe s') (.ref D) C) s₃:=by
  rintro s₃ rfl
  refine zkB (fun n s'=>∃ i τ ys H',Inv (zP X sc N' pins C fp s2 H2) [] τ H' s'∧tn i s'.heap∧(∀ b∈fp,H' b=none)∧H' D=none∧(∃ its k,zk ys its∧s'.heap.get? D=some { cls:=.type "list",data:=.seq its.toArray k })∧W i n τ ys H')
   ?_ m0 ⟨0,_,[],H2,I3,st1,fun b hb=>(f2 b hb).1,D0,⟨[],0,.nil,hacc⟩,w0⟩
  rintro n s4 ⟨i,τ,ys,H4,I4,st4,fr4,dn4,⟨its,k,rv,dg⟩,w4⟩
  obtain ⟨hlen,step⟩:=turn i n τ ys H4 w4
  rcases step with ⟨stop,fin⟩|⟨go,step⟩
  ·refine thn (T.done (zP X sc N' pins C fp s2 H2) rfl rfl rfl hc i [(D,({ cls:=.type "list",data:=.seq its.toArray k }:Obj))] s4 τ H4 (fun _ _=>False) (I4.pins_of fun p hp=>?_) (fun b hb=>?_) st4 stop) fun r s5 ⟨hr,I5⟩=>?_
   ·have e:p=(D,{ cls:=.type "list",data:=.seq its.toArray k }):=by simpa using hp
    subst e
    obtain ⟨g0,g1,g2,_⟩:=fD dn4
    exact ⟨dg,g0,g1,g2,fun v z=>(nomatch z)⟩
   ·obtain ⟨g0,g1,g2,g3,g4,g5⟩:=fF fr4 b hb
    refine ⟨g0,g1,g2,g3,g4,fun p hp=>?_⟩
    rcases List.mem_append.mp hp with z|z
    ·exact g5 p (List.mem_append_left _ z)
    ·have e:p=(D,{ cls:=.type "list",data:=.seq its.toArray k }):=by simpa using z
     subst e
     exact fun q=>hDfp (by have q':D=b:=q;rw [q'];exact hb)
   ·subst hr
    have dg5:=(I5.pin (D,_) (List.mem_append_right _ (List.mem_singleton.mpr rfl))).1
    obtain ⟨m5,hn5,_⟩:=id I5.loc
    have hlt:∀ b o,s2.heap.get? b=some o→b≠C∧b≠D:=fun b o e=>by
     have:=Heap.lt_size e
     rw [hD] at this
     exact below b this
    have U:=I5.base
    have IX:Inv X pins σ (upd H4 D (.lst ys)) s5:=by
     refine I2.call' (s':=s5) (ch:=fp) I5.os ⟨fun b o e n hb hx=>U.keep b o e n hb hx,fun b o e n hb hx=>U.slot b o e n hb hx,fun b o e n hx=>?_,fun b o e hx=>U.there b o e hx,fun b xs e=>?_,fun b o u e=>?_,fun b ps e=>?_⟩ ?_ I5.bare (fun b hb=>?_)
     ·rw [ze (hlt b o e).2]
      exact U.free b o e n hx
     ·have q:=U.tups b xs e
      rw [ze (zt q dn4)]
      exact q
     ·have q:=U.frzs b o u e
      rw [ze (zt q dn4)]
      exact q
     ·obtain ⟨more,q⟩:=U.tbls b ps e
      exact ⟨more,by rw [ze (zt q dn4)];exact q⟩
     ·exact I5.hok.add dn4 ⟨Nat.le_of_lt hlen,its,k,rv,dg5⟩
     ·obtain ⟨_,g1,g2,g3,g4,g5⟩:=f2 b hb
      exact ⟨g3,g1,g4,g5⟩
    obtain ⟨oC,esC,epC,gC,rC⟩:=id hn5
    have dataC:∀ v,oC.data≠.cell v:=fun v z=>by rw [rC.1] at z;cases z
    have CneD:C≠D:=Ne.symm hDC
    have HC:upd H4 D (.lst ys) C=none:=by rw [ze CneD];exact I5.free
    have CneL:C≠X.env.locals:=fun z=>by
     have:=I2.lt
     rw [← z,hD] at this
     exact absurd (Nat.lt_of_lt_of_le this hCle) (Nat.lt_irrefl _)
    have Cfs:C∉X.fs:=I2.nofs (by rw [hD];exact hCle)
    have IXp:=IX.pins_of (pins':=pins++[(C,oC)]) fun p hp=>by
     rcases List.mem_append.mp hp with z|z
     ·exact IX.pin p (List.mem_append_right _ z)
     ·rw [List.mem_singleton.mp z]
      exact ⟨gC,HC,CneL,Cfs,dataC⟩
    refine thn (zlp hN0 hi0 hx0 hf0 (pins++[(C,oC)]) s5 σ (upd H4 D (.lst ys)) (.ref D) (.ref D) Z.nx IXp rfl (fin D dn4 (by have h:mainGlobals<s2.heap.objs.size:=(I2.mod.glob.keeps I2.bk).lt;rw [hD] at h;exact Nat.ne_of_gt (Nat.lt_trans (by decide) h)))) fun _ s6 ⟨σ6,H6,I6,q6⟩=>?_
    obtain ⟨p6,p6n,_⟩:=I6.pin (C,oC) (List.mem_append_right _ (List.mem_append_right _ (List.mem_singleton.mpr rfl)))
    refine ⟨m5,⟨oC,esC,epC,p6,rC⟩,fun h' hsb=>wpAny_pure (wpAny_pure ?_)⟩
    have I7:Inv X pins σ6 H6 s6:=I6.pins_of fun p hp=>I6.pin p (List.mem_append_right _ (List.mem_append_left _ hp))
    refine ⟨σ6,H6,I7.turned (t':=s6.toks) (it:=C) (fun b o hb e=>(hsb.2 b hb).trans e) p6n CneL (.inr (Nat.le_trans I2.sz (by rw [hD];exact hCle))) (fun x c hx z=>?_) (fun p hp z=>?_),q6⟩
    ·obtain ⟨v,q⟩:=I2.cell x c hx
     have:=q.lt
     rw [z,hD] at this
     exact absurd (Nat.lt_of_lt_of_le this hCle) (Nat.lt_irrefl _)
    ·have:=Heap.lt_size (I2.pin p hp).1
     rw [z,hD] at this
     exact absurd (Nat.lt_of_lt_of_le this hCle) (Nat.lt_irrefl _)
  ·refine thn (T.item (zP X sc N' pins C fp s2 H2) rfl rfl rfl hc i [(D,({ cls:=.type "list",data:=.seq its.toArray k }:Obj))] s4 τ H4 (fun _ _=>False) (I4.pins_of fun p hp=>?_) (fun b hb=>?_) st4 go) fun r s5 ⟨u,hr,h5⟩=>?_
   ·have e:p=(D,{ cls:=.type "list",data:=.seq its.toArray k }):=by simpa using hp
    subst e
    obtain ⟨g0,g1,g2,_⟩:=fD dn4
    exact ⟨dg,g0,g1,g2,fun v z=>(nomatch z)⟩
   ·obtain ⟨g0,g1,g2,g3,g4,g5⟩:=fF fr4 b hb
    refine ⟨g0,g1,g2,g3,g4,fun p hp=>?_⟩
    rcases List.mem_append.mp hp with z|z
    ·exact g5 p (List.mem_append_left _ z)
    ·have e:p=(D,{ cls:=.type "list",data:=.seq its.toArray k }):=by simpa using z
     subst e
     exact fun q=>hDfp (by have q':D=b:=q;rw [q'];exact hb)
   ·subst hr
    refine thn h5 fun _ s6 ⟨x,H6,I6,r6,y6,st6,fr6⟩=>?_
    obtain ⟨dg6,dn6,_⟩:=I6.pin (D,_) (List.mem_append_right _ (List.mem_singleton.mpr rfl))
    have dn6':H6 D=none:=dn6
    have all6:∀ b∈D::fp,zbb (zP X sc N' pins C fp s2 H2) [] H6 b:=fun b hb=>by
     rcases List.mem_cons.mp hb with z|z
     ·subst z;exact fD dn6'
     ·exact fF fr6 b z
    have obj6:∀ b∈D::fp,∃ o,s6.heap.get? b=some o∧∀ v,o.data≠.cell v:=fun b hb=>by
     rcases List.mem_cons.mp hb with z|z
     ·subst z;exact ⟨_,dg6,fun v q=>(nomatch q)⟩
     ·exact T.obj _ _ st6 b z
    have I6':=(I6.unpinned (pins:=[])).pinned all6 obj6
    refine thn (hg pins C fp s2 H2 _ s6 τ H6 x u _ I6' r6 (step x H6 y6)) fun _ s7 ⟨τ7,H7,I7,q7⟩=>?_
    refine thn (ht pins C fp s2 H2 _ s7 τ7 H7 _ I7 q7) fun ok s8 ⟨H8,I8,q8⟩=>?_
    have back:∀ {s9:Shared}{H9:Hp},Inv (zP X sc N' pins C fp s2 H2) ([]++zdP (D::fp) s6.heap) τ7 H9 s9→s9.heap.get? D=some { cls:=.type "list",data:=.seq its.toArray k }∧H9 D=none∧tn (i+1) s9.heap∧∀ b∈fp,H9 b=none:=fun {s9 H9} I9=>by
     have pin:∀ b o,b∈D::fp→s6.heap.get? b=some o→s9.heap.get? b=some o∧H9 b=none:=fun b o hb e=>by
      have q:=I9.pin (b,o) (List.mem_append_right _ (List.mem_append_right _ (zfe hb e)))
      exact ⟨q.1,q.2.1⟩
     refine ⟨(pin D _ List.mem_cons_self dg6).1,(pin D _ List.mem_cons_self dg6).2,T.keep _ _ _ st6 fun b hb o e=>(pin b o (List.mem_cons_of_mem _ hb) e).1,fun b hb=>?_⟩
     obtain ⟨o,e,_⟩:=T.obj _ _ st6 b hb
     exact (pin b o (List.mem_cons_of_mem _ hb) e).2
    cases ok with
    | false =>
     obtain ⟨b1,b2,b3,b4⟩:=back I8
     simp only [Bool.false_eq_true,if_false] at q8 ⊢
     obtain ⟨m',hm,w'⟩:=q8
     exact ⟨m',hm,i+1,τ7,ys,H8,I8.unpinned,b3,b4,b2,⟨its,k,rv,b1⟩,w'⟩
    | true =>
     simp only [if_true] at q8 ⊢
     refine thn (he pins C fp s2 H2 _ s8 τ7 H8 _ I8 q8) fun y s9 ⟨yv,H9,I9,r9,m',hm,w'⟩=>?_
     obtain ⟨b1,b2,b3,b4⟩:=back I9
     have el:its.toArray.size≤sizeLine:=by
      have:=rv.length
      simp only [List.size_toArray]
      omega
     refine append_at (hsz:=el) b1 fun h10 sb hD10=>?_
     obtain ⟨_,g1,_,g3,g4,g5⟩:=fD b2
     refine ⟨m',hm,i+1,τ7,ys++[yv],H9,(I9.unpinned (pins:=[])).turned (t':=s9.toks) (fun b o hb e=>(sb.2 b hb).trans e) b2 g1 g3 g4 g5,T.keep _ _ _ b3 fun b hb o e=>(sb.2 b fun q=>hDfp (by rw [← q];exact hb)).trans e,b4,b2,⟨its++[y],k+1,rv.append (.cons r9 .nil),?_⟩,w'⟩
     show h10.get? D=_
     rw [hD10]
     simp
 exact codeAny_compStart_list (loop _ rfl) (T.self _ 0 _ _ _ st1 (loop _ rfl))
theorem ze8 {c:Bool}{X:Cx}{elt tg iter:Expr}{ifs:List Expr}{sc:Scope}{pos pos' pos0:Pos}{N':List Str}{ix:List (Option Nat)}{wi:TI}{g:TG}{tt:TT}{te:TE}{i0:Nat}{x0:Str} (hN0:X.N.Nodup) (hi0:X.N[i0]?=some x0) (hx0:Loc X.env.scope x0) (hc:c=true→X.calm=true) (L:zaz X sc N' ix) (hi:W (PIc c X tg iter wi))
  (hg:∀ pins C fp s H,W (PG (zP X sc N' pins C fp s H) tg g)) (ht:∀ pins C fp s H,W (PTs (zP X sc N' pins C fp s H) ifs tt)) (he:∀ pins C fp s H,W (PE (zP X sc N' pins C fp s H) elt te))
  (hs:∀ x,foldedSetIterable iter X.env x=pure x:=by intro _;rfl) (hsw:swapsWith (.ListComp elt [⟨tg,iter,ifs,0⟩] sc pos) (some (.Name x0 pos')) pos0.line X.env=pure true:=by rfl) (hf0:X.fn x0=true∨X.env.scope.names.lookup x0=some .local:=by first|exact .inl rfl|exact .inr rfl|assumption) :
  W (PS X (.Assign [.Name x0 pos'] (.ListComp elt [⟨tg,iter,ifs,0⟩] sc pos) pos0) (zc2 (tLC ix wi g tt te) (zbC i0))) :=
 ⟨zqt hN0 hi0 hx0 hc L hi.h (fun a b c d e=>(hg a b c d e).h) (fun a b c d e=>(ht a b c d e).h) (fun a b c d e=>(he a b c d e).h) hs hsw hf0⟩
end L2
set_option Elab.async false
set_option linter.all false
set_option maxRecDepth 100000
set_option maxHeartbeats 4000000
namespace L2
open PySem PySem.Spec PyProof.Rows
section
variable {κ:Type} [DecidableEq κ]
def zat (kvs:List (κ×V)) (k:κ):Option V:=(kvs.find? fun kv=>decide (kv.1=k)).map (·.2)
def zcM (kvs:List (κ×V)) (k:κ) (v:V):List (κ×V) :=
 if (kvs.any fun kv=>decide (kv.1=k))=true then kvs.map (fun kv=>if kv.1=k then (kv.1,v) else kv) else kvs++[(k,v)]
def zfd (kvs:List (κ×V)) (k:κ):List (κ×V):=kvs.filter fun kv=>decide (kv.1≠k)
theorem zbf.getD {o:Option V}{u:Option Value}{d:V}{d':Value} (r:zbf o u) (rd:zi d d'):zi (o.getD d) (u.getD d'):=by
 cases o with
 | none=>cases u with
  | none=>exact rd
  | some _=>exact (show False from r).elim
 | some _=>cases u with
  | none=>exact (show False from r).elim
  | some _=>exact r
theorem KV.any {kvs:List (κ×V)}{vs:List (κ×Value)} (r:KV kvs vs) (k:κ):(kvs.any fun kv=>decide (kv.1=k))=vs.any fun kv=>decide (kv.1=k):=by
 unfold KV at r
 induction r with
 | nil=>rfl
 | cons h t ih=>rw [List.any_cons,List.any_cons,ih,h.1]
theorem KV.length {kvs:List (κ×V)}{vs:List (κ×Value)} (r:KV kvs vs):kvs.length=vs.length:=Paired.length r
end
section
variable {P:Program}{w:World}{H:Hp}{h:Heap}{a:Addr}
end
def zgs (H:Hp) (a:Addr) (y:V) (r:Option V):Prop :=
 (∃ kvs k,Rd H a (.dK kvs)∧y=kV k∧r=zat kvs k)∨∃ kvs k b,Rd H a (.dT kvs)∧y = .ref b∧H b=some (.tup (k.map kV))∧r=zat kvs k
def zft (H:Hp) (a:Addr) (y v:V) (H':Hp):Prop :=
 (∃ kvs k,H a=some (.dK kvs)∧y=kV k∧kvs.length<sizeLine∧H'=upd H a (.dK (zcM kvs k v))) ∨
 ∃ kvs k b,H a=some (.dT kvs)∧y = .ref b∧H b=some (.tup (k.map kV))∧kvs.length<sizeLine∧H'=upd H a (.dT (zcM kvs k v))
theorem zgs.k {H:Hp}{a:Addr}{kvs:List (Key×V)}{k:Key} (e:H a=some (.dK kvs)):zgs H a (kV k) (zat kvs k):=.inl ⟨kvs,k,.inl e,rfl,rfl⟩
theorem zgs.t {H:Hp}{a b:Addr}{kvs:List (List Key×V)}{k:List Key} (e:H a=some (.dT kvs)) (eb:H b=some (.tup (k.map kV))):zgs H a (.ref b) (zat kvs k):=.inr ⟨kvs,k,b,.inl e,rfl,eb,rfl⟩
theorem zft.k {H:Hp}{a:Addr}{kvs:List (Key×V)}{k:Key}{v:V} (e:H a=some (.dK kvs)) (hl:kvs.length<sizeLine):zft H a (kV k) v (upd H a (.dK (zcM kvs k v))):=.inl ⟨kvs,k,e,rfl,hl,rfl⟩
theorem zft.t {H:Hp}{a b:Addr}{kvs:List (List Key×V)}{k:List Key}{v:V} (e:H a=some (.dT kvs)) (eb:H b=some (.tup (k.map kV))) (hl:kvs.length<sizeLine) :
  zft H a (.ref b) v (upd H a (.dT (zcM kvs k v))):=.inr ⟨kvs,k,b,e,rfl,eb,hl,rfl⟩
section
variable {X:Cx}{pins:List (Addr×Obj)}{σ:St}{H:Hp}{s:Shared}{a:Addr}{y v:V}{u r:Value}{o:Option V}{A:Around}{E:Value→Shared→Prop}
end
section
variable {X:Cx}{pins:List (Addr×Obj)}{σ:St}{H:Hp}{s:Shared}{a:Addr}{kvs:List (Key×V)}{k:Key}{u:Value}{A:Around}{E:Value→Shared→Prop}
end
section
variable {X:Cx}{o i e value:Expr}{pos pos' tpos:Pos}{td ty tv:TE}
end
section
variable {X:Cx}{pos:Pos}
end
section
variable {X:Cx}{pins:List (Addr×Obj)}{σ:St}{H:Hp}{s:Shared}{a:Addr}{y d:V}{u r:Value}{o:Option V}{A:Around}{E:Value→Shared→Prop}
end
section
variable {X:Cx}{o e f:Expr}{apos cpos:Pos}{td ty tx:TE}
end
section
variable {X:Cx}{pins:List (Addr×Obj)}{σ:St}{H:Hp}{s:Shared}{a:Addr}{kvs:List (Key×V)}{A:Around}{E:Value→Shared→Prop}
end
section
variable {X:Cx}{pins:List (Addr×Obj)}{σ:St}{H:Hp}{s:Shared}{a:Addr}{y:V}{u:Value}{A:Around}{E:Value→Shared→Prop}
end
section
variable {X:Cx}
end
section
variable {κ:Type} [DecidableEq κ]
end
end L2
set_option Elab.async false
set_option linter.all false
set_option maxRecDepth 100000
set_option maxHeartbeats 4000000
namespace L2
open PySem PySem.Spec PyProof.Rows
section
variable {X:Cx}{pins:List (Addr×Obj)}{σ:St}{H:Hp}{s:Shared}{a:Addr}{o:Obj}{kvs:List (Key×V)}
theorem Inv.swap {o1 o2:HO} (I:Inv X pins σ H s) (e:H a=some o1) (h1:∀ x,o1≠.own x) (h2:∀ xs,o1≠.tup xs) (h3:∀ ob,o1≠.frz ob (.own 0)) (h4:∀ ps,o1≠.tbl ps) (h5:∀ ob u,X.H₀ a≠some (.frz ob u))
  (new:∀ H',zY X.prog X.w H' s.heap a o2):Inv X pins σ (upd H a o2) s:=by
 have ne:∀ b,H b=none→b≠a:=fun b n z=>by subst z;rw [e] at n;cases n
 have kn:∀ b,H b=none→upd H a o2 b=none:=fun b n=>by rw [ze (ne b n)];exact n
 refine ⟨I.ok,I.os,I.bare,⟨I.base.keep,I.base.slot,fun b ob q n hx=>kn b (I.base.free b ob q n hx),I.base.there,fun b xs q=>?_,fun b ob u q=>?_,fun b ps q=>?_⟩,I.loc,I.cell,kn _ I.free,fun x c q=>kn c (I.freeC x c q),fun p hp=>?_,fun b u q=>?_,I.len,?_⟩
 ·have z:=I.base.tups b xs q
  rw [ze (fun y=>by subst y;rw [e] at z;cases z;exact h2 _ rfl)];exact z
 ·by_cases hb:b=a
  ·subst hb;exact absurd q (h5 ob u)
  ·rw [ze hb];exact I.base.frzs b ob u q
 ·obtain ⟨more,z⟩:=I.base.tbls b ps q
  exact ⟨more,by rw [ze (fun y=>by subst y;rw [e] at z;cases z;exact h4 _ rfl)];exact z⟩
 ·obtain ⟨p1,p2,p3⟩:=I.pin p hp
  exact ⟨p1,kn _ p2,p3⟩
 ·by_cases hb:b=a
  ·subst hb;rw [zF] at q;cases q;exact new _
  ·rw [ze hb] at q
   exact (I.hok b u q).stay (fun c z _ y=>y) (fun c z=>by rw [ze (fun y=>by subst y;rw [e] at z;cases z;exact h1 _ rfl)];exact z) (fun c xs z=>by rw [ze (fun y=>by subst y;rw [e] at z;cases z;exact h2 _ rfl)];exact z)
 ·rcases I.hdk with z|⟨b,ob,vs,q1,q2,q3⟩
  ·exact .inl z
  ·exact .inr ⟨b,ob,vs,q1,by rw [ze (fun y=>by subst y;rw [e] at q2;cases q2;exact h3 _ rfl)];exact q2,q3⟩
theorem Inv.thaw (I:Inv X pins σ H s) (e:H a=some (.frz o (.dK kvs))) (h5:∀ ob u,X.H₀ a≠some (.frz ob u)):Inv X pins σ (upd H a (.dK kvs)) s:=by
 obtain ⟨ho,z⟩:=I.hok a _ e
 exact I.swap e (fun _ q=>nomatch q) (fun _ q=>nomatch q) (fun _ q=>by injection q with _ q;cases q) (fun _ q=>nomatch q) h5 fun H'=>z
end
def zdH (a:Addr) (kvs:List (Key×V)) (H:Hp) (R:Hp→Prop):Prop:=∃ o,H a=some (.frz o (.dK kvs))∧R (upd H a (.dK kvs))
def zaq.thaw (D:zaq) (a:Addr) (kvs:List (Key×V)):zaq:=⟨fun σ H=>zdH a kvs H (D.nx σ),fun v H=>zdH a kvs H (D.rt v),fun σ H=>zdH a kvs H (D.bk σ),fun σ H=>zdH a kvs H (D.ct σ)⟩
def tFz (t:TS):TS:=fun D σ H=>∃ a kvs,H a=some (.dK kvs)∧∀ o,t (D.thaw a kvs) σ (upd H a (.frz o (.dK kvs)))
def zu3 (t:TE):TE:=fun σ H Q=>∃ a kvs,H a=some (.dK kvs)∧∀ o,t σ (upd H a (.frz o (.dK kvs))) fun v H'=>zdH a kvs H' (Q v)
theorem KV.at {kvs:List (Key×V)}{vs:List (Key×Value)} (r:KV kvs vs):∀ {i:Nat}{p:Key×V},kvs[i]?=some p→∃ u,vs[i]?=some (p.1,u)∧zi p.2 u:=by
 induction r with
 | nil=>intro i p h;simp at h
 | @cons x y l m r t ih =>
  intro i p h
  cases i with
  | zero =>
   have e:x=p:=by simpa using h
   subst e
   exact ⟨y.2,by rw [r.1];rfl,r.2⟩
  | succ i=>exact ih (by simpa using h)
def Itd (a:Addr) (o:Obj) (kvs:List (Key×V)):It:=⟨fun i H=>H a=some (.frz o (.dK kvs))∧i<kvs.length,fun i H x H'=>H'=H∧∃ p,kvs[i]?=some p∧x=kV p.1,fun i H=>H a=some (.frz o (.dK kvs))∧kvs.length≤i⟩
def Itw (a:Addr) (o:Obj) (kvs:List (Key×V)):It:=⟨fun i H=>H a=some (.frz o (.dK kvs))∧i<kvs.length,fun i H x H'=>H'=H∧∃ p,kvs[i]?=some p∧x=p.2,fun i H=>H a=some (.frz o (.dK kvs))∧kvs.length≤i⟩
section
variable {X:Cx}{tg:Expr}
def zjB (tl:TE):TI:=fun σ H R=>tl σ H fun x H1=>∃ a o kvs,x = .ref a∧H1 a=some (.frz o (.dK kvs))∧R (Itd a o kvs) H1
def zj3 (tl:TE):TI:=fun σ H R=>tl σ H fun x H1=>∃ a o kvs,x = .ref a∧H1 a=some (.frz o (.dK kvs))∧R (Itw a o kvs) H1
end
end L2
set_option Elab.async false
set_option linter.all false
set_option maxRecDepth 100000
set_option maxHeartbeats 4000000
namespace L2
open PySem PySem.Spec PyProof.Rows
def uK (y:V) (q:Key→Prop):Prop:=∃ k,y=kV k∧q k
theorem zxp {z:Str}{q:Key→Prop}:uK (.str z) q=q (.inr z):=by
 apply propext;constructor
 ·rintro ⟨k,e,h⟩
  cases k with
  | inl i=>cases e
  | inr x=>cases e;exact h
 ·exact fun h=>⟨.inr z,rfl,h⟩
theorem zwI {i:Int}{q:Key→Prop}:uK (.int i) q=q (.inl i):=by
 apply propext;constructor
 ·rintro ⟨k,e,h⟩
  cases k with
  | inl i=>cases e;exact h
  | inr x=>cases e
 ·exact fun h=>⟨.inl i,rfl,h⟩
section
variable {X:Cx}
def zj7:R2:=fun x y H Q=>∃ a k kvs v,x = .ref a∧y=kV k∧Rd H a (.dK kvs)∧zat kvs k=some v∧Q v H
def zgq:R2:=fun x y H Q=>uIx x y H Q∨zj7 x y H Q
theorem zwu {a:Addr}{z:Str}{H:Hp}{Q:VK}:zgq (.ref a) (.str z) H Q = ∃ kvs,Rd H a (.dK kvs)∧∃ v,zat kvs (.inr z)=some v∧Q v H:=by
 apply propext;constructor
 ·rintro (h|⟨a',k,kvs,v,e1,e2,h1,h2,q⟩)
  ·rcases h with ⟨_,_,_,_,_,e,_⟩|⟨_,_,_,_,_,e,_⟩|⟨_,_,_,e,_⟩ <;> cases e
  ·cases e1
   cases k with
   | inl i=>cases e2
   | inr x=>cases e2;exact ⟨kvs,h1,v,h2,q⟩
 ·rintro ⟨kvs,h1,v,h2,q⟩
  exact .inr ⟨a,.inr z,kvs,v,rfl,rfl,h1,h2,q⟩
theorem zrX {a:Addr}{i:Int}{H:Hp}{Q:VK}:zgq (.ref a) (.int i) H Q=((∃ xs,(H a=some (.lst xs)∨H a=some (.tup xs))∧∃ v,atI xs i=some v∧Q v H)∨∃ kvs,Rd H a (.dK kvs)∧∃ v,zat kvs (.inl i)=some v∧Q v H):=by
 apply propext
 unfold zgq
 rw [zdq]
 constructor
 ·rintro (h|⟨a',k,kvs,v,e1,e2,h1,h2,q⟩)
  ·exact .inl h
  ·cases e1
   cases k with
   | inl i=>cases e2;exact .inr ⟨kvs,h1,v,h2,q⟩
   | inr x=>cases e2
 ·rintro (h|⟨kvs,h1,v,h2,q⟩)
  ·exact .inl h
  ·exact .inr ⟨a,.inl i,kvs,v,rfl,rfl,h1,h2,q⟩
theorem zqW {x:Str}{i:Int}{H:Hp}{Q:VK}:zgq (.str x) (.int i) H Q=(x.length≤sizeLine∧∃ c,atI x.cps.toList i=some c∧Q (.str ⟨#[c]⟩) H):=by
 rw [← zgO]
 apply propext;constructor
 ·rintro (h|⟨a',k,kvs,v,e1,_⟩)
  ·exact h
  ·cases e1
 ·exact .inl
def zhQ (c:Bool):R2:=fun y x H Q=>∃ a k kvs,x = .ref a∧y=kV k∧Rd H a (.dK kvs)∧Q (.bl (if c then !(zat kvs k).isSome else (zat kvs k).isSome)) H
def zhM:R2:=fun x y H Q=>uIn x y H Q∨zhQ false x y H Q
theorem zws {x y:Str}{H:Hp}{Q:VK}:zhM (.str x) (.str y) H Q=Q (.bl (!(Builtin.Str.occurrences y x 0 y.length 1).isEmpty)) H:=by
 rw [← zk2 (x:=x) (y:=y) (H:=H) (Q:=Q)]
 apply propext;constructor
 ·rintro (h|⟨a,k,kvs,e,_⟩)
  ·exact h
  ·cases e
 ·exact .inl
theorem zoO {x:Str}{p:Addr}{H:Hp}{Q:VK}:zhM (.str x) (.ref p) H Q=((∃ xs,(H p=some (.lst xs)∨H p=some (.tup xs))∧xs.all zS=true∧Q (.bl (inV (.str x) xs)) H)∨∃ kvs,Rd H p (.dK kvs)∧Q (.bl (zat kvs (.inr x)).isSome) H):=by
 apply propext
 unfold zhM
 rw [zj2]
 constructor
 ·rintro (⟨xs,h,_,f,q⟩|⟨a,k,kvs,e1,e2,h,q⟩)
  ·exact .inl ⟨xs,h,f,q⟩
  ·cases e1
   cases k with
   | inl i=>cases e2
   | inr x=>cases e2;exact .inr ⟨kvs,h,q⟩
 ·rintro (⟨xs,h,f,q⟩|⟨kvs,h,q⟩)
  ·exact .inl ⟨xs,h,rfl,f,q⟩
  ·exact .inr ⟨p,.inr x,kvs,rfl,rfl,h,q⟩
theorem znK {c:Bool}{x:Str}{p:Addr}{H:Hp}{Q:VK}:zhQ c (.str x) (.ref p) H Q = ∃ kvs,Rd H p (.dK kvs)∧Q (.bl (if c then !(zat kvs (.inr x)).isSome else (zat kvs (.inr x)).isSome)) H:=by
 apply propext;constructor
 ·rintro ⟨a,k,kvs,e1,e2,h,q⟩
  cases e1
  cases k with
  | inl i=>cases e2
  | inr x=>cases e2;exact ⟨kvs,h,q⟩
 ·rintro ⟨kvs,h,q⟩;exact ⟨p,.inr x,kvs,rfl,rfl,h,q⟩
def ziO:List V→Hp→VK→Prop:=fun xs H Q=>zeH xs H Q∨∃ a kvs,xs=[V.ref a]∧Rd H a (.dK kvs)∧Q (.int kvs.length) H
theorem zuj {a:Addr}{H:Hp}{Q:VK}:ziO [.ref a] H Q=((∃ ys,(H a=some (.lst ys)∨H a=some (.tup ys))∧Q (.int ys.length) H)∨∃ kvs,Rd H a (.dK kvs)∧Q (.int kvs.length) H):=by
 apply propext
 unfold ziO
 rw [zg6]
 constructor
 ·rintro (h|⟨a,kvs,e,h⟩)
  ·exact .inl h
  ·cases e;exact .inr ⟨kvs,h⟩
 ·rintro (h|⟨kvs,h⟩)
  ·exact .inl h
  ·exact .inr ⟨a,kvs,rfl,h⟩
theorem zrz {x:Str}{H:Hp}{Q:VK}:ziO [.str x] H Q=(x.length≤sizeLine∧Q (.int x.length) H):=by
 rw [← zkx]
 apply propext;constructor
 ·rintro (h|⟨a,kvs,e,h⟩)
  ·exact h
  ·cases e
 ·exact .inl
def zg1:V→V→V→Hp→(Hp→Prop)→Prop:=fun o i v H Q=>zhu o i v H Q∨∃ a k kvs,o = .ref a∧i=kV k∧H a=some (.dK kvs)∧kvs.length<sizeLine∧Q (upd H a (.dK (zcM kvs k v)))
theorem zsp {a:Addr}{z:Str}{v:V}{H:Hp}{Q:Hp→Prop}:zg1 (.ref a) (.str z) v H Q = ∃ kvs,H a=some (.dK kvs)∧kvs.length<sizeLine∧Q (upd H a (.dK (zcM kvs (.inr z) v))):=by
 apply propext;constructor
 ·rintro (⟨_,_,_,_,_,e,_⟩|⟨a',k,kvs,e1,e2,h,l,q⟩)
  ·cases e
  ·cases e1
   cases k with
   | inl i=>cases e2
   | inr x=>cases e2;exact ⟨kvs,h,l,q⟩
 ·rintro ⟨kvs,h,l,q⟩;exact .inr ⟨a,.inr z,kvs,rfl,rfl,h,l,q⟩
theorem zrf {a:Addr}{i:Int}{v:V}{H:Hp}{Q:Hp→Prop}:zg1 (.ref a) (.int i) v H Q=((∃ xs j,H a=some (.lst xs)∧ixN xs.length i=some j∧Q (upd H a (.lst (xs.set j v))))∨∃ kvs,H a=some (.dK kvs)∧kvs.length<sizeLine∧Q (upd H a (.dK (zcM kvs (.inl i) v)))):=by
 apply propext
 unfold zg1
 rw [zl7]
 constructor
 ·rintro (h|⟨a',k,kvs,e1,e2,h,l,q⟩)
  ·exact .inl h
  ·cases e1
   cases k with
   | inl i=>cases e2;exact .inr ⟨kvs,h,l,q⟩
   | inr x=>cases e2
 ·rintro (h|⟨kvs,h,l,q⟩)
  ·exact .inl h
  ·exact .inr ⟨a,.inl i,kvs,rfl,rfl,h,l,q⟩
def zqS (td ty:TE):TS:=fun D σ H=>td σ H fun x H1=>ty σ H1 fun y H2=>uR x fun a=>uK y fun k=>∃ kvs,H2 a=some (.dK kvs)∧(zat kvs k).isSome=true∧D.nx σ (upd H2 a (.dK (zfd kvs k)))
theorem zmW {td ty:TE}{D:zaq}{σ:St}{H:Hp}:zqS td ty D σ H=td σ H fun x H1=>ty σ H1 fun y H2=>uR x fun a=>uK y fun k=>∃ kvs,H2 a=some (.dK kvs)∧(zat kvs k).isSome=true∧D.nx σ (upd H2 a (.dK (zfd kvs k))):=rfl
def zxd (td ty tx:TE):TE:=fun σ H Q=>td σ H fun x H1=>uR x fun a=>(∃ kvs,Rd H1 a (.dK kvs))∧ty σ H1 fun y H2=>tx σ H2 fun z H3=>uK y fun k=>∃ kvs,Rd H3 a (.dK kvs)∧Q ((zat kvs k).getD z) H3
theorem zmr {td ty tx:TE}{σ:St}{H:Hp}{Q:VK}:zxd td ty tx σ H Q=td σ H fun x H1=>uR x fun a=>(∃ kvs,Rd H1 a (.dK kvs))∧ty σ H1 fun y H2=>tx σ H2 fun z H3=>uK y fun k=>∃ kvs,Rd H3 a (.dK kvs)∧Q ((zat kvs k).getD z) H3:=rfl
def zua (td ty:TE):TE:=fun σ H Q=>td σ H fun x H1=>uR x fun a=>(∃ kvs,Rd H1 a (.dK kvs))∧ty σ H1 fun y H2=>uK y fun k=>∃ kvs,H2 a=some (.dK kvs)∧∃ v,zat kvs k=some v∧Q v (upd H2 a (.dK (zfd kvs k)))
theorem zpK {td ty:TE}{σ:St}{H:Hp}{Q:VK}:zua td ty σ H Q=td σ H fun x H1=>uR x fun a=>(∃ kvs,Rd H1 a (.dK kvs))∧ty σ H1 fun y H2=>uK y fun k=>∃ kvs,H2 a=some (.dK kvs)∧∃ v,zat kvs k=some v∧Q v (upd H2 a (.dK (zfd kvs k))):=rfl
end
end L2
set_option Elab.async false
set_option linter.all false
set_option maxRecDepth 100000
set_option maxHeartbeats 4000000
namespace L2
open PySem PySem.Spec PyProof.Rows PySem.W PySem.Calls
open Classical in
noncomputable def zlB (ks:List Str):List Str:=if h:∃ ss:List Str,ss.Perm ks∧sortedS ss=true then h.choose else ks
section
variable {X:Cx}
def zoL:List V→Hp→VK→Prop:=fun xs H Q=>uR1 xs fun a=>∃ kvs,Rd H a (.dK kvs)∧∀ p H2,New H p (.dK kvs) H2→Q (.ref p) H2
theorem zuU {a:Addr}{H:Hp}{Q:VK}:zoL [.ref a] H Q = ∃ kvs,Rd H a (.dK kvs)∧∀ p H2,New H p (.dK kvs) H2→Q (.ref p) H2:=zcx
def sk (kvs:List (Str×V)):List (Key×V):=kvs.map fun p=>(.inr p.1,p.2)
def zwN:List V→Hp→VK→Prop:=fun xs H Q=>uR1 xs fun a=>∃ kvs:List (Str×V),Rd H a (.dK (sk kvs))∧kvs.length<64∧∀ p H2,New H p (.lst ((zlB (kvs.map (·.1))).map V.str)) H2→Q (.ref p) H2
theorem ztc {a:Addr}{H:Hp}{Q:VK}:zwN [.ref a] H Q = ∃ kvs:List (Str×V),Rd H a (.dK (sk kvs))∧kvs.length<64∧∀ p H2,New H p (.lst ((zlB (kvs.map (·.1))).map V.str)) H2→Q (.ref p) H2:=zcx
def ztd (to:TE):TE:=fun σ H Q=>to σ H fun x H1=>uR x fun a=>∃ kvs,Rd H1 a (.dK kvs)∧∀ v H2,New H1 v (.ext fun h=>h.IsValuesView v a) H2→Q (.ref v) H2
theorem znL {to:TE}{σ:St}{H:Hp}{Q:VK}:ztd to σ H Q=to σ H fun x H1=>uR x fun a=>∃ kvs,Rd H1 a (.dK kvs)∧∀ v H2,New H1 v (.ext fun h=>h.IsValuesView v a) H2→Q (.ref v) H2:=rfl
def zmX:List V→Hp→VK→Prop:=fun xs H Q=>uR1 xs fun v=>∃ a kvs,H v=some (.ext fun h=>h.IsValuesView v a)∧Rd H a (.dK kvs)∧∀ p H2,New H p (.lst (kvs.map (·.2))) H2→Q (.ref p) H2
theorem ztY {v:Addr}{H:Hp}{Q:VK}:zmX [.ref v] H Q = ∃ a kvs,H v=some (.ext fun h=>h.IsValuesView v a)∧Rd H a (.dK kvs)∧∀ p H2,New H p (.lst (kvs.map (·.2))) H2→Q (.ref p) H2:=zcx
end
end L2
set_option Elab.async false
set_option linter.all false
set_option maxRecDepth 100000
set_option maxHeartbeats 4000000
namespace HT
open PySem PySem.Spec PyProof.Rows PySem.Calls
section
variable {prog:Program}{w:World}{A:Around}{E:Value→Shared→Prop}{s:Shared}
end
end HT
namespace L2
open PySem PySem.Spec PyProof.Rows PySem.W PySem.Calls
section
variable {X:Cx}
def zfn:V→Option Int→Option Int→Hp→VK→Prop:=fun x lo hi H Q=>uSl x lo hi H Q∨∃ a xs,x = .ref a∧H a=some (.tup xs)∧∀ p H2,zl H H2→H2 p=some (.tup (za7 xs lo hi))→Q (.ref p) H2
theorem zpu {z:Str}{lo hi:Option Int}{H:Hp}{Q:VK}:zfn (.str z) lo hi H Q=(z.length≤sizeLine∧Q (.str (Txt.slice z lo hi)) H):=by simp [zfn,zkE]
theorem zmq {a:Addr}{lo hi:Option Int}{H:Hp}{Q:VK}:zfn (.ref a) lo hi H Q=((∃ xs,H a=some (.lst xs)∧∀ p H2,New H p (.lst (za7 xs lo hi)) H2→Q (.ref p) H2)∨∃ xs,H a=some (.tup xs)∧∀ p H2,zl H H2→H2 p=some (.tup (za7 xs lo hi))→Q (.ref p) H2):=by
 unfold zfn
 rw [zhA]
 apply propext;constructor
 ·rintro (h|⟨a',xs,e,h⟩)
  ·exact .inl h
  ·cases e;exact .inr ⟨xs,h⟩
 ·rintro (h|⟨xs,h⟩)
  ·exact .inl h
  ·exact .inr ⟨a,xs,rfl,h⟩
def zgc:R2:=fun x y H Q=>∃ a b xs ys,x = .ref a∧y = .ref b∧H a=some (.tup xs)∧H b=some (.tup ys)∧xs.length+ys.length≤sizeLine∧∀ p H2,zl H H2→H2 p=some (.tup (xs++ys))→Q (.ref p) H2
def zdn:R2:=fun x y H Q=>za8 x y H Q∨zgc x y H Q
theorem zwC {i j:Int}{H:Hp}{Q:VK}:zdn (.int i) (.int j) H Q=Q (.int (i+j)) H:=by simp [zdn,zgc,za8]
theorem zuR {i j:Str}{H:Hp}{Q:VK}:zdn (.str i) (.str j) H Q=(i.length+j.length≤sizeLine∧Q (.str (i++j)) H):=by simp [zdn,zgc,za8]
theorem zoP {a b:Addr}{H:Hp}{Q:VK}:zdn (.ref a) (.ref b) H Q=((∃ xs zs,H a=some (.lst xs)∧H b=some (.lst zs)∧xs.length+zs.length≤sizeLine∧∀ p H2,New H p (.lst (xs++zs)) H2→Q (.ref p) H2) ∨
  ∃ xs ys,H a=some (.tup xs)∧H b=some (.tup ys)∧xs.length+ys.length≤sizeLine∧∀ p H2,zl H H2→H2 p=some (.tup (xs++ys))→Q (.ref p) H2):=by
 unfold zdn
 rw [zcS]
 apply propext;constructor
 ·rintro (h|⟨a',b',xs,ys,e1,e2,h⟩)
  ·exact .inl h
  ·cases e1;cases e2;exact .inr ⟨xs,ys,h⟩
 ·rintro (h|⟨xs,ys,h⟩)
  ·exact .inl h
  ·exact .inr ⟨a,b,xs,ys,rfl,rfl,h⟩
def zjt:List V→Hp→VK→Prop:=fun xs H Q=>∃ i j,xs=[.int i,.int j]∧(0<j∧j<2 ^ 64)∧∀ p H2,New H p (.tup [.int (i / j),.int (i % j)]) H2→Q (.ref p) H2
theorem zvE {i j:Int}{H:Hp}{Q:VK}:zjt [.int i,.int j] H Q=((0<j∧j<2 ^ 64)∧∀ p H2,New H p (.tup [.int (i / j),.int (i % j)]) H2→Q (.ref p) H2):=by
 apply propext;constructor
 ·rintro ⟨i',j',e,h⟩;cases e;exact h
 ·exact fun h=>⟨i,j,rfl,h⟩
theorem zrp:zJ X (.builtin "divmod") zjt:=by
 intro pins s σ H xs us Q I r h
 obtain ⟨i,j,rfl,⟨h1,h2⟩,q⟩:=h
 obtain ⟨u,w',rfl,⟨t,rfl⟩,⟨t',rfl⟩⟩:=zg5 r
 have hlog:j.natAbs.log2<9000:=by
  have:j.natAbs.log2<64:=(Nat.log2_lt (by omega)).mpr (by omega)
  omega
 refine divmod_int (by omega) ?_ (.inl (PyProof.noPylong_of_log2 hlog))
 rw [Int.fdiv_eq_ediv_of_nonneg i (by omega),Int.fmod_eq_emod_of_nonneg i (by omega)]
 have hn:H s.heap.objs.size=none:=I.hok.fresh (Nat.le_refl _)
 refine ⟨.ref s.heap.objs.size,_,?_,rfl,q _ _ (.mk' hn)⟩
 refine I.laid (fun b o e=>Heap.get?_push_of_some _ e) (Nat.le_refl _) ⟨by simp only [List.length_cons,List.length_nil];rw [sizeLine_eq];decide,[.int (i / j) s.toks,.int (i % j) (s.toks+1)],.cons ⟨_,rfl⟩ (.cons ⟨_,rfl⟩ .nil),?_⟩
 exact ⟨_,Heap.get?_push_size s.heap rfl,rfl,0,rfl⟩
def zfE:R2:=fun x y H Q=>rI0 (fun i j=>.bl (decide (i≤j))) x y H Q∨∃ i j,x = .str i∧y = .str j∧Q (.bl (!decide (j.cps.toList<i.cps.toList))) H
theorem zv1 {i j:Int}{H:Hp}{Q:VK}:zfE (.int i) (.int j) H Q=Q (.bl (decide (i≤j))) H:=by simp [zfE,rI0]
theorem zrk {i j:Str}{H:Hp}{Q:VK}:zfE (.str i) (.str j) H Q=Q (.bl (!decide (j.cps.toList<i.cps.toList))) H:=by simp [zfE,rI0]
def zuC:TS:=fun _ _ _=>False
def zhH (to te:TE):TE:=fun σ H Q=>to σ H fun x H1=>uR x fun l=>(∃ xs,H1 l=some (.lst xs))∧te σ H1 fun y H2=>uR y fun b=>∃ xs zs,H2 l=some (.lst xs)∧H2 b=some (.lst zs)∧xs.length+zs.length≤sizeLine∧Q .non (upd H2 l (.lst (xs++zs)))
theorem ztq {to te:TE}{σ:St}{H:Hp}{Q:VK}:zhH to te σ H Q=to σ H fun x H1=>uR x fun l=>(∃ xs,H1 l=some (.lst xs))∧te σ H1 fun y H2=>uR y fun b=>∃ xs zs,H2 l=some (.lst xs)∧H2 b=some (.lst zs)∧xs.length+zs.length≤sizeLine∧Q .non (upd H2 l (.lst (xs++zs))):=rfl
theorem zsq {o e:Expr}{to te:TE}{apos cpos:Pos} (ho:PE X o to) (he:PE X e te)
  (hbase:attributeBase o "extend" X.env (eval o X.env)=eval o X.env:=by rfl)
  (hline:(apos.endLine == cpos.line)=true:=by rfl) (hp:zI e=true:=by rfl):PE X (.Call (.Attribute o "extend" apos) [e] [] cpos) (zhH to te):=by
 intro pins s σ H Q I h
 have hs:starEach [e] X.env=[(false,eval e X.env)]:=zbr hp
 refine wpAny_Call_method_late hbase (by rw [hs];rfl) hline rfl (thn (ho pins s σ H _ I h) fun v s1 ⟨x,H1,I1,r1,l,ex,⟨xs,hx⟩,q1⟩=>?_)
 subst ex
 obtain ⟨h1,h2⟩:=zd9 (T:="list") I1 r1 (.inl ⟨rfl,xs,SqL.of hx⟩)
 refine ⟨"list","list.extend",PySem.F.plainAttrs_list,PySem.F.slot_list_extend,PySem.F.type_list_extend,h1,h2,?_⟩
 rw [hs]
 refine Calls.callWith_builtin rfl (Calls.evalArgs_plain ?_)
 refine Calls.spliced_cons (thn (he pins s1 σ H1 _ I1 q1) fun u s2 ⟨y,H2,I2,r2,b,ey,xs',zs,hl,hb,hz,q⟩=>Calls.spliced_nil ?_)
 subst ey
 exact zm0 pins s2 σ H2 (.ref l) [.ref b] v [u] Q I2 r1 (.cons r2 .nil) ⟨l,b,xs',zs,rfl,rfl,hl,hb,hz,q⟩
end
section
variable {K:PySem.W.Frag}{g:TG}{tb:TS}{D:zaq}{σ:St}{H:Hp}{tl:TE}{R:It→Hp→Prop}{tt:TT}{te:TE}{Q:VK}{a:Addr}{o:Obj}{kvs:List (Key×V)}
theorem zot:zjB tl σ H R=tl σ H fun x H1=>uR x fun a=>∃ o kvs,H1 a=some (.frz o (.dK kvs))∧R (Itd a o kvs) H1:=by
 unfold zjB uR
 congr;funext x H1
 apply propext;constructor
 ·rintro ⟨a,o,kvs,e,h⟩;exact ⟨a,e,o,kvs,h⟩
 ·rintro ⟨a,e,o,kvs,h⟩;exact ⟨a,o,kvs,e,h⟩
theorem znX:zj3 tl σ H R=tl σ H fun x H1=>uR x fun a=>∃ o kvs,H1 a=some (.frz o (.dK kvs))∧R (Itw a o kvs) H1:=by
 unfold zj3 uR
 congr;funext x H1
 apply propext;constructor
 ·rintro ⟨a,o,kvs,e,h⟩;exact ⟨a,e,o,kvs,h⟩
 ·rintro ⟨a,e,o,kvs,h⟩;exact ⟨a,o,kvs,e,h⟩
theorem zmG {t:TS}:tFz t D σ H = ∃ a kvs,H a=some (.dK kvs)∧∀ o,t (D.thaw a kvs) σ (upd H a (.frz o (.dK kvs))):=rfl
theorem zpA {t:TE}:zu3 t σ H Q = ∃ a kvs,H a=some (.dK kvs)∧∀ o,t σ (upd H a (.frz o (.dK kvs))) fun v H'=>zdH a kvs H' (Q v):=rfl
end
end L2
set_option Elab.async false
set_option linter.all false
set_option maxRecDepth 100000
set_option maxHeartbeats 4000000
namespace L2
open PySem PySem.Spec PyProof.Rows
section
variable {X:Cx}
theorem zr8 {o e:Expr}{to te:TE}{apos cpos:Pos} (ho:W (PE X o to)) (he:W (PE X e te)) (hbase:attributeBase o "extend" X.env (eval o X.env)=eval o X.env:=by rfl) (hline:(apos.endLine == cpos.line)=true:=by rfl) (hp:zI e=true:=by rfl):W (PE X (.Call (.Attribute o "extend" apos) [e] [] cpos) (zhH to te)):=⟨zsq (ho:=ho.h) (he:=he.h) (hbase:=hbase) (hline:=hline) (hp:=hp)⟩
end
end L2
set_option Elab.async false
set_option linter.all false
set_option maxRecDepth 100000
set_option maxHeartbeats 4000000
namespace L2
open PySem PySem.Spec PyProof.Rows
section
variable {α β:Type}
def look (t:List (Str×α)) (n:Str):Option α:=(t.find? fun p=>decide (p.1=n)).map (·.2)
theorem zma {p:Str×α}{t:List (Str×α)}{n:Str}:look (p::t) n=if p.1=n then some p.2 else look t n:=by
 unfold look
 by_cases h:p.1=n
 ·rw [List.find?_cons_of_pos (by simpa using h),if_pos h];rfl
 ·rw [List.find?_cons_of_neg (by simpa using h),if_neg h]
def Dct (R:V→α→Prop):List (Str×V)→List (Str×α)→Prop:=Paired fun p q=>p.1=q.1∧R p.2 q.2
theorem Dct.length {R:V→α→Prop}{kvs:List (Str×V)}{t:List (Str×α)} (h:Dct R kvs t):kvs.length=t.length:=Paired.length h
theorem Dct.look {R:V→α→Prop}{kvs:List (Str×V)}{t:List (Str×α)} (h:Dct R kvs t) (n:Str):(∃ v a,L2.look kvs n=some v∧L2.look t n=some a∧R v a)∨(L2.look kvs n=none∧L2.look t n=none):=by
 induction h with
 | nil=>exact .inr ⟨rfl,rfl⟩
 | cons r _ ih =>
  rw [zma,zma,← r.1]
  split
  ·exact .inl ⟨_,_,rfl,rfl,r.2⟩
  ·exact ih
theorem Dct.at {R:V→α→Prop}{kvs:List (Str×V)}{t:List (Str×α)} (h:Dct R kvs t):∀ {i:Nat}{p:Str×V},kvs[i]?=some p→∃ a,t[i]?=some (p.1,a)∧R p.2 a:=by
 induction h with
 | nil=>intro i p e;simp at e
 | @cons x y _ _ r _ ih =>
  intro i p e
  cases i with
  | zero =>
   have e':x=p:=by simpa using e
   subst e'
   exact ⟨y.2,by rw [r.1];rfl,r.2⟩
  | succ i=>exact ih (by simpa using e)
end
theorem zmw {a:Addr}{z:Str}{H:Hp}{Q:VK}:zj7 (.ref a) (.str z) H Q = ∃ kvs,Rd H a (.dK kvs)∧∃ v,zat kvs (.inr z)=some v∧Q v H:=by
 apply propext;constructor
 ·rintro ⟨a',k,kvs,v,e1,e2,h1,h2,q⟩
  cases e1
  cases k with
  | inl i=>cases e2
  | inr x=>cases e2;exact ⟨kvs,h1,v,h2,q⟩
 ·rintro ⟨kvs,h1,v,h2,q⟩
  exact ⟨a,.inr z,kvs,v,rfl,rfl,h1,h2,q⟩
theorem zoX {a b:Addr}{H:Hp}{Q:VK}:zgc (.ref a) (.ref b) H Q = ∃ xs ys,H a=some (.tup xs)∧H b=some (.tup ys)∧xs.length+ys.length≤sizeLine∧∀ p H2,zl H H2→H2 p=some (.tup (xs++ys))→Q (.ref p) H2:=by
 apply propext;constructor
 ·rintro ⟨a',b',xs,ys,e1,e2,h⟩;cases e1;cases e2;exact ⟨xs,ys,h⟩
 ·rintro ⟨xs,ys,h⟩;exact ⟨a,b,xs,ys,rfl,rfl,h⟩
def zul:List V→Hp→VK→Prop:=fun xs H Q=>uR1 xs fun a=>∃ kvs,Rd H a (.dK kvs)∧Q (.int kvs.length) H
theorem ztS {a:Addr}{H:Hp}{Q:VK}:zul [.ref a] H Q = ∃ kvs,Rd H a (.dK kvs)∧Q (.int kvs.length) H:=zcx
def zlR:R2:=fun x y H Q=>∃ p xs,y = .ref p∧(H p=some (.lst xs)∨H p=some (.tup xs))∧zS x=true∧xs.all zS=true∧Q (.bl (!inV x xs)) H
theorem zqZ {x:V}{p:Addr}{H:Hp}{Q:VK}:zlR x (.ref p) H Q = ∃ xs,(H p=some (.lst xs)∨H p=some (.tup xs))∧zS x=true∧xs.all zS=true∧Q (.bl (!inV x xs)) H:=by simp [zlR]
end L2
set_option Elab.async false
set_option linter.all false
set_option maxRecDepth 100000
set_option maxHeartbeats 4000000
namespace L2
open PySem PySem.Spec PyProof.Rows
section
variable {M:Model}{A:Around}{E:Value→Shared→Prop}{s:Shared}
theorem zwY {pos:Pos}{id:String}{args:List (Bool×Sem Value)}{keywords:List (Option Str×Sem Value)}{Q:Value→Shared→Prop} (hplain:args.any (·.1)=false) (hkw:keywords.any (·.1.isNone)=false)
  (h:wpAny M A (evalArgs (.builtin id) true args keywords) (fun a s1=>wpAny M A (call (.builtin id) a.pos a.kw) Q E s1) E s):wpAny M A (callWith pos (.builtin id) [] args keywords) Q E s:=by
 unfold callWith
 refine wpAny_bind (wpAny_holding (wpAny_mono h (fun a s1 h1=>wpAny_bind (wpAny_standAt ?_)) fun _ _ x=>x))
 simp only [hplain,hkw,Bool.or_false]
 exact wpAny_bind (wpAny_pure (wpAny_bind (wpAny_mono h1 (fun r s2 hr=>wpAny_bind (wpAny_holding (wpAny_point (wpAny_pure hr)))) fun _ _ x=>x)))
end
theorem zvh {prog:Program}{w:World}{A:Around}{E:Value→Shared→Prop}{s:Shared}{env:Env}{x:Str}{p1 p2 p3 p4 p5:Pos}{j1 j2:Nat}{m:Str→Option Value}{a r:Addr}{its ks:Array Value}{k:Int}{t:Tok}{Q:Value→Shared→Prop}
  (hk:env.scope.kind = .function) (hl:env.kindOf x=some .local) (hn:s.heap.Ns env.locals m) (hm:m x=some (.ref a)) (ha:IsTup s.heap a its) (h0:its[0]?=some (.ref r)) (hr:IsTup s.heap r ks) (h1:ks[1]?=some (.int k t)) (hd:(x == ("__debug__":Str))=false)
  (q:∀ tk,Q (.int k t) { s with toks:=tk }):wpAny (model prog w) A (eval (.Subscript (.Subscript (.Name x p1) (.Constant (.int 0) j1 p2) p3) (.Constant (.int 1) j2 p4) p5) env) Q E s:=by
 refine Subscript_ (Subscript_ (wpAny_Name (wpAny_loadName_local hk hl hn hm ?_) hd))
 refine wpAny_Constant_int ?_
 have s0:0<its.size:=(Array.getElem?_eq_some_iff.mp h0).1
 have s1:1<ks.size:=(Array.getElem?_eq_some_iff.mp h1).1
 refine subscriptTail_builtinR (x:=.ref r) (T:="tuple") ha.typeIs slot_tuple_getitem.lookup (getItem_tuple (j:=0) ha (by decide) (by decide) (by simp [seqIndex?,s0]) h0 ⟨rfl,?_⟩)
 refine wpAny_Constant_int ?_
 exact subscriptTail_builtinR (x:=.int k t) (T:="tuple") hr.typeIs slot_tuple_getitem.lookup (getItem_tuple (j:=1) hr (by decide) (by decide) (by simp [seqIndex?];omega) h1 ⟨rfl,q _⟩)
def za4 (pos:Pos) (qual:Str) (H:Hp) (P:Addr):Prop :=
 H P=some (.tbl #[])∨∃ c' oc vs t,H P=some (.tbl #[rawInt pos.line,rawInt pos.col,.ref c'])∧H c'=some (.frz oc (.own 0))∧oc.data = .fields vs∧vs[1]?=some (.str qual t)
structure zcY (mg:Str→Option Value) (base:Heap) (cdv:Value) (P:Addr):Prop where
 cd:∃ c,cdv = .ref c∧PySem.W.CodeHd base c P
 bt:∃ bm o,mg "__builtins__"=some (.ref bm)∧bm≠builtinsNs∧bm≠mainGlobals∧base.get? bm=some o∧o.cls = .type "module"∧o.dict=some builtinsNs∧o.data = .plain
def zey (H H':Hp) (P:Addr):Prop:=∀ a o,a≠P→H a=some o→H' a=some o
theorem zw6 {X:Cx}{pins:List (Addr×Obj)}{σ:St}{H:Hp}{s:Shared}{E:Value→Shared→Prop}{Q:Value→Shared→Prop}{params:Arguments}{body:Expr}{scope:Scope}{pos:Pos}{P:Addr} (LB:zcY X.mg X.base X.env.code P)
  (hdef:defaultsOf params X.env=([],[])) (hcl:closureFor scope X.env=pure []) (I:Inv X pins σ H s) (hT:za4 pos (X.env.qual++"<lambda>") H P)
  (h:∀ (f c':Addr) (ctv:Value) (h':Heap) (tk:Nat) (H':Hp),f+1=h'.objs.size→s.heap.objs.size≤f→h'.CodeRec (.ref c') (X.env.qual++"<lambda>") →
   h'.get? f=some (PySem.W.kla_obj "<lambda>" (X.env.qual++"<lambda>") params body scope [] ((X.mg "__name__").getD .none) c' ctv)→za4 pos (X.env.qual++"<lambda>") H' P→zey H H' P→Inv X pins σ H' { s with heap:=h',toks:=tk }→Q (.ref f) { s with heap:=h',toks:=tk }) :
  wpAny (model X.prog X.w) X.A (eval (.Lambda params body scope pos) X.env) Q E s:=by
 refine PySem.W.kla_eval hdef ?_
 obtain ⟨c,hc,C⟩:=LB.cd
 obtain ⟨bm,ob,b1,b2,b3,b4,b5,b6,b7⟩:=LB.bt
 obtain ⟨og,esg,epg,eg,hdg⟩:=id I.ok.mod.glob
 have hgs:s.heap.Ns mainGlobals X.mg:=I.ok.mod.glob.keeps I.bk
 have neP:∀ {b:Addr}{o:Obj}{u:HO},X.base.get? b=some o→H P=some u→b≠P:=fun e hP z=>by
  have:=(I.bs _ _ e).2
  rw [z,hP] at this;cases this
 rcases hT with hP|⟨c',oc,vs,t,hP,hc',hd,hv⟩
 ·have hPs:s.heap.get? P=some (PySem.W.tabObj #[]):=I.hok P _ hP
  refine PySem.W.kla_makeFunction (mg:=X.mg) hcl I.ok.glob hgs hc (C.keeps I.bk) hPs trivial rfl (neP eg hP) ⟨bm,ob,b1,b2,b3,neP b4 hP,I.bk _ _ b4,b5,b6,b7⟩ fun c' ctv h' tk hx hge hlt hrec htb=>?_
  obtain ⟨c₂,oc,vs,t,e2,hoc,hd,hv⟩:=hrec
  cases e2
  have szP:P<s.heap.objs.size:=Heap.lt_size hPs
  have cP:c'≠P:=fun z=>by rw [z] at hge;exact absurd szP (Nat.not_lt.mpr hge)
  have neC:∀ {b:Addr}{u:HO},H b=some u→b≠c':=fun e z=>by
   have:=I.hok.lt e
   rw [z] at this;exact absurd this (Nat.not_lt.mpr hge)
  have neC2:∀ {b:Addr}{u:Obj},s.heap.get? b=some u→b≠c':=fun e z=>by
   have:=Heap.lt_size e
   rw [z] at this;exact absurd this (Nat.not_lt.mpr hge)
  have kp:∀ b o,b≠P→s.heap.get? b=some o→(h'.push (PySem.W.kla_obj "<lambda>" (X.env.qual++"<lambda>") params body scope [] ((X.mg "__name__").getD .none) c' ctv)).get? b=some o:=fun b o n e=>Heap.get?_push_of_some _ (hx b o n e)
  let H':Hp:=upd (upd H P (.tbl #[rawInt pos.line,rawInt pos.col,.ref c'])) c' (.frz oc (.own 0))
  have hH':∀ b,b≠P→b≠c'→H' b=H b:=fun b n1 n2=>by show upd _ c' _ b=H b;rw [ze n2,ze n1]
  have hHP:H' P=some (.tbl #[rawInt pos.line,rawInt pos.col,.ref c']):=by show upd _ c' _ P=_;rw [ze (Ne.symm cP),zF]
  have hHc:H' c'=some (.frz oc (.own 0)):=zF
  have nP:∀ b,H b=none→b≠P:=fun b e z=>by rw [z,hP] at e;cases e
  have ext:∀ b u,H b=some u→(∀ ps,u≠.tbl ps)→H' b=some u:=fun b u e n=>by rw [hH' b (fun z=>by rw [z,hP] at e;cases e;exact n _ rfl) (neC e)];exact e
  have un:Un X.fs [] H H' s.heap (h'.push (PySem.W.kla_obj "<lambda>" (X.env.qual++"<lambda>") params body scope [] ((X.mg "__name__").getD .none) c' ctv)):=by
   refine ⟨fun b o e n _ _=>kp b o (nP b n) e,fun b o e n _ _=>⟨o.slots,kp b o (nP b n) e⟩,fun b o e n _=>by rw [hH' b (nP b n) (neC2 e)];exact n,fun b o e _=>?_,fun b xs e=>ext b _ e fun _=>nofun,fun b o u e=>ext b _ e fun _=>nofun,fun b ps e=>?_⟩
   ·by_cases z:b=P
    ·exact ⟨_,by rw [z];exact Heap.get?_push_of_some _ htb⟩
    ·exact ⟨o,kp b o z e⟩
   ·by_cases z:b=P
    ·rw [z,hP] at e
     cases e
     exact ⟨#[rawInt pos.line,rawInt pos.col,.ref c'],by rw [z,hHP];simp⟩
    ·exact ⟨#[],by rw [hH' b z (neC e),e];simp⟩
  have hok:HOk X.prog X.w H' (h'.push (PySem.W.kla_obj "<lambda>" (X.env.qual++"<lambda>") params body scope [] ((X.mg "__name__").getD .none) c' ctv)):=fun a o e=>by
   by_cases z1:a=c'
   ·rw [z1,hHc] at e
    cases e
    rw [z1]
    exact ⟨Heap.get?_push_of_some _ hoc,⟨_,Heap.get?_push_of_some _ hoc⟩⟩
   ·by_cases z2:a=P
    ·rw [z2,hHP] at e
     cases e
     rw [z2]
     show Heap.get? _ P=_
     exact Heap.get?_push_of_some _ htb
    ·rw [hH' a z2 z1] at e
     refine (I.hok a o e).stay (fun b u hb q=>kp b u ?_ q) (fun b q=>ext b _ q fun _=>nofun) fun b xs q=>ext b _ q fun _=>nofun
     rcases hb with rfl|hb
     ·exact z2
     ·intro z;rw [z,hP] at hb;cases hb
  refine h h'.objs.size c' ctv _ tk H' (by rw [size_push']) (Nat.le_of_lt (Nat.lt_of_le_of_lt hge hlt)) ⟨c',oc,vs,t,rfl,Heap.get?_push_of_some _ hoc,hd,hv⟩ (Heap.get?_push_size _ rfl) (.inr ⟨c',oc,vs,t,hHP,hHc,hd,hv⟩) (fun a o n e=>by rw [hH' a n (neC e)];exact e) (I.un un hok)
 ·have hPs:s.heap.get? P=some (PySem.W.tabObj #[rawInt pos.line,rawInt pos.col,.ref c']):=I.hok P _ hP
  have hcs:s.heap.get? c'=some oc:=(I.hok c' _ hc').1
  refine PySem.W.kla_makeFunctionHit (mg:=X.mg) (cv:=.ref c') hcl I.ok.glob hgs hc (C.keeps I.bk) hPs ?_ ?_ ⟨bm,ob,b1,b2,b3,neP b4 hP,I.bk _ _ b4,b5,b6,b7⟩ fun ctv h' tk hk hsz=>?_
  ·exact trivial
  ·simp [codeAmong,rawInt]
  ·exact h h'.objs.size c' ctv _ tk H (by rw [size_push']) hsz ⟨c',oc,vs,t,rfl,Heap.get?_push_of_some _ (hk _ _ hcs),hd,hv⟩ (Heap.get?_push_size _ rfl) (.inr ⟨c',oc,vs,t,hP,hc',hd,hv⟩) (fun _ _ _ e=>e) (I.kept fun b o e=>Heap.get?_push_of_some _ (hk b o e))
def ziJ (H:Hp) (a:Addr) (k:Int):Prop:=∃ r zZ y ys,H a=some (.tup (.ref r::zZ))∧H r=some (.tup (y::.int k::ys))
def zcN (P:Addr) (pos:Pos) (qual:Str) (v:V) (H1:Hp) (Q:VK):Prop:=uR v fun l=>∃ (as:List Addr) (ks:List Int),H1 l=some (.lst (as.map V.ref))∧za4 pos qual H1 P∧as.length<64∧Paired (ziJ H1) as ks ∧
 ∀ (D:Addr) (zs:List (Int×Addr)) (H2:Hp),zey H1 H2 P→za4 pos qual H2 P→H1 D=none→D≠P→D≠sysModules→H2 D=some (.lst (zs.map fun z=>V.ref z.2))→zs.Perm (ks.zip as)→zs.Pairwise (fun p q=>p.1≤q.1)→Q (.ref D) H2
def zis (P:Addr) (pos:Pos) (qual:Str) (ta:TE):TE:=fun σ H Q=>ta σ H fun v H1=>zcN P pos qual v H1 Q
theorem zwB {P:Addr}{pos:Pos}{qual:Str}{ta:TE}{σ:St}{H:Hp}{Q:VK}:zis P pos qual ta σ H Q=ta σ H fun v H1=>zcN P pos qual v H1 Q:=rfl
theorem znN {P:Addr}{pos:Pos}{qual:Str}{l:Addr}{H1:Hp}{Q:VK}:zcN P pos qual (.ref l) H1 Q = ∃ (as:List Addr) (ks:List Int),H1 l=some (.lst (as.map V.ref))∧za4 pos qual H1 P∧as.length<64∧Paired (ziJ H1) as ks ∧
 ∀ (D:Addr) (zs:List (Int×Addr)) (H2:Hp),zey H1 H2 P→za4 pos qual H2 P→H1 D=none→D≠P→D≠sysModules→H2 D=some (.lst (zs.map fun z=>V.ref z.2))→zs.Perm (ks.zip as)→zs.Pairwise (fun p q=>p.1≤q.1)→Q (.ref D) H2:=zfC
theorem ztj {as:List Addr}{its:List Value} (h:zk (as.map V.ref) its):its=as.map Value.ref:=by
 induction as generalizing its with
 | nil=>cases h;rfl
 | cons a as ih =>
  cases h with
  | cons r rr=>rw [ih rr,show _=Value.ref a from r];rfl
theorem zpr (as:List Addr):zk (as.map V.ref) (as.map Value.ref):=by
 induction as with
 | nil=>exact .nil
 | cons a as ih=>exact .cons rfl ih
theorem zqK {l:List (Int×Addr)}{ps:List (Int×Value)} (h:ps.Perm (l.map fun z=>(z.1,Value.ref z.2))):∃ zs:List (Int×Addr),zs.Perm l∧ps=zs.map fun z=>(z.1,Value.ref z.2):=by
 let g:Int×Value→Int×Addr:=fun p=>(p.1,match p.2 with | .ref a=>a|_=>0)
 have e1:(l.map fun z=>(z.1,Value.ref z.2)).map g=l:=by
  rw [List.map_map]
  have:(g∘fun z:Int×Addr=>(z.1,Value.ref z.2))=id:=rfl
  rw [this,List.map_id]
 refine ⟨ps.map g,by have:=h.map g;rw [e1] at this;exact this,?_⟩
 rw [List.map_map]
 have:∀ p∈ps,((fun z:Int×Addr=>(z.1,Value.ref z.2))∘g) p=p:=fun p hp=>by
  obtain ⟨z,_,rfl⟩:=List.mem_map.mp (h.mem_iff.mp hp)
  rfl
 exact (List.map_id ps).symm.trans (List.map_congr_left fun p hp=>(this p hp).symm)
theorem zjP:∀ (ks:List Int) (as:List Addr),ks.zip (as.map Value.ref)=(ks.zip as).map fun z=>(z.1,Value.ref z.2)
 | [],_=>rfl
 | _::_,[]=>rfl
 | k::ks,a::as=>by rw [List.map_cons,List.zip_cons_cons,List.zip_cons_cons,List.map_cons,zjP ks as]
theorem zcT {α β:Type}{R:α→β→Prop}:∀ {l:List α}{m:List β},Paired R l m→∀ {i:Nat}{a:α}{b:β},l[i]?=some a→m[i]?=some b→R a b
 | _,_,.nil,i,a,b,h,_=>by simp at h
 | _,_,.cons r t,0,a,b,h,h'=>by
  simp at h h'
  subst h h'
  exact r
 | _,_,.cons r t,i+1,a,b,h,h'=>zcT t (by simpa using h) (by simpa using h')
theorem zaR {α β:Type}{R:α→β→Prop}{l:List α}{m:List β} (h:Paired R l m):l.length=m.length:=Paired.length h
theorem zqm {X:Cx}{cm:Bool}{k:Nat}{a:Expr}{ta:TE}{x:Str}{params:Arguments}{scope:Scope}{p pos lpos kp p1 p2 p3 p4 p5:Pos}{j1 j2:Nat}{P:Addr} (LB:zcY X.mg X.base X.env.code P) (hr:zE cm k X.A)
  (hg:Gl X "sorted") (hm:X.mg "sorted"=none) (ha:PE X a ta) (hdef:defaultsOf params X.env=([],[])) (hcl:closureFor scope X.env=pure [])
  (hbind:∀ (q:Str) (pm cd ct v:Value),bindArgs (PySem.W.kla_fn "<lambda>" q params (.Subscript (.Subscript (.Name x p1) (.Constant (.int 0) j1 p2) p3) (.Constant (.int 1) j2 p4) p5) scope [] pm cd ct) ⟨[v],[]⟩=pure [(x,v)])
  (hloc:scope.names=[(x,.local)]) (hkind:scope.kind = .function) (hco:scope.isCoroutine=false) (hgen:scope.isGenerator=false) (hp:zI a=true:=by rfl) (hdb:(x == ("__debug__":Str))=false:=by decide) :
  PE X (.Call (.Name "sorted" p) [a] [⟨some (Str.ofString "key"),.Lambda params (.Subscript (.Subscript (.Name x p1) (.Constant (.int 0) j1 p2) p3) (.Constant (.int 1) j2 p4) p5) scope lpos,kp⟩] pos) (zis P lpos (X.env.qual++"<lambda>") ta):=by
 intro pins s σ H Q I h
 have hs:starEach [a] X.env=[(false,eval a X.env)]:=zbr hp
 have hA:=zbI ha zbF (hs:=hs) pos pins s σ H (fun ys H1=>∃ y,ys=[y]∧zcN P lpos (X.env.qual++"<lambda>") y H1 Q) I (by
  show ta σ H fun x H1=>∃ y,[x]=[y]∧zcN P lpos (X.env.qual++"<lambda>") y H1 Q
  have e:(fun (x:V) (H1:Hp)=>∃ y,[x]=[y]∧zcN P lpos (X.env.qual++"<lambda>") y H1 Q)=fun v H1=>zcN P lpos (X.env.qual++"<lambda>") v H1 Q:=by
   funext x H1
   apply propext;constructor
   ·rintro ⟨y,e,h⟩;cases e;exact h
   ·exact fun h=>⟨x,rfl,h⟩
  rw [e]
  exact h)
 refine wpAny_Call_Name_kw (zbQ I hg hm boot_sorted (zwY (by rw [hs];rfl) rfl ?_))
 rw [hs] at hA ⊢
 refine evalArgs_kwB rfl (thn hA fun us s1 ⟨vs,H1,I1,r1,q1⟩=>kws_cons ?_)
 obtain ⟨y,rfl,l,rfl,as,ks,hl,hT,h64,hK,q⟩:=q1
 ·cases r1 with
  | cons r rr =>
   cases rr
   cases r
   refine zw6 LB hdef hcl I1 hT fun f c' ctv h2 tk H2 hsz hge hcd hf hT2 hL I2=>kws_nil ?_
   have hlP:l≠P:=fun z=>by
    rcases hT with hP|⟨_,_,_,_,hP,_⟩ <;> · rw [z,hP] at hl;cases hl
   have hl2:=hL _ _ hlP hl
   obtain ⟨its,rv,⟨o,n,e1,e2,e3,e4⟩,hz⟩:=I2.list (SqL.of hl2)
   have hits:=ztj rv
   subst hits
   obtain ⟨m,F⟩:=I2.fr
   have lks:=zaR hK
   have fresh2:∀ b o,h2.get? b=some o→b≠X.env.locals→X.base.get? b=none→(b,o)∈zcf X.base h2 X.env.locals:=fun b o e n1 n2=>zpz n1 n2 e
   refine PyProof.Rows.ksk_sorted (b:=false) (kz:=ks) (f:=.ref f) (h₀:=X.base) (L:=X.env.locals) (news:=zcf X.base h2 X.env.locals) F zmM (vs:=as.map Value.ref) (l:=l) ⟨o,e1,e2,n,e4⟩ (by rw [List.length_map];exact lks.symm) (by rw [List.length_map];exact h64) (PyProof.Rows.ksk_s1 _ _) (fun x=>PyProof.Rows.ksk_l1 _ _) (fun x=>PyProof.Rows.ksk_t1 _ _) (fun i v k' hv hk' h3 tk3 own F3 N3=>?_) fun D h3 tk3 out c F3 N3 lt ko=>?_
   ·have all3:∀ b o,b≠X.env.locals→h2.get? b=some o→h3.get? b=some o:=fun b o n e=>by
     cases qb:X.base.get? b with
     | some u =>
      have:=F.keep b u qb
      rw [show h2.get? b=some u from this] at e
      cases e
      exact F3.keep b _ qb
     | none=>exact (N3 (b,o) (List.mem_append_left _ (fresh2 b o e n qb))).1
    rw [List.getElem?_map] at hv
    obtain ⟨ai,hai,rfl⟩:=Option.map_eq_some_iff.mp hv
    obtain ⟨r,zZ,y,ys,k1,k2⟩:=zcT hK hai hk'
    have tt:∀ {b xs},H1 b=some (.tup xs)→∃ its,zk xs its∧IsTup h3 b its.toArray:=fun {b xs} e=>by
     have bP:b≠P:=fun z=>by
      rcases hT with hP|⟨_,_,_,_,hP,_⟩ <;> · rw [z,hP] at e;cases e
     have e2:=hL _ _ bP e
     obtain ⟨_,its,rv,ob,g1,g2⟩:=I2.hok b _ e2
     have bL:b≠X.env.locals:=fun z=>by rw [z,I2.free] at e2;cases e2
     exact ⟨its,rv,ob,all3 _ _ bL g1,g2⟩
    obtain ⟨it1,rv1,t1⟩:=tt k1
    obtain ⟨it2,rv2,t2⟩:=tt k2
    cases rv1 with
    | cons ra _ =>
    cases ra
    cases rv2 with
    | cons rb rc =>
    cases rc with
    | cons rd _ =>
    obtain ⟨tkk,rfl⟩:=rd
    have fL:f≠X.env.locals:=fun z=>by
     have:=I1.lt
     rw [← z] at this
     exact absurd this (Nat.not_lt.mpr hge)
    have hf3:=all3 _ _ fL hf
    have hcd3:h3.CodeRec (.ref c') (X.env.qual++"<lambda>"):=by
     obtain ⟨c2,oc,vs,t,e,g1,g2,g3⟩:=hcd
     refine ⟨c2,oc,vs,t,e,all3 _ _ (fun z=>?_) g1,g2,g3⟩
     obtain ⟨m',⟨ol,es,ep,el,hdl,_⟩,_⟩:=id I2.loc
     rw [z] at g1
     rw [show h2.get? X.env.locals=some ol from el] at g1
     cases g1
     rw [g2] at hdl
     cases hdl
    refine wpAny_call (PySem.W.kla_callFunE (by show X.A.depth<recursionLimit;exact hr.depth) hf3 rfl hco hgen rfl hcd3 ?_)
    rw [hbind]
    refine wpAny_pure (wpAny_newFunctionEnv (fun y hy=>?_) (fun y hy=>?_) (fun h4 hns hsb=>?_) hkind)
    ·rw [hloc,List.mem_singleton] at hy
     rw [hy];nofun
    ·rw [List.mem_singleton] at hy
     rw [hy]
     show scope.names.lookup x=_
     rw [hloc];simp [List.lookup]
    ·have k4:∀ b o,h3.get? b=some o→h4.get? b=some o:=fun b o e=>hsb.extBut b o (Nat.ne_of_lt (Heap.lt_size e)) (Heap.get?_push_of_some _ e)
     refine ⟨(I.ok.mod.nolimit.keeps F3.keep).keeps k4,PySem.W.kla_codeExpr ?_⟩
     refine zvh (m:=fun y=>([(x,Value.ref ai)]:List (Str×Value)).reverse.lookup y) (a:=ai) (r:=r) (k:=k') (t:=tkk) hkind ?_ hns (by simp [List.lookup]) (its:=(Value.ref r::_).toArray) ⟨t1.choose,k4 _ _ t1.choose_spec.1,t1.choose_spec.2⟩ (by simp) (ks:=(_::Value.int k' tkk::_).toArray) ⟨t2.choose,k4 _ _ t2.choose_spec.1,t2.choose_spec.2⟩ (by simp) hdb fun tk5=>?_
     ·show scope.names.lookup x=_
      rw [hloc];simp [List.lookup]
     ·exact PyProof.Rows.KskEnd.intro (news':=zcf X.base h2 X.env.locals++own) ⟨F3.ns.keeps k4,fun b o e=>k4 _ _ (F3.keep b o e),F3.above⟩ (fun p hp=>⟨k4 _ _ (N3 p hp).1,(N3 p hp).2⟩) fun _ h=>h
   ·obtain ⟨ps,hp1,hp2,hp3⟩:=ko
    rw [zjP] at hp1
    obtain ⟨zs,hz1,rfl⟩:=zqK hp1
    have fm:(f,PySem.W.kla_obj "<lambda>" (X.env.qual++"<lambda>") params (.Subscript (.Subscript (.Name x p1) (.Constant (.int 0) j1 p2) p3) (.Constant (.int 1) j2 p4) p5) scope [] ((X.mg "__name__").getD .none) c' ctv)∈zcf X.base h2 X.env.locals:=fresh2 _ _ hf (fun z=>by
     have:=I1.lt
     rw [← z] at this
     exact absurd this (Nat.not_lt.mpr hge)) (by
     cases qb:X.base.get? f with
     | none=>rfl
     | some u =>
      have:=Heap.lt_size (I1.bk _ _ qb)
      exact absurd this (Nat.not_lt.mpr hge))
    have Dsz:h2.objs.size≤D:=by have:=lt _ fm;rw [← hsz];exact this
    have D2:H2 D=none:=I2.hok.fresh Dsz
    have DP:D≠P:=fun z=>by
     rcases hT2 with hP|⟨_,_,_,_,hP,_⟩ <;> · rw [z,hP] at D2;cases D2
    have D1:H1 D=none:=by
     cases qd:H1 D with
     | none=>rfl
     | some u=>rw [hL _ _ DP qd] at D2;cases D2
    have eo:out=((zs.map (·.2)).map Value.ref).toArray:=by
     apply Array.toList_inj.mp
     rw [hp2];simp
    have lz:zs.length≤as.length:=by rw [hz1.length_eq,List.length_zip];omega
    have all3:∀ b o,b≠X.env.locals→h2.get? b=some o→h3.get? b=some o:=fun b o hb e=>by
     cases qb:X.base.get? b with
     | some u =>
      have:=F.keep b u qb
      rw [show h2.get? b=some u from this] at e
      cases e
      exact F3.keep b _ qb
     | none=>exact (N3 (b,o) (List.mem_cons_of_mem _ (fresh2 b o e hb qb))).1
    have neD:∀ {b:Addr}{u:HO},H2 b=some u→b≠D:=fun e z=>by rw [z,D2] at e;cases e
    have neL:∀ {b:Addr}{u:HO},H2 b=some u→b≠X.env.locals:=fun e z=>by rw [z,I2.free] at e;cases e
    have hm:(zs.map fun z:Int×Addr=>V.ref z.2)=(zs.map (·.2)).map V.ref:=by rw [List.map_map];rfl
    have new:zY X.prog X.w (upd H2 D (.lst (zs.map fun z:Int×Addr=>V.ref z.2))) h3 D (.lst (zs.map fun z:Int×Addr=>V.ref z.2)):=⟨by rw [List.length_map,sizeLine_eq];omega,(zs.map (·.2)).map Value.ref,c,by rw [hm];exact zpr _,by rw [← eo];exact (N3 _ (List.mem_cons_self ..)).1⟩
    refine ⟨.ref D,upd H2 D (.lst (zs.map fun z:Int×Addr=>V.ref z.2)),?_,rfl,q D zs _ (fun b u n e=>by rw [ze (fun z=>by rw [z,D1] at e;cases e)];exact hL _ _ n e) ?_ D1 DP (Nat.ne_of_gt (Nat.lt_of_lt_of_le I2.big Dsz)) zF hz1 ?_⟩
    ·refine I2.step (h':=h3) (g':=s1.gens) (d':=s1.drawn) (t':=tk3) (ch:=[]) (fun _ z=>nomatch z) (fun b o n _ _ e _=>all3 b o n e) (fun b o n _ _ e _=>⟨o.slots,all3 b o n e⟩) (fun b o _ e n=>?_) (fun b o _ e=>?_) (fun b xs e=>by rw [ze (neD e)];exact e) (fun b o u e=>by rw [ze (neD e)];exact e) (fun b ps e=>⟨#[],by rw [ze (neD e),e];simp⟩) (fun m' hm'=>?_) (fun b u e=>?_) I2.bare
     ·rw [ze (fun z=>?_)]
      ·exact n
      ·have:=Heap.lt_size e
       rw [z] at this
       exact absurd this (Nat.not_lt.mpr Dsz)
     ·by_cases hb:b=X.env.locals
      ·obtain ⟨o1,_,_,g1,_⟩:=F3.ns
       exact ⟨o1,by rw [hb];exact g1⟩
      ·exact ⟨o,all3 b o hb e⟩
     ·have e1:=hm'.eq_nsMap
      have e2:=F.ns.eq_nsMap
      have:m'=m:=e1.trans e2.symm
      rw [this];exact F3.ns
     ·by_cases z:b=D
      ·rw [z,zF] at e
       cases e
       rw [z];exact new
      ·rw [ze z] at e
       refine (I2.hok b u e).stay (fun c v hc q=>all3 c v ?_ q) (fun c q=>by rw [ze (neD q)];exact q) fun c xs q=>by rw [ze (neD q)];exact q
       rcases hc with rfl|hc
       ·exact neL e
       ·exact neL hc
    ·rcases hT2 with hP|⟨c1,oc,vs,t,hP,hc,hr⟩
     ·exact .inl (by rw [ze (Ne.symm DP)];exact hP)
     ·exact .inr ⟨c1,oc,vs,t,by rw [ze (Ne.symm DP)];exact hP,by rw [ze (fun z=>by rw [← z,hc] at D2;cases D2)];exact hc,hr⟩
    ·have:=List.pairwise_map.mp hp3
     exact this.imp fun h=>by simpa using h
end L2
set_option Elab.async false
set_option linter.all false
set_option maxRecDepth 100000
set_option maxHeartbeats 4000000
namespace L2
open PySem PySem.Spec PyProof.Rows
def zdj (mg:Str→Option Value) (base:Heap):Prop:=∃ bm o,mg "__builtins__"=some (.ref bm)∧bm≠builtinsNs∧bm≠mainGlobals∧base.get? bm=some o∧o.cls = .type "module"∧o.dict=some builtinsNs∧o.data = .plain
theorem zuI {P:Program}{w:World}{K:PySem.W.Frag}{mg mb:Str→Option Value}{CX:CXT}{k:Nat}{fa a:Addr}{fd:FuncData}{x:Str}{sp:Sp}{s₁:Shared}{vs:List Value}{ns:List Int}{ts:List Addr}
  (hT:∀ T∈ts,s₁.heap.get? T=some (PySem.W.tabObj #[])) (hC:∀ T∈ts,K.lookup T=none∧∃ c,PySem.W.codeHdIn K c T=true) (hbm:zdj mg s₁.heap)
  (KX:K.In s₁.heap) (hns:s₁.heap.Ns mainGlobals mg) (hb:s₁.heap.Ns builtinsNs mb) (hbb:∀ x:Str,x≠"__name__"→mb x=bootBuiltins x) (hlim:s₁.heap.NoLimit) (hg:s₁.gens = #[])
  (ha:s₁.heap.get? a=some { cls:=.type "list",data:=.seq vs.toArray }) (hi:IntsAre vs ns) (hl:ns.length≤sizeLine) (hr:zE true k callerA)
  (F:∀ base:Heap,K.In base→base.Ns mainGlobals mg→zdj mg base→zp P w K mg base CX true k fa fd [x] sp) (hbind:∀ (s:Shared) (u:Value),BindsTo s fd ⟨[u],[]⟩ [(x,u)])
  (hsp:∀ H:Hp,(∀ T∈ts,H T=some (.tbl #[]))→SqL K H a (ns.map V.int)→sp [.ref a] H (fun v _=>v = .bl true) fun _ _ _=>False)
  (hCX:∀ H e s',CX [] H s₁ (fun _ _ _=>False) e s'→False) :
  codeAny (model P w) callerA (.call (.ref fa) ⟨[.ref a],[]⟩) (fun r s'=>r = .ok (.ret (.bool true))∧OldK s₁.heap s'.heap∧s'.os=s₁.os∧AllBare s'.gens) s₁:=by
 have rv:=zkc hi
 have lenV:=hi.length
 have aT:a∉ts:=fun h=>by have:=hT a h;rw [ha] at this;cases this
 have core:∀ H:Hp,(∀ b,H b=none∨(∃ o xs,H b=some (.frz o (.lst xs)))∨(b∈ts∧H b=some (.tbl #[])))→(∀ T∈ts,H T=some (.tbl #[]))→SqL K H a (ns.map V.int)→HOk P w H s₁.heap→(∀ b,H b≠none→b=a∨b∈ts)→(H a≠none→K.lookup a=none) →
   codeAny (model P w) callerA (.call (.ref fa) ⟨[.ref a],[]⟩) (fun r s'=>r = .ok (.ret (.bool true))∧OldK s₁.heap s'.heap∧s'.os=s₁.os∧AllBare s'.gens) s₁:=by
  intro H hO hHT hS hok hA hK
  have base_of:∀ {b:Addr}{o:Obj},s₁.heap.get? b=some o→H b=none→(zbH s₁.heap H).get? b=some o:=fun e n=>znu e n
  have noA:∀ {b:Addr}{o:Obj},s₁.heap.get? b=some o→(∀ xs n,o.data≠.seq xs n)→(∀ ps,o.data≠.fields ps)→H b=none:=fun {b o} e d1 d2=>by
   cases q:H b with
   | none=>rfl
   | some u =>
    rcases hA b (by rw [q];simp) with e'|e'
    ·subst e'
     rw [ha] at e;cases e
     exact absurd rfl (d1 _ _)
    ·rw [hT b e'] at e;cases e
     exact absurd rfl (d2 _)
  have nsK:∀ {b:Addr}{m:Str→Option Value},s₁.heap.Ns b m→(zbH s₁.heap H).Ns b m:=fun {b m} ⟨o,es,ep,e,d,r⟩=>⟨o,es,ep,base_of e (noA e (fun _ _=>by rw [d];nofun) (fun _=>by rw [d];nofun)),d,r⟩
  have hKb:K.In (zbH s₁.heap H):=fun b o e=>base_of (KX b o e) (by
   cases q:H b with
   | none=>rfl
   | some u =>
    rcases hA b (by rw [q];simp) with e'|e'
    ·subst e'
     rw [hK (by rw [q];simp)] at e;cases e
    ·rw [(hC b e').1] at e;cases e)
  have hM:Mod K mg (zbH s₁.heap H):=⟨hKb,nsK hns,⟨mb,nsK hb,hbb⟩,let ⟨mc,h1,h2⟩:=hlim;⟨mc,nsK h1,h2⟩⟩
  have hB:zdj mg (zbH s₁.heap H):=let ⟨bm,o,b1,b2,b3,b4,b5,b6,b7⟩:=hbm;⟨bm,o,b1,b2,b3,base_of b4 (noA b4 (fun _ _=>by rw [b7];nofun) (fun _=>by rw [b7];nofun)),b5,b6,b7⟩
  have e0:zc8 P w K mg (zbH s₁.heap H) callerA [] s₁ H:=⟨rfl,.inl rfl,hM,fun b o e=>zw1 e,Nat.le_of_eq (zmv _ _),trivial,fun b hb=>absurd (show b∈([]:List Addr) from hb) (by simp),hok,.of_eq hg⟩
  refine codeAny_mono ((F _ hKb (nsK hns) hB).run callerA [] s₁ H ⟨[.ref a],[]⟩ [.ref a] [.ref a] _ _ hr e0 (hbind s₁ (.ref a)) (.cons rfl .nil) (hsp H hHT hS)) fun r s' h=>?_
  cases r with
  | error e=>exact (hCX H e s' h).elim
  | ok fl =>
   cases fl with
   | next=>exact False.elim h
   | brk=>exact False.elim h
   | cont=>exact False.elim h
   | ret u =>
    obtain ⟨v,H',os,bare,un,hok',r',q⟩:=h
    have q':v = .bl true:=q
    subst q'
    obtain rfl:u=Value.bool true:=r'
    have grown:∀ b,b∈ts→∃ more:Array Value,s'.heap.get? b=some (PySem.W.tabObj (#[]++more)):=fun b hb=>by
     obtain ⟨more,z⟩:=un.tbls b #[] (hHT b hb)
     exact ⟨more,hok' b _ z⟩
    refine ⟨rfl,⟨fun b o e=>?_,fun b o e=>un.there b o e (by simp)⟩,os,bare⟩
    cases q:H b with
    | none=>exact .inl (un.keep b o e q (by intro z;exact absurd (show b∈([]:List Addr) from z) (by simp)) (by simp))
    | some u =>
     rcases hO b with z|⟨ob,xs,z⟩|⟨hb,z⟩
     ·rw [q] at z;cases z
     ·have z2:=un.frzs b ob _ z
      obtain ⟨e1,_⟩:=hok b _ z
      obtain ⟨e2,_⟩:=hok' b _ z2
      rw [e] at e1;cases e1
      exact .inl e2
     ·obtain ⟨more,g⟩:=grown b hb
      have e2:=hT b hb
      rw [e] at e2
      cases e2
      obtain ⟨_,c,hc⟩:=hC b hb
      exact .inr (.inl ⟨((PySem.W.codeHd_of_K KX hc).tab (hT b hb)).isCodeTable,rfl,#[],more,rfl,g⟩)
 cases hk:K.lookup a with
 | some o =>
  have e:=KX a o hk
  rw [ha] at e
  cases e
  refine core (fun b=>if b∈ts then some (.tbl #[]) else none) (fun b=>?_) (fun T h=>if_pos h) (.inr ⟨_,vs.toArray,_,hk,rfl,rfl,rfl,by rw [List.size_toArray,lenV];exact hl,by simpa using rv⟩) (fun b u z=>?_) (fun b z=>?_) fun z=>absurd (if_neg aT) z
  ·by_cases hb:b∈ts
   ·exact .inr (.inr ⟨hb,if_pos hb⟩)
   ·exact .inl (if_neg hb)
  ·by_cases hb:b∈ts
   ·have z':=(if_pos hb).symm.trans z
    cases z'
    exact hT b hb
   ·have z':=(if_neg hb).symm.trans z
    cases z'
  ·by_cases hb:b∈ts
   ·exact .inr hb
   ·exact absurd (if_neg hb) z
 | none =>
  refine core (fun b=>if b=a then some (.frz { cls:=.type "list",data:=.seq vs.toArray } (.lst (ns.map V.int))) else if b∈ts then some (.tbl #[]) else none) (fun b=>?_) (fun T h=>?_) (.inl (.inr ⟨{ cls:=.type "list",data:=.seq vs.toArray },if_pos rfl⟩)) (fun b u z=>?_) (fun b z=>?_) fun _=>hk
  ·by_cases hb:b=a
   ·exact .inr (.inl ⟨_,_,if_pos hb⟩)
   ·by_cases hb2:b∈ts
    ·exact .inr (.inr ⟨hb2,by rw [if_neg hb,if_pos hb2]⟩)
    ·exact .inl (by rw [if_neg hb,if_neg hb2])
  ·rw [if_neg (fun z=>aT (by rw [← z];exact h)),if_pos h]
  ·by_cases hb:b=a
   ·have z':=(if_pos hb).symm.trans z
    cases z'
    subst hb
    exact ⟨ha,by rw [List.length_map];exact hl,vs,_,rv,ha⟩
   ·have z1:=(if_neg hb).symm.trans z
    by_cases hb2:b∈ts
    ·have z2:=(if_pos hb2).symm.trans z1
     cases z2
     exact hT b hb2
    ·have z2:=(if_neg hb2).symm.trans z1
     cases z2
  ·by_cases hb:b=a
   ·exact .inl hb
   ·by_cases hb2:b∈ts
    ·exact .inr hb2
    ·exact absurd (show (if b=a then _ else if b∈ts then _ else none)=none by rw [if_neg hb,if_neg hb2]) z
theorem walk_ofT {l:PySem.W.OpenLaw}{n k:Nat}{q:Program}{loose:List Str}{XP:(Str→Option Value)→Heap→Prop}{YP:World→Heap→Prop}{d:DefRec}{K:Params→PySem.W.Frag}{CX:World→CXT}{sp:World→Sp}{x:Str}{ts:List Addr}
  (hn:l.most=some n) (hn2:n≤sizeLine) (hdf:d.params.defaults=[]) (hr:zE true k callerA)
  (hY:∀ (w:World) (h:Heap),YP w h→(K w.params).In h∧∀ T∈ts,h.get? T=some (PySem.W.tabObj #[]))
  (F:∀ (w:World) (mg:Str→Option Value) (fa:Addr) (h:Heap),(K w.params).In h→h.Ns mainGlobals mg→mg d.name=some (.ref fa) →
   ∃ fd:FuncData,(∀ (s:Shared) (u:Value),BindsTo s fd ⟨[u],[]⟩ [(x,u)])∧(∀ T∈ts,(K w.params).lookup T=none∧∃ c,PySem.W.codeHdIn (K w.params) c T=true) ∧
    ∀ base:Heap,(K w.params).In base→base.Ns mainGlobals mg→zdj mg base→zp l.prog w (K w.params) mg base (CX w) true k fa fd [x] (sp w))
  (hsp:∀ (w:World) (H:Hp) (a:Addr) (ns:List Int),ns.length≤n→(∀ T∈ts,H T=some (.tbl #[]))→SqL (K w.params) H a (ns.map V.int)→sp w [.ref a] H (fun v _=>v = .bl true) fun _ _ _=>False)
  (hCX:∀ (w:World) (H:Hp) (s:Shared) (e:Value) (s':Shared),CX w [] H s (fun _ _ _=>False) e s'→False) :
  PySem.W.WalkO q loose XP YP l.row.toRowW d [] (fun f vs=>PySem.call f vs):=by
 refine Att.attach_call hn hdf fun w s₀ s₁ mg mb fa o pm cd doc a vs ns G Y ho hd hcd hmg hobj hints hlen hg=>?_
 obtain ⟨KX,hT⟩:=hY w _ Y
 obtain ⟨fd,hb,hC,hF⟩:=F w mg fa _ KX G.T.g hmg
 have hbm:zdj mg s₁.heap:=by
  obtain ⟨bm,ob,b1,b2,b3,b4,b5,b6⟩:=G.T.bmain
  refine ⟨bm,ob,b1,b2,fun z=>?_,b3,b4,b5,b6⟩
  obtain ⟨og,es,ep,eg,hdg,_⟩:=G.T.g
  rw [z,eg] at b3
  cases b3
  rw [hdg] at b6
  cases b6
 exact zuI hT hC hbm KX G.T.g G.T.b G.T.builtins G.T.nolimit hg hobj hints (Nat.le_trans hlen hn2) hr hF hb (fun H hO hS=>hsp w H a ns hlen hO hS) fun H e s'=>hCX w H s₁ e s'
theorem Fun.okC {P:Program}{w:World}{K:PySem.W.Frag}{mg:Str→Option Value}{base:Heap}{x qual:Str}{st:Stmt}{f c:Addr}{fd:FuncData}{N ps:List Str}{cm:Bool}{k:Nat}{sp:Sp} (F:Fun K x qual st f fd) (hc:fd.code = .ref c) (S:zz N ps (zd st)) (len:∀ vs H Q E,sp vs H Q E→vs.length=ps.length)
  (hbody:∀ (A:Around) (outer:List Env) (s:Shared) (H:Hp) (vs:List V) (Q:VK) (E:XK),zE cm k (A.deeper (envOfC qual (zd st) s.heap.objs.size f (.ref c)))→sp vs H Q E →
   ∃ t,PSs (zbe CX0 cm P w K mg base N qual (zd st) f (.ref c) A outer s H E).nox (zy st) t∧t { nx:=fun _ H'=>Q .non H',rt:=Q } (start N vs) H):zp P w K mg base CX0 cm (k+1) f fd ps sp:=by
 obtain ⟨oc,od,kV,doc,pm,an,cdv,ct,osl,rfl,lk,hcd⟩:=F.ex
 have e:cdv = .ref c:=hc
 subst e
 refine zh6 lk hcd S len fun A outer s H vs Q E hr hsp=>?_
 obtain ⟨t,h,q⟩:=hbody A outer s H vs Q E hr hsp
 exact ⟨t,h.nox,q⟩
end L2
set_option Elab.async false
set_option linter.all false
set_option maxRecDepth 100000
set_option maxHeartbeats 4000000
namespace L2
open PySem PySem.Spec PyProof.Rows
section
variable {X:Cx}
theorem ziW {cm:Bool}{k:Nat}{a:Expr}{ta:TE}{x:Str}{params:Arguments}{scope:Scope}{p pos lpos kp p1 p2 p3 p4 p5:Pos}{j1 j2:Nat}{P:Addr} (LB:zcY X.mg X.base X.env.code P) (hr:zE cm k X.A)
  (hg:Gl X "sorted") (hm:X.mg "sorted"=none) (ha:W (PE X a ta)) (hdef:defaultsOf params X.env=([],[])) (hcl:closureFor scope X.env=pure [])
  (hbind:∀ (q:Str) (pm cd ct v:Value),bindArgs (PySem.W.kla_fn "<lambda>" q params (.Subscript (.Subscript (.Name x p1) (.Constant (.int 0) j1 p2) p3) (.Constant (.int 1) j2 p4) p5) scope [] pm cd ct) ⟨[v],[]⟩=pure [(x,v)])
  (hloc:scope.names=[(x,.local)]) (hkind:scope.kind = .function) (hco:scope.isCoroutine=false) (hgen:scope.isGenerator=false) (hp:zI a=true:=by rfl) (hdb:(x == ("__debug__":Str))=false:=by decide) :
  W (PE X (.Call (.Name "sorted" p) [a] [⟨some (Str.ofString "key"),.Lambda params (.Subscript (.Subscript (.Name x p1) (.Constant (.int 0) j1 p2) p3) (.Constant (.int 1) j2 p4) p5) scope lpos,kp⟩] pos) (zis P lpos (X.env.qual++"<lambda>") ta)):=⟨zqm LB hr hg hm ha.h hdef hcl hbind hloc hkind hco hgen hp hdb⟩
def zhw (K:PySem.W.Frag) (D:Addr) (tb:(Addr→St→Hp→Prop)→TS) (ts:TS):TS:=fun Z σ H =>
 tb (fun C σ' H'=>zas K C∧PySem.W.mroIn K C (.ref D)=some true∧∀ ea oe,H' ea=none→zdt C oe→ts Z σ' (upd H' ea (.frz oe (.own 0)))) Z σ H
theorem zoa {D:Addr}{x:Str}{np hpos pos:Pos}{body:List Stmt}{b₀:Stmt}{suite:List Stmt}{tb:(Addr→St→Hp→Prop)→TS}{ts:TS} (hc:X.calm=true) (hex:X.ex=[]) (hstk:X.stack=X.env::X.outer∧X.env.frame=some X.env.locals)
  (OD:zas X.K D) (hg:Gl X x) (hm:X.mg x=some (.ref D))
  (hb:∀ pins Ex,PSs (zes X pins Ex) body (tb Ex)) (hs:∀ pins ea,PSs (zbK X pins ea) (b₀::suite) ts) (hdb:(x == ("__debug__":Str))=false:=by decide) :
  PS X (.Try body [.ExceptHandler (some (.Name x np)) none (b₀::suite) hpos] [] [] pos) (zhw X.K D tb ts):=by
 intro pins s σ H Z I h
 have hh:X.A.handled=none:=I.ok.hd hc
 refine wpAny_Try_except (wpAny_mono (hb pins _ [] s σ H Z (I.p.wish _) h) (fun f s1 q=>?_) fun e s1 q=>?_)
 ·cases f with
  | next =>
   obtain ⟨σ',H',J,q⟩:=q
   exact wpAny_execs_nil ⟨σ',H',Inv.unp I.ok J.unwish,q⟩
  | brk=>obtain ⟨σ',H',J,q⟩:=q;exact ⟨σ',H',Inv.unp I.ok J.unwish,q⟩
  | cont=>obtain ⟨σ',H',J,q⟩:=q;exact ⟨σ',H',Inv.unp I.ok J.unwish,q⟩
  | ret u=>obtain ⟨v,σ',H',J,r,q⟩:=q;exact ⟨v,σ',H',Inv.unp I.ok J.unwish,r,q⟩
 ·obtain ⟨ea,C,B,H',fl,σ',sI,rfl,J,y,os,bare,hB,up,OC,sub,want⟩:=q
  have fr:X.A.frames=some (X.env::X.outer):=by rw [I.ok.frames,hstk.1]
  rw [hstk.1] at y
  refine zhY fr hstk.2 y fun h2 y2 u2=>zeP (s:={ s1 with heap:=h2 }) y2 fun h3 y3 u3=>?_
  have y3':zaw B X.stack ea (.ref C) .none h3:=by rw [hstk.1];exact y3
  have up3:=(up.trans u2).trans u3
  obtain ⟨_,oe3,c3,g3,J3⟩:=zfR (s':={ s1 with heap:=h3 }) hex J y3' os bare hB up3
  obtain ⟨cdC,cC,eC⟩:=OC.obj J3.kIn
  obtain ⟨cdD,cD,eD⟩:=OD.obj J3.kIn
  have hsub:cdC.mro.contains (.ref D)=true:=by
   unfold PySem.W.mroIn at sub
   rw [cC] at sub
   simp only [Option.bind_some] at sub
   split at sub
   ·cases sub
   ·exact Option.some.inj sub
  refine wpAny_handleBy_cons (codeAny_handlers_test (zde (X:=zbK X pins ea) J3 hg hm ?_ hdb)) (by intro q;cases q)
  refine zlK (h:=h3) (g:=s1.gens) (d:=s1.drawn) (t:=s1.toks) (os:=s1.os) eC eD g3 c3.1 hsub ?_
  refine codeAny_handlers_suite ?_
  refine zeP (s:={ s1 with heap:=h3 }) y3 fun h4 y4 u4=>?_
  have y4':zaw B X.stack ea (.ref C) .none h4:=by rw [hstk.1];exact y4
  obtain ⟨hH4,oe4,c4,g4,J4⟩:=zfR (s':={ s1 with heap:=h4 }) hex J y4' os bare hB (up3.trans u4)
  refine wpAny_mono (hs pins ea [] _ _ _ _ J4 (want ea oe4 hH4 c4)) (fun f s6 q6=>?_) fun _ _ z=>z.elim
  cases f with
  | next=>obtain ⟨σ7,H7,J7,q7⟩:=q6;exact ⟨_,_,Inv.unsuite I.ok hh J7,q7⟩
  | brk=>obtain ⟨σ7,H7,J7,q7⟩:=q6;exact ⟨_,_,Inv.unsuite I.ok hh J7,q7⟩
  | cont=>obtain ⟨σ7,H7,J7,q7⟩:=q6;exact ⟨_,_,Inv.unsuite I.ok hh J7,q7⟩
  | ret u=>obtain ⟨v,σ7,H7,J7,r7,q7⟩:=q6;exact ⟨v,_,_,Inv.unsuite I.ok hh J7,r7,q7⟩
theorem zgY {D:Addr}{x:Str}{np hpos pos:Pos}{body:List Stmt}{b₀:Stmt}{suite:List Stmt}{tb:(Addr→St→Hp→Prop)→TS}{ts:TS} (hc:X.calm=true) (hex:X.ex=[]) (hstk:X.stack=X.env::X.outer∧X.env.frame=some X.env.locals)
  (OD:zas X.K D) (hg:Gl X x) (hm:X.mg x=some (.ref D))
  (hb:∀ pins Ex,W (PSs (zes X pins Ex) body (tb Ex))) (hs:∀ pins ea,W (PSs (zbK X pins ea) (b₀::suite) ts)) (hdb:(x == ("__debug__":Str))=false:=by decide) :
  W (PS X (.Try body [.ExceptHandler (some (.Name x np)) none (b₀::suite) hpos] [] [] pos) (zhw X.K D tb ts)):=⟨zoa hc hex hstk OD hg hm (fun pins Ex=>(hb pins Ex).h) (fun pins ea=>(hs pins ea).h) hdb⟩
theorem zn6 {K:PySem.W.Frag}{D:Addr}{tb:(Addr→St→Hp→Prop)→TS}{ts:TS}{Z:zaq}{σ:St}{H:Hp}:zhw K D tb ts Z σ H=tb (fun C σ' H'=>zas K C∧PySem.W.mroIn K C (.ref D)=some true∧∀ ea oe,H' ea=none→zdt C oe→ts Z σ' (upd H' ea (.frz oe (.own 0)))) Z σ H:=rfl
def zgb (neg:Bool):R2:=fun x y H Q=>∃ a b xs ys,x = .ref a∧y = .ref b∧H a=some (.lst xs)∧H b=some (.lst ys)∧(xs.length=0∨ys.length=0)∧Q (.bl (if neg then !decide (xs.length=ys.length) else decide (xs.length=ys.length))) H
theorem zgh (hu:X.A.units<cLine):OpR X (compareOp .Eq) (zgb false):=by
 intro pins s σ H x y v u Q I rx ry h
 obtain ⟨a,b,xs,ys,rfl,rfl,ha,hb,h0,q⟩:=h
 cases rx
 cases ry
 by_cases hz:xs.length=ys.length
 ·have h1:xs=[]:=List.length_eq_zero_iff.mp (by omega)
  have h2:ys=[]:=List.length_eq_zero_iff.mp (by omega)
  subst h1 h2
  exact zjY hu pins s σ H (.ref a) (.ref b) (.ref a) (.ref b) Q I rfl rfl ⟨a,b,[],[],rfl,rfl,SqL.of ha,SqL.of hb,rfl,rfl,q⟩
 ·obtain ⟨is,r1,p1,_⟩:=I.list (SqL.of (K:=X.K) ha)
  obtain ⟨js,r2,p2,_⟩:=I.list (SqL.of (K:=X.K) hb)
  have l1:=r1.length
  have l2:=r2.length
  refine SeqAt.eq_list_lengthsAt p1.isList p2.isList (by simp;omega) hu ⟨.bl false,H,I,rfl,?_⟩
  have q':Q (.bl (decide (xs.length=ys.length))) H:=q
  rw [decide_eq_false hz] at q'
  exact q'
theorem zuL (hu:X.A.units<cLine):OpR X (compareOp .NotEq) (zgb true):=by
 intro pins s σ H x y v u Q I rx ry h
 obtain ⟨a,b,xs,ys,rfl,rfl,ha,hb,h0,q⟩:=h
 cases rx
 cases ry
 by_cases hz:xs.length=ys.length
 ·have h1:xs=[]:=List.length_eq_zero_iff.mp (by omega)
  have h2:ys=[]:=List.length_eq_zero_iff.mp (by omega)
  subst h1 h2
  exact zk1 hu pins s σ H (.ref a) (.ref b) (.ref a) (.ref b) Q I rfl rfl ⟨a,b,[],[],rfl,rfl,SqL.of ha,SqL.of hb,rfl,rfl,q⟩
 ·obtain ⟨is,r1,p1,_⟩:=I.list (SqL.of (K:=X.K) ha)
  obtain ⟨js,r2,p2,_⟩:=I.list (SqL.of (K:=X.K) hb)
  have l1:=r1.length
  have l2:=r2.length
  refine SeqAt.RcNeAt.lists_lengths p1.isList p2.isList (by simp;omega) hu _ _ _ _ ⟨.bl true,H,I,rfl,?_⟩
  have q':Q (.bl (!decide (xs.length=ys.length))) H:=q
  rw [decide_eq_false hz] at q'
  exact q'
theorem zlL {neg:Bool}{a b:Addr}{H:Hp}{Q:VK}:zgb neg (.ref a) (.ref b) H Q = ∃ xs ys,H a=some (.lst xs)∧H b=some (.lst ys)∧(xs.length=0∨ys.length=0)∧Q (.bl (if neg then !decide (xs.length=ys.length) else decide (xs.length=ys.length))) H:=by
 apply propext;constructor
 ·rintro ⟨a',b',xs,ys,e1,e2,h⟩;cases e1;cases e2;exact ⟨xs,ys,h⟩
 ·rintro ⟨xs,ys,h⟩;exact ⟨a,b,xs,ys,rfl,rfl,h⟩
def zio:List V→Hp→VK→Prop:=fun xs H Q=>∃ i,xs=[.int i]∧Q (.int (if i<0 then -i else i)) H
theorem ztH {i:Int}{H:Hp}{Q:VK}:zio [.int i] H Q=Q (.int (if i<0 then -i else i)) H:=by simp [zio]
theorem zrH:zJ X (.builtin "abs") zio:=by
 intro pins s σ H xs us Q I r h
 obtain ⟨i,rfl,q⟩:=h
 obtain ⟨u,rfl,t,rfl⟩:=zbN r
 exact call_abs_int fun u tk=>⟨.int _,H,I.tok tk,⟨_,rfl⟩,q⟩
def zmd (K:PySem.W.Frag):List V→Hp→VK→Prop:=fun xs H Q=>zeh K xs H Q∨∃ x tp cs us t b,xs=[x,.ref tp]∧H tp=some (.tup cs)∧cs.map zhp=us.map some∧TyX K H x t∧PySem.W.kitAny K t us=some b∧Q (.bl b) H
theorem zlh:∀ {cs:List V}{us its:List Value},cs.map zhp=us.map some→zk cs its→its=us
 | [],[],_,_,.nil=>rfl
 | [],_::_,_,h,_=>by cases h
 | c::cs,[],_,h,_=>by cases h
 | c::cs,u::us,_,h,.cons r rr=>by
  rw [List.map_cons,List.map_cons] at h
  injection h with h1 h2
  rw [zlh h2 rr]
  congr 1
  cases c with
  | ref a=>cases h1;exact r
  | ty n=>cases h1;exact r
  | _=>cases h1
theorem zsd:zJ X (.builtin "isinstance") (zmd X.K):=by
 intro pins s σ H xs us Q I r h
 rcases h with h|⟨x,tp,cs,ws,t,b,rfl,htp,hcs,ty,hk,q⟩
 ·exact zdB pins s σ H xs us Q I r h
 ·cases r with
  | cons r1 rr =>
   cases rr with
   | cons r2 rr =>
    cases rr
    cases r2
    rename_i v1
    obtain ⟨_,its,rv,o,e,hc,n,hd⟩:=I.hok tp _ htp
    have hits:=zlh hcs rv
    subst hits
    obtain ⟨ocls,odct,odat,osl⟩:=o
    cases hc
    cases hd
    cases ty with
    | of ty =>
     cases ty with
     | non=>cases (show v1=Value.none from r1);exact PySem.W.kia_tup PySem.W.kitx_none I.kIn True.intro e hk (fun z=>nomatch z) fun tk=>⟨.bl b,H,I.tok tk,rfl,q⟩
     | bl y=>cases (show v1=Value.bool y from r1);exact PySem.W.kia_tup PySem.W.kitx_bool I.kIn True.intro e hk (fun z=>nomatch z) fun tk=>⟨.bl b,H,I.tok tk,rfl,q⟩
     | int i=>obtain ⟨t,z⟩:=(show ∃ t,v1=Value.int i t from r1);cases z;exact PySem.W.kia_tup PySem.W.kitx_int I.kIn True.intro e hk (fun z=>nomatch z) fun tk=>⟨.bl b,H,I.tok tk,rfl,q⟩
     | str y=>obtain ⟨t,z⟩:=(show ∃ t,v1=Value.str y t from r1);cases z;exact PySem.W.kia_tup PySem.W.kitx_str I.kIn True.intro e hk (fun z=>nomatch z) fun tk=>⟨.bl b,H,I.tok tk,rfl,q⟩
     | flt y=>obtain ⟨t,z⟩:=(show ∃ t,v1=Value.float y t from r1);cases z;exact PySem.W.kia_tup PySem.W.kitx_float I.kIn True.intro e hk (fun z=>nomatch z) fun tk=>⟨.bl b,H,I.tok tk,rfl,q⟩
     | @lst a xs ea =>
      cases (show v1=Value.ref a from r1)
      obtain ⟨_,_,n',_,h1⟩:=(show zY X.prog X.w H s.heap a (.lst xs) from I.hok a _ ea)
      exact PySem.W.kia_tup PySem.W.kitx_list I.kIn ⟨_,h1,rfl⟩ e hk (fun z=>nomatch z) fun tk=>⟨.bl b,H,I.tok tk,rfl,q⟩
     | @frz a ob xs ea =>
      cases (show v1=Value.ref a from r1)
      obtain ⟨_,_,_,n',_,h1⟩:=(show zY X.prog X.w H s.heap a (.frz ob (.lst xs)) from I.hok a _ ea)
      exact PySem.W.kia_tup PySem.W.kitx_list I.kIn ⟨_,h1,rfl⟩ e hk (fun z=>nomatch z) fun tk=>⟨.bl b,H,I.tok tk,rfl,q⟩
     | @tup a xs ea =>
      cases (show v1=Value.ref a from r1)
      obtain ⟨_,_,_,p⟩:=(show zY X.prog X.w H s.heap a (.tup xs) from I.hok a _ ea)
      obtain ⟨o,h1,h2,_⟩:=p
      exact PySem.W.kia_tup PySem.W.kitx_tuple I.kIn ⟨o,h1,h2⟩ e hk (fun z=>nomatch z) fun tk=>⟨.bl b,H,I.tok tk,rfl,q⟩
     | @dK a kvs ea =>
      cases (show v1=Value.ref a from r1)
      obtain ⟨_,_,vs,_,p⟩:=(show zY X.prog X.w H s.heap a (.dK kvs) from I.hok a _ ea)
      obtain ⟨o,es,ep,h1,h2,_⟩:=p
      exact PySem.W.kia_tup PySem.W.kitx_dict I.kIn ⟨o,h1,h2.1⟩ e hk (fun z=>nomatch z) fun tk=>⟨.bl b,H,I.tok tk,rfl,q⟩
     | @dT a kvs ea =>
      cases (show v1=Value.ref a from r1)
      obtain ⟨_,_,xs,_,o,es,ep,h1,h2,_⟩:=(show zY X.prog X.w H s.heap a (.dT kvs) from I.hok a _ ea)
      exact PySem.W.kia_tup PySem.W.kitx_dict I.kIn ⟨o,h1,h2.1⟩ e hk (fun z=>nomatch z) fun tk=>⟨.bl b,H,I.tok tk,rfl,q⟩
     | @ins a C dx fs ea cl ha hn htk hm =>
      cases (show v1=Value.ref a from r1)
      obtain ⟨mA,O,_⟩:=zet I.hok ea
      obtain ⟨od,J,_⟩:=O.look
      exact PySem.W.kia_tup (PySem.W.kitx_own (cl.get _) cl.hd ha hn htk hm) I.kIn J e hk (fun z=>nomatch z) fun tk=>⟨.bl b,H,I.tok tk,rfl,q⟩
    | exc e0 ho O =>
     rename_i a C o
     obtain rfl:v1=Value.ref a:=r1
     obtain ⟨z,_⟩:=I.hok a _ e0
     obtain ⟨c1,c2,vs,c3⟩:=ho
     have J:PySem.W.InstAt s.heap a o C none:=⟨z,c1,by unfold PySem.W.notCls;rw [c3],by rw [c2];trivial⟩
     exact PySem.W.kia_tup (zjd O) I.kIn J e hk (fun w=>nomatch w) fun tk=>⟨.bl b,H,I.tok tk,rfl,q⟩
end
theorem zmb {X:Cx}{K:PySem.W.Frag} (h:X.K=K):zJ X (.builtin "isinstance") (zmd K):=by subst h;exact zsd
section
variable {K:PySem.W.Frag}{g:TG}{tt:TT}{te:TE}{H:Hp}{Q:VK}
theorem zah.enum {a:Addr}{xs:List V}{τ:St} (Pv:Nat→St→List V→Hp→Prop) (hz:∀ i τ ys H,Pv i τ ys H→ys.length<sizeLine) (ha:∀ i τ ys H,Pv i τ ys H→SqL K H a xs) (h0:Pv 0 τ [] H)
  (hs:∀ (N:St→List V→Hp→Prop) i x p τ ys H,xs[i]?=some x→Pv i τ ys H→H p=none→(∀ τ ys H,Pv (i+1) τ ys H→N τ ys H)→g (.ref p) τ (upd H p (.tup [.int i,x])) fun τ1 H4=>tt τ1 H4 fun ok H5=>zbU N ys τ1 te ok H5) (hd:∀ τ ys H,Pv xs.length τ ys H→∀ D H',New H D (.lst ys) H'→D≠sysModules→Q (.ref D) H'):zah (Ite K a) g tt te τ H Q:=by
 refine ⟨fun i m τ ys H=>m=xs.length - i∧i≤xs.length∧Pv i τ ys H,⟨xs.length,by simp,Nat.zero_le _,h0⟩,?_⟩
 rintro i m τ ys H2 ⟨rfl,hi,p⟩
 refine ⟨hz i τ ys H2 p,?_⟩
 have q:=ha i τ ys H2 p
 by_cases hlt:i<xs.length
 ·refine .inr ⟨⟨xs,xs[i],q,by simp [hlt]⟩,fun x H' y=>?_⟩
  obtain ⟨T,z,hT,rfl,rfl,hz⟩:=y
  exact hs (fun τ1 ys H=>∃ m',m'<xs.length - i∧m'=xs.length - (i+1)∧i+1≤xs.length∧Pv (i+1) τ1 ys H) i z T τ ys _ (hz xs q) p hT fun τ1 zs H q=>⟨xs.length - (i+1),by omega,rfl,hlt,q⟩
 ·have e:i=xs.length:=by omega
  subst e
  exact .inl ⟨⟨xs,q,Nat.le_refl _⟩,fun D hD hs=>hd τ ys H2 p D _ (.mk' hD) hs⟩
theorem zah.rngS {lo:Int}{n:Nat}{τ:St} (Pv:Nat→St→List V→Hp→Prop) (hz:∀ i τ ys H,Pv i τ ys H→ys.length<sizeLine) (h0:Pv 0 τ [] H)
  (hs:∀ (N:St→List V→Hp→Prop) i τ ys H,i<n→Pv i τ ys H→(∀ τ ys H,Pv (i+1) τ ys H→N τ ys H)→g (.int (lo+i)) τ H fun τ1 H4=>tt τ1 H4 fun ok H5=>zbU N ys τ1 te ok H5) (hd:∀ τ ys H,Pv n τ ys H→∀ D H',New H D (.lst ys) H'→D≠sysModules→Q (.ref D) H'):zah (Itr lo n) g tt te τ H Q:=by
 refine ⟨fun i m τ ys H=>m=n - i∧i≤n∧Pv i τ ys H,⟨n,by simp,Nat.zero_le _,h0⟩,?_⟩
 rintro i m τ ys H2 ⟨rfl,hi,p⟩
 refine ⟨hz i τ ys H2 p,?_⟩
 by_cases hlt:i<n
 ·refine .inr ⟨hlt,fun x H' y=>?_⟩
  obtain ⟨rfl,rfl⟩:=y
  exact hs (fun τ1 ys H=>∃ m',m'<n - i∧m'=n - (i+1)∧i+1≤n∧Pv (i+1) τ1 ys H) i τ ys _ hlt p fun τ1 zs H q=>⟨n - (i+1),by omega,rfl,hlt,q⟩
 ·have e:i=n:=by omega
  subst e
  exact .inl ⟨Nat.le_refl _,fun D hD hs=>hd τ ys H2 p D _ (.mk' hD) hs⟩
end
theorem zpl {c:Bool}{i:Int}{p:Addr}{H:Hp}{Q:VK}:zhQ c (.int i) (.ref p) H Q = ∃ kvs,Rd H p (.dK kvs)∧Q (.bl (if c then !(zat kvs (.inl i)).isSome else (zat kvs (.inl i)).isSome)) H:=by
 apply propext;constructor
 ·rintro ⟨a,k,kvs,e1,e2,h,q⟩
  cases e1
  cases k with
  | inl i=>cases e2;exact ⟨kvs,h,q⟩
  | inr x=>cases e2
 ·rintro ⟨kvs,h,q⟩;exact ⟨p,.inl i,kvs,rfl,rfl,h,q⟩
theorem zfF {X:Cx}{K:PySem.W.Frag} (hK:X.K=K) {a:Expr}{ta:TE} (ha:W (PE X a ta)) (he:∀ whole,isTrue a X.env whole=(do let v←whole;standAt a.pos;holding [v] (truthy v)):=by intro _;rfl):W (PT X a (zfx K ta)):=by subst hK;exact ⟨zjo ha.h he⟩
end L2
set_option Elab.async false
set_option linter.all false
set_option maxRecDepth 100000
set_option maxHeartbeats 4000000
namespace L2
open PySem PySem.Spec PyProof.Rows
def zaZ (f:Nat→Int):Nat→Option Int
 | 0=>none
 | j+1=>some (match zaZ f j with|none=>f j|some m=>if f j>m then f j else m)
def zfr:Option Int→Array Value→Prop|none,its=>its = #[]|some m,its=>∃ t,its = #[.int m t,.int m t]
def zhy (d:Value):Option Int→Value→Prop|none,v=>v=d|some m,v=>∃ t,v = .int m t
section
variable {prog:Program}{w:World}{A:Around}{E:Value→Shared→Prop}{s:Shared}
theorem zpQ {R:Result→Shared→Prop}{I:Addr}{fp wr:List Addr}{n:Nat}{P:Nat→Value→Prop}{St:Nat→Heap→Prop}{d:Value}{kw:List (Str×Value)} (W:Walks prog w A.in1 I fp wr n P St) (f:Nat→Int) (hv:∀ i v,P i v→∃ t,v = .int (f i) t) (S:Addr) (hSf:S∉fp) (hkw:0<n∨kw=[(Str.ofString "default",d)]) :
  ∀ (k j:Nat) (s:Shared) (c:Nat) (its:Array Value),n - j=k→j≤n→St j s.heap→zfr (zaZ f j) its →
  s.heap.get? S=some { cls:=.type "list",dict:=none,data:=.seq its c,slots:=#[] } →
  (∀ v h' tk,zhy d (zaZ f n) v→(∀ b o,b∉wr→b≠S→s.heap.get? b=some o→h'.get? b=some o)→R (.ok (.ret v)) { s with heap:=h',toks:=tk }) →
  codeAny (model prog w) A (.builtin "max.loop" ⟨[.ref I,.none,.ref S],kw⟩) R s:=by
 have hSw:S∉wr:=fun h=>hSf (W.sub _ h)
 have hname:(toString "max"++toString ".loop":String)="max.loop":=by decide
 intro k
 induction k with
 | zero =>
  intro j s c its hk hj hst hC hS hR
  have hin:j=n:=by omega
  refine codeAny_builtin F.entry_max_loop ?_
  rw [Around.under_plainId F.plain_max_loop _]
  show wpAny _ A.in1 (seqItems? (.ref S)>>=_) _ _ s
  refine wpAny_bind (wpAny_seqItems hS rfl ?_)
  show wpAny _ A.in1 (tryCatch (pyNext (.ref I)) _>>=_) _ _ s
  refine wpAny_bind (wpAny_tryCatch (W.done s _ _ (hin ▸ hst) fun h' tk hk'=>?_))
  have hS':=hk' S _ hSw hS
  rw [hin] at hC
  cases hb:zaZ f n with
  | none =>
   rw [hb] at hC hR
   cases (show its = #[] from hC)
   have h0 : ¬ 0<n:=fun z=>by
    cases n with
    | zero=>omega
    | succ m=>cases hb
   rcases hkw with z|rfl
   ·exact absurd z h0
   show wpAny _ A.in1 (rule _>>=_) _ _ _
   exact wpAny_bind (wpAny_rule (wpAny_pure (hR d _ tk rfl fun b o hbw _ e=>hk' b o hbw e)))
  | some m =>
   rw [hb] at hC hR
   obtain ⟨t,rfl⟩:=hC
   show wpAny _ A.in1 (updateSeq S (fun _=>#[])>>=_) _ _ _
   refine wpAny_bind (wpAny_updateSeq hS' rfl (wpAny_bind (wpAny_letGo (wpAny_pure ?_))))
   exact hR _ _ tk ⟨t,rfl⟩ fun b o hbw hbS e=>(Heap.get?_update_other _ _ (Ne.symm hbS)).trans (hk' b o hbw e)
 | succ k ih =>
  intro j s c its hk hj hst hC hS hR
  have hlt:j<n:=by omega
  refine codeAny_builtin F.entry_max_loop ?_
  rw [Around.under_plainId F.plain_max_loop _]
  show wpAny _ A.in1 (seqItems? (.ref S)>>=_) _ _ s
  refine wpAny_bind (wpAny_seqItems hS rfl ?_)
  show wpAny _ A.in1 (tryCatch (pyNext (.ref I)) _>>=_) _ _ s
  refine wpAny_bind (wpAny_tryCatch (W.item j s _ _ hlt hst fun v h' tk hP hst' hk'=>?_))
  have hS':=hk' S _ hSw hS
  obtain ⟨t,rfl⟩:=hv j v hP
  have upd':∀ {b o}{g:Array Value→Array Value},b≠S→h'.get? b=some o→(h'.update S (Obj.mapSeq g)).get? b=some o:=fun n e=>(Heap.get?_update_other _ _ (Ne.symm n)).trans e
  have frm:∀ {g:Array Value→Array Value},St (j+1) (h'.update S (Obj.mapSeq g)):=fun {g}=>W.frame _ _ _ hst' fun b hb o e=>upd' (fun z=>hSf (z ▸ hb)) e
  cases hb:zaZ f j with
  | none =>
   rw [hb] at hC
   cases (show its = #[] from hC)
   show wpAny _ A.in1 (updateSeq S (fun _=>#[.int (f j) t,.int (f j) t])>>=_) _ _ _
   refine wpAny_bind (wpAny_updateSeq hS' rfl ?_)
   rw [hname]
   refine wpAny_pure ⟨plainId_quiet F.plain_max_loop _,ih (j+1) _ _ _ (by omega) hlt frm ?_ (Heap.get?_update_self _ hS' rfl) fun v' h2 tk2 hP' hk2=>?_⟩
   ·show zfr (some _) _
    rw [hb];exact ⟨t,rfl⟩
   ·exact hR v' h2 tk2 hP' fun b o hbw hbS e=>hk2 b o hbw hbS (upd' hbS (hk' b o hbw e))
  | some m =>
   rw [hb] at hC
   obtain ⟨u,rfl⟩:=hC
   show wpAny _ A.in1 (tryCatch (holding [.int (f j) t,.int (f j) t] (richCompare .Gt (.int (f j) t) (.int m u)>>=_)) _>>=_) _ _ _
   obtain ⟨bt,hbt,hcmp⟩:∃ bt:Nat→Nat→Bool,bt 0 1=decide (f j>m)∧CmpOf prog w A.in1 .Gt (fun i v=>(i=0∧v = .int (f j) t)∨(i=1∧v = .int m u)) bt:=⟨_,rfl,CmpOf.ints_gt (fun i=>if i=0 then f j else m) fun i v h=>by rcases h with ⟨rfl,rfl⟩|⟨rfl,rfl⟩ <;> exact ⟨_,rfl⟩⟩
   refine wpAny_bind (wpAny_tryCatch (wpAny_holding (wpAny_bind (hcmp 0 1 _ _ _ _ _ (.inl ⟨rfl,rfl⟩) (.inr ⟨rfl,rfl⟩) ?_))))
   refine wpAny_bind (wpAny_holding (wpAny_truthy_bool ?_))
   refine wpAny_bind (wpAny_letGo (wpAny_pure ?_))
   by_cases hg:f j>m
   ·rw [hbt,decide_eq_true hg]
    simp only [if_true]
    refine wpAny_bind (wpAny_updateSeq hS' rfl (wpAny_bind (wpAny_letGo ?_)))
    rw [hname]
    refine wpAny_pure ⟨plainId_quiet F.plain_max_loop _,ih (j+1) _ _ _ (by omega) hlt frm ?_ (Heap.get?_update_self _ hS' rfl) fun v' h2 tk2 hP' hk2=>?_⟩
    ·show zfr (some _) _
     rw [hb];simp only [if_pos hg];exact ⟨t,rfl⟩
    ·exact hR v' h2 tk2 hP' fun b o hbw hbS e=>hk2 b o hbw hbS (upd' hbS (hk' b o hbw e))
   ·rw [hbt,decide_eq_false hg]
    simp only [Bool.false_eq_true,if_false]
    refine wpAny_bind (wpAny_letGo ?_)
    rw [hname]
    refine wpAny_pure ⟨plainId_quiet F.plain_max_loop _,ih (j+1) _ _ _ (by omega) hlt hst' ?_ hS' fun v' h2 tk2 hP' hk2=>?_⟩
    ·show zfr (some _) _
     rw [hb];simp only [if_neg hg];exact ⟨u,rfl⟩
    ·exact hR v' h2 tk2 hP' fun b o hbw hbS e=>hk2 b o hbw hbS (hk' b o hbw e)
theorem zrK (a d:Value):argsOk "max" ⟨[a],[(Str.ofString "default",d)]⟩:=by unfold argsOk;kernel_rfl
theorem zu7 {l:Addr}{its:Array Value}{f:Nat→Int}{kw:List (Str×Value)}{d:Value}{Q:Value→Shared→Prop} (hh:A.handled=none) (hl:s.heap.IsList l its) (hv:∀ (i:Nat) v,its[i]?=some v→∃ t,v = .int (f i) t) (hkw:(0<its.size∧kw=[])∨kw=[(Str.ofString "default",d)])
  (h:∀ v h' tk,zhy d (zaZ f its.size) v→(∀ b o,s.heap.get? b=some o→h'.get? b=some o)→Q v { s with heap:=h',toks:=tk }) :
  wpAny (model prog w) A (call (.builtin "max") [.ref l] kw) Q E s:=by
 have hname:(toString "max"++toString ".loop":String)="max.loop":=by decide
 have hlt:l<s.heap.objs.size:=by obtain ⟨_,e,_⟩:=hl;exact Heap.lt_size e
 have hao:argsOk "max" ⟨[.ref l],kw⟩:=by
  rcases hkw with ⟨_,rfl⟩|rfl
  ·exact F.args_max1 _
  ·exact zrK _ _
 refine PyProof.Rows.kmk_tree F.kind_max F.plain_max F.entry_max hao ?_
 obtain ⟨df,hdf,hdk⟩:∃ df:Option Value,Builtin.Builtins.bindParams "max" ["key","default"] 0 ⟨[],kw⟩=pure [none,df]∧(df.toList.map fun d=>((Str.ofString "default":Str),d))=kw:=by
  rcases hkw with ⟨_,rfl⟩|rfl
  ·exact ⟨none,rfl,rfl⟩
  ·exact ⟨some d,rfl,rfl⟩
 show wpAny _ A.in1 (Builtin.Builtins.bindParams "max" ["key","default"] 0 ⟨[],kw⟩>>=_) _ _ s
 refine wpAny_bind (wpAny_of_eq hdf ?_)
 refine wpAny_bind (wpAny_pure ?_)
 refine wpAny_bind (wpAny_pyIter_list hl ?_)
 refine wpAny_bind (wpAny_newObj_type ?_)
 rw [hname]
 have hS:(s.heap.push { cls:=.type "list_iterator",data:=.fields #[.ref l,.int 0 0] }).objs.size=s.heap.objs.size+1:=size_push' ..
 have hlI:l≠s.heap.objs.size:=Nat.ne_of_lt hlt
 refine wpAny_pure ⟨plainId_quiet F.plain_max_loop _,?_⟩
 show codeAny _ A (.builtin "max.loop" ⟨[_,.none,_],df.toList.map fun d=>((Str.ofString "default":Str),d)⟩) _ _
 rw [hdk]
 refine zpQ (Walks.list (A:=A.in1) hh _ l hlI its) f hv _ (fun hm=>?_) (hkw.imp (·.1) id) _ 0 _ _ #[] rfl (Nat.zero_le _) ⟨⟨_,Heap.get?_push_of_some _ (Heap.get?_push_size _ rfl),rfl,rfl⟩,(hl.push _).push _⟩ rfl (Heap.get?_push_size _ rfl) fun v h' tk hr hk=>?_
 ·rcases List.mem_cons.mp hm with e|hm
  ·rw [hS] at e;exact absurd e (Nat.ne_of_gt (Nat.lt_succ_self _))
  ·rcases List.mem_cons.mp hm with e|hm
   ·rw [hS] at e;exact absurd (e ▸ Nat.lt_succ_of_lt hlt) (Nat.lt_irrefl _)
   ·cases hm
 ·refine h v h' tk hr fun b o e=>hk b o (fun hm=>?_) (fun z=>?_) (Heap.get?_push_of_some _ (Heap.get?_push_of_some _ e))
  ·rcases List.mem_cons.mp hm with e1|hm
   ·exact absurd (e1 ▸ Heap.lt_size e) (Nat.lt_irrefl _)
   ·cases hm
  ·have:=Heap.lt_size e;rw [z,hS] at this;exact absurd this (Nat.not_lt.mpr (Nat.le_succ _))
end
section
variable {X:Cx}
def zxv:List Int→Option Int
 | []=>none
 | xs=>zaZ (fun i=>xs.getD i 0) xs.length
def oi:Option Int→V|none=>.non|some m=>.int m
def zhF:List V→Hp→VK→Prop:=fun xs H Q=>zhO xs H Q∨∃ (l:Addr) (ks:List Int),xs=[.ref l]∧H l=some (.lst (ks.map V.int))∧0<ks.length∧Q (oi (zaZ (fun i=>ks.getD i 0) ks.length)) H
theorem zos {ks:List Int}{its:List Value} (r:zk (ks.map V.int) its):∀ (i:Nat) v,its.toArray[i]?=some v→∃ t,v = .int (ks.getD i 0) t:=by
 intro i v h
 rw [← Array.getElem?_toList] at h
 replace h:its[i]?=some v:=h
 induction ks generalizing its i with
 | nil=>cases r;simp at h
 | cons k ks ih =>
  cases r with
  | cons r rr =>
   cases i with
   | zero=>obtain ⟨t,rfl⟩:=r;simp at h;subst h;exact ⟨t,rfl⟩
   | succ i=>exact ih rr i (by simpa using h)
theorem zt5 {o:Option Int}{v:Value} (h:zhy .none o v):zi (oi o) v:=by
 cases o with
 | none=>cases (show v = .none from h);rfl
 | some m=>obtain ⟨t,rfl⟩:=h;exact ⟨_,rfl⟩
theorem zgR (hc:X.calm=true):zJ X (.builtin "max") zhF:=by
 intro pins s σ H xs us Q I r h
 rcases h with h|⟨l,ks,rfl,hl,hn,q⟩
 ·exact zsI hc pins s σ H xs us Q I r h
 ·obtain ⟨u,rfl,ru⟩:=zbN r
  cases ru
  obtain ⟨its,rv,p,hz⟩:=I.list (SqL.of (K:=X.K) hl)
  have hlen:=rv.length
  rw [List.length_map] at hlen
  refine zu7 (d:=.none) (f:=fun i=>ks.getD i 0) (I.ok.hd hc) p.isList (zos rv) (.inl ⟨by rw [List.size_toArray];omega,rfl⟩) fun v h' tk hr hk=>⟨_,H,I.kept hk,zt5 hr,?_⟩
  rw [List.size_toArray,← hlen]
  exact q
def ztZ (ta:TE):TE:=fun σ H Q=>ta σ H fun v H1=>uR v fun l=>∃ ks:List Int,H1 l=some (.lst (ks.map V.int))∧Q (oi (zaZ (fun i=>ks.getD i 0) ks.length)) H1
theorem zoQ {ta:TE}{σ:St}{H:Hp}{Q:VK}:ztZ ta σ H Q=ta σ H fun v H1=>uR v fun l=>∃ ks:List Int,H1 l=some (.lst (ks.map V.int))∧Q (oi (zaZ (fun i=>ks.getD i 0) ks.length)) H1:=rfl
theorem zuT {i j:Int}{H:Hp}{Q:VK}:zhF [.int i,.int j] H Q=Q (.int (if j>i then j else i)) H:=by
 apply propext;constructor
 ·rintro (h|⟨l,ks,e,_⟩)
  ·rw [zg8] at h;exact h
  ·cases e
 ·exact fun q=>.inl (by rw [zg8];exact q)
theorem zkY {l:Addr}{H:Hp}{Q:VK}:zhF [.ref l] H Q = ∃ ks:List Int,H l=some (.lst (ks.map V.int))∧0<ks.length∧Q (oi (zaZ (fun i=>ks.getD i 0) ks.length)) H:=by
 apply propext;constructor
 ·rintro (⟨i,j,e,_⟩|⟨l',ks,e,h⟩)
  ·cases e
  ·cases e;exact ⟨ks,h⟩
 ·rintro ⟨ks,h⟩;exact .inr ⟨l,ks,rfl,h⟩
def zin (to te:TE):TE:=fun σ H Q=>to σ H fun x H1=>uR x fun l=>(∃ xs,H1 l=some (.lst xs))∧te σ H1 fun y H2=>∃ (xs:List V) (k:Nat) (v:V),y = .int k∧H2 l=some (.lst xs)∧xs[k]?=some v∧Q v (upd H2 l (.lst (xs.eraseIdx k)))
theorem zrL {to te:TE}{σ:St}{H:Hp}{Q:VK}:zin to te σ H Q=to σ H fun x H1=>uR x fun l=>(∃ xs,H1 l=some (.lst xs))∧te σ H1 fun y H2=>∃ (xs:List V) (k:Nat) (v:V),y = .int k∧H2 l=some (.lst xs)∧xs[k]?=some v∧Q v (upd H2 l (.lst (xs.eraseIdx k))):=rfl
theorem znI {o e:Expr}{to te:TE}{apos cpos:Pos} (ho:PE X o to) (he:PE X e te)
  (hbase:attributeBase o "pop" X.env (eval o X.env)=eval o X.env:=by rfl)
  (hline:(apos.endLine == cpos.line)=true:=by rfl) (hp:zI e=true:=by rfl):PE X (.Call (.Attribute o "pop" apos) [e] [] cpos) (zin to te):=by
 intro pins s σ H Q I h
 have hs:starEach [e] X.env=[(false,eval e X.env)]:=zbr hp
 refine wpAny_Call_method_late hbase (by rw [hs];rfl) hline rfl (thn (ho pins s σ H _ I h) fun v s1 ⟨x,H1,I1,r1,l,ex,⟨xs,hx⟩,q1⟩=>?_)
 subst ex
 obtain ⟨h1,h2⟩:=zd9 (T:="list") I1 r1 (.inl ⟨rfl,xs,SqL.of hx⟩)
 refine ⟨"list","list.pop",PySem.F.plainAttrs_list,PySem.F.slot_list_pop,PySem.F.type_list_pop,h1,h2,?_⟩
 rw [hs]
 refine Calls.callWith_builtin rfl (Calls.evalArgs_plain ?_)
 have hA:=zbI he zbF (hs:=hs) cpos pins s1 σ H1 (fun ys H2=>match ys with|[y]=>∃ (xs:List V) (k:Nat) (v:V),y = .int k∧H2 l=some (.lst xs)∧xs[k]?=some v∧Q v (upd H2 l (.lst (xs.eraseIdx k)))|_=>False) I1 q1
 rw [hs] at hA
 refine thn hA fun us s2 ⟨vs,H2,I2,r2,q2⟩=>?_
 match vs,q2,r2 with
 | [_],⟨xs2,k,y,rfl,hx2,hk,q2⟩,r2 =>
  obtain ⟨hz,_⟩:=I2.lstM hx2
  have hlt:k<xs2.length:=(List.getElem?_eq_some_iff.mp hk).1
  have hkz:k<sizeLine:=Nat.lt_of_lt_of_le hlt hz
  rw [sizeLine_eq] at hkz
  exact zo8 pins s2 σ H2 (.ref l) [.int k] v us Q I2 r1 r2 ⟨l,xs2,k,k,y,rfl,rfl,hx2,by omega,by omega,by simp [seqIndex?];omega,hk,q2⟩
theorem zvP {o e:Expr}{to te:TE}{apos cpos:Pos} (ho:W (PE X o to)) (he:W (PE X e te))
  (hbase:attributeBase o "pop" X.env (eval o X.env)=eval o X.env:=by rfl)
  (hline:(apos.endLine == cpos.line)=true:=by rfl) (hp:zI e=true:=by rfl):W (PE X (.Call (.Attribute o "pop" apos) [e] [] cpos) (zin to te)):=⟨znI ho.h he.h hbase hline hp⟩
end
end L2
set_option Elab.async false
set_option linter.all false
set_option maxRecDepth 100000
set_option maxHeartbeats 4000000
namespace K34
open PySem PySem.Spec PyProof.Rows L2
open PySem.W (Frag OpenLaw WalkO codeHdIn codeHd_of_K codeIn excIn findIn fnOf hasDictIn isFn keepIn kitAny kitOne makesIn mg_none_of mg_of mroIn nsIn plainGet plainOver tabIn tabObj)
local macro_rules | `(tactic| simp_all only [$ls,*])=>`(tactic| simp only [zdb,tC,zhU,tOr,zgL,tIf,ziz,ziH,zs3,zmI,zg4,zh8,zvb,zhb,zbC,zwc,zq8,zc2,zgJ,ipI,tOp,tUn,zbv,zel,zgH,zfq,zv2,zeJ,zpn,zfY,zhc,tCB,zf8,zeI,zs0,zcS,zkL,zvs,zdq,zgO,zg6,zkx,zrt,zji,zxf,zks,zvn,zu5,zeF,zxb,zo4,zoE,zg8,zte,zw8,zsA,zpx,zn3,zmf,zuM,zsJ,ztg,zuz,zxl,zw4,zfC,zvu,zpR,zoC,zpO,zgG,zm1,znA,zu8,zvz,zwo,zvL,zuo,zwG,znR,ztk,zbh,Option.bind_some,Option.bind_none,Option.join_some,zgt,and_assoc,exists_and_left,exists_and_right,exists_eq_left',exists_eq_left,exists_eq,exists_eq',exists_eq_right,exists_eq_right',and_true,true_and,and_false,false_and,or_false,false_or,exists_false,exists_const,Option.some.injEq,V.int.injEq,V.str.injEq,V.ref.injEq,V.bl.injEq,V.ty.injEq,HO.lst.injEq,HO.tup.injEq,HO.ins.injEq,List.cons.injEq,reduceCtorEq,reduceIte,Bool.false_eq_true,List.getElem?_cons_zero,List.getElem?_cons_succ,List.set_cons_zero,List.set_cons_succ,List.nil_append,List.cons_append,List.append_nil,List.length_cons,List.length_nil,L2.start,List.map_cons,List.map_nil,List.replicate,Nat.reduceSub,Nat.reduceAdd,Bool.not_true,Bool.not_false,zhC,ztU,zu6,zvF,zoI,zjr,znz,zmV,zkE,zhA,tSl,ziF,zpE,zl2,zl7,zig,zq5,zgT,zie,zfk,zl5,zs7,zvK,zcx,zse,zo0,zsY,zo2,zng,zqY,zr3,zt7,zuN,zq6,zqx,zo7,zsz,zk2,zj2,zwO,ztA,zrV,zo6,zs1,zxc,zgS,zgB,zwr,zpg,ztz,zqT,zlg,zlP,znW,zub,znU,zoF,zr2,zpD,zpH,zt3,zpj,zvW,zqp,zxm,zwu,zrX,zqW,zmw,zws,zoO,znK,zuj,zrz,ztS,zsp,zrf,zmW,zxp,zwI,zmr,zpK,zuU,ztc,znL,ztY,zpu,zmq,zwC,zuR,zoP,zoX,zvE,zv1,zrk,ztq,zot,znX,zmG,zpA,zuC,zqZ,zwB,znN,zn6,zlL,ztH,zpl,zoQ,zuT,zkY,zrL,$ls,*])
def top (i:Nat):Stmt:=PySem.Challenge.pw_cleanrows_k34_ends_told.main.body.getD i (.Pass ⟨0,0,0,0⟩)
structure zn where
 CleanError:Addr
 NoRow:Addr
 NoDisk:Addr
 Full:Addr
 Stopped:Addr
 NoFile:Addr
 NoPlace:Addr
 HeldAlready:Addr
 NotHeld:Addr
 NoFiles:Addr
 NoMark:Addr
 NoRoom:Addr
 Gone:Addr
 NotClosed:Addr
 NotBlank:Addr
 NoDeed:Addr
 NoHouse:Addr
 Disk:Addr
 t_whole_rows:Addr
 t__law_rows:Addr
 PARTS:Addr
 PARTS_put:Addr
 PARTS_cut:Addr
 PARTS_hold:Addr
 PARTS_free:Addr
 PARTS_carry:Addr
structure Txt (w:World) (K:Frag) (mg:Str→Option Value) (A:zn):Prop where
 mg_PARTS:mg "PARTS"=some (.ref A.PARTS)
 d_PARTS:zeK w K A.PARTS [("put",A.PARTS_put),("cut",A.PARTS_cut),("hold",A.PARTS_hold),("free",A.PARTS_free),("carry",A.PARTS_carry)]
 t_PARTS_put:∀ H:Hp,SqT K H A.PARTS_put [.str "number",.str "number",.str "end",.str "name",.str "number",.str "word"]
 t_PARTS_cut:∀ H:Hp,SqT K H A.PARTS_cut [.str "number",.str "name",.str "number"]
 t_PARTS_hold:∀ H:Hp,SqT K H A.PARTS_hold [.str "number",.str "name"]
 t_PARTS_free:∀ H:Hp,SqT K H A.PARTS_free [.str "number",.str "name"]
 t_PARTS_carry:∀ H:Hp,SqT K H A.PARTS_carry [.str "number",.str "number",.str "word"]
 n_ValueError:mg "ValueError"=none
 n_abs:mg "abs"=none
 n_all:mg "all"=none
 n_bool:mg "bool"=none
 n_divmod:mg "divmod"=none
 n_enumerate:mg "enumerate"=none
 n_int:mg "int"=none
 n_isinstance:mg "isinstance"=none
 n_len:mg "len"=none
 n_list:mg "list"=none
 n_max:mg "max"=none
 n_min:mg "min"=none
 n_ord:mg "ord"=none
 n_range:mg "range"=none
 n_repr:mg "repr"=none
 n_sorted:mg "sorted"=none
 n_str:mg "str"=none
 n_tuple:mg "tuple"=none
 n_zip:mg "zip"=none
 c_FIGURES:∃ u,mg "FIGURES"=some u∧zi (.str "0123456789") u
 c_LETTERS:∃ u,mg "LETTERS"=some u∧zi (.str "abcdefghijklmnopqrstuvwxyz") u
 c_MOST_FIGURES:∃ u,mg "MOST_FIGURES"=some u∧zi (.int 18) u
 c_MOST_LETTERS:∃ u,mg "MOST_LETTERS"=some u∧zi (.int 6) u
 c_MOST_SIGNS:∃ u,mg "MOST_SIGNS"=some u∧zi (.int 20) u
 c_MODULUS:∃ u,mg "MODULUS"=some u∧zi (.int 65521) u
 c_COLD_KIND:∃ u,mg "COLD_KIND"=some u∧zi (.str "carry") u
 c_LEAST_STRETCHES:∃ u,mg "LEAST_STRETCHES"=some u∧zi (.int 3) u
 c_MOST_STRETCHES:∃ u,mg "MOST_STRETCHES"=some u∧zi (.int 16) u
 c_LEAST_PLACES:∃ u,mg "LEAST_PLACES"=some u∧zi (.int 2) u
 c_MOST_PLACES:∃ u,mg "MOST_PLACES"=some u∧zi (.int 32) u
 mg_CleanError:mg "CleanError"=some (.ref A.CleanError)
 mg_NoRow:mg "NoRow"=some (.ref A.NoRow)
 mg_NoDisk:mg "NoDisk"=some (.ref A.NoDisk)
 mg_Full:mg "Full"=some (.ref A.Full)
 mg_Stopped:mg "Stopped"=some (.ref A.Stopped)
 mg_NoFile:mg "NoFile"=some (.ref A.NoFile)
 mg_NoPlace:mg "NoPlace"=some (.ref A.NoPlace)
 mg_HeldAlready:mg "HeldAlready"=some (.ref A.HeldAlready)
 mg_NotHeld:mg "NotHeld"=some (.ref A.NotHeld)
 mg_NoFiles:mg "NoFiles"=some (.ref A.NoFiles)
 mg_NoMark:mg "NoMark"=some (.ref A.NoMark)
 mg_NoRoom:mg "NoRoom"=some (.ref A.NoRoom)
 mg_Gone:mg "Gone"=some (.ref A.Gone)
 mg_NotClosed:mg "NotClosed"=some (.ref A.NotClosed)
 mg_NotBlank:mg "NotBlank"=some (.ref A.NotBlank)
 mg_NoDeed:mg "NoDeed"=some (.ref A.NoDeed)
 mg_NoHouse:mg "NoHouse"=some (.ref A.NoHouse)
 mg_Disk:mg "Disk"=some (.ref A.Disk)
 ek_CleanError:zas K A.CleanError
 ek_NoRow:zas K A.NoRow
 ek_NoDisk:zas K A.NoDisk
 ek_Full:zas K A.Full
 ek_Stopped:zas K A.Stopped
 ek_NoRoom:zas K A.NoRoom
 ms_NoRow:mroIn K A.NoRow (.ref A.NoRow)=some true
 ms_Stopped:mroIn K A.Stopped (.ref A.Stopped)=some true
 ec_NoRoom:zhz K A.NoRoom
 mro_NoRoom:mroIn K A.NoRoom (.ref A.CleanError)=some true
 k_NoRoom_ValueError:kitOne K (.ref A.NoRoom) (.type "ValueError")=some true
 k_NoRoom_NoRow:kitOne K (.ref A.NoRoom) (.ref A.NoRow)=some false
 k_NoRoom_NoDisk:kitOne K (.ref A.NoRoom) (.ref A.NoDisk)=some false
 k_NoRoom_Full:kitOne K (.ref A.NoRoom) (.ref A.Full)=some false
 k_NoRoom_Stopped:kitOne K (.ref A.NoRoom) (.ref A.Stopped)=some false
 k_NoRoom_NoFile:kitOne K (.ref A.NoRoom) (.ref A.NoFile)=some false
 k_NoRoom_NoPlace:kitOne K (.ref A.NoRoom) (.ref A.NoPlace)=some false
 k_NoRoom_HeldAlready:kitOne K (.ref A.NoRoom) (.ref A.HeldAlready)=some false
 k_NoRoom_NotHeld:kitOne K (.ref A.NoRoom) (.ref A.NotHeld)=some false
 k_NoRoom_NoFiles:kitOne K (.ref A.NoRoom) (.ref A.NoFiles)=some false
 k_NoRoom_NoMark:kitOne K (.ref A.NoRoom) (.ref A.NoMark)=some false
 k_NoRoom_NoRoom:kitOne K (.ref A.NoRoom) (.ref A.NoRoom)=some true
 k_NoRoom_Gone:kitOne K (.ref A.NoRoom) (.ref A.Gone)=some false
 k_NoRoom_NotClosed:kitOne K (.ref A.NoRoom) (.ref A.NotClosed)=some false
 k_NoRoom_NotBlank:kitOne K (.ref A.NoRoom) (.ref A.NotBlank)=some false
 k_NoRoom_NoDeed:kitOne K (.ref A.NoRoom) (.ref A.NoDeed)=some false
 k_NoRoom_NoHouse:kitOne K (.ref A.NoRoom) (.ref A.NoHouse)=some false
 cl_Disk:Cls K A.Disk
 na_Disk_at_sides:zaP K A.Disk "at_sides"
 na_Disk_counted:zaP K A.Disk "counted"
 na_Disk_has_stopped:zaP K A.Disk "has_stopped"
 na_Disk_left:zaP K A.Disk "left"
 na_Disk_width:zaP K A.Disk "width"
 na_Disk_written:zaP K A.Disk "written"
theorem Txt.c_NoRow {w:World}{K:Frag}{mg:Str→Option Value}{A:zn} (T:Txt w K mg A):∃ u,mg "NoRow"=some u∧zi (.ref A.NoRow) u:=⟨_,T.mg_NoRow,rfl⟩
theorem Txt.c_NoDisk {w:World}{K:Frag}{mg:Str→Option Value}{A:zn} (T:Txt w K mg A):∃ u,mg "NoDisk"=some u∧zi (.ref A.NoDisk) u:=⟨_,T.mg_NoDisk,rfl⟩
theorem Txt.c_Full {w:World}{K:Frag}{mg:Str→Option Value}{A:zn} (T:Txt w K mg A):∃ u,mg "Full"=some u∧zi (.ref A.Full) u:=⟨_,T.mg_Full,rfl⟩
theorem Txt.c_Stopped {w:World}{K:Frag}{mg:Str→Option Value}{A:zn} (T:Txt w K mg A):∃ u,mg "Stopped"=some u∧zi (.ref A.Stopped) u:=⟨_,T.mg_Stopped,rfl⟩
theorem Txt.c_NoFile {w:World}{K:Frag}{mg:Str→Option Value}{A:zn} (T:Txt w K mg A):∃ u,mg "NoFile"=some u∧zi (.ref A.NoFile) u:=⟨_,T.mg_NoFile,rfl⟩
theorem Txt.c_NoPlace {w:World}{K:Frag}{mg:Str→Option Value}{A:zn} (T:Txt w K mg A):∃ u,mg "NoPlace"=some u∧zi (.ref A.NoPlace) u:=⟨_,T.mg_NoPlace,rfl⟩
theorem Txt.c_HeldAlready {w:World}{K:Frag}{mg:Str→Option Value}{A:zn} (T:Txt w K mg A):∃ u,mg "HeldAlready"=some u∧zi (.ref A.HeldAlready) u:=⟨_,T.mg_HeldAlready,rfl⟩
theorem Txt.c_NotHeld {w:World}{K:Frag}{mg:Str→Option Value}{A:zn} (T:Txt w K mg A):∃ u,mg "NotHeld"=some u∧zi (.ref A.NotHeld) u:=⟨_,T.mg_NotHeld,rfl⟩
theorem Txt.c_NoFiles {w:World}{K:Frag}{mg:Str→Option Value}{A:zn} (T:Txt w K mg A):∃ u,mg "NoFiles"=some u∧zi (.ref A.NoFiles) u:=⟨_,T.mg_NoFiles,rfl⟩
theorem Txt.c_NoMark {w:World}{K:Frag}{mg:Str→Option Value}{A:zn} (T:Txt w K mg A):∃ u,mg "NoMark"=some u∧zi (.ref A.NoMark) u:=⟨_,T.mg_NoMark,rfl⟩
theorem Txt.c_NoRoom {w:World}{K:Frag}{mg:Str→Option Value}{A:zn} (T:Txt w K mg A):∃ u,mg "NoRoom"=some u∧zi (.ref A.NoRoom) u:=⟨_,T.mg_NoRoom,rfl⟩
theorem Txt.c_Gone {w:World}{K:Frag}{mg:Str→Option Value}{A:zn} (T:Txt w K mg A):∃ u,mg "Gone"=some u∧zi (.ref A.Gone) u:=⟨_,T.mg_Gone,rfl⟩
theorem Txt.c_NotClosed {w:World}{K:Frag}{mg:Str→Option Value}{A:zn} (T:Txt w K mg A):∃ u,mg "NotClosed"=some u∧zi (.ref A.NotClosed) u:=⟨_,T.mg_NotClosed,rfl⟩
theorem Txt.c_NotBlank {w:World}{K:Frag}{mg:Str→Option Value}{A:zn} (T:Txt w K mg A):∃ u,mg "NotBlank"=some u∧zi (.ref A.NotBlank) u:=⟨_,T.mg_NotBlank,rfl⟩
theorem Txt.c_NoDeed {w:World}{K:Frag}{mg:Str→Option Value}{A:zn} (T:Txt w K mg A):∃ u,mg "NoDeed"=some u∧zi (.ref A.NoDeed) u:=⟨_,T.mg_NoDeed,rfl⟩
theorem Txt.c_NoHouse {w:World}{K:Frag}{mg:Str→Option Value}{A:zn} (T:Txt w K mg A):∃ u,mg "NoHouse"=some u∧zi (.ref A.NoHouse) u:=⟨_,T.mg_NoHouse,rfl⟩
theorem zwn:(("at_sides":Str) == "counted")=false:=by decide +kernel
theorem zrA:(("at_sides":Str) == "has_stopped")=false:=by decide +kernel
theorem znd:(("at_sides":Str) == "left")=false:=by decide +kernel
theorem zuQ:(("at_sides":Str) == "width")=false:=by decide +kernel
theorem znC:(("at_sides":Str) == "written")=false:=by decide +kernel
theorem zrx:(("counted":Str) == "at_sides")=false:=by decide +kernel
theorem zmn:(("counted":Str) == "has_stopped")=false:=by decide +kernel
theorem zsB:(("counted":Str) == "left")=false:=by decide +kernel
theorem znO:(("counted":Str) == "width")=false:=by decide +kernel
theorem zr9:(("counted":Str) == "written")=false:=by decide +kernel
theorem zr0:(("has_stopped":Str) == "at_sides")=false:=by decide +kernel
theorem zuV:(("has_stopped":Str) == "counted")=false:=by decide +kernel
theorem ztv:(("has_stopped":Str) == "left")=false:=by decide +kernel
theorem zqk:(("has_stopped":Str) == "width")=false:=by decide +kernel
theorem zmp:(("has_stopped":Str) == "written")=false:=by decide +kernel
theorem zsm:(("left":Str) == "at_sides")=false:=by decide +kernel
theorem zrD:(("left":Str) == "counted")=false:=by decide +kernel
theorem zoH:(("left":Str) == "has_stopped")=false:=by decide +kernel
theorem zvl:(("left":Str) == "width")=false:=by decide +kernel
theorem zt2:(("left":Str) == "written")=false:=by decide +kernel
theorem zqy:(("width":Str) == "at_sides")=false:=by decide +kernel
theorem zvT:(("width":Str) == "counted")=false:=by decide +kernel
theorem zsK:(("width":Str) == "has_stopped")=false:=by decide +kernel
theorem zrw:(("width":Str) == "left")=false:=by decide +kernel
theorem zmU:(("width":Str) == "written")=false:=by decide +kernel
theorem zuw:(("written":Str) == "at_sides")=false:=by decide +kernel
theorem zsg:(("written":Str) == "counted")=false:=by decide +kernel
theorem zvM:(("written":Str) == "has_stopped")=false:=by decide +kernel
theorem zsF:(("written":Str) == "left")=false:=by decide +kernel
theorem zn9:(("written":Str) == "width")=false:=by decide +kernel
theorem zp5:(("stretches":Str) == "at_sides")=false:=by decide +kernel
theorem zv6:(("stretches":Str) == "counted")=false:=by decide +kernel
theorem zwg:(("stretches":Str) == "has_stopped")=false:=by decide +kernel
theorem zoJ:(("stretches":Str) == "left")=false:=by decide +kernel
theorem zwx:(("stretches":Str) == "width")=false:=by decide +kernel
theorem zrI:(("stretches":Str) == "written")=false:=by decide +kernel
theorem zt0:(("places":Str) == "at_sides")=false:=by decide +kernel
theorem zql:(("places":Str) == "counted")=false:=by decide +kernel
theorem zqb:(("places":Str) == "has_stopped")=false:=by decide +kernel
theorem zwQ:(("places":Str) == "left")=false:=by decide +kernel
theorem zwZ:(("places":Str) == "width")=false:=by decide +kernel
theorem zps:(("places":Str) == "written")=false:=by decide +kernel
theorem zqu:(("next_place":Str) == "at_sides")=false:=by decide +kernel
theorem zp4:(("next_place":Str) == "counted")=false:=by decide +kernel
theorem zn0:(("next_place":Str) == "has_stopped")=false:=by decide +kernel
theorem zrO:(("next_place":Str) == "left")=false:=by decide +kernel
theorem zok:(("next_place":Str) == "width")=false:=by decide +kernel
theorem zqh:(("next_place":Str) == "written")=false:=by decide +kernel
theorem znn:(("told":Str) == "at_sides")=false:=by decide +kernel
theorem zwh:(("told":Str) == "counted")=false:=by decide +kernel
theorem zmo:(("told":Str) == "has_stopped")=false:=by decide +kernel
theorem ztW:(("told":Str) == "left")=false:=by decide +kernel
theorem ztp:(("told":Str) == "width")=false:=by decide +kernel
theorem zss:(("told":Str) == "written")=false:=by decide +kernel
theorem zn7:(("signs":Str) == "at_sides")=false:=by decide +kernel
theorem zvf:(("signs":Str) == "counted")=false:=by decide +kernel
theorem zsO:(("signs":Str) == "has_stopped")=false:=by decide +kernel
theorem zo3:(("signs":Str) == "left")=false:=by decide +kernel
theorem zqN:(("signs":Str) == "width")=false:=by decide +kernel
theorem zqi:(("signs":Str) == "written")=false:=by decide +kernel
theorem znc:(("write":Str) == "at_sides")=false:=by decide +kernel
theorem zqO:(("write":Str) == "counted")=false:=by decide +kernel
theorem zup:(("write":Str) == "has_stopped")=false:=by decide +kernel
theorem zom:(("write":Str) == "left")=false:=by decide +kernel
theorem zmO:(("write":Str) == "width")=false:=by decide +kernel
theorem zrs:(("write":Str) == "written")=false:=by decide +kernel
theorem zuJ:(("put_side":Str) == "at_sides")=false:=by decide +kernel
theorem zth:(("put_side":Str) == "counted")=false:=by decide +kernel
theorem zwj:(("put_side":Str) == "has_stopped")=false:=by decide +kernel
theorem zvC:(("put_side":Str) == "left")=false:=by decide +kernel
theorem zu2:(("put_side":Str) == "width")=false:=by decide +kernel
theorem zsx:(("put_side":Str) == "written")=false:=by decide +kernel
theorem zox:(("empty":Str) == "at_sides")=false:=by decide +kernel
theorem znJ:(("empty":Str) == "counted")=false:=by decide +kernel
theorem zoG:(("empty":Str) == "has_stopped")=false:=by decide +kernel
theorem ztK:(("empty":Str) == "left")=false:=by decide +kernel
theorem zt9:(("empty":Str) == "width")=false:=by decide +kernel
theorem zpL:(("empty":Str) == "written")=false:=by decide +kernel
theorem zsU:(("stop":Str) == "at_sides")=false:=by decide +kernel
theorem zpb:(("stop":Str) == "counted")=false:=by decide +kernel
theorem ztF:(("stop":Str) == "has_stopped")=false:=by decide +kernel
theorem zvw:(("stop":Str) == "left")=false:=by decide +kernel
theorem zv7:(("stop":Str) == "width")=false:=by decide +kernel
theorem zvD:(("stop":Str) == "written")=false:=by decide +kernel
theorem znv:(("copied":Str) == "at_sides")=false:=by decide +kernel
theorem ztL:(("copied":Str) == "counted")=false:=by decide +kernel
theorem zpw:(("copied":Str) == "has_stopped")=false:=by decide +kernel
theorem zt6:(("copied":Str) == "left")=false:=by decide +kernel
theorem znP:(("copied":Str) == "width")=false:=by decide +kernel
theorem zxq:(("copied":Str) == "written")=false:=by decide +kernel
theorem zuW:(("refuse_if_stopped":Str) == "at_sides")=false:=by decide +kernel
theorem ztl:(("refuse_if_stopped":Str) == "counted")=false:=by decide +kernel
theorem ztO:(("refuse_if_stopped":Str) == "has_stopped")=false:=by decide +kernel
theorem zp7:(("refuse_if_stopped":Str) == "left")=false:=by decide +kernel
theorem zpd:(("refuse_if_stopped":Str) == "width")=false:=by decide +kernel
theorem zoD:(("refuse_if_stopped":Str) == "written")=false:=by decide +kernel
theorem zsb:(("spend":Str) == "at_sides")=false:=by decide +kernel
theorem zoz:(("spend":Str) == "counted")=false:=by decide +kernel
theorem zwk:(("spend":Str) == "has_stopped")=false:=by decide +kernel
theorem zqR:(("spend":Str) == "left")=false:=by decide +kernel
theorem zqQ:(("spend":Str) == "width")=false:=by decide +kernel
theorem znD:(("spend":Str) == "written")=false:=by decide +kernel
theorem zsh:(("first_signs":Str) == "at_sides")=false:=by decide +kernel
theorem zoo:(("first_signs":Str) == "counted")=false:=by decide +kernel
theorem zqG:(("first_signs":Str) == "has_stopped")=false:=by decide +kernel
theorem zpc:(("first_signs":Str) == "left")=false:=by decide +kernel
theorem zp8:(("first_signs":Str) == "width")=false:=by decide +kernel
theorem zvZ:(("first_signs":Str) == "written")=false:=by decide +kernel
theorem zjE:(("at_sides":Str)="counted")=False:=by simpa using zwn
theorem ziT:(("at_sides":Str)="has_stopped")=False:=by simpa using zrA
theorem zkZ:(("at_sides":Str)="left")=False:=by simpa using znd
theorem zmk:(("counted":Str)="has_stopped")=False:=by simpa using zmn
theorem zkG:(("counted":Str)="left")=False:=by simpa using zsB
theorem zli:(("left":Str)="has_stopped")=False:=by simpa using zoH
theorem zmg:(("width":Str)="at_sides")=False:=by simpa using zqy
theorem zls:(("width":Str)="counted")=False:=by simpa using zvT
theorem zjI:(("width":Str)="has_stopped")=False:=by simpa using zsK
theorem zlj:(("width":Str)="left")=False:=by simpa using zrw
theorem zjJ:(("width":Str)="written")=False:=by simpa using zmU
theorem zmc:(("written":Str)="at_sides")=False:=by simpa using zuw
theorem zkO:(("written":Str)="counted")=False:=by simpa using zsg
theorem zjh:(("written":Str)="has_stopped")=False:=by simpa using zvM
theorem zkP:(("written":Str)="left")=False:=by simpa using zsF
def zbw:Nat→List Nat→Nat
 | _,[]=>0
 | k,c::l=>c*k+zbw (k+1) l
def za3 (z:Str):Int:=((zbw 1 (sg z) % 65521:Nat):Int)
def zbj (z:Str):Str:=z++(toString (za3 z):Str)++";"
def zao (z y:Str) (m:Int):Bool:=decide (1≤(z.length:Int)) && decide ((z.length:Int)≤m) && (sg z).all fun c=>(sg y).contains c
def FIG:Str:="0123456789"
def LET:Str:="abcdefghijklmnopqrstuvwxyz"
def zaO (z:Str):Bool:=zao z FIG 18 && (decide (z="0") || !decide (tx ((sg z).take 1)="0"))
def zaS (z:Str):Bool:=zao z LET 6
def zbn (z:Str):Bool:=zao z (LET++FIG) 20
def zav (k z:Str):Option V :=
 if k="number"∧zaO z=true then some (.int ((PySem.intText? z).getD 0))
 else if k="end"∧(z="0"∨z="1") then some (.bl (decide (z="1")))
 else if k="name"∧zaS z=true then some (.str z)
 else if k="word"∧zbn z=true then some (.str z)
 else none
def zbo (z:Str):Option (List Str) :=
 if z="put" then some ["number","number","end","name","number","word"]
 else if z="cut" then some ["number","name","number"]
 else if z="hold" then some ["number","name"]
 else if z="free" then some ["number","name"]
 else if z="carry" then some ["number","number","word"]
 else none
def zam:List Str→List Str→Option (List V)
 | k::ks,z::zs=>(zav k z).bind fun v=>(zam ks zs).map (v::·)
 | _,_=>some []
def zbd (ws:List Str):Option (List V):=match ws with
 | []=>none
 | w::zs=>(zbo w).bind fun ks=>if zs.length=ks.length then (zam ks zs).map (.str w::·) else none
def za6 (z:Str):Str:=PySem.Txt.slice z none (some (PySem.Txt.rfind z (c1 32)+1))
def zbY (z:Str):Option Str:=if z=zbj (za6 z) then some (za6 z) else none
def zaG (z:Str):Option (List V):=(zbY z).bind fun b=>zbd (PySem.Txt.split (PySem.Txt.slice b none (some (-1))) (c1 32))
def zaf:V→Str
 | .bl b=>if b then "1" else "0"
 | .int i=>toString i
 | .str z=>z
 | _=>""
inductive zbi:V→Prop
 | bl (b:Bool):zbi (.bl b)
 | int (i:Int):0≤i→i<10 ^ 18→zbi (.int i)
 | str (z:Str):asc z=true→z.length≤100→zbi (.str z)
def zV (xs:List V):List Nat:=(xs.map fun v=>sg (zaf v)++[32]).flatten
def zag (xs:List V):Str:=zbj (tx (zV xs))
def zen:Sp:=fun vs H Q _=>∃ z y m,vs=[.str z,.str y,.int m]∧asc z=true∧z.length≤100000∧∀ H',zl H H'→Q (.bl (zao z y m)) H'
def zbV (p:Str→Bool):Sp:=fun vs H Q _=>∃ z,vs=[.str z]∧asc z=true∧z.length≤100000∧∀ H',zl H H'→Q (.bl (p z)) H'
def zhm:Sp:=fun vs H Q _=>∃ z,vs=[.str z]∧asc z=true∧z.length≤100000∧∀ H',zl H H'→Q (.int (za3 z)) H'
def zeT:Sp:=fun vs H Q _=>∃ z,vs=[.str z]∧asc z=true∧z.length≤100000∧∀ H',zl H H'→Q (.str (zbj z)) H'
def zh0 (o:Option Str):V:=match o with|some b=>.str b|none=>.non
inductive zb9 (H:Hp):V→Prop
 | non:zb9 H .non
 | bl (b:Bool):zb9 H (.bl b)
 | int (i:Int):zb9 H (.int i)
 | lst {a:Addr}{xs:List V}:H a=some (.lst xs)→zb9 H (.ref a)
 | tup {a:Addr}{xs:List V}:H a=some (.tup xs)→zb9 H (.ref a)
 | dic {a:Addr}{kvs:List (Key×V)}:H a=some (.dK kvs)→zb9 H (.ref a)
theorem zoS {X:Cx}{H:Hp}{v:V}{Q:VK} (t:zb9 H v) (q:Q (.bl false) H):zeh X.K [v,.ty "str"] H Q:=by
 cases t with
 | non=>exact ⟨_,_,_,_,_,rfl,rfl,.of .non,rfl,q⟩
 | bl b=>exact ⟨_,_,_,_,_,rfl,rfl,.of (.bl b),rfl,q⟩
 | int i=>exact ⟨_,_,_,_,_,rfl,rfl,.of (.int i),rfl,q⟩
 | lst h=>exact ⟨_,_,_,_,_,rfl,rfl,.of (.lst h),rfl,q⟩
 | tup h=>exact ⟨_,_,_,_,_,rfl,rfl,.of (.tup h),rfl,q⟩
 | dic h=>exact ⟨_,_,_,_,_,rfl,rfl,.of (.dK h),rfl,q⟩
def zhI:Sp:=fun vs H Q _=>(∃ z,vs=[.str z]∧asc z=true∧z.length≤100000∧∀ H',zl H H'→Q (zh0 (zbY z)) H')∨∃ v,vs=[v]∧zb9 H v∧Q .non H
def zf0:Sp:=fun vs H Q _=>∃ v,vs=[v]∧zbi v∧Q (.str (zaf v)) H
def zep:Sp:=fun vs H Q _=>∃ a xs,vs=[.ref a]∧(H a=some (.lst xs)∨H a=some (.tup xs))∧xs.length≤10∧(∀ v∈xs,zbi v)∧∀ H',zl H H'→Q (.str (zag xs)) H'
def ziM (A:zn):Sp:=fun vs H Q E=>∃ k z,vs=[.str k,.str z]∧asc z=true∧z.length≤100000∧∀ H',zl H H'→(∀ v,zav k z=some v→Q v H')∧(zav k z=none→E (.ref A.NoRow) none H')
def zgx (A:zn):Sp:=fun vs H Q E=>∃ a ws,vs=[.ref a]∧H a=some (.lst (ws.map V.str))∧ws≠[]∧ws.length≤100001∧(∀ z∈ws,asc z=true∧z.length≤100000) ∧
 (∀ xs,zbd ws=some xs→∀ p H',zl H H'→H' p=some (.tup xs)→Q (.ref p) H')∧(zbd ws=none→∀ H',zl H H'→E (.ref A.NoRow) none H')
def zgE (A:zn):Sp:=fun vs H Q E=>(∃ v,vs=[v]∧zb9 H v∧E (.ref A.NoRow) none H)∨∃ z,vs=[.str z]∧asc z=true∧z.length≤100000 ∧
 (∀ xs,zaG z=some xs→∀ p H',zl H H'→H' p=some (.tup xs)→Q (.ref p) H')∧(zaG z=none→∀ H',zl H H'→E (.ref A.NoRow) none H')
theorem zai {n:Nat} (h:n≤1000000):n≤sizeLine:=Nat.le_trans h (by decide)
theorem zaI {n:Nat} (h:n≤1000000):n<sizeLine:=Nat.lt_of_le_of_lt h (by decide)
abbrev zc9:Stmt:=top 26
abbrev zdG:Stmt:=top 27
abbrev zdz:Stmt:=top 28
abbrev zdC:Stmt:=top 29
section
variable {P:Program}{w:World}{K:Frag}{mg:Str→Option Value}{base:Heap}{A:zn}
structure zm6 (H:Hp) (z y:Str) (i:Nat) (τ:L2.St) (ys:List V) (H':Hp):Prop where
 ex:∃ t,τ=[t,some (V.str y)]
 ys:ys=(((sg z).take i).map fun c=>(sg y).contains c).map V.bl
 same:H'=H
theorem zwU:zz ["text","signs","most"] ["text","signs","most"] (zd zc9):=⟨rfl,rfl,rfl,by decide +kernel,rfl,by decide +kernel,by decide +kernel⟩
theorem znx:zaT { kind:=.function,names:=[(Str.ofString ".0",.local),(Str.ofString "sign",.local),(Str.ofString "signs",.free)],isGenerator:=false,isCoroutine:=false,more:=[] } (zd zc9).names ["text","signs","most"] ["sign","signs"] [none,some 1]=true:=by decide +kernel
theorem zsl:(["sign","signs"]:List Str).Nodup:=by decide +kernel
theorem zw0 {f:Addr}{fd:FuncData} (F:Fun K "is_made_of" "is_made_of" zc9 f fd) (T:Txt w K mg A):zp P w K mg base CX0 true 1 f fd ["text","signs","most"] zen:=by
 refine F.ok zwU (fun vs H Q E h=>?_) (fun cdv Ar outer s H vs Q E hr h=>?_)
 ·obtain ⟨z,y,m,rfl,_⟩:=h;rfl
 ·obtain ⟨z,y,m,rfl,ha,hz,q⟩:=h
  have hu:_<cLine:=Nat.lt_of_succ_lt (zax hr)
  refine ⟨_,(W.h (zh (zu (zfD (zlu zfV zfV zj (zH zaQ rfl T.n_len PySem.boot_len (zb (za 0) zc)) (za 2)) (zds (zH (zm3 rfl) rfl T.n_all boot_all (zb (zb5 (fun _=>rfl) (zaz.of znx) (zsR (za 0)) (fun _ _ _ _ _=>(zO (i:=0) zsl rfl (Or.inl rfl))) (fun _ _ _ _ _=>zdE) (fun _ _ _ _ _=>(zba (ziZ hu) (za 0) (za 1) rfl))) zc))))))),?_⟩
  simp_all only [zai (Nat.le_trans hz (by decide))]
  refine zad (fun h1=>zad (fun h2=>?_) fun h2=>?_) fun h1=>?_
  ·refine ⟨ha,zah.str (zm6 H z y) (fun i τ ys H' I=>?_) ⟨⟨_,rfl⟩,by simp,rfl⟩ ?_ ?_⟩
   ·rw [I.ys,List.length_map,List.length_map,List.length_take]
    exact zaI (by rw [zT];omega)
   ·intro N i c τ ys H' hc I hN
    obtain ⟨t,rfl⟩:=I.ex
    simp_all only []
    rw [zsn]
    have hc':(sg z)[i]?=some c:=by simpa [sg] using hc
    exact hN _ _ _ ⟨⟨_,rfl⟩,by rw [I.ys,List.take_add_one,hc'];simp,I.same⟩
   ·intro τ ys H' I p H2 n2
    simp_all only []
    refine ⟨_,by rw [n2.at_,I.ys],?_⟩
    have hs:zl H H2:=by have:=n2.same;rw [I.same] at this;exact this
    have e:zao z y m=(((sg z).take z.cps.size).map fun c=>(sg y).contains c).all id:=by
     unfold zao
     rw [h1,h2,List.take_of_length_le (by rw [zT];exact Nat.le_refl _),List.all_map]
     rfl
    rw [← e]
    exact q H2 hs
  ·have e:zao z y m=false:=by unfold zao;rw [Bool.eq_false_iff.mpr h2];simp
   rw [← e];exact q H (zl.refl _)
  ·have e:zao z y m=false:=by unfold zao;rw [Bool.eq_false_iff.mpr h1];simp
   rw [← e];exact q H (zl.refl _)
theorem zwa:zz ["text"] ["text"] (zd zdz):=⟨rfl,rfl,rfl,by decide +kernel,rfl,by decide +kernel,by decide +kernel⟩
theorem zob {f:Addr}{fd:FuncData} (F:Fun K "is_name" "is_name" zdz f fd) (T:Txt w K mg A) (G_is_made_of:GF P w K mg base true 1 "is_made_of" ["text","signs","most"] zen):zp P w K mg base CX0 true 2 f fd ["text"] (zbV zaS):=by
 refine F.ok zwa (fun vs H Q E h=>?_) (fun cdv Ar outer s H vs Q E hr h=>?_)
 ·obtain ⟨z,rfl,_⟩:=h;rfl
 ·obtain ⟨z,rfl,ha,hz,q⟩:=h
  refine ⟨_,(W.h (zh (zu (zo G_is_made_of hr rfl (zb (za 0) (zb (zac rfl T.c_LETTERS) (zb (zac rfl T.c_MOST_LETTERS) zc))))))),?_⟩
  simp_all only []
  exact ⟨z,_,_,rfl,ha,hz,q⟩
theorem zvO:zz ["text"] ["text"] (zd zdC):=⟨rfl,rfl,rfl,by decide +kernel,rfl,by decide +kernel,by decide +kernel⟩
theorem zqB {f:Addr}{fd:FuncData} (F:Fun K "is_word" "is_word" zdC f fd) (T:Txt w K mg A) (G_is_made_of:GF P w K mg base true 1 "is_made_of" ["text","signs","most"] zen):zp P w K mg base CX0 true 2 f fd ["text"] (zbV zbn):=by
 refine F.ok zvO (fun vs H Q E h=>?_) (fun cdv Ar outer s H vs Q E hr h=>?_)
 ·obtain ⟨z,rfl,_⟩:=h;rfl
 ·obtain ⟨z,rfl,ha,hz,q⟩:=h
  refine ⟨_,(W.h (zh (zu (zo G_is_made_of hr rfl (zb (za 0) (zb (zK zaC (zac rfl T.c_LETTERS) (zac rfl T.c_FIGURES)) (zb (zac rfl T.c_MOST_SIGNS) zc))))))),?_⟩
  simp_all only []
  exact ⟨by decide,z,_,_,rfl,ha,hz,q⟩
theorem zwy:zz ["text"] ["text"] (zd zdG):=⟨rfl,rfl,rfl,by decide +kernel,rfl,by decide +kernel,by decide +kernel⟩
theorem zq4 {f:Addr}{fd:FuncData} (F:Fun K "is_number_text" "is_number_text" zdG f fd) (T:Txt w K mg A) (G_is_made_of:GF P w K mg base true 1 "is_made_of" ["text","signs","most"] zen):zp P w K mg base CX0 true 2 f fd ["text"] (zbV zaO):=by
 refine F.ok zwy (fun vs H Q E h=>?_) (fun cdv Ar outer s H vs Q E hr h=>?_)
 ·obtain ⟨z,rfl,_⟩:=h;rfl
 ·obtain ⟨z,rfl,ha,hz,q⟩:=h
  have hu:_<cLine:=Nat.lt_of_succ_lt (zax hr)
  refine ⟨_,(W.h (zg (zN (zbs (zaH (zo G_is_made_of hr rfl (zb (za 0) (zb (zac rfl T.c_FIGURES) (zb (zac rfl T.c_MOST_FIGURES) zc))))))
   (zh (zu zaJ))
   zU)
   (zh (zu (zkS (zba (zaL hu) (za 0) zG (zD _)) (zds (zba (zbW hu) (zR zQ (za 0) zj (fun _ _=>rfl)) zG (zD _)))))))),?_⟩
  simp_all only []
  refine ⟨z,_,_,rfl,ha,hz,fun H1 s1=>?_⟩
  simp_all only [zai (Nat.le_trans hz (by decide))]
  refine zad (fun h1=>?_) fun h1=>?_
  ·have e:zaO z=false:=by
    unfold zaO FIG
    rw [show zao z "0123456789" 18=false by simpa using h1];rfl
   rw [← e];exact q H1 s1
  ·have h1:zao z "0123456789" 18=true:=by simpa using h1
   refine zad (fun h2=>?_) fun h2=>?_
   ·have e:zaO z=true:=by
     unfold zaO FIG
     rw [h1,h2];rfl
    rw [← e];exact q H1 s1
   ·have hl:0<(sg z).length:=by
     rw [zT]
     unfold zao at h1
     rw [Bool.and_eq_true,Bool.and_eq_true,decide_eq_true_eq] at h1
     omega
    have e0:(sg z).take 1=[(sg z)[0]]:=by
     generalize sg z=l at hl
     cases l with
     | nil=>cases hl
     | cons x l=>rfl
    refine ⟨(sg z)[0],zaU (xs:=sg z) (j:=0) (List.getElem?_eq_getElem hl),?_⟩
    have e:zaO z = !decide (({ cps:=#[(sg z)[0]] }:Str)="0"):=by
     unfold zaO FIG
     rw [h1,Bool.eq_false_iff.mpr h2,e0]
     rfl
    rw [← e];exact q H1 s1
end
abbrev zd4:Stmt:=top 37
abbrev zc1:Stmt:=top 36
abbrev zdF:Stmt:=top 33
abbrev zdM:Stmt:=top 34
abbrev zd1:Stmt:=top 35
section
variable {P:Program}{w:World}{K:Frag}{mg:Str→Option Value}{base:Heap}{A:zn}
theorem zjb:∀ (k:Nat) (a b:List Nat),zbw k (a++b)=zbw k a+zbw (k+a.length) b
 | k,[],b=>by simp [zbw]
 | k,c::a,b=>by
  show c*k+zbw (k+1) (a++b)=c*k+zbw (k+1) a+_
  rw [zjb (k+1) a b,List.length_cons,show k+1+a.length=k+(a.length+1) by omega]
  omega
structure zr4 (H:Hp) (z:Str) (i:Nat) (σ:L2.St) (H':Hp):Prop where
 ex:∃ a b,σ=[some (V.str z),some (.int (zbw 1 ((sg z).take i):Nat)),a,b]
 same:zl H H'
theorem zek:zz ["text","total","place","sign"] ["text"] (zd zdF):=⟨rfl,rfl,rfl,by decide +kernel,rfl,by decide +kernel,by decide +kernel⟩
theorem zna {f:Addr}{fd:FuncData} (F:Fun K "sum_of" "sum_of" zdF f fd) (T:Txt w K mg A):zp P w K mg base CX0 true 1 f fd ["text"] zhm:=by
 refine F.ok zek (fun vs H Q E h=>?_) (fun cdv Ar outer s H vs Q E hr h=>?_)
 ·obtain ⟨z,rfl,_⟩:=h;rfl
 ·obtain ⟨z,rfl,ha,hz,q⟩:=h
  refine ⟨_,(W.h (zg (zx (i:=1) zek.nd rfl (Or.inl rfl) zj)
   (zg (zbl PassesOwn.never (fun _=>rfl) (zvV rfl T.n_enumerate (za 0)) (zd5 (n:=2) (zau (zO (i:=2) zek.nd rfl (Or.inl rfl)) (zau (zO (i:=3) zek.nd rfl (Or.inl rfl)) zbL)))
   (zh (zoj (i:=1) zek.nd rfl (Or.inl rfl) (zK zdT (zH zpM rfl T.n_ord boot_ord (zb (za 3) zc)) (za 2)) zun)))
   (zh (zu (zK zdL (za 1) (zac rfl T.c_MODULUS))))))),?_⟩
  simp_all only []
  refine ⟨ha,zak.enumS (zr4 H z) ⟨⟨_,_,rfl⟩,zl.refl _⟩ ?_ ?_⟩
  ·rintro i c p σ H' hc ⟨⟨a,b,rfl⟩,sm⟩ hp
   have hc':(sg z)[i]?=some c:=by simpa [sg] using hc
   simp_all only []
   refine ⟨p,_,rfl,SqT.of zF,rfl,?_⟩
   simp_all only []
   refine ⟨rfl,.inl ⟨by simp;omega,?_⟩,⟨⟨some (.int ((i+1:Nat):Int)),some (.str ⟨#[c]⟩),?_⟩,?_⟩⟩
   ·have hc2:c<128:=by
     have h3:=List.mem_of_getElem? hc'
     rw [zaD] at ha
     simpa using List.all_eq_true.mp ha c h3
    simp
    omega
   ·rw [List.take_add_one,hc',zjb]
    have hi:i<(sg z).length:=(List.getElem?_eq_some_iff.mp hc').1
    rw [List.length_take,Nat.min_eq_left (by omega)]
    simp [zbw]
    rw [Int.add_comm 1 (i:Int)]
   ·exact sm.trans fun b o e=>by rw [ze (zt e hp)];exact e
  ·rintro σ H' ⟨⟨a,b,rfl⟩,sm⟩
   simp_all only []
   refine ⟨by decide,?_⟩
   have e:za3 z=((zbw 1 ((sg z).take z.cps.size):Nat):Int) % 65521:=by
    unfold za3
    rw [List.take_of_length_le (by rw [zT];exact Nat.le_refl _)]
    omega
   rw [← e]
   exact q H' sm
theorem zl0:(" ":Str)=c1 32:=by decide +kernel
theorem zfs {n:Nat} (h:n<2 ^ 64):n.log2<1920:=by
 by_cases h0:n=0
 ·subst h0;decide
 ·exact Nat.lt_trans ((Nat.log2_lt h0).mpr h) (by decide)
theorem zci (z:Str):0≤za3 z∧za3 z<65521:=by unfold za3;omega
theorem zlD (m:Nat) (h:0<m):∃ c r,(Nat.toDigits 10 m).map Char.toNat=c::r∧49≤c:=by
 induction m using Nat.strongRecOn with
 | _ m ih =>
  by_cases h1:m<10
  ·rw [Nat.toDigits_of_lt_base h1]
   refine ⟨_,[],rfl,?_⟩
   have:∀ d:Nat,d<10→0<d→49≤(Nat.digitChar d).toNat:=by decide
   exact this m h1 h
  ·have hm:m % 10<10:=Nat.mod_lt m (by decide)
   have t:Nat.toDigits 10 (m / 10)++Nat.toDigits 10 (m % 10)=Nat.toDigits 10 (10*(m / 10)+m % 10):=Nat.toDigits_append_toDigits (by decide) (by omega) hm
   rw [Nat.div_add_mod] at t
   obtain ⟨c,r,e,hc⟩:=ih (m / 10) (by omega) (by omega)
   rw [← t,List.map_append,e]
   exact ⟨c,_,rfl,hc⟩
structure zrc (i:Int):Prop where
 dig:∀ c∈sg (toString i:Str),48≤c∧c≤57
 one:1≤(sg (toString i:Str)).length
 most:(sg (toString i:Str)).length≤18
 back:PySem.intText? (toString i:Str)=some i
 head:(toString i:Str)="0"∨∃ c r,sg (toString i:Str)=c::r∧49≤c
theorem zcD {i:Int} (h0:0≤i) (h1:i<10 ^ 18):zrc i:=by
 obtain ⟨m,rfl⟩:=Int.eq_ofNat_of_zero_le h0
 have hd:∀ c∈sg (toString ((m:Nat):Int):Str),48≤c∧c≤57:=by
  intro c hc
  rw [zei] at hc
  obtain ⟨ch,hch,e⟩:=List.mem_map.mp hc
  have r:=Nat.isDigit_of_mem_toDigits (by decide) (by decide) hch
  rw [← e]
  exact PyProof.Rows.digit_range r
 have hn:1≤(sg (toString ((m:Nat):Int):Str)).length:=by
  rcases Nat.eq_zero_or_pos m with h|h
  ·rw [h,zei];decide
  ·obtain ⟨c,r,e,_⟩:=zlD m h
   rw [zei,e];simp
 have hl:(sg (toString ((m:Nat):Int):Str)).length≤18:=by
  have e:(Nat.repr m).length≤18:=(Nat.length_repr_le_iff (by decide)).mpr (by omega)
  rw [zT]
  show (Str.ofString (toString ((m:Nat):Int))).length≤18
  rw [PySem.ofString_length]
  exact e
 refine ⟨hd,hn,hl,?_,?_⟩
 ·have e:=intText_digits (x:=(toString ((m:Nat):Int):Str)) hd (fun z=>by rw [show sg (toString ((m:Nat):Int):Str)=[] from z] at hn;cases hn) (by rw [← zT];omega)
  have e2:(toString ((m:Nat):Int):Str).cps.toList=(Nat.toDigits 10 m).map Char.toNat:=zei m
  rw [e2,PySem.W.KIN.val_back] at e
  exact e
 ·rcases Nat.eq_zero_or_pos m with h|h
  ·left;rw [h];rfl
  ·obtain ⟨c,r,e,hc⟩:=zlD m h
   exact .inr ⟨c,r,by rw [zei,e],hc⟩
theorem zhx {i:Int} (h0:0≤i) (h1:i<10 ^ 18):(toString i:Str).length≤19:=by
 have e:=int_text_length_le10 (a:=i) (k:=18) (by decide) (by omega)
 show (Str.ofString (toString i)).length≤19
 rw [PySem.ofString_length]
 exact e
theorem zmu:zz ["body"] ["body"] (zd zdM):=⟨rfl,rfl,rfl,by decide +kernel,rfl,by decide +kernel,by decide +kernel⟩
theorem zn5 {f:Addr}{fd:FuncData} (F:Fun K "summed" "summed" zdM f fd) (T:Txt w K mg A) (G_sum_of:GF P w K mg base true 1 "sum_of" ["text"] zhm):zp P w K mg base CX0 true 2 f fd ["body"] zeT:=by
 refine F.ok zmu (fun vs H Q E h=>?_) (fun cdv Ar outer s H vs Q E hr h=>?_)
 ·obtain ⟨z,rfl,_⟩:=h;rfl
 ·obtain ⟨z,rfl,ha,hz,q⟩:=h
  refine ⟨_,(W.h (zh (zu (zr1 (zgC (zjj (za 0)) (zgC (zjj (zo G_sum_of hr rfl (zb (za 0) zc))) (zgC zG zvG))))))),?_⟩
  simp_all only []
  have hs:=zci z
  have hn:=zhx hs.1 (by omega)
  refine ⟨zai (by omega),by rw [Str.empty_append];exact zai (by omega),z,rfl,ha,hz,fun H' s1=>?_⟩
  simp_all only []
  rw [Str.empty_append]
  have l1:(z++(toString (za3 z):Str)).length≤1000000:=by rw [Str.length_append];omega
  have l2:(z++(toString (za3 z):Str)++";").length≤1000000:=by
   rw [Str.length_append,Str.length_append]
   have:(";":Str).length=1:=by decide
   omega
  exact ⟨zfs (by omega),zai l1,zai l2,zai l2,q H' s1⟩
theorem zg3 (l:List Nat):asc (tx l)=l.all (· < 128):=by rw [zaD,zaW]
theorem ziN {z:Str} (h:asc z=true) {l:List Nat} (hl:∀ c∈l,c∈sg z):asc (tx l)=true:=by
 rw [zg3,List.all_eq_true]
 rw [zaD,List.all_eq_true] at h
 exact fun c hc=>h c (hl c hc)
theorem zk9 (c:Nat):∀ l:List Nat,c∈l→∃ a b,l=a++c::b∧c∉b
 | [],h=>by cases h
 | x::l,h=>by
  by_cases hm:c∈l
  ·obtain ⟨a,b,e,hb⟩:=zk9 c l hm
   exact ⟨x::a,b,by rw [e];rfl,hb⟩
  ·rcases List.mem_cons.mp h with e|e
   ·exact ⟨[],l,by rw [e];rfl,hm⟩
   ·exact absurd e hm
theorem zko {z:Str}{a b:List Nat} (h:sg z=a++32::b) (hb:32∉b):za6 z=tx (a++[32]):=by
 unfold za6
 rw [zrQ h hb]
 have e:((a.length:Int)+1)=((a.length+1:Nat):Int):=by omega
 rw [e,zew (by rw [h];simp),h]
 congr 1
 rw [show a++32::b=(a++[32])++b by simp,List.take_left' (by simp)]
theorem zow {z:Str} (h:32∉sg z):za6 z=tx []:=by
 unfold za6
 rw [zm5 h]
 exact zew (j:=0) (Nat.zero_le _)
theorem zkV {z:Str} (h:asc z=true):asc (za6 z)=true∧(za6 z).length≤z.length:=by
 refine ⟨?_,PySem.Txt.slice_le _ _ _⟩
 by_cases hm:32∈sg z
 ·obtain ⟨a,b,e,hb⟩:=zk9 32 _ hm
  rw [zko e hb]
  refine ziN h fun c hc=>?_
  rw [e,show a++32::b=(a++[32])++b by simp]
  exact List.mem_append_left _ hc
 ·rw [zow hm,zg3];rfl
theorem zmm:zz ["text","body"] ["text"] (zd zd1):=⟨rfl,rfl,rfl,by decide +kernel,rfl,by decide +kernel,by decide +kernel⟩
theorem zsD {f:Addr}{fd:FuncData} (F:Fun K "body_of" "body_of" zd1 f fd) (T:Txt w K mg A) (G_summed:GF P w K mg base true 2 "summed" ["body"] zeT):zp P w K mg base CX0 true 3 f fd ["text"] zhI:=by
 refine F.ok zmm (fun vs H Q E h=>?_) (fun cdv Ar outer s H vs Q E hr h=>?_)
 ·rcases h with ⟨z,rfl,_⟩|⟨v,rfl,_⟩ <;> rfl
 ·have hu:_<cLine:=Nat.lt_of_succ_lt (zax hr)
  refine ⟨_,(W.h (zg (zN (zbs (zaH (zH zdB rfl T.n_isinstance boot_isinstance (zb (za 0) (zb (zeN rfl T.n_str boot_str (v:=.ty "str") rfl) zc)))))
   (zh (zu zal))
   zU)
   (zg (zx (i:=1) zmm.nd rfl (Or.inl rfl) (zdW zeg (za 0) zea (zdV (zK zaC (zt1 (za 0) zG) zj))))
   (zh (zu (ze7 (zM (zaL hu) (za 0) (zo G_summed hr rfl (zb (za 1) zc)) (zD _)) (za 1) zal)))))),?_⟩
  rcases h with ⟨z,rfl,ha,hz,q⟩|⟨v,rfl,tv,q⟩
  case inr =>
   simp_all only []
   refine zoS tv ?_
   simp_all only []
   exact q
  simp_all only []
  refine ⟨_,_,_,_,_,rfl,rfl,.of (.str z),rfl,?_⟩
  simp_all only [zai (Nat.le_trans hz (by decide)),zl0]
  obtain ⟨b1,b2⟩:=zkV ha
  refine ⟨za6 z,rfl,b1,by omega,fun H' s1=>?_⟩
  simp_all only []
  have q':=q H' s1
  refine zad (fun h=>?_) fun h=>?_
  ·have e:zbY z=some (za6 z):=if_pos (of_decide_eq_true h)
   rw [e] at q'
   exact q'
  ·have e:zbY z=none:=if_neg fun x=>h (decide_eq_true x)
   rw [e] at q'
   exact q'
theorem zqw:∀ ys:List Str,sg (PySem.Txt.join "" ys)=(ys.map sg).flatten:=by
 intro ys
 have e:PySem.Txt.join "" ys=Str.join "" ys:=StrLaws.glued_eq_join "" ys
 rw [e]
 induction ys with
 | nil=>rfl
 | cons y ys ih =>
  cases ys with
  | nil=>show sg y=_;simp
  | cons x ys =>
   have ih:=ih (StrLaws.glued_eq_join "" _)
   show sg (y++""++Str.join "" (x::ys))=_
   rw [zbq,zbq,ih]
   have:sg ("":Str)=[]:=by decide
   rw [this]
   simp
theorem zkp {v:V} (h:zbi v):(zaf v).length≤100∧asc (zaf v)=true:=by
 cases h with
 | bl b=>cases b <;> exact ⟨by decide,by rw [zaD];decide⟩
 | int i h0 h1 =>
  have F:=zcD h0 h1
  refine ⟨by show (toString i:Str).length≤100;rw [← zT];have:=F.most;omega,?_⟩
  show asc (toString i:Str)=true
  rw [zaD,List.all_eq_true]
  exact fun c hc=>decide_eq_true (by have:=F.dig c hc;omega)
 | str z ha hz=>exact ⟨hz,ha⟩
theorem ziQ:∀ {xs:List V},(∀ v∈xs,zbi v)→(zV xs).length≤101*xs.length∧(zV xs).all (· < 128)=true
 | [],_=>⟨by simp [zV],rfl⟩
 | v::xs,h=>by
  obtain ⟨h1,h2⟩:=ziQ (xs:=xs) fun u hu=>h u (List.mem_cons_of_mem _ hu)
  obtain ⟨p1,p2⟩:=zkp (h v (List.mem_cons_self ..))
  have e:zV (v::xs)=sg (zaf v)++[32]++zV xs:=by simp [zV]
  rw [e]
  rw [← zT] at p1
  rw [zaD] at p2
  refine ⟨by simp;omega,?_⟩
  rw [List.all_append,List.all_append,p2,h2]
  rfl
theorem zqj:zz ["part"] ["part"] (zd zd4):=⟨rfl,rfl,rfl,by decide +kernel,rfl,by decide +kernel,by decide +kernel⟩
theorem zrq {f:Addr}{fd:FuncData}{cm:Bool} (F:Fun K "part_text" "part_text" zd4 f fd) (T:Txt w K mg A):zp P w K mg base CX0 cm 1 f fd ["part"] zf0:=by
 refine F.ok zqj (fun vs H Q E h=>?_) (fun cdv Ar outer s H vs Q E hr h=>?_)
 ·obtain ⟨v,rfl,_⟩:=h;rfl
 ·obtain ⟨v,rfl,hv,q⟩:=h
  refine ⟨_,(W.h (zg (zN (zaH (zH zdB rfl T.n_isinstance boot_isinstance (zb (za 0) (zb (zeN rfl T.n_bool boot_bool (v:=.ty "bool") rfl) zc))))
   (zh (zu (ze7 (zaH (za 0)) zG zG)))
   zU)
   (zh (zu (zeA zuv rfl T.n_str boot_str (zb (za 0) zc)))))),?_⟩
  simp_all only []
  cases hv with
  | bl b =>
   refine ⟨_,_,_,_,_,rfl,rfl,.of (.bl b),rfl,?_⟩
   simp_all only []
   cases b with
   | true=>exact zfa q
   | false=>exact zhB q
  | int i h0 h1 =>
   refine ⟨_,_,_,_,_,rfl,rfl,.of (.int i),rfl,?_⟩
   simp_all only []
   exact ⟨zfs (by omega),q⟩
  | str z ha hz =>
   refine ⟨_,_,_,_,_,rfl,rfl,.of (.str z),rfl,?_⟩
   simp_all only []
   exact q
structure zdx (H:Hp) (xs:List V) (i:Nat) (τ:L2.St) (ys:List V) (H':Hp):Prop where
 ex:∃ t,τ=[t]
 ys:ys=((xs.take i).map fun v=>zaf v++" ").map V.str
 same:H'=H
theorem zpN:zz ["row"] ["row"] (zd zc1):=⟨rfl,rfl,rfl,by decide +kernel,rfl,by decide +kernel,by decide +kernel⟩
theorem zqc:zaT { kind:=.function,names:=[(Str.ofString ".0",.local),(Str.ofString "part",.local),(Str.ofString "part_text",.globalImplicit)],isGenerator:=false,isCoroutine:=false,more:=[] } (zd zc1).names ["row"] ["part"] [none]=true:=by decide +kernel
theorem znw:(["part"]:List Str).Nodup:=by decide +kernel
theorem ztf {f:Addr}{fd:FuncData} (F:Fun K "row_text" "row_text" zc1 f fd) (T:Txt w K mg A) (G_summed:GF P w K mg base true 2 "summed" ["body"] zeT) (G_part_text:GF P w K mg base true 1 "part_text" ["part"] zf0):zp P w K mg base CX0 true 3 f fd ["row"] zep:=by
 refine F.ok zpN (fun vs H Q E h=>?_) (fun cdv Ar outer s H vs Q E hr h=>?_)
 ·obtain ⟨a,xs,rfl,_⟩:=h;rfl
 ·obtain ⟨a,xs,rfl,hH,hx,hp,q⟩:=h
  refine ⟨_,(W.h (zh (zu (zo G_summed hr rfl (zb (znH zG (zb5 (fun _=>rfl) (zaz.of zqc) (zwD (za 0)) (fun _ _ _ _ _=>(zO (i:=0) znw rfl (Or.inl rfl))) (fun _ _ _ _ _=>zdE) (fun _ _ _ _ _=>(zK zaC (zo G_part_text hr rfl (zb (za 0) zc)) zG)))) zc))))),?_⟩
  simp_all only []
  have sp1:(" ":Str).length=1:=by decide
  have step:∀ (N:L2.St→List V→Hp→Prop) (i:Nat) (x:V) (τ:L2.St) (ys:List V) (H':Hp),xs[i]?=some x→zdx H xs i τ ys H'→(∀ τ ys H3,zdx H xs (i+1) τ ys H3→N τ ys H3)→zbC 0 x τ H' fun τ1 H4=>zgt τ1 H4 fun ok H5=>zbU N ys τ1 (tOp za8 (zeJ zf0 [] E0 (zel (zdb 0) zbv)) (tC (V.str " "))) ok H5:=by
   intro N i x τ ys H' hx' I hN
   obtain ⟨t,rfl⟩:=I.ex
   have hv:=hp x (List.mem_of_getElem? hx')
   simp_all only []
   refine ⟨x,rfl,hv,?_⟩
   simp_all only []
   refine ⟨?_,hN _ _ _ ⟨⟨_,rfl⟩,by rw [I.ys,List.take_add_one,hx'];simp,I.same⟩⟩
   rw [sp1]
   exact zai (by have:=(zkp hv).1;omega)
  have done:∀ (τ:L2.St) (ys:List V) (H':Hp),zdx H xs xs.length τ ys H'→∀ D H2,New H' D (.lst ys) H2→zev (V.str "") [.ref D] H2 fun x H1=>zeT [x] H1 Q E0:=by
   intro τ ys H' I D H2 n2
   rw [zl5]
   have hall:xs.take xs.length=xs:=List.take_of_length_le (Nat.le_refl _)
   have e:PySem.Txt.join "" (xs.map fun v=>zaf v++" ")=tx (zV xs):=by
    refine zhi ?_
    rw [zqw,zaW,List.map_map]
    unfold zV
    congr 1
    refine List.map_congr_left fun v _=>?_
    show sg (zaf v++" ")=_
    rw [zbq]
    rfl
   obtain ⟨l1,l2⟩:=ziQ hp
   refine ⟨xs.map fun v=>zaf v++" ",by rw [n2.at_,I.ys,hall],?_,tx (zV xs),by rw [e],by rw [zg3];exact l2,by rw [zge];omega,fun H3 s3=>q H3 ?_⟩
   ·have es:((xs.map fun v=>zaf v++" ").map (·.length)).sum=(zV xs).length:=by
     unfold zV
     rw [List.length_flatten,List.map_map,List.map_map]
     congr 1
     refine List.map_congr_left fun v _=>?_
     show (zaf v++" ").length=(sg (zaf v)++[32]).length
     rw [Str.length_append,List.length_append,zT]
     rfl
    rw [es,show ("":Str).length=0 by decide]
    omega
   ·have:=n2.same
    rw [I.same] at this
    exact this.trans s3
  have sml:∀ i τ ys H',zdx H xs i τ ys H'→ys.length<sizeLine:=fun i τ ys H' I=>by
   rw [I.ys,List.length_map,List.length_map,List.length_take]
   exact zaI (by omega)
  rcases hH with hH|hH
  ·exact .inl ⟨⟨_,SqL.of hH⟩,zah.lst (xs:=xs) (zdx H xs) sml (fun i τ ys H' I=>SqL.of (by rw [I.same];exact hH)) ⟨⟨_,rfl⟩,by simp,rfl⟩ step done⟩
  ·exact .inr ⟨⟨_,SqT.of hH⟩,zah.tup (xs:=xs) (zdx H xs) sml (fun i τ ys H' I=>SqT.of (by rw [I.same];exact hH)) ⟨⟨_,rfl⟩,by simp,rfl⟩ step done⟩
end
abbrev zcw:Stmt:=top 40
abbrev zc0:Stmt:=top 39
abbrev zdi:Stmt:=top 38
section
variable {P:Program}{w:World}{K:Frag}{mg:Str→Option Value}{base:Heap}{A:zn}
theorem zmR {z:Str} (h:zaO z=true):∃ n,PySem.intText? z=some n∧z.length≤640:=by
 unfold zaO zao at h
 rw [Bool.and_eq_true,Bool.and_eq_true,Bool.and_eq_true,decide_eq_true_eq,decide_eq_true_eq] at h
 obtain ⟨⟨⟨h1,h2⟩,h3⟩,_⟩:=h
 have hl:z.length≤18:=by omega
 have hd:∀ c∈sg z,48≤c∧c≤57:=by
  intro c hc
  have:=List.all_eq_true.mp h3 c hc
  have hf:sg FIG=[48,49,50,51,52,53,54,55,56,57]:=by decide
  rw [hf] at this
  have:=List.contains_iff_mem.mp this
  simp only [List.mem_cons,List.not_mem_nil,or_false] at this
  omega
 refine ⟨_,intText_digits (x:=z) hd (fun e=>?_) (by omega),by omega⟩
 have:z.length=0:=by rw [← zT];rw [show sg z=[] from e];rfl
 omega
theorem zxj:zz ["kind","word"] ["kind","word"] (zd zcw):=⟨rfl,rfl,rfl,by decide +kernel,rfl,by decide +kernel,by decide +kernel⟩
theorem zoi {f:Addr}{fd:FuncData} (F:Fun K "read_part" "read_part" zcw f fd) (T:Txt w K mg A) (G_is_number_text:GF P w K mg base true 2 "is_number_text" ["text"] (zbV zaO)) (G_is_name:GF P w K mg base true 2 "is_name" ["text"] (zbV zaS)) (G_is_word:GF P w K mg base true 2 "is_word" ["text"] (zbV zbn)) :
  zp P w K mg base (CXW P w) true 3 f fd ["kind","word"] (ziM A):=by
 refine F.okW zxj (fun vs H Q E h=>?_) (fun cdv Ar outer s H vs Q E hr h=>?_)
 ·obtain ⟨k,z,rfl,_⟩:=h;rfl
 ·obtain ⟨k,z,rfl,ha,hz,q⟩:=h
  have hu:_<cLine:=Nat.lt_of_succ_lt (zax hr)
  have Th:=zbO (cm:=true) (P:=P) (w:=w) (K:=K) (mg:=mg) (base:=base) (N:=["kind","word"]) (qual:="read_part") (scope:=zd zcw) (f:=f) (cd:=cdv) (A:=Ar) (outer:=outer) (s:=s) (H:=H) (E:=E)
  refine ⟨_,(W.h (zg (zh9 (zN (zb3 (zca (zM (zaL hu) (za 0) zG (zD _)) (zdO (zaH (zo G_is_number_text hr rfl (zb (za 1) zc))))))
   (zh (zu (zeA zuH rfl T.n_int boot_int (zb (za 1) zc))))
   zU))
   (zg (zh9 (zN (zb3 (zca (zM (zaL hu) (za 0) zG (zD _)) (zdO (zM (ziZ hu) (za 1) (zaY (zb zG (zb zG zc))) rfl))))
   (zh (zu (zba (zaL hu) (za 1) zG (zD _))))
   zU))
   (zg (zh9 (zN (zb3 (zca (zM (zaL hu) (za 0) zG (zD _)) (zdO (zaH (zo G_is_name hr rfl (zb (za 1) zc))))))
   (zh (zu (za 1)))
   zU))
   (zg (zN (zb3 (zca (zM (zaL hu) (za 0) zG (zD _)) (zdO (zaH (zo G_is_word hr rfl (zb (za 1) zc))))))
   (zh (zu (za 1)))
   zU)
   (zh (zcv rfl Th T.ek_NoRow rfl T.mg_NoRow (zb zG zc)))))))),?_⟩
  simp_all only [zgU]
  refine ⟨fun σ' H'=>σ'=[some (.str k),some (.str z)]∧zl H H'∧¬ (k="number"∧zaO z=true),?_,?_⟩
  ·refine zad (fun h1=>?_) fun h1=>⟨rfl,zl.refl _,fun x=>h1 (decide_eq_true x.1)⟩
   refine ⟨z,rfl,ha,hz,fun H1 s1=>?_⟩
   simp_all only []
   refine zad (fun h2=>?_) fun h2=>⟨s1,fun x=>h2 x.2⟩
   obtain ⟨n,hn,hl⟩:=zmR h2
   refine ⟨hl,n,hn,(q H1 s1).1 _ ?_⟩
   unfold zav
   rw [if_pos ⟨of_decide_eq_true h1,h2⟩,hn]
   rfl
  rintro σ' H1 ⟨rfl,s1,n1⟩
  simp_all only [zgU]
  refine ⟨fun σ' H'=>σ'=[some (.str k),some (.str z)]∧zl H H'∧¬ (k="end"∧(z="0"∨z="1")),?_,?_⟩
  ·refine zad (fun h1=>?_) fun h1=>⟨rfl,s1,fun x=>h1 (decide_eq_true x.1)⟩
   refine ⟨by decide,fun p H2 n2=>⟨_,.inr n2.at_,rfl,rfl,?_⟩⟩
   have e:inV (V.str z) [V.str "0",V.str "1"]=true↔(z="0"∨z="1"):=by
    unfold inV
    rw [List.any_cons,List.any_cons,List.any_nil,Bool.or_false,Bool.or_eq_true]
    have e3:∀ a:Str,eqV (V.str a) (V.str z)=true↔z=a:=fun a=>by
     show (a == z)=true↔_
     rw [beq_iff_eq]
     exact eq_comm
    rw [e3,e3]
   refine zad (fun h2=>?_) fun h2=>⟨rfl,s1.trans n2.same,fun x=>h2 (e.mpr x.2)⟩
   refine (q H2 (s1.trans n2.same)).1 _ ?_
   unfold zav
   rw [if_neg n1,if_pos ⟨of_decide_eq_true h1,e.mp h2⟩]
  rintro σ' H2 ⟨rfl,s2,n2⟩
  simp_all only [zgU]
  refine ⟨fun σ' H'=>σ'=[some (.str k),some (.str z)]∧zl H H'∧¬ (k="name"∧zaS z=true),?_,?_⟩
  ·refine zad (fun h1=>?_) fun h1=>⟨rfl,s2,fun x=>h1 (decide_eq_true x.1)⟩
   refine ⟨z,rfl,ha,hz,fun H3 s3=>?_⟩
   simp_all only []
   refine zad (fun h2=>?_) fun h2=>⟨s2.trans s3,fun x=>h2 x.2⟩
   refine (q H3 (s2.trans s3)).1 _ ?_
   unfold zav
   rw [if_neg n1,if_neg n2,if_pos ⟨of_decide_eq_true h1,h2⟩]
  rintro σ' H3 ⟨rfl,s3,n3⟩
  simp_all only []
  refine zad (fun h1=>?_) fun h1=>?_
  ·refine ⟨z,rfl,ha,hz,fun H4 s4=>?_⟩
   simp_all only []
   refine zad (fun h2=>?_) fun h2=>?_
   ·refine (q H4 (s3.trans s4)).1 _ ?_
    unfold zav
    rw [if_neg n1,if_neg n2,if_neg n3,if_pos ⟨of_decide_eq_true h1,h2⟩]
   ·refine ⟨by decide,(q H4 (s3.trans s4)).2 ?_⟩
    unfold zav
    rw [if_neg n1,if_neg n2,if_neg n3,if_neg fun x=>h2 x.2]
  ·refine ⟨by decide,(q H3 s3).2 ?_⟩
   unfold zav
   rw [if_neg n1,if_neg n2,if_neg n3,if_neg fun x=>h1 (decide_eq_true x.1)]
theorem zre (T:Txt w K mg A) (z:Str):(zbR [("put",A.PARTS_put),("cut",A.PARTS_cut),("hold",A.PARTS_hold),("free",A.PARTS_free),("carry",A.PARTS_carry)] z = .non∧zbo z=none) ∨
  ∃ p ks,zbR [("put",A.PARTS_put),("cut",A.PARTS_cut),("hold",A.PARTS_hold),("free",A.PARTS_free),("carry",A.PARTS_carry)] z = .ref p∧zbo z=some ks∧ks.length≤10∧∀ H:Hp,SqT K H p (ks.map V.str):=by
 unfold zbR zbo
 simp only [List.find?_cons,List.find?_nil]
 by_cases h1:z="put"
 ·rw [if_pos h1,decide_eq_true h1.symm]
  exact .inr ⟨_,_,rfl,rfl,by decide,T.t_PARTS_put⟩
 rw [if_neg h1,decide_eq_false (Ne.symm h1)]
 by_cases h2:z="cut"
 ·rw [if_pos h2,decide_eq_true h2.symm]
  exact .inr ⟨_,_,rfl,rfl,by decide,T.t_PARTS_cut⟩
 rw [if_neg h2,decide_eq_false (Ne.symm h2)]
 by_cases h3:z="hold"
 ·rw [if_pos h3,decide_eq_true h3.symm]
  exact .inr ⟨_,_,rfl,rfl,by decide,T.t_PARTS_hold⟩
 rw [if_neg h3,decide_eq_false (Ne.symm h3)]
 by_cases h4:z="free"
 ·rw [if_pos h4,decide_eq_true h4.symm]
  exact .inr ⟨_,_,rfl,rfl,by decide,T.t_PARTS_free⟩
 rw [if_neg h4,decide_eq_false (Ne.symm h4)]
 by_cases h5:z="carry"
 ·rw [if_pos h5,decide_eq_true h5.symm]
  exact .inr ⟨_,_,rfl,rfl,by decide,T.t_PARTS_carry⟩
 rw [if_neg h5,decide_eq_false (Ne.symm h5)]
 exact .inl ⟨rfl,rfl⟩
theorem zfJ:∀ {ks zs:List Str} (ks' zs':List Str),ks.length=zs.length→zam (ks++ks') (zs++zs')=(zam ks zs).bind fun vs=>(zam ks' zs').map (vs++·)
 | [],[],ks',zs',_=>by simp [zam]
 | k::ks,z::zs,ks',zs',h=>by
  have ih:=zfJ (ks:=ks) (zs:=zs) ks' zs' (by simpa using h)
  show (zav k z).bind (fun v=>(zam (ks++ks') (zs++zs')).map (v::·))=((zav k z).bind fun v=>(zam ks zs).map (v::·)).bind _
  rw [ih]
  cases zav k z with
  | none=>rfl
  | some v =>
   cases zam ks zs with
   | none=>rfl
   | some vs =>
    show ((zam ks' zs').map (vs++·)).map (v::·)=(zam ks' zs').map ((v::vs)++·)
    rw [Option.map_map]
    rfl
 | [],z::zs,_,_,h=>by cases h
 | k::ks,[],_,_,h=>by cases h
theorem zb2 (z:Str) (zs:List Str):zbd (z::zs)=(zbo z).bind fun ks=>if zs.length=ks.length then (zam ks zs).map (.str z::·) else none:=rfl
theorem zmY {x:V}{l:List V}:za7 (x::l) (some 1) none=l:=by
 have e1:HT.sIx (x::l).length 0 (some 1)=1:=by simp [HT.sIx]
 have e2:HT.sIx (x::l).length (x::l).length none=l.length+1:=by simp [HT.sIx]
 unfold za7
 rw [e1,e2]
 simp
structure zuf (H:Hp) (a p r b:Addr) (z:Str) (ks zs:List Str) (i:Nat) (σ:L2.St) (H':Hp):Prop where
 ex:∃ k' z',σ=[some (V.ref a),some (.ref p),some (.ref r),k',z']
 same:zl H H'
 row:∃ vs,H' r=some (.lst (.str z::vs))∧zam (ks.take i) (zs.take i)=some vs∧vs.length=i
 words:H' b=some (.lst (zs.map V.str))
 ne:H r=none∧H b=none∧r≠b
theorem zeD:zz ["words","kinds","row","kind","word"] ["words"] (zd zc0):=⟨rfl,rfl,rfl,by decide +kernel,rfl,by decide +kernel,by decide +kernel⟩
theorem zr5 {f:Addr}{fd:FuncData} (F:Fun K "row_of" "row_of" zc0 f fd) (T:Txt w K mg A) (G_read_part:GX P w K mg base true 3 "read_part" ["kind","word"] (ziM A)):zp P w K mg base (CXW P w) true 4 f fd ["words"] (zgx A):=by
 refine F.okW zeD (fun vs H Q E h=>?_) (fun cdv Ar outer s H vs Q E hr h=>?_)
 ·obtain ⟨a,ws,rfl,_⟩:=h;rfl
 ·obtain ⟨a,ws,rfl,hH,hne,hl,hw,q,qn⟩:=h
  have hu:_<cLine:=Nat.lt_of_succ_lt (zax hr)
  have Th:=zbO (cm:=true) (P:=P) (w:=w) (K:=K) (mg:=mg) (base:=base) (N:=["words","kinds","row","kind","word"]) (qual:="row_of") (scope:=zd zc0) (f:=f) (cd:=cdv) (A:=Ar) (outer:=outer) (s:=s) (H:=H) (E:=E)
  obtain ⟨z,zs,rfl⟩:=List.exists_cons_of_ne_nil hne
  have e0:atI (V.str z::List.map V.str zs) 0=some (.str z):=zaU (j:=0) rfl
  refine ⟨_,(W.h (zg (zx (i:=1) zeD.nd rfl (Or.inl rfl) (zvg rfl T.mg_PARTS T.d_PARTS (zR zQ (za 0) zj (fun _ _=>rfl))))
   (zg (zN (zb3 (zim (zM zfo (za 1) zal (zD _)) (zhk (zM (zbW hu) (zH zaQ rfl T.n_len PySem.boot_len (zb (za 0) zc)) (zK zaC (zH zfA rfl T.n_len PySem.boot_len (zb (za 1) zc)) zj) (zD _)))))
   (zh (zcv rfl Th T.ek_NoRow rfl T.mg_NoRow (zb zG zc)))
   zU)
   (zg (zx (i:=2) zeD.nd rfl (Or.inl rfl) (zX (zb (zR zQ (za 0) zj (fun _ _=>rfl)) zc)))
   (zg (zv4 Th (zbl (zuF rfl (fun ok=>ok.frames) rfl) (by intro h;exact nomatch h) (zou rfl T.n_zip (zb (za 1) (zb (zdW zeg (za 0) (zdV zj) zea) zc))) (zd5 (n:=2) (zau (zO (i:=3) zeD.nd rfl (Or.inl rfl)) (zau (zO (i:=4) zeD.nd rfl (Or.inl rfl)) zbL)))
   (zh (zaa (zcj (za 2) (zfj znk G_read_part hr rfl (zb (za 3) (zb (za 4) zc))))))))
   (zh (zu (zeA zvA rfl T.n_tuple boot_tuple (zb (za 2) zc))))))))),?_⟩
  simp_all only [hH,e0]
  rcases zre T z with ⟨g1,g2⟩|⟨p,ks,g1,g2,g4,g3⟩
  ·simp_all only [g1]
   exact ⟨by decide,qn (by rw [zb2,g2];rfl) H (zl.refl _)⟩
  simp_all only [g1,hH]
  refine ⟨_,.inr (g3 H),?_⟩
  have hl2:(!decide ((((List.map V.str zs).length+1:Nat):Int)=((List.map V.str ks).length:Int)+1))=true↔zs.length≠ks.length:=by
   rw [List.length_map,List.length_map]
   simp
   omega
  refine zad (fun h=>?_) fun h=>?_
  ·refine ⟨by decide,qn ?_ H (zl.refl _)⟩
   rw [zb2,g2]
   show (if zs.length=ks.length then _ else _)=_
   rw [if_neg (hl2.mp h)]
  have hlen:ks.length=zs.length:=by
   refine Classical.byContradiction fun hx=>h (hl2.mpr fun x=>hx x.symm)
  have hrow:zbd (z::zs)=(zam ks zs).map (.str z::·):=by
   rw [zb2,g2]
   show (if zs.length=ks.length then _ else _)=_
   rw [if_pos hlen.symm]
  refine ⟨_,e0,by decide,fun r H1 n1 _=>⟨_,n1.same _ _ hH,fun b H2 n2=>?_⟩⟩
  have s2:zl H H2:=n1.same.trans n2.same
  have er:=n2.same _ _ n1.at_
  have eb:=n2.at_
  rw [List.map_cons,zmY] at eb
  have hrb:r≠b:=fun x=>by rw [x] at n1;have:=n1.at_;rw [n2.no] at this;cases this
  refine ⟨⟨_,g3 H2⟩,⟨_,SqL.of eb⟩,zak.zipT (xs:=ks.map V.str) (ys:=zs.map V.str) (by rw [List.length_map,List.length_map];exact hlen) (zuf H a p r b z ks zs) ⟨⟨_,_,rfl⟩,s2,⟨[],er,by simp [zam],rfl⟩,eb,n1.no,n1.same.free n2.no,hrb⟩ (fun i σ H' _ I=>⟨g3 H',SqL.of I.words⟩) ?_ ?_⟩
  ·intro i x y t σ H' hx hy I ht
   obtain ⟨k',z',rfl⟩:=I.ex
   rw [List.getElem?_map] at hx hy
   obtain ⟨k,hk,rfl⟩:=Option.map_eq_some_iff.mp hx
   obtain ⟨u,hu',rfl⟩:=Option.map_eq_some_iff.mp hy
   obtain ⟨vs,hv,hp,hvl⟩:=I.row
   have hm:=hw u (List.mem_cons_of_mem _ (List.mem_of_getElem? hu'))
   simp_all only []
   refine ⟨t,_,rfl,SqT.of zF,rfl,?_⟩
   have hrt:r≠t:=fun x=>by rw [x] at hv;rw [ht] at hv;cases hv
   have hbt:b≠t:=fun x=>by have:=I.words;rw [x,ht] at this;cases this
   have hv2:upd H' t (.tup [.str k,.str u]) r=some (.lst (.str z::vs)):=by rw [ze hrt];exact hv
   simp_all only [hv2]
   have st:zl H (upd H' t (.tup [.str k,.str u])):=fun c o e=>by
    have:=I.same c o e
    rw [ze (zt this ht)];exact this
   have hi:i<ks.length:=(List.getElem?_eq_some_iff.mp hk).1
   have ta:(ks.take i).length=(zs.take i).length:=by rw [List.length_take,List.length_take,hlen]
   have tk:ks.take (i+1)=ks.take i++[k]:=by rw [List.take_add_one,hk];rfl
   have tz:zs.take (i+1)=zs.take i++[u]:=by rw [List.take_add_one,hu'];rfl
   refine ⟨k,u,rfl,hm.1,hm.2,fun H3 s3=>⟨fun v hr'=>?_,fun hr'=>?_⟩⟩
   ·have h3r:H3 r=some (.lst (.str z::vs)):=s3 _ _ hv2
    have h3b:H3 b=some (.lst (zs.map V.str)):=s3 _ _ (by rw [ze hbt];exact I.words)
    refine ⟨_,h3r,by simp;exact zaI (by omega),⟨⟨_,_,rfl⟩,fun c o e=>?_,⟨vs++[v],by rw [zF];rfl,?_,by simp [hvl]⟩,by rw [ze (Ne.symm hrb)];exact h3b,I.ne⟩⟩
    ·rw [ze (zt e I.ne.1)]
     exact s3 _ _ (st c o e)
    ·rw [tk,tz,zfJ _ _ ta,hp]
     show (zam [k] [u]).map (vs++·)=_
     simp [zam,hr']
   ·refine ⟨_,rfl,qn ?_ H3 (st.trans s3)⟩
    have e1:zam ks zs=none:=by
     have k1:ks=ks.take (i+1)++ks.drop (i+1):=(List.take_append_drop _ _).symm
     have z1:zs=zs.take (i+1)++zs.drop (i+1):=(List.take_append_drop _ _).symm
     rw [k1,z1,zfJ _ _ (by rw [List.length_take,List.length_take,hlen]),tk,tz,zfJ _ _ ta,hp]
     simp [zam,hr']
    rw [hrow,e1]
    rfl
  ·rintro σ H' I
   obtain ⟨k',z',rfl⟩:=I.ex
   obtain ⟨vs,hv,hp,hvl⟩:=I.row
   simp_all only [hv]
   intro l H2 n2
   rw [List.length_map,List.take_of_length_le (Nat.le_refl _),List.take_of_length_le (by omega)] at hp
   exact q _ (by rw [hrow,hp];rfl) l H2 (I.same.trans n2.same) n2.at_
theorem zfN {c:Nat}:∀ {l:List Nat}{w:List Nat},w∈zaj c l→∀ x∈w,x∈l
 | [],w,h,x,hx=>by
  rw [show zaj c []=[[]] from rfl,List.mem_singleton] at h
  rw [h] at hx;cases hx
 | y::l,w,h,x,hx=>by
  by_cases hc:y=c
  ·rw [show zaj c (y::l)=[]::zaj c l from if_pos hc] at h
   rcases List.mem_cons.mp h with e|h
   ·rw [e] at hx;cases hx
   ·exact List.mem_cons_of_mem _ (zfN h x hx)
  ·rw [ze1 c y l hc] at h
   obtain ⟨a,r,e⟩:=zcL c l
   rw [e] at h
   rcases List.mem_cons.mp h with e2|h
   ·rw [e2] at hx
    rcases List.mem_cons.mp hx with e3|hx
    ·rw [e3];exact List.mem_cons_self ..
    ·exact List.mem_cons_of_mem _ (zfN (l:=l) (w:=a) (by rw [e];exact List.mem_cons_self ..) x hx)
   ·exact List.mem_cons_of_mem _ (zfN (l:=l) (by rw [e];exact List.mem_cons_of_mem _ h) x hx)
theorem zjZ (c:Nat):∀ l:List Nat,(zaj c l).length≤l.length+1∧∀ w∈zaj c l,w.length≤l.length
 | []=>⟨by simp [zaj],by simp [zaj]⟩
 | y::l=>by
  obtain ⟨h1,h2⟩:=zjZ c l
  by_cases hc:y=c
  ·rw [show zaj c (y::l)=[]::zaj c l from if_pos hc]
   refine ⟨by simp;omega,fun w hw=>?_⟩
   rcases List.mem_cons.mp hw with e|hw
   ·rw [e];simp
   ·have:=h2 w hw;simp;omega
  ·rw [ze1 c y l hc]
   obtain ⟨a,r,e⟩:=zcL c l
   rw [e] at h1 h2 ⊢
   refine ⟨by simpa [zck] using Nat.le_succ_of_le h1,fun w hw=>?_⟩
   rcases List.mem_cons.mp hw with e2|hw
   ·have:=h2 a (List.mem_cons_self ..);rw [e2];simp;omega
   ·have:=h2 w (List.mem_cons_of_mem _ hw);simp;omega
theorem zp9 {z:Str} (h:asc z=true) {c:Nat} (hc:c∈sg z):c<128:=by
 rw [zaD] at h
 simpa using List.all_eq_true.mp h c hc
theorem zlE:zz ["text","body"] ["text"] (zd zdi):=⟨rfl,rfl,rfl,by decide +kernel,rfl,by decide +kernel,by decide +kernel⟩
theorem zmE {f:Addr}{fd:FuncData} (F:Fun K "read_row" "read_row" zdi f fd) (T:Txt w K mg A) (G_body_of:GF P w K mg base true 3 "body_of" ["text"] zhI) (G_row_of:GX P w K mg base true 4 "row_of" ["words"] (zgx A)):zp P w K mg base (CXW P w) true 5 f fd ["text"] (zgE A):=by
 refine F.okW zlE (fun vs H Q E h=>?_) (fun cdv Ar outer s H vs Q E hr h=>?_)
 ·rcases h with ⟨v,rfl,_⟩|⟨z,rfl,_⟩ <;> rfl
 ·have Th:=zbO (cm:=true) (P:=P) (w:=w) (K:=K) (mg:=mg) (base:=base) (N:=["text","body"]) (qual:="read_row") (scope:=zd zdi) (f:=f) (cd:=cdv) (A:=Ar) (outer:=outer) (s:=s) (H:=H) (E:=E)
  refine ⟨_,(W.h (zg (zx (i:=1) zlE.nd rfl (Or.inl rfl) (zo G_body_of hr rfl (zb (za 0) zc)))
   (zg (zN (zM zfo (za 1) zal (zD _))
   (zh (zcv rfl Th T.ek_NoRow rfl T.mg_NoRow (zb zG zc)))
   zU)
   (zh (zu (zfj Th G_row_of hr rfl (zb (zrE (zdW zeg (za 1) zea (zdV (ziD ziG zj))) zG) zc))))))),?_⟩
  rcases h with ⟨v,rfl,tv,q⟩|⟨z,rfl,ha,hz,q,qn⟩
  case inl =>
   simp_all only []
   refine .inr ⟨v,rfl,tv,?_⟩
   simp_all only []
   exact ⟨by decide,q⟩
  simp_all only []
  refine .inl ⟨z,rfl,ha,hz,fun H1 s1=>?_⟩
  cases hb:zbY z with
  | none =>
   simp_all only [zh0]
   exact ⟨by decide,qn (by unfold zaG;rw [hb];rfl) H1 s1⟩
  | some b =>
   have eb:b=za6 z:=by
    unfold zbY at hb
    split at hb
    ·exact (Option.some.inj hb).symm
    ·cases hb
   obtain ⟨b1,b2⟩:=zkV ha
   rw [← eb] at b1 b2
   have hs:zaG z=zbd (PySem.Txt.split (PySem.Txt.slice b none (some (-1))) (c1 32)):=by unfold zaG;rw [hb];rfl
   have b3:(PySem.Txt.slice b none (some (-1))).length≤b.length:=PySem.Txt.slice_le _ _ _
   simp_all only [zh0,zl0,zai (Nat.le_trans (Nat.le_trans b2 hz) (by decide))]
   generalize hy:PySem.Txt.slice b none (some (-1))=y at *
   have ya:asc y=true:=by
    by_cases h0:0<(sg b).length
    ·rw [zlC h0] at hy
     rw [← hy]
     exact ziN b1 fun c hc=>(List.dropLast_sublist _).subset hc
    ·rw [zT] at h0
     have:sg y=[]:=List.eq_nil_of_length_eq_zero (by rw [zT];omega)
     rw [zaD,this];rfl
   have es:=zll y (c:=32) (by decide)
   obtain ⟨l1,l2⟩:=zjZ 32 (sg y)
   rw [zT] at l1
   refine ⟨by decide,zaI (by omega),by rw [es,List.length_map];exact zai (by omega),fun p H2 n2=>?_⟩
   refine ⟨p,PySem.Txt.split y (c1 32),rfl,n2.at_,?_,by rw [es,List.length_map];omega,fun u hu=>?_,fun xs hx p3 H3 s3 h3=>q xs (by rw [hs];exact hx) p3 H3 ((s1.trans n2.same).trans s3) h3,fun hx H3 s3=>⟨_,rfl,qn (by rw [hs];exact hx) H3 ((s1.trans n2.same).trans s3)⟩⟩
   ·rw [es]
    obtain ⟨a,r,e⟩:=zcL 32 (sg y)
    rw [e];simp
   ·rw [es] at hu
    obtain ⟨v,hv,rfl⟩:=List.mem_map.mp hu
    refine ⟨ziN ya (zfN hv),?_⟩
    rw [zge]
    have:=l2 v hv
    rw [zT] at this
    omega
end
def zaF (i:Int):Prop:=0≤i∧i<10 ^ 18
inductive zay:List V→Prop
 | put (n g:Int) (b:Bool) (nm:Str) (pl:Int) (wd:Str):zaF n→zaF g→zaF pl→zaS nm=true→zbn wd=true→zay [.str "put",.int n,.int g,.bl b,.str nm,.int pl,.str wd]
 | cut (n:Int) (nm:Str) (pl:Int):zaF n→zaF pl→zaS nm=true→zay [.str "cut",.int n,.str nm,.int pl]
 | hold (n:Int) (nm:Str):zaF n→zaS nm=true→zay [.str "hold",.int n,.str nm]
 | free (n:Int) (nm:Str):zaF n→zaS nm=true→zay [.str "free",.int n,.str nm]
 | carry (n g:Int) (wd:Str):zaF n→zaF g→zbn wd=true→zay [.str "carry",.int n,.int g,.str wd]
theorem zvN {z y:Str}{m:Int} (h:∀ c∈sg z,c∈sg y) (h1:1≤z.length) (h2:(z.length:Int)≤m):zao z y m=true:=by
 unfold zao
 rw [decide_eq_true (show (1:Int)≤z.length by omega),decide_eq_true h2]
 rw [Bool.true_and,Bool.true_and,List.all_eq_true]
 exact fun c hc=>List.contains_iff_mem.mpr (h c hc)
theorem ztP {l:List Nat} (hl:∃ a,l=a++[32]):za6 (zbj (tx l))=tx l:=by
 obtain ⟨a,rfl⟩:=hl
 have F:=zcD (zci (tx (a++[32]))).1 (by have:=(zci (tx (a++[32]))).2;omega)
 have e:sg (zbj (tx (a++[32])))=a++32::(sg (toString (za3 (tx (a++[32]))):Str)++[59]):=by
  unfold zbj
  rw [zbq,zbq,zaW]
  simp
  decide +kernel
 refine zko e fun h=>?_
 rcases List.mem_append.mp h with h|h
 ·have:=F.dig 32 h;omega
 ·simp at h
theorem zi3 {z y:Str}{m:Int} (h:zao z y m=true) (hy:32∉sg y):32∉sg z:=by
 unfold zao at h
 rw [Bool.and_eq_true] at h
 intro hz
 exact hy (List.contains_iff_mem.mp (List.all_eq_true.mp h.2 32 hz))
theorem zfi {z:Str} (h:zaS z=true):32∉sg z:=zi3 h (by decide +kernel)
theorem zku {z:Str} (h:zbn z=true):32∉sg z:=zi3 h (by decide +kernel)
theorem zbP {i:Int} (h:zaF i):32∉sg (toString i:Str):=fun hz=>by
 have:=(zcD h.1 h.2).dig 32 hz
 omega
theorem zly {z y:Str}{m:Int} (h:zao z y m=true) (hy:∀ c∈sg y,c<128) (hm:m≤100):asc z=true∧z.length≤100:=by
 unfold zao at h
 rw [Bool.and_eq_true,Bool.and_eq_true,decide_eq_true_eq,decide_eq_true_eq] at h
 refine ⟨?_,by omega⟩
 rw [zaD,List.all_eq_true]
 exact fun c hc=>decide_eq_true (hy c (List.contains_iff_mem.mp (List.all_eq_true.mp h.2 c hc)))
theorem zfv {z:Str} (h:zaS z=true):zbi (.str z):=by
 obtain ⟨a,b⟩:=zly h (by decide +kernel) (by decide)
 exact .str z a b
theorem zlA {z:Str} (h:zbn z=true):zbi (.str z):=by
 obtain ⟨a,b⟩:=zly h (by decide +kernel) (by decide)
 exact .str z a b
theorem zbX {i:Int} (h:zaF i):zbi (.int i):=.int i h.1 h.2
theorem zoB {i:Int} (h:zaF i):zaO (toString i:Str)=true:=by
 have F:=zcD h.1 h.2
 unfold zaO
 rw [Bool.and_eq_true]
 constructor
 ·refine zvN (fun c hc=>?_) (by rw [← zT];exact F.one) (by rw [← zT];have:=F.most;omega)
  have hf:sg FIG=[48,49,50,51,52,53,54,55,56,57]:=by decide
  rw [hf]
  have:=F.dig c hc
  simp
  omega
 ·rcases F.head with h|⟨c,r,e,hc⟩
  ·rw [decide_eq_true h];rfl
  ·rw [e]
   have : ¬ tx (List.take 1 (c::r))=("0":Str):=fun x=>by
    have:=congrArg sg x
    rw [zaW] at this
    have h0:sg ("0":Str)=[48]:=by decide
    rw [h0] at this
    injection this with h1 _
    omega
   rw [decide_eq_false this]
   simp
theorem zb1 {i:Int} (h:zaF i):zav "number" (toString i:Str)=some (.int i):=by
 unfold zav
 rw [if_pos ⟨rfl,zoB h⟩,(zcD h.1 h.2).back]
 rfl
theorem zfm {z:Str} (h:zaS z=true):zav "name" z=some (.str z):=by
 unfold zav
 rw [if_neg (fun x=>absurd x.1 (by decide +kernel)),if_neg (fun x=>absurd x.1 (by decide +kernel)),if_pos ⟨rfl,h⟩]
theorem zkn {z:Str} (h:zbn z=true):zav "word" z=some (.str z):=by
 unfold zav
 rw [if_neg (fun x=>absurd x.1 (by decide +kernel)),if_neg (fun x=>absurd x.1 (by decide +kernel)),if_neg (fun x=>absurd x.1 (by decide +kernel)),if_pos ⟨rfl,h⟩]
theorem zsy (b:Bool):zav "end" (zaf (.bl b))=some (.bl b):=by cases b <;> decide +kernel
theorem zeu {xs:List V}{v:V} (hn:∀ u∈v::xs,32∉sg (zaf u)):zaG (zag (v::xs))=zbd ((v::xs).map zaf):=by
 have flat:∀ l:List V,zV l=(l.map fun u=>sg (zaf u)++[32]).flatten:=fun l=>rfl
 have ap:∀ (u:V) (l:List V),zV (u::l)=sg (zaf u)++32::zV l:=fun u l=>by simp [zV]
 have key:∀ (u:V) (l:List V),zV (u::l)=sg (zaf u)++((l.map fun t=>sg (zaf t)).map (32::·)).flatten++[32]:=by
  intro u l
  induction l generalizing u with
  | nil=>simp [zV]
  | cons t l ih =>
   rw [ap u (t::l),ih t]
   simp
 have hb:za6 (zag (v::xs))=tx (zV (v::xs)):=ztP ⟨_,key v xs⟩
 have hs:zbY (zag (v::xs))=some (tx (zV (v::xs))):=by
  unfold zbY
  rw [hb]
  exact if_pos rfl
 unfold zaG
 rw [hs]
 show zbd (PySem.Txt.split (PySem.Txt.slice (tx (zV (v::xs))) none (some (-1))) (c1 32))=_
 rw [zlC (by rw [zaW,key,List.length_append];exact Nat.lt_of_lt_of_le (by decide) (Nat.le_add_left _ _)),zaW,key,List.dropLast_concat,zll _ (by decide),zaW,zhP]
 ·congr 1
  rw [List.map_cons,List.map_map,List.map_cons,ze0]
  congr 1
 ·intro u hu
  rcases List.mem_cons.mp hu with rfl|hu
  ·exact hn v (List.mem_cons_self ..)
  ·obtain ⟨t,ht,rfl⟩:=List.mem_map.mp hu
   exact hn t (List.mem_cons_of_mem _ ht)
theorem zay.read {xs:List V} (h:zay xs):zaG (zag xs)=some xs:=by
 have bno:∀ b:Bool,32∉sg (zaf (.bl b)):=fun b=>by cases b <;> decide
 cases h with
 | put n g b nm pl wd h1 h2 h3 h4 h5 =>
  rw [zeu (by
   simp only [List.mem_cons,List.not_mem_nil,or_false]
   rintro u (rfl|rfl|rfl|rfl|rfl|rfl|rfl)
   ·decide +kernel
   ·exact zbP h1
   ·exact zbP h2
   ·exact bno b
   ·exact zfi h4
   ·exact zbP h3
   ·exact zku h5)]
  have ek:zbo "put"=some (["number","number","end","name","number","word"]:List Str):=by decide +kernel
  show zbd [("put":Str),(toString n:Str),(toString g:Str),zaf (.bl b),nm,(toString pl:Str),wd]=_
  rw [zb2,ek]
  simp only [Option.bind_some,List.length_cons,List.length_nil,if_true,zam,zb1 h1,zb1 h2,zsy,zfm h4,zb1 h3,zkn h5,Option.map_some]
 | cut n nm pl h1 h2 h3 =>
  rw [zeu (by
   simp only [List.mem_cons,List.not_mem_nil,or_false]
   rintro u (rfl|rfl|rfl|rfl)
   ·decide +kernel
   ·exact zbP h1
   ·exact zfi h3
   ·exact zbP h2)]
  have ek:zbo "cut"=some (["number","name","number"]:List Str):=by decide +kernel
  show zbd [("cut":Str),(toString n:Str),nm,(toString pl:Str)]=_
  rw [zb2,ek]
  simp only [Option.bind_some,List.length_cons,List.length_nil,if_true,zam,zb1 h1,zfm h3,zb1 h2,Option.map_some]
 | hold n nm h1 h2 =>
  rw [zeu (by
   simp only [List.mem_cons,List.not_mem_nil,or_false]
   rintro u (rfl|rfl|rfl)
   ·decide +kernel
   ·exact zbP h1
   ·exact zfi h2)]
  have ek:zbo "hold"=some (["number","name"]:List Str):=by decide +kernel
  show zbd [("hold":Str),(toString n:Str),nm]=_
  rw [zb2,ek]
  simp only [Option.bind_some,List.length_cons,List.length_nil,if_true,zam,zb1 h1,zfm h2,Option.map_some]
 | free n nm h1 h2 =>
  rw [zeu (by
   simp only [List.mem_cons,List.not_mem_nil,or_false]
   rintro u (rfl|rfl|rfl)
   ·decide +kernel
   ·exact zbP h1
   ·exact zfi h2)]
  have ek:zbo "free"=some (["number","name"]:List Str):=by decide +kernel
  show zbd [("free":Str),(toString n:Str),nm]=_
  rw [zb2,ek]
  simp only [Option.bind_some,List.length_cons,List.length_nil,if_true,zam,zb1 h1,zfm h2,Option.map_some]
 | carry n g wd h1 h2 h3 =>
  rw [zeu (by
   simp only [List.mem_cons,List.not_mem_nil,or_false]
   rintro u (rfl|rfl|rfl|rfl)
   ·decide +kernel
   ·exact zbP h1
   ·exact zbP h2
   ·exact zku h3)]
  have ek:zbo "carry"=some (["number","number","word"]:List Str):=by decide +kernel
  show zbd [("carry":Str),(toString n:Str),(toString g:Str),wd]=_
  rw [zb2,ek]
  simp only [Option.bind_some,List.length_cons,List.length_nil,if_true,zam,zb1 h1,zb1 h2,zkn h3,Option.map_some]
theorem zay.parts {xs:List V} (h:zay xs):xs.length≤10∧xs.all zS=true∧(∀ v∈xs,∀ b,v≠.byt b)∧∀ v∈xs,zbi v:=by
 have kp:∀ z:Str,asc z=true→z.length≤100→zbi (.str z):=fun z a b=>.str z a b
 cases h with
 | put n g b nm pl wd h1 h2 h3 h4 h5 =>
  refine ⟨by simp,rfl,by simp,?_⟩
  simp only [List.mem_cons,List.not_mem_nil,or_false]
  rintro u (rfl|rfl|rfl|rfl|rfl|rfl|rfl)
  ·exact kp _ (by rw [zaD];decide +kernel) (by decide)
  ·exact zbX h1
  ·exact zbX h2
  ·exact .bl b
  ·exact zfv h4
  ·exact zbX h3
  ·exact zlA h5
 | cut n nm pl h1 h2 h3 =>
  refine ⟨by simp,rfl,by simp,?_⟩
  simp only [List.mem_cons,List.not_mem_nil,or_false]
  rintro u (rfl|rfl|rfl|rfl)
  ·exact kp _ (by rw [zaD];decide +kernel) (by decide)
  ·exact zbX h1
  ·exact zfv h3
  ·exact zbX h2
 | hold n nm h1 h2 =>
  refine ⟨by simp,rfl,by simp,?_⟩
  simp only [List.mem_cons,List.not_mem_nil,or_false]
  rintro u (rfl|rfl|rfl)
  ·exact kp _ (by rw [zaD];decide +kernel) (by decide)
  ·exact zbX h1
  ·exact zfv h2
 | free n nm h1 h2 =>
  refine ⟨by simp,rfl,by simp,?_⟩
  simp only [List.mem_cons,List.not_mem_nil,or_false]
  rintro u (rfl|rfl|rfl)
  ·exact kp _ (by rw [zaD];decide +kernel) (by decide)
  ·exact zbX h1
  ·exact zfv h2
 | carry n g wd h1 h2 h3 =>
  refine ⟨by simp,rfl,by simp,?_⟩
  simp only [List.mem_cons,List.not_mem_nil,or_false]
  rintro u (rfl|rfl|rfl|rfl)
  ·exact kp _ (by rw [zaD];decide +kernel) (by decide)
  ·exact zbX h1
  ·exact zbX h2
  ·exact zlA h3
abbrev Tx:=Option Str
def tv:Tx→V|none=>.non|some z=>.str z
def lv:Option Int→V|none=>.non|some i=>.int i
structure DM where
 rows:List (List Tx)
 sides:List Tx
 cnt:Int
 left:Option Int
 st:Bool
def dn (left:Option Int) (many:Int):Int:=match left with|none=>many|some l=>if l<many then l else many
def DM.spend (d:DM) (many:Int):DM:={ d with cnt:=d.cnt+dn d.left many,left:=d.left.map (· - dn d.left many),st:=decide (dn d.left many<many) }
inductive Res where|val (v:V)|full|stop
def zbS (t:Str) (n:Int):Tx:=some (Txt.slice t none (some n))
def DM.write (m:Int) (d:DM) (k:Nat) (t:Str):Res×DM :=
 if d.st=true then (.stop,d) else if ((d.rows.getD k []).length:Int)=m then (.full,d) else
 if dn d.left t.length=0∧(d.spend t.length).st=true then (.stop,d.spend t.length) else
 ((if (d.spend t.length).st=true then .stop else .val (.int (d.rows.getD k []).length)),{ d.spend t.length with rows:=d.rows.set k (d.rows.getD k []++[zbS t (dn d.left t.length)]) })
def DM.empty (d:DM) (k:Nat):Res×DM :=
 if d.st=true then (.stop,d) else
 if (d.spend (d.rows.getD k []).length).st=true then (.stop,{ d.spend (d.rows.getD k []).length with rows:=d.rows.set k (List.replicate (dn d.left (d.rows.getD k []).length).toNat none++(d.rows.getD k []).drop (dn d.left (d.rows.getD k []).length).toNat) }) else
 (.val .non,{ d.spend (d.rows.getD k []).length with rows:=d.rows.set k [] })
def DM.put (d:DM) (k:Nat) (t:Str):Res×DM :=
 if d.st=true then (.stop,d) else if dn d.left t.length=0∧(d.spend t.length).st=true then (.stop,d.spend t.length) else
 ((if (d.spend t.length).st=true then .stop else .val .non),{ d.spend t.length with sides:=d.sides.set k (zbS t (dn d.left t.length)) })
structure Rows (H:Hp) (wl:Addr) (cells:List Addr) (rows:List (List Tx)):Prop where
 w:H wl=some (.lst (cells.map V.ref))
 len:cells.length=rows.length
 at_:∀ i c,cells[i]?=some c→H c=some (.lst ((rows.getD i []).map tv))
def zq (m:Int) (wl sl:Addr) (d:DM):List (Str×V):=[("width",.int m),("written",.ref wl),("at_sides",.ref sl),("counted",.int d.cnt),("left",lv d.left),("has_stopped",.bl d.st)]
structure zB (A:zn) (H:Hp) (p wl sl:Addr) (cells:List Addr) (m:Int) (d:DM):Prop where
 ob:∃ dx,H p=some (.ins A.Disk dx (zq m wl sl d))
 rows:Rows H wl cells d.rows
 sides:H sl=some (.lst (d.sides.map tv))
 nd:(p::wl::sl::cells).Nodup
structure ziq (H:Hp) (q rl sl:Addr) (cells:List Addr) (d:DM):Prop where
 ob:H q=some (.lst [.ref rl,.ref sl,.int d.cnt,lv d.left,.bl d.st])
 rows:Rows H rl cells d.rows
 sides:H sl=some (.lst (d.sides.map tv))
 nd:(q::rl::sl::cells).Nodup
def zm (F:List Addr) (H H':Hp):Prop:=∀ b o,H b=some o→b∉F→H' b=some o
theorem zm.refl {F:List Addr}{H:Hp}:zm F H H:=fun _ _ h _=>h
theorem zm.trans {F:List Addr}{H H1 H2:Hp} (a:zm F H H1) (b:zm F H1 H2):zm F H H2:=fun c o h hc=>b c o (a c o h hc) hc
theorem zm.mono {F G:List Addr}{H H':Hp} (a:zm F H H') (s:∀ x∈F,x∈G):zm G H H':=fun c o h hc=>a c o h fun z=>hc (s c z)
theorem zm.same {F:List Addr}{H H':Hp} (a:zl H H'):zm F H H':=fun c o h _=>a c o h
theorem zm.upd {F:List Addr}{H:Hp}{x:Addr}{o:HO} (hx:x∈F):zm F H (L2.upd H x o):=fun c u h hc=>by
 have hne:c≠x:=fun z=>hc (by rw [z];exact hx)
 rw [ze hne];exact h
theorem Rows.keep {H H':Hp}{wl:Addr}{cells:List Addr}{rows:List (List Tx)} (r:Rows H wl cells rows) (k:∀ b o,H b=some o→b=wl∨b∈cells→H' b=some o):Rows H' wl cells rows :=
 ⟨k _ _ r.w (.inl rfl),r.len,fun i c hc=>k _ _ (r.at_ i c hc) (.inr (List.mem_of_getElem? hc))⟩
theorem zB.keep {A:zn}{H H':Hp}{p wl sl:Addr}{cells:List Addr}{m:Int}{d:DM}{F:List Addr} (D:zB A H p wl sl cells m d) (k:zm F H H') (hF:∀ x∈p::wl::sl::cells,x∉F):zB A H' p wl sl cells m d:=by
 obtain ⟨dx,h⟩:=D.ob
 refine ⟨⟨dx,k _ _ h (hF _ (by simp))⟩,D.rows.keep fun b o e hb=>k b o e (hF b ?_),k _ _ D.sides (hF _ (by simp)),D.nd⟩
 rcases hb with rfl|hb
 ·simp
 ·simp [hb]
theorem ziq.keep {H H':Hp}{q rl sl:Addr}{cells:List Addr}{d:DM}{F:List Addr} (D:ziq H q rl sl cells d) (k:zm F H H') (hF:∀ x∈q::rl::sl::cells,x∉F):ziq H' q rl sl cells d:=by
 refine ⟨k _ _ D.ob (hF _ (by simp)),D.rows.keep fun b o e hb=>k b o e (hF b ?_),k _ _ D.sides (hF _ (by simp)),D.nd⟩
 rcases hb with rfl|hb
 ·simp
 ·simp [hb]
theorem zke {l:List Addr} (nd:l.Nodup) {i j:Nat}{a:Addr} (h1:l[i]?=some a) (h2:l[j]?=some a):i=j:=by
 obtain ⟨hi,e1⟩:=List.getElem?_eq_some_iff.mp h1
 obtain ⟨hj,e2⟩:=List.getElem?_eq_some_iff.mp h2
 exact (List.getElem_inj nd).mp (e1.trans e2.symm)
theorem Rows.set {H:Hp}{wl:Addr}{cells:List Addr}{rows:List (List Tx)}{k:Nat}{c:Addr}{r:List Tx} (R:Rows H wl cells rows) (nd:(wl::cells).Nodup) (hc:cells[k]?=some c):Rows (upd H c (.lst (r.map tv))) wl cells (rows.set k r):=by
 have hn:=List.nodup_cons.mp nd
 have hk:k<rows.length:=by rw [← R.len];exact (List.getElem?_eq_some_iff.mp hc).1
 have hwc:wl≠c:=fun z=>hn.1 (by rw [z];exact List.mem_of_getElem? hc)
 refine ⟨by rw [ze hwc];exact R.w,by rw [List.length_set];exact R.len,fun i b hb=>?_⟩
 by_cases hi:i=k
 ·subst hi
  rw [hc] at hb
  cases hb
  rw [zF]
  simp [List.getD_eq_getElem?_getD,hk]
 ·have hbc:b≠c:=fun z=>by
   subst z
   exact hi (zke hn.2 hb hc)
  rw [ze hbc,R.at_ i b hb]
  simp [List.getD_eq_getElem?_getD,List.getElem?_set_ne (Ne.symm hi)]
abbrev zd6:Stmt:=zaX (top 55) 1
abbrev zdp:Stmt:=zaX (top 55) 2
abbrev zdZ:Stmt:=zaX (top 55) 3
abbrev zdm:Stmt:=zaX (top 55) 4
abbrev zdy:Stmt:=zaX (top 55) 6
abbrev zc4:Stmt:=zaX (top 55) 12
abbrev zdK:Stmt:=zaX (top 55) 13
abbrev zda:Stmt:=zaX (top 55) 14
section
variable {P:Program}{w:World}{K:Frag}{mg:Str→Option Value}{base:Heap}{A:zn}
section
variable {m:Int}{wl sl:Addr}{d:DM}
theorem zij:(zq m wl sl d).lookup ("width":Str)=some (.int m):=by simp only [zq,List.lookup,beq_self_eq_true]
theorem zdv:(zq m wl sl d).lookup ("written":Str)=some (.ref wl):=by simp only [zq,List.lookup,beq_self_eq_true,zn9]
theorem zjM:(zq m wl sl d).lookup ("at_sides":Str)=some (.ref sl):=by simp only [zq,List.lookup,beq_self_eq_true,zuQ,znC]
theorem zfT:(zq m wl sl d).lookup ("counted":Str)=some (.int d.cnt):=by simp only [zq,List.lookup,beq_self_eq_true,znO,zr9,zrx]
theorem zjK:(zq m wl sl d).lookup ("left":Str)=some (lv d.left):=by simp only [zq,List.lookup,beq_self_eq_true,zvl,zt2,zsm,zrD]
theorem zl6:(zq m wl sl d).lookup ("has_stopped":Str)=some (.bl d.st):=by simp only [zq,List.lookup,beq_self_eq_true,zqk,zmp,zr0,zuV,ztv]
theorem zgm:(zq m wl sl d).lookup ("stretches":Str)=none:=by simp only [zq,List.lookup,zwx,zrI,zp5,zv6,zoJ,zwg]
theorem zeY:(zq m wl sl d).lookup ("places":Str)=none:=by simp only [zq,List.lookup,zwZ,zps,zt0,zql,zwQ,zqb]
theorem zgf:(zq m wl sl d).lookup ("next_place":Str)=none:=by simp only [zq,List.lookup,zok,zqh,zqu,zp4,zrO,zn0]
theorem ztu:(zq m wl sl d).lookup ("told":Str)=none:=by simp only [zq,List.lookup,ztp,zss,znn,zwh,ztW,zmo]
theorem zkH:(zq m wl sl d).lookup ("signs":Str)=none:=by simp only [zq,List.lookup,zqN,zqi,zn7,zvf,zo3,zsO]
theorem zic:(zq m wl sl d).lookup ("write":Str)=none:=by simp only [zq,List.lookup,zmO,zrs,znc,zqO,zom,zup]
theorem zs2:(zq m wl sl d).lookup ("put_side":Str)=none:=by simp only [zq,List.lookup,zu2,zsx,zuJ,zth,zvC,zwj]
theorem zlX:(zq m wl sl d).lookup ("empty":Str)=none:=by simp only [zq,List.lookup,zt9,zpL,zox,znJ,ztK,zoG]
theorem zjw:(zq m wl sl d).lookup ("stop":Str)=none:=by simp only [zq,List.lookup,zv7,zvD,zsU,zpb,zvw,ztF]
theorem zqs:(zq m wl sl d).lookup ("copied":Str)=none:=by simp only [zq,List.lookup,znP,zxq,znv,ztL,zt6,zpw]
theorem zcs:(zq m wl sl d).lookup ("refuse_if_stopped":Str)=none:=by simp only [zq,List.lookup,zpd,zoD,zuW,ztl,zp7,ztO]
theorem zkQ:(zq m wl sl d).lookup ("spend":Str)=none:=by simp only [zq,List.lookup,zqQ,znD,zsb,zoz,zqR,zwk]
theorem zka:(zq m wl sl d).lookup ("first_signs":Str)=none:=by simp only [zq,List.lookup,zp8,zvZ,zsh,zoo,zpc,zqG]
theorem zpG {x:Option Int}:zL "left" (lv x) (zq m wl sl d)=zq m wl sl { d with left:=x }:=by simp only [zq,zL,zlj,zkP,zkZ,zkG,if_false,if_true]
theorem ziL {x:Int}:zL "left" (.int x) (zq m wl sl d)=zq m wl sl { d with left:=some x }:=zpG (x:=some x)
theorem zhN {x:Int}:zL "counted" (.int x) (zq m wl sl d)=zq m wl sl { d with cnt:=x }:=by simp only [zq,zL,zls,zkO,zjE,if_false,if_true]
theorem zlF {x:Bool}:zL "has_stopped" (.bl x) (zq m wl sl d)=zq m wl sl { d with st:=x }:=by simp only [zq,zL,zjI,zjh,ziT,zmk,zli,if_false,if_true]
theorem zeO:(zq m wl sl d).length<1000:=by show 6<1000;decide
end
def zaV (A:zn) (r:Int→DM→V):Sp:=fun vs H Q _=>∃ (p wl sl:Addr) (cells:List Addr) (m:Int) (d:DM),vs=[.ref p]∧zB A H p wl sl cells m d∧Q (r m d) H
def zeV (A:zn):Sp:=fun vs H Q _=>∃ (p wl sl:Addr) (cells:List Addr) (m:Int) (d:DM) (k:Nat),vs=[.ref p,.int k]∧zB A H p wl sl cells m d∧k<d.rows.length∧Q (.int (d.rows.getD k []).length) H
def zf3 (d:DM) (k j:Nat):V:=tv ((d.rows.getD k []).getD j none)
def zhs (A:zn):Sp:=fun vs H Q _=>∃ (p wl sl:Addr) (cells:List Addr) (m:Int) (d:DM) (k j:Nat),vs=[.ref p,.int k,.int j]∧zB A H p wl sl cells m d∧k<d.rows.length∧Q (zf3 d k j) H
def zdu (A:zn):Sp:=fun vs H Q E=>∃ (p wl sl:Addr) (cells:List Addr) (m:Int) (d:DM),vs=[.ref p]∧zB A H p wl sl cells m d∧(d.st=true→E (.ref A.Stopped) none H)∧(d.st=false→Q .non H)
def zfb (A:zn):Sp:=fun vs H Q _=>∃ (p wl sl:Addr) (cells:List Addr) (m:Int) (d:DM) (n:Int),vs=[.ref p,.int n]∧zB A H p wl sl cells m d∧∀ H',zB A H' p wl sl cells m (d.spend n)→zm [p] H H'→Q (.int (dn d.left n)) H'
def zgr (A:zn):Sp:=fun vs H Q E=>∃ (p wl sl:Addr) (cells:List Addr) (m:Int) (d:DM) (t:Str),vs=[.ref p,.str t]∧zB A H p wl sl cells m d∧t.length≤1000 ∧
 ∀ H',zB A H' p wl sl cells m (d.spend t.length)→zm [p] H H'→((dn d.left t.length=0∧(d.spend t.length).st=true→E (.ref A.Stopped) none H')∧(¬ (dn d.left t.length=0∧(d.spend t.length).st=true)→Q (.str (Txt.slice t none (some (dn d.left t.length)))) H'))
theorem Rows.cell {H:Hp}{wl:Addr}{cells:List Addr}{rows:List (List Tx)} (R:Rows H wl cells rows) {k:Nat} (hk:k<rows.length):∃ c,cells[k]?=some c∧atI (cells.map V.ref) (k:Int)=some (.ref c)∧H c=some (.lst ((rows.getD k []).map tv)):=by
 have hk':k<cells.length:=by rw [R.len];exact hk
 refine ⟨cells[k],List.getElem?_eq_getElem hk',zaU (by rw [List.getElem?_map,List.getElem?_eq_getElem hk'];rfl),R.at_ k _ (List.getElem?_eq_getElem hk')⟩
theorem zB.obj {H:Hp}{p wl sl dx:Addr}{cells:List Addr}{m:Int}{d d':DM} (D:zB A H p wl sl cells m d) (h1:d'.rows=d.rows) (h2:d'.sides=d.sides):zB A (upd H p (.ins A.Disk dx (zq m wl sl d'))) p wl sl cells m d':=by
 have hn:=List.nodup_cons.mp D.nd
 have ne:∀ b∈wl::sl::cells,b≠p:=fun b hb z=>hn.1 (by rw [← z];exact hb)
 refine ⟨⟨dx,zF⟩,?_,?_,D.nd⟩
 ·rw [h1]
  refine D.rows.keep fun b o e hb=>?_
  rw [ze (ne b (by rcases hb with rfl|hb <;> simp_all))];exact e
 ·rw [h2,ze (ne sl (by simp))];exact D.sides
theorem zsa:zz ["self"] ["self"] (zd zd6):=⟨rfl,rfl,rfl,by decide +kernel,rfl,by decide +kernel,by decide +kernel⟩
theorem zvS {f:Addr}{fd:FuncData}{cm:Bool} (F:Fun K "stretches" "Disk.stretches" zd6 f fd) (T:Txt w K mg A):zp P w K mg base CX0 cm 1 f fd ["self"] (zaV A fun _ d=>.int d.rows.length):=by
 refine F.ok zsa (fun vs H Q E h=>?_) (fun cdv Ar outer s H vs Q E hr h=>?_)
 ·obtain ⟨p,wl,sl,cells,m,d,rfl,_⟩:=h;rfl
 ·obtain ⟨p,wl,sl,cells,m,d,rfl,D,q⟩:=h
  obtain ⟨dx,h1⟩:=D.ob
  refine ⟨_,(W.h (zh (zu (zH zaQ rfl T.n_len PySem.boot_len (zb (zaN T.cl_Disk T.na_Disk_written (za 0)) zc))))),?_⟩
  simp_all only [h1,D.rows.w,zdv,List.length_map,D.rows.len]
  exact q
theorem ztG:zz ["self"] ["self"] (zd zdp):=⟨rfl,rfl,rfl,by decide +kernel,rfl,by decide +kernel,by decide +kernel⟩
theorem zvX {f:Addr}{fd:FuncData}{cm:Bool} (F:Fun K "places" "Disk.places" zdp f fd) (T:Txt w K mg A):zp P w K mg base CX0 cm 1 f fd ["self"] (zaV A fun m _=>.int m):=by
 refine F.ok ztG (fun vs H Q E h=>?_) (fun cdv Ar outer s H vs Q E hr h=>?_)
 ·obtain ⟨p,wl,sl,cells,m,d,rfl,_⟩:=h;rfl
 ·obtain ⟨p,wl,sl,cells,m,d,rfl,D,q⟩:=h
  obtain ⟨dx,h1⟩:=D.ob
  refine ⟨_,(W.h (zh (zu (zaN T.cl_Disk T.na_Disk_width (za 0))))),?_⟩
  simp_all only [h1,zij]
  exact q
theorem zw7:zz ["self"] ["self"] (zd zdy):=⟨rfl,rfl,rfl,by decide +kernel,rfl,by decide +kernel,by decide +kernel⟩
theorem zp0 {f:Addr}{fd:FuncData}{cm:Bool} (F:Fun K "signs" "Disk.signs" zdy f fd) (T:Txt w K mg A):zp P w K mg base CX0 cm 1 f fd ["self"] (zaV A fun _ d=>.int d.cnt):=by
 refine F.ok zw7 (fun vs H Q E h=>?_) (fun cdv Ar outer s H vs Q E hr h=>?_)
 ·obtain ⟨p,wl,sl,cells,m,d,rfl,_⟩:=h;rfl
 ·obtain ⟨p,wl,sl,cells,m,d,rfl,D,q⟩:=h
  obtain ⟨dx,h1⟩:=D.ob
  refine ⟨_,(W.h (zh (zu (zaN T.cl_Disk T.na_Disk_counted (za 0))))),?_⟩
  simp_all only [h1,zfT]
  exact q
theorem zqH:zz ["self","stretch"] ["self","stretch"] (zd zdZ):=⟨rfl,rfl,rfl,by decide +kernel,rfl,by decide +kernel,by decide +kernel⟩
theorem zpf {f:Addr}{fd:FuncData}{cm:Bool} (F:Fun K "next_place" "Disk.next_place" zdZ f fd) (T:Txt w K mg A):zp P w K mg base CX0 cm 1 f fd ["self","stretch"] (zeV A):=by
 refine F.ok zqH (fun vs H Q E h=>?_) (fun cdv Ar outer s H vs Q E hr h=>?_)
 ·obtain ⟨p,wl,sl,cells,m,d,k,rfl,_⟩:=h;rfl
 ·obtain ⟨p,wl,sl,cells,m,d,k,rfl,D,hk,q⟩:=h
  obtain ⟨dx,h1⟩:=D.ob
  obtain ⟨c,hc,ha,hH⟩:=D.rows.cell hk
  refine ⟨_,(W.h (zh (zu (zH zaQ rfl T.n_len PySem.boot_len (zb (zR zQ (zaN T.cl_Disk T.na_Disk_written (za 0)) (za 1) (fun _ _=>rfl)) zc))))),?_⟩
  simp_all only [h1,D.rows.w,zdv,ha,hH,List.length_map]
  exact q
theorem zkI:zz ["self","stretch","place","texts"] ["self","stretch","place"] (zd zdm):=⟨rfl,rfl,rfl,by decide +kernel,rfl,by decide +kernel,by decide +kernel⟩
theorem zw3 {f:Addr}{fd:FuncData}{cm:Bool} (F:Fun K "told" "Disk.told" zdm f fd) (T:Txt w K mg A):zp P w K mg base CX0 cm 1 f fd ["self","stretch","place"] (zhs A):=by
 refine F.ok zkI (fun vs H Q E h=>?_) (fun cdv Ar outer s H vs Q E hr h=>?_)
 ·obtain ⟨p,wl,sl,cells,m,d,k,j,rfl,_⟩:=h;rfl
 ·obtain ⟨p,wl,sl,cells,m,d,k,j,rfl,D,hk,q⟩:=h
  obtain ⟨dx,h1⟩:=D.ob
  obtain ⟨c,hc,ha,hH⟩:=D.rows.cell hk
  refine ⟨_,(W.h (zg (zx (i:=3) zkI.nd rfl (Or.inl rfl) (zR zQ (zaN T.cl_Disk T.na_Disk_written (za 0)) (za 1) (fun _ _=>rfl)))
   (zh (zu (ze7 (zM zd2 (za 2) (zH zaQ rfl T.n_len PySem.boot_len (zb (za 3) zc)) (zD _)) (zR zQ (za 3) (za 2) (fun _ _=>rfl)) zal))))),?_⟩
  simp_all only [h1,D.rows.w,zdv,ha,hH,List.length_map]
  refine zad (fun h=>?_) (fun h=>?_)
  ·have hj:j<(d.rows.getD k []).length:=by have:=of_decide_eq_true h;omega
   refine ⟨_,zaU (by rw [List.getElem?_map,List.getElem?_eq_getElem hj];rfl),?_⟩
   unfold zf3 at q
   rw [List.getD_eq_getElem?_getD,List.getElem?_eq_getElem hj] at q
   exact q
  ·have hj : ¬ j<(d.rows.getD k []).length:=fun z=>h (decide_eq_true (by omega))
   unfold zf3 at q
   rw [List.getD_eq_getElem?_getD,List.getElem?_eq_none (by omega)] at q
   exact q
theorem zxn:zz ["self"] ["self"] (zd zc4):=⟨rfl,rfl,rfl,by decide +kernel,rfl,by decide +kernel,by decide +kernel⟩
theorem znb {f:Addr}{fd:FuncData} (F:Fun K "refuse_if_stopped" "Disk.refuse_if_stopped" zc4 f fd) (T:Txt w K mg A):zp P w K mg base (CXW P w) true 1 f fd ["self"] (zdu A):=by
 refine F.okW zxn (fun vs H Q E h=>?_) (fun cdv Ar outer s H vs Q E hr h=>?_)
 ·obtain ⟨p,wl,sl,cells,m,d,rfl,_⟩:=h;rfl
 ·obtain ⟨p,wl,sl,cells,m,d,rfl,D,q1,q2⟩:=h
  obtain ⟨dx,h1⟩:=D.ob
  have Th:=zbO (cm:=true) (P:=P) (w:=w) (K:=K) (mg:=mg) (base:=base) (N:=["self"]) (qual:="Disk.refuse_if_stopped") (scope:=zd zc4) (f:=f) (cd:=cdv) (A:=Ar) (outer:=outer) (s:=s) (H:=H) (E:=E)
  refine ⟨_,(W.h (zh (zN (zaH (zaN T.cl_Disk T.na_Disk_has_stopped (za 0)))
   (zh (zcv rfl Th T.ek_Stopped rfl T.mg_Stopped (zb zG zc)))
   zU))),?_⟩
  simp_all only [h1,zl6]
  refine zad (fun h=>⟨by decide,q1 h⟩) (fun h=>q2 (Bool.eq_false_iff.mpr h))
theorem zh2:zz ["self","many","done"] ["self","many"] (zd zdK):=⟨rfl,rfl,rfl,by decide +kernel,rfl,by decide +kernel,by decide +kernel⟩
theorem zwM {f:Addr}{fd:FuncData} (F:Fun K "spend" "Disk.spend" zdK f fd) (T:Txt w K mg A):zp P w K mg base CX0 true 1 f fd ["self","many"] (zfb A):=by
 refine F.ok zh2 (fun vs H Q E h=>?_) (fun cdv Ar outer s H vs Q E hr h=>?_)
 ·obtain ⟨p,wl,sl,cells,m,d,n,rfl,_⟩:=h;rfl
 ·obtain ⟨p,wl,sl,cells,m,d,n,rfl,D,q⟩:=h
  obtain ⟨dx,h1⟩:=D.ob
  refine ⟨_,(W.h (zg (zx (i:=2) zh2.nd rfl (Or.inl rfl) (za 1))
   (zg (zN (zM zdS (zaN T.cl_Disk T.na_Disk_left (za 0)) zal (zD _))
   (zg (zx (i:=2) zh2.nd rfl (Or.inl rfl) (zH (zhj rfl) rfl T.n_min boot_min (zb (za 1) (zb (zaN T.cl_Disk T.na_Disk_left (za 0)) zc))))
   (zh (zjf T.cl_Disk T.na_Disk_left (za 0) (za 2) zwq)))
   zU)
   (zg (zjf T.cl_Disk T.na_Disk_counted (za 0) (za 2) zpV)
   (zg (zbx T.cl_Disk T.na_Disk_has_stopped (za 0) (zba zd2 (za 2) (za 1) (zD _)))
   (zh (zu (za 2)))))))),?_⟩
  cases hl:d.left with
  | none =>
   simp_all only [h1,zjK,hl,lv,zF,zfT,zhN,zlF,ziL,zeO,zcI]
   have e:d.spend n={ d with cnt:=d.cnt+n,left:=none,st:=decide (n<n) }:=by unfold DM.spend;rw [hl];rfl
   have e2:dn d.left n=n:=by rw [hl];rfl
   rw [e,e2] at q
   exact q _ (D.obj rfl rfl) (zm.upd (by simp))
  | some l =>
   simp_all only [h1,zjK,hl,lv,zF,zfT,zhN,zlF,ziL,zeO,zcI]
   have e2:dn d.left n=if l<n then l else n:=by rw [hl];rfl
   have e:d.spend n={ d with cnt:=d.cnt+(if l<n then l else n),left:=some (l - if l<n then l else n),st:=decide ((if l<n then l else n)<n) }:=by unfold DM.spend;rw [e2,hl];rfl
   rw [e,e2] at q
   exact q _ (D.obj rfl rfl) (zm.upd (by simp))
theorem zlv:zz ["self","text","done"] ["self","text"] (zd zda):=⟨rfl,rfl,rfl,by decide +kernel,rfl,by decide +kernel,by decide +kernel⟩
theorem zvY {f:Addr}{fd:FuncData} (F:Fun K "first_signs" "Disk.first_signs" zda f fd) (T:Txt w K mg A) (M_Disk_spend:GM P w K mg base true 1 A.Disk "spend" ["self","many"] (zfb A)) (M_Disk_refuse_if_stopped:GMX P w K mg base true 1 A.Disk "refuse_if_stopped" ["self"] (zdu A)):zp P w K mg base (CXW P w) true 2 f fd ["self","text"] (zgr A):=by
 refine F.okW zlv (fun vs H Q E h=>?_) (fun cdv Ar outer s H vs Q E hr h=>?_)
 ·obtain ⟨p,wl,sl,cells,m,d,t,rfl,_⟩:=h;rfl
 ·obtain ⟨p,wl,sl,cells,m,d,t,rfl,D,ht,q⟩:=h
  obtain ⟨dx,h1⟩:=D.ob
  have hu:_<cLine:=Nat.lt_of_succ_lt (zax hr)
  have Th:=zbO (cm:=true) (P:=P) (w:=w) (K:=K) (mg:=mg) (base:=base) (N:=["self","text","done"]) (qual:="Disk.first_signs") (scope:=zd zda) (f:=f) (cd:=cdv) (A:=Ar) (outer:=outer) (s:=s) (H:=H) (E:=E)
  refine ⟨_,(W.h (zg (zx (i:=2) zlv.nd rfl (Or.inl rfl) (zcu (za 0) T.cl_Disk M_Disk_spend hr (zb (zH zaQ rfl T.n_len PySem.boot_len (zb (za 1) zc)) zc)))
   (zg (zN (zM (zaL hu) (za 2) zj (zD _))
   (zh (zaa (zcV (za 0) T.cl_Disk Th M_Disk_refuse_if_stopped hr)))
   zU)
   (zh (zu (zdW zeg (za 1) zea (zdV (za 2)))))))),?_⟩
  have ht':t.length≤sizeLine:=Nat.le_trans ht (by decide)
  simp_all only [h1,zkQ,ht']
  refine ⟨p,wl,sl,cells,m,d,_,rfl,D,fun H1 D1 k1=>?_⟩
  obtain ⟨q1,q2⟩:=q H1 D1 k1
  obtain ⟨dx1,g1⟩:=D1.ob
  simp_all only [g1,zcs,ht']
  refine zad (fun h=>?_) (fun h=>?_)
  ·have h0:=of_decide_eq_true h
   refine ⟨p,wl,sl,cells,m,_,rfl,D1,fun hs=>?_,fun hs=>?_⟩
   ·exact ⟨_,rfl,q1 ⟨h0,hs⟩⟩
   ·simp_all only [ht']
    exact q2 fun z=>by rw [z.2] at hs;cases hs
  ·exact q2 fun z=>h (decide_eq_true z.1)
end
abbrev zcZ:Stmt:=zaX (top 55) 7
abbrev zc7:Stmt:=zaX (top 55) 8
abbrev zcU:Stmt:=zaX (top 55) 9
section
variable {P:Program}{w:World}{K:Frag}{mg:Str→Option Value}{base:Heap}{A:zn}
theorem zB.setRow {H:Hp}{p wl sl c:Addr}{cells:List Addr}{m:Int}{d:DM}{k:Nat}{r:List Tx} (D:zB A H p wl sl cells m d) (hc:cells[k]?=some c):zB A (upd H c (.lst (r.map tv))) p wl sl cells m { d with rows:=d.rows.set k r }:=by
 have hm:=List.mem_of_getElem? hc
 have nd:=D.nd
 simp only [List.nodup_cons,List.mem_cons,not_or] at nd
 obtain ⟨⟨n1,n2,n3⟩,⟨n4,n5⟩,n6,n7⟩:=nd
 obtain ⟨dx,h⟩:=D.ob
 have e1:p≠c:=fun z=>n3 (by rw [z];exact hm)
 have e2:sl≠c:=fun z=>n6 (by rw [z];exact hm)
 exact ⟨⟨dx,by rw [ze e1];exact h⟩,D.rows.set (List.nodup_cons.mpr ⟨n5,n7⟩) hc,by rw [ze e2];exact D.sides,D.nd⟩
theorem zB.setSides {H:Hp}{p wl sl:Addr}{cells:List Addr}{m:Int}{d:DM}{r:List Tx} (D:zB A H p wl sl cells m d):zB A (upd H sl (.lst (r.map tv))) p wl sl cells m { d with sides:=r }:=by
 have nd:=D.nd
 simp only [List.nodup_cons,List.mem_cons,not_or] at nd
 obtain ⟨⟨n1,n2,n3⟩,⟨n4,n5⟩,n6,n7⟩:=nd
 obtain ⟨dx,h⟩:=D.ob
 refine ⟨⟨dx,by rw [ze n2];exact h⟩,D.rows.keep fun b o e hb=>?_,zF,D.nd⟩
 have:b≠sl:=by
  rcases hb with rfl|hb
  ·exact n4
  ·exact fun z=>n6 (by rw [← z];exact hb)
 rw [ze this];exact e
def Out (A:zn) (r:Res) (Q:VK) (E:XK) (H:Hp):Prop:=match r with | .val v=>Q v H | .full=>E (.ref A.Full) none H | .stop=>E (.ref A.Stopped) none H
def small (d:DM):Prop:=∀ k,(d.rows.getD k []).length≤1000
def zeW (A:zn):Sp:=fun vs H Q E=>∃ (p wl sl:Addr) (cells:List Addr) (m:Int) (d:DM) (k:Nat) (t:Str),vs=[.ref p,.int k,.str t]∧zB A H p wl sl cells m d∧k<d.rows.length∧t.length≤1000∧small d ∧
 ∀ H',zB A H' p wl sl cells m (d.write m k t).2→zm (p::wl::sl::cells) H H'→Out A (d.write m k t).1 Q E H'
def zhJ (A:zn):Sp:=fun vs H Q E=>∃ (p wl sl:Addr) (cells:List Addr) (m:Int) (d:DM) (k:Nat) (t:Str),vs=[.ref p,.int k,.str t]∧zB A H p wl sl cells m d∧k<d.sides.length∧d.sides.length=2∧t.length≤1000 ∧
 ∀ H',zB A H' p wl sl cells m (d.put k t).2→zm (p::wl::sl::cells) H H'→Out A (d.put k t).1 Q E H'
def zgo (A:zn):Sp:=fun vs H Q E=>∃ (p wl sl:Addr) (cells:List Addr) (m:Int) (d:DM) (k:Nat),vs=[.ref p,.int k]∧zB A H p wl sl cells m d∧k<d.rows.length∧small d∧(∀ l,d.left=some l→0≤l) ∧
 ∀ H',zB A H' p wl sl cells m (d.empty k).2→zm (p::wl::sl::cells) H H'→Out A (d.empty k).1 Q E H'
theorem zje {d:DM}{n:Int}:(d.spend n).rows=d.rows:=rfl
theorem ztI {d:DM}{n:Int}:(d.spend n).sides=d.sides:=rfl
theorem zsH {r:List Tx}{t:Str}{n:Int}:r.map tv++[V.str (Txt.slice t none (some n))]=(r++[zbS t n]).map tv:=by rw [List.map_append];rfl
theorem zgM:zz ["self","stretch","text","texts","place"] ["self","stretch","text"] (zd zcZ):=⟨rfl,rfl,rfl,by decide +kernel,rfl,by decide +kernel,by decide +kernel⟩
theorem zta {f:Addr}{fd:FuncData} (F:Fun K "write" "Disk.write" zcZ f fd) (T:Txt w K mg A) (M_Disk_first_signs:GMX P w K mg base true 2 A.Disk "first_signs" ["self","text"] (zgr A)) (M_Disk_refuse_if_stopped:GMX P w K mg base true 1 A.Disk "refuse_if_stopped" ["self"] (zdu A)):zp P w K mg base (CXW P w) true 3 f fd ["self","stretch","text"] (zeW A):=by
 refine F.okW zgM (fun vs H Q E h=>?_) (fun cdv Ar outer s H vs Q E hr h=>?_)
 ·obtain ⟨p,wl,sl,cells,m,d,k,t,rfl,_⟩:=h;rfl
 ·obtain ⟨p,wl,sl,cells,m,d,k,t,rfl,D,hk,ht,hsm,q⟩:=h
  obtain ⟨dx,h1⟩:=D.ob
  have hu:_<cLine:=Nat.lt_of_succ_lt (zax hr)
  obtain ⟨c,hc,ha,hH⟩:=D.rows.cell hk
  have Th:=zbO (cm:=true) (P:=P) (w:=w) (K:=K) (mg:=mg) (base:=base) (N:=["self","stretch","text","texts","place"]) (qual:="Disk.write") (scope:=zd zcZ) (f:=f) (cd:=cdv) (A:=Ar) (outer:=outer) (s:=s) (H:=H) (E:=E)
  refine ⟨_,(W.h (zg (zaa (zcV (za 0) T.cl_Disk Th M_Disk_refuse_if_stopped hr))
   (zg (zx (i:=3) zgM.nd rfl (Or.inl rfl) (zR zQ (zaN T.cl_Disk T.na_Disk_written (za 0)) (za 1) (fun _ _=>rfl)))
   (zg (zx (i:=4) zgM.nd rfl (Or.inl rfl) (zH zaQ rfl T.n_len PySem.boot_len (zb (za 3) zc)))
   (zg (zN (zM (zaL hu) (za 4) (zaN T.cl_Disk T.na_Disk_width (za 0)) (zD _))
   (zh (zcv rfl Th T.ek_Full rfl T.mg_Full (zb zG zc)))
   zU)
   (zg (zaa (zcj (za 3) (zcp (za 0) T.cl_Disk Th M_Disk_first_signs hr (zb (za 2) zc))))
   (zg (zaa (zcV (za 0) T.cl_Disk Th M_Disk_refuse_if_stopped hr))
   (zh (zu (za 4)))))))))),?_⟩
  simp_all only [h1,zcs]
  unfold DM.write at q
  refine ⟨p,wl,sl,cells,m,d,rfl,D,fun hs=>?_,fun hs=>?_⟩
  ·rw [if_pos hs] at q
   exact ⟨_,rfl,q H D zm.refl⟩
  rw [if_neg (by rw [hs];exact Bool.false_ne_true)] at q
  simp_all only [h1,D.rows.w,zdv,zij,ha,hH,List.length_map]
  refine zad (fun h=>?_) (fun h=>?_)
  ·rw [if_pos (of_decide_eq_true h)] at q
   exact ⟨by decide,q H D zm.refl⟩
  rw [if_neg (fun z=>h (decide_eq_true z))] at q
  simp_all only [h1,hH,zka]
  refine ⟨p,wl,sl,cells,m,d,t,rfl,D,ht,fun H1 D1 k1=>⟨fun hz=>?_,fun hz=>?_⟩⟩
  ·rw [if_pos hz] at q
   exact ⟨_,rfl,q H1 D1 (k1.mono (by simp))⟩
  rw [if_neg hz] at q
  obtain ⟨dx1,g1⟩:=D1.ob
  have gc:=D1.rows.at_ k c hc
  rw [zje] at gc
  have D2:=D1.setRow (r:=d.rows.getD k []++[zbS t (dn d.left t.length)]) hc
  obtain ⟨dx2,g2⟩:=D2.ob
  simp_all only [gc,zsH,g2,zcs]
  refine ⟨by rw [List.length_map];exact zh3 (hsm k),p,wl,sl,cells,m,_,rfl,D2,fun hs2=>⟨_,rfl,?_⟩,fun hs2=>?_⟩
  ·have hs2':(d.spend t.length).st=true:=hs2
   have q2:=q _ D2 ((k1.mono (by simp)).trans (zm.upd (by simp [List.mem_of_getElem? hc])))
   rw [if_pos hs2'] at q2
   exact q2
  ·have hs2':(d.spend t.length).st=false:=hs2
   simp_all only []
   have q2:=q _ D2 ((k1.mono (by simp)).trans (zm.upd (by simp [List.mem_of_getElem? hc])))
   rw [if_neg (by rw [hs2'];exact Bool.false_ne_true)] at q2
   exact q2
theorem ztX:zz ["self","k","text"] ["self","k","text"] (zd zc7):=⟨rfl,rfl,rfl,by decide +kernel,rfl,by decide +kernel,by decide +kernel⟩
theorem zuO {f:Addr}{fd:FuncData} (F:Fun K "put_side" "Disk.put_side" zc7 f fd) (T:Txt w K mg A) (M_Disk_first_signs:GMX P w K mg base true 2 A.Disk "first_signs" ["self","text"] (zgr A)) (M_Disk_refuse_if_stopped:GMX P w K mg base true 1 A.Disk "refuse_if_stopped" ["self"] (zdu A)):zp P w K mg base (CXW P w) true 3 f fd ["self","k","text"] (zhJ A):=by
 refine F.okW ztX (fun vs H Q E h=>?_) (fun cdv Ar outer s H vs Q E hr h=>?_)
 ·obtain ⟨p,wl,sl,cells,m,d,k,t,rfl,_⟩:=h;rfl
 ·obtain ⟨p,wl,sl,cells,m,d,k,t,rfl,D,hk,hk2,ht,q⟩:=h
  obtain ⟨dx,h1⟩:=D.ob
  have hu:_<cLine:=Nat.lt_of_succ_lt (zax hr)
  have Th:=zbO (cm:=true) (P:=P) (w:=w) (K:=K) (mg:=mg) (base:=base) (N:=["self","k","text"]) (qual:="Disk.put_side") (scope:=zd zc7) (f:=f) (cd:=cdv) (A:=Ar) (outer:=outer) (s:=s) (H:=H) (E:=E)
  refine ⟨_,(W.h (zg (zaa (zcV (za 0) T.cl_Disk Th M_Disk_refuse_if_stopped hr))
   (zg (zdo (zcp (za 0) T.cl_Disk Th M_Disk_first_signs hr (zb (za 2) zc)) (zex (zaN T.cl_Disk T.na_Disk_at_sides (za 0)) (za 1) zem))
   (zh (zaa (zcV (za 0) T.cl_Disk Th M_Disk_refuse_if_stopped hr)))))),?_⟩
  simp_all only [h1,zcs]
  unfold DM.put at q
  refine ⟨p,wl,sl,cells,m,d,rfl,D,fun hs=>?_,fun hs=>?_⟩
  ·rw [if_pos hs] at q
   exact ⟨_,rfl,q H D zm.refl⟩
  rw [if_neg (by rw [hs];exact Bool.false_ne_true)] at q
  simp_all only [h1,zka]
  refine ⟨p,wl,sl,cells,m,d,t,rfl,D,ht,fun H1 D1 k1=>⟨fun hz=>?_,fun hz=>?_⟩⟩
  ·rw [if_pos hz] at q
   exact ⟨_,rfl,q H1 D1 (k1.mono (by simp))⟩
  rw [if_neg hz] at q
  obtain ⟨dx1,g1⟩:=D1.ob
  have gs:=D1.sides
  rw [ztI] at gs
  have D2:=D1.setSides (r:=d.sides.set k (zbS t (dn d.left t.length)))
  obtain ⟨dx2,g2⟩:=D2.ob
  have ix:ixN (d.sides.map tv).length (k:Int)=some k:=by
   unfold ixN
   rw [if_pos (by omega),if_pos (by rw [List.length_map];omega)]
   simp
  have sm:(d.sides.map tv).set k (V.str (Txt.slice t none (some (dn d.left t.length))))=(d.sides.set k (zbS t (dn d.left t.length))).map tv:=by rw [List.map_set];rfl
  simp_all only [g1,gs,zjM,ix,sm,g2,zcs]
  refine ⟨p,wl,sl,cells,m,_,rfl,D2,fun hs2=>⟨_,rfl,?_⟩,fun hs2=>?_⟩
  ·have hs2':(d.spend t.length).st=true:=hs2
   have q2:=q _ D2 ((k1.mono (by simp)).trans (zm.upd (by simp)))
   rw [if_pos hs2'] at q2
   exact q2
  ·have hs2':(d.spend t.length).st=false:=hs2
   simp_all only []
   have q2:=q _ D2 ((k1.mono (by simp)).trans (zm.upd (by simp)))
   rw [if_neg (by rw [hs2'];exact Bool.false_ne_true)] at q2
   exact q2
end
abbrev zdJ:Stmt:=top 24
abbrev zdr:Stmt:=top 25
abbrev zch:Stmt:=zaX (top 55) 0
abbrev zcn:Stmt:=zaX (top 55) 11
inductive Thg (H:Hp):V→Prop
 | non:Thg H .non
 | bl (b:Bool):Thg H (.bl b)
 | int (i:Int):Thg H (.int i)
 | str (x:Str):Thg H (.str x)
 | lst {a:Addr}{xs:List V}:H a=some (.lst xs)→Thg H (.ref a)
 | tup {a:Addr}{xs:List V}:H a=some (.tup xs)→Thg H (.ref a)
 | dic {a:Addr}{kvs:List (Key×V)}:H a=some (.dK kvs)→Thg H (.ref a)
def zsE:V→Bool | .int _=>true|_=>false
def zeQ (v:V) (a b:Int):Bool:=match v with | .int i=>decide (a≤i) && decide (i≤b)|_=>false
def zif:Sp:=fun vs H Q _=>∃ v,vs=[v]∧Thg H v∧Q (.bl (zsE v)) H
def zhW:Sp:=fun vs H Q _=>∃ v a b,vs=[v,.int a,.int b]∧Thg H v∧Q (.bl (zeQ v a b)) H
section
variable {P:Program}{w:World}{K:Frag}{mg:Str→Option Value}{base:Heap}{A:zn}
theorem zsC {X:Cx}{H:Hp}{v:V}{Q:VK} (t:Thg H v) (q:Q (.bl (match v with | .int _=>true | .bl _=>true|_=>false)) H):zeh X.K [v,.ty "int"] H Q:=by
 cases t with
 | non=>exact ⟨_,_,_,_,_,rfl,rfl,.of .non,rfl,q⟩
 | bl b=>exact ⟨_,_,_,_,_,rfl,rfl,.of (.bl b),rfl,q⟩
 | int i=>exact ⟨_,_,_,_,_,rfl,rfl,.of (.int i),rfl,q⟩
 | str x=>exact ⟨_,_,_,_,_,rfl,rfl,.of (.str x),rfl,q⟩
 | lst h=>exact ⟨_,_,_,_,_,rfl,rfl,.of (.lst h),rfl,q⟩
 | tup h=>exact ⟨_,_,_,_,_,rfl,rfl,.of (.tup h),rfl,q⟩
 | dic h=>exact ⟨_,_,_,_,_,rfl,rfl,.of (.dK h),rfl,q⟩
theorem ziY {X:Cx}{H:Hp}{v:V}{Q:VK} (t:Thg H v) (q:Q (.bl (match v with | .bl _=>true|_=>false)) H):zeh X.K [v,.ty "bool"] H Q:=by
 cases t with
 | non=>exact ⟨_,_,_,_,_,rfl,rfl,.of .non,rfl,q⟩
 | bl b=>exact ⟨_,_,_,_,_,rfl,rfl,.of (.bl b),rfl,q⟩
 | int i=>exact ⟨_,_,_,_,_,rfl,rfl,.of (.int i),rfl,q⟩
 | str x=>exact ⟨_,_,_,_,_,rfl,rfl,.of (.str x),rfl,q⟩
 | lst h=>exact ⟨_,_,_,_,_,rfl,rfl,.of (.lst h),rfl,q⟩
 | tup h=>exact ⟨_,_,_,_,_,rfl,rfl,.of (.tup h),rfl,q⟩
 | dic h=>exact ⟨_,_,_,_,_,rfl,rfl,.of (.dK h),rfl,q⟩
theorem zod:zz ["value"] ["value"] (zd zdJ):=⟨rfl,rfl,rfl,by decide +kernel,rfl,by decide +kernel,by decide +kernel⟩
theorem zw2 {f:Addr}{fd:FuncData}{cm:Bool} (F:Fun K "is_whole" "is_whole" zdJ f fd) (T:Txt w K mg A):zp P w K mg base CX0 cm 1 f fd ["value"] zif:=by
 refine F.ok zod (fun vs H Q E h=>?_) (fun cdv Ar outer s H vs Q E hr h=>?_)
 ·obtain ⟨v,rfl,_⟩:=h;rfl
 ·obtain ⟨v,rfl,th,q⟩:=h
  refine ⟨_,(W.h (zh (zu (zfD (zH zdB rfl T.n_isinstance boot_isinstance (zb (za 0) (zb (zeN rfl T.n_int boot_int (v:=.ty "int") rfl) zc))) (zds (zop (zH zdB rfl T.n_isinstance boot_isinstance (zb (za 0) (zb (zeN rfl T.n_bool boot_bool (v:=.ty "bool") rfl) zc))))))))),?_⟩
  simp_all only []
  refine zsC th ?_
  cases th with
  | int i=>exact ⟨true,rfl,zfa (ziY (.int i) ⟨false,rfl,q⟩)⟩
  | bl i=>exact ⟨true,rfl,zfa (ziY (.bl i) ⟨true,rfl,q⟩)⟩
  | _=>exact ⟨false,rfl,zhB q⟩
theorem zoV:zz ["value","least","most"] ["value","least","most"] (zd zdr):=⟨rfl,rfl,rfl,by decide +kernel,rfl,by decide +kernel,by decide +kernel⟩
theorem zwT {f:Addr}{fd:FuncData}{cm:Bool} (F:Fun K "is_within" "is_within" zdr f fd) (T:Txt w K mg A) (G_is_whole:GF P w K mg base cm 1 "is_whole" ["value"] zif):zp P w K mg base CX0 cm 2 f fd ["value","least","most"] zhW:=by
 refine F.ok zoV (fun vs H Q E h=>?_) (fun cdv Ar outer s H vs Q E hr h=>?_)
 ·obtain ⟨v,a,b,rfl,_⟩:=h;rfl
 ·obtain ⟨v,a,b,rfl,th,q⟩:=h
  refine ⟨_,(W.h (zh (zu (zfD (zo G_is_whole hr rfl (zb (za 0) zc)) (zds (zlu zfV zfV (za 1) (za 0) (za 2))))))),?_⟩
  simp_all only []
  refine ⟨_,rfl,th,?_⟩
  cases th with
  | int i =>
   refine ⟨true,rfl,zfa ?_⟩
   simp_all only []
   refine zad (fun h=>?_) (fun h=>?_)
   ·have e:zeQ (.int i) a b=decide (i≤b):=by show (decide (a≤i) && _)=_;rw [h];rfl
    rw [← e];exact q
   ·have e:zeQ (.int i) a b=false:=by show (decide (a≤i) && _)=_;rw [Bool.eq_false_iff.mpr h];rfl
    rw [← e];exact q
  | _=>exact ⟨false,rfl,zhB q⟩
def DM.new (n:Nat):DM:=⟨List.replicate n [],[none,none],0,none,false⟩
def zej (A:zn):Sp:=fun vs H Q _=>∃ (p dx:Addr) (n m:Int),vs=[.ref p,.int n,.int m]∧H p=some (.ins A.Disk dx [])∧3≤n∧n≤16∧2≤m∧m≤32 ∧
 ∀ (wl sl:Addr) (cells:List Addr) (H':Hp),zB A H' p wl sl cells m (DM.new n.toNat)→(∀ b o,H b=some o→b≠p→H' b=some o)→(∀ x∈wl::sl::cells,H x=none)→Q .non H'
structure zkr (H:Hp) (i:Nat) (τ:L2.St) (ys:List V) (H':Hp):Prop where
 τ:∃ t,τ=[t]
 ex:∃ cells:List Addr,ys=cells.map V.ref∧cells.length=i∧(∀ c∈cells,H' c=some (.lst [])∧H c=none)∧cells.Nodup
 same:zl H H'
 le:i≤16
theorem zqE:zz ["self","stretches","places"] ["self","stretches","places"] (zd zch):=⟨rfl,rfl,rfl,by decide +kernel,rfl,by decide +kernel,by decide +kernel⟩
theorem zon:zaT { kind:=.function,names:=[(Str.ofString ".0",.local),(Str.ofString "number",.local)],isGenerator:=false,isCoroutine:=false,more:=[] } (zd zch).names ["self","stretches","places"] ["number"] [none]=true:=by decide +kernel
theorem zpy:(["number"]:List Str).Nodup:=by decide +kernel
theorem zsu {f:Addr}{fd:FuncData} (F:Fun K "__init__" "Disk.__init__" zch f fd) (T:Txt w K mg A) (G_is_within:GF P w K mg base true 2 "is_within" ["value","least","most"] zhW):zp P w K mg base (CXW P w) true 3 f fd ["self","stretches","places"] (zej A):=by
 refine F.okW zqE (fun vs H Q E h=>?_) (fun cdv Ar outer s H vs Q E hr h=>?_)
 ·obtain ⟨p,dx,n,m,rfl,_⟩:=h;rfl
 ·obtain ⟨p,dx,n,m,rfl,hp,n0,n1,m0,m1,q⟩:=h
  have Th:=zbO (cm:=true) (P:=P) (w:=w) (K:=K) (mg:=mg) (base:=base) (N:=["self","stretches","places"]) (qual:="Disk.__init__") (scope:=zd zch) (f:=f) (cd:=cdv) (A:=Ar) (outer:=outer) (s:=s) (H:=H) (E:=E)
  have h1:zeQ (.int n) 3 16=true:=by show (decide _ && decide _)=true;rw [decide_eq_true n0,decide_eq_true n1];rfl
  have h2:zeQ (.int m) 2 32=true:=by show (decide _ && decide _)=true;rw [decide_eq_true m0,decide_eq_true m1];rfl
  refine ⟨_,(W.h (zg (zN (zbs (zaH (zo G_is_within hr rfl (zb (za 1) (zb (zac rfl T.c_LEAST_STRETCHES) (zb (zac rfl T.c_MOST_STRETCHES) zc))))))
   (zh (zcv rfl zbM T.ek_NoDisk rfl T.mg_NoDisk (zb zG zc)))
   zU)
   (zg (zN (zbs (zaH (zo G_is_within hr rfl (zb (za 2) (zb (zac rfl T.c_LEAST_PLACES) (zb (zac rfl T.c_MOST_PLACES) zc))))))
   (zh (zcv rfl zbM T.ek_NoDisk rfl T.mg_NoDisk (zb zG zc)))
   zU)
   (zg (zbx T.cl_Disk T.na_Disk_width (za 0) (za 2))
   (zg (zbx T.cl_Disk T.na_Disk_written (za 0) (zb5 (fun _=>rfl) (zaz.of zon) (zbG rfl T.n_range (zb (za 1) zc)) (fun _ _ _ _ _=>(zO (i:=0) zpy rfl (Or.inl rfl))) (fun _ _ _ _ _=>zdE) (fun _ _ _ _ _=>(zX zc))))
   (zg (zbx T.cl_Disk T.na_Disk_at_sides (za 0) (zX (zb zal (zb zal zc))))
   (zg (zbx T.cl_Disk T.na_Disk_counted (za 0) zj)
   (zg (zbx T.cl_Disk T.na_Disk_left (za 0) zal)
   (zh (zbx T.cl_Disk T.na_Disk_has_stopped (za 0) zaJ)))))))))),?_⟩
  simp_all only []
  refine ⟨.int n,3,16,rfl,.int n,?_⟩
  simp_all only [h1]
  refine ⟨.int m,2,32,rfl,.int m,?_⟩
  simp_all only [h2,hp,zF,zL,zbh]
  refine ⟨by decide,by omega,by omega,zah.rng (zkr (upd H p (.ins A.Disk dx [("width",.int m)]))) (fun i τ ys H' I=>?_) ⟨⟨_,rfl⟩,⟨[],rfl,rfl,by simp,List.nodup_nil⟩,zl.refl _,by decide⟩ ?_ ?_⟩
  ·obtain ⟨cells,e,l,_⟩:=I.ex
   rw [e,List.length_map,l]
   exact zh3 (Nat.le_trans I.le (by decide))
  ·intro N i τ ys H' hi I hN
   obtain ⟨t,rfl⟩:=I.τ
   obtain ⟨cells,e,l,hc,hcn⟩:=I.ex
   simp_all only []
   refine ⟨by decide,fun c H2 n2 _=>hN _ _ _ ⟨⟨_,rfl⟩,⟨cells++[c],by rw [e,List.map_append];rfl,by simp [l],fun b hb=>?_,?_⟩,I.same.trans n2.same,by omega⟩⟩
   ·rcases List.mem_append.mp hb with hb|hb
    ·exact ⟨n2.same _ _ (hc b hb).1,(hc b hb).2⟩
    ·rw [List.mem_singleton] at hb;subst hb;exact ⟨n2.at_,I.same.free n2.no⟩
   ·refine List.nodup_append.mpr ⟨hcn,by simp,fun a ha b hb=>?_⟩
    rw [List.mem_singleton] at hb
    subst hb
    exact zt (hc a ha).1 n2.no
  ·intro τ ys H1 I D H2 nD
   obtain ⟨cells,e,l,hc,hcn⟩:=I.ex
   have e1:H2 p=some (.ins A.Disk dx [("width",.int m)]):=nD.same _ _ (I.same _ _ zF)
   have w1:zL "written" (.ref D) [(("width":Str),V.int m)]=[(("width":Str),V.int m),("written",.ref D)]:=by simp only [zL,zjJ,if_false]
   refine ⟨dx,_,e1,by show 1<1000;decide,by decide,fun s1 H3 n3 _=>?_⟩
   rw [w1] at n3
   have e3:H3 p=some (.ins A.Disk dx [("width",.int m),("written",.ref D)]):=n3.same _ _ zF
   have w2:zL "at_sides" (.ref s1) [(("width":Str),V.int m),("written",.ref D)]=[(("width":Str),V.int m),("written",.ref D),("at_sides",.ref s1)]:=by simp only [zL,zmg,zmc,if_false]
   have w3:zL "counted" (.int 0) [(("width":Str),V.int m),("written",.ref D),("at_sides",.ref s1)]=[(("width":Str),V.int m),("written",.ref D),("at_sides",.ref s1),("counted",.int 0)]:=by simp only [zL,zls,zkO,zjE,if_false]
   have w4:zL "left" .non [(("width":Str),V.int m),("written",.ref D),("at_sides",.ref s1),("counted",.int 0)]=[(("width":Str),V.int m),("written",.ref D),("at_sides",.ref s1),("counted",.int 0),("left",.non)]:=by simp only [zL,zlj,zkP,zkZ,zkG,if_false]
   have w5:zL "has_stopped" (.bl false) [(("width":Str),V.int m),("written",.ref D),("at_sides",.ref s1),("counted",.int 0),("left",.non)]=zq m D s1 (DM.new n.toNat):=by simp only [zL,zjI,zjh,ziT,zmk,zli,if_false,zq,DM.new,lv]
   refine ⟨dx,_,e3,?_⟩
   rw [w2,w3,w4,w5,zcI,zcI,zcI]
   refine ⟨by show 2<1000;decide,by show 3<1000;decide,by show 4<1000;decide,by show 5<1000;decide,?_⟩
   have pD:p≠D:=zt (I.same _ _ zF) nD.no
   have ps:p≠s1:=zt zF n3.no
   have H3of:∀ b o,b≠p→H2 b=some o→H3 b=some o:=fun b o hb h=>n3.same _ _ (by rw [ze hb];exact h)
   have hDat:=nD.at_
   rw [e] at hDat
   have cp:∀ c∈cells,c≠p:=fun c hcm z=>by have:=(hc c hcm).2;rw [z,zF] at this;cases this
   have cD:∀ c∈cells,c≠D:=fun c hcm=>zt (hc c hcm).1 nD.no
   have cs:∀ c∈cells,c≠s1:=fun c hcm=>zt (show (upd H2 p (.ins A.Disk dx [("width",.int m),("written",.ref D)])) c=some _ by rw [ze (cp c hcm)];exact nD.same _ _ (hc c hcm).1) n3.no
   have Ds:D≠s1:=zt (show (upd H2 p (.ins A.Disk dx [("width",.int m),("written",.ref D)])) D=some _ by rw [ze (Ne.symm pD)];exact hDat) n3.no
   have Hn:∀ b,b≠p→(upd H p (.ins A.Disk dx [("width",V.int m)])) b=none→H b=none:=fun b hb h=>by rw [ze hb] at h;exact h
   refine q D s1 cells _ ⟨⟨dx,zF⟩,⟨?_,?_,fun i c hi=>?_⟩,?_,?_⟩ (fun b o hb hne=>?_) (fun x hx=>?_)
   ·rw [ze (Ne.symm pD)]
    exact H3of D _ (Ne.symm pD) hDat
   ·simp [DM.new,l]
   ·have hcm:=List.mem_of_getElem? hi
    rw [ze (cp c hcm),H3of c _ (cp c hcm) (nD.same _ _ (hc c hcm).1)]
    have:((DM.new n.toNat).rows.getD i [])=[]:=by
     unfold DM.new
     rw [List.getD_eq_getElem?_getD,List.getElem?_replicate]
     split <;> rfl
    rw [this];rfl
   ·rw [ze (Ne.symm ps)]
    exact n3.at_
   ·simp only [List.nodup_cons,List.mem_cons,not_or]
    exact ⟨⟨pD,ps,fun z=>cp p z rfl⟩,⟨Ds,fun z=>cD D z rfl⟩,fun z=>cs s1 z rfl,hcn⟩
   ·rw [ze hne]
    exact H3of b _ hne (nD.same _ _ (I.same _ _ (by rw [ze hne];exact hb)))
   ·simp only [List.mem_cons] at hx
    rcases hx with rfl|rfl|hx
    ·exact Hn _ (Ne.symm pD) (I.same.free nD.no)
    ·have z:=n3.no
     rw [ze (Ne.symm ps)] at z
     exact Hn _ (Ne.symm ps) (I.same.free (nD.same.free z))
    ·exact Hn _ (cp x hx) (hc x hx).2
end
section
variable {P:Program}{w:World}{K:Frag}{mg:Str→Option Value}{base:Heap}{A:zn}
theorem zov {H:Hp}{a:Addr}{o:HO} (h:H a=some o):upd H a o=H:=by
 funext b
 by_cases hb:b=a
 ·rw [hb,zF,h]
 ·rw [ze hb]
def zcb (i:Nat) (r:List Tx):List Tx:=List.replicate i none++r.drop i
theorem zsk {i:Nat}{r:List Tx} (h:i≤r.length):(zcb i r).length=r.length:=by simp [zcb];omega
theorem zo1 {i:Nat}{r:List Tx} (h:i<r.length):((zcb i r).map tv).set i .non=(zcb (i+1) r).map tv:=by
 have e:V.non=tv none:=rfl
 rw [e,← List.map_set]
 congr 1
 unfold zcb
 rw [List.set_append_right _ _ (by simp)]
 have h2:r.drop i=r[i]::r.drop (i+1):=List.drop_eq_getElem_cons h
 rw [h2,List.length_replicate,Nat.sub_self,List.set_cons_zero,List.replicate_succ',List.append_assoc]
 rfl
structure zra (H1:Hp) (p c:Addr) (k:Nat) (n:Int) (r:List Tx) (i:Nat) (σ:L2.St) (H':Hp):Prop where
 ex:∃ x,σ=[some (V.ref p),some (.int k),some (.ref c),some (.int n),x]
 at_:H'=upd H1 c (.lst ((zcb i r).map tv))
 le:i≤r.length
theorem zf1:zz ["self","stretch","texts","done","place"] ["self","stretch"] (zd zcU):=⟨rfl,rfl,rfl,by decide +kernel,rfl,by decide +kernel,by decide +kernel⟩
theorem zpY {f:Addr}{fd:FuncData} (F:Fun K "empty" "Disk.empty" zcU f fd) (T:Txt w K mg A) (M_Disk_spend:GM P w K mg base true 1 A.Disk "spend" ["self","many"] (zfb A)) (M_Disk_refuse_if_stopped:GMX P w K mg base true 1 A.Disk "refuse_if_stopped" ["self"] (zdu A)):zp P w K mg base (CXW P w) true 2 f fd ["self","stretch"] (zgo A):=by
 refine F.okW zf1 (fun vs H Q E h=>?_) (fun cdv Ar outer s H vs Q E hr h=>?_)
 ·obtain ⟨p,wl,sl,cells,m,d,k,rfl,_⟩:=h;rfl
 ·obtain ⟨p,wl,sl,cells,m,d,k,rfl,D,hk,hsm,hl,q⟩:=h
  obtain ⟨dx,h1⟩:=D.ob
  obtain ⟨c,hc,ha,hH⟩:=D.rows.cell hk
  have Th:=zbO (cm:=true) (P:=P) (w:=w) (K:=K) (mg:=mg) (base:=base) (N:=["self","stretch","texts","done","place"]) (qual:="Disk.empty") (scope:=zd zcU) (f:=f) (cd:=cdv) (A:=Ar) (outer:=outer) (s:=s) (H:=H) (E:=E)
  refine ⟨_,(W.h (zg (zaa (zcV (za 0) T.cl_Disk Th M_Disk_refuse_if_stopped hr))
   (zg (zx (i:=2) zf1.nd rfl (Or.inl rfl) (zR zQ (zaN T.cl_Disk T.na_Disk_written (za 0)) (za 1) (fun _ _=>rfl)))
   (zg (zx (i:=3) zf1.nd rfl (Or.inl rfl) (zcu (za 0) T.cl_Disk M_Disk_spend hr (zb (zH zaQ rfl T.n_len PySem.boot_len (zb (za 2) zc)) zc)))
   (zg (zN (zaH (zaN T.cl_Disk T.na_Disk_has_stopped (za 0)))
   (zh (zqV (zbl PassesOwn.never (fun _=>rfl) (zbG rfl T.n_range (zb (za 3) zc)) (zO (i:=4) zf1.nd rfl (Or.inl rfl))
   (zh (zdo zal (zex (za 2) (za 4) zem))))))
   (zh (zaa (zh1 (za 2)))))
   (zh (zaa (zcV (za 0) T.cl_Disk Th M_Disk_refuse_if_stopped hr)))))))),?_⟩
  simp_all only [h1,zcs]
  unfold DM.empty at q
  refine ⟨p,wl,sl,cells,m,d,rfl,D,fun hs=>?_,fun hs=>?_⟩
  ·rw [if_pos hs] at q
   exact ⟨_,rfl,q H D zm.refl⟩
  rw [if_neg (by rw [hs];exact Bool.false_ne_true)] at q
  simp_all only [h1,D.rows.w,zdv,ha,hH,List.length_map,zkQ]
  generalize hr0:d.rows.getD k []=r at q hH ⊢
  have hrl:r.length≤1000:=by rw [← hr0];exact hsm k
  refine ⟨p,wl,sl,cells,m,d,_,rfl,D,fun H1 D1 k1=>?_⟩
  obtain ⟨dx1,g1⟩:=D1.ob
  have gc:=D1.rows.at_ k c hc
  rw [zje,hr0] at gc
  have hn0:0≤dn d.left r.length:=by
   unfold dn
   split
   ·omega
   ·rename_i l e
    have:=hl l e
    split <;> omega
  have hn1:dn d.left r.length≤r.length:=by
   unfold dn
   split
   ·omega
   ·split <;> omega
  have kF:∀ o,zm (p::wl::sl::cells) H (upd H1 c o):=fun o=>(k1.mono (by simp)).trans (zm.upd (by simp [List.mem_of_getElem? hc]))
  simp_all only [g1,zl6]
  refine zad (fun hst=>?_) (fun hst=>?_)
  ·rw [if_pos hst] at q
   refine ⟨by omega,by omega,zak.rng (zra H1 p c k (dn d.left r.length) r) ⟨⟨_,rfl⟩,(zov gc).symm,Nat.zero_le _⟩ ?_ ?_⟩
   ·rintro i σ H' hi ⟨⟨x,rfl⟩,rfl,hle⟩
    have ix:ixN ((zcb i r).map tv).length (0+(i:Int))=some i:=by
     unfold ixN
     rw [if_pos (by omega),if_pos (by rw [List.length_map,zsk hle];omega)]
     simp
    simp_all only [zF,ix,zcI,zo1 (show i<r.length by omega)]
    exact ⟨⟨_,rfl⟩,rfl,by omega⟩
   ·rintro σ H' ⟨⟨x,rfl⟩,rfl,hle⟩
    have D2:=D1.setRow (r:=zcb (dn d.left r.length).toNat r) hc
    obtain ⟨dx2,g2⟩:=D2.ob
    simp_all only [g2,zcs]
    refine ⟨p,wl,sl,cells,m,_,rfl,D2,fun hs2=>⟨_,rfl,q _ D2 (kF _)⟩,fun hs2=>?_⟩
    have hs2':(d.spend r.length).st=false:=hs2
    rw [hs2'] at hst;cases hst
  ·rw [if_neg hst] at q
   have D2:=D1.setRow (r:=[]) hc
   obtain ⟨dx2,g2⟩:=D2.ob
   have g2':upd H1 c (.lst []) p=some (.ins A.Disk dx2 (zq m wl sl { d.spend r.length with rows:=(d.spend r.length).rows.set k [] })):=g2
   simp_all only [gc,g2',zcs]
   refine ⟨p,wl,sl,cells,m,_,rfl,D2,fun hs2=>absurd hs2 hst,fun hs2=>?_⟩
   simp_all only []
   exact q _ D2 (kF _)
def DM.copy (d:DM):DM:={ d with left:=none,st:=false }
def ziS (A:zn):Sp:=fun vs H Q _=>∃ (p wl sl:Addr) (cells:List Addr) (m:Int) (d:DM),vs=[.ref p]∧zB A H p wl sl cells m d∧3≤d.rows.length∧d.rows.length≤16∧2≤m∧m≤32 ∧
 ∀ (p' wl' sl':Addr) (cells':List Addr) (H':Hp),zB A H' p' wl' sl' cells' m d.copy→zl H H'→(∀ x∈p'::wl'::sl'::cells',H x=none)→Q (.ref p') H'
end
abbrev zdN:Stmt:=top 43
abbrev zec:Stmt:=top 44
abbrev zdc:Stmt:=top 45
def rdT:Tx→Option (List V)|none=>none|some z=>zaG z
structure zbt (d:DM):Prop where
 ok:∀ r∈d.rows,r.length≤32∧∀ t∈r,∀ z,t=some z→asc z=true∧z.length≤1000
 len:d.rows.length≤16
abbrev Tri:=List V×Nat×Nat
def zf2:List V→Int|_::.int k::_=>k|_=>0
def one (o:Option (List V)) (k j:Nat):List Tri:=match o with|some row=>[(row,k,j)]|none=>[]
theorem zkT (o:Option (List V)) (k j:Nat):(one o k j).length≤1:=by cases o <;> simp [one]
def rIn (l:List Tx) (k:Nat):Nat→List Tri
 | 0=>[]
 | j+1=>rIn l k j++one (rdT (l.getD j none)) k j
def wU (rows:List (List Tx)):Nat→List Tri
 | 0=>[]
 | i+1=>wU rows i++rIn (rows.getD i []) i (rows.getD i []).length
def zcG (H:Hp) (a:Addr) (t:Tri):Prop:=∃ r,H a=some (.tup [.ref r,.int t.2.1,.int t.2.2])∧H r=some (.tup t.1)
def zaA (H:Hp) (as:List Addr) (ts:List Tri):Prop:=Paired (zcG H) as ts
def zr (H H':Hp):Prop:=∀ a o,(∀ ps,o≠.tbl ps)→H a=some o→H' a=some o
theorem zr.of {H H':Hp} (s:zl H H'):zr H H':=fun a o _ e=>s a o e
theorem zr.refl {H:Hp}:zr H H:=fun _ _ _ e=>e
theorem zr.trans {H H1 H2:Hp} (x:zr H H1) (y:zr H1 H2):zr H H2:=fun a o n e=>y a o n (x a o n e)
theorem zr.lams {H H':Hp}{P:Addr}{ps:Array Value} (x:zey H H' P) (h:H P=some (.tbl ps)):zr H H':=fun a o n e=>x a o (fun z=>by subst z;rw [h] at e;cases e;exact n _ rfl) e
theorem zr.lam {H H':Hp}{P:Addr}{pos:Pos}{q:Str} (x:zey H H' P) (h:za4 pos q H P):zr H H':=by
 rcases h with h|⟨_,_,_,_,h,_⟩
 ·exact zr.lams x h
 ·exact zr.lams x h
theorem zr.list {H H':Hp} (s:zr H H') {a:Addr}{xs:List V} (h:H a=some (.lst xs)):H' a=some (.lst xs):=s _ _ (fun _=>nofun) h
theorem zr.tup {H H':Hp} (s:zr H H') {a:Addr}{xs:List V} (h:H a=some (.tup xs)):H' a=some (.tup xs):=s _ _ (fun _=>nofun) h
theorem zr.free {H H':Hp} (s:zr H H') {a:Addr} (h:H' a=none):(∃ ps,H a=some (.tbl ps))∨H a=none:=by
 cases e:H a with
 | none=>exact .inr rfl
 | some o =>
  cases o with
  | tbl ps=>exact .inl ⟨ps,rfl⟩
  | _=>rw [s a _ (fun ps z=>by cases z) e] at h;cases h
theorem zB.sameT {A:zn}{H H':Hp}{p wl sl:Addr}{cells:List Addr}{m:Int}{d:DM} (D:zB A H p wl sl cells m d) (s:zr H H'):zB A H' p wl sl cells m d:=by
 obtain ⟨dx,e⟩:=D.ob
 exact ⟨⟨dx,s _ _ (fun _=>nofun) e⟩,⟨s.list D.rows.w,D.rows.len,fun i c h=>s.list (D.rows.at_ i c h)⟩,s.list D.sides,D.nd⟩
theorem zcG.sameT {H H':Hp}{a:Addr}{t:Tri} (h:zcG H a t) (s:zr H H'):zcG H' a t:=let ⟨r,e1,e2⟩:=h;⟨r,s.tup e1,s.tup e2⟩
theorem zaA.sameT {H H':Hp}{as:List Addr}{ts:List Tri} (h:zaA H as ts) (s:zr H H'):zaA H' as ts:=Paired.mapP h fun _ _ r=>r.sameT s
theorem zaA.same {H H':Hp}{as:List Addr}{ts:List Tri} (h:zaA H as ts) (s:zl H H'):zaA H' as ts:=h.sameT (.of s)
theorem zcP {α β:Type}{R:α→β→Prop}{l1 l2:List α}{m1 m2:List β} (h1:Paired R l1 m1) (h2:Paired R l2 m2):Paired R (l1++l2) (m1++m2):=by
 induction h1 with
 | nil=>exact h2
 | cons r _ ih=>exact .cons r ih
theorem zwp {z:Str}{row:List V} (h:zaG z=some row):∃ y k ys,row = .str y::.int k::ys:=by
 unfold zaG at h
 obtain ⟨b,_,h⟩:=Option.bind_eq_some_iff.mp h
 cases e:PySem.Txt.split (PySem.Txt.slice b none (some (-1))) (c1 32) with
 | nil=>rw [e] at h;cases h
 | cons w ws =>
  rw [e,zb2] at h
  obtain ⟨ks,hk,h⟩:=Option.bind_eq_some_iff.mp h
  split at h
  ·obtain ⟨vs,hv,rfl⟩:=Option.map_eq_some_iff.mp h
   have:∃ ks',ks=("number":Str)::ks':=by
    unfold zbo at hk
    split at hk
    ·cases hk;exact ⟨_,rfl⟩
    ·split at hk
     ·cases hk;exact ⟨_,rfl⟩
     ·split at hk
      ·cases hk;exact ⟨_,rfl⟩
      ·split at hk
       ·cases hk;exact ⟨_,rfl⟩
       ·split at hk
        ·cases hk;exact ⟨_,rfl⟩
        ·cases hk
   obtain ⟨ks',rfl⟩:=this
   cases ws with
   | nil=>rename_i hl;cases hl
   | cons z zs =>
    have hv':(zav "number" z).bind (fun v=>(zam ks' zs).map (v::·))=some vs:=hv
    obtain ⟨v,h1,h2⟩:=Option.bind_eq_some_iff.mp hv'
    obtain ⟨vs',_,rfl⟩:=Option.map_eq_some_iff.mp h2
    have:∃ k,v = .int k:=by
     unfold zav at h1
     by_cases hz:zaO z=true
     ·rw [if_pos ⟨rfl,hz⟩] at h1
      cases h1
      exact ⟨_,rfl⟩
     ·rw [if_neg (fun q=>hz q.2),if_neg (fun q=>absurd q.1 (by decide)),if_neg (fun q=>absurd q.1 (by decide)),if_neg (fun q=>absurd q.1 (by decide))] at h1
      cases h1
    obtain ⟨k,rfl⟩:=this
    exact ⟨w,k,vs',rfl⟩
  ·cases h
theorem zbT {α:Type}{l:List α}{j:Nat}{x:α} (h:j<l.length):l.getD j x∈l:=by
 rw [List.getD_eq_getElem?_getD,List.getElem?_eq_getElem h];exact List.getElem_mem h
section
variable {P:Program}{w:World}{K:Frag}{mg:Str→Option Value}{base:Heap}{A:zn}
def zir (A:zn):Sp:=fun vs H Q _=>∃ (p wl sl:Addr) (cells:List Addr) (m:Int) (d:DM) (k j:Nat),vs=[.ref p,.int k,.int j]∧zB A H p wl sl cells m d∧zbt d∧k<d.rows.length ∧
 (∀ row,rdT ((d.rows.getD k []).getD j none)=some row→∀ r H',zl H H'→H' r=some (.tup row)→Q (.ref r) H')∧(rdT ((d.rows.getD k []).getD j none)=none→∀ H',zl H H'→Q .non H')
theorem zri:zz ["disk","stretch","place"] ["disk","stretch","place"] (zd zdN):=⟨rfl,rfl,rfl,by decide +kernel,rfl,by decide +kernel,by decide +kernel⟩
theorem zrd {f:Addr}{fd:FuncData} (F:Fun K "row_at" "row_at" zdN f fd) (T:Txt w K mg A) (M_Disk_told:GM P w K mg base true 1 A.Disk "told" ["self","stretch","place"] (zhs A)) (G_read_row:GX P w K mg base true 5 "read_row" ["text"] (zgE A)):zp P w K mg base CX0 true 7 f fd ["disk","stretch","place"] (zir A):=by
 refine F.ok zri (fun vs H Q E h=>?_) (fun cdv Ar outer s H vs Q E hr h=>?_)
 ·obtain ⟨p,wl,sl,cells,m,d,k,j,rfl,_⟩:=h;rfl
 ·obtain ⟨p,wl,sl,cells,m,d,k,j,rfl,D,tx,hk,q1,q2⟩:=h
  refine ⟨_,(W.h (zh (zgY rfl rfl ⟨rfl,rfl⟩ T.ek_NoRow rfl T.mg_NoRow (fun pins Ex=>(zh (zu (zfj zfl G_read_row hr rfl (zb (zcu (za 0) T.cl_Disk M_Disk_told hr (zb (za 1) (zb (za 2) zc))) zc))))) (fun pins ea=>by
   have hr:=hr.mark (v:=some (.ref ea))
   exact (zh (zu zal)))))),?_⟩
  obtain ⟨dx,h1⟩:=D.ob
  simp_all only [h1,ztu]
  refine ⟨p,wl,sl,cells,m,d,k,j,rfl,D,hk,?_⟩
  unfold zf3
  have hin:∀ z,(d.rows.getD k []).getD j none=some z→asc z=true∧z.length≤1000:=fun z e=>by
   have hr:d.rows.getD k []∈d.rows:=zbT hk
   by_cases hj:j<(d.rows.getD k []).length
   ·exact (tx.ok _ hr).2 _ (zbT hj) z e
   ·rw [List.getD_eq_getElem?_getD,List.getElem?_eq_none (by omega)] at e;cases e
  have exc:∀ H1,zl H H1→rdT ((d.rows.getD k []).getD j none)=none→zas K A.NoRow∧mroIn K A.NoRow (.ref A.NoRow)=some true∧∀ (ea:Addr) (oe:Obj),H1 ea=none→zdt A.NoRow oe→Q V.non (upd H1 ea (HO.frz oe (HO.own 0))):=fun H1 s1 hn=>⟨T.ek_NoRow,T.ms_NoRow,fun ea oe he _=>q2 hn _ fun a o e=>by rw [ze (zt (s1 _ _ e) he)];exact s1 _ _ e⟩
  generalize (d.rows.getD k []).getD j none=t at hin exc q1
  cases t with
  | none=>exact .inl ⟨_,rfl,.non,_,rfl,exc H (zl.refl _) rfl⟩
  | some z =>
   obtain ⟨a1,a2⟩:=hin z rfl
   exact .inr ⟨z,rfl,a1,by omega,fun xs hx p' H' s' h'=>q1 xs hx p' H' s' h',fun hn H' s'=>⟨_,rfl,exc H' s' hn⟩⟩
def zhv (A:zn):Sp:=fun vs H Q _=>∃ (p wl sl:Addr) (cells:List Addr) (m:Int) (d:DM) (k:Nat),vs=[.ref p,.int k]∧zB A H p wl sl cells m d∧zbt d∧k<d.rows.length ∧
 ∀ l as H',zl H H'→H l=none→H' l=some (.lst (as.map V.ref))→zaA H' as (rIn (d.rows.getD k []) k (d.rows.getD k []).length)→Q (.ref l) H'
structure zmJ (H:Hp) (p l:Addr) (k:Nat) (r:List Tx) (j:Nat) (σ:L2.St) (H':Hp):Prop where
 ex:∃ t1 t2,σ=[some (V.ref p),some (.int k),some (.ref l),t1,t2]
 same:zl H H'
 no:H l=none
 ls:∃ as:List Addr,H' l=some (.lst (as.map V.ref))∧zaA H' as (rIn r k j)∧as.length≤j
theorem zfQ:zz ["disk","stretch","found","place","row"] ["disk","stretch"] (zd zec):=⟨rfl,rfl,rfl,by decide +kernel,rfl,by decide +kernel,by decide +kernel⟩
theorem zwK {f:Addr}{fd:FuncData} (F:Fun K "rows_in" "rows_in" zec f fd) (T:Txt w K mg A) (M_Disk_next_place:GM P w K mg base true 1 A.Disk "next_place" ["self","stretch"] (zeV A)) (G_row_at:GF P w K mg base true 7 "row_at" ["disk","stretch","place"] (zir A)):zp P w K mg base CX0 true 8 f fd ["disk","stretch"] (zhv A):=by
 refine F.ok zfQ (fun vs H Q E h=>?_) (fun cdv Ar outer s H vs Q E hr h=>?_)
 ·obtain ⟨p,wl,sl,cells,m,d,k,rfl,_⟩:=h;rfl
 ·obtain ⟨p,wl,sl,cells,m,d,k,rfl,D,tx,hk,q⟩:=h
  refine ⟨_,(W.h (zg (zx (i:=2) zfQ.nd rfl (Or.inl rfl) (zX zc))
   (zg (zbl PassesOwn.never (fun _=>rfl) (zbG rfl T.n_range (zb (zcu (za 0) T.cl_Disk M_Disk_next_place hr (zb (za 1) zc)) zc)) (zO (i:=3) zfQ.nd rfl (Or.inl rfl))
   (zg (zx (i:=4) zfQ.nd rfl (Or.inl rfl) (zo G_row_at hr rfl (zb (za 0) (zb (za 1) (zb (za 3) zc)))))
   (zh (zN (zM zdS (za 4) zal (zD _))
   (zh (zaa (zcj (za 2) (zaY (zb (za 4) (zb (za 1) (zb (za 3) zc)))))))
   zU))))
   (zh (zu (za 2)))))),?_⟩
  have hr0:d.rows.getD k []∈d.rows:=by rw [List.getD_eq_getElem?_getD,List.getElem?_eq_getElem hk];exact List.getElem_mem hk
  have hl32:=(tx.ok _ hr0).1
  simp_all only []
  refine ⟨by decide,fun l H1 n1 _=>?_⟩
  have D1:=D.sameT (.of n1.same)
  obtain ⟨dx,h1⟩:=D1.ob
  simp_all only [h1,zgf]
  refine ⟨p,wl,sl,cells,m,d,k,rfl,D1,hk,?_⟩
  simp_all only []
  have er:(((d.rows.getD k []).length:Nat):Int).toNat=(d.rows.getD k []).length:=by omega
  rw [er]
  refine ⟨by omega,by omega,zak.rng (zmJ H p l k (d.rows.getD k [])) ⟨⟨_,_,rfl⟩,n1.same,n1.no,[],n1.at_,.nil,Nat.le_refl _⟩ ?_ ?_⟩
  ·rintro j σ H2 hj ⟨⟨t1,t2,rfl⟩,sm,ln,as,hl,ht,ha⟩
   have ej:(0+(j:Int))=((j:Nat):Int):=by omega
   simp_all only [ej]
   refine ⟨p,wl,sl,cells,m,d,k,j,rfl,D.sameT (.of sm),tx,hk,fun row hrow r H3 s3 h3=>?_,fun hn H3 s3=>?_⟩
   ·have hl3:=s3 _ _ hl
    simp_all only [hl3]
    refine ⟨by decide,fun a H4 n4=>?_⟩
    have hl4:=n4.same _ _ hl3
    simp_all only [hl4]
    have al:a≠l:=fun z=>by have:=n4.no;rw [z,hl3] at this;cases this
    have rl:r≠l:=fun z=>by rw [z,hl3] at h3;cases h3
    refine ⟨by rw [List.length_map];exact zaI (by omega),⟨_,_,rfl⟩,fun c o e=>?_,ln,as++[a],by rw [zF];simp,?_,by simp;omega⟩
    ·rw [ze (zt e ln)];exact n4.same _ _ (s3 _ _ (sm _ _ e))
    ·have e1:rIn (d.rows.getD k []) k (j+1)=rIn (d.rows.getD k []) k j++[(row,k,j)]:=by
      show rIn _ k j++_=_
      rw [hrow];rfl
     rw [e1]
     refine zcP (Paired.mapP ht fun x t ⟨r',g1,g2⟩=>?_) (.cons ⟨r,?_,?_⟩ .nil)
     ·refine ⟨r',?_,?_⟩
      ·rw [ze (fun z=>by rw [z,hl] at g1;cases g1)];exact n4.same _ _ (s3 _ _ g1)
      ·rw [ze (fun z=>by rw [z,hl] at g2;cases g2)];exact n4.same _ _ (s3 _ _ g2)
     ·rw [ze al];exact n4.at_
     ·rw [ze rl];exact n4.same _ _ h3
   ·simp_all only []
    refine ⟨⟨_,_,rfl⟩,sm.trans s3,ln,as,s3 _ _ hl,?_,by omega⟩
    have e1:rIn (d.rows.getD k []) k (j+1)=rIn (d.rows.getD k []) k j:=by
     show rIn _ k j++_=_
     rw [hn];exact List.append_nil _
    rw [e1]
    exact zaA.same ht s3
  ·rintro σ H2 ⟨⟨t1,t2,rfl⟩,sm,ln,as,hl,ht,ha⟩
   simp_all only []
   exact q l as H2 sm ln hl ht
end
abbrev zef:Stmt:=top 46
abbrev zdg:Stmt:=top 47
abbrev zdY:Stmt:=top 48
abbrev zcR:Stmt:=top 49
def zw (t:Tri):Int:=zf2 t.1
theorem znt {α β:Type}{f:α→β}{zs m:List β} (h:zs.Perm m):∀ {L:List α},m=L.map f→∃ L':List α,L'.Perm L∧zs=L'.map f:=by
 induction h with
 | nil=>intro L e;cases L with
  | nil=>exact ⟨[],.nil,rfl⟩
  | cons a L=>cases e
 | cons x _ ih =>
  intro L e
  cases L with
  | nil=>cases e
  | cons a L =>
   rw [List.map_cons] at e
   injection e with e1 e2
   obtain ⟨L',p,rfl⟩:=ih e2
   exact ⟨a::L',p.cons a,by rw [List.map_cons,e1]⟩
 | swap x y l =>
  intro L e
  cases L with
  | nil=>cases e
  | cons a L =>
   cases L with
   | nil=>rw [List.map_cons] at e;injection e with _ e2;cases e2
   | cons b L =>
    rw [List.map_cons,List.map_cons] at e
    injection e with e1 e2
    injection e2 with e2 e3
    exact ⟨b::a::L,.swap ..,by rw [List.map_cons,List.map_cons,e1,e2,e3]⟩
 | trans _ _ ih1 ih2 =>
  intro L e
  obtain ⟨L1,p1,e1⟩:=ih2 e
  obtain ⟨L2,p2,e2⟩:=ih1 e1
  exact ⟨L2,p2.trans p1,e2⟩
theorem zkw:∀ {l m:List Tri},l.Perm m→l.Pairwise (fun a b=>zw a<zw b)→m.Pairwise (fun a b=>zw a<zw b)→l=m
 | [],m,p,_,_=>(List.Perm.nil_eq p)
 | a::l,[],p,_,_=>by have:=p.length_eq;cases this
 | a::l,b::m,p,h1,h2=>by
  obtain ⟨g1,g2⟩:=List.pairwise_cons.mp h1
  obtain ⟨k1,k2⟩:=List.pairwise_cons.mp h2
  have e:a=b:=by
   refine Classical.byContradiction fun ne=>?_
   have ha:a∈b::m:=p.mem_iff.mp (List.mem_cons_self ..)
   have hb:b∈a::l:=p.mem_iff.mpr (List.mem_cons_self ..)
   rcases List.mem_cons.mp ha with z|ha
   ·exact ne z
   ·rcases List.mem_cons.mp hb with z|hb
    ·exact ne z.symm
    ·have:=k1 a ha
     have:=g1 b hb
     omega
  subst e
  rw [zkw (List.Perm.cons_inv p) g2 k2]
theorem zjU {l:List Tri} (nd:(l.map zw).Nodup) (h:l.Pairwise (fun a b=>zw a≤zw b)):l.Pairwise (fun a b=>zw a<zw b) :=
 (h.and (List.pairwise_map.mp nd)).imp fun ⟨h1,h2⟩=>by omega
open Classical in
noncomputable def zae (U:List Tri):List Tri:=if h:∃ ts:List Tri,ts.Perm U∧ts.Pairwise (fun a b=>zw a≤zw b) then h.choose else U
theorem zs8 {U ts:List Tri} (nd:(U.map zw).Nodup) (p:ts.Perm U) (h:ts.Pairwise (fun a b=>zw a≤zw b)):ts=zae U:=by
 have ex:∃ ts:List Tri,ts.Perm U∧ts.Pairwise (fun a b=>zw a≤zw b):=⟨ts,p,h⟩
 unfold zae
 rw [dif_pos ex]
 have n1:(ts.map zw).Nodup:=(p.map zw).nodup_iff.mpr nd
 have n2:(ex.choose.map zw).Nodup:=(ex.choose_spec.1.map zw).nodup_iff.mpr nd
 exact zkw (p.trans ex.choose_spec.1.symm) (zjU n1 h) (zjU n2 ex.choose_spec.2)
def lpW:Pos:=⟨118,29,118,50⟩
def lpL:Pos:=⟨306,34,306,65⟩
def qW:Str:=(envOfC "whole_rows" (zd zdc) 0 0 .none).qual++"<lambda>"
abbrev zco:Stmt:=top 66
def qL:Str:=(envOfC "_law_rows" (zd zco) 0 0 .none).qual++"<lambda>"
structure TB (A:zn) (H:Hp):Prop where
 w:za4 lpW qW H A.t_whole_rows
 l:za4 lpL qL H A.t__law_rows
 ne:A.t_whole_rows≠A.t__law_rows
theorem zjz {pos:Pos}{q:Str}{H:Hp}{P:Addr} (h:za4 pos q H P):∃ ps,H P=some (.tbl ps):=by
 rcases h with h|⟨_,_,_,_,h,_⟩ <;> exact ⟨_,h⟩
theorem zgi {pos:Pos}{q:Str}{H H':Hp}{P:Addr} (h:za4 pos q H P) (k:∀ a o,H a=some o→(a=P∨∀ ps,o≠.tbl ps)→H' a=some o):za4 pos q H' P:=by
 rcases h with h|⟨c,oc,vs,t,h1,h2,h3⟩
 ·exact .inl (k _ _ h (.inl rfl))
 ·exact .inr ⟨c,oc,vs,t,k _ _ h1 (.inl rfl),k _ _ h2 (.inr fun ps z=>by cases z),h3⟩
theorem TB.same {A:zn}{H H':Hp} (h:TB A H) (s:zl H H'):TB A H':=⟨zgi h.w fun a o e _=>s a o e,zgi h.l fun a o e _=>s a o e,h.ne⟩
theorem TB.keep {A:zn}{H H':Hp}{F:List Addr} (h:TB A H) (k:zm F H H') (hF:∀ x∈F,∀ o,H x=some o→(∀ ps,o≠.tbl ps)∧∀ oc,o≠.frz oc (.own 0)):TB A H':=by
 have go:∀ {pos q P},za4 pos q H P→za4 pos q H' P:=fun {pos q P} h=>by
  rcases h with h|⟨c,oc,vs,t,h1,h2,h3⟩
  ·exact .inl (k _ _ h fun z=>(hF _ z _ h).1 _ rfl)
  ·exact .inr ⟨c,oc,vs,t,k _ _ h1 fun z=>(hF _ z _ h1).1 _ rfl,k _ _ h2 fun z=>(hF _ z _ h2).2 _ rfl,h3⟩
 exact ⟨go h.w,go h.l,h.ne⟩
section
variable {P:Program}{w:World}{K:Frag}{mg:Str→Option Value}{base:Heap}{A:zn}
def nU (d:DM):List Tri:=wU d.rows d.rows.length
structure zpk (H:Hp) (p l:Addr) (d:DM) (i:Nat) (σ:L2.St) (H':Hp):Prop where
 ex:∃ t1,σ=[some (V.ref p),some (.ref l),t1]
 same:zl H H'
 no:H l=none
 ls:∃ as:List Addr,H' l=some (.lst (as.map V.ref))∧zaA H' as (wU d.rows i)∧as.length≤32*i
theorem zky {l:List Tx}{k:Nat}:∀ {j:Nat}{t:Tri},t∈rIn l k j→∃ y n ys,t.1 = .str y::.int n::ys
 | 0,t,h=>by cases h
 | j+1,t,h=>by
  rcases List.mem_append.mp h with h|h
  ·exact zky h
  ·cases e:l.getD j none with
   | none=>rw [e] at h;cases h
   | some z =>
    rw [e] at h
    cases e2:zaG z with
    | none=>rw [show rdT (some z)=zaG z from rfl,e2] at h;cases h
    | some row =>
     rw [show rdT (some z)=zaG z from rfl,e2] at h
     have h:t=(row,k,j):=List.mem_singleton.mp h
     rw [h]
     exact zwp e2
theorem zeL {rows:List (List Tx)}:∀ {i:Nat}{t:Tri},t∈wU rows i→∃ y n ys,t.1 = .str y::.int n::ys
 | 0,t,h=>by cases h
 | i+1,t,h=>by
  rcases List.mem_append.mp h with h|h
  ·exact zeL h
  ·exact zky h
theorem zmi {H:Hp}{as:List Addr}{ts:List Tri} (h:zaA H as ts) (hk:∀ t∈ts,∃ y n ys,t.1 = .str y::.int n::ys):Paired (ziJ H) as (ts.map zw):=by
 induction h with
 | nil=>exact .nil
 | @cons a t _ _ r _ ih =>
  refine .cons ?_ (ih fun t h=>hk t (List.mem_cons_of_mem _ h))
  obtain ⟨y,n,ys,e⟩:=hk t (List.mem_cons_self ..)
  obtain ⟨rr,e1,e2⟩:=r
  rw [e] at e2
  have ek:zw t=n:=by unfold zw;rw [e];rfl
  rw [ek]
  exact ⟨rr,_,_,_,e1,e2⟩
theorem zja {H:Hp}{as:List Addr}{ts:List Tri}{zs:List (Int×Addr)} (h:zaA H as ts) (p:zs.Perm ((ts.map zw).zip as)) (hs:zs.Pairwise (fun p q=>p.1≤q.1)) (nd:(ts.map zw).Nodup):zaA H (zs.map (·.2)) (zae ts):=by
 have hl:=zaR h
 have e1:(ts.map zw).zip as=(as.zip ts).map fun q=>(zw q.2,q.1):=by
  clear p nd
  induction h with
  | nil=>rfl
  | cons r _ ih=>rw [List.map_cons,List.zip_cons_cons,List.zip_cons_cons,List.map_cons,ih (Paired.length ‹_›)]
 obtain ⟨L,pL,rfl⟩:=znt p e1
 have e2:(as.zip ts).map (·.2)=ts:=List.map_snd_zip (by omega)
 have hm:∀ q∈as.zip ts,zcG H q.1 q.2:=by
  clear p pL e1 e2 hs nd hl
  induction h with
  | nil=>intro q hq;cases hq
  | cons r _ ih =>
   intro q hq
   rw [List.zip_cons_cons] at hq
   rcases List.mem_cons.mp hq with rfl|hq
   ·exact r
   ·exact ih q hq
 have e3:L.map (·.2)=zae ts:=zs8 nd (by have:=pL.map (·.2);rw [e2] at this;exact this) (by
  have:=List.pairwise_map.mp hs
  exact List.pairwise_map.mpr this)
 rw [← e3,List.map_map]
 have:∀ M:List (Addr×Tri),(∀ q∈M,zcG H q.1 q.2)→zaA H (M.map ((·.2)∘fun q=>(zw q.2,q.1))) (M.map (·.2)):=fun M=>by
  induction M with
  | nil=>exact fun _=>.nil
  | cons q M ih=>exact fun h=>.cons (h q (List.mem_cons_self ..)) (ih fun r hr=>h r (List.mem_cons_of_mem _ hr))
 exact this L fun q hq=>hm q (pL.mem_iff.mp hq)
def zfG (A:zn):Sp:=fun vs H Q _=>∃ (p wl sl:Addr) (cells:List Addr) (m:Int) (d:DM),vs=[.ref p]∧zB A H p wl sl cells m d∧zbt d∧((nU d).map zw).Nodup∧(nU d).length<64∧TB A H ∧
 ∀ l as H',zr H H'→TB A H'→H l=none→l≠sysModules→H' l=some (.lst (as.map V.ref))→zaA H' as (zae (nU d))→Q (.ref l) H'
theorem zh5:zz ["disk","found","stretch"] ["disk"] (zd zdc):=⟨rfl,rfl,rfl,by decide +kernel,rfl,by decide +kernel,by decide +kernel⟩
theorem zwz {f c:Addr}{fd:FuncData} (F:Fun K "whole_rows" "whole_rows" zdc f fd) (hc:fd.code = .ref c) (LB:zcY mg base (.ref c) A.t_whole_rows) (T:Txt w K mg A) (M_Disk_stretches:GM P w K mg base true 1 A.Disk "stretches" ["self"] (zaV A fun _ d=>.int d.rows.length)) (G_rows_in:GF P w K mg base true 8 "rows_in" ["disk","stretch"] (zhv A)):zp P w K mg base CX0 true 9 f fd ["disk"] (zfG A):=by
 refine F.okC hc zh5 (fun vs H Q E h=>?_) (fun Ar outer s H vs Q E hr h=>?_)
 ·obtain ⟨p,wl,sl,cells,m,d,rfl,_⟩:=h;rfl
 ·obtain ⟨p,wl,sl,cells,m,d,rfl,D,tx,nd,h64,tb,q⟩:=h
  refine ⟨_,(W.h (zg (zx (i:=1) zh5.nd rfl (Or.inl rfl) (zX zc))
   (zg (zbl PassesOwn.never (fun _=>rfl) (zbG rfl T.n_range (zb (zby (za 0) T.cl_Disk M_Disk_stretches hr) zc)) (zO (i:=2) zh5.nd rfl (Or.inl rfl))
   (zh (zaa (zr8 (za 1) (zo G_rows_in hr rfl (zb (za 0) (zb (za 2) zc)))))))
   (zh (zu (ziW LB hr rfl T.n_sorted (za 1) rfl rfl (fun _ _ _ _ _=>rfl) rfl rfl rfl rfl)))))),?_⟩
  have hl16:=tx.len
  simp_all only []
  refine ⟨by decide,fun l H1 n1 _=>?_⟩
  have D1:=D.sameT (.of n1.same)
  obtain ⟨dx,h1⟩:=D1.ob
  simp_all only [h1,zgm]
  refine ⟨p,wl,sl,cells,m,d,rfl,D1,?_⟩
  simp_all only []
  have er:((d.rows.length:Nat):Int).toNat=d.rows.length:=by omega
  rw [er]
  refine ⟨by omega,by omega,zak.rng (zpk H p l d) ⟨⟨_,rfl⟩,n1.same,n1.no,[],n1.at_,.nil,Nat.le_refl _⟩ ?_ ?_⟩
  ·rintro i σ H2 hi ⟨⟨t1,rfl⟩,sm,ln,as,hl,ht,ha⟩
   have ej:(0+(i:Int))=((i:Nat):Int):=by omega
   simp_all only [hl,ej]
   refine ⟨p,wl,sl,cells,m,d,i,rfl,D.sameT (.of sm),tx,hi,fun l2 bs H3 s3 n3 h3 t3=>?_⟩
   have hl3:=s3 _ _ hl
   have hb:bs.length≤32:=by
    have e1:=zaR t3
    have e2:∀ (r:List Tx) k j,(rIn r k j).length≤j:=fun r k j=>by
     induction j with
     | zero=>exact Nat.le_refl _
     | succ j ih=>show (rIn r k j++_).length≤_;rw [List.length_append];have:=zkT (rdT (r.getD j none)) k j;omega
    have:=e2 (d.rows.getD i []) i (d.rows.getD i []).length
    have:=(tx.ok _ (zbT (x:=[]) hi)).1
    omega
   simp_all only [hl3,h3]
   refine ⟨by rw [List.length_map,List.length_map];exact zai (by omega),⟨_,rfl⟩,fun c o e=>?_,ln,as++bs,by rw [zF];simp,?_,by simp;omega⟩
   ·rw [ze (zt e ln)];exact s3 _ _ (sm _ _ e)
   ·have up:∀ {b xs},H3 b=some (.tup xs)→upd H3 l (.lst (List.map V.ref as++List.map V.ref bs)) b=some (.tup xs):=fun {b xs} e=>by rw [ze (fun z=>by rw [z,hl3] at e;cases e)];exact e
    exact zcP (Paired.mapP ht fun x t ⟨r',g1,g2⟩=>⟨r',up (s3 _ _ g1),up (s3 _ _ g2)⟩) (Paired.mapP t3 fun x t ⟨r',g1,g2⟩=>⟨r',up g1,up g2⟩)
  ·rintro σ H2 ⟨⟨t1,rfl⟩,sm,ln,as,hl,ht,ha⟩
   simp_all only []
   have hlen:=zaR ht
   have tb2:=tb.same sm
   refine ⟨as,hl,tb2.w,by rw [hlen];exact h64,(nU d).map zw,zmi ht fun t h=>zeL h,fun D2 zs H3 L3 T3 f3 ne3 ns3 e3 pz sz=>?_⟩
   have s3:zr H2 H3:=zr.lam L3 tb2.w
   have tb3:TB A H3:=⟨T3,zgi tb2.l fun a o e h=>L3 a o (fun z=>?_) e,tb2.ne⟩
   ·refine q D2 (zs.map (·.2)) H3 ((zr.of sm).trans s3) tb3 (sm.free f3) ns3 (by rw [e3,List.map_map];rfl) ((zja ht pz sz nd).sameT s3)
   ·obtain ⟨ps,hps⟩:=zjz tb2.w
    rcases h with h|h
    ·exact tb2.ne (z.symm.trans h)
    ·rw [z,hps] at e
     cases e
     exact h _ rfl
end
theorem zb7 (U:List Tri):(zae U).Perm U:=by
 unfold zae
 split
 ·rename_i h;exact h.choose_spec.1
 ·exact .refl _
def zbm (t:Tri):Bool:=match t.1 with | .str y::_=>!decide (y=("carry":Str))|_=>true
def zbg (ts:List Tri) (hot:Bool):Nat→Option Nat
 | 0=>none
 | i+1=>match ts[i]? with|some t=>if zbm t=hot then some t.2.1 else zbg ts hot i|none=>zbg ts hot i
def ov:Option Nat→V|none=>.non|some n=>.int n
noncomputable def za2 (d:DM) (hot:Bool):Option Nat:=zbg (zae (nU d)) hot (zae (nU d)).length
theorem zkb {l:List Tx}{k:Nat}:∀ {j:Nat}{t:Tri},t∈rIn l k j→t.2.1=k
 | 0,t,h=>by cases h
 | j+1,t,h=>by
  rcases List.mem_append.mp h with h|h
  ·exact zkb h
  ·unfold one at h
   split at h
   ·rw [List.mem_singleton] at h;rw [h]
   ·cases h
theorem zln {rows:List (List Tx)}:∀ {i:Nat}{t:Tri},t∈wU rows i→t.2.1<i
 | 0,t,h=>by cases h
 | i+1,t,h=>by
  rcases List.mem_append.mp h with h|h
  ·have:=zln h;omega
  ·have:=zkb h;omega
theorem zfg {ts:List Tri}{hot:Bool}:∀ {i n:Nat},zbg ts hot i=some n→∃ t∈ts,t.2.1=n
 | 0,n,h=>by cases h
 | i+1,n,h=>by
  unfold zbg at h
  split at h
  ·rename_i t ht
   split at h
   ·cases h;exact ⟨t,List.mem_of_getElem? ht,rfl⟩
   ·exact zfg h
  ·exact zfg h
theorem zjL {d:DM}{hot:Bool}{n:Nat} (h:za2 d hot=some n):n<d.rows.length:=by
 obtain ⟨t,ht,rfl⟩:=zfg h
 exact zln ((zb7 _).mem_iff.mp ht)
def emp (rows:List (List Tx)):Nat→List Nat
 | 0=>[]
 | i+1=>emp rows i++if (rows.getD i []).length=0 then [i] else []
def iv (n:Nat):V:=.int n
theorem zjv (rows:List (List Tx)):∀ i,(emp rows i).length≤i
 | 0=>Nat.le_refl _
 | i+1=>by show (emp rows i++_).length≤_;have:=zjv rows i;rw [List.length_append];split <;> simp <;> omega
def zeM (d:DM) (m:Int):Option Nat→Int|none=>0|some k=>m - (d.rows.getD k []).length
noncomputable def zbB (d:DM) (m:Int) (hot:Bool):Option Nat:=if zeM d m (za2 d hot)>0 then za2 d hot else (emp d.rows d.rows.length).head?
section
variable {P:Program}{w:World}{K:Frag}{mg:Str→Option Value}{base:Heap}{A:zn}
structure zxk (H1:Hp) (p:Addr) (hot:Bool) (ts:List Tri) (i:Nat) (σ:L2.St) (H':Hp):Prop where
 ex:∃ t1 t2 t3,σ=[some (V.ref p),some (.bl hot),some (ov (zbg ts hot i)),t1,t2,t3]
 same:H'=H1
def zgd (A:zn):Sp:=fun vs H Q _=>∃ (p wl sl:Addr) (cells:List Addr) (m:Int) (d:DM) (hot:Bool),vs=[.ref p,.bl hot]∧zB A H p wl sl cells m d∧zbt d∧((nU d).map zw).Nodup∧(nU d).length<64∧TB A H ∧
 ∀ H',zr H H'→TB A H'→Q (ov (za2 d hot)) H'
theorem zdR:zz ["disk","is_hot","end","row","stretch","place"] ["disk","is_hot"] (zd zef):=⟨rfl,rfl,rfl,by decide +kernel,rfl,by decide +kernel,by decide +kernel⟩
theorem zqL {f:Addr}{fd:FuncData} (F:Fun K "end_of" "end_of" zef f fd) (T:Txt w K mg A) (G_whole_rows:GF P w K mg base true 9 "whole_rows" ["disk"] (zfG A)):zp P w K mg base CX0 true 10 f fd ["disk","is_hot"] (zgd A):=by
 refine F.ok zdR (fun vs H Q E h=>?_) (fun cdv Ar outer s H vs Q E hr h=>?_)
 ·obtain ⟨p,wl,sl,cells,m,d,hot,rfl,_⟩:=h;rfl
 ·obtain ⟨p,wl,sl,cells,m,d,hot,rfl,D,tx,nd,h64,tb,q⟩:=h
  have hu:_<cLine:=Nat.lt_of_succ_lt (zax hr)
  refine ⟨_,(W.h (zg (zx (i:=2) zdR.nd rfl (Or.inl rfl) zal)
   (zg (zbl PassesOwn.never (fun _=>rfl) (zd8 (zo G_whole_rows hr rfl (zb (za 0) zc))) (zd5 (n:=3) (zau (zO (i:=3) zdR.nd rfl (Or.inl rfl)) (zau (zO (i:=4) zdR.nd rfl (Or.inl rfl)) (zau (zO (i:=5) zdR.nd rfl (Or.inl rfl)) zbL))))
   (zh (zN (zM (zaL hu) (zba (zbW hu) (zR zQ (za 3) zj (fun _ _=>rfl)) (zac rfl T.c_COLD_KIND) (zD _)) (za 1) (zD _))
   (zh (zx (i:=2) zdR.nd rfl (Or.inl rfl) (za 4)))
   zU)))
   (zh (zu (za 2)))))),?_⟩
  simp_all only []
  refine ⟨p,wl,sl,cells,m,d,rfl,D,tx,nd,h64,tb,fun l as H1 s1 tb1 ln _ hl ht=>?_⟩
  have hlen:=zaR ht
  simp_all only []
  refine ⟨⟨_,SqL.of hl⟩,zak.lst (xs:=as.map V.ref) (zxk H1 p hot (zae (nU d))) ⟨⟨_,_,_,rfl⟩,rfl⟩ (fun i σ H' _ I=>by rw [I.same];exact SqL.of hl) ?_ ?_⟩
  ·rintro i x σ H' hx ⟨⟨t1,t2,t3,rfl⟩,rfl⟩
   rw [List.getElem?_map] at hx
   obtain ⟨a,ha,rfl⟩:=Option.map_eq_some_iff.mp hx
   have hi:i<(zae (nU d)).length:=by rw [← hlen];exact (List.getElem?_eq_some_iff.mp ha).1
   have hti:(zae (nU d))[i]?=some (zae (nU d))[i]:=List.getElem?_eq_getElem hi
   generalize (zae (nU d))[i]=t at hti
   obtain ⟨r,e1,e2⟩:=zcT ht ha hti
   obtain ⟨y,n,ys,et⟩:=zeL ((zb7 _).mem_iff.mp (List.mem_of_getElem? hti))
   rw [et] at e2
   refine ⟨a,_,rfl,SqT.of e1,rfl,?_⟩
   have ix:atI (V.str y::V.int n::ys) 0=some (V.str y):=zaU (j:=0) (by simp)
   have eh:zbm t = !decide (y=("carry":Str)):=by unfold zbm;rw [et]
   simp_all only [e2,ix]
   have ep:zbg (zae (nU d)) hot (i+1)=if zbm t=hot then some t.2.1 else zbg (zae (nU d)) hot i:=by
    show (match (zae (nU d))[i]? with|some t=>_|none=>_)=_
    rw [hti]
   refine zad (fun h=>?_) (fun h=>?_)
   ·exact ⟨⟨_,_,_,by rw [ep,if_pos (by rw [eh];exact of_decide_eq_true h)];rfl⟩,rfl⟩
   ·exact ⟨⟨_,_,_,by rw [ep,if_neg (by rw [eh];exact fun z=>h (decide_eq_true z))]⟩,rfl⟩
  ·rintro σ H' ⟨⟨t1,t2,t3,rfl⟩,rfl⟩
   simp_all only []
   have:=q _ s1 tb1
   unfold za2 at this
   rw [List.length_map,hlen]
   exact this
structure zwv (H:Hp) (p:Addr) (rows:List (List Tx)) (i:Nat) (τ:L2.St) (ys:List V) (H':Hp):Prop where
 ex:∃ t,τ=[t,some (V.ref p)]
 ys:ys=(emp rows i).map iv
 same:H'=H
 le:i≤16
def zfM (A:zn):Sp:=fun vs H Q _=>∃ (p wl sl:Addr) (cells:List Addr) (m:Int) (d:DM),vs=[.ref p]∧zB A H p wl sl cells m d∧d.rows.length≤16 ∧
 ∀ l H',New H l (.lst ((emp d.rows d.rows.length).map iv)) H'→l≠sysModules→Q (.ref l) H'
theorem zrB:zz ["disk"] ["disk"] (zd zdg):=⟨rfl,rfl,rfl,by decide +kernel,rfl,by decide +kernel,by decide +kernel⟩
theorem zq7:zaT { kind:=.function,names:=[(Str.ofString ".0",.local),(Str.ofString "stretch",.local),(Str.ofString "disk",.free)],isGenerator:=false,isCoroutine:=false,more:=[] } (zd zdg).names ["disk"] ["stretch","disk"] [none,some 0]=true:=by decide +kernel
theorem zrR:(["stretch","disk"]:List Str).Nodup:=by decide +kernel
theorem zq9 {f:Addr}{fd:FuncData} (F:Fun K "empties" "empties" zdg f fd) (T:Txt w K mg A) (M_Disk_stretches:GM P w K mg base true 1 A.Disk "stretches" ["self"] (zaV A fun _ d=>.int d.rows.length)) (M_Disk_next_place:GM P w K mg base true 1 A.Disk "next_place" ["self","stretch"] (zeV A)):zp P w K mg base CX0 true 2 f fd ["disk"] (zfM A):=by
 refine F.ok zrB (fun vs H Q E h=>?_) (fun cdv Ar outer s H vs Q E hr h=>?_)
 ·obtain ⟨p,wl,sl,cells,m,d,rfl,_⟩:=h;rfl
 ·obtain ⟨p,wl,sl,cells,m,d,rfl,D,hl,q⟩:=h
  have hu:_<cLine:=Nat.lt_of_succ_lt (zax hr)
  refine ⟨_,(W.h (zh (zu (zb5 (fun _=>rfl) (zaz.of zq7) (zbG rfl T.n_range (zb (zby (za 0) T.cl_Disk M_Disk_stretches hr) zc)) (fun _ _ _ _ _=>(zO (i:=0) zrR rfl (Or.inl rfl))) (fun _ _ _ _ _=>(zdf (zM (zaL hu) (zcu (za 1) T.cl_Disk M_Disk_next_place hr (zb (za 0) zc)) zj (zD _)))) (fun _ _ _ _ _=>(za 0)))))),?_⟩
  obtain ⟨dx,h1⟩:=D.ob
  simp_all only [h1,zgm]
  refine ⟨p,wl,sl,cells,m,d,rfl,D,?_⟩
  simp_all only []
  have er:((d.rows.length:Nat):Int).toNat=d.rows.length:=by omega
  rw [er]
  refine ⟨by omega,by omega,zah.rngS (zwv H p d.rows) (fun i τ ys H' I=>?_) ⟨⟨_,rfl⟩,rfl,rfl,by omega⟩ ?_ ?_⟩
  ·rw [I.ys,List.length_map]
   exact zaI (by have:=zjv d.rows i;have:=I.le;omega)
  ·intro N i τ ys H' hi I hN
   obtain ⟨t,rfl⟩:=I.ex
   have e:=I.same
   subst e
   have ej:(0+(i:Int))=((i:Nat):Int):=by omega
   simp_all only [h1,zgf,ej]
   refine ⟨p,wl,sl,cells,m,d,i,rfl,D,hi,?_⟩
   simp_all only []
   have ee:emp d.rows (i+1)=emp d.rows i++if (d.rows.getD i []).length=0 then [i] else []:=rfl
   by_cases h0:(d.rows.getD i []).length=0
   ·rw [decide_eq_true (by omega)]
    simp_all only []
    exact hN _ _ _ ⟨⟨_,rfl⟩,by rw [I.ys,ee,if_pos h0,List.map_append];rfl,rfl,by omega⟩
   ·rw [decide_eq_false (by omega)]
    simp_all only []
    exact hN _ _ _ ⟨⟨_,rfl⟩,by rw [I.ys,ee,if_neg h0,List.append_nil],rfl,by omega⟩
  ·intro τ ys H' I D2 H2 n2 ns
   have e:=I.same
   subst e
   rw [I.ys] at n2
   exact q D2 H2 n2 ns
def zhE (A:zn):Sp:=fun vs H Q _=>∃ (p wl sl:Addr) (cells:List Addr) (m:Int) (d:DM) (e:Option Nat),vs=[.ref p,ov e]∧zB A H p wl sl cells m d∧(∀ k,e=some k→k<d.rows.length)∧Q (.int (zeM d m e)) H
theorem zrv:zz ["disk","end"] ["disk","end"] (zd zdY):=⟨rfl,rfl,rfl,by decide +kernel,rfl,by decide +kernel,by decide +kernel⟩
theorem zqP {f:Addr}{fd:FuncData} (F:Fun K "free_in" "free_in" zdY f fd) (T:Txt w K mg A) (M_Disk_places:GM P w K mg base true 1 A.Disk "places" ["self"] (zaV A fun m _=>.int m)) (M_Disk_next_place:GM P w K mg base true 1 A.Disk "next_place" ["self","stretch"] (zeV A)):zp P w K mg base CX0 true 2 f fd ["disk","end"] (zhE A):=by
 refine F.ok zrv (fun vs H Q E h=>?_) (fun cdv Ar outer s H vs Q E hr h=>?_)
 ·obtain ⟨p,wl,sl,cells,m,d,e,rfl,_⟩:=h;rfl
 ·obtain ⟨p,wl,sl,cells,m,d,e,rfl,D,he,q⟩:=h
  refine ⟨_,(W.h (zh (zu (ze7 (zM zfo (za 1) zal (zD _)) zj (zK zeR (zby (za 0) T.cl_Disk M_Disk_places hr) (zcu (za 0) T.cl_Disk M_Disk_next_place hr (zb (za 1) zc))))))),?_⟩
  obtain ⟨dx,h1⟩:=D.ob
  cases e with
  | none =>
   show _
   unfold ov
   simp_all only []
   exact q
  | some k =>
   unfold ov
   simp_all only [h1,zeY,zgf]
   refine ⟨p,wl,sl,cells,m,d,rfl,D,?_⟩
   simp_all only [h1,zeY,zgf]
   refine ⟨p,wl,sl,cells,m,d,k,rfl,D,he k rfl,?_⟩
   simp_all only []
   exact q
def zgw (A:zn):Sp:=fun vs H Q E=>∃ (p wl sl:Addr) (cells:List Addr) (m:Int) (d:DM) (hot:Bool),vs=[.ref p,.bl hot]∧zB A H p wl sl cells m d∧zbt d∧((nU d).map zw).Nodup∧(nU d).length<64∧TB A H ∧
 ∀ H',zr H H'→TB A H'→(∀ k,zbB d m hot=some k→Q (.int k) H')∧(zbB d m hot=none→E (.ref A.NoRoom) none H')
theorem zgz:zz ["disk","is_hot","end","unwritten"] ["disk","is_hot"] (zd zcR):=⟨rfl,rfl,rfl,by decide +kernel,rfl,by decide +kernel,by decide +kernel⟩
theorem znT {f:Addr}{fd:FuncData} (F:Fun K "next_stretch" "next_stretch" zcR f fd) (T:Txt w K mg A) (G_end_of:GF P w K mg base true 10 "end_of" ["disk","is_hot"] (zgd A)) (G_free_in:GF P w K mg base true 2 "free_in" ["disk","end"] (zhE A)) (G_empties:GF P w K mg base true 2 "empties" ["disk"] (zfM A)):zp P w K mg base (CXW P w) true 11 f fd ["disk","is_hot"] (zgw A):=by
 refine F.okW zgz (fun vs H Q E h=>?_) (fun cdv Ar outer s H vs Q E hr h=>?_)
 ·obtain ⟨p,wl,sl,cells,m,d,hot,rfl,_⟩:=h;rfl
 ·obtain ⟨p,wl,sl,cells,m,d,hot,rfl,D,tx,nd,h64,tb,q⟩:=h
  have hu:_<cLine:=Nat.lt_of_succ_lt (zax hr)
  have Th:=zbO (cm:=true) (P:=P) (w:=w) (K:=K) (mg:=mg) (base:=base) (N:=["disk","is_hot","end","unwritten"]) (qual:="next_stretch") (scope:=zd zcR) (f:=f) (cd:=cdv) (A:=Ar) (outer:=outer) (s:=s) (H:=H) (E:=E)
  refine ⟨_,(W.h (zg (zx (i:=2) zgz.nd rfl (Or.inl rfl) (zo G_end_of hr rfl (zb (za 0) (zb (za 1) zc))))
   (zg (zN (zM zfI (zo G_free_in hr rfl (zb (za 0) (zb (za 2) zc))) zj (zD _))
   (zh (zu (za 2)))
   zU)
   (zg (zx (i:=3) zgz.nd rfl (Or.inl rfl) (zo G_empties hr rfl (zb (za 0) zc)))
   (zg (zN (zbs (zaH (za 3)))
   (zh (zcv rfl Th T.ek_NoRoom rfl T.mg_NoRoom (zb zG zc)))
   zU)
   (zh (zu (zR zQ (za 3) zj (fun _ _=>rfl))))))))),?_⟩
  simp_all only []
  refine ⟨p,wl,sl,cells,m,d,hot,rfl,D,tx,nd,h64,tb,fun H1 s1 tb1=>?_⟩
  have D1:=D.sameT s1
  simp_all only []
  refine ⟨p,wl,sl,cells,m,d,za2 d hot,rfl,D1,fun k hk=>zjL hk,?_⟩
  simp_all only []
  refine zad (fun h=>?_) (fun h=>?_)
  ·have h':zeM d m (za2 d hot)>0:=of_decide_eq_true h
   have en:zbB d m hot=za2 d hot:=by unfold zbB;rw [if_pos h']
   cases e:za2 d hot with
   | none=>rw [e] at h';exact absurd h' (by show ¬ (0:Int)>0;omega)
   | some k=>exact (q H1 s1 tb1).1 k (by rw [en,e])
  ·have h' : ¬ zeM d m (za2 d hot)>0:=fun z=>h (decide_eq_true z)
   have en:zbB d m hot=(emp d.rows d.rows.length).head?:=by unfold zbB;rw [if_neg h']
   refine ⟨p,wl,sl,cells,m,d,rfl,D1,tx.len,fun l H2 n2 _=>?_⟩
   have s2:zr H H2:=s1.trans (.of n2.same)
   have tb2:=tb1.same n2.same
   refine zpC n2.at_ ?_
   cases e:emp d.rows d.rows.length with
   | nil =>
    rw [e] at en
    show if (!(!true))=true then _ else _
    simp_all only []
    exact ⟨by decide,(q H2 s2 tb2).2 en⟩
   | cons k ks =>
    rw [e] at en n2
    have ix:atI (iv k::ks.map iv) 0=some (.int k):=zaU (j:=0) (by simp [iv])
    have hat:=n2.at_
    rw [List.map_cons] at hat
    show if (!(!false))=true then _ else _
    simp_all only [hat,ix]
    exact (q H2 s2 tb2).1 k en
end
abbrev zdw:Stmt:=top 57
abbrev zdD:Stmt:=top 58
abbrev zdX:Stmt:=top 59
abbrev zeb:Stmt:=top 60
def But (b:Addr) (H H':Hp):Prop:=∀ a o,a≠b→H a=some o→H' a=some o
theorem But.of {b:Addr}{H H':Hp} (s:zl H H'):But b H H':=fun a o _ e=>s a o e
theorem But.trans {b:Addr}{H H1 H2:Hp} (x:But b H H1) (y:But b H1 H2):But b H H2:=fun a o n e=>y a o n (x a o n e)
theorem zlQ {α:Type}{xs:List α}{i:Int} (h0:0≤i) (h1:i<xs.length):∃ v,atI xs i=some v∧v∈xs:=by
 have hn:i.toNat<xs.length:=by omega
 have z:atI xs ((i.toNat:Nat):Int)=some xs[i.toNat]:=zaU (List.getElem?_eq_getElem hn)
 rw [show ((i.toNat:Nat):Int)=i by omega] at z
 exact ⟨_,z,List.getElem_mem hn⟩
section
variable {P:Program}{w:World}{K:Frag}{mg:Str→Option Value}{base:Heap}{A:zn}
def atD (ns:List Int) (k:Int):Int:=if k<ns.length then ns.getD k.toNat 0 else 0
def ziB (K:Frag):Sp:=fun vs H Q _=>∃ (a:Addr) (ns:List Int) (k:Int),vs=[.ref a,.int k]∧SqL K H a (ns.map V.int)∧0≤k∧Q (.int (atD ns k)) H
theorem zn4:zz ["_law_script","_law_k"] ["_law_script","_law_k"] (zd zdw):=⟨rfl,rfl,rfl,by decide +kernel,rfl,by decide +kernel,by decide +kernel⟩
theorem zsQ {f:Addr}{fd:FuncData} (F:Fun K "_law_cell" "_law_cell" zdw f fd) (T:Txt w K mg A):zp P w K mg base CX0 true 1 f fd ["_law_script","_law_k"] (ziB K):=by
 refine F.ok zn4 (fun vs H Q E h=>?_) (fun cdv Ar outer s H vs Q E hr h=>?_)
 ·obtain ⟨a,ns,k,rfl,_⟩:=h;rfl
 ·obtain ⟨a,ns,k,rfl,hS,hk,q⟩:=h
  refine ⟨_,zjO (zjR (zkN zd2 (pv 1) (zlz zfA rfl T.n_len PySem.boot_len (zbI (pv 0) zbF)) (zD _))
   (ziu (zhf (zj9 zkh (pv 0) (pv 1) (fun _ _=>rfl)))) zi7) (ziu (zhf ziR)),?_⟩
  simp_all only []
  refine ⟨_,.inl hS,?_⟩
  rw [List.length_map]
  refine zad (fun h=>?_) (fun h=>?_)
  ·have h':k<(ns.length:Int):=of_decide_eq_true h
   have hn:k.toNat<ns.length:=by omega
   have e:atD ns k=ns[k.toNat]:=by unfold atD;rw [if_pos h',List.getD_eq_getElem?_getD,List.getElem?_eq_getElem hn];rfl
   refine ⟨a,ns.map V.int,k,.int (ns[k.toNat]),rfl,rfl,hS,?_,by rw [← e];exact q⟩
   have z:atI (ns.map V.int) ((k.toNat:Nat):Int)=some (.int (ns[k.toNat])):=zaU (by rw [List.getElem?_map,List.getElem?_eq_getElem hn];rfl)
   have kz:((k.toNat:Nat):Int)=k:=by omega
   rw [kz] at z;exact z
  ·have h' : ¬ k<(ns.length:Int):=fun z=>h (decide_eq_true z)
   have e:atD ns k=0:=by unfold atD;rw [if_neg h']
   rw [← e];exact q
theorem zi1 {a b:V}:atI [a,b] 0=some a:=rfl
theorem zkC {a b:V}:atI [a,b] 1=some b:=rfl
theorem zrT:ixN 2 0=some 0:=rfl
theorem znl:ixN 2 1=some 1:=rfl
structure Pot (H:Hp) (a:Addr):Prop where
 ex:∃ x y:Int,H a=some (.lst [.int x,.int y])∧0≤x∧0≤y∧y<2147483647
theorem Pot.same {H H':Hp}{a:Addr} (h:Pot H a) (s:zl H H'):Pot H' a:=let ⟨x,y,e,r⟩:=h.ex;⟨⟨x,y,s _ _ e,r⟩⟩
theorem Pot.ne {H:Hp}{a l:Addr} (h:Pot H a) (n:H l=none):l≠a:=fun z=>by
 obtain ⟨x,y,e,_⟩:=h.ex
 rw [z,e] at n;cases n
def zgZ (K:Frag):Sp:=fun vs H Q _=>∃ (a:Addr) (ns:List Int) (k:Int),vs=[.ref a,.int k]∧SqL K H a (ns.map V.int)∧0≤k∧∀ l H',zl H H'→H l=none→Pot H' l→Q (.ref l) H'
theorem zjm:zz ["_law_script","_law_k","_law_cell_here"] ["_law_script","_law_k"] (zd zdD):=⟨rfl,rfl,rfl,by decide +kernel,rfl,by decide +kernel,by decide +kernel⟩
theorem zwe {f:Addr}{fd:FuncData} (F:Fun K "_law_pot" "_law_pot" zdD f fd) (T:Txt w K mg A) (G__law_cell:GF P w K mg base true 1 "_law_cell" ["_law_script","_law_k"] (ziB K)):zp P w K mg base CX0 true 2 f fd ["_law_script","_law_k"] (zgZ K):=by
 refine F.ok zjm (fun vs H Q E h=>?_) (fun cdv Ar outer s H vs Q E hr h=>?_)
 ·obtain ⟨a,ns,k,rfl,_⟩:=h;rfl
 ·obtain ⟨a,ns,k,rfl,hS,hk,q⟩:=h
  refine ⟨_,(W.h (zg (zx (i:=2) zjm.nd rfl (Or.inl rfl) (zo G__law_cell hr rfl (zb (za 0) (zb (za 1) zc))))
   (zh (zu (zX (zb (zH (zgR rfl) rfl T.n_max boot_max (zb zj (zb (zK zeR (za 2) (zK zhV zj zj)) zc))) (zb (zK zdL (zK zaC (zK zdL (zH zrH rfl T.n_abs PyProof.Rows.boot_abs (zb (za 2) zc)) zj) (zK zdT zj (zK zaC (za 1) zj))) zj) zc))))))),?_⟩
  simp_all only []
  refine ⟨a,ns,k,rfl,hS,hk,?_⟩
  simp_all only []
  refine ⟨⟨by decide,by decide,by decide⟩,by decide,.inl ⟨by decide,by decide⟩,by decide,by decide,fun l H1 n1 _=>q l H1 n1.same n1.no ⟨⟨_,_,n1.at_,?_,?_,?_⟩⟩⟩
  ·split <;> omega
  ·omega
  ·omega
def zbD:Sp:=fun vs H Q _=>∃ (a:Addr) (m:Int),vs=[.ref a,.int m]∧Pot H a∧0<m∧m<2 ^ 64∧∀ (r:Int) H',But a H H'→Pot H' a→0≤r→r<m→Q (.int r) H'
theorem zlx:zz ["_law_pot_here","_law_many","_law_digit"] ["_law_pot_here","_law_many"] (zd zdX):=⟨rfl,rfl,rfl,by decide +kernel,rfl,by decide +kernel,by decide +kernel⟩
theorem znm {f:Addr}{fd:FuncData} (F:Fun K "_law_draw" "_law_draw" zdX f fd) (T:Txt w K mg A):zp P w K mg base CX0 true 1 f fd ["_law_pot_here","_law_many"] zbD:=by
 refine F.ok zlx (fun vs H Q E h=>?_) (fun cdv Ar outer s H vs Q E hr h=>?_)
 ·obtain ⟨a,m,rfl,_⟩:=h;rfl
 ·obtain ⟨a,m,rfl,⟨x,y,e,x0,y0,y1⟩,m0,m1,q⟩:=h
  refine ⟨_,(W.h (zg (zN (zM zfI (zR zQ (za 0) zj (fun _ _=>rfl)) zj (zD _))
   (zg (zdo (zH zrp rfl T.n_divmod boot_divmod (zb (zR zQ (za 0) zj (fun _ _=>rfl)) (zb (za 1) zc))) (zd5 (n:=2) (zau (zex (za 0) zj zem) (zau (zO (i:=2) zlx.nd rfl (Or.inl rfl)) zbL))))
   (zh (zu (za 2))))
   zU)
   (zg (zdo (zK zdL (zK zaC (zK zdT (zR zQ (za 0) zj (fun _ _=>rfl)) zj) zj) zj) (zex (za 0) zj zem))
   (zh (zu (zK zdL (zK zts (zK zdL (zK zdT (zR zQ (za 0) zj (fun _ _=>rfl)) (zR zQ (za 0) zj (fun _ _=>rfl))) zj) zj) (za 1))))))),?_⟩
  simp_all only [e,zi1,zkC]
  refine zad (fun h=>?_) (fun h=>?_)
  ·refine ⟨m0,m1,fun p H2 n2=>⟨p,_,rfl,SqT.of n2.at_,rfl,?_⟩⟩
   have e2:=n2.same _ _ e
   simp_all only [e2,zrT,zi1]
   refine q _ _ (fun c o nc ec=>by rw [ze nc];exact n2.same _ _ ec) ⟨⟨_,_,zF,Int.ediv_nonneg x0 (by omega),y0,y1⟩⟩ (Int.emod_nonneg _ (by omega)) (Int.emod_lt_of_pos _ m0)
  ·simp_all only [znl,zF,zkC]
   refine ⟨.inr ⟨by decide,by decide⟩,by decide,.inl ⟨by omega,by omega⟩,by decide,⟨by decide,by decide⟩,m0,q _ _ (fun c o nc ec=>by rw [ze nc];exact ec) ⟨⟨_,_,zF,x0,by omega,by omega⟩⟩ (Int.emod_nonneg _ (by omega)) (Int.emod_lt_of_pos _ m0)⟩
def zeX:Sp:=fun vs H Q _=>∃ (a:Addr),Pot H a∧((∃ (l:Addr) (xs:List V),vs=[.ref a,.ref l]∧l≠a∧(H l=some (.lst xs)∨H l=some (.tup xs))∧0<xs.length∧xs.length≤1000∧∀ v H',v∈xs→But a H H'→Pot H' a→Q v H') ∨
 ∃ z:Str,vs=[.ref a,.str z]∧0<z.length∧z.length≤1000∧∀ c H',c∈sg z→But a H H'→Pot H' a→Q (.str (c1 c)) H')
theorem zwm:zz ["_law_pot_here","_law_some"] ["_law_pot_here","_law_some"] (zd zeb):=⟨rfl,rfl,rfl,by decide +kernel,rfl,by decide +kernel,by decide +kernel⟩
theorem zso {f:Addr}{fd:FuncData} (F:Fun K "_law_drawn" "_law_drawn" zeb f fd) (T:Txt w K mg A) (G__law_draw:GF P w K mg base true 1 "_law_draw" ["_law_pot_here","_law_many"] zbD):zp P w K mg base CX0 true 2 f fd ["_law_pot_here","_law_some"] zeX:=by
 refine F.ok zwm (fun vs H Q E h=>?_) (fun cdv Ar outer s H vs Q E hr h=>?_)
 ·obtain ⟨a,_,⟨l,xs,rfl,_⟩|⟨z,rfl,_⟩⟩:=h <;> rfl
 ·refine ⟨_,(W.h (zh (zu (zR zQ (za 1) (zo G__law_draw hr rfl (zb (za 0) (zb (zH zaQ rfl T.n_len PySem.boot_len (zb (za 1) zc)) zc))) (fun _ _=>rfl))))),?_⟩
  obtain ⟨a,hP,⟨l,xs,rfl,ne,hl,x0,x1,q⟩|⟨z,rfl,z0,z1,q⟩⟩:=h
  ·simp_all only []
   refine ⟨xs,hl,a,_,rfl,hP,by omega,Int.lt_of_le_of_lt (show (xs.length:Int)≤1000 by omega) (by decide),fun r H' bt hP' r0 r1=>?_⟩
   obtain ⟨v,ev,hv⟩:=zlQ (xs:=xs) r0 r1
   rw [zdq]
   exact ⟨xs,hl.imp (bt _ _ ne) (bt _ _ ne),v,ev,q v H' hv bt hP'⟩
  ·simp_all only []
   refine ⟨zai (by omega),a,_,rfl,hP,by omega,Int.lt_of_le_of_lt (show (z.length:Int)≤1000 by omega) (by decide),fun r H' bt hP' r0 r1=>?_⟩
   obtain ⟨c,ec,hc⟩:=zlQ (xs:=sg z) r0 (by rw [zT];exact r1)
   rw [zgO]
   exact ⟨zai (by omega),c,ec,q c H' hc bt hP'⟩
end
abbrev OR:=Option (List V)
def za5 (H:Hp) (v:V) (o:OR):Prop:=match o with|none=>v = .non|some xs=>∃ r,v = .ref r∧H r=some (.tup xs)
structure zab (H:Hp) (sh:Addr) (shc:List Addr) (rs:List (List OR)):Prop where
 w:H sh=some (.lst (shc.map V.ref))
 len:shc.length=rs.length
 at_:∀ i c,shc[i]?=some c→∃ vs,H c=some (.lst vs)∧Paired (za5 H) vs (rs.getD i [])
 nd:(sh::shc).Nodup
theorem za5.keep {H H':Hp}{v:V}{o:OR} (h:za5 H v o) (k:∀ r xs,H r=some (.tup xs)→H' r=some (.tup xs)):za5 H' v o:=by
 cases o with
 | none=>exact h
 | some xs=>obtain ⟨r,e,h⟩:=h;exact ⟨r,e,k _ _ h⟩
theorem zab.keep {H H':Hp}{sh:Addr}{shc:List Addr}{rs:List (List OR)} (h:zab H sh shc rs) (k1:∀ r xs,H r=some (.tup xs)→H' r=some (.tup xs)) (k2:∀ b xs,b=sh∨b∈shc→H b=some (.lst xs)→H' b=some (.lst xs)):zab H' sh shc rs :=
 ⟨k2 _ _ (.inl rfl) h.w,h.len,fun i c hc=>let ⟨vs,e,p⟩:=h.at_ i c hc;⟨vs,k2 _ _ (.inr (List.mem_of_getElem? hc)) e,Paired.mapP p fun v o r=>r.keep k1⟩,h.nd⟩
theorem zab.sameT {H H':Hp}{sh:Addr}{shc:List Addr}{rs:List (List OR)} (h:zab H sh shc rs) (s:zr H H'):zab H' sh shc rs:=h.keep (fun _ _ e=>s.tup e) fun _ _ _ e=>s.list e
theorem zab.same {H H':Hp}{sh:Addr}{shc:List Addr}{rs:List (List OR)} (h:zab H sh shc rs) (s:zl H H'):zab H' sh shc rs:=h.sameT (.of s)
theorem zab.cell {H:Hp}{sh:Addr}{shc:List Addr}{rs:List (List OR)} (h:zab H sh shc rs) {k:Nat} (hk:k<rs.length):∃ c vs,shc[k]?=some c∧atI (shc.map V.ref) (k:Int)=some (.ref c)∧H c=some (.lst vs)∧Paired (za5 H) vs (rs.getD k [])∧vs.length=(rs.getD k []).length:=by
 have hk':k<shc.length:=by rw [h.len];exact hk
 obtain ⟨vs,e,p⟩:=h.at_ k _ (List.getElem?_eq_getElem hk')
 exact ⟨_,vs,List.getElem?_eq_getElem hk',zaU (by rw [List.getElem?_map,List.getElem?_eq_getElem hk'];rfl),e,p,zaR p⟩
def zap (rs:List (List OR)):Nat→List Nat
 | 0=>[]
 | i+1=>zap rs i++if (rs.getD i []).length=0 then [i] else []
theorem zfO (rows:List (List OR)):∀ i,(zap rows i).length≤i
 | 0=>Nat.le_refl _
 | i+1=>by show (zap rows i++_).length≤_;have:=zfO rows i;rw [List.length_append];split <;> simp <;> omega
abbrev zd0:Stmt:=top 69
def rO (l:List OR) (k:Nat):Nat→List Tri
 | 0=>[]
 | j+1=>rO l k j++one (l.getD j none) k j
def wO (rs:List (List OR)):Nat→List Tri
 | 0=>[]
 | i+1=>wO rs i++rO (rs.getD i []) i (rs.getD i []).length
theorem zju (l:List Tx) (k:Nat):∀ j,rIn l k j=rO (l.map rdT) k j
 | 0=>rfl
 | j+1=>by
  show rIn l k j++_=rO _ k j++_
  rw [zju l k j]
  have:(l.map rdT).getD j none=rdT (l.getD j none):=by
   rw [List.getD_eq_getElem?_getD,List.getElem?_map,List.getD_eq_getElem?_getD]
   cases l[j]? <;> rfl
  rw [this]
def rdR (rows:List (List Tx)):List (List OR):=rows.map fun r=>r.map rdT
theorem zaK (rows:List (List Tx)) (i:Nat):(rdR rows).getD i []=(rows.getD i []).map rdT:=by
 unfold rdR
 rw [List.getD_eq_getElem?_getD,List.getElem?_map,List.getD_eq_getElem?_getD]
 cases rows[i]? <;> rfl
theorem zkd (rows:List (List Tx)):∀ i,wU rows i=wO (rdR rows) i
 | 0=>rfl
 | i+1=>by
  show wU rows i++_=wO _ i++_
  rw [zkd rows i,zaK,List.length_map,zju]
theorem zfX (l:List OR) (k:Nat):∀ j,(rO l k j).length≤j
 | 0=>Nat.le_refl _
 | j+1=>by show (rO l k j++_).length≤_;have:=zfX l k j;rw [List.length_append];have:=zkT (l.getD j none) k j;omega
theorem zm9:bootBuiltins "ValueError"=some (.type "ValueError"):=by decide +kernel
section
variable {P:Program}{w:World}{K:Frag}{mg:Str→Option Value}{base:Heap}{A:zn}
structure LRc (H:Hp) (k:Nat) (l:List OR) (j:Nat) (τ:L2.St) (ys:List V) (H':Hp):Prop where
 ex:∃ t1 t2,τ=[t1,t2,some (.int (k:Nat))]
 ys:∃ as:List Addr,ys=as.map V.ref∧zaA H' as (rO l k j)
 same:zl H H'
 le:j≤32
structure zuE (H:Hp) (sh:Addr) (rs:List (List OR)) (i:Nat) (σ:L2.St) (H':Hp):Prop where
 ex:∃ fl t1 t2,σ=[some (V.ref sh),some (.ref fl),t1,t2]∧H fl=none∧∃ as:List Addr,H' fl=some (.lst (as.map V.ref))∧zaA H' as (wO rs i)
 same:zl H H'
 le:i≤16
def zj6 (rs:List (List OR)):Prop:=∀ t∈wO rs rs.length,∃ y n ys,t.1 = .str y::.int n::ys
def zeG (A:zn):Sp:=fun vs H Q _=>∃ (sh:Addr) (shc:List Addr) (rs:List (List OR)),vs=[.ref sh]∧zab H sh shc rs∧rs.length≤16∧(∀ i,(rs.getD i []).length≤32)∧zj6 rs∧((wO rs rs.length).map zw).Nodup∧(wO rs rs.length).length<64∧TB A H ∧
 ∀ l as H',zr H H'→TB A H'→H l=none→l≠sysModules→H' l=some (.lst (as.map V.ref))→zaA H' as (zae (wO rs rs.length))→Q (.ref l) H'
theorem zer:zz ["_law_shelf","_law_found","_law_stretch","_law_rows_here"] ["_law_shelf"] (zd zco):=⟨rfl,rfl,rfl,by decide +kernel,rfl,by decide +kernel,by decide +kernel⟩
theorem ztb:zaT { kind:=.function,names:=[(Str.ofString ".0",.local),(Str.ofString "_law_place",.local),(Str.ofString "_law_row_here",.local),(Str.ofString "_law_stretch",.free)],isGenerator:=false,isCoroutine:=false,more:=[] } (zd zco).names ["_law_shelf","_law_found","_law_stretch","_law_rows_here"] ["_law_place","_law_row_here","_law_stretch"] [none,none,some 2]=true:=by decide +kernel
theorem zj1:(["_law_place","_law_row_here","_law_stretch"]:List Str).Nodup:=by decide +kernel
theorem zsj {f c:Addr}{fd:FuncData} (F:Fun K "_law_rows" "_law_rows" zco f fd) (hc:fd.code = .ref c) (LB:zcY mg base (.ref c) A.t__law_rows) (T:Txt w K mg A):zp P w K mg base CX0 true 1 f fd ["_law_shelf"] (zeG A):=by
 refine F.okC hc zer (fun vs H Q E h=>?_) (fun Ar outer s H vs Q E hr h=>?_)
 ·obtain ⟨sh,shc,rs,rfl,_⟩:=h;rfl
 ·obtain ⟨sh,shc,rs,rfl,S,hl,h32,hkk,nd,h64,tb,q⟩:=h
  have hu:_<cLine:=Nat.lt_of_succ_lt (zax hr)
  refine ⟨_,(W.h (zg (zx (i:=1) zer.nd rfl (Or.inl rfl) (zX zc))
   (zg (zbl PassesOwn.never (fun _=>rfl) (ze2 rfl T.n_enumerate (zb (za 0) zc)) (zd5 (n:=2) (zau (zO (i:=2) zer.nd rfl (Or.inr rfl)) (zau (zO (i:=3) zer.nd rfl (Or.inl rfl)) zbL)))
   (zh (zx (i:=1) zer.nd rfl (Or.inl rfl) (zK zaC (za 1) (zb5 (fun _=>rfl) (zaz.of ztb) (ze2 rfl T.n_enumerate (zb (za 3) zc)) (fun _ _ _ _ _=>(zfS (n:=2) (zau (zO (i:=0) zj1 rfl (Or.inl rfl)) (zau (zO (i:=1) zj1 rfl (Or.inl rfl)) zbL)))) (fun _ _ _ _ _=>(zdf (zM zdS (za 1) zal (zD _)))) (fun _ _ _ _ _=>(zaY (zb (za 1) (zb (za 2) (zb (za 0) zc))))))))))
   (zh (zu (ziW LB hr rfl T.n_sorted (za 1) rfl rfl (fun _ _ _ _ _=>rfl) rfl rfl rfl rfl)))))),?_⟩
  simp_all only []
  refine ⟨by decide,fun fl H1 n1 _=>⟨⟨_,SqL.of (n1.same _ _ S.w)⟩,zak.enum (xs:=shc.map V.ref) (zuE H sh rs) ⟨⟨fl,_,_,rfl,n1.no,[],n1.at_,.nil⟩,n1.same,by omega⟩ (fun i σ H' _ I=>SqL.of (I.same _ _ S.w)) ?_ ?_⟩⟩
  ·rintro i x p σ H2 hx ⟨⟨fl2,t1,t2,rfl,f0,as,hf,ht⟩,sm,le⟩ hp
   rw [List.getElem?_map] at hx
   obtain ⟨cc,hcc,rfl⟩:=Option.map_eq_some_iff.mp hx
   have hi:i<rs.length:=by rw [← S.len];exact (List.getElem?_eq_some_iff.mp hcc).1
   refine ⟨p,_,rfl,SqT.of zF,rfl,?_⟩
   have nw:New H2 p (.tup [.int i,.ref cc]) (upd H2 p (.tup [.int i,.ref cc])):=.mk' hp
   generalize upd H2 p (.tup [.int i,.ref cc])=H3 at nw ⊢
   have S3:=S.same (sm.trans nw.same)
   obtain ⟨vs,hv,pv⟩:=S3.at_ i cc hcc
   have lv:=zaR pv
   have lv32:=h32 i
   have hf3:=nw.same _ _ hf
   simp_all only [hf3]
   refine ⟨⟨_,SqL.of hv⟩,zah.enum (xs:=vs) (LRc H3 i (rs.getD i [])) (fun j τ ys H' I=>?_) (fun j τ ys H' I=>SqL.of (I.same _ _ hv)) ⟨⟨_,_,rfl⟩,⟨[],rfl,.nil⟩,zl.refl _,by omega⟩ ?_ ?_⟩
   ·obtain ⟨bs,e,tl⟩:=I.ys
    have:=zaR tl
    have:=zfX (rs.getD i []) i j
    have:=I.le
    rw [e,List.length_map]
    exact zaI (by omega)
   ·intro N j x p2 τ ys H4 hx I hp2 hN
    obtain ⟨t1,t2,rfl⟩:=I.ex
    obtain ⟨bs,e,tl⟩:=I.ys
    have hj:j<(rs.getD i []).length:=by rw [← lv];exact (List.getElem?_eq_some_iff.mp hx).1
    have ho:(rs.getD i [])[j]?=some (rs.getD i [])[j]:=List.getElem?_eq_getElem hj
    have hr:=zcT pv hx ho
    have eg:(rs.getD i []).getD j none=(rs.getD i [])[j]:=by rw [List.getD_eq_getElem?_getD,ho];rfl
    generalize (rs.getD i [])[j]=o at hr eg
    refine ⟨p2,_,rfl,SqT.of zF,rfl,?_⟩
    have nw2:New H4 p2 (.tup [.int j,x]) (upd H4 p2 (.tup [.int j,x])):=.mk' hp2
    generalize upd H4 p2 (.tup [.int j,x])=H5 at nw2 ⊢
    have er:rO (rs.getD i []) i (j+1)=rO (rs.getD i []) i j++one o i j:=by
     show rO _ i j++_=_
     rw [eg]
    cases o with
    | none =>
     cases (show x=V.non from hr)
     simp_all only []
     exact hN _ _ _ ⟨⟨_,_,rfl⟩,⟨bs,e,by rw [er];exact (List.append_nil (rO (rs.getD i []) i j)).symm ▸ tl.same nw2.same⟩,I.same.trans nw2.same,by omega⟩
    | some row =>
     obtain ⟨r,rfl,hrr⟩:=hr
     simp_all only []
     refine ⟨by decide,fun p6 H6 n6=>hN _ _ _ ⟨⟨_,_,rfl⟩,⟨bs++[p6],by rw [e];simp,?_⟩,(I.same.trans nw2.same).trans n6.same,by omega⟩⟩
     rw [er]
     exact zcP (tl.same (nw2.same.trans n6.same)) (.cons ⟨r,n6.at_,n6.same _ _ (nw2.same _ _ (I.same _ _ hrr))⟩ .nil)
   ·intro τ ys H4 I D H5 n5 _
    obtain ⟨bs,e,tl⟩:=I.ys
    rw [lv] at tl
    have l1:=zaR tl
    have l2:=zfX (rs.getD i []) i (rs.getD i []).length
    have l3:=zaR ht
    have s5:zl H3 H5:=I.same.trans n5.same
    have l4:(wO rs i).length≤32*i:=by
     clear ht hf hf3 l3
     have:∀ n,n≤16→(wO rs n).length≤32*n:=fun n=>by
      induction n with
      | zero=>exact fun _=>Nat.le_refl _
      | succ n ih =>
       intro hn
       show (wO rs n++_).length≤_
       have:=ih (by omega)
       have:=zfX (rs.getD n []) n (rs.getD n []).length
       have:=h32 n
       rw [List.length_append];omega
     exact this i le
    rw [zcS]
    refine ⟨_,_,s5 _ _ hf3,n5.at_,zai (by rw [e];simp;omega),fun p6 H6 n6=>?_⟩
    refine ⟨⟨p6,_,_,rfl,?_,as++bs,by rw [n6.at_,e];simp,?_⟩,(sm.trans nw.same).trans (s5.trans n6.same),by omega⟩
    ·exact ((sm.trans nw.same).trans s5).free n6.no
    ·exact zcP (ht.same ((nw.same.trans s5).trans n6.same)) (tl.same (n5.same.trans n6.same))
  ·rintro σ H2 ⟨⟨fl2,t1,t2,rfl,f0,as,hf,ht⟩,sm,le⟩
   rw [List.length_map,S.len] at ht
   have hlen:=zaR ht
   have tb2:=tb.same sm
   simp_all only []
   refine ⟨as,hf,tb2.l,by rw [hlen];exact h64,(wO rs rs.length).map zw,zmi ht hkk,fun D2 zs H3 L3 T3 f3 ne3 ns3 e3 pz sz=>?_⟩
   have s3:zr H2 H3:=zr.lam L3 tb2.l
   have tb3:TB A H3:=⟨zgi tb2.w fun a o e h=>L3 a o (fun z=>?_) e,T3,tb2.ne⟩
   ·refine q D2 (zs.map (·.2)) H3 ((zr.of sm).trans s3) tb3 (sm.free f3) ns3 (by rw [e3,List.map_map];rfl) ((zja ht pz sz nd).sameT s3)
   ·obtain ⟨ps,hps⟩:=zjz tb2.l
    rcases h with h|h
    ·exact tb2.ne (h.symm.trans z)
    ·rw [z,hps] at e
     cases e
     exact h _ rfl
def zgX (A:zn):Sp:=fun vs H Q _=>∃ (p wl sl:Addr) (cells:List Addr) (m:Int) (d:DM) (hot:Bool),vs=[.ref p,.bl hot]∧zB A H p wl sl cells m d∧zbt d∧((nU d).map zw).Nodup∧(nU d).length<64∧TB A H ∧
 ∀ H',zr H H'→TB A H'→Q (ov (zbB d m hot)) H'
theorem zcJ:zz ["_law_disk_here","_law_is_hot","_law_told","e","_law_others","_law_more"] ["_law_disk_here","_law_is_hot"] (zd zd0):=⟨rfl,rfl,rfl,by decide +kernel,rfl,by decide +kernel,by decide +kernel⟩
theorem zqC {f:Addr}{fd:FuncData} (F:Fun K "_law_asked" "_law_asked" zd0 f fd) (T:Txt w K mg A) (G_next_stretch:GX P w K mg base true 11 "next_stretch" ["disk","is_hot"] (zgw A)):zp P w K mg base CX0 true 12 f fd ["_law_disk_here","_law_is_hot"] (zgX A):=by
 refine F.ok zcJ (fun vs H Q E h=>?_) (fun cdv Ar outer s H vs Q E hr h=>?_)
 ·obtain ⟨p,wl,sl,cells,m,d,hot,rfl,_⟩:=h;rfl
 ·obtain ⟨p,wl,sl,cells,m,d,hot,rfl,D,tx,nd,h64,tb,q⟩:=h
  refine ⟨_,(W.h (zg (zx (i:=2) zcJ.nd rfl (Or.inl rfl) zG)
   (zg (zoT (i:=3) rfl rfl ⟨rfl,rfl⟩ zcJ.nd rfl rfl T.ek_CleanError rfl T.mg_CleanError (fun pins Ex=>(zh (zx (i:=2) zcJ.nd rfl (Or.inl rfl) (zfj zfl G_next_stretch hr rfl (zb (za 0) (zb (za 1) zc)))))) (fun pins ea=>by
   have hr:=hr.mark (v:=some (.ref ea))
   exact (zg (zx (i:=4) zcJ.nd rfl (Or.inl rfl) (zH (zmb (K:=K) rfl) rfl T.n_isinstance boot_isinstance (zb (za 3) (zb (zaY (zb (zac rfl T.c_Full) (zb (zac rfl T.c_Gone) (zb (zac rfl T.c_HeldAlready) (zb (zac rfl T.c_NoDeed) (zb (zac rfl T.c_NoDisk) (zb (zac rfl T.c_NoFile) (zb (zac rfl T.c_NoFiles) (zb (zac rfl T.c_NoHouse) (zb (zac rfl T.c_NoMark) zc)))))))))) zc))))
   (zg (zx (i:=5) zcJ.nd rfl (Or.inl rfl) (zH (zmb (K:=K) rfl) rfl T.n_isinstance boot_isinstance (zb (za 3) (zb (zaY (zb (zac rfl T.c_NoPlace) (zb (zac rfl T.c_NoRow) (zb (zac rfl T.c_NotBlank) (zb (zac rfl T.c_NotClosed) (zb (zac rfl T.c_NotHeld) (zb (zac rfl T.c_Stopped) zc))))))) zc))))
   (zh (zN (zb3 (zca (zfF (K:=K) rfl (zH (zlT (K:=K) rfl) rfl T.n_isinstance boot_isinstance (zb (za 3) (zb (zac rfl T.c_NoRoom) zc)))) (zca (zfF (K:=K) rfl (zH (zlT (K:=K) rfl) rfl T.n_isinstance boot_isinstance (zb (za 3) (zb (zeN rfl T.n_ValueError zm9 (v:=.ty "ValueError") rfl) zc)))) (zca (zbs (zfF (K:=K) rfl (za 4))) (zdO (zbs (zfF (K:=K) rfl (za 5))))))))
   (zh (zx (i:=2) zcJ.nd rfl (Or.inl rfl) zal))
   zU))))))
   (zh (zu (za 2)))))),?_⟩
  unfold zho
  simp_all only []
  refine ⟨p,wl,sl,cells,m,d,hot,rfl,D,tx,nd,h64,tb,fun H1 s1 tb1=>⟨fun k hk=>?_,fun hn=>⟨_,rfl,T.ek_NoRoom,T.mro_NoRoom,fun ea oe he ho=>⟨_,rfl,by decide,fun tp H2 n2=>?_⟩⟩⟩⟩
  ·have:=q H1 s1 tb1
   rw [hk] at this
   exact this
  have he2:H2 ea=some (.frz oe (.own 0)):=n2.same _ _ zF
  refine .inr ⟨.ref ea,tp,_,[.ref A.Full,.ref A.Gone,.ref A.HeldAlready,.ref A.NoDeed,.ref A.NoDisk,.ref A.NoFile,.ref A.NoFiles,.ref A.NoHouse,.ref A.NoMark],.ref A.NoRoom,false,rfl,n2.at_,rfl,.exc he2 ho T.ec_NoRoom,?_,?_⟩
  ·simp only [kitAny,T.k_NoRoom_Full,T.k_NoRoom_Gone,T.k_NoRoom_HeldAlready,T.k_NoRoom_NoDeed,T.k_NoRoom_NoDisk,T.k_NoRoom_NoFile,T.k_NoRoom_NoFiles,T.k_NoRoom_NoHouse,T.k_NoRoom_NoMark]
  simp_all only []
  refine ⟨by decide,fun tp2 H3 n3=>?_⟩
  have he3:=n3.same _ _ he2
  refine .inr ⟨.ref ea,tp2,_,[.ref A.NoPlace,.ref A.NoRow,.ref A.NotBlank,.ref A.NotClosed,.ref A.NotHeld,.ref A.Stopped],.ref A.NoRoom,false,rfl,n3.at_,rfl,.exc he3 ho T.ec_NoRoom,?_,?_⟩
  ·simp only [kitAny,T.k_NoRoom_NoPlace,T.k_NoRoom_NoRow,T.k_NoRoom_NotBlank,T.k_NoRoom_NotClosed,T.k_NoRoom_NotHeld,T.k_NoRoom_Stopped]
  simp_all only []
  refine ⟨_,_,_,_,_,rfl,rfl,.exc he3 ho T.ec_NoRoom,T.k_NoRoom_NoRoom,?_⟩
  simp_all only []
  refine ⟨_,_,_,_,_,rfl,rfl,.exc he3 ho T.ec_NoRoom,T.k_NoRoom_ValueError,?_⟩
  simp_all only []
  have sm:zl H1 H3:=fun a o e=>n3.same _ _ (n2.same _ _ (by rw [ze (zt e he)];exact e))
  have:=q H3 (s1.trans (.of sm)) (tb1.same sm)
  rw [hn] at this
  exact this
end
theorem zlU {U:List Tri} (nd:(U.map zw).Nodup) {s t:Tri} (hs:s∈U) (ht:t∈U) (h:zw s=zw t):s=t:=by
 obtain ⟨i,hi,rfl⟩:=List.getElem_of_mem hs
 obtain ⟨j,hj,rfl⟩:=List.getElem_of_mem ht
 have:i=j:=by
  have h1:(U.map zw)[i]?=(U.map zw)[j]?:=by rw [List.getElem?_map,List.getElem?_map,List.getElem?_eq_getElem hi,List.getElem?_eq_getElem hj];simpa using h
  exact (List.getElem?_inj (by simpa using hi) nd).mp h1
 subst this;rfl
theorem zfB {l:List OR}{k:Nat}{t:Tri}:∀ {j:Nat},t∈rO l k j↔∃ i,i<j∧l.getD i none=some t.1∧t.2=(k,i)
 | 0=>by simp [rO]
 | j+1=>by
  show t∈rO l k j++one (l.getD j none) k j↔_
  rw [List.mem_append,zfB (j:=j)]
  constructor
  ·rintro (⟨i,h1,h2,h3⟩|h)
   ·exact ⟨i,by omega,h2,h3⟩
   ·cases e:l.getD j none with
    | none=>rw [e] at h;cases h
    | some row =>
     rw [e] at h
     have h:t=(row,k,j):=List.mem_singleton.mp h
     exact ⟨j,by omega,by rw [h];exact e,by rw [h]⟩
  ·rintro ⟨i,h1,h2,h3⟩
   by_cases hi:i<j
   ·exact .inl ⟨i,hi,h2,h3⟩
   ·have:i=j:=by omega
    subst this
    refine .inr ?_
    rw [h2]
    refine List.mem_singleton.mpr ?_
    rw [← h3]
theorem zbp {rs:List (List OR)}{t:Tri}:∀ {n:Nat},t∈wO rs n↔t.2.1<n∧t.2.2<(rs.getD t.2.1 []).length∧(rs.getD t.2.1 []).getD t.2.2 none=some t.1
 | 0=>by simp [wO]
 | n+1=>by
  show t∈wO rs n++rO (rs.getD n []) n (rs.getD n []).length↔_
  rw [List.mem_append,zbp (n:=n),zfB]
  constructor
  ·rintro (⟨h1,h2⟩|⟨i,h1,h2,h3⟩)
   ·exact ⟨by omega,h2⟩
   ·rw [h3];exact ⟨by simp,h1,h2⟩
  ·rintro ⟨h1,h2,h3⟩
   by_cases hn:t.2.1<n
   ·exact .inl ⟨hn,h2,h3⟩
   ·have:t.2.1=n:=by omega
    exact .inr ⟨t.2.2,by rw [← this];exact h2,by rw [← this];exact h3,by rw [← this]⟩
theorem zlV {l:List OR}{k:Nat}:∀ j,(rO l k j).Nodup
 | 0=>.nil
 | j+1=>by
  show (rO l k j++one (l.getD j none) k j).Nodup
  rw [List.nodup_append]
  refine ⟨zlV j,by cases l.getD j none <;> simp [one],fun a ha b hb e=>?_⟩
  subst e
  obtain ⟨i,h1,_,h3⟩:=zfB.mp ha
  cases eo:l.getD j none with
  | none=>rw [eo] at hb;cases hb
  | some row =>
   rw [eo] at hb
   have hb:a=(row,k,j):=List.mem_singleton.mp hb
   rw [hb] at h3
   have:j=i:=congrArg Prod.snd h3
   omega
theorem zkm {rs:List (List OR)}:∀ n,(wO rs n).Nodup
 | 0=>.nil
 | n+1=>by
  show (wO rs n++rO (rs.getD n []) n (rs.getD n []).length).Nodup
  rw [List.nodup_append]
  refine ⟨zkm n,zlV _,fun a ha b hb e=>?_⟩
  subst e
  have h1:=(zbp.mp ha).1
  obtain ⟨i,_,_,h3⟩:=zfB.mp hb
  have:a.2.1=n:=by rw [h3]
  omega
theorem zcm {α:Type}{l:List α}{k i:Nat}{x d:α} (hk:k<l.length):(l.set k x).getD i d=if i=k then x else l.getD i d:=by
 rw [List.getD_eq_getElem?_getD,List.getD_eq_getElem?_getD]
 by_cases h:i=k
 ·rw [if_pos h,h,List.getElem?_set_self hk];rfl
 ·rw [if_neg h,List.getElem?_set_ne (Ne.symm h)]
theorem ztQ {α:Type}{l m:List α}{b:Nat}{d:α} (h:b<l.length):(l++m).getD b d=l.getD b d:=by
 rw [List.getD_eq_getElem?_getD,List.getD_eq_getElem?_getD,List.getElem?_append_left h]
theorem zkf {α:Type}{l:List α}{x d:α}:(l++[x]).getD l.length d=x:=by
 rw [List.getD_eq_getElem?_getD,List.getElem?_append_right (Nat.le_refl _)];simp
theorem zrh {rs:List (List OR)}{k:Nat}{o:OR} (hk:k<rs.length) {t:Tri}:t∈wO (rs.set k (rs.getD k []++[o])) (rs.set k (rs.getD k []++[o])).length↔t∈wO rs rs.length∨(o=some t.1∧t.2=(k,(rs.getD k []).length)):=by
 obtain ⟨row,a,b⟩:=t
 rw [zbp,zbp,List.length_set,zcm hk]
 show a<rs.length∧b<List.length (if a=k then rs.getD k []++[o] else rs.getD a [])∧List.getD (if a=k then rs.getD k []++[o] else rs.getD a []) b none=some row↔_
 by_cases ha:a=k
 ·rw [if_pos ha]
  subst ha
  rw [List.length_append,List.length_singleton]
  by_cases hb:b<(rs.getD a []).length
  ·have e:(rs.getD a []++[o]).getD b none=(rs.getD a []).getD b none:=ztQ hb
   rw [e]
   constructor
   ·rintro ⟨h1,_,h3⟩;exact .inl ⟨h1,hb,h3⟩
   ·rintro (⟨h1,_,h3⟩|⟨_,h⟩)
    ·exact ⟨h1,by omega,h3⟩
    ·injection h with _ h;omega
  ·constructor
   ·rintro ⟨h1,h2,h3⟩
    have hb2:b=(rs.getD a []).length:=by omega
    rw [hb2,zkf] at h3
    exact .inr ⟨h3,by rw [hb2]⟩
   ·rintro (⟨_,h2,_⟩|⟨h1,h⟩)
    ·exact absurd h2 hb
    ·injection h with _ h
     refine ⟨hk,by omega,?_⟩
     rw [h,zkf];exact h1
 ·rw [if_neg ha]
  constructor
  ·exact fun h=>.inl h
  ·rintro (h|⟨_,h⟩)
   ·exact h
   ·injection h with h _;exact absurd h ha
theorem zxi {rs:List (List OR)}{k:Nat} (hk:k<rs.length) {t:Tri}:t∈wO (rs.set k []) (rs.set k []).length↔t∈wO rs rs.length∧t.2.1≠k:=by
 rw [zbp,zbp,List.length_set,zcm hk]
 by_cases ha:t.2.1=k
 ·rw [if_pos ha]
  constructor
  ·rintro ⟨_,h,_⟩;simp at h
  ·rintro ⟨_,h⟩;exact absurd ha h
 ·rw [if_neg ha]
  exact ⟨fun h=>⟨h,ha⟩,fun h=>h.1⟩
abbrev zd3:Stmt:=zaX (top 55) 10
section
variable {P:Program}{w:World}{K:Frag}{mg:Str→Option Value}{base:Heap}{A:zn}
theorem zvq {m:Int}{wl sl x:Addr}{d:DM}:zL "written" (.ref x) (zq m wl sl d)=zq m x sl d:=by simp only [zq,zL,zjJ,if_false,if_true]
theorem zu1 {m:Int}{wl sl x:Addr}{d:DM}:zL "at_sides" (.ref x) (zq m wl sl d)=zq m wl x d:=by simp only [zq,zL,zmg,zmc,if_false,if_true]
structure zrC (H:Hp) (rows:List (List Tx)) (i:Nat) (τ:L2.St) (ys:List V) (H':Hp):Prop where
 τ:∃ t,τ=[t]
 ex:∃ cs:List Addr,ys=cs.map V.ref∧cs.length=i∧(∀ j c,cs[j]?=some c→H' c=some (.lst ((rows.getD j []).map tv)))∧(∀ c∈cs,H c=none)∧cs.Nodup
 same:zl H H'
 le:i≤16
theorem zrY {m:Int}{wl sl:Addr}{d d':DM} (h1:d.cnt=d'.cnt) (h2:d.left=d'.left) (h3:d.st=d'.st):zq m wl sl d=zq m wl sl d':=by unfold zq;rw [h1,h2,h3]
theorem zjq:zz ["self","other"] ["self"] (zd zcn):=⟨rfl,rfl,rfl,by decide +kernel,rfl,by decide +kernel,by decide +kernel⟩
theorem zr7:zaT { kind:=.function,names:=[(Str.ofString ".0",.local),(Str.ofString "texts",.local),(Str.ofString "list",.globalImplicit)],isGenerator:=false,isCoroutine:=false,more:=[] } (zd zcn).names ["self","other"] ["texts"] [none]=true:=by decide +kernel
theorem zsw:(["texts"]:List Str).Nodup:=by decide +kernel
theorem zoe {f:Addr}{fd:FuncData} (F:Fun K "copied" "Disk.copied" zcn f fd) (T:Txt w K mg A) (M_Disk_stretches:GM P w K mg base true 1 A.Disk "stretches" ["self"] (zaV A fun _ d=>.int d.rows.length)) (G_Disk:GCX P w K mg base true 3 "Disk" A.Disk ["self","stretches","places"] (zej A)):zp P w K mg base CX0 true 5 f fd ["self"] (ziS A):=by
 refine F.ok zjq (fun vs H Q E h=>?_) (fun cdv Ar outer s H vs Q E hr h=>?_)
 ·obtain ⟨p,wl,sl,cells,m,d,rfl,_⟩:=h;rfl
 ·obtain ⟨p,wl,sl,cells,m,d,rfl,D,r3,r16,m0,m1,q⟩:=h
  obtain ⟨dx,h1⟩:=D.ob
  have Th:=zbM (X:=(zbe CX0 true P w K mg base ["self","other"] "Disk.copied" (zd zcn) f cdv Ar outer s H E).nox)
  refine ⟨_,(W.h (zg (zx (i:=1) zjq.nd rfl (Or.inl rfl) (zhG zbM G_Disk hr rfl (zb (zby (za 0) T.cl_Disk M_Disk_stretches hr) (zb (zaN T.cl_Disk T.na_Disk_width (za 0)) zc))))
   (zg (zbx T.cl_Disk T.na_Disk_written (za 1) (zb5 (fun _=>rfl) (zaz.of zr7) (zd8 (zaN T.cl_Disk T.na_Disk_written (za 0))) (fun _ _ _ _ _=>(zO (i:=0) zsw rfl (Or.inl rfl))) (fun _ _ _ _ _=>zdE) (fun _ _ _ _ _=>(zeA zlJ rfl T.n_list boot_list (zb (za 0) zc)))))
   (zg (zbx T.cl_Disk T.na_Disk_at_sides (za 1) (zeA zlJ rfl T.n_list boot_list (zb (zaN T.cl_Disk T.na_Disk_at_sides (za 0)) zc)))
   (zg (zbx T.cl_Disk T.na_Disk_counted (za 1) (zaN T.cl_Disk T.na_Disk_counted (za 0)))
   (zh (zu (za 1)))))))),?_⟩
  simp_all only [h1,zgm]
  refine ⟨p,wl,sl,cells,m,d,rfl,D,?_⟩
  simp_all only [h1,zij]
  intro x dx2 H2 n2
  refine ⟨x,dx2,d.rows.length,m,rfl,n2.at_,by omega,by omega,m0,m1,fun wl0 sl0 cells0 H3 D3 kp fr=>⟨rfl,?_⟩⟩
  have s3:zl H H3:=fun b o e=>kp b o (n2.same b o e) (zt e n2.no)
  have Dk:zB A H3 p wl sl cells m d:=D.keep (F:=[]) (zm.same s3) (fun x _ z=>nomatch z)
  obtain ⟨dx3,g3⟩:=D3.ob
  obtain ⟨dxk,gk⟩:=Dk.ob
  have px:p≠x:=zt h1 n2.no
  simp_all only [gk,zdv,zbh]
  refine ⟨⟨_,SqL.of Dk.rows.w⟩,zah.lst (xs:=cells.map V.ref) (zrC H3 d.rows) (fun i τ ys H' I=>?_) (fun i τ ys H' I=>SqL.of (I.same _ _ Dk.rows.w)) ⟨⟨_,rfl⟩,⟨[],rfl,rfl,by simp,by simp,List.nodup_nil⟩,zl.refl _,by decide⟩ ?_ ?_⟩
  ·obtain ⟨cs,e,l,_⟩:=I.ex
   rw [e,List.length_map,l]
   exact zh3 (Nat.le_trans I.le (by decide))
  ·intro N i v τ ys H' hi I hN
   obtain ⟨t,rfl⟩:=I.τ
   obtain ⟨cs,e,l,hc,hf,hcn⟩:=I.ex
   rw [List.getElem?_map] at hi
   obtain ⟨c,hci,rfl⟩:=Option.map_eq_some_iff.mp hi
   have hcc:=I.same _ _ (Dk.rows.at_ i c hci)
   have hil:i<cells.length:=(List.getElem?_eq_some_iff.mp hci).1
   simp_all only [hcc]
   intro c2 H4 n4
   refine hN _ _ _ ⟨⟨_,rfl⟩,⟨cs++[c2],by rw [e,List.map_append];rfl,by simp [l],fun j b hb=>?_,fun b hb=>?_,?_⟩,I.same.trans n4.same,by have:=Dk.rows.len;omega⟩
   ·by_cases hj:j<cs.length
    ·rw [List.getElem?_append_left hj] at hb
     exact n4.same _ _ (hc j b hb)
    ·have hjl:j<(cs++[c2]).length:=(List.getElem?_eq_some_iff.mp hb).1
     have hj2:j=cs.length:=by rw [List.length_append] at hjl;simp at hjl;omega
     rw [hj2,List.getElem?_append_right (Nat.le_refl _)] at hb
     simp at hb
     subst hb
     rw [hj2,l]
     exact n4.at_
   ·rcases List.mem_append.mp hb with hb|hb
    ·exact hf b hb
    ·rw [List.mem_singleton] at hb;subst hb;exact I.same.free n4.no
   ·refine List.nodup_append.mpr ⟨hcn,by simp,fun a ha b hb=>?_⟩
    rw [List.mem_singleton] at hb
    subst hb
    obtain ⟨j,hj⟩:=List.getElem?_of_mem ha
    exact zt (hc j a hj) n4.no
  ·intro τ ys H4 I W H5 nW
   obtain ⟨cs,e,l,hc,hf,hcn⟩:=I.ex
   rw [List.length_map] at l
   have s35:zl H3 H5:=I.same.trans nW.same
   have g5:=s35 _ _ g3
   have k5:=s35 _ _ gk
   have w5:=nW.at_
   rw [e] at w5
   have sl5:(upd H5 x (.ins A.Disk dx3 (zq m W sl0 (DM.new d.rows.length)))) sl=some (.lst (d.sides.map tv)):=by
    rw [ze (zt D.sides n2.no)];exact s35 _ _ Dk.sides
   have ob5:(upd H5 x (.ins A.Disk dx3 (zq m W sl0 (DM.new d.rows.length)))) p=some (.ins A.Disk dxk (zq m wl sl d)):=by rw [ze px];exact k5
   have e0:(d.rows.length:Int).toNat=d.rows.length:=by omega
   rw [e0] at g5
   simp_all only [g5,zvq,zeO,ob5,zjM,sl5]
   intro S H6 n6
   have x6:H6 x=some (.ins A.Disk dx3 (zq m W sl0 (DM.new d.rows.length))):=n6.same _ _ zF
   have p6:=n6.same _ _ ob5
   have p7:(upd H6 x (.ins A.Disk dx3 (zq m W S (DM.new d.rows.length)))) p=some (.ins A.Disk dxk (zq m wl sl d)):=by rw [ze px];exact p6
   simp_all only [x6,zu1,zeO,p7,zfT,zF,zhN,zcI]
   have xW:x≠W:=zt (I.same _ _ g3) nW.no
   have xS:x≠S:=zt zF n6.no
   have WS:W≠S:=zt (show (upd H5 x (.ins A.Disk dx3 (zq m W sl0 (DM.new d.rows.length)))) W=some _ by rw [ze (Ne.symm xW)];exact w5) n6.no
   have csx:∀ c∈cs,c≠x:=fun c hcm=>Ne.symm (zt g3 (hf c hcm))
   have csat:∀ c∈cs,∃ o,H5 c=some o:=fun c hcm=>by
    obtain ⟨j,hj⟩:=List.getElem?_of_mem hcm
    exact ⟨_,nW.same _ _ (hc j c hj)⟩
   have csW:∀ c∈cs,c≠W:=fun c hcm=>by
    obtain ⟨j,hj⟩:=List.getElem?_of_mem hcm
    exact zt (hc j c hj) nW.no
   have csS:∀ c∈cs,c≠S:=fun c hcm=>by
    obtain ⟨o,ho⟩:=csat c hcm
    exact zt (show (upd H5 x (.ins A.Disk dx3 (zq m W sl0 (DM.new d.rows.length)))) c=some o by rw [ze (csx c hcm)];exact ho) n6.no
   have up:∀ b o,b≠x→H5 b=some o→H6 b=some o:=fun b o hb h=>n6.same _ _ (by rw [ze hb];exact h)
   have Sn:H S=none:=s3.free (s35.free (by have z:=n6.no;rw [ze (Ne.symm xS)] at z;exact z))
   refine q x W S cs _ ⟨⟨dx3,?_⟩,⟨?_,?_,fun i c hi=>?_⟩,?_,?_⟩ (fun b o hb=>?_) (fun b hb=>?_)
   ·exact zF.trans (congrArg (fun l=>some (HO.ins A.Disk dx3 l)) (zrY (d':=d.copy) rfl rfl rfl))
   ·rw [ze (Ne.symm xW)];exact up _ _ (Ne.symm xW) w5
   ·rw [l];exact Dk.rows.len
   ·have hcm:=List.mem_of_getElem? hi
    rw [ze (csx c hcm)]
    exact up _ _ (csx c hcm) (nW.same _ _ (hc i c hi))
   ·rw [ze (Ne.symm xS)];exact n6.at_
   ·simp only [List.nodup_cons,List.mem_cons,not_or]
    exact ⟨⟨xW,xS,fun z=>csx x z rfl⟩,⟨WS,fun z=>csW W z rfl⟩,fun z=>csS S z rfl,hcn⟩
   ·have hbx:b≠x:=zt hb n2.no
    rw [ze hbx]
    exact up _ _ hbx (s35 _ _ (s3 _ _ hb))
   ·simp only [List.mem_cons] at hb
    rcases hb with rfl|rfl|rfl|hb
    ·exact n2.no
    ·exact s3.free (I.same.free nW.no)
    ·exact Sn
    ·exact s3.free (hf b hb)
def DM.stop (d:DM) (x:Int):DM:={ d with left:=some x }
def zga (A:zn):Sp:=fun vs H Q _=>∃ (p wl sl:Addr) (cells:List Addr) (m:Int) (d:DM) (x:Int),vs=[.ref p,.int x]∧zB A H p wl sl cells m d∧∀ H',zB A H' p wl sl cells m (d.stop x)→zm [p] H H'→Q .non H'
theorem znQ:zz ["self","many"] ["self","many"] (zd zd3):=⟨rfl,rfl,rfl,by decide +kernel,rfl,by decide +kernel,by decide +kernel⟩
theorem zsN {f:Addr}{fd:FuncData}{cm:Bool} (F:Fun K "stop" "Disk.stop" zd3 f fd) (T:Txt w K mg A):zp P w K mg base CX0 cm 1 f fd ["self","many"] (zga A):=by
 refine F.ok znQ (fun vs H Q E h=>?_) (fun cdv Ar outer s H vs Q E hr h=>?_)
 ·obtain ⟨p,wl,sl,cells,m,d,x,rfl,_⟩:=h;rfl
 ·obtain ⟨p,wl,sl,cells,m,d,x,rfl,D,q⟩:=h
  obtain ⟨dx,h1⟩:=D.ob
  refine ⟨_,(W.h (zh (zbx T.cl_Disk T.na_Disk_left (za 0) (za 1)))),?_⟩
  simp_all only [h1,ziL]
  exact ⟨zeO,q _ (D.obj (d':=d.stop x) rfl rfl) (zm.upd (by simp))⟩
end
def Fr (H:Hp) (l:Addr):Prop:=∀ o,(∀ ps,o≠.tbl ps)→H l≠some o
theorem Fr.back {H H':Hp}{l:Addr} (s:zr H H') (h:Fr H' l):Fr H l:=fun o no e=>h o no (s _ _ no e)
theorem Fr.lst {H:Hp}{l a:Addr}{xs:List V} (h:Fr H l) (e:H a=some (.lst xs)):l≠a:=fun z=>h (.lst xs) (fun ps q=>by cases q) (by rw [z];exact e)
abbrev zcC:Stmt:=top 67
abbrev zc5:Stmt:=top 68
def fnd (ts:List Tri) (hot:Bool):Nat→List Nat
 | 0=>[]
 | i+1=>fnd ts hot i++match ts[i]? with|some t=>if zbm t=hot then [t.2.1] else []|none=>[]
theorem zhL (ts:List Tri) (hot:Bool):∀ i,(fnd ts hot i).length≤i
 | 0=>Nat.le_refl _
 | i+1=>by
  show (fnd ts hot i++_).length≤_
  have:=zhL ts hot i
  rw [List.length_append]
  split
  ·split <;> simp <;> omega
  ·simp;omega
theorem zhe (ts:List Tri) (hot:Bool):∀ i,(fnd ts hot i).getLast?=zbg ts hot i
 | 0=>rfl
 | i+1=>by
  show (fnd ts hot i++match ts[i]? with|some t=>if zbm t=hot then [t.2.1] else []|none=>[]).getLast?=match ts[i]? with|some t=>if zbm t=hot then some t.2.1 else zbg ts hot i|none=>zbg ts hot i
  cases ts[i]? with
  | none=>simp [zhe ts hot i]
  | some t =>
   by_cases h:zbm t=hot
   ·simp [h]
   ·simp [h,zhe ts hot i]
noncomputable def za0 (rs:List (List OR)) (hot:Bool):Option Nat:=zbg (zae (wO rs rs.length)) hot (zae (wO rs rs.length)).length
theorem zlH {rs:List (List OR)}{hot:Bool}{k:Nat} (h:za0 rs hot=some k):k<rs.length:=by
 obtain ⟨t,ht,rfl⟩:=zfg h
 exact (zbp.mp ((zb7 _).mem_iff.mp ht)).1
def zbE (rs:List (List OR)) (m:Int) (e:Option Nat):Option Nat:=match e with
 | some k=>if ((rs.getD k []).length:Int)<m then some k else (zap rs rs.length).head?
 | none=>(zap rs rs.length).head?
structure zgI (rs:List (List OR)):Prop where
 len:rs.length≤16
 wide:∀ i,(rs.getD i []).length≤32
 keys:zj6 rs
 nd:((wO rs rs.length).map zw).Nodup
 few:(wO rs rs.length).length<64
section
variable {P:Program}{w:World}{K:Frag}{mg:Str→Option Value}{base:Heap}{A:zn}
structure zva (H1:Hp) (hot:Bool) (ts:List Tri) (i:Nat) (τ:L2.St) (ys:List V) (H':Hp):Prop where
 ex:∃ t1,τ=[t1,some (V.bl hot)]
 ys:ys=(fnd ts hot i).map iv
 same:H'=H1
 le:i≤ts.length
def zfP (A:zn):Sp:=fun vs H Q _=>∃ (sh:Addr) (shc:List Addr) (rs:List (List OR)) (hot:Bool),vs=[.ref sh,.bl hot]∧zab H sh shc rs∧zgI rs∧TB A H∧∀ H',zr H H'→TB A H'→Q (ov (za0 rs hot)) H'
theorem zjW:zz ["_law_shelf","_law_is_hot","_law_found"] ["_law_shelf","_law_is_hot"] (zd zcC):=⟨rfl,rfl,rfl,by decide +kernel,rfl,by decide +kernel,by decide +kernel⟩
theorem znp:zaT { kind:=.function,names:=[(Str.ofString ".0",.local),(Str.ofString "_law_one",.local),(Str.ofString "_law_is_hot",.free)],isGenerator:=false,isCoroutine:=false,more:=[] } (zd zcC).names ["_law_shelf","_law_is_hot","_law_found"] ["_law_one","_law_is_hot"] [none,some 1]=true:=by decide +kernel
theorem zvt:(["_law_one","_law_is_hot"]:List Str).Nodup:=by decide +kernel
theorem zqX {f:Addr}{fd:FuncData} (F:Fun K "_law_end" "_law_end" zcC f fd) (T:Txt w K mg A) (G__law_rows:GF P w K mg base true 1 "_law_rows" ["_law_shelf"] (zeG A)):zp P w K mg base CX0 true 2 f fd ["_law_shelf","_law_is_hot"] (zfP A):=by
 refine F.ok zjW (fun vs H Q E h=>?_) (fun cdv Ar outer s H vs Q E hr h=>?_)
 ·obtain ⟨sh,shc,rs,hot,rfl,_⟩:=h;rfl
 ·obtain ⟨sh,shc,rs,hot,rfl,S,ok,tb,q⟩:=h
  have hu:_<cLine:=Nat.lt_of_succ_lt (zax hr)
  refine ⟨_,(W.h (zg (ze8 (i0:=2) zjW.nd rfl (Or.inl rfl) (fun _=>rfl) (zaz.of znp) (zd8 (zo G__law_rows hr rfl (zb (za 0) zc))) (fun _ _ _ _ _=>(zO (i:=0) zvt rfl (Or.inl rfl))) (fun _ _ _ _ _=>(zdf (zM (zaL hu) (zba (zbW hu) (zR zQ (zR zQ (za 0) zj (fun _ _=>rfl)) zj (fun _ _=>rfl)) zG (zD _)) (za 1) (zD _)))) (fun _ _ _ _ _=>(zR zQ (za 0) zj (fun _ _=>rfl))))
   (zg (zN (zM (zgh hu) (za 2) (zX zc) (zD _))
   (zh (zu zal))
   zU)
   (zh (zu (zR zQ (za 2) (ziD ziG zj) (fun _ _=>rfl))))))),?_⟩
  simp_all only []
  refine ⟨sh,shc,rs,rfl,S,ok.len,ok.wide,ok.keys,ok.nd,ok.few,tb,fun l as H1 s1 tb1 ln _ hl ht=>?_⟩
  have hlen:=zaR ht
  have h64:(zae (wO rs rs.length)).length<64:=by rw [(zb7 _).length_eq];exact ok.few
  have hkk:∀ t∈zae (wO rs rs.length),∃ y n ys,t.1 = .str y::.int n::ys:=fun t h=>ok.keys t ((zb7 _).mem_iff.mp h)
  unfold za0 at q
  generalize zae (wO rs rs.length)=ts at hlen h64 hkk ht q
  simp_all only []
  refine ⟨⟨_,SqL.of hl⟩,zah.lst (xs:=as.map V.ref) (zva H1 hot ts) (fun i τ ys H' I=>?_) (fun i τ ys H' I=>by rw [I.same];exact SqL.of hl) ⟨⟨_,rfl⟩,rfl,rfl,by omega⟩ ?_ ?_⟩
  ·rw [I.ys,List.length_map]
   exact zaI (by have:=zhL ts hot i;have:=I.le;omega)
  ·intro N i x τ ys H' hx I hN
   obtain ⟨t1,rfl⟩:=I.ex
   have e:=I.same
   subst e
   rw [List.getElem?_map] at hx
   obtain ⟨a,ha,rfl⟩:=Option.map_eq_some_iff.mp hx
   have hi:i<ts.length:=by rw [← hlen];exact (List.getElem?_eq_some_iff.mp ha).1
   have hti:ts[i]?=some ts[i]:=List.getElem?_eq_getElem hi
   have htm:=List.getElem_mem hi
   generalize ts[i]=t at hti htm
   obtain ⟨r,e1,e2⟩:=zcT ht ha hti
   obtain ⟨y,n,zs,et⟩:=hkk _ htm
   rw [et] at e2
   have i0:atI [V.ref r,V.int t.2.1,V.int t.2.2] 0=some (V.ref r):=rfl
   have i1:atI [V.ref r,V.int t.2.1,V.int t.2.2] 1=some (V.int t.2.1):=rfl
   have i2:atI (V.str y::V.int n::zs) 0=some (V.str y):=zaU (j:=0) (by simp)
   have eh:zbm t = !decide (y=("carry":Str)):=by unfold zbm;rw [et]
   have ef:fnd ts hot (i+1)=fnd ts hot i++if zbm t=hot then [t.2.1] else []:=by
    show fnd ts hot i++(match ts[i]? with|some t=>_|none=>_)=_
    rw [hti]
   simp_all only [e1,e2,i0,i1,i2]
   rw [← eh]
   by_cases hh:zbm t=hot
   ·rw [decide_eq_true hh]
    simp_all only [e1,i1]
    exact hN _ _ _ ⟨⟨_,rfl⟩,by rw [I.ys,ef,if_pos hh,List.map_append];rfl,rfl,by omega⟩
   ·rw [decide_eq_false hh]
    simp_all only []
    exact hN _ _ _ ⟨⟨_,rfl⟩,by rw [I.ys,ef,if_neg hh,List.append_nil],rfl,by omega⟩
  ·intro τ ys H' I D2 H4 n4
   have e:=I.same
   subst e
   have hys:=I.ys
   rw [List.length_map,hlen] at hys
   rw [hys] at n4
   have hl4:=n4.at_
   have q2:∀ H5,zl H' H5→Q (ov (fnd ts hot ts.length).getLast?) H5:=fun H5 s5=>by rw [zhe];exact q H5 (s1.trans (.of s5)) (tb1.same s5)
   have fl:=zhL ts hot ts.length
   generalize fnd ts hot ts.length=zs at q2 fl hl4
   simp_all only []
   refine ⟨Nat.zero_le _,fun pl H5 n5 _=>⟨_,n5.same _ _ hl4,_,n5.at_,.inr rfl,?_⟩⟩
   rw [List.length_map]
   have fin2:=q2 H5 (n4.same.trans n5.same)
   rcases List.eq_nil_or_concat zs with rfl|⟨zs',z,ez⟩
   ·exact fin2
   ·rw [List.concat_eq_append] at ez
    subst ez
    rw [decide_eq_false (by simp)]
    rw [List.getLast?_concat] at fin2
    rw [List.map_append] at hl4
    exact ⟨_,.inl (n5.same _ _ hl4),_,zjp _ _,fin2⟩
structure zmH (H:Hp) (shc:List Addr) (rs:List (List OR)) (i:Nat) (τ:L2.St) (ys:List V) (H':Hp):Prop where
 ex:∃ t1 t2,τ=[t1,t2]
 ys:ys=(zap rs i).map iv
 same:zl H H'
 le:i≤16
theorem ziA {H:Hp}{sh:Addr}{shc:List Addr}{rs:List (List OR)}{Q':VK} (S:zab H sh shc rs) (hl:rs.length≤16) (q:∀ l H',zl H H'→H l=none→l≠sysModules→H' l=some (.lst ((zap rs rs.length).map iv))→Q' (.ref l) H') :
  zah (Ite K sh) (zeB K 2 (zeU (zbC 0) (zeU (zbC 1) zfy))) (zfh (tOp (zgb false) (zdb 1) (zfq zbv))) (zdb 0) [none,none] H Q':=by
 refine zah.enum (xs:=shc.map V.ref) (zmH H shc rs) (fun i τ ys H' I=>?_) (fun i τ ys H' I=>SqL.of (I.same _ _ S.w)) ⟨⟨_,_,rfl⟩,rfl,zl.refl _,by omega⟩ ?_ ?_
 ·rw [I.ys,List.length_map]
  exact zaI (by have:=zfO rs i;have:=I.le;omega)
 ·intro N i x p τ ys H' hx I hp hN
  obtain ⟨t1,t2,rfl⟩:=I.ex
  rw [List.getElem?_map] at hx
  obtain ⟨c,hc,rfl⟩:=Option.map_eq_some_iff.mp hx
  have hi:i<rs.length:=by rw [← S.len];exact (List.getElem?_eq_some_iff.mp hc).1
  obtain ⟨vs,hv,pv⟩:=S.at_ i c hc
  have lv:=zaR pv
  refine ⟨p,_,rfl,SqT.of zF,rfl,?_⟩
  have nw:New H' p (.tup [.int i,.ref c]) (upd H' p (.tup [.int i,.ref c])):=.mk' hp
  generalize upd H' p (.tup [.int i,.ref c])=H0 at nw ⊢
  simp_all only []
  refine ⟨Nat.zero_le _,fun pl H2 n2 _=>⟨_,n2.same _ _ (nw.same _ _ (I.same _ _ hv)),_,n2.at_,.inr rfl,?_⟩⟩
  have ee:zap rs (i+1)=zap rs i++if (rs.getD i []).length=0 then [i] else []:=rfl
  have sm:=(I.same.trans nw.same).trans n2.same
  by_cases h0:(rs.getD i []).length=0
  ·rw [decide_eq_true (by rw [lv];exact h0)]
   simp_all only []
   exact hN _ _ _ ⟨⟨_,_,rfl⟩,by rw [I.ys,ee,if_pos h0,List.map_append];rfl,sm,by omega⟩
  ·rw [decide_eq_false (by rw [lv];exact h0)]
   simp_all only []
   exact hN _ _ _ ⟨⟨_,_,rfl⟩,by rw [I.ys,ee,if_neg h0,List.append_nil],sm,by omega⟩
 ·intro τ ys H' I D2 H2 n2 ns
  rw [List.length_map,S.len] at I
  rw [I.ys] at n2
  exact q D2 H2 (I.same.trans n2.same) (I.same.free n2.no) ns n2.at_
theorem zrn {rs:List (List OR)}{l:List Nat}:∃ v,atI (l.map iv++[V.non]) 0=some v∧v=ov l.head?:=by
 cases l with
 | nil=>exact ⟨.non,zaU (j:=0) (by simp),rfl⟩
 | cons k ks=>exact ⟨.int k,zaU (j:=0) (by simp [iv]),rfl⟩
def zgp (A:zn):Sp:=fun vs H Q _=>∃ (sh:Addr) (shc:List Addr) (rs:List (List OR)) (m:Int) (hot:Bool),vs=[.ref sh,.int m,.bl hot]∧zab H sh shc rs∧zgI rs∧TB A H∧∀ H',zr H H'→TB A H'→Q (ov (zbE rs m (za0 rs hot))) H'
theorem zi9:zz ["_law_shelf","_law_places","_law_is_hot","_law_end_here"] ["_law_shelf","_law_places","_law_is_hot"] (zd zc5):=⟨rfl,rfl,rfl,by decide +kernel,rfl,by decide +kernel,by decide +kernel⟩
theorem zn2:zaT { kind:=.function,names:=[(Str.ofString ".0",.local),(Str.ofString "_law_k",.local),(Str.ofString "_law_rows_here",.local)],isGenerator:=false,isCoroutine:=false,more:=[] } (zd zc5).names ["_law_shelf","_law_places","_law_is_hot","_law_end_here"] ["_law_k","_law_rows_here"] [none,none]=true:=by decide +kernel
theorem zl4:(["_law_k","_law_rows_here"]:List Str).Nodup:=by decide +kernel
theorem zty {f:Addr}{fd:FuncData} (F:Fun K "_law_goes_to" "_law_goes_to" zc5 f fd) (T:Txt w K mg A) (G__law_end:GF P w K mg base true 2 "_law_end" ["_law_shelf","_law_is_hot"] (zfP A)):zp P w K mg base CX0 true 3 f fd ["_law_shelf","_law_places","_law_is_hot"] (zgp A):=by
 refine F.ok zi9 (fun vs H Q E h=>?_) (fun cdv Ar outer s H vs Q E hr h=>?_)
 ·obtain ⟨sh,shc,rs,m,hot,rfl,_⟩:=h;rfl
 ·obtain ⟨sh,shc,rs,m,hot,rfl,S,ok,tb,q⟩:=h
  have hu:_<cLine:=Nat.lt_of_succ_lt (zax hr)
  have hl:=ok.len
  refine ⟨_,(W.h (zg (zx (i:=3) zi9.nd rfl (Or.inl rfl) (zo G__law_end hr rfl (zb (za 0) (zb (za 2) zc))))
   (zg (zN (zb3 (zca (zM zdS (za 3) zal (zD _)) (zdO (zM zd2 (zH zaQ rfl T.n_len PySem.boot_len (zb (zR zQ (za 0) (za 3) (fun _ _=>rfl)) zc)) (za 1) (zD _)))))
   (zh (zu (za 3)))
   zU)
   (zh (zu (zR zQ (zK zaC (zb5 (fun _=>rfl) (zaz.of zn2) (ze2 rfl T.n_enumerate (zb (za 0) zc)) (fun _ _ _ _ _=>(zfS (n:=2) (zau (zO (i:=0) zl4 rfl (Or.inl rfl)) (zau (zO (i:=1) zl4 rfl (Or.inl rfl)) zbL)))) (fun _ _ _ _ _=>(zdf (zM (zgh hu) (za 1) (zX zc) (zD _)))) (fun _ _ _ _ _=>(za 0))) (zX (zb zal zc))) zj (fun _ _=>rfl))))))),?_⟩
  simp_all only []
  refine ⟨sh,shc,rs,hot,rfl,S,ok,tb,fun H1 s1 tb1=>?_⟩
  have S1:=S.sameT s1
  have fin:zbE rs m (za0 rs hot)=(zap rs rs.length).head?→∀ l H2,zl H1 H2→H2 l=some (.lst ((zap rs rs.length).map iv))→1≤sizeLine∧∀ (p:Addr) (H3:Hp),New H2 p (HO.lst [V.non]) H3→p≠sysModules→za8 (.ref l) (V.ref p) H3 fun x H1=>uIx x (V.int 0) H1 Q:=fun hd l H2 s2 h2=>⟨by decide,fun p2 H3 n3 _=>by
   rw [zcS]
   refine ⟨_,_,n3.same _ _ h2,n3.at_,zai (by have:=zfO rs rs.length;simp;omega),fun p3 H4 n4=>?_⟩
   rw [zdq]
   obtain ⟨v,hv,ev⟩:=zrn (rs:=rs) (l:=zap rs rs.length)
   refine ⟨_,.inl n4.at_,v,hv,?_⟩
   rw [ev,← hd]
   have sm:=(s2.trans n3.same).trans n4.same
   exact q H4 (s1.trans (.of sm)) (tb1.same sm)⟩
  cases he:za0 rs hot with
  | none =>
   have hd:zbE rs m (za0 rs hot)=(zap rs rs.length).head?:=by rw [he];rfl
   unfold ov
   simp_all only []
   exact ⟨⟨_,SqL.of S1.w⟩,ziA S1 hl fun l H' s' _ _ h'=>fin hd l H' s' h'⟩
  | some k =>
   obtain ⟨c,vs,hc,ha,hv,pv,lv⟩:=S1.cell (zlH he)
   have hw:=S1.w
   unfold ov
   simp_all only [hw,ha,hv]
   rw [lv]
   refine zad (fun h=>?_) (fun h=>?_)
   ·have:=q H1 s1 tb1
    have hd:zbE rs m (some k)=some k:=if_pos (of_decide_eq_true h)
    rw [he,hd] at this
    exact this
   ·have hd:zbE rs m (za0 rs hot)=(zap rs rs.length).head?:=by
     rw [he];unfold zbE
     exact if_neg fun z=>h (decide_eq_true z)
    exact ⟨⟨_,SqL.of S1.w⟩,ziA S1 hl fun l H' s' _ _ h'=>fin hd l H' s' h'⟩
end
structure GD (d:PyData) (dp wt:Nat):Prop where
 sh:d.showable=true
 dep:d.depth≤dp
 lv:d.leavesShort 20=true
 wt:d.weight≤wt
theorem zf7 {i:Int} (h0:0≤i) (h1:i<10 ^ 18):GD (.int i) 0 64:=by
 have hb:i.natAbs<2 ^ 60:=by omega
 refine ⟨?_,Nat.le_refl _,?_,?_⟩
 ·simp only [PyData.showable];exact decide_eq_true (zfs (by omega))
 ·simp only [PyData.leavesShort,PyData.shown]
  have:=zhx h0 h1
  exact decide_eq_true (by first|exact Nat.le_trans this (by decide)|omega)
 ·simp only [PyData.weight]
  split
  ·omega
  ·rename_i hz
   have:i.natAbs.log2<60:=(Nat.log2_lt (by intro z;exact hz (by simp;omega))).mpr hb
   omega
theorem zjy {z:Str} (ha:asc z=true) (hl:z.length≤20):GD (.str z) 0 64:=by
 refine ⟨by simp only [PyData.showable],Nat.le_refl _,?_,?_⟩
 ·simp only [PyData.leavesShort]
  rw [List.all_eq_true]
  exact fun c hc=>decide_eq_true (by have:=zp9 ha (c:=c) hc;omega)
 ·simp only [PyData.weight]
  have:z.cps.size≤20:=hl
  omega
theorem zuK {b:Bool}:GD (.bool b) 0 64:=⟨by simp only [PyData.showable],Nat.le_refl _,by simp only [PyData.leavesShort],by simp only [PyData.weight];omega⟩
theorem zlN {ds:List PyData}{dp wt:Nat} (h:∀ d∈ds,GD d dp wt):PyData.showableAll ds=true∧PyData.depthAll ds≤dp∧PyData.leavesShortAll 20 ds=true∧PyData.weightAll ds≤ds.length*(wt+1):=by
 induction ds with
 | nil=>exact ⟨by simp only [PyData.showableAll],by simp only [PyData.depthAll];omega,by simp only [PyData.leavesShortAll],by simp [PyData.weightAll]⟩
 | cons d ds ih =>
  obtain ⟨i1,i2,i3,i4⟩:=ih fun x hx=>h x (List.mem_cons_of_mem _ hx)
  have g:=h d (List.mem_cons_self ..)
  refine ⟨by simp only [PyData.showableAll];rw [g.sh,i1];rfl,by simp only [PyData.depthAll];exact Nat.max_le.mpr ⟨g.dep,i2⟩,by simp only [PyData.leavesShortAll];rw [g.lv,i3];rfl,?_⟩
  simp only [PyData.weightAll]
  have:=g.wt
  rw [List.length_cons,Nat.add_mul]
  omega
theorem zlo {ds:List PyData}{dp wt:Nat} (h:∀ d∈ds,GD d dp wt):GD (.tuple ds) (dp+1) (ds.length*(wt+1)):=by
 obtain ⟨i1,i2,i3,i4⟩:=zlN h
 exact ⟨by simp only [PyData.showable];exact i1,by simp only [PyData.depth];omega,by simp only [PyData.leavesShort];exact i3,by simp only [PyData.weight];exact i4⟩
theorem zj0 {ds:List PyData}{dp wt:Nat} (h:∀ d∈ds,GD d dp wt):GD (.list ds) (dp+1) (ds.length*(wt+1)):=by
 obtain ⟨i1,i2,i3,i4⟩:=zlN h
 exact ⟨by simp only [PyData.showable];exact i1,by simp only [PyData.depth];omega,by simp only [PyData.leavesShort];exact i3,by simp only [PyData.weight];exact i4⟩
theorem GD.mono {d:PyData}{dp wt wt':Nat}{dp':Nat} (h:GD d dp wt) (h1:dp≤dp') (h2:wt≤wt'):GD d dp' wt':=⟨h.sh,Nat.le_trans h.dep h1,h.lv,Nat.le_trans h.wt h2⟩
theorem zj8 {A':Around}{H:Hp}{l:Addr}{d:PyData}{Q:VK}{dp wt:Nat} (hd:za1 H (.ref l) d) (g:GD d dp wt) (h1:dp≤10) (h2:wt≤45200) (hu:A'.units+64<cLine) (q:Q (.str d.shown) H):zeC A' [.ref l] H Q:=by
 refine .inl ⟨l,d,rfl,hd,g.sh,by have:=g.dep;omega,?_,q⟩
 have:=PyData.shown_le 20 (by decide) d g.lv
 have:=g.wt
 exact zai (by omega)
def zbZ:V→PyData | .int i=>.int i | .str z=>.str z | .bl b=>.bool b|_=>.none
def ze5 (t:Tri):PyData:=.tuple [.tuple (t.1.map zbZ),.int t.2.1,.int t.2.2]
def zqe (ts:List Tri):PyData:=.list (ts.map ze5)
def zrj (l:List Nat):PyData:=.list (l.map fun n:Nat=>.int (n:Int))
theorem zlf {H:Hp}:∀ {l:List Nat},(∀ n∈l,n<1000)→za9 H (l.map iv) (l.map fun n:Nat=>.int (n:Int))∧∀ d∈l.map (fun n:Nat=>PyData.int (n:Int)),GD d 0 64
 | [],_=>⟨.nil,by simp⟩
 | n::l,h=>by
  obtain ⟨b1,b2⟩:=zlf (H:=H) fun t ht=>h t (List.mem_cons_of_mem _ ht)
  refine ⟨.cons (.int _) b1,fun d hd=>?_⟩
  rcases List.mem_cons.mp hd with rfl|hd
  ·exact zf7 (by omega) (by have:=h n (List.mem_cons_self ..);omega)
  ·exact b2 d hd
theorem zlk {A':Around}{H:Hp}{l:Addr}{ns:List Nat}{Q:VK} (nsy:l≠sysModules) (hl:H l=some (.lst (ns.map iv))) (ok:∀ n∈ns,n<1000) (len:ns.length≤16) (hu:A'.units+64<cLine) (q:Q (.str (zrj ns).shown) H):zeC A' [.ref l] H Q:=by
 obtain ⟨d1,d2⟩:=zlf (H:=H) ok
 exact zj8 (.lst nsy hl d1) (zj0 d2) (by decide) (by rw [List.length_map];omega) hu q
theorem zk3 {z y:Str}{m:Int} (h:zao z y m=true) (ha:(sg y).all (· < 128)=true) (hm:m≤20):GD (.str z) 0 64:=by
 unfold zao at h
 rw [Bool.and_eq_true,Bool.and_eq_true] at h
 refine zjy ?_ (by have:=of_decide_eq_true h.1.2;omega)
 rw [zaD]
 refine List.all_eq_true.mpr fun c hc=>?_
 have:=List.all_eq_true.mp h.2 c hc
 exact List.all_eq_true.mp ha c (by simpa using this)
theorem znF {xs:List V} (H:Hp) (h:zay xs):za9 H xs (xs.map zbZ)∧(∀ d∈xs.map zbZ,GD d 0 64)∧xs.length≤7:=by
 have gs:∀ z:Str,asc z=true→z.length≤20→GD (.str z) 0 64:=fun z a b=>zjy a b
 have gn:∀ {z:Str},zaS z=true→GD (.str z) 0 64:=fun hz=>zk3 hz (by decide +kernel) (by decide)
 have gw:∀ {z:Str},zbn z=true→GD (.str z) 0 64:=fun hz=>zk3 hz (by decide +kernel) (by decide)
 have gi:∀ {i:Int},zaF i→GD (.int i) 0 64:=fun hi=>zf7 hi.1 hi.2
 cases h with
 | put n g b nm pl wd h1 h2 h3 h4 h5 =>
  refine ⟨.cons (.str _) (.cons (.int _) (.cons (.int _) (.cons (.bl _) (.cons (.str _) (.cons (.int _) (.cons (.str _) .nil)))))),fun d hd=>?_,by simp⟩
  simp only [List.map_cons,List.map_nil,zbZ,List.mem_cons,List.not_mem_nil,or_false] at hd
  rcases hd with rfl|rfl|rfl|rfl|rfl|rfl|rfl
  ·exact gs _ (by decide +kernel) (by decide)
  ·exact gi h1
  ·exact gi h2
  ·exact zuK
  ·exact gn h4
  ·exact gi h3
  ·exact gw h5
 | cut n nm pl h1 h2 h3 =>
  refine ⟨.cons (.str _) (.cons (.int _) (.cons (.str _) (.cons (.int _) .nil))),fun d hd=>?_,by simp⟩
  simp only [List.map_cons,List.map_nil,zbZ,List.mem_cons,List.not_mem_nil,or_false] at hd
  rcases hd with rfl|rfl|rfl|rfl
  ·exact gs _ (by decide +kernel) (by decide)
  ·exact gi h1
  ·exact gn h3
  ·exact gi h2
 | hold n nm h1 h2 =>
  refine ⟨.cons (.str _) (.cons (.int _) (.cons (.str _) .nil)),fun d hd=>?_,by simp⟩
  simp only [List.map_cons,List.map_nil,zbZ,List.mem_cons,List.not_mem_nil,or_false] at hd
  rcases hd with rfl|rfl|rfl
  ·exact gs _ (by decide +kernel) (by decide)
  ·exact gi h1
  ·exact gn h2
 | free n nm h1 h2 =>
  refine ⟨.cons (.str _) (.cons (.int _) (.cons (.str _) .nil)),fun d hd=>?_,by simp⟩
  simp only [List.map_cons,List.map_nil,zbZ,List.mem_cons,List.not_mem_nil,or_false] at hd
  rcases hd with rfl|rfl|rfl
  ·exact gs _ (by decide +kernel) (by decide)
  ·exact gi h1
  ·exact gn h2
 | carry n g wd h1 h2 h3 =>
  refine ⟨.cons (.str _) (.cons (.int _) (.cons (.int _) (.cons (.str _) .nil))),fun d hd=>?_,by simp⟩
  simp only [List.map_cons,List.map_nil,zbZ,List.mem_cons,List.not_mem_nil,or_false] at hd
  rcases hd with rfl|rfl|rfl|rfl
  ·exact gs _ (by decide +kernel) (by decide)
  ·exact gi h1
  ·exact gi h2
  ·exact gw h3
structure zfu (t:Tri):Prop where
 row:zay t.1
 small:t.2.1<1000∧t.2.2<1000
theorem zmz {H:Hp}{a:Addr}{t:Tri} (h:zcG H a t) (ok:zfu t):za1 H (.ref a) (ze5 t)∧GD (ze5 t) 2 1503:=by
 obtain ⟨r,e1,e2⟩:=h
 obtain ⟨d1,d2,hl⟩:=znF H ok.row
 have sm:=ok.small
 refine ⟨.tup e1 (.cons (.tup e2 d1) (.cons (.int _) (.cons (.int _) .nil))),?_⟩
 have g1:GD (.tuple (t.1.map zbZ)) 1 500:=(zlo d2).mono (Nat.le_refl _) (by rw [List.length_map];omega)
 refine (zlo (dp:=1) (wt:=500) fun d hd=>?_).mono (Nat.le_refl _) (by simp)
 simp only [List.mem_cons,List.not_mem_nil,or_false] at hd
 rcases hd with rfl|rfl|rfl
 ·exact g1
 ·exact (zf7 (by omega) (by omega)).mono (by decide) (by decide)
 ·exact (zf7 (by omega) (by omega)).mono (by decide) (by decide)
theorem zkt {H:Hp}:∀ {as:List Addr}{ts:List Tri},zaA H as ts→(∀ t∈ts,zfu t)→za9 H (as.map V.ref) (ts.map ze5)∧∀ d∈ts.map ze5,GD d 2 1503
 | _,_,.nil,_=>⟨.nil,by simp⟩
 | _,_,.cons r rs,h=>by
  obtain ⟨a1,a2⟩:=zmz r (h _ (List.mem_cons_self ..))
  obtain ⟨b1,b2⟩:=zkt rs fun t ht=>h t (List.mem_cons_of_mem _ ht)
  refine ⟨.cons a1 b1,fun d hd=>?_⟩
  rcases List.mem_cons.mp hd with rfl|hd
  ·exact a2
  ·exact b2 d hd
theorem zgl {A':Around}{H:Hp}{l:Addr}{as:List Addr}{ts:List Tri}{Q:VK} (ns:l≠sysModules) (hl:H l=some (.lst (as.map V.ref))) (ht:zaA H as ts) (ok:∀ t∈ts,zfu t) (len:ts.length≤30) (hu:A'.units+64<cLine) (q:Q (.str (zqe ts).shown) H):zeC A' [.ref l] H Q:=by
 obtain ⟨d1,d2⟩:=zkt ht ok
 exact zj8 (.lst ns hl d1) (zj0 d2) (by decide) (by rw [List.length_map];omega) hu q
theorem zbk (d:DM):nU d=wO (rdR d.rows) (rdR d.rows).length:=by
 unfold nU
 rw [zkd]
 show wO (rdR d.rows) d.rows.length=wO (rdR d.rows) (List.map _ d.rows).length
 rw [List.length_map]
theorem zar (d:DM):(rdR d.rows).length=d.rows.length:=List.length_map ..
theorem zl8 (d:DM) (hot:Bool):za0 (rdR d.rows) hot=za2 d hot:=by unfold za0 za2;rw [zbk]
structure DOk (d:DM):Prop where
 tx:zbt d
 nd:((nU d).map zw).Nodup
 few:(nU d).length≤30
 pos:∀ t∈nU d,1≤zw t∧zw t<10 ^ 17
 row:∀ t∈nU d,zay t.1
theorem DOk.sh {d:DM} (h:DOk d):zgI (rdR d.rows):=by
 have e:=zbk d
 refine ⟨by rw [zar];exact h.tx.len,fun i=>?_,fun t ht=>zeL (by rw [← e] at ht;exact ht),by rw [← e];exact h.nd,by rw [← e];have:=h.few;omega⟩
 rw [zaK,List.length_map]
 by_cases hi:i<d.rows.length
 ·exact (h.tx.ok _ (zbT hi)).1
 ·rw [List.getD_eq_getElem?_getD,List.getElem?_eq_none (by omega)];simp
structure DW (A:zn) (H:Hp) (p wl sl sh:Addr) (cells shc:List Addr) (m:Int) (d:DM):Prop where
 disk:zB A H p wl sl cells m d
 shelf:zab H sh shc (rdR d.rows)
 ap:∀ x∈wl::sl::cells,x≠sh∧x∉shc
 tb:TB A H
 ok:DOk d
theorem TB.lists {A:zn}{H H':Hp} (h:TB A H) {F:List Addr} (k:zm F H H') (hF:∀ x∈F,(∃ xs,H x=some (.lst xs))∨∃ C dx fs,H x=some (.ins C dx fs)):TB A H':=h.keep k fun x hx o e=>by
 rcases hF x hx with ⟨xs,z⟩|⟨C,dx,fs,z⟩ <;> · rw [z] at e;cases e;exact ⟨fun _ q=>(by cases q),fun _ q=>(by cases q)⟩
section
variable {A:zn}{H H':Hp}{p wl sl sh:Addr}{cells shc:List Addr}{m:Int}{d:DM}
theorem DW.sameT (h:DW A H p wl sl sh cells shc m d) (s:zr H H') (tb:TB A H'):DW A H' p wl sl sh cells shc m d:=⟨h.disk.sameT s,h.shelf.sameT s,h.ap,tb,h.ok⟩
theorem DW.same (h:DW A H p wl sl sh cells shc m d) (s:zl H H'):DW A H' p wl sl sh cells shc m d:=h.sameT (.of s) (h.tb.same s)
theorem zr.put {l:Addr}{o:HO} (s:zr H H') (f:Fr H l):zr H (upd H' l o):=fun a u n e=>by
 rw [ze (fun z=>f u n (by rw [← z];exact e))];exact s a u n e
theorem TB.put {A:zn}{l:Addr}{xs:List V}{o:HO} (tb:TB A H) (e:H l=some (.lst xs)):TB A (upd H l o):=tb.lists (F:=[l]) (zm.upd (by simp)) fun x hx=>by rw [List.mem_singleton] at hx;subst hx;exact .inl ⟨_,e⟩
end
theorem DOk.lt {d:DM} (h:DOk d):(nU d).length<64:=by have:=h.few;omega
theorem zfL {A':Around}{H:Hp}{o:Option Nat}{Q:VK} (ho:∀ k,o=some k→k<1000) (q:Q (.str (match o with|none=>"None" | some k=>toString (k:Int))) H):zeC A' [ov o] H Q:=by
 cases o with
 | none=>exact .inr (.inr (.inr (.inr ⟨rfl,q⟩)))
 | some k =>
  have:=ho k rfl
  exact .inr (.inr (.inl ⟨k,rfl,zfs (by omega),q⟩))
theorem zgA (d:DM):∀ n,emp d.rows n=zap (rdR d.rows) n
 | 0=>rfl
 | n+1=>by
  show emp _ n++_=zap _ n++_
  rw [zgA d n,zaK,List.length_map]
theorem zlZ (d:DM) (m:Int) (hot:Bool):zbB d m hot=zbE (rdR d.rows) m (za0 (rdR d.rows) hot):=by
 unfold zbB
 rw [zl8,zgA,← zar]
 cases e:za2 d hot with
 | none=>exact if_neg (by show ¬ (0:Int)>0;omega)
 | some k =>
  have ef:zeM d m (some k)=m - ((rdR d.rows).getD k []).length:=by
   show m - (d.rows.getD k []).length=_
   rw [zaK,List.length_map]
  rw [ef]
  by_cases hk:(((rdR d.rows).getD k []).length:Int)<m
  ·rw [if_pos (by omega)]
   exact (if_pos hk).symm
  ·rw [if_neg (by omega)]
   exact (if_neg hk).symm
theorem zhr {rs:List (List OR)}{k:Nat}:∀ {n:Nat},k∈zap rs n→k<n∧(rs.getD k []).length=0
 | 0,h=>by cases h
 | n+1,h=>by
  rcases List.mem_append.mp h with h|h
  ·obtain ⟨h1,h2⟩:=zhr h;exact ⟨by omega,h2⟩
  ·split at h
   ·rw [List.mem_singleton] at h;subst h;exact ⟨by omega,by assumption⟩
   ·cases h
theorem zkk {rs:List (List OR)}{m:Int}{hot:Bool}{k:Nat} (h:zbE rs m (za0 rs hot)=some k):k<rs.length∧(2≤m→((rs.getD k []).length:Int)<m):=by
 have mt:(zap rs rs.length).head?=some k→k<rs.length∧(2≤m→((rs.getD k []).length:Int)<m):=fun hh=>by
  obtain ⟨h1,h2⟩:=zhr (List.mem_of_head? hh)
  exact ⟨h1,fun hm=>by omega⟩
 cases e:za0 rs hot with
 | none=>rw [e] at h;exact mt h
 | some n =>
  rw [e] at h
  unfold zbE at h
  simp only at h
  split at h
  ·cases h;exact ⟨zlH e,fun _=>by assumption⟩
  ·exact mt h
abbrev zcz:Stmt:=top 70
section
variable {P:Program}{w:World}{K:Frag}{mg:Str→Option Value}{base:Heap}{A:zn}
structure zut (A:zn) (H:Hp) (p sh l1 l2 l3:Addr) (sg:V) (i:Nat) (σ:L2.St) (H':Hp):Prop where
 ex:∃ t1,σ=[some (V.ref p),some (.ref sh),some sg,some (.ref l1),some (.ref l2),some (.ref l3),t1]
 same:zr H H'
 tb:TB A H'
def ziP (A:zn):Sp:=fun vs H Q _=>∃ (p wl sl sh:Addr) (cells shc:List Addr) (m:Int) (d:DM),vs=[.ref p,.ref sh]∧DW A H p wl sl sh cells shc m d∧∀ H',zr H H'→TB A H'→Q (.bl true) H'
theorem zdQ:zz ["_law_disk_here","_law_shelf","_law_signs","_law_due","_law_told","_law_free","_law_is_hot"] ["_law_disk_here","_law_shelf"] (zd zcz):=⟨rfl,rfl,rfl,by decide +kernel,rfl,by decide +kernel,by decide +kernel⟩
theorem zwS:zaT { kind:=.function,names:=[(Str.ofString ".0",.local),(Str.ofString "_law_k",.local),(Str.ofString "_law_rows_here",.local)],isGenerator:=false,isCoroutine:=false,more:=[] } (zd zcz).names ["_law_disk_here","_law_shelf","_law_signs","_law_due","_law_told","_law_free","_law_is_hot"] ["_law_k","_law_rows_here"] [none,none]=true:=by decide +kernel
theorem zle:(["_law_k","_law_rows_here"]:List Str).Nodup:=by decide +kernel
theorem zmL {f:Addr}{fd:FuncData} (F:Fun K "_law_right" "_law_right" zcz f fd) (T:Txt w K mg A) (M_Disk_signs:GM P w K mg base true 1 A.Disk "signs" ["self"] (zaV A fun _ d=>.int d.cnt)) (G__law_rows:GF P w K mg base true 1 "_law_rows" ["_law_shelf"] (zeG A)) (G_whole_rows:GF P w K mg base true 9 "whole_rows" ["disk"] (zfG A)) (G_empties:GF P w K mg base true 2 "empties" ["disk"] (zfM A)) (G_end_of:GF P w K mg base true 10 "end_of" ["disk","is_hot"] (zgd A)) (G__law_end:GF P w K mg base true 2 "_law_end" ["_law_shelf","_law_is_hot"] (zfP A)) (G__law_asked:GF P w K mg base true 12 "_law_asked" ["_law_disk_here","_law_is_hot"] (zgX A)) (G__law_goes_to:GF P w K mg base true 3 "_law_goes_to" ["_law_shelf","_law_places","_law_is_hot"] (zgp A)) (M_Disk_places:GM P w K mg base true 1 A.Disk "places" ["self"] (zaV A fun m _=>.int m)):zp P w K mg base CX0 true 13 f fd ["_law_disk_here","_law_shelf"] (ziP A):=by
 refine F.ok zdQ (fun vs H Q E h=>?_) (fun cdv Ar outer s H vs Q E hr h=>?_)
 ·obtain ⟨p,wl,sl,sh,cells,shc,m,d,rfl,_⟩:=h;rfl
 ·obtain ⟨p,wl,sl,sh,cells,shc,m,d,rfl,Ww,q⟩:=h
  have hu:_<cLine:=Nat.lt_of_succ_lt (zax hr)
  have hg:=hr.gd
  have h64:=hr.units
  have ok:=Ww.ok
  have sok:=ok.sh
  refine ⟨_,(W.h (zg (zx (i:=2) zdQ.nd rfl (Or.inl rfl) (zby (za 0) T.cl_Disk M_Disk_signs hr))
   (zg (zx (i:=3) zdQ.nd rfl (Or.inl rfl) (zo G__law_rows hr rfl (zb (za 1) zc)))
   (zg (zx (i:=4) zdQ.nd rfl (Or.inl rfl) (zo G_whole_rows hr rfl (zb (za 0) zc)))
   (zg (zN (zM (zbW hu) (zH (zbz hg) rfl T.n_repr boot_repr (zb (za 4) zc)) (zH (zbz hg) rfl T.n_repr boot_repr (zb (za 3) zc)) (zD _))
   (zh (zu zaJ))
   zU)
   (zg (zaa (zh1 (za 4)))
   (zg (zx (i:=5) zdQ.nd rfl (Or.inl rfl) (zo G_empties hr rfl (zb (za 0) zc)))
   (zg (zN (zM (zbW hu) (zH (zbz hg) rfl T.n_repr boot_repr (zb (za 5) zc)) (zH (zbz hg) rfl T.n_repr boot_repr (zb (zb5 (fun _=>rfl) (zaz.of zwS) (ze2 rfl T.n_enumerate (zb (za 1) zc)) (fun _ _ _ _ _=>(zfS (n:=2) (zau (zO (i:=0) zle rfl (Or.inl rfl)) (zau (zO (i:=1) zle rfl (Or.inl rfl)) zbL)))) (fun _ _ _ _ _=>(zdf (zM (zgh hu) (za 1) (zX zc) (zD _)))) (fun _ _ _ _ _=>(za 0))) zc)) (zD _))
   (zh (zu zaJ))
   zU)
   (zg (zaa (zcj (za 5) zj))
   (zg (zbl PassesOwn.never (fun _=>rfl) (zd8 (zX (zb zaJ (zb zaJ (zb zaJ zc))))) (zO (i:=6) zdQ.nd rfl (Or.inl rfl))
   (zg (zN (zM (zbW hu) (zH (zbz hg) rfl T.n_repr boot_repr (zb (zo G_end_of hr rfl (zb (za 0) (zb (za 6) zc))) zc)) (zH (zbz hg) rfl T.n_repr boot_repr (zb (zo G__law_end hr rfl (zb (za 1) (zb (za 6) zc))) zc)) (zD _))
   (zh (zu zaJ))
   zU)
   (zh (zN (zM (zbW hu) (zH (zbz hg) rfl T.n_repr boot_repr (zb (zo G__law_asked hr rfl (zb (za 0) (zb (za 6) zc))) zc)) (zH (zbz hg) rfl T.n_repr boot_repr (zb (zo G__law_goes_to hr rfl (zb (za 1) (zb (zby (za 0) T.cl_Disk M_Disk_places hr) (zb (za 6) zc)))) zc)) (zD _))
   (zh (zu zaJ))
   zU))))
   (zh (zu (zfD (zba (zaL hu) (zH (zbz hg) rfl T.n_repr boot_repr (zb (zo G_whole_rows hr rfl (zb (za 0) zc)) zc)) (zH (zbz hg) rfl T.n_repr boot_repr (zb (za 3) zc)) (zD _)) (zds (zba (zaL hu) (zby (za 0) T.cl_Disk M_Disk_signs hr) (za 2) (zD _)))))))))))))))),?_⟩
  have hl16:=ok.tx.len
  obtain ⟨dx0,ob0⟩:=Ww.disk.ob
  simp_all only [ob0,zkH]
  refine ⟨p,wl,sl,cells,m,d,rfl,Ww.disk,?_⟩
  try simp_all only []
  have triok:∀ t∈zae (nU d),zfu t:=fun t ht=>by
   have hm:=(zb7 _).mem_iff.mp ht
   have hm2:=hm
   rw [zbk] at hm2
   obtain ⟨g1,g2,_⟩:=zbp.mp hm2
   rw [zar] at g1
   have:=sok.wide t.2.1
   exact ⟨ok.row t hm,by omega,by omega⟩
  have few:(zae (nU d)).length≤30:=by rw [(zb7 _).length_eq];exact ok.few
  refine ⟨sh,shc,_,rfl,Ww.shelf,sok.len,sok.wide,sok.keys,sok.nd,sok.few,Ww.tb,fun l1 as1 H1 s1 tb1 f1 ns1 e1 ht1=>?_⟩
  rw [← zbk] at ht1
  have W1:=Ww.sameT s1 tb1
  try simp_all only []
  refine ⟨p,wl,sl,cells,m,d,rfl,W1.disk,ok.tx,ok.nd,ok.lt,tb1,fun l2 as2 H2 s2 tb2 f2 ns2 e2 ht2=>?_⟩
  have W2:=W1.sameT s2 tb2
  refine zgl ns2 e2 ht2 triok few h64 (zgl ns1 (s2.list e1) (ht1.sameT s2) triok few h64 ?_)
  have hw2:=W2.shelf.w
  simp_all only [decide_true,e2]
  have l12:l1≠l2:=fun z=>by rw [z,f2] at e1;cases e1
  have s13:zr H1 (upd H2 l2 (.lst [])):=s2.put (fun o _ e=>by rw [f2] at e;cases e)
  have tb3:TB A (upd H2 l2 (.lst [])):=tb2.put e2
  have e3:(upd H2 l2 (.lst [])) l1=some (.lst (as1.map V.ref)):=by rw [ze l12];exact s2.list e1
  generalize upd H2 l2 (.lst [])=H3 at s13 tb3 e3 ⊢
  have W3:=W1.sameT s13 tb3
  have ht3:=ht1.sameT s13
  have eE:emp d.rows d.rows.length=zap (rdR d.rows) (rdR d.rows).length:=by rw [zgA,zar]
  have sml:∀ n∈zap (rdR d.rows) (rdR d.rows).length,n<1000:=fun n hn=>by have:=(zhr hn).1;rw [zar] at this;omega
  have few16:(zap (rdR d.rows) (rdR d.rows).length).length≤16:=by have:=zfO (rdR d.rows) (rdR d.rows).length;rw [zar] at this ⊢;omega
  refine ⟨p,wl,sl,cells,m,d,rfl,W3.disk,hl16,fun l3 H4 n4 ns4=>?_⟩
  rw [eE] at n4
  have W4:=W3.same n4.same
  refine zlk ns4 n4.at_ sml few16 h64 ⟨⟨_,SqL.of W4.shelf.w⟩,ziA W4.shelf (by rw [zar];exact hl16) fun l5 H5 s5 _ ns5 h5=>zlk ns5 h5 sml few16 h64 ?_⟩
  have e5:=s5 _ _ n4.at_
  simp_all only [decide_true,e5]
  have l31:l3≠l1:=fun z=>by have:=n4.no;rw [z,e3] at this;cases this
  have fr3:Fr H3 l3:=fun o _ e=>by rw [n4.no] at e;cases e
  have s36:zr H3 (upd H5 l3 (.lst ((zap (rdR d.rows) (rdR d.rows).length).map iv++[.int 0]))):=zr.put (zr.of (n4.same.trans s5)) fr3
  have tb6:TB A (upd H5 l3 (.lst ((zap (rdR d.rows) (rdR d.rows).length).map iv++[.int 0]))):=((tb3.same n4.same).same s5).put e5
  refine ⟨by rw [List.length_map];exact zaI (by omega),by decide,fun lb H7 n7 _=>?_⟩
  have s37:zr H3 H7:=s36.trans (.of n7.same)
  have tb7:=tb6.same n7.same
  have W7:=W3.sameT s37 tb7
  refine ⟨⟨_,SqL.of n7.at_⟩,zak.lst (xs:=[V.bl true,.bl false,.bl true]) (zut A H7 p sh l1 l2 l3 (.int d.cnt)) ⟨⟨_,rfl⟩,zr.refl,tb7⟩ (fun i σ H' _ I=>SqL.of (I.same.list n7.at_)) ?_ ?_⟩
  ·rintro i x σ H8 hx ⟨⟨t1,rfl⟩,s8,tb8⟩
   obtain ⟨hot,rfl⟩:∃ hot,x=V.bl hot:=by
    have:=List.mem_of_getElem? hx
    simp only [List.mem_cons,List.not_mem_nil,or_false] at this
    rcases this with rfl|rfl|rfl <;> exact ⟨_,rfl⟩
   have W8:=W7.sameT s8 tb8
   have klt:∀ k,za2 d hot=some k→k<1000:=fun k e=>by have:=zjL e;omega
   simp_all only []
   refine ⟨p,wl,sl,cells,m,d,hot,rfl,W8.disk,ok.tx,ok.nd,ok.lt,tb8,fun H9 s9 tb9=>zfL klt ?_⟩
   have W9:=W8.sameT s9 tb9
   try simp_all only []
   refine ⟨sh,shc,_,hot,rfl,W9.shelf,sok,tb9,fun Ha sa tba=>?_⟩
   rw [zl8]
   refine zfL klt ?_
   have Wa:=W9.sameT sa tba
   simp_all only [decide_true]
   have nlt:∀ k,zbB d m hot=some k→k<1000:=fun k e=>by rw [zlZ] at e;have:=(zkk e).1;rw [zar] at this;omega
   refine ⟨p,wl,sl,cells,m,d,hot,rfl,Wa.disk,ok.tx,ok.nd,ok.lt,tba,fun Hb sb tbb=>zfL nlt ?_⟩
   have Wb:=Wa.sameT sb tbb
   obtain ⟨dxb,obb⟩:=Wb.disk.ob
   try simp_all only [obb,zeY]
   refine ⟨p,wl,sl,cells,m,d,rfl,Wb.disk,sh,shc,_,m,hot,rfl,Wb.shelf,sok,tbb,fun Hc sc tbc=>?_⟩
   rw [← zlZ]
   refine zfL nlt ?_
   simp_all only [decide_true]
   exact ⟨⟨_,rfl⟩,(((s8.trans s9).trans sa).trans sb).trans sc,tbc⟩
  ·rintro σ H8 ⟨⟨t1,rfl⟩,s8,tb8⟩
   have W8:=W7.sameT s8 tb8
   simp_all only []
   refine ⟨p,wl,sl,cells,m,d,rfl,W8.disk,ok.tx,ok.nd,ok.lt,tb8,fun l9 as9 H9 s9 tb9 f9 ns9 e9 ht9=>?_⟩
   have s39:=(s37.trans s8).trans s9
   refine zgl ns9 e9 ht9 triok few h64 (zgl ns1 (s39.list e3) (ht3.sameT s39) triok few h64 ?_)
   have W9:=W8.sameT s9 tb9
   obtain ⟨dx9,ob9⟩:=W9.disk.ob
   simp_all only [decide_true,ob9,zkH]
   refine ⟨p,wl,sl,cells,m,d,rfl,W9.disk,?_⟩
   simp_all only [decide_true]
   exact q H9 ((s1.trans s13).trans s39) tb9
end
abbrev zdI:Stmt:=top 61
abbrev zdU:Stmt:=top 63
structure LR (n:Int) (xs:List V):Prop where
 ok:zay xs
 hd:∃ y ys,xs = .str y::.int n::ys
 len:xs.length≤7
section
variable {P:Program}{w:World}{K:Frag}{mg:Str→Option Value}{base:Heap}{A:zn}
def ziw:Sp:=fun vs H Q _=>∃ (a:Addr) (n:Int) (hot:Bool),vs=[.ref a,.int n,.bl hot]∧Pot H a∧1≤n∧n<10 ^ 17∧∀ r xs H',But a H H'→Pot H' a→LR n xs→H' r=some (.tup xs)→Q (.ref r) H'
theorem zqo {v:V} (h:v∈[V.str "w",.str "0",.str "x1",.str "carry",.str "abcdefghij0123456789"]):∃ z:Str,v = .str z∧zbn z=true:=by
 simp only [List.mem_cons,List.not_mem_nil,or_false] at h
 rcases h with rfl|rfl|rfl|rfl|rfl <;> exact ⟨_,rfl,by decide +kernel⟩
theorem zwX {v:V} (h:v∈[V.str "a",.str "carry",.str "put",.str "zzzzzz"]):∃ z:Str,v = .str z∧zaS z=true:=by
 simp only [List.mem_cons,List.not_mem_nil,or_false] at h
 rcases h with rfl|rfl|rfl|rfl <;> exact ⟨_,rfl,by decide +kernel⟩
theorem zce:zz ["_law_pot_here","_law_number","_law_is_hot","_law_word","_law_name","_law_place","_law_group","_law_some"] ["_law_pot_here","_law_number","_law_is_hot"] (zd zdI):=⟨rfl,rfl,rfl,by decide +kernel,rfl,by decide +kernel,by decide +kernel⟩
theorem znE {f:Addr}{fd:FuncData} (F:Fun K "_law_row" "_law_row" zdI f fd) (T:Txt w K mg A) (G__law_draw:GF P w K mg base true 1 "_law_draw" ["_law_pot_here","_law_many"] zbD) (G__law_drawn:GF P w K mg base true 2 "_law_drawn" ["_law_pot_here","_law_some"] zeX):zp P w K mg base CX0 true 3 f fd ["_law_pot_here","_law_number","_law_is_hot"] ziw:=by
 refine F.ok zce (fun vs H Q E h=>?_) (fun cdv Ar outer s H vs Q E hr h=>?_)
 ·obtain ⟨a,n,hot,rfl,_⟩:=h;rfl
 ·obtain ⟨a,n,hot,rfl,hP,n1,n2,q⟩:=h
  have hu:_<cLine:=Nat.lt_of_succ_lt (zax hr)
  refine ⟨_,(W.h (zg (zx (i:=3) zce.nd rfl (Or.inl rfl) (zo G__law_drawn hr rfl (zb (za 0) (zb (zX (zb zG (zb zG (zb zG (zb zG (zb zG zc)))))) zc))))
   (zg (zN (zbs (zaH (za 2)))
   (zh (zu (zaY (zb zG (zb (za 1) (zb (zo G__law_draw hr rfl (zb (za 0) (zb (za 1) zc))) (zb (za 3) zc)))))))
   zU)
   (zg (zx (i:=4) zce.nd rfl (Or.inl rfl) (zo G__law_drawn hr rfl (zb (za 0) (zb (zX (zb zG (zb zG (zb zG (zb zG zc))))) zc))))
   (zg (zx (i:=5) zce.nd rfl (Or.inl rfl) (zo G__law_draw hr rfl (zb (za 0) (zb zj zc))))
   (zg (zx (i:=6) zce.nd rfl (Or.inl rfl) (zK zeR (za 1) (zo G__law_draw hr rfl (zb (za 0) (zb (zK zaC (zH (zhj rfl) rfl T.n_min boot_min (zb (za 1) (zb zj zc))) zj) zc)))))
   (zg (zx (i:=7) zce.nd rfl (Or.inl rfl) (zX (zb (zaY (zb zG (zb (za 1) (zb (za 6) (zb (zba (zaL hu) (zo G__law_draw hr rfl (zb (za 0) (zb zj zc))) zj (zD _)) (zb (za 4) (zb (za 5) (zb (za 3) zc)))))))) zc)))
   (zg (zx (i:=7) zce.nd rfl (Or.inl rfl) (zK zaC (za 7) (zX (zb (zaY (zb zG (zb (za 1) (zb (za 1) (zb zaJ (zb (za 4) (zb zj (zb (za 3) zc)))))))) (zb (zaY (zb zG (zb (za 1) (zb (za 4) (zb (za 5) zc))))) zc)))))
   (zg (zx (i:=7) zce.nd rfl (Or.inl rfl) (zK zaC (za 7) (zX (zb (zaY (zb zG (zb (za 1) (zb (za 4) zc)))) (zb (zaY (zb zG (zb (za 1) (zb (za 4) zc)))) zc)))))
   (zh (zu (zo G__law_drawn hr rfl (zb (za 0) (zb (za 7) zc)))))))))))))),?_⟩
  have hn:zaF n:=⟨by omega,by omega⟩
  simp_all only []
  refine ⟨by decide,fun l1 H1 m1 _=>⟨a,hP.same m1.same,.inl ⟨l1,_,rfl,hP.ne m1.no,.inl m1.at_,by simp,by simp,fun v H2 hv b2 hP2=>?_⟩⟩⟩
  obtain ⟨wd,rfl,hwd⟩:=zqo hv
  have bA:=(But.of m1.same).trans b2
  cases hot with
  | false =>
   simp_all only []
   refine ⟨a,n,rfl,hP2,by omega,Int.lt_of_lt_of_le n2 (by decide),fun g H3 b3 hP3 g0 g1=>?_⟩
   simp_all only []
   refine ⟨by decide,fun p2 H4 m4=>q _ _ H4 ((bA.trans b3).trans (But.of m4.same)) (hP3.same m4.same) ⟨.carry n g _ hn ⟨g0,by omega⟩ hwd,⟨_,_,rfl⟩,by simp⟩ m4.at_⟩
  | true =>
   simp_all only []
   refine ⟨by decide,fun l3 H3 m3 _=>⟨a,hP2.same m3.same,.inl ⟨l3,_,rfl,hP2.ne m3.no,.inl m3.at_,by simp,by simp,fun v H4 hv4 b4 hP4=>?_⟩⟩⟩
   obtain ⟨nm,rfl,hnm⟩:=zwX hv4
   have bB:=(bA.trans (But.of m3.same)).trans b4
   try simp_all only []
   refine ⟨a,200,rfl,hP4,by decide,by decide,fun pl H5 b5 hP5 pl0 pl1=>?_⟩
   try simp_all only []
   refine ⟨a,_,rfl,hP5,?_,?_,fun gd H6 b6 hP6 gd0 gd1=>?_⟩
   ·split <;> omega
   ·have:(2:Int) ^ 64=18446744073709551616:=by decide
    split <;> omega
   have gd2:gd≤n:=by split at gd1 <;> omega
   try simp_all only []
   refine ⟨a,2,rfl,hP6,by decide,by decide,fun eb H7 b7 hP7 eb0 eb1=>?_⟩
   try simp_all only []
   refine ⟨by decide,fun p1 K1 m1=>⟨by decide,fun q1 K2 m2 _=>⟨by decide,fun p2 K3 m3=>⟨by decide,fun p3 K4 m4=>⟨by decide,fun q2 K5 m5 _=>⟨_,m5.same _ _ (m4.same _ _ (m3.same _ _ m2.at_)),_,m5.at_,zai (by simp),fun q3 K6 m6=>⟨by decide,fun p4 K7 m7=>⟨by decide,fun p5 K8 m8=>⟨by decide,fun q4 K9 m9 _=>⟨_,m9.same _ _ (m8.same _ _ (m7.same _ _ m6.at_)),_,m9.at_,zai (by simp),fun q5 K10 m10=>?_⟩⟩⟩⟩⟩⟩⟩⟩⟩⟩
   have s19:zl H7 K9:=((((((((m1.same.trans m2.same).trans m3.same).trans m4.same).trans m5.same).trans m6.same).trans m7.same).trans m8.same).trans m9.same)
   have hP9:=hP7.same s19
   have hP10:=hP9.same m10.same
   refine ⟨a,hP10,.inl ⟨q5,_,rfl,hP9.ne m10.no,.inl m10.at_,by simp,by simp,fun v H8 hv8 b8 hP8=>?_⟩⟩
   have ne:∀ {b:Addr}{xs:List V},K10 b=some (.tup xs)→b≠a:=fun {b xs} e z=>by
    obtain ⟨x,y,ea,_⟩:=hP10.ex
    rw [z,ea] at e;cases e
   have bZ:But a H H8:=((((bB.trans b5).trans b6).trans b7).trans (But.of (s19.trans m10.same))).trans b8
   have hpl:zaF pl:=⟨by omega,by omega⟩
   have t8:=fun {b:Addr}{xs:List V} (e:K8 b=some (.tup xs))=>m10.same _ _ (m9.same _ _ e)
   have t5:=fun {b:Addr}{xs:List V} (e:K5 b=some (.tup xs))=>t8 (m8.same _ _ (m7.same _ _ (m6.same _ _ e)))
   have t3:=fun {b:Addr}{xs:List V} (e:K3 b=some (.tup xs))=>t5 (m5.same _ _ (m4.same _ _ e))
   have e1:=t3 (m3.same _ _ (m2.same _ _ m1.at_))
   have e2:=t3 m3.at_
   have e3:=t5 (m5.same _ _ m4.at_)
   have e4:=t8 (m8.same _ _ m7.at_)
   have e5:=t8 m8.at_
   simp only [List.cons_append,List.nil_append,List.mem_cons,List.not_mem_nil,or_false] at hv8
   rcases hv8 with rfl|rfl|rfl|rfl|rfl
   ·exact q _ _ H8 bZ hP8 ⟨.put n (n - gd) _ nm pl wd hn ⟨by omega,by omega⟩ hpl hnm hwd,⟨_,_,rfl⟩,by simp⟩ (b8 _ _ (ne e1) e1)
   ·exact q _ _ H8 bZ hP8 ⟨.put n n true nm 0 wd hn hn ⟨by decide,by decide⟩ hnm hwd,⟨_,_,rfl⟩,by simp⟩ (b8 _ _ (ne e2) e2)
   ·exact q _ _ H8 bZ hP8 ⟨.cut n nm pl hn hpl hnm,⟨_,_,rfl⟩,by simp⟩ (b8 _ _ (ne e3) e3)
   ·exact q _ _ H8 bZ hP8 ⟨.hold n nm hn hnm,⟨_,_,rfl⟩,by simp⟩ (b8 _ _ (ne e4) e4)
   ·exact q _ _ H8 bZ hP8 ⟨.free n nm hn hnm,⟨_,_,rfl⟩,by simp⟩ (b8 _ _ (ne e5) e5)
structure Ris (ns:List Int) (top:Int):Prop where
 up:ns.Pairwise (· < ·)
 in_:∀ n∈ns,1≤n∧n≤top
 last:ns.getLast?=some top
structure NmI (H:Hp) (a l:Addr) (many:Int) (i:Nat) (σ:L2.St) (H':Hp):Prop where
 ex:∃ t,σ=[some (V.ref a),some (.int many),some (.ref l),t]
 but:But a H H'
 pot:Pot H' a
 no:H l=none
 ls:∃ ns top,H' l=some (.lst (ns.map V.int))∧ns.length=i+1∧Ris ns top∧top≤10 ^ 16+3*i
 le:i≤20
def zht:Sp:=fun vs H Q _=>∃ (a:Addr) (many:Nat),vs=[.ref a,.int many]∧Pot H a∧1≤many∧many≤20∧∀ l (ns:List Int) H',But a H H'→Pot H' a→H l=none→H' l=some (.lst (ns.map V.int))→ns.length=many→ns.Nodup→(∀ n∈ns,1≤n∧n<10 ^ 17)→Q (.ref l) H'
theorem But.no {a l:Addr}{H H':Hp} (b:But a H H') (hP:Pot H' a) (h:H' l=none):H l=none:=by
 cases e:H l with
 | none=>rfl
 | some o =>
  have:=b l o (hP.ne h) e
  rw [h] at this;cases this
theorem zgV:zz ["_law_pot_here","_law_many","_law_found","_law_k"] ["_law_pot_here","_law_many"] (zd zdU):=⟨rfl,rfl,rfl,by decide +kernel,rfl,by decide +kernel,by decide +kernel⟩
theorem zo9 {f:Addr}{fd:FuncData} (F:Fun K "_law_numbers" "_law_numbers" zdU f fd) (T:Txt w K mg A) (G__law_draw:GF P w K mg base true 1 "_law_draw" ["_law_pot_here","_law_many"] zbD):zp P w K mg base CX0 true 2 f fd ["_law_pot_here","_law_many"] zht:=by
 refine F.ok zgV (fun vs H Q E h=>?_) (fun cdv Ar outer s H vs Q E hr h=>?_)
 ·obtain ⟨a,many,rfl,_⟩:=h;rfl
 ·obtain ⟨a,many,rfl,hP,n1,n2,q⟩:=h
  refine ⟨_,(W.h (zg (zx (i:=2) zgV.nd rfl (Or.inl rfl) (zX (zb (zK zaC zj (zo G__law_draw hr rfl (zb (za 0) (zb (zR zQ (zX (zb zj (zb (zK zhV zj zj) zc))) (zo G__law_draw hr rfl (zb (za 0) (zb zj zc))) (fun _ _=>rfl)) zc)))) zc)))
   (zg (zbl PassesOwn.never (fun _=>rfl) (zbG rfl T.n_range (zb (zK zeR (za 1) zj) zc)) (zO (i:=3) zgV.nd rfl (Or.inl rfl))
   (zh (zaa (zcj (za 2) (zK zaC (zK zaC (zR zQ (za 2) (ziD ziG zj) (fun _ _=>rfl)) zj) (zK zdT (zo G__law_draw hr rfl (zb (za 0) (zb zj zc))) (zo G__law_draw hr rfl (zb (za 0) (zb zj zc)))))))))
   (zh (zu (za 2)))))),?_⟩
  simp_all only []
  refine ⟨⟨by decide,by decide,by decide⟩,by decide,fun lp H1 m1 _=>?_⟩
  try simp_all only []
  refine ⟨a,2,rfl,hP.same m1.same,by decide,by decide,fun r H2 b2 hP2 r0 r1=>?_⟩
  try simp_all only []
  have lpa:lp≠a:=hP.ne m1.no
  have e2:=b2 _ _ lpa m1.at_
  have hv:∃ y:Int,atI [V.int 9,V.int (10 ^ 16)] r=some (.int y)∧1≤y∧y≤10 ^ 16:=by
   have:r=0∨r=1:=by omega
   rcases this with rfl|rfl
   ·exact ⟨9,rfl,by decide,by decide⟩
   ·exact ⟨10 ^ 16,rfl,by decide,by decide⟩
  obtain ⟨y,hy,y1,y2⟩:=hv
  refine ⟨_,.inl e2,_,hy,a,y,rfl,hP2,by omega,Int.lt_of_le_of_lt y2 (by decide),fun d H3 b3 hP3 d0 d1=>?_⟩
  have bA:=((But.of m1.same).trans b2).trans b3
  simp only [zeI]
  refine ⟨by decide,fun l H4 m4 _=>⟨by omega,by omega,?_⟩⟩
  have bB:=bA.trans (But.of m4.same)
  have er:((many:Nat) - 1:Int).toNat=many - 1:=by omega
  rw [er]
  refine zak.rng (NmI H a l many) ⟨⟨_,rfl⟩,bB,hP3.same m4.same,bA.no hP3 m4.no,⟨[1+d],1+d,m4.at_,rfl,⟨List.pairwise_singleton ..,fun n hn=>by rw [List.mem_singleton] at hn;omega,rfl⟩,by omega⟩,by omega⟩ ?_ ?_
  ·rintro i σ H5 hi ⟨⟨t,rfl⟩,b5,hP5,ln,⟨ns,top,hl,hlen,R,ht⟩,le⟩
   have la:l≠a:=hP.ne ln
   simp_all only [hl]
   have hix:atI (ns.map V.int) (-1)=some (.int top):=by
    rcases List.eq_nil_or_concat ns with rfl|⟨zs,z,ez⟩
    ·simp at hlen
    ·rw [List.concat_eq_append] at ez
     have hz:=R.last
     rw [ez,List.getLast?_concat] at hz
     cases hz
     rw [ez,List.map_append]
     exact zjp _ _
   refine ⟨_,hix,?_⟩
   simp only [zeI]
   refine ⟨a,3,rfl,hP5,by decide,by decide,fun r3 H6 b6 hP6 r30 r31=>⟨a,2,rfl,hP6,by decide,by decide,fun r4 H7 b7 hP7 r40 r41=>?_⟩⟩
   simp only [zjr,zeI]
   have hp0:0≤r3*r4∧r3*r4≤2:=by
    have h3:r3=0∨r3=1∨r3=2:=by omega
    have h4:r4=0∨r4=1:=by omega
    rcases h3 with rfl|rfl|rfl <;> rcases h4 with rfl|rfl <;> decide
   generalize r3*r4=g at hp0
   refine ⟨.inl ⟨by omega,by omega⟩,_,b7 _ _ la (b6 _ _ la hl),by rw [List.length_map];exact zaI (by omega),⟨_,rfl⟩,fun c o nc ec=>?_,?_,ln,⟨ns++[top+1+g],_,by rw [zF,List.map_append];rfl,by simp [hlen],⟨?_,fun n hn=>?_,List.getLast?_concat ..⟩,by omega⟩,by omega⟩
   ·rw [ze (zt ec ln)];exact b7 _ _ nc (b6 _ _ nc (b5 _ _ nc ec))
   ·obtain ⟨x,y,ea,rr⟩:=hP7.ex
    exact ⟨⟨x,y,by rw [ze (Ne.symm la)];exact ea,rr⟩⟩
   ·rw [List.pairwise_append]
    exact ⟨R.up,List.pairwise_singleton ..,fun x hx z hz=>by rw [List.mem_singleton] at hz;have:=R.in_ x hx;omega⟩
   ·rcases List.mem_append.mp hn with hn|hn
    ·have:=R.in_ n hn;omega
    ·rw [List.mem_singleton] at hn
     obtain ⟨z,hz⟩:∃ z,z∈ns:=by cases ns with|nil=>simp at hlen|cons z zs=>exact ⟨z,List.mem_cons_self ..⟩
     have:=R.in_ z hz
     omega
  ·rintro σ H5 ⟨⟨t,rfl⟩,b5,hP5,ln,⟨ns,top,hl,hlen,R,ht⟩,le⟩
   simp_all only []
   exact q l ns H5 b5 hP5 ln hl (by omega) (R.up.imp fun h=>by omega) fun n hn=>by have:=R.in_ n hn;omega
end
theorem zme {z y:Str}{m:Int}{c:Nat} (h:zao z y m=true) (hc:c∉sg y):c∉sg z:=fun z'=>by
 unfold zao at h
 rw [Bool.and_eq_true] at h
 have:=List.all_eq_true.mp h.2 c z'
 exact hc (by simpa using this)
theorem zjD {i:Int} (h:zaF i):59∉sg (toString i:Str):=fun z=>by
 have:=(zcD h.1 h.2).dig 59 z
 omega
theorem zay.no59 {xs:List V} (h:zay xs):∀ v∈xs,59∉sg (zaf v):=by
 have bno:∀ b:Bool,59∉sg (zaf (.bl b)):=fun b=>by cases b <;> decide +kernel
 have nmn:∀ {z:Str},zaS z=true→59∉sg (zaf (.str z)):=fun hz=>zme hz (by decide +kernel)
 have wdn:∀ {z:Str},zbn z=true→59∉sg (zaf (.str z)):=fun hz=>zme hz (by decide +kernel)
 have inn:∀ {i:Int},zaF i→59∉sg (zaf (.int i)):=fun hi=>zjD hi
 cases h with
 | put n g b nm pl wd h1 h2 h3 h4 h5 =>
  intro v hv
  simp only [List.mem_cons,List.not_mem_nil,or_false] at hv
  rcases hv with rfl|rfl|rfl|rfl|rfl|rfl|rfl
  ·exact (by decide +kernel:59∉sg ("put":Str))
  ·exact inn h1
  ·exact inn h2
  ·exact bno b
  ·exact nmn h4
  ·exact inn h3
  ·exact wdn h5
 | cut n nm pl h1 h2 h3 =>
  intro v hv
  simp only [List.mem_cons,List.not_mem_nil,or_false] at hv
  rcases hv with rfl|rfl|rfl|rfl
  ·exact (by decide +kernel:59∉sg ("cut":Str))
  ·exact inn h1
  ·exact nmn h3
  ·exact inn h2
 | hold n nm h1 h2 =>
  intro v hv
  simp only [List.mem_cons,List.not_mem_nil,or_false] at hv
  rcases hv with rfl|rfl|rfl
  ·exact (by decide +kernel:59∉sg ("hold":Str))
  ·exact inn h1
  ·exact nmn h2
 | free n nm h1 h2 =>
  intro v hv
  simp only [List.mem_cons,List.not_mem_nil,or_false] at hv
  rcases hv with rfl|rfl|rfl
  ·exact (by decide +kernel:59∉sg ("free":Str))
  ·exact inn h1
  ·exact nmn h2
 | carry n g wd h1 h2 h3 =>
  intro v hv
  simp only [List.mem_cons,List.not_mem_nil,or_false] at hv
  rcases hv with rfl|rfl|rfl|rfl
  ·exact (by decide +kernel:59∉sg ("carry":Str))
  ·exact inn h1
  ·exact inn h2
  ·exact wdn h3
theorem zhh (b:Str):sg (zbj b)=(sg b++sg (toString (za3 b):Str))++[59]:=by
 unfold zbj
 rw [zbq,zbq]
 rfl
theorem zqz {xs:List V} (h:∀ v∈xs,59∉sg (zaf v)):59∉zV xs:=fun z=>by
 unfold zV at z
 obtain ⟨l,hl,hz⟩:=List.mem_flatten.mp z
 obtain ⟨v,hv,rfl⟩:=List.mem_map.mp hl
 rcases List.mem_append.mp hz with hz|hz
 ·exact h v hv hz
 ·simp at hz
theorem zj5 {xs:List V} (ok:zay xs) {j:Nat} (h:j<(zag xs).length):zaG (tx ((sg (zag xs)).take j))=none:=by
 have hs:=zhh (tx (zV xs))
 have hsum:=zci (tx (zV xs))
 have no:59∉sg (tx (zV xs))++sg (toString (za3 (tx (zV xs))):Str):=fun z=>by
  rcases List.mem_append.mp z with z|z
  ·rw [zaW] at z;exact zqz ok.no59 z
  ·exact zjD ⟨hsum.1,by omega⟩ z
 have hl:(zag xs).length=(sg (tx (zV xs))++sg (toString (za3 (tx (zV xs))):Str)).length+1:=by
  show (zbj _).length=_
  rw [← zT,hs,List.length_append];rfl
 have no2:59∉(sg (zag xs)).take j:=fun z=>by
  unfold zag at z
  rw [hs,List.take_append_of_le_length (by omega)] at z
  exact no (List.mem_of_mem_take z)
 unfold zaG zbY
 rw [if_neg]
 ·rfl
 ·intro e
  apply no2
  have:=congrArg sg e
  rw [zaW,zhh] at this
  rw [this]
  exact List.mem_append_right _ (List.mem_singleton.mpr rfl)
theorem zg0 {xs:List V} (ok:zay xs) (hl:xs.length≤7):asc (zag xs)=true∧(zag xs).length≤1000∧zaG (zag xs)=some xs∧2≤(zag xs).length:=by
 obtain ⟨_,_,_,hp⟩:=ok.parts
 obtain ⟨l1,l2⟩:=ziQ hp
 have F:=zcD (zci (tx (zV xs))).1 (by have:=(zci (tx (zV xs))).2;omega)
 have nl:=zhx (zci (tx (zV xs))).1 (by have:=(zci (tx (zV xs))).2;omega)
 refine ⟨?_,?_,ok.read,?_⟩
 ·unfold zag zbj
  rw [zaD,zbq,zbq,zaW,List.all_append,List.all_append,l2]
  have:(sg (toString (za3 (tx (zV xs))):Str)).all (fun c=>decide (c<128))=true:=List.all_eq_true.mpr fun c hc=>decide_eq_true (by have:=F.dig c hc;omega)
  rw [this]
  decide +kernel
 ·unfold zag zbj
  rw [← zT,zbq,zbq,zaW,List.length_append,List.length_append,zT]
  have:(sg (";":Str)).length=1:=by decide +kernel
  rw [this]
  omega
 ·show 2≤(zbj _).length
  rw [← zT,zhh,List.length_append,List.length_append,List.length_singleton]
  have:=F.one
  omega
theorem ze4 {α:Type}:∀ {l m:List α},l.Nodup→(∀ x∈l,x∈m)→l.length≤m.length
 | [],_,_,_=>Nat.zero_le _
 | x::l,m,nd,h=>by
  obtain ⟨n1,n2⟩:=List.nodup_cons.mp nd
  obtain ⟨m1,m2,rfl⟩:=List.append_of_mem (h x (List.mem_cons_self ..))
  have:=ze4 (m:=m1++m2) n2 fun y hy=>by
   rcases List.mem_append.mp (h y (List.mem_cons_of_mem _ hy)) with z|z
   ·exact List.mem_append_left _ z
   ·rcases List.mem_cons.mp z with z|z
    ·subst z;exact absurd hy n1
    ·exact List.mem_append_right _ z
  simp only [List.length_cons,List.length_append] at this ⊢
  omega
theorem zeE (d:DM):(nU d).Nodup:=by rw [zbk];exact zkm _
theorem zi4 {d:DM} (inj:∀ s t:Tri,s∈nU d→t∈nU d→zw s=zw t→s=t):((nU d).map zw).Nodup :=
 List.pairwise_map.mpr (List.Pairwise.imp_of_mem (fun {a b} ha hb h e=>h (inj a b ha hb e)) (zeE d))
structure TOk (m:Int) (d:DM) (ns:List Int):Prop where
 size:3≤d.rows.length∧d.rows.length≤16∧2≤m∧m≤32
 wide:∀ i,((d.rows.getD i []).length:Int)≤m
 nd:ns.Nodup
 in_:∀ n∈ns,1≤n∧n<10 ^ 17
 apart:∀ t∈nU d,zw t∉ns
 few:(nU d).length+ns.length≤20
theorem DOk.less {d d':DM} (h:DOk d) (tx:zbt d') (hs:∀ t∈nU d',t∈nU d):DOk d' :=
 ⟨tx,zi4 fun s t hs' ht' e=>zlU h.nd (hs s hs') (hs t ht') e,Nat.le_trans (ze4 (zeE d') hs) h.few,fun t ht=>h.pos t (hs t ht),fun t ht=>h.row t (hs t ht)⟩
theorem TOk.less {m:Int}{d d':DM}{ns:List Int} (h:TOk m d ns) (hl:d'.rows.length=d.rows.length) (hw:∀ i,((d'.rows.getD i []).length:Int)≤m) (hs:∀ t∈nU d',t∈nU d):TOk m d' ns :=
 ⟨by rw [hl];exact h.size,hw,h.nd,h.in_,fun t ht=>h.apart t (hs t ht),Nat.le_trans (Nat.add_le_add_right (ze4 (zeE d') hs) _) h.few⟩
theorem zcA {rows:List (List Tx)}{k:Nat}{r:List Tx}:rdR (rows.set k r)=(rdR rows).set k (r.map rdT):=by
 unfold rdR
 rw [List.map_set]
theorem zbt.set {d:DM} (h:zbt d) {k:Nat}{r:List Tx}{c:Int}{lf:Option Int}{st:Bool}{sd:List Tx} (hr:r.length≤32∧∀ t∈r,∀ z,t=some z→asc z=true∧z.length≤1000):zbt ⟨d.rows.set k r,sd,c,lf,st⟩:=by
 refine ⟨fun q hq=>?_,by show (d.rows.set k r).length≤16;rw [List.length_set];exact h.len⟩
 rcases List.mem_or_eq_of_mem_set hq with hq|rfl
 ·exact h.ok q hq
 ·exact hr
def DM.wrote (d:DM) (k:Nat) (t:Str) (c:Int):DM:={ d with rows:=d.rows.set k (d.rows.getD k []++[some t]),cnt:=c }
def DM.cleared (d:DM) (k:Nat) (c:Int):DM:={ d with rows:=d.rows.set k [],cnt:=c }
theorem zxr {d:DM}{m:Int}{k:Nat}{t:Str} (h1:d.left=none) (h2:d.st=false) (hw:((d.rows.getD k []).length:Int)<m):d.write m k t=(.val (.int (d.rows.getD k []).length),d.wrote k t (d.cnt+t.length)):=by
 have edn:dn d.left t.length=t.length:=by rw [h1];rfl
 have es:(d.spend t.length).st=false:=by show decide _=false;rw [edn];exact decide_eq_false (Int.lt_irrefl _)
 unfold DM.write
 rw [if_neg (by rw [h2];exact Bool.false_ne_true),if_neg (by omega),if_neg (by rw [es];exact fun z=>Bool.false_ne_true z.2),if_neg (by rw [es];exact Bool.false_ne_true),edn]
 have ec:zbS t t.length=some t:=by
  show some (Txt.slice t none (some (t.length:Int)))=_
  rw [zew (by rw [zT];exact Nat.le_refl _),← zT,List.take_of_length_le (Nat.le_refl _),ze0]
 rw [ec]
 have e2:d.spend t.length={ d with cnt:=d.cnt+t.length }:=by
  unfold DM.spend
  rw [edn,h1,h2,decide_eq_false (Int.lt_irrefl _)]
  rfl
 rw [e2]
 rfl
theorem zrU {d:DM}{k:Nat} (h1:d.left=none) (h2:d.st=false):d.empty k=(.val .non,d.cleared k (d.cnt+(d.rows.getD k []).length)):=by
 have edn:dn d.left (d.rows.getD k []).length=(d.rows.getD k []).length:=by rw [h1];rfl
 have es:(d.spend (d.rows.getD k []).length).st=false:=by show decide _=false;rw [edn];exact decide_eq_false (Int.lt_irrefl _)
 unfold DM.empty
 rw [if_neg (by rw [h2];exact Bool.false_ne_true),if_neg (by rw [es];exact Bool.false_ne_true)]
 have e2:d.spend (d.rows.getD k []).length={ d with cnt:=d.cnt+(d.rows.getD k []).length }:=by
  unfold DM.spend
  rw [edn,h1,h2,decide_eq_false (Int.lt_irrefl _)]
  rfl
 rw [e2]
 rfl
section
variable {d:DM}{m:Int}{ns:List Int}{k:Nat}
theorem zjV {c:Int} (hk:k<d.rows.length) {t:Tri}:t∈nU (d.cleared k c)↔t∈nU d∧t.2.1≠k:=by
 rw [zbk,zbk]
 show t∈wO (rdR (d.rows.set k [])) (rdR (d.rows.set k [])).length↔_
 rw [zcA]
 exact zxi (by rw [zar];exact hk)
theorem zwA {c:Int} (h:DOk d) (hk:k<d.rows.length):DOk (d.cleared k c):=h.less (h.tx.set ⟨by simp,by simp⟩) fun t ht=>((zjV hk).mp ht).1
theorem zm8 {c:Int} (hm:2≤m) (hw:∀ i,((d.rows.getD i []).length:Int)≤m) (hk:k<d.rows.length) (i:Nat):(((d.cleared k c).rows.getD i []).length:Int)≤m:=by
 show (((d.rows.set k []).getD i []).length:Int)≤m
 rw [zcm hk]
 split
 ·simp;omega
 ·exact hw i
theorem zpW {c:Int} (h:TOk m d ns) (hk:k<d.rows.length):TOk m (d.cleared k c) ns:=h.less (by show (d.rows.set k []).length=_;rw [List.length_set]) (zm8 h.size.2.2.1 h.wide hk) fun t ht=>((zjV hk).mp ht).1
theorem zfZ {t:Str}{c:Int} (hk:k<d.rows.length) {u:Tri}:u∈nU (d.wrote k t c)↔u∈nU d∨(rdT (some t)=some u.1∧u.2=(k,(d.rows.getD k []).length)):=by
 rw [zbk,zbk]
 show u∈wO (rdR (d.rows.set k (d.rows.getD k []++[some t]))) (rdR (d.rows.set k (d.rows.getD k []++[some t]))).length↔_
 rw [zcA,List.map_append,← zaK]
 have:=zrh (rs:=rdR d.rows) (o:=rdT (some t)) (k:=k) (by rw [zar];exact hk) (t:=u)
 rw [show ([some t]:List Tx).map rdT=[rdT (some t)] from rfl,this,zaK,List.length_map]
theorem ztT {t:Str}{c:Int}{i:Nat}{n:Int} (h:DOk d) (ht:TOk m d ns) (hk:k<d.rows.length) (hw:((d.rows.getD k []).length:Int)<m) (ha:asc t=true) (hl:t.length≤1000) (hn:ns[i]?=some n) (hr:∀ xs,rdT (some t)=some xs→zf2 xs=n) (hro:∀ xs,rdT (some t)=some xs→zay xs) :
  DOk (d.wrote k t c)∧TOk m (d.wrote k t c) (ns.eraseIdx i):=by
 have hsz:=ht.size
 have hnm:n∈ns:=List.mem_of_getElem? hn
 have hi:i<ns.length:=(List.getElem?_eq_some_iff.mp hn).1
 have new:∀ {u:Tri},u∈nU (d.wrote k t c)→u∈nU d∨(zw u=n∧rdT (some t)=some u.1∧u.2=(k,(d.rows.getD k []).length)):=fun {u} hu=>by
  rcases (zfZ hk).mp hu with hu|⟨h1,h2⟩
  ·exact .inl hu
  ·exact .inr ⟨hr _ h1,h1,h2⟩
 have lenU:(nU (d.wrote k t c)).length≤(nU d).length+1:=by
  cases e:rdT (some t) with
  | none =>
   refine Nat.le_succ_of_le (ze4 (zeE _) fun u hu=>?_)
   rcases (zfZ hk).mp hu with hu|⟨h1,_⟩
   ·exact hu
   ·rw [e] at h1;cases h1
  | some xs =>
   have:=ze4 (m:=(xs,k,(d.rows.getD k []).length)::nU d) (zeE (d.wrote k t c)) fun u hu=>by
    rcases (zfZ hk).mp hu with hu|⟨h1,h2⟩
    ·exact List.mem_cons_of_mem _ hu
    ·rw [e] at h1
     cases h1
     obtain ⟨x,y⟩:=u
     cases (show y=_ from h2)
     exact List.mem_cons_self ..
   simpa using this
 have hle:=List.length_eraseIdx_of_lt hi
 have hfew:=ht.few
 have hnd':∀ x∈ns.eraseIdx i,x∈ns∧x≠n:=fun x hx=>by
  refine ⟨(List.eraseIdx_sublist ..).subset hx,fun z=>?_⟩
  rw [List.mem_eraseIdx_iff_getElem?] at hx
  obtain ⟨j,hj,e⟩:=hx
  subst z
  exact hj ((List.getElem?_inj hi ht.nd).mp (hn.trans e.symm)).symm
 refine ⟨⟨h.tx.set ⟨?_,?_⟩,zi4 ?_,by omega,fun u hu=>?_,fun u hu=>?_⟩,⟨by show 3≤(d.rows.set k _).length∧(d.rows.set k _).length≤16∧_;rw [List.length_set];exact hsz,fun j=>?_,ht.nd.sublist (List.eraseIdx_sublist ..),fun x hx=>ht.in_ x (hnd' x hx).1,fun u hu z=>?_,by omega⟩⟩
 ·rw [List.length_append,List.length_singleton];omega
 ·intro q hq z hz
  rcases List.mem_append.mp hq with hq|hq
  ·exact (h.tx.ok _ (zbT hk)).2 q hq z hz
  ·rw [List.mem_singleton] at hq;subst hq;cases hz;exact ⟨ha,hl⟩
 ·intro s u hs hu e
  rcases new hs with hs|⟨s1,s2,s3⟩
  ·rcases new hu with hu|⟨u1,_⟩
   ·exact zlU h.nd hs hu e
   ·exact absurd (by rw [e,u1];exact hnm) (ht.apart s hs)
  ·rcases new hu with hu|⟨u1,u2,u3⟩
   ·exact absurd (by rw [← e,s1];exact hnm) (ht.apart u hu)
   ·obtain ⟨a,b⟩:=s
    obtain ⟨a',b'⟩:=u
    have:a=a':=by rw [s2] at u2;exact Option.some.inj u2
    rw [this,show b=b' from s3.trans u3.symm]
 ·rcases new hu with hu|⟨u1,_⟩
  ·exact h.pos u hu
  ·rw [u1];exact ht.in_ n hnm
 ·rcases new hu with hu|⟨_,u2,_⟩
  ·exact h.row u hu
  ·exact hro _ u2
 ·show (((d.rows.set k _).getD j []).length:Int)≤m
  rw [zcm hk]
  split
  ·rw [List.length_append,List.length_singleton];omega
  ·exact ht.wide j
 ·obtain ⟨z1,z2⟩:=hnd' _ z
  rcases new hu with hu|⟨u1,_⟩
  ·exact ht.apart u hu z1
  ·exact z2 u1
end
abbrev zcF:Stmt:=top 62
section
variable {A:zn}{H H':Hp}{a nl p wl sl sh:Addr}{cells shc:List Addr}{m:Int}{d:DM}{ns:List Int}
theorem Pot.lst (h:Pot H a):∃ xs,H a=some (.lst xs):=let ⟨x,y,e,_⟩:=h.ex;⟨_,e⟩
theorem zgg {b c:Addr}{xs:List V}{C dx:Addr}{fs:List (Str×V)} (h:H b=some (.lst xs)) (h':H c=some (.ins C dx fs)):b≠c:=fun z=>by rw [z,h'] at h;cases h
theorem zB.lists (D:zB A H p wl sl cells m d):∀ x∈p::wl::sl::cells,(∃ xs,H x=some (.lst xs))∨∃ C dx fs,H x=some (.ins C dx fs):=fun x hx=>by
 obtain ⟨dx,hp⟩:=D.ob
 rcases List.mem_cons.mp hx with rfl|hx
 ·exact .inr ⟨_,_,_,hp⟩
 ·rcases List.mem_cons.mp hx with rfl|hx
  ·exact .inl ⟨_,D.rows.w⟩
  ·rcases List.mem_cons.mp hx with rfl|hx
   ·exact .inl ⟨_,D.sides⟩
   ·obtain ⟨i,hi,rfl⟩:=List.getElem_of_mem hx
    exact .inl ⟨_,D.rows.at_ i _ (List.getElem?_eq_getElem hi)⟩
theorem zB.out (D:zB A H p wl sl cells m d) {c:Addr}{zs:List V} (e:H c=some (.lst zs)) (hn:∀ x∈wl::sl::cells,x≠c):c∉p::wl::sl::cells:=fun z=>by
 obtain ⟨dx,hp⟩:=D.ob
 rcases List.mem_cons.mp z with z|z
 ·exact zgg e hp z
 ·exact hn c z rfl
theorem zB.tup (D:zB A H p wl sl cells m d) (b:zm (p::wl::sl::cells) H H') {r:Addr}{xs:List V} (e:H r=some (.tup xs)):H' r=some (.tup xs):=b _ _ e fun z=>by
 rcases D.lists r z with ⟨ys,q⟩|⟨C,dx,fs,q⟩ <;> · rw [q] at e;cases e
theorem zab.keepF {rs:List (List OR)} (h:zab H sh shc rs) {F:List Addr} (k:zm F H H') (hF:∀ x∈F,(∃ xs,H x=some (.lst xs))∨∃ C dx fs,H x=some (.ins C dx fs)) (h1:sh∉F) (h2:∀ c∈shc,c∉F):zab H' sh shc rs :=
 h.keep (fun r xs e=>k _ _ e fun z=>by rcases hF r z with ⟨xs,q⟩|⟨C,dx,fs,q⟩ <;> · rw [q] at e;cases e) fun b xs hb e=>k _ _ e (by
  rcases hb with rfl|hb
  ·exact h1
  ·exact h2 b hb)
theorem DW.put {b:Addr}{xs:List V} (h:DW A H p wl sl sh cells shc m d) (e:H b=some (.lst xs)) (h1:∀ x∈wl::sl::cells,x≠b) (h2:b≠sh) (h3:b∉shc) (k:zm [b] H H'):DW A H' p wl sl sh cells shc m d:=by
 have hF:∀ x∈[b],(∃ xs,H x=some (.lst xs))∨∃ C dx fs,H x=some (.ins C dx fs):=fun x hx=>by rw [List.mem_singleton] at hx;subst hx;exact .inl ⟨_,e⟩
 obtain ⟨dx,hp⟩:=h.disk.ob
 refine ⟨h.disk.keep k fun x hx z=>?_,h.shelf.keepF k hF (by simpa using fun z=>h2 z.symm) (fun c hc z=>by rw [List.mem_singleton] at z;exact h3 (z ▸ hc)),h.ap,h.tb.lists k hF,h.ok⟩
 rw [List.mem_singleton] at z
 rcases List.mem_cons.mp hx with rfl|hx
 ·exact zgg e hp z.symm
 ·exact h1 x hx z
theorem DW.diskB (h:DW A H p wl sl sh cells shc m d) (b:zm (p::wl::sl::cells) H H'):zab H' sh shc (rdR d.rows)∧TB A H':=by
 refine ⟨h.shelf.keepF b h.disk.lists (h.disk.out h.shelf.w fun x hx=>(h.ap x hx).1) fun c hc=>?_,h.tb.lists b h.disk.lists⟩
 obtain ⟨i,hi,rfl⟩:=List.getElem_of_mem hc
 obtain ⟨vs,e,_⟩:=h.shelf.at_ i _ (List.getElem?_eq_getElem hi)
 exact h.disk.out e fun x hx z=>(h.ap x hx).2 (z ▸ hc)
theorem zab.set {rs:List (List OR)} (S:zab H sh shc rs) {k:Nat}{c:Addr}{vs':List V}{r':List OR} (hk:k<rs.length) (hc:shc[k]?=some c) (hp:Paired (za5 H) vs' r'):zab (upd H c (.lst vs')) sh shc (rs.set k r'):=by
 have hm:=List.mem_of_getElem? hc
 obtain ⟨n1,n2⟩:=List.nodup_cons.mp S.nd
 obtain ⟨vs0,hv0,_⟩:=S.at_ k c hc
 have kt:∀ r xs,H r=some (.tup xs)→upd H c (.lst vs') r=some (.tup xs):=fun r xs e=>by rw [ze (fun z=>by rw [z,hv0] at e;cases e)];exact e
 refine ⟨by rw [ze (fun z:sh=c=>n1 (by rw [z];exact hm))];exact S.w,by rw [List.length_set];exact S.len,fun i ci hi=>?_,S.nd⟩
 rw [zcm hk]
 by_cases h:i=k
 ·subst h
  rw [hc] at hi
  cases hi
  rw [if_pos rfl]
  exact ⟨vs',zF,Paired.mapP hp fun v o r=>r.keep kt⟩
 ·rw [if_neg h]
  obtain ⟨vs,hv,pv⟩:=S.at_ i ci hi
  refine ⟨vs,?_,Paired.mapP pv fun v o r=>r.keep kt⟩
  rw [ze (fun z:ci=c=>h (zke n2 hi (by rw [z];exact hc)))]
  exact hv
theorem DW.done {d':DM}{k:Nat}{c:Addr}{vs':List V}{r':List OR} (h:DW A H p wl sl sh cells shc m d) (b:zm (p::wl::sl::cells) H H') (hk:k<d.rows.length) (D':zB A H' p wl sl cells m d') (hr:rdR d'.rows=(rdR d.rows).set k r') (hc:shc[k]?=some c) (hp:Paired (za5 H') vs' r') (ok:DOk d') :
  DW A (upd H' c (.lst vs')) p wl sl sh cells shc m d':=by
 obtain ⟨hS,hT⟩:=h.diskB b
 have hm:=List.mem_of_getElem? hc
 obtain ⟨vs0,hv0,_⟩:=hS.at_ k c hc
 obtain ⟨dx,hob⟩:=D'.ob
 have kk:zm [c] H' (upd H' c (.lst vs')):=zm.upd (by simp)
 refine ⟨D'.keep kk fun x hx z=>?_,by rw [hr];exact hS.set (by rw [zar];exact hk) hc hp,h.ap,hT.put hv0,ok⟩
 rw [List.mem_singleton] at z
 rcases List.mem_cons.mp hx with rfl|hx
 ·exact zgg hv0 hob z.symm
 ·exact (h.ap x hx).2 (z ▸ hm)
structure QW (A:zn) (H:Hp) (a nl p wl sl sh:Addr) (cells shc:List Addr) (m:Int) (d:DM) (ns:List Int):Prop where
 dw:DW A H p wl sl sh cells shc m d
 pot:Pot H a
 nums:H nl=some (.lst (ns.map V.int))
 ap:∀ x∈wl::sl::cells,x≠a∧x≠nl
 ap2:a≠nl∧a≠sh∧a∉shc∧nl≠sh∧nl∉shc
 live:d.left=none∧d.st=false
 sd:d.sides.length=2
theorem But.keeps {b:Addr} (h:But b H H'):zm [b] H H':=fun c o e n=>h c o (fun z=>n (by simp [z])) e
theorem DW.potB (h:DW A H p wl sl sh cells shc m d) (hP:Pot H a) (h1:∀ x∈wl::sl::cells,x≠a) (h2:a≠sh) (h3:a∉shc) (b:But a H H'):DW A H' p wl sl sh cells shc m d:=by
 obtain ⟨xs,e⟩:=hP.lst
 exact h.put e h1 h2 h3 b.keeps
theorem QW.potB (h:QW A H a nl p wl sl sh cells shc m d ns) (b:But a H H') (hP:Pot H' a):QW A H' a nl p wl sl sh cells shc m d ns :=
 ⟨h.dw.potB h.pot (fun x hx=>(h.ap x hx).1) h.ap2.2.1 h.ap2.2.2.1 b,hP,b _ _ (Ne.symm h.ap2.1) h.nums,h.ap,h.ap2,h.live,h.sd⟩
theorem QW.same (h:QW A H a nl p wl sl sh cells shc m d ns) (s:zl H H'):QW A H' a nl p wl sl sh cells shc m d ns:=⟨h.dw.same s,h.pot.same s,s _ _ h.nums,h.ap,h.ap2,h.live,h.sd⟩
theorem QW.popped {ns':List Int} (h:QW A H a nl p wl sl sh cells shc m d ns):QW A (upd H nl (.lst (ns'.map V.int))) a nl p wl sl sh cells shc m d ns':=by
 obtain ⟨x,y,e,r⟩:=h.pot.ex
 exact ⟨h.dw.put h.nums (fun x hx=>(h.ap x hx).2) h.ap2.2.2.2.1 h.ap2.2.2.2.2 (zm.upd (by simp)),⟨⟨x,y,by rw [ze h.ap2.1];exact e,r⟩⟩,zF,h.ap,h.ap2,h.live,h.sd⟩
theorem QW.done {d':DM}{k:Nat}{c:Addr}{vs':List V}{r':List OR} (h:QW A H a nl p wl sl sh cells shc m d ns) (b:zm (p::wl::sl::cells) H H') (hk:k<d.rows.length) (D':zB A H' p wl sl cells m d') (hr:rdR d'.rows=(rdR d.rows).set k r') (hc:shc[k]?=some c) (hp:Paired (za5 H') vs' r') (ok:DOk d') (lv:d'.left=none∧d'.st=false) (sd:d'.sides.length=2) :
  QW A (upd H' c (.lst vs')) a nl p wl sl sh cells shc m d' ns:=by
 have hm:=List.mem_of_getElem? hc
 obtain ⟨x,y,e,r⟩:=h.pot.ex
 refine ⟨h.dw.done b hk D' hr hc hp ok,⟨⟨x,y,?_,r⟩⟩,?_,h.ap,h.ap2,lv,sd⟩
 ·rw [ze (fun z:a=c=>h.ap2.2.2.1 (z ▸ hm))]
  exact b _ _ e (h.dw.disk.out e fun x hx=>(h.ap x hx).1)
 ·rw [ze (fun z:nl=c=>h.ap2.2.2.2.2 (z ▸ hm))]
  exact b _ _ h.nums (h.dw.disk.out h.nums fun x hx=>(h.ap x hx).2)
def FT (a nl p wl sl sh:Addr) (cells shc:List Addr):List Addr:=a::nl::p::wl::sl::sh::(cells++shc)
theorem TOk.small (h:TOk m d ns):small d:=fun k=>by have:=h.wide k;have:=h.size;omega
end
section
variable {P:Program}{w:World}{K:Frag}{mg:Str→Option Value}{base:Heap}{A:zn}
theorem zk0 {α β:Type}{f:α→β}:∀ {l:List α}{i:Nat},(l.map f).eraseIdx i=(l.eraseIdx i).map f
 | [],_=>rfl
 | _::_,0=>rfl
 | x::l,i+1=>by show f x::(l.map f).eraseIdx i=f x::(l.eraseIdx i).map f;rw [zk0]
structure HtI (H:Hp) (n:Nat) (i:Nat) (τ:L2.St) (ys:List V) (H':Hp):Prop where
 le:i≤n
 ex:∃ t1,τ=[t1]
 ys:∃ bs:List Bool,ys=bs.map V.bl∧bs.length≤i
 same:H'=H
def zix (A:zn):Sp:=fun vs H Q _=>∃ (a nl p wl sl sh:Addr) (cells shc:List Addr) (m:Int) (d:DM) (ns:List Int),vs=[.ref a,.ref p,.ref sh,.ref nl]∧QW A H a nl p wl sl sh cells shc m d ns∧TOk m d ns∧1≤ns.length ∧
 ∀ d' ns' H',QW A H' a nl p wl sl sh cells shc m d' ns'→TOk m d' ns'→ns.length≤ns'.length+1→zm (FT a nl p wl sl sh cells shc) H H'→Q .non H'
theorem zdA:zz ["_law_pot_here","_law_disk_here","_law_shelf","_law_numbers_here","_law_stretch","_law_way","_law_heats","_law_row_here","_law_text"] ["_law_pot_here","_law_disk_here","_law_shelf","_law_numbers_here"] (zd zcF):=⟨rfl,rfl,rfl,by decide +kernel,rfl,by decide +kernel,by decide +kernel⟩
theorem zrg:zaT { kind:=.function,names:=[(Str.ofString ".0",.local),(Str.ofString "_law_row_here",.local)],isGenerator:=false,isCoroutine:=false,more:=[] } (zd zcF).names ["_law_pot_here","_law_disk_here","_law_shelf","_law_numbers_here","_law_stretch","_law_way","_law_heats","_law_row_here","_law_text"] ["_law_row_here"] [none]=true:=by decide +kernel
theorem zvB:(["_law_row_here"]:List Str).Nodup:=by decide +kernel
theorem zqM {f:Addr}{fd:FuncData} (F:Fun K "_law_turn" "_law_turn" zcF f fd) (T:Txt w K mg A) (G__law_draw:GF P w K mg base true 1 "_law_draw" ["_law_pot_here","_law_many"] zbD) (M_Disk_empty:GMX P w K mg base true 2 A.Disk "empty" ["self","stretch"] (zgo A)) (M_Disk_places:GM P w K mg base true 1 A.Disk "places" ["self"] (zaV A fun m _=>.int m)) (G__law_row:GF P w K mg base true 3 "_law_row" ["_law_pot_here","_law_number","_law_is_hot"] ziw) (G_row_text:GF P w K mg base true 3 "row_text" ["row"] zep) (M_Disk_write:GMX P w K mg base true 3 A.Disk "write" ["self","stretch","text"] (zeW A)):zp P w K mg base CX0 true 4 f fd ["_law_pot_here","_law_disk_here","_law_shelf","_law_numbers_here"] (zix A):=by
 refine F.ok zdA (fun vs H Q E h=>?_) (fun cdv Ar outer s H vs Q E hr h=>?_)
 ·obtain ⟨a,nl,p,wl,sl,sh,cells,shc,m,d,ns,rfl,_⟩:=h;rfl
 ·obtain ⟨a,nl,p,wl,sl,sh,cells,shc,m,d,ns,rfl,Tw,ok,n1,q⟩:=h
  have hu:_<cLine:=Nat.lt_of_succ_lt (zax hr)
  refine ⟨_,(W.h (zg (zx (i:=4) zdA.nd rfl (Or.inl rfl) (zo G__law_draw hr rfl (zb (za 0) (zb (zH zaQ rfl T.n_len PySem.boot_len (zb (za 2) zc)) zc))))
   (zg (zx (i:=5) zdA.nd rfl (Or.inl rfl) (zo G__law_draw hr rfl (zb (za 0) (zb zj zc))))
   (zh (zN (zM (zaL hu) (za 5) zj (zD _))
   (zg (zaa (zcp (za 1) T.cl_Disk zbM M_Disk_empty hr (zb (za 4) zc)))
   (zh (zaa (zh1 (zR zQ (za 2) (za 4) (fun _ _=>rfl))))))
   (zh (zN (zM zd2 (zH zaQ rfl T.n_len PySem.boot_len (zb (zR zQ (za 2) (za 4) (fun _ _=>rfl)) zc)) (zby (za 1) T.cl_Disk M_Disk_places hr) (zD _))
   (zg (ze8 (i0:=6) zdA.nd rfl (Or.inl rfl) (fun _=>rfl) (zaz.of zrg) (zd8 (zR zQ (za 2) (za 4) (fun _ _=>rfl))) (fun _ _ _ _ _=>(zO (i:=0) zvB rfl (Or.inl rfl))) (fun _ _ _ _ _=>(zdf (zM zdS (za 0) zal (zD _)))) (fun _ _ _ _ _=>(zba (zbW hu) (zR zQ (za 0) zj (fun _ _=>rfl)) zG (zD _))))
   (zg (zx (i:=7) zdA.nd rfl (Or.inl rfl) (zo G__law_row hr rfl (zb (za 0) (zb (zvP (za 3) (zo G__law_draw hr rfl (zb (za 0) (zb (zH zaQ rfl T.n_len PySem.boot_len (zb (za 3) zc)) zc)))) (zb (zR zQ (zK zaC (za 6) (zX (zb (zba zfI (zo G__law_draw hr rfl (zb (za 0) (zb zj zc))) zj (zD _)) zc))) zj (fun _ _=>rfl)) zc)))))
   (zg (zx (i:=8) zdA.nd rfl (Or.inl rfl) (zo G_row_text hr rfl (zb (za 7) zc)))
   (zh (zN (zM zd2 (za 5) zj (zD _))
   (zg (zaa (zcp (za 1) T.cl_Disk zbM M_Disk_write hr (zb (za 4) (zb (zdW zeg (za 8) zea (zdV (zK zaC zj (zo G__law_draw hr rfl (zb (za 0) (zb (zK zeR (zH zaQ rfl T.n_len PySem.boot_len (zb (za 8) zc)) zj) zc)))))) zc))))
   (zh (zaa (zcj (zR zQ (za 2) (za 4) (fun _ _=>rfl)) zal))))
   (zg (zaa (zcp (za 1) T.cl_Disk zbM M_Disk_write hr (zb (za 4) (zb (za 8) zc))))
   (zh (zaa (zcj (zR zQ (za 2) (za 4) (fun _ _=>rfl)) (za 7))))))))))
   zU))))))),?_⟩
  have hsz:=ok.size
  have hw0:=Tw.dw.shelf.w
  simp_all only [hw0,List.length_map,Tw.dw.shelf.len,zar]
  refine ⟨a,_,rfl,Tw.pot,by omega,by omega,fun k' H1 b1 hP1 k0 k1=>?_⟩
  obtain ⟨k,rfl⟩:=Int.eq_ofNat_of_zero_le k0
  have hk:k<d.rows.length:=by omega
  have T1:=Tw.potB b1 hP1
  try simp_all only []
  refine ⟨a,10,rfl,hP1,by decide,by decide,fun way H2 b2 hP2 w0 w1=>?_⟩
  have T2:=T1.potB b2 hP2
  have kA:zm (FT a nl p wl sl sh cells shc) H H2:=(b1.keeps.mono (by simp [FT])).trans (b2.keeps.mono (by simp [FT]))
  obtain ⟨dx2,ob2⟩:=T2.dw.disk.ob
  have hw2:=T2.dw.shelf.w
  obtain ⟨c,vs,hc,ha,hv2,pv2,lv2⟩:=T2.dw.shelf.cell (k:=k) (by rw [zar];exact hk)
  have hcm:=List.mem_of_getElem? hc
  have lv2':vs.length=(d.rows.getD k []).length:=by rw [lv2,zaK,List.length_map]
  simp_all only [ob2,zlX]
  refine zad (fun hway=>?_) (fun hway=>?_)
  ·refine ⟨p,wl,sl,cells,m,d,k,rfl,T2.dw.disk,hk,ok.small,(fun l e=>by rw [Tw.live.1] at e;cases e),fun H3 D3 b3=>?_⟩
   rw [zrU Tw.live.1 Tw.live.2] at D3 ⊢
   unfold Out
   dsimp only
   obtain ⟨S3,_⟩:=T2.dw.diskB b3
   obtain ⟨c',vs3,hc',ha3,hv3,pv3,lv3⟩:=S3.cell (k:=k) (by rw [zar];exact hk)
   rw [hc] at hc'
   cases hc'
   have hw3:=S3.w
   have kZ:zm (FT a nl p wl sl sh cells shc) H (upd H3 c (.lst [])):=(kA.trans (b3.mono (by simp [FT];intro x hx;simp [hx]))).trans (zm.upd (by simp [FT,hcm]))
   refine ⟨_,.inl hw3,_,ha3,c,rfl,⟨_,hv3⟩,q (d.cleared k _) ns _ (T2.done b3 hk D3 (r':=[]) ?_ hc .nil (zwA T2.dw.ok hk) T2.live T2.sd) (zpW ok hk) (by omega) kZ⟩
   exact zcA
  ·try simp_all only [ob2,zeY,hw2,ha,hv2]
   refine ⟨p,wl,sl,cells,m,d,rfl,T2.dw.disk,?_⟩
   simp_all only []
   rw [lv2']
   refine zad (fun hwd=>?_) (fun hwd=>?_)
   rotate_left
   ·exact q d ns H2 T2 ok (by omega) kA
   have hwd:((d.rows.getD k []).length:Int)<m:=of_decide_eq_true hwd
   refine ⟨_,.inl hw2,_,ha,?_⟩
   rw [zfC]
   have okd:=T2.dw.ok
   have hkeys:∀ j xs,((rdR d.rows).getD k [])[j]?=some (some xs)→∃ y n ys,xs=V.str y::V.int n::ys:=fun j xs e=>okd.sh.keys (xs,k,j) (zbp.mpr ⟨by rw [zar];exact hk,(List.getElem?_eq_some_iff.mp e).1,by show ((rdR d.rows).getD k []).getD j none=_;rw [List.getD_eq_getElem?_getD,e];rfl⟩)
   have hw32:=okd.sh.wide k
   refine ⟨⟨_,SqL.of hv2⟩,zah.lst (xs:=vs) (HtI H2 vs.length) (fun i τ ys H' I=>?_) (fun i τ ys H' I=>by rw [I.same];exact SqL.of hv2) ⟨Nat.zero_le _,⟨_,rfl⟩,⟨[],rfl,Nat.le_refl _⟩,rfl⟩ ?_ ?_⟩
   ·obtain ⟨bs,e,l⟩:=I.ys
    rw [e,List.length_map]
    exact zaI (by have:=I.le;omega)
   ·intro N i x τ ys H' hx I hN
    obtain ⟨t1,rfl⟩:=I.ex
    obtain ⟨bs,e,l⟩:=I.ys
    have es:=I.same
    subst es
    have hi:i<((rdR d.rows).getD k []).length:=by rw [← lv2];exact (List.getElem?_eq_some_iff.mp hx).1
    have hri:((rdR d.rows).getD k [])[i]?=some ((rdR d.rows).getD k [])[i]:=List.getElem?_eq_getElem hi
    have hr:=zcT pv2 hx hri
    have hk2:=hkeys i
    rw [hri] at hk2
    generalize ((rdR d.rows).getD k [])[i]=o at hr hk2
    cases o with
    | none =>
     cases (show x=V.non from hr)
     simp_all only []
     exact hN _ _ _ ⟨by omega,⟨_,rfl⟩,⟨bs,e,by omega⟩,rfl⟩
    | some xs =>
     obtain ⟨rr,rfl,hrr⟩:=hr
     obtain ⟨y,n,zs,rfl⟩:=hk2 xs rfl
     have ix:atI (V.str y::V.int n::zs) 0=some (V.str y):=zaU (j:=0) (by simp)
     simp_all only [hrr,ix]
     exact hN _ _ _ ⟨by omega,⟨_,rfl⟩,⟨bs++[_],by rw [e,List.map_append];rfl,by simp;omega⟩,rfl⟩
   ·intro τ ys H' I D3 H3 m3
    obtain ⟨bs,ebs,lbs⟩:=I.ys
    have es:=I.same
    subst es
    rw [ebs] at m3
    have T3:=T2.same m3.same
    have hn3:=T3.nums
    have nsl:=ok.few
    refine ⟨⟨_,hn3⟩,_,.inl hn3,a,_,rfl,T3.pot,by rw [List.length_map];omega,by rw [List.length_map];omega,fun ri H4 b4 hP4 r0 r1=>?_⟩
    obtain ⟨i,rfl⟩:=Int.eq_ofNat_of_zero_le r0
    have hi:i<ns.length:=by rw [List.length_map] at r1;omega
    have hni:ns[i]?=some ns[i]:=List.getElem?_eq_getElem hi
    have hnb:=ok.in_ _ (List.getElem_mem hi)
    generalize ns[i]=n at hni hnb
    have T4:=T3.potB b4 hP4
    refine ⟨_,i,rfl,T4.nums,_,by rw [List.getElem?_map,hni];rfl,?_⟩
    rw [zk0]
    have T5:=T4.popped (ns':=ns.eraseIdx i)
    have k5:zm [nl] H4 (upd H4 nl (.lst ((ns.eraseIdx i).map V.int))):=zm.upd (by simp)
    generalize upd H4 nl (.lst ((ns.eraseIdx i).map V.int))=H5 at T5 k5 ⊢
    refine ⟨a,3,rfl,T5.pot,by decide,by decide,fun g H6 b6 hP6 g0 g1=>?_⟩
    have T6:=T5.potB b6 hP6
    simp only [zji]
    refine ⟨by decide,fun pl H7 m7 _=>?_⟩
    have T7:=T6.same m7.same
    have Da:D3≠a:=T2.pot.ne m3.no
    have Dn:D3≠nl:=fun z=>by have:=m3.no;rw [z,T2.nums] at this;cases this
    have eD:H7 D3=some (.lst (bs.map V.bl)):=m7.same _ _ (b6 _ _ Da (k5 _ _ (b4 _ _ Da m3.at_) (by simpa using Dn)))
    have lbs32:bs.length≤32:=by omega
    rw [zcS]
    refine ⟨_,_,eD,m7.at_,zai (by simp;omega),fun p8 H8 m8=>?_⟩
    rw [zdq]
    obtain ⟨hot,hhot⟩:∃ hot:Bool,atI (bs.map V.bl++[V.bl (decide (0<g))]) 0=some (.bl hot):=by
     cases bs with
     | nil=>exact ⟨_,rfl⟩
     | cons b bs=>exact ⟨b,zaU (j:=0) (by simp)⟩
    have T8:=T7.same m8.same
    refine ⟨_,.inl m8.at_,_,hhot,a,n,hot,rfl,T8.pot,hnb.1,hnb.2,fun r xs H9 b9 hP9 lr hr9=>?_⟩
    have T9:=T8.potB b9 hP9
    obtain ⟨ra,rl,rr,rl2⟩:=zg0 lr.ok lr.len
    have k9:zm (FT a nl p wl sl sh cells shc) H H9:=(((((kA.trans (zm.same m3.same)).trans (b4.keeps.mono (by simp [FT]))).trans (k5.mono (by simp [FT]))).trans (b6.keeps.mono (by simp [FT]))).trans (zm.same (m7.same.trans m8.same))).trans (b9.keeps.mono (by simp [FT]))
    have fin:∀ (t:Str) (v:V) (H11:Hp) (Q':VK) (E':XK),QW A H11 a nl p wl sl sh cells shc m d (ns.eraseIdx i)→zm (FT a nl p wl sl sh cells shc) H H11→asc t=true→t.length≤1000→(∀ xs',rdT (some t)=some xs'→zf2 xs'=n)→(∀ xs',rdT (some t)=some xs'→zay xs')→(∀ H12,zm (p::wl::sl::cells) H11 H12→za5 H12 v (rdT (some t))) →
      (∀ u H12 c vs,H12 sh=some (.lst (shc.map V.ref))→atI (shc.map V.ref) (k:Int)=some (.ref c)→H12 c=some (.lst vs)→vs.length<sizeLine→Q .non (upd H12 c (.lst (vs++[v])))→Q' u H12)→zeW A [.ref p,.int k,.str t] H11 Q' E':=fun t v H11 Q' E' TT kk hta htl hkey hro hcr cont=>by
     refine ⟨p,wl,sl,cells,m,d,k,t,rfl,TT.dw.disk,hk,htl,ok.small,fun H12 D12 b12=>?_⟩
     rw [zxr TT.live.1 TT.live.2 hwd] at D12 ⊢
     obtain ⟨S12,_⟩:=TT.dw.diskB b12
     obtain ⟨c',vs',hc',ha',hv',pv',lv'⟩:=S12.cell (k:=k) (by rw [zar];exact hk)
     have hcm':=List.mem_of_getElem? hc'
     obtain ⟨od,tod⟩:=ztT (c:=d.cnt+t.length) (i:=i) TT.dw.ok ok hk hwd hta htl hni hkey hro
     have hset:rdR (d.wrote k t (d.cnt+t.length)).rows=(rdR d.rows).set k ((rdR d.rows).getD k []++[rdT (some t)]):=by
      show rdR (d.rows.set k _)=_
      rw [zcA,List.map_append,zaK];rfl
     refine cont _ H12 c' vs' S12.w ha' hv' (zaI (by omega)) (q _ (ns.eraseIdx i) _ (TT.done b12 hk D12 hset hc' (zcP pv' (.cons (hcr H12 b12) .nil)) od TT.live TT.sd) tod (by rw [List.length_eraseIdx_of_lt hi];omega) ?_)
     exact (kk.trans (b12.mono (by simp [FT];intro x hx;simp [hx]))).trans (zm.upd (by simp [FT,hcm']))
    refine ⟨r,xs,rfl,.inr hr9,lr.ok.parts.1,lr.ok.parts.2.2.2,fun H10 s10=>?_⟩
    have T10:=T9.same s10
    have hr10:=s10 _ _ hr9
    have k10:=k9.trans (zm.same s10)
    obtain ⟨dx10,ob10⟩:=T10.dw.disk.ob
    have hkey:zf2 xs=n:=by obtain ⟨y,ys,e⟩:=lr.hd;rw [e];rfl
    refine zad (fun hw3=>?_) (fun hw3=>?_)
    ·refine ⟨dx10,_,ob10,zic,?_⟩
     try simp_all only []
     refine ⟨zai (by omega),a,_,rfl,T10.pot,by omega,by omega,fun j' H11 b11 hP11 j0 j1=>?_⟩
     obtain ⟨j,rfl⟩:=Int.eq_ofNat_of_zero_le j0
     have hj:1+j<(zag xs).length:=by omega
     have T11:=T10.potB b11 hP11
     have k11:=k10.trans (b11.keeps.mono (by simp [FT]))
     simp only [zeI,zl2]
     have et:Txt.slice (zag xs) none (some (1+(j:Int)))=tx ((sg (zag xs)).take (1+j)):=by
      have e:(1+(j:Int))=((1+j:Nat):Int):=by omega
      rw [e,zew (by rw [zT];omega)]
     rw [et]
     have hnone:rdT (some (tx ((sg (zag xs)).take (1+j))))=none:=zj5 lr.ok hj
     refine ⟨zai (by omega),fin _ .non H11 _ _ T11 k11 ?_ ?_ (fun xs' e=>by rw [hnone] at e;cases e) (fun xs' e=>by rw [hnone] at e;cases e) (fun H12 b12=>by rw [hnone];rfl) fun u H12 c vs h1 h2 h3 h4 h5=>⟨_,.inl h1,_,h2,c,rfl,⟨_,h3⟩,_,h3,h4,h5⟩⟩
     ·rw [zaD,zaW]
      rw [zaD] at ra
      exact List.all_eq_true.mpr fun c hc=>List.all_eq_true.mp ra c (List.mem_of_mem_take hc)
     ·rw [zge,List.length_take,zT];omega
    ·refine ⟨dx10,_,ob10,zic,fin _ (.ref r) H10 _ _ T10 k10 ra rl (fun xs' e=>by rw [show rdT (some (zag xs))=some xs from rr] at e;cases e;exact hkey) (fun xs' e=>by rw [show rdT (some (zag xs))=some xs from rr] at e;cases e;exact lr.ok) (fun H12 b12=>by rw [show rdT (some (zag xs))=some xs from rr];exact ⟨r,rfl,T10.dw.disk.tup b12 hr10⟩) fun u H12 c vs h1 h2 h3 h4 h5=>⟨_,.inl h1,_,h2,c,rfl,⟨_,h3⟩,_,h3,h4,h5⟩⟩
end
abbrev zdh:Stmt:=top 64
def DM.torn (d:DM) (k j:Nat):DM:={ d with rows:=d.rows.set k (List.replicate j none++(d.rows.getD k []).drop j),cnt:=d.cnt+j }
theorem zt4 {d:DM}{k j:Nat} (h2:d.st=false) (hj:j<(d.rows.getD k []).length):(d.stop j).empty k=(.stop,{ d.torn k j with left:=some 0,st:=true }):=by
 have edn:dn (d.stop j).left (((d.stop j).rows.getD k []).length:Nat)=j:=by
  show (if (j:Int)<((d.rows.getD k []).length:Int) then (j:Int) else _)=j
  rw [if_pos (by omega)]
 have e2:(d.stop j).spend (((d.stop j).rows.getD k []).length:Nat)={ d with cnt:=d.cnt+j,left:=some 0,st:=true }:=by
  unfold DM.spend
  rw [edn]
  have e3:(d.stop j).left.map (· - (j:Int))=some 0:=by show some ((j:Int) - j)=some 0;rw [Int.sub_self]
  have e4:decide ((j:Int)<(((d.stop j).rows.getD k []).length:Nat))=true:=decide_eq_true (by show (j:Int)<((d.rows.getD k []).length:Int);omega)
  rw [e3,e4]
  rfl
 unfold DM.empty
 rw [if_neg (by show ¬ d.st=true;rw [h2];exact Bool.false_ne_true),if_pos (by rw [e2]),edn,e2,Int.toNat_natCast]
 rfl
theorem zlI {d:DM}{k j:Nat} (hk:k<d.rows.length) (hj:j<(d.rows.getD k []).length) {t:Tri} (h:t∈nU (d.torn k j)):t∈nU d:=by
 rw [zbk] at h ⊢
 rw [zbp] at h ⊢
 rw [zar] at h ⊢
 obtain ⟨h1,h2,h3⟩:=h
 have e:(rdR (d.torn k j).rows).getD t.2.1 []=if t.2.1=k then List.replicate j none++((rdR d.rows).getD k []).drop j else (rdR d.rows).getD t.2.1 []:=by
  show (rdR (d.rows.set k _)).getD _ _=_
  rw [zcA,zcm (by rw [zar];exact hk)]
  split
  ·rw [List.map_append,List.map_replicate,List.map_drop,zaK];rfl
  ·rfl
 have h1':t.2.1<d.rows.length:=by
  have:(d.torn k j).rows.length=d.rows.length:=List.length_set ..
  omega
 rw [e] at h2 h3
 by_cases hk2:t.2.1=k
 ·rw [if_pos hk2] at h2 h3
  rw [List.length_append,List.length_replicate,List.length_drop] at h2
  by_cases hb:t.2.2<j
  ·rw [List.getD_eq_getElem?_getD,List.getElem?_append_left (by rw [List.length_replicate];exact hb),List.getElem?_replicate,if_pos hb] at h3
   cases h3
  ·rw [List.getD_eq_getElem?_getD,List.getElem?_append_right (by rw [List.length_replicate];omega),List.length_replicate,List.getElem?_drop] at h3
   have hl:((rdR d.rows).getD k []).length=(d.rows.getD k []).length:=by rw [zaK,List.length_map]
   refine ⟨h1',by rw [hk2];omega,?_⟩
   rw [hk2,List.getD_eq_getElem?_getD]
   rw [show j+(t.2.2 - j)=t.2.2 by omega] at h3
   exact h3
 ·rw [if_neg hk2] at h2 h3
  exact ⟨h1',h2,h3⟩
theorem zk5 {d:DM}{k j:Nat} (hj:j<(d.rows.getD k []).length):(List.replicate j (none:Tx)++(d.rows.getD k []).drop j).length=(d.rows.getD k []).length:=by rw [List.length_append,List.length_replicate,List.length_drop];omega
theorem zuP {d:DM}{k j:Nat}{c:Int}{lf:Option Int}{st:Bool} (h:DOk d) (hk:k<d.rows.length) (hj:j<(d.rows.getD k []).length):DOk { d.torn k j with left:=lf,st:=st }:=by
 refine h.less (h.tx.set ⟨?_,fun q hq z hz=>?_⟩) fun t ht=>zlI hk hj ht
 ·rw [zk5 hj];exact (h.tx.ok _ (zbT hk)).1
 ·rcases List.mem_append.mp hq with hq|hq
  ·rw [(List.mem_replicate.mp hq).2] at hz;cases hz
  ·exact (h.tx.ok _ (zbT hk)).2 q (List.mem_of_mem_drop hq) z hz
theorem zu4 {d:DM}{m:Int}{ns:List Int}{k j:Nat}{lf:Option Int}{st:Bool} (h:TOk m d ns) (hk:k<d.rows.length) (hj:j<(d.rows.getD k []).length):TOk m { d.torn k j with left:=lf,st:=st } ns:=by
 refine h.less (List.length_set ..) (fun i=>?_) fun t ht=>zlI hk hj ht
 show (((d.rows.set k _).getD i []).length:Int)≤m
 rw [zcm hk]
 split
 ·rw [zk5 hj];exact h.wide k
 ·exact h.wide i
theorem zab.swap {H:Hp}{sh:Addr}{shc:List Addr}{rs:List (List OR)} (S:zab H sh shc rs) {k:Nat}{c':Addr}{vs':List V}{r':List OR} (hk:k<rs.length) (e:H c'=some (.lst vs')) (h1:c'≠sh) (h2:c'∉shc) (hp:Paired (za5 H) vs' r'):zab (upd H sh (.lst ((shc.map V.ref).set k (.ref c')))) sh (shc.set k c') (rs.set k r'):=by
 obtain ⟨n1,n2⟩:=List.nodup_cons.mp S.nd
 have kt:∀ r xs,H r=some (.tup xs)→upd H sh (.lst ((shc.map V.ref).set k (.ref c'))) r=some (.tup xs):=fun r xs e=>by rw [ze (fun z=>by rw [z,S.w] at e;cases e)];exact e
 have hk':k<shc.length:=by rw [S.len];exact hk
 have hmem:∀ x∈shc.set k c',x=c'∨x∈shc:=fun x hx=>(List.mem_or_eq_of_mem_set hx).symm
 refine ⟨by rw [zF,List.map_set],by rw [List.length_set,List.length_set];exact S.len,fun i ci hi=>?_,List.nodup_cons.mpr ⟨fun z=>?_,?_⟩⟩
 ·rw [zcm hk]
  by_cases h:i=k
  ·subst h
   rw [List.getElem?_set_self hk'] at hi
   cases hi
   rw [if_pos rfl]
   exact ⟨vs',by rw [ze h1];exact e,Paired.mapP hp fun v o r=>r.keep kt⟩
  ·rw [if_neg h]
   rw [List.getElem?_set_ne (Ne.symm h)] at hi
   obtain ⟨vs,hv,pv⟩:=S.at_ i ci hi
   exact ⟨vs,by rw [ze (fun z:ci=sh=>n1 (by rw [← z];exact List.mem_of_getElem? hi))];exact hv,Paired.mapP pv fun v o r=>r.keep kt⟩
 ·rcases hmem sh z with z|z
  ·exact h1 z.symm
  ·exact n1 z
 ·refine List.pairwise_iff_getElem.mpr fun i j hi hj hij=>?_
  rw [List.length_set] at hi hj
  rw [List.getElem_set,List.getElem_set]
  have nij:=List.pairwise_iff_getElem.mp n2 i j hi hj hij
  split
  ·split
   ·omega
   ·exact fun z=>h2 (by rw [z];exact List.getElem_mem hj)
  ·split
   ·exact fun z=>h2 (by rw [← z];exact List.getElem_mem hi)
   ·exact nij
theorem zlM {H:Hp}:∀ {n:Nat},Paired (za5 H) (List.replicate n V.non) (List.replicate n none)
 | 0=>.nil
 | n+1=>by rw [List.replicate_succ,List.replicate_succ];exact .cons rfl zlM
theorem zkM {α β:Type}{R:α→β→Prop}:∀ {l:List α}{m:List β}{j:Nat},Paired R l m→Paired R (l.drop j) (m.drop j)
 | _,_,0,h=>h
 | _,_,_+1,.nil=>.nil
 | _,_,j+1,.cons _ t=>zkM (j:=j) t
theorem znr {xs:List V}{j:Nat} (h:j≤xs.length):za7 xs (some (j:Int)) none=xs.drop j:=by
 unfold za7
 rw [HT.sIx_nat,HT.sIx_none,Nat.min_eq_left h,List.take_of_length_le (by rw [List.length_drop];exact Nat.le_refl _)]
theorem zxg {n:Nat}{x:V}:(List.replicate n [x]).flatten=List.replicate n x:=by
 induction n with
 | zero=>rfl
 | succ n ih=>rw [List.replicate_succ,List.flatten_cons,ih];rfl
section
variable {P:Program}{w:World}{K:Frag}{mg:Str→Option Value}{base:Heap}{A:zn}
structure SmI (H:Hp) (rs:List (List OR)) (i:Nat) (τ:L2.St) (ys:List V) (H':Hp):Prop where
 ex:∃ t1 t2,τ=[t1,t2]
 ys:∃ l:List Nat,ys=l.map iv∧l.length≤i∧∀ k∈l,k<rs.length∧(rs.getD k []).length≠0
 same:zl H H'
 le:i≤16
def zhX (A:zn):Sp:=fun vs H Q _=>∃ (a nl p wl sl sh:Addr) (cells shc:List Addr) (m:Int) (d:DM) (ns:List Int),vs=[.ref a,.ref p,.ref sh]∧QW A H a nl p wl sl sh cells shc m d ns∧TOk m d ns ∧
 ∀ p' wl' sl' cells' shc' d' H',QW A H' a nl p' wl' sl' sh cells' shc' m d' ns→TOk m d' ns→zm (FT a nl p wl sl sh cells shc) H H'→(∀ x∈FT a nl p' wl' sl' sh cells' shc',x∈FT a nl p wl sl sh cells shc∨H x=none)→Q (.ref p') H'
theorem zdl:zz ["_law_pot_here","_law_disk_here","_law_shelf","_law_some","_law_stretch","_law_many","_law_told"] ["_law_pot_here","_law_disk_here","_law_shelf"] (zd zdh):=⟨rfl,rfl,rfl,by decide +kernel,rfl,by decide +kernel,by decide +kernel⟩
theorem zoA:zaT { kind:=.function,names:=[(Str.ofString ".0",.local),(Str.ofString "_law_k",.local),(Str.ofString "_law_rows_here",.local)],isGenerator:=false,isCoroutine:=false,more:=[] } (zd zdh).names ["_law_pot_here","_law_disk_here","_law_shelf","_law_some","_law_stretch","_law_many","_law_told"] ["_law_k","_law_rows_here"] [none,none]=true:=by decide +kernel
theorem zkX:(["_law_k","_law_rows_here"]:List Str).Nodup:=by decide +kernel
theorem ztr {f:Addr}{fd:FuncData} (F:Fun K "_law_torn" "_law_torn" zdh f fd) (T:Txt w K mg A) (G__law_draw:GF P w K mg base true 1 "_law_draw" ["_law_pot_here","_law_many"] zbD) (G__law_drawn:GF P w K mg base true 2 "_law_drawn" ["_law_pot_here","_law_some"] zeX) (M_Disk_stop:GM P w K mg base true 1 A.Disk "stop" ["self","many"] (zga A)) (M_Disk_empty:GMX P w K mg base true 2 A.Disk "empty" ["self","stretch"] (zgo A)) (M_Disk_copied:GM P w K mg base true 5 A.Disk "copied" ["self"] (ziS A)):zp P w K mg base CX0 true 6 f fd ["_law_pot_here","_law_disk_here","_law_shelf"] (zhX A):=by
 refine F.ok zdl (fun vs H Q E h=>?_) (fun cdv Ar outer s H vs Q E hr h=>?_)
 ·obtain ⟨a,nl,p,wl,sl,sh,cells,shc,m,d,ns,rfl,_⟩:=h;rfl
 ·obtain ⟨a,nl,p,wl,sl,sh,cells,shc,m,d,ns,rfl,Tw,ok,q⟩:=h
  have hu:_<cLine:=Nat.lt_of_succ_lt (zax hr)
  refine ⟨_,(W.h (zg (ze8 (i0:=3) zdl.nd rfl (Or.inl rfl) (fun _=>rfl) (zaz.of zoA) (ze2 rfl T.n_enumerate (zb (za 2) zc)) (fun _ _ _ _ _=>(zfS (n:=2) (zau (zO (i:=0) zkX rfl (Or.inl rfl)) (zau (zO (i:=1) zkX rfl (Or.inl rfl)) zbL)))) (fun _ _ _ _ _=>(zdf (zM (zuL hu) (za 1) (zX zc) (zD _)))) (fun _ _ _ _ _=>(za 0)))
   (zg (zN (zb3 (zim (zM (zgh hu) (za 3) (zX zc) (zD _)) (zhk (zM (zaL hu) (zo G__law_draw hr rfl (zb (za 0) (zb zj zc))) zj (zD _)))))
   (zh (zu (za 1)))
   zU)
   (zg (zx (i:=4) zdl.nd rfl (Or.inl rfl) (zo G__law_drawn hr rfl (zb (za 0) (zb (za 3) zc))))
   (zg (zx (i:=5) zdl.nd rfl (Or.inl rfl) (zo G__law_draw hr rfl (zb (za 0) (zb (zH zaQ rfl T.n_len PySem.boot_len (zb (zR zQ (za 2) (za 4) (fun _ _=>rfl)) zc)) zc))))
   (zg (zaa (zcu (za 1) T.cl_Disk M_Disk_stop hr (zb (za 5) zc)))
   (zg (zx (i:=6) zdl.nd rfl (Or.inl rfl) zaJ)
   (zg (zgY rfl rfl ⟨rfl,rfl⟩ T.ek_Stopped rfl T.mg_Stopped (fun pins Ex=>(zh (zaa (zcp (za 1) T.cl_Disk zfl M_Disk_empty hr (zb (za 4) zc))))) (fun pins ea=>by
   have hr:=hr.mark (v:=some (.ref ea))
   exact (zh (zx (i:=6) zdl.nd rfl (Or.inl rfl) zaJ))))
   (zg (zN (zaH (za 6))
   (zh (zdo (zK zaC (zK zdT (zX (zb zal zc)) (za 5)) (zdW zeg (zR zQ (za 2) (za 4) (fun _ _=>rfl)) (zdV (za 5)) zea)) (zex (za 2) (za 4) zem)))
   zU)
   (zh (zu (zby (za 1) T.cl_Disk M_Disk_copied hr)))))))))))),?_⟩
  have hsz:=ok.size
  have S:=Tw.dw.shelf
  simp_all only []
  refine ⟨⟨_,SqL.of S.w⟩,zah.enum (xs:=shc.map V.ref) (SmI H (rdR d.rows)) (fun i τ ys H' I=>?_) (fun i τ ys H' I=>SqL.of (I.same _ _ S.w)) ⟨⟨_,_,rfl⟩,⟨[],rfl,Nat.le_refl _,by simp⟩,zl.refl _,by omega⟩ ?_ ?_⟩
  ·obtain ⟨l,e,hl,_⟩:=I.ys
   rw [e,List.length_map]
   exact zaI (by have:=I.le;omega)
  ·intro N i x pt τ ys H' hx I hp hN
   obtain ⟨t1,t2,rfl⟩:=I.ex
   obtain ⟨l,e,hl,hm⟩:=I.ys
   rw [List.getElem?_map] at hx
   obtain ⟨c,hc,rfl⟩:=Option.map_eq_some_iff.mp hx
   have hi:i<(rdR d.rows).length:=by rw [← S.len];exact (List.getElem?_eq_some_iff.mp hc).1
   have hi16:i<16:=by rw [zar] at hi;omega
   obtain ⟨vs,hv,pv⟩:=S.at_ i c hc
   have lv:=zaR pv
   refine ⟨pt,_,rfl,SqT.of zF,rfl,?_⟩
   have nw:New H' pt (.tup [.int i,.ref c]) (upd H' pt (.tup [.int i,.ref c])):=.mk' hp
   generalize upd H' pt (.tup [.int i,.ref c])=H0 at nw ⊢
   simp_all only []
   refine ⟨Nat.zero_le _,fun pl H5 n5 _=>⟨_,n5.same _ _ (nw.same _ _ (I.same _ _ hv)),_,n5.at_,.inr rfl,?_⟩⟩
   have sm:=(I.same.trans nw.same).trans n5.same
   rw [show ([]:List V).length=0 from rfl]
   by_cases h0:vs.length=0
   ·rw [decide_eq_true h0]
    simp_all only []
    exact hN _ _ _ ⟨⟨_,_,rfl⟩,⟨l,e,by omega,hm⟩,sm,by omega⟩
   ·rw [decide_eq_false h0]
    simp_all only []
    refine hN _ _ _ ⟨⟨_,_,rfl⟩,⟨l++[i],by rw [e,List.map_append];rfl,by simp;omega,fun k hk=>?_⟩,sm,by omega⟩
    rcases List.mem_append.mp hk with hk|hk
    ·exact hm k hk
    ·rw [List.mem_singleton] at hk;subst hk;exact ⟨hi,by omega⟩
  ·intro τ ys H' I D2 H2 m2
   obtain ⟨l,e,hl,hm⟩:=I.ys
   rw [e] at m2
   have s2:zl H H2:=I.same.trans m2.same
   have T2:=Tw.same s2
   have stay:Q (.ref p) H2:=q p wl sl cells shc d H2 T2 ok (zm.same s2) fun x hx=>.inl hx
   intro _
   refine ⟨Nat.zero_le _,fun pl H3 m3 _=>?_⟩
   have T3:=T2.same m3.same
   have s3:=s2.trans m3.same
   rw [zlL]
   refine ⟨_,_,m3.same _ _ m2.at_,m3.at_,.inr rfl,?_⟩
   simp_all only []
   rw [List.length_map]
   by_cases hl0:l.length=0
   ·rw [if_pos (decide_eq_true hl0)]
    exact q p wl sl cells shc d H3 T3 ok (zm.same s3) fun x hx=>.inl hx
   rw [if_neg (by rw [decide_eq_false hl0];exact Bool.false_ne_true)]
   refine ⟨a,3,rfl,T3.pot,by decide,by decide,fun r H4 b4 hP4 r0 r1=>?_⟩
   have T4:=T3.potB b4 hP4
   have kp:∀ {H H':Hp},But a H H'→zm (FT a nl p wl sl sh cells shc) H H':=fun {H H'} b=>b.keeps.mono (by simp [FT])
   have k4:zm (FT a nl p wl sl sh cells shc) H H4:=(zm.same s3).trans (kp b4)
   simp only [zks,zmf]
   by_cases hr0:r=0
   ·rw [decide_eq_true hr0]
    exact q p wl sl cells shc d H4 T4 ok k4 fun x hx=>.inl hx
   rw [decide_eq_false hr0]
   have Da:D2≠a:=(Tw.pot.same I.same).ne m2.no
   have hl16:l.length≤16:=by
    have:=hl
    rw [List.length_map,S.len,zar] at this
    omega
   refine ⟨a,T4.pot,.inl ⟨D2,_,rfl,Da,.inl (b4 _ _ Da (m3.same _ _ m2.at_)),by rw [List.length_map];omega,by rw [List.length_map];omega,fun v H5 hv b5 hP5=>?_⟩⟩
   obtain ⟨k,hkl,rfl⟩:=List.mem_map.mp hv
   obtain ⟨hk',hne⟩:=hm k hkl
   have hk:k<d.rows.length:=by rw [zar] at hk';exact hk'
   have T5:=T4.potB b5 hP5
   have k5:=k4.trans (kp b5)
   obtain ⟨c,vs,hc,ha,hv5,pv5,lv5⟩:=T5.dw.shelf.cell (k:=k) hk'
   have hcm:=List.mem_of_getElem? hc
   have hlv:vs.length=(d.rows.getD k []).length:=by rw [lv5,zaK,List.length_map]
   have hw32:=ok.wide k
   unfold iv
   rw [zdq]
   refine ⟨_,.inl T5.dw.shelf.w,_,ha,?_⟩
   rw [zg6]
   refine ⟨_,.inl hv5,a,_,rfl,T5.pot,by omega,by omega,fun j' H6 b6 hP6 j0 j1=>?_⟩
   obtain ⟨j,rfl⟩:=Int.eq_ofNat_of_zero_le j0
   have hj:j<(d.rows.getD k []).length:=by omega
   have T6:=T5.potB b6 hP6
   have k6:=k5.trans (kp b6)
   obtain ⟨dx6,ob6⟩:=T6.dw.disk.ob
   refine ⟨dx6,_,ob6,zjw,p,wl,sl,cells,m,d,j,rfl,T6.dw.disk,fun H7 D7 b7=>?_⟩
   obtain ⟨dx7,ob7⟩:=D7.ob
   refine ⟨dx7,_,ob7,zlX,p,wl,sl,cells,m,d.stop j,k,rfl,D7,hk,ok.small,(fun l e=>by cases e;omega),fun H8 D8 b8=>?_⟩
   rw [zt4 T6.live.2 hj] at D8 ⊢
   unfold Out
   dsimp only
   refine ⟨_,rfl,T.ek_Stopped,T.ms_Stopped,fun ea oe he _=>?_⟩
   have b68:zm (p::wl::sl::cells) H6 H8:=(b7.mono (by simp)).trans b8
   have s89:zl H8 (upd H8 ea (.frz oe (.own 0))):=fun x o e=>by rw [ze (zt e he)];exact e
   generalize upd H8 ea (.frz oe (.own 0))=H9 at s89 ⊢
   have D9:=D8.sameT (.of s89)
   have b69:zm (p::wl::sl::cells) H6 H9:=b68.trans (zm.same s89)
   obtain ⟨S9,tb9⟩:=T6.dw.diskB b69
   obtain ⟨c9,vs9,hc9,ha9,hv9,pv9,lv9⟩:=S9.cell (k:=k) hk'
   have hw9:=S9.w
   have hlv9:vs9.length=(d.rows.getD k []).length:=by rw [lv9,zaK,List.length_map]
   try simp_all only [hw9,ha9,hv9]
   refine ⟨by decide,fun p1 H10 m10 _=>⟨_,m10.at_,by omega,by omega,zai (by simp;omega),fun p2 H11 m11=>?_⟩⟩
   have s11:zl H9 H11:=m10.same.trans m11.same
   refine ⟨_,.inl (s11 _ _ hw9),_,ha9,?_⟩
   rw [zhA]
   refine ⟨_,s11 _ _ hv9,fun p3 H12 m12=>?_⟩
   rw [znr (by omega)] at m12
   rw [zcS]
   have e11:=m11.at_
   rw [Int.toNat_natCast,zxg] at e11
   refine ⟨_,_,m12.same _ _ e11,m12.at_,zai (by simp;omega),fun p4 H13 m13=>?_⟩
   have s12:zl H9 H12:=s11.trans m12.same
   have s13:zl H9 H13:=s12.trans m13.same
   have S13:=S9.same s13
   have tb13:=tb9.same s13
   have D13:=D9.sameT (.of s13)
   have hkL:k<shc.length:=by rw [S9.len];exact hk'
   have ix:ixN (shc.map V.ref).length (k:Int)=some k:=by
    unfold ixN
    rw [if_pos (by omega),if_pos (by rw [List.length_map];omega)]
    simp
   refine ⟨_,S13.w,k,ix,?_⟩
   have h4sh:p4≠sh:=fun z=>by have:=m13.no;rw [z,s12 _ _ hw9] at this;cases this
   have h4c:p4∉shc:=fun z=>by
    obtain ⟨i,hi,e⟩:=List.getElem_of_mem z
    obtain ⟨us,eu,_⟩:=S9.at_ i _ (List.getElem?_eq_getElem hi)
    have:=m13.no
    rw [← e,s12 _ _ eu] at this;cases this
   have pv13:Paired (za5 H13) (List.replicate j V.non++vs9.drop j) (List.replicate j none++((rdR d.rows).getD k []).drop j):=zcP zlM (Paired.mapP (zkM pv9) fun v o r=>r.keep fun r xs e=>s13 _ _ e)
   have S14:=S13.swap hk' m13.at_ h4sh h4c pv13
   have kS:zm [sh] H13 (upd H13 sh (.lst ((shc.map V.ref).set k (.ref p4)))):=zm.upd (by simp)
   have tb14:TB A (upd H13 sh (.lst ((shc.map V.ref).set k (.ref p4)))):=tb13.put S13.w
   have D14:=D13.keep kS fun x hx z=>by
    rw [List.mem_singleton] at z
    obtain ⟨dxx,obx⟩:=D13.ob
    rcases List.mem_cons.mp hx with rfl|hx
    ·rw [z,S13.w] at obx;cases obx
    ·exact (T6.dw.ap x hx).1 z
   have k13:zm (FT a nl p wl sl sh cells shc) H H13:=(k6.trans (b69.mono (by simp [FT];intro x hx;simp [hx]))).trans (zm.same s13)
   have k14:zm (FT a nl p wl sl sh cells shc) H (upd H13 sh (.lst ((shc.map V.ref).set k (.ref p4)))):=k13.trans (kS.mono (by simp [FT]))
   have a14:Pot (upd H13 sh (.lst ((shc.map V.ref).set k (.ref p4)))) a:=by
    obtain ⟨x,y,e,rr⟩:=T6.pot.ex
    exact ⟨⟨x,y,by rw [ze T6.ap2.2.1];exact s13 _ _ (b69 _ _ e (T6.dw.disk.out e fun x hx=>(T6.ap x hx).1)),rr⟩⟩
   have n14:(upd H13 sh (.lst ((shc.map V.ref).set k (.ref p4)))) nl=some (.lst (ns.map V.int)):=by
    rw [ze T6.ap2.2.2.2.1];exact s13 _ _ (b69 _ _ T6.nums (T6.dw.disk.out T6.nums fun x hx=>(T6.ap x hx).2))
   have h4H:p4∈FT a nl p wl sl sh cells shc∨H p4=none:=by
    by_cases z:p4∈FT a nl p wl sl sh cells shc
    ·exact .inl z
    ·refine .inr ?_
     cases e:H p4 with
     | none=>rfl
     | some o =>
      have:=((k6.trans (b69.mono (by simp [FT];intro x hx;simp [hx]))).trans (zm.same s12)) _ _ e z
      rw [m13.no] at this;cases this
   have h4a:a≠p4:=fun z=>by
    obtain ⟨xs,e⟩:=T6.pot.lst
    have:=s12 _ _ (b69 _ _ e (T6.dw.disk.out e fun x hx=>(T6.ap x hx).1))
    rw [z,m13.no] at this;cases this
   have h4n:nl≠p4:=fun z=>by
    have:=s12 _ _ (b69 _ _ T6.nums (T6.dw.disk.out T6.nums fun x hx=>(T6.ap x hx).2))
    rw [z,m13.no] at this;cases this
   generalize upd H13 sh (.lst ((shc.map V.ref).set k (.ref p4)))=H14 at S14 tb14 D14 k14 a14 n14 ⊢
   obtain ⟨dx14,ob14⟩:=D14.ob
   have rl:(d.torn k j).rows.length=d.rows.length:=List.length_set ..
   refine ⟨dx14,_,ob14,zqs,p,wl,sl,cells,m,_,rfl,D14,by show 3≤(d.torn k j).rows.length;omega,by show (d.torn k j).rows.length≤16;omega,hsz.2.2.1,hsz.2.2.2,fun p' wl' sl' cells' H15 D15 s15 f15=>?_⟩
   have hmem:∀ x∈shc.set k p4,x=p4∨x∈shc:=fun x hx=>(List.mem_or_eq_of_mem_set hx).symm
   have fr:∀ x∈p'::wl'::sl'::cells',x∈FT a nl p wl sl sh cells shc∨H x=none:=fun x hx=>by
    by_cases z:x∈FT a nl p wl sl sh cells shc
    ·exact .inl z
    ·refine .inr ?_
     cases e:H x with
     | none=>rfl
     | some o =>
      have:=k14 _ _ e z
      rw [f15 x hx] at this;cases this
   have hrd:rdR (d.torn k j).rows=(rdR d.rows).set k (List.replicate j none++((rdR d.rows).getD k []).drop j):=by
    show rdR (d.rows.set k _)=_
    rw [zcA,List.map_append,List.map_replicate,List.map_drop,zaK];rfl
   refine q p' wl' sl' cells' (shc.set k p4) { d.torn k j with left:=none,st:=false } H15 ⟨⟨D15,?_,fun x hx=>?_,tb14.same s15,zuP (c:=0) Tw.dw.ok hk hj⟩,a14.same s15,s15 _ _ n14,fun x hx=>?_,⟨T6.ap2.1,T6.ap2.2.1,fun z=>?_,T6.ap2.2.2.2.1,fun z=>?_⟩,⟨rfl,rfl⟩,Tw.sd⟩ (zu4 ok hk hj) (k14.trans (zm.same s15)) fun x hx=>?_
   ·show zab H15 sh _ (rdR (d.torn k j).rows)
    rw [hrd];exact S14.same s15
   ·have hx0:=f15 x (List.mem_cons_of_mem _ hx)
    refine ⟨fun z=>?_,fun z=>?_⟩
    ·rw [z,S14.w] at hx0;cases hx0
    ·obtain ⟨i,hi,e⟩:=List.getElem_of_mem z
     obtain ⟨us,eu,_⟩:=S14.at_ i _ (List.getElem?_eq_getElem hi)
     rw [← e,eu] at hx0;cases hx0
   ·have hx0:=f15 x (List.mem_cons_of_mem _ hx)
    refine ⟨a14.ne hx0,fun z=>?_⟩
    rw [z,n14] at hx0;cases hx0
   ·rcases hmem _ z with z|z
    ·exact h4a z
    ·exact T6.ap2.2.2.1 z
   ·rcases hmem _ z with z|z
    ·exact h4n z
    ·exact T6.ap2.2.2.2.2 z
   ·unfold FT at hx
    rcases List.mem_cons.mp hx with rfl|hx
    ·exact .inl (by simp [FT])
    ·rcases List.mem_cons.mp hx with rfl|hx
     ·exact .inl (by simp [FT])
     ·rcases List.mem_cons.mp hx with rfl|hx
      ·exact fr _ (by simp)
      ·rcases List.mem_cons.mp hx with rfl|hx
       ·exact fr _ (by simp)
       ·rcases List.mem_cons.mp hx with rfl|hx
        ·exact fr _ (by simp)
        ·rcases List.mem_cons.mp hx with rfl|hx
         ·exact .inl (by simp [FT])
         ·rcases List.mem_append.mp hx with hx|hx
          ·exact fr _ (by simp [hx])
          ·rcases hmem x hx with rfl|hx
           ·exact h4H
           ·exact .inl (by simp [FT,hx])
end
abbrev zcK:Stmt:=top 65
theorem zgj {α:Type} (n i:Nat):(List.replicate n ([]:List α)).getD i []=[]:=by
 rw [List.getD_eq_getElem?_getD,List.getElem?_replicate]
 split <;> rfl
theorem zjH (n:Nat):nU (DM.new n)=[]:=by
 refine List.eq_nil_iff_forall_not_mem.mpr fun t ht=>?_
 rw [zbk,zbp] at ht
 have h:=ht.2.1
 rw [zaK,List.length_map] at h
 have e:(DM.new n).rows.getD t.2.1 []=[]:=zgj n _
 rw [e] at h
 simp at h
theorem zkq {n:Nat} (h:n≤16):DOk (DM.new n):=by
 have e:=zjH n
 refine ⟨⟨fun r hr=>?_,by show (List.replicate n _).length≤16;rw [List.length_replicate];exact h⟩,by rw [e];exact List.nodup_nil,by rw [e];decide,(fun t ht=>by rw [e] at ht;cases ht),(fun t ht=>by rw [e] at ht;cases ht)⟩
 rw [(List.mem_replicate.mp hr).2]
 exact ⟨by simp,by simp⟩
theorem zry {n:Nat}{m:Int}{ns:List Int} (h1:3≤n) (h2:n≤16) (h3:2≤m) (h4:m≤32) (nd:ns.Nodup) (hi:∀ x∈ns,1≤x∧x<10 ^ 17) (hl:ns.length≤20):TOk m (DM.new n) ns:=by
 have e:=zjH n
 refine ⟨by show 3≤(List.replicate n _).length∧(List.replicate n _).length≤16∧_;rw [List.length_replicate];exact ⟨h1,h2,h3,h4⟩,fun i=>?_,nd,hi,(fun t ht=>by rw [e] at ht;cases ht),by rw [e];simpa using hl⟩
 show (((List.replicate n ([]:List Tx)).getD i []).length:Int)≤m
 rw [zgj];simp;omega
section
variable {P:Program}{w:World}{K:Frag}{mg:Str→Option Value}{base:Heap}{A:zn}
structure Lp1 (A:zn) (H0:Hp) (a nl p wl sl sh:Addr) (cells shc:List Addr) (m:Int) (lo:Nat) (i:Nat) (σ:L2.St) (H':Hp):Prop where
 ex:∃ t,σ=[some (V.ref a),some (.ref p),some (.ref sh),some (.ref nl),t]
 st:∃ d ns,QW A H' a nl p wl sl sh cells shc m d ns∧TOk m d ns∧lo≤ns.length+i
 keep:zm (FT a nl p wl sl sh cells shc) H0 H'
def zgD (A:zn):Sp:=fun vs H Q _=>∃ a,vs=[.ref a]∧Pot H a∧TB A H∧∀ tp p wl sl sh cells shc m d H',H' tp=some (.tup [.ref p,.ref sh])→DW A H' p wl sl sh cells shc m d→Pot H' a→But a H H' →
 (∀ x∈p::wl::sl::sh::(cells++shc),x≠a∧H x=none)→d.left=none→d.st=false→d.sides.length=2→(3≤d.rows.length∧d.rows.length≤16∧2≤m∧m≤32)→(∀ i,((d.rows.getD i []).length:Int)≤m)→Q (.ref tp) H'
theorem zcO:zz ["_law_pot_here","_law_disk_here","_law_shelf","_law_numbers_here","_law_turn_here"] ["_law_pot_here"] (zd zcK):=⟨rfl,rfl,rfl,by decide +kernel,rfl,by decide +kernel,by decide +kernel⟩
theorem zpm:zaT { kind:=.function,names:=[(Str.ofString ".0",.local),(Str.ofString "_law_k",.local)],isGenerator:=false,isCoroutine:=false,more:=[] } (zd zcK).names ["_law_pot_here","_law_disk_here","_law_shelf","_law_numbers_here","_law_turn_here"] ["_law_k"] [none]=true:=by decide +kernel
theorem zvy:(["_law_k"]:List Str).Nodup:=by decide +kernel
theorem znG {f:Addr}{fd:FuncData} (F:Fun K "_law_disk" "_law_disk" zcK f fd) (T:Txt w K mg A) (G__law_drawn:GF P w K mg base true 2 "_law_drawn" ["_law_pot_here","_law_some"] zeX) (G_Disk:GCX P w K mg base true 3 "Disk" A.Disk ["self","stretches","places"] (zej A)) (M_Disk_stretches:GM P w K mg base true 1 A.Disk "stretches" ["self"] (zaV A fun _ d=>.int d.rows.length)) (G__law_numbers:GF P w K mg base true 2 "_law_numbers" ["_law_pot_here","_law_many"] zht) (G__law_draw:GF P w K mg base true 1 "_law_draw" ["_law_pot_here","_law_many"] zbD) (G__law_turn:GF P w K mg base true 4 "_law_turn" ["_law_pot_here","_law_disk_here","_law_shelf","_law_numbers_here"] (zix A)) (G__law_torn:GF P w K mg base true 6 "_law_torn" ["_law_pot_here","_law_disk_here","_law_shelf"] (zhX A)):zp P w K mg base CX0 true 7 f fd ["_law_pot_here"] (zgD A):=by
 refine F.ok zcO (fun vs H Q E h=>?_) (fun cdv Ar outer s H vs Q E hr h=>?_)
 ·obtain ⟨a,rfl,_⟩:=h;rfl
 ·obtain ⟨a,rfl,hP,tb,q⟩:=h
  have hu:_<cLine:=Nat.lt_of_succ_lt (zax hr)
  refine ⟨_,(W.h (zg (zx (i:=1) zcO.nd rfl (Or.inl rfl) (zhG zbM G_Disk hr rfl (zb (zo G__law_drawn hr rfl (zb (za 0) (zb (zX (zb zj (zb zj (zb zj (zb zj (zb zj zc)))))) zc))) (zb (zo G__law_drawn hr rfl (zb (za 0) (zb (zX (zb zj (zb zj (zb zj (zb zj (zb zj zc)))))) zc))) zc))))
   (zg (ze8 (i0:=2) zcO.nd rfl (Or.inl rfl) (fun _=>rfl) (zaz.of zpm) (zbG rfl T.n_range (zb (zby (za 1) T.cl_Disk M_Disk_stretches hr) zc)) (fun _ _ _ _ _=>(zO (i:=0) zvy rfl (Or.inl rfl))) (fun _ _ _ _ _=>zdE) (fun _ _ _ _ _=>(zX zc)))
   (zg (zx (i:=3) zcO.nd rfl (Or.inl rfl) (zo G__law_numbers hr rfl (zb (za 0) (zb zj zc))))
   (zg (zbl PassesOwn.never (fun _=>rfl) (zbG rfl T.n_range (zb (zo G__law_draw hr rfl (zb (za 0) (zb zj zc))) zc)) (zO (i:=4) zcO.nd rfl (Or.inl rfl))
   (zh (zaa (zo G__law_turn hr rfl (zb (za 0) (zb (za 1) (zb (za 2) (zb (za 3) zc))))))))
   (zg (zx (i:=1) zcO.nd rfl (Or.inl rfl) (zo G__law_torn hr rfl (zb (za 0) (zb (za 1) (zb (za 2) zc)))))
   (zg (zbl PassesOwn.never (fun _=>rfl) (zbG rfl T.n_range (zb (zo G__law_draw hr rfl (zb (za 0) (zb zj zc))) zc)) (zO (i:=4) zcO.nd rfl (Or.inl rfl))
   (zh (zaa (zo G__law_turn hr rfl (zb (za 0) (zb (za 1) (zb (za 2) (zb (za 3) zc))))))))
   (zh (zu (zaY (zb (za 1) (zb (za 2) zc)))))))))))),?_⟩
  have lst:∀ {H:Hp},Pot H a→∀ x∈[a],(∃ xs,H x=some (.lst xs))∨∃ C dx fs,H x=some (.ins C dx fs):=fun {H} h x hx=>by
   rw [List.mem_singleton] at hx;subst hx
   obtain ⟨xs,e⟩:=h.lst
   exact .inl ⟨xs,e⟩
  simp_all only []
  refine ⟨by decide,fun l1 H1 m1 _=>⟨a,hP.same m1.same,.inl ⟨l1,_,rfl,hP.ne m1.no,.inl m1.at_,by simp,by simp,fun v1 H2 hv1 b2 hP2=>?_⟩⟩⟩
  obtain ⟨n,rfl,hn1,hn2⟩:∃ n:Nat,v1 = .int n∧3≤n∧n≤16:=by
   simp only [List.mem_cons,List.not_mem_nil,or_false] at hv1
   rcases hv1 with rfl|rfl|rfl|rfl|rfl
   ·exact ⟨3,rfl,by decide,by decide⟩
   ·exact ⟨3,rfl,by decide,by decide⟩
   ·exact ⟨4,rfl,by decide,by decide⟩
   ·exact ⟨5,rfl,by decide,by decide⟩
   ·exact ⟨16,rfl,by decide,by decide⟩
  have bA:=(But.of m1.same).trans b2
  have tb2:TB A H2:=(tb.same m1.same).lists b2.keeps (lst (hP.same m1.same))
  refine ⟨by decide,fun l3 H3 m3 _=>⟨a,hP2.same m3.same,.inl ⟨l3,_,rfl,hP2.ne m3.no,.inl m3.at_,by simp,by simp,fun v2 H4 hv2 b4 hP4=>?_⟩⟩⟩
  obtain ⟨m,rfl,hm1,hm2⟩:∃ m:Int,v2 = .int m∧2≤m∧m≤32:=by
   simp only [List.mem_cons,List.not_mem_nil,or_false] at hv2
   rcases hv2 with rfl|rfl|rfl|rfl|rfl
   ·exact ⟨2,rfl,by decide,by decide⟩
   ·exact ⟨2,rfl,by decide,by decide⟩
   ·exact ⟨3,rfl,by decide,by decide⟩
   ·exact ⟨5,rfl,by decide,by decide⟩
   ·exact ⟨32,rfl,by decide,by decide⟩
  have bB:=(bA.trans (But.of m3.same)).trans b4
  have tb4:TB A H4:=(tb2.same m3.same).lists b4.keeps (lst (hP2.same m3.same))
  refine fun p dxp H5 nI=>⟨p,dxp,n,m,rfl,nI.at_,by omega,by omega,by omega,by omega,fun wl sl cells H6 D6 k6 f6=>⟨rfl,?_⟩⟩
  rw [Int.toNat_natCast] at D6
  have P5:=hP4.same nI.same
  obtain ⟨xa,ya,ea,ra⟩:=P5.ex
  have apn:a≠p:=fun z=>by rw [z,nI.at_] at ea;cases ea
  have P6:Pot H6 a:=⟨⟨xa,ya,k6 _ _ ea apn,ra⟩⟩
  have kp6:zm [p] H5 H6:=fun c o e n=>k6 c o e (fun z=>n (by simp [z]))
  have tb6:TB A H6:=(tb4.same nI.same).lists kp6 (fun x hx=>by rw [List.mem_singleton] at hx;subst hx;exact .inr ⟨_,_,_,nI.at_⟩)
  have b6:But a H H6:=fun x o nx e=>k6 x o (nI.same _ _ (bB x o nx e)) (fun z=>by have:=bB x o nx e;rw [z,nI.no] at this;cases this)
  have frp:∀ x∈p::wl::sl::cells,x≠a∧H x=none:=fun x hx=>by
   rcases List.mem_cons.mp hx with rfl|hx
   ·exact ⟨Ne.symm apn,bB.no hP4 nI.no⟩
   ·have h5:=f6 x hx
    have h4:H4 x=none:=nI.same.free h5
    exact ⟨P5.ne h5,bB.no hP4 h4⟩
  obtain ⟨dx6,ob6⟩:=D6.ob
  refine ⟨dx6,_,ob6,zgm,p,wl,sl,cells,m,_,rfl,D6,?_⟩
  have er:(DM.new n).rows.length=n:=List.length_replicate ..
  try simp_all only []
  rw [er,Int.toNat_natCast]
  refine ⟨by omega,by omega,zah.rng (zkr H6) (fun i τ ys H' I=>?_) ⟨⟨_,rfl⟩,⟨[],rfl,rfl,by simp,List.nodup_nil⟩,zl.refl _,by decide⟩ ?_ ?_⟩
  ·obtain ⟨cs,e,l,_⟩:=I.ex
   rw [e,List.length_map,l]
   exact zaI (by have:=I.le;omega)
  ·intro N i τ ys H' hi I hN
   obtain ⟨t,rfl⟩:=I.τ
   obtain ⟨cs,e,l,hc,hcn⟩:=I.ex
   simp_all only []
   refine ⟨Nat.zero_le _,fun c H7 n7 _=>hN _ _ _ ⟨⟨_,rfl⟩,⟨cs++[c],by rw [e];simp,by simp [l],fun x hx=>?_,?_⟩,I.same.trans n7.same,by omega⟩⟩
   ·rcases List.mem_append.mp hx with hx|hx
    ·exact ⟨n7.same _ _ (hc x hx).1,(hc x hx).2⟩
    ·rw [List.mem_singleton] at hx;subst hx;exact ⟨n7.at_,I.same.free n7.no⟩
   ·rw [List.nodup_append]
    refine ⟨hcn,by simp,fun x hx y hy z=>?_⟩
    rw [List.mem_singleton] at hy
    have:=(hc x hx).1
    rw [z,hy,n7.no] at this
    cases this
  ·intro τ ys H7 I sh H8 n8
   obtain ⟨shc,e,lc,hc,hcn⟩:=I.ex
   rw [e] at n8
   have s68:zl H6 H8:=I.same.trans n8.same
   have shn:sh∉shc:=fun z=>by have:=n8.no;rw [(hc sh z).1] at this;cases this
   have rrep:rdR (DM.new n).rows=List.replicate n []:=by
    show (List.replicate n ([]:List Tx)).map _=_
    rw [List.map_replicate];rfl
   have rep:∀ i c,shc[i]?=some c→H8 c=some (.lst []):=fun i c h=>n8.same _ _ (hc c (List.mem_of_getElem? h)).1
   have S8:zab H8 sh shc (rdR (DM.new n).rows):=by
    rw [rrep]
    exact ⟨n8.at_,by rw [List.length_replicate];exact lc,fun i c h=>⟨[],rep i c h,by rw [zgj];exact .nil⟩,List.nodup_cons.mpr ⟨shn,hcn⟩⟩
   have fr:∀ x o,H6 x=some o→x≠sh∧x∉shc:=fun x o h=>by
    refine ⟨fun z=>?_,fun z=>?_⟩
    ·have:=n8.no;rw [← z,I.same _ _ h] at this;cases this
    ·have:=(hc x z).2;rw [h] at this;cases this
   have D6H:∀ x∈wl::sl::cells,∃ o,H6 x=some o:=fun x hx=>by
    rcases D6.lists x (List.mem_cons_of_mem _ hx) with ⟨xs,h⟩|⟨_,_,_,h⟩ <;> exact ⟨_,h⟩
   have W8:DW A H8 p wl sl sh cells shc m (DM.new n):=⟨D6.sameT (.of s68),S8,fun x hx=>by obtain ⟨o,ho⟩:=D6H x hx;exact fr x o ho,tb6.same s68,zkq hn2⟩
   have P8:=P6.same s68
   obtain ⟨x6,y6,ea6,_⟩:=P6.ex
   obtain ⟨asn,acn⟩:=fr a _ ea6
   have b8:But a H H8:=b6.trans (But.of s68)
   refine ⟨a,14,rfl,P8,by decide,by decide,fun nl ns H9 b9 hP9 nl0 hnl hlen nd hin=>?_⟩
   have b9':=b8.trans b9
   have nlx:∀ x o,H8 x=some o→x≠nl:=fun x o h z=>by rw [z,nl0] at h;cases h
   have Q9:QW A H9 a nl p wl sl sh cells shc m (DM.new n) ns:=by
    refine ⟨W8.potB P8 (fun x hx=>(frp x (List.mem_cons_of_mem _ hx)).1) asn acn b9,hP9,hnl,fun x hx=>⟨(frp x (List.mem_cons_of_mem _ hx)).1,?_⟩,⟨nlx a _ (s68 _ _ ea6),asn,acn,(nlx sh _ S8.w).symm,fun z=>?_⟩,⟨rfl,rfl⟩,rfl⟩
    ·obtain ⟨o,ho⟩:=D6H x hx
     exact nlx x o (s68 _ _ ho)
    ·obtain ⟨i,hi,ei⟩:=List.getElem_of_mem z
     exact nlx nl _ (rep i nl (by rw [← ei];exact List.getElem?_eq_getElem hi)) rfl
   have T9:TOk m (DM.new n) ns:=zry hn1 hn2 hm1 hm2 nd hin (by omega)
   have fr9:∀ x∈FT a nl p wl sl sh cells shc,x=a∨H x=none:=fun x hx=>by
    unfold FT at hx
    rcases List.mem_cons.mp hx with rfl|hx
    ·exact .inl rfl
    ·rcases List.mem_cons.mp hx with rfl|hx
     ·exact .inr (b8.no P8 nl0)
     ·rcases List.mem_cons.mp hx with rfl|hx
      ·exact .inr (frp _ (by simp)).2
      ·rcases List.mem_cons.mp hx with rfl|hx
       ·exact .inr (frp _ (by simp)).2
       ·rcases List.mem_cons.mp hx with rfl|hx
        ·exact .inr (frp _ (by simp)).2
        ·rcases List.mem_cons.mp hx with rfl|hx
         ·exact .inr (b6.no P6 (I.same.free n8.no))
         ·rcases List.mem_append.mp hx with hx|hx
          ·exact .inr (frp _ (by simp [hx])).2
          ·exact .inr (b6.no P6 (hc x hx).2)
   have but_of:∀ {Hy Hc:Hp}{F:List Addr},But a H Hy→(∀ x∈F,x=a∨H x=none)→zm F Hy Hc→But a H Hc:=fun {Hy Hc F} b fr k x o nx e=>k x o (b x o nx e) fun z=>by
    rcases fr x z with z|z
    ·exact nx z
    ·rw [e] at z;cases z
   try simp_all only []
   refine ⟨a,10,rfl,hP9,by decide,by decide,fun r1 H10 b10 hP10 r10 r11=>?_⟩
   have Q10:=Q9.potB b10 hP10
   have bt10:=b9'.trans b10
   try simp_all only []
   refine ⟨by omega,by omega,zak.rng (Lp1 A H10 a nl p wl sl sh cells shc m 14) ⟨⟨_,rfl⟩,⟨_,ns,Q10,T9,by omega⟩,zm.refl⟩ ?_ ?_⟩
   ·rintro i σ Ha hi ⟨⟨t,rfl⟩,⟨d,ns',Qa,Ta,hl⟩,ka⟩
    simp_all only []
    exact ⟨a,nl,p,wl,sl,sh,cells,shc,m,d,ns',rfl,Qa,Ta,by omega,fun d' ns2 Hb Qb Tb hl2 kb=>⟨⟨_,rfl⟩,⟨d',ns2,Qb,Tb,by omega⟩,ka.trans kb⟩⟩
   ·rintro σ Ha ⟨⟨t,rfl⟩,⟨d,ns',Qa,Ta,hl⟩,ka⟩
    have bta:=but_of bt10 fr9 ka
    simp_all only []
    refine ⟨a,nl,p,wl,sl,sh,cells,shc,m,d,ns',rfl,Qa,Ta,fun p' wl' sl' cells' shc' d' Hb Qb Tb kb fb=>?_⟩
    have btb:=but_of bta fr9 kb
    have frb:∀ x∈FT a nl p' wl' sl' sh cells' shc',x=a∨H x=none:=fun x hx=>by
     rcases fb x hx with h|h
     ·exact fr9 x h
     ·exact .inr (bta.no Qa.pot h)
    try simp_all only []
    refine ⟨a,6,rfl,Qb.pot,by decide,by decide,fun r2 Hc bc hPc r20 r21=>?_⟩
    have Qc:=Qb.potB bc hPc
    have btc:=btb.trans bc
    try simp_all only []
    refine ⟨by omega,by omega,zak.rng (Lp1 A Hc a nl p' wl' sl' sh cells' shc' m 5) ⟨⟨_,rfl⟩,⟨d',ns',Qc,Tb,by omega⟩,zm.refl⟩ ?_ ?_⟩
    ·rintro i σ Hd hi ⟨⟨t,rfl⟩,⟨d2,ns2,Qd,Td,hl2⟩,kd⟩
     simp_all only []
     exact ⟨a,nl,p',wl',sl',sh,cells',shc',m,d2,ns2,rfl,Qd,Td,by omega,fun d3 ns3 He Qe Te hl3 ke=>⟨⟨_,rfl⟩,⟨d3,ns3,Qe,Te,by omega⟩,kd.trans ke⟩⟩
    ·rintro σ Hd ⟨⟨t,rfl⟩,⟨d2,ns2,Qd,Td,hl2⟩,kd⟩
     have btd:=but_of btc frb kd
     simp_all only []
     refine ⟨by decide,fun tp He me=>?_⟩
     have Qe:=Qd.same me.same
     refine q tp p' wl' sl' sh cells' shc' m d2 He me.at_ Qe.dw Qe.pot (btd.trans (But.of me.same)) (fun x hx=>?_) Qe.live.1 Qe.live.2 Qe.sd Td.size Td.wide
     have hxF:x∈FT a nl p' wl' sl' sh cells' shc':=by
      unfold FT
      exact List.mem_cons_of_mem _ (List.mem_cons_of_mem _ hx)
     have xa:x≠a:=by
      rcases List.mem_cons.mp hx with rfl|hx
      ·obtain ⟨dxx,obx⟩:=Qe.dw.disk.ob
       obtain ⟨xs,e⟩:=Qe.pot.lst
       exact Ne.symm (zgg e obx)
      ·rcases List.mem_cons.mp hx with rfl|hx
       ·exact (Qe.ap _ (by simp)).1
       ·rcases List.mem_cons.mp hx with rfl|hx
        ·exact (Qe.ap _ (by simp)).1
        ·rcases List.mem_cons.mp hx with rfl|hx
         ·exact Ne.symm Qe.ap2.2.1
         ·rcases List.mem_append.mp hx with hx|hx
          ·exact (Qe.ap _ (by simp [hx])).1
          ·exact fun z=>Qe.ap2.2.2.1 (z ▸ hx)
     exact ⟨xa,(frb x hxF).resolve_left xa⟩
end
abbrev zdk:Stmt:=top 71
abbrev zb0:Stmt:=top 72
theorem zjC (f:Nat→Int):∀ n,0<n→∃ i,i<n∧zaZ f n=some (f i)
 | 1,_=>⟨0,by decide,rfl⟩
 | n+2,_=>by
  obtain ⟨i,hi,e⟩:=zjC f (n+1) (by omega)
  have e2:zaZ f (n+2)=some (match zaZ f (n+1) with|none=>f (n+1)|some m=>if f (n+1)>m then f (n+1) else m):=rfl
  rw [e2,e]
  show ∃ j,j<n+2∧some (if f (n+1)>f i then f (n+1) else f i)=some (f j)
  split
  ·exact ⟨n+1,by omega,rfl⟩
  ·exact ⟨i,by omega,rfl⟩
theorem ztN {d:DM}{m:Int}{k j:Nat}{t:Str} (h2:d.st=false) (hw:((d.rows.getD k []).length:Int)<m) (hj:j<t.length):∃ d',(d.stop j).write m k t=(.stop,d')∧d'.rows=if j=0 then d.rows else d.rows.set k (d.rows.getD k []++[some (tx ((sg t).take j))]):=by
 have edn:dn (d.stop j).left t.length=j:=by
  show (if (j:Int)<(t.length:Int) then (j:Int) else _)=j
  rw [if_pos (by omega)]
 have es:((d.stop j).spend t.length).st=true:=by
  show decide (dn (d.stop j).left t.length<t.length)=true
  rw [edn];exact decide_eq_true (by omega)
 unfold DM.write
 rw [if_neg (by show ¬ d.st=true;rw [h2];exact Bool.false_ne_true),if_neg (by show ¬ ((d.rows.getD k []).length:Int)=m;omega),edn]
 by_cases h0:j=0
 ·rw [if_pos ⟨by omega,es⟩,if_pos h0]
  exact ⟨_,rfl,rfl⟩
 ·rw [if_neg (fun z=>h0 (by have:=z.1;omega)),if_pos es,if_neg h0]
  refine ⟨_,rfl,?_⟩
  have ec:zbS t (j:Int)=some (tx ((sg t).take j)):=by
   show some (Txt.slice t none (some (j:Int)))=_
   rw [zew (by rw [zT];omega)]
  show d.rows.set k (d.rows.getD k []++[zbS t (j:Int)])=_
  rw [ec]
theorem DOk.rows {d d':DM} (h:DOk d) (e:d'.rows=d.rows):DOk d':=by
 have en:nU d'=nU d:=by unfold nU;rw [e]
 exact ⟨⟨by rw [e];exact h.tx.ok,by rw [e];exact h.tx.len⟩,by rw [en];exact h.nd,by rw [en];exact h.few,by rw [en];exact h.pos,by rw [en];exact h.row⟩
theorem zr.keeps {H0 H H':Hp}{F:List Addr} (s:zr H0 H) (k:zm F H H') (f:∀ x∈F,Fr H0 x):zr H0 H':=fun b o n e=>k b o (s b o n e) fun z=>f b z o n e
theorem SqL.sameT {K:Frag}{H H':Hp}{a:Addr}{xs:List V} (s:zr H H') (h:SqL K H a xs):SqL K H' a xs:=by
 rcases h with (h|⟨o,h⟩)|h
 ·exact .inl (.inl (s.list h))
 ·exact .inl (.inr ⟨o,s _ _ (fun _=>nofun) h⟩)
 ·exact .inr h
theorem zpa {d d':DM}{k:Nat}{t:Str} (h:DOk d) (hk:k<d.rows.length) (hw:(d.rows.getD k []).length<32) (ha:asc t=true) (hl:t.length≤1000) (hn:rdT (some t)=none) (e:d'.rows=d.rows.set k (d.rows.getD k []++[some t])):DOk d':=by
 refine DOk.rows (d:=d.wrote k t d.cnt) (h.less (h.tx.set ⟨?_,?_⟩) fun u hu=>?_) e
 ·rw [List.length_append,List.length_singleton];omega
 ·intro q hq z hz
  rcases List.mem_append.mp hq with hq|hq
  ·exact (h.tx.ok _ (zbT hk)).2 q hq z hz
  ·rw [List.mem_singleton] at hq;subst hq;cases hz;exact ⟨ha,hl⟩
 ·rcases (zfZ hk).mp hu with hu|⟨h1,_⟩
  ·exact hu
  ·rw [hn] at h1;cases h1
section
variable {P:Program}{w:World}{K:Frag}{mg:Str→Option Value}{base:Heap}{A:zn}
structure NuI (H:Hp) (ts:List Tri) (i:Nat) (τ:L2.St) (ys:List V) (H':Hp):Prop where
 ex:∃ t1,τ=[t1]
 ys:ys=((ts.take i).map zw).map V.int
 same:H'=H
def FS (a p wl sl:Addr) (cells shc:List Addr):List Addr:=a::p::wl::sl::(cells++shc)
def ziE (A:zn):Sp:=fun vs H Q _=>∃ (a p wl sl sh:Addr) (cells shc:List Addr) (m:Int) (d:DM),vs=[.ref a,.ref p,.ref sh]∧DW A H p wl sl sh cells shc m d∧Pot H a∧(∀ x∈wl::sl::cells,x≠a)∧a≠sh∧a∉shc∧d.left=none∧d.st=false∧2≤m∧m≤32 ∧
 ∀ d' H',DW A H' p wl sl sh cells shc m d'→(∀ H0,zr H0 H→(∀ x∈FS a p wl sl cells shc,Fr H0 x)→zr H0 H')→Q (.bl true) H'
theorem zdd:zz ["_law_pot_here","_law_disk_here","_law_shelf","_law_number","_law_stretch","_law_text","_law_many","_law_told"] ["_law_pot_here","_law_disk_here","_law_shelf"] (zd zdk):=⟨rfl,rfl,rfl,by decide +kernel,rfl,by decide +kernel,by decide +kernel⟩
theorem zur:zaT { kind:=.function,names:=[(Str.ofString ".0",.local),(Str.ofString "_law_one",.local)],isGenerator:=false,isCoroutine:=false,more:=[] } (zd zdk).names ["_law_pot_here","_law_disk_here","_law_shelf","_law_number","_law_stretch","_law_text","_law_many","_law_told"] ["_law_one"] [none]=true:=by decide +kernel
theorem zmZ:(["_law_one"]:List Str).Nodup:=by decide +kernel
theorem zvp {f:Addr}{fd:FuncData} (F:Fun K "_law_stopped" "_law_stopped" zdk f fd) (T:Txt w K mg A) (G__law_rows:GF P w K mg base true 1 "_law_rows" ["_law_shelf"] (zeG A)) (G__law_goes_to:GF P w K mg base true 3 "_law_goes_to" ["_law_shelf","_law_places","_law_is_hot"] (zgp A)) (M_Disk_places:GM P w K mg base true 1 A.Disk "places" ["self"] (zaV A fun m _=>.int m)) (G_row_text:GF P w K mg base true 3 "row_text" ["row"] zep) (G__law_draw:GF P w K mg base true 1 "_law_draw" ["_law_pot_here","_law_many"] zbD) (M_Disk_stop:GM P w K mg base true 1 A.Disk "stop" ["self","many"] (zga A)) (M_Disk_write:GMX P w K mg base true 3 A.Disk "write" ["self","stretch","text"] (zeW A)):zp P w K mg base CX0 true 4 f fd ["_law_pot_here","_law_disk_here","_law_shelf"] (ziE A):=by
 refine F.ok zdd (fun vs H Q E h=>?_) (fun cdv Ar outer s H vs Q E hr h=>?_)
 ·obtain ⟨a,p,wl,sl,sh,cells,shc,m,d,rfl,_⟩:=h;rfl
 ·obtain ⟨a,p,wl,sl,sh,cells,shc,m,d,rfl,Ww,hP,apa,aps,apc,lf,st,m2,m32,q⟩:=h
  have hu:_<cLine:=Nat.lt_of_succ_lt (zax hr)
  refine ⟨_,(W.h (zg (zx (i:=3) zdd.nd rfl (Or.inl rfl) (zK zaC (zH (zgR rfl) rfl T.n_max boot_max (zb (zK zaC (zX (zb zj zc)) (zb5 (fun _=>rfl) (zaz.of zur) (zd8 (zo G__law_rows hr rfl (zb (za 2) zc))) (fun _ _ _ _ _=>(zO (i:=0) zmZ rfl (Or.inl rfl))) (fun _ _ _ _ _=>zdE) (fun _ _ _ _ _=>(zR zQ (zR zQ (za 0) zj (fun _ _=>rfl)) zj (fun _ _=>rfl))))) zc)) zj))
   (zg (zx (i:=4) zdd.nd rfl (Or.inl rfl) (zo G__law_goes_to hr rfl (zb (za 2) (zb (zby (za 1) T.cl_Disk M_Disk_places hr) (zb zaJ zc)))))
   (zg (zx (i:=5) zdd.nd rfl (Or.inl rfl) (zo G_row_text hr rfl (zb (zaY (zb zG (zb (za 3) (zb zG zc)))) zc)))
   (zg (zx (i:=6) zdd.nd rfl (Or.inl rfl) (zo G__law_draw hr rfl (zb (za 0) (zb (zH zaQ rfl T.n_len PySem.boot_len (zb (za 5) zc)) zc))))
   (zg (zx (i:=7) zdd.nd rfl (Or.inl rfl) zaJ)
   (zg (zN (zM zdS (za 4) zal (zD _))
   (zg (zaa (zcu (za 1) T.cl_Disk M_Disk_stop hr (zb (za 6) zc)))
   (zg (zgY rfl rfl ⟨rfl,rfl⟩ T.ek_Stopped rfl T.mg_Stopped (fun pins Ex=>(zh (zaa (zcp (za 1) T.cl_Disk zfl M_Disk_write hr (zb (za 4) (zb (za 5) zc)))))) (fun pins ea=>by
   have hr:=hr.mark (v:=some (.ref ea))
   exact (zh (zx (i:=7) zdd.nd rfl (Or.inl rfl) zaJ))))
   (zh (zN (zM zfI (za 6) zj (zD _))
   (zh (zaa (zcj (zR zQ (za 2) (za 4) (fun _ _=>rfl)) zal)))
   zU))))
   zU)
   (zh (zu (zkS (za 7) (zds (zba zfo (za 4) zal (zD _))))))))))))),?_⟩
  have ok:=Ww.ok
  have sok:=ok.sh
  simp_all only []
  refine ⟨by decide,fun l0 H1 n1 _=>?_⟩
  have W1:=Ww.same n1.same
  refine ⟨sh,shc,_,rfl,W1.shelf,sok.len,sok.wide,sok.keys,sok.nd,sok.few,W1.tb,fun l2 as2 H2 s2 tb2 f2 ns2 e2 ht2=>?_⟩
  rw [← zbk] at ht2
  have W2:=W1.sameT s2 tb2
  try simp_all only []
  have hlen:=zaR ht2
  have h30:(zae (nU d)).length≤30:=by rw [(zb7 _).length_eq];exact ok.few
  have hkk:∀ t∈zae (nU d),(∃ y n ys,t.1 = .str y::.int n::ys)∧1≤zw t∧zw t<10 ^ 17:=fun t ht=>by
   have hm:=(zb7 _).mem_iff.mp ht
   exact ⟨zeL hm,ok.pos t hm⟩
  generalize zae (nU d)=ts at hlen h30 hkk ht2
  refine ⟨⟨_,SqL.of e2⟩,zah.lst (xs:=as2.map V.ref) (NuI H2 ts) (fun i τ ys H' I=>?_) (fun i τ ys H' I=>by rw [I.same];exact SqL.of e2) ⟨⟨_,rfl⟩,rfl,rfl⟩ ?_ ?_⟩
  ·rw [I.ys,List.length_map,List.length_map]
   exact zaI (by have:=List.length_take_le' i ts;omega)
  ·intro N i x τ ys H' hx I hN
   obtain ⟨t1,rfl⟩:=I.ex
   have e:=I.same
   subst e
   rw [List.getElem?_map] at hx
   obtain ⟨b,hb,rfl⟩:=Option.map_eq_some_iff.mp hx
   have hi:i<ts.length:=by rw [← hlen];exact (List.getElem?_eq_some_iff.mp hb).1
   have hti:ts[i]?=some ts[i]:=List.getElem?_eq_getElem hi
   obtain ⟨r,g1,g2⟩:=zcT ht2 hb hti
   obtain ⟨⟨y,n,zs,et⟩,_⟩:=hkk _ (List.getElem_mem hi)
   rw [et] at g2
   have i0:atI [V.ref r,V.int (ts[i]).2.1,V.int (ts[i]).2.2] 0=some (V.ref r):=rfl
   have ix:atI (V.str y::V.int n::zs) 1=some (V.int n):=zaU (j:=1) (by simp)
   simp_all only [g1,g2,i0,ix]
   refine hN _ _ _ ⟨⟨_,rfl⟩,?_,rfl⟩
   have ek:zw ts[i]=n:=by unfold zw;rw [et];rfl
   rw [List.take_add_one,hti,I.ys,List.map_append,List.map_append]
   show _=_++[V.int (zw ts[i])]
   rw [ek]
  ·intro τ ys H' I D3 H3 n3
   have e:=I.same
   subst e
   have hys:=I.ys
   rw [List.length_map,hlen,List.take_of_length_le (Nat.le_refl _)] at hys
   rw [hys] at n3
   rw [zcS]
   refine ⟨_,_,n3.same _ _ (s2.list n1.at_),n3.at_,zai (by simp;omega),fun p4 H4 n4=>?_⟩
   rw [zkY]
   refine ⟨0::ts.map zw,by rw [n4.at_];rfl,by simp,?_⟩
   obtain ⟨i,hi,eb⟩:=zjC (fun i=>(0::ts.map zw).getD i 0) (0::ts.map zw).length (by simp)
   rw [eb]
   have hM:0≤(0::ts.map zw).getD i 0∧(0::ts.map zw).getD i 0<10 ^ 17:=by
    have hm:=zbT (x:=(0:Int)) hi
    rcases List.mem_cons.mp hm with h|h
    ·rw [h];decide
    ·obtain ⟨t,ht,e⟩:=List.mem_map.mp h
     rw [← e]
     have:=(hkk t ht).2
     omega
   show za8 (V.int ((0::ts.map zw).getD i 0)) (V.int 1) H4 _
   generalize (0::ts.map zw).getD i 0=M at hM
   have W4:=(W2.same n3.same).same n4.same
   have s04:zr H H4:=(zr.of n1.same).trans (s2.trans (.of (n3.same.trans n4.same)))
   obtain ⟨dx4,ob4⟩:=W4.disk.ob
   simp_all only [ob4,zeY]
   refine ⟨p,wl,sl,cells,m,d,rfl,W4.disk,sh,shc,_,m,true,rfl,W4.shelf,sok,W4.tb,fun H5 s5 tb5=>?_⟩
   have W5:=W4.sameT s5 tb5
   refine ⟨by decide,fun r H6 n6=>?_⟩
   have rok:zay [.str "hold",.int (M+1),.str "a"]:=.hold (M+1) "a" ⟨by omega,by omega⟩ (by decide +kernel)
   obtain ⟨ra,rl,rr,rl2⟩:=zg0 rok (by simp)
   refine ⟨r,_,rfl,.inr n6.at_,by simp,rok.parts.2.2.2,fun H7 s7=>?_⟩
   have W7:=(W5.same n6.same).same s7
   have s07:zr H H7:=(s04.trans s5).trans (.of (n6.same.trans s7))
   have P7:Pot H7 a:=by obtain ⟨x,y,e,r⟩:=hP.ex;exact ⟨⟨x,y,s07.list e,r⟩⟩
   have htn:∀ j,j<(zag [V.str "hold",V.int (M+1),V.str "a"]).length→zaG (tx ((sg (zag [V.str "hold",V.int (M+1),V.str "a"])).take j))=none:=fun j h=>zj5 rok h
   generalize zag [V.str "hold",V.int (M+1),V.str "a"]=tt at ra rl rr rl2 htn
   simp_all only []
   refine ⟨zai (by omega),a,_,rfl,P7,by omega,by omega,fun j' H8 b8 hP8 j0 j1=>?_⟩
   obtain ⟨j,rfl⟩:=Int.eq_ofNat_of_zero_le j0
   have W8:=W7.potB P7 apa aps apc b8
   cases hd:zbE (rdR d.rows) m (za0 (rdR d.rows) true) with
   | none =>
    unfold ov
    simp_all only []
    exact q d H8 W8 fun H0 s0 fr=>(s0.trans s07).keeps b8.keeps (fun x hx=>by rw [List.mem_singleton] at hx;subst hx;exact fr _ (by simp [FS]))
   | some k =>
    obtain ⟨hk',hroom⟩:=zkk hd
    unfold ov
    simp_all only []
    have hk:k<d.rows.length:=by rw [zar] at hk';exact hk'
    have hw:((d.rows.getD k []).length:Int)<m:=by have:=hroom m2;rw [zaK,List.length_map] at this;exact this
    have hj:j<tt.length:=by omega
    obtain ⟨dx8,ob8⟩:=W8.disk.ob
    refine ⟨dx8,_,ob8,zjw,p,wl,sl,cells,m,d,j,rfl,W8.disk,fun H9 D9 b9=>?_⟩
    obtain ⟨dx9,ob9⟩:=D9.ob
    have sml:small (d.stop j):=fun i=>by
     have:=sok.wide i
     rw [zaK,List.length_map] at this
     show (d.rows.getD i []).length≤1000
     omega
    refine ⟨dx9,_,ob9,zic,p,wl,sl,cells,m,d.stop j,k,tt,rfl,D9,hk,by omega,sml,fun H10 D10 b10=>?_⟩
    obtain ⟨d',ew,er⟩:=ztN st hw hj
    rw [ew] at D10 ⊢
    unfold Out
    dsimp only
    refine ⟨_,rfl,T.ek_Stopped,T.ms_Stopped,fun ea oe he _=>?_⟩
    have s10:zl H10 (upd H10 ea (.frz oe (.own 0))):=fun x o e=>by rw [ze (zt e he)];exact e
    generalize upd H10 ea (.frz oe (.own 0))=H11 at s10 ⊢
    have b811:zm (p::wl::sl::cells) H8 H11:=((b9.mono (by simp)).trans b10).trans (zm.same s10)
    have D11:=D10.sameT (.of s10)
    obtain ⟨S11,tb11⟩:=W8.diskB b811
    have fr11:∀ H0,zr H0 H→(∀ x∈FS a p wl sl cells shc,Fr H0 x)→zr H0 H11:=fun H0 s0 fr=>((s0.trans s07).keeps b8.keeps (fun x hx=>by rw [List.mem_singleton] at hx;subst hx;exact fr _ (by simp [FS]))).keeps b811 fun x hx=>fr x (by
     unfold FS
     rcases List.mem_cons.mp hx with rfl|hx
     ·simp
     ·rcases List.mem_cons.mp hx with rfl|hx
      ·simp
      ·rcases List.mem_cons.mp hx with rfl|hx
       ·simp
       ·simp [hx])
    try simp_all only []
    by_cases hj0:j=0
    ·rw [if_pos hj0] at er
     rw [if_neg (by rw [hj0];decide)]
     exact q d' H11 ⟨D11,by rw [er];exact S11,W8.ap,tb11,ok.rows er⟩ fr11
    ·rw [if_neg hj0] at er
     rw [if_pos (decide_eq_true (by omega))]
     obtain ⟨c,vs,hc,ha,hv,pv,lv⟩:=S11.cell (k:=k) hk'
     have hcm:=List.mem_of_getElem? hc
     refine ⟨_,.inl S11.w,_,ha,?_⟩
     rw [zfC]
     have lv32:=sok.wide k
     have hnn:rdT (some (tx ((sg tt).take j)))=none:=htn j hj
     have hset:rdR d'.rows=(rdR d.rows).set k ((rdR d.rows).getD k []++[none]):=by
      rw [er,zcA,List.map_append,zaK]
      show _=(rdR d.rows).set k (_++[none])
      rw [show ([some (tx ((sg tt).take j))]:List Tx).map rdT=[rdT (some (tx ((sg tt).take j)))] from rfl,hnn]
     have okd:DOk d':=zpa ok hk (by omega) (by
      rw [zaD,zaW]
      rw [zaD] at ra
      exact List.all_eq_true.mpr fun c hc=>List.all_eq_true.mp ra c (List.mem_of_mem_take hc)) (by rw [zge,List.length_take,zT];omega) hnn er
     refine ⟨⟨_,hv⟩,_,hv,zaI (by omega),q d' _ (W8.done b811 hk D11 hset hc (zcP pv (.cons (show za5 H11 V.non none from rfl) .nil)) okd) fun H0 s0 fr=>(fr11 H0 s0 fr).keeps (zm.upd (F:=[c]) (by simp)) fun x hx=>?_⟩
     rw [List.mem_singleton] at hx;subst hx
     exact fr _ (by simp [FS,hcm])
structure OuI (A:zn) (H0:Hp) (sc:V) (i:Nat) (σ:L2.St) (H':Hp):Prop where
 ex:∃ t1 t2 t3 t4 t5,σ=[some sc,t1,t2,t3,t4,t5]
 same:zr H0 H'
 tb:TB A H'
def zgk (t1 t2:Addr) (K:Frag):Sp:=fun vs H Q _=>∃ (a:Addr) (ns:List Int),vs=[.ref a]∧SqL K H a (ns.map V.int)∧ns.length≤63∧H t1=some (.tbl #[])∧H t2=some (.tbl #[])∧t1≠t2∧∀ H',Q (.bl true) H'
theorem zoU {d:DM}{k:Nat}{t:Str} (h1:d.left=none) (h2:d.st=false):∃ d',d.put k t=(.val .non,d')∧d'.rows=d.rows∧d'.left=none∧d'.st=false:=by
 have edn:dn d.left t.length=t.length:=by rw [h1];rfl
 have es:(d.spend t.length).st=false:=by show decide _=false;rw [edn];exact decide_eq_false (Int.lt_irrefl _)
 unfold DM.put
 rw [if_neg (by rw [h2];exact Bool.false_ne_true),if_neg (by rw [es];exact fun z=>Bool.false_ne_true z.2),if_neg (by rw [es];exact Bool.false_ne_true)]
 refine ⟨_,rfl,rfl,?_,es⟩
 show d.left.map _=none
 rw [h1];rfl
theorem zee:zz ["_law_script","_law_k","_law_pot_here","_law_disk_here","_law_shelf","_law_blank"] ["_law_script"] (zd zb0):=⟨rfl,rfl,rfl,by decide +kernel,rfl,by decide +kernel,by decide +kernel⟩
theorem zoW {f:Addr}{fd:FuncData} (F:Fun K "law" "law" zb0 f fd) (T:Txt w K mg A) (G__law_pot:GF P w K mg base true 2 "_law_pot" ["_law_script","_law_k"] (zgZ K)) (G__law_disk:GF P w K mg base true 7 "_law_disk" ["_law_pot_here"] (zgD A)) (G__law_draw:GF P w K mg base true 1 "_law_draw" ["_law_pot_here","_law_many"] zbD) (G_row_text:GF P w K mg base true 3 "row_text" ["row"] zep) (M_Disk_put_side:GMX P w K mg base true 3 A.Disk "put_side" ["self","k","text"] (zhJ A)) (G__law_right:GF P w K mg base true 13 "_law_right" ["_law_disk_here","_law_shelf"] (ziP A)) (G__law_stopped:GF P w K mg base true 4 "_law_stopped" ["_law_pot_here","_law_disk_here","_law_shelf"] (ziE A)) (G_Disk:GCX P w K mg base true 3 "Disk" A.Disk ["self","stretches","places"] (zej A)):zp P w K mg base CX0 true 15 f fd ["_law_script"] (zgk A.t_whole_rows A.t__law_rows K):=by
 refine F.ok zee (fun vs H Q E h=>?_) (fun cdv Ar outer s H vs Q E hr h=>?_)
 ·obtain ⟨a,ns,rfl,_⟩:=h;rfl
 ·obtain ⟨sc,ns,rfl,hS,hl,hT1,hT2,hT3,q⟩:=h
  have hu:_<cLine:=Nat.lt_of_succ_lt (zax hr)
  refine ⟨_,(W.h (zg (zbl PassesOwn.never (fun _=>rfl) (zbG rfl T.n_range (zb (zH (zgR rfl) rfl T.n_max boot_max (zb zj (zb (zH (zhj rfl) rfl T.n_min boot_min (zb (zH zfA rfl T.n_len PySem.boot_len (zb (za 0) zc)) (zb zj zc))) zc))) zc)) (zO (i:=1) zee.nd rfl (Or.inl rfl))
   (zg (zx (i:=2) zee.nd rfl (Or.inl rfl) (zo G__law_pot hr rfl (zb (za 0) (zb (za 1) zc))))
   (zg (zdo (zo G__law_disk hr rfl (zb (za 2) zc)) (zd5 (n:=2) (zau (zO (i:=3) zee.nd rfl (Or.inl rfl)) (zau (zO (i:=4) zee.nd rfl (Or.inl rfl)) zbL))))
   (zg (zaa (zcp (za 3) T.cl_Disk zbM M_Disk_put_side hr (zb (zo G__law_draw hr rfl (zb (za 2) (zb zj zc))) (zb (zo G_row_text hr rfl (zb (zaY (zb zG (zb (zK zhV zj zj) (zb zG zc)))) zc)) zc))))
   (zg (zN (zbs (zaH (zo G__law_right hr rfl (zb (za 3) (zb (za 4) zc)))))
   (zh (zu zaJ))
   zU)
   (zh (zN (zb3 (zim (zbs (zaH (zo G__law_stopped hr rfl (zb (za 2) (zb (za 3) (zb (za 4) zc)))))) (zhk (zbs (zaH (zo G__law_right hr rfl (zb (za 3) (zb (za 4) zc))))))))
   (zh (zu zaJ))
   zU)))))))
   (zg (zx (i:=5) zee.nd rfl (Or.inl rfl) (zhG zbM G_Disk hr rfl (zb zj (zb zj zc))))
   (zh (zu (zo G__law_right hr rfl (zb (za 5) (zb (zX (zb (zX zc) (zb (zX zc) (zb (zX zc) zc)))) zc)))))))),?_⟩
  have tb0:TB A H:=⟨.inl hT1,.inl hT2,hT3⟩
  simp_all only []
  refine ⟨_,.inl hS,?_⟩
  rw [List.length_map]
  have hN:∃ N:Nat,(if (if 3<(ns.length:Int) then 3 else (ns.length:Int))>1 then if 3<(ns.length:Int) then 3 else (ns.length:Int) else 1)=(N:Int)∧N≤3:=by
   by_cases h1:3<(ns.length:Int)
   ·rw [if_pos h1];exact ⟨3,rfl,by decide⟩
   ·rw [if_neg h1]
    split
    ·exact ⟨ns.length,rfl,by omega⟩
    ·exact ⟨1,rfl,by decide⟩
  obtain ⟨N,eN,hN3⟩:=hN
  rw [eN,Int.toNat_natCast]
  refine ⟨by omega,by omega,zak.rng (OuI A H (.ref sc)) ⟨⟨_,_,_,_,_,rfl⟩,zr.refl,tb0⟩ ?_ ?_⟩
  ·rintro i σ H0 hi ⟨⟨t1,t2,t3,t4,t5,rfl⟩,s0,tb0'⟩
   have ej:(0+(i:Int))=((i:Nat):Int):=by omega
   simp_all only [ej]
   refine ⟨sc,ns,i,rfl,SqL.sameT s0 hS,by omega,fun a H1 s1 a0 hP1=>?_⟩
   have tb1:=tb0'.same s1
   try simp_all only []
   refine ⟨a,rfl,hP1,tb1,fun tp p wl sl sh cells shc m d H2 htp W2 hP2 b2 fr lf st sd size wide=>?_⟩
   refine ⟨tp,_,rfl,SqT.of htp,rfl,?_⟩
   have frH:∀ x∈p::wl::sl::sh::(cells++shc),Fr H0 x:=fun x hx o no e=>by
    have:=(fr x hx).2
    rw [s1 _ _ e] at this;cases this
   have fra:Fr H0 a:=fun o no e=>by rw [a0] at e;cases e
   have s2:zr H0 H2:=(zr.of s1).keeps b2.keeps (fun x hx=>by rw [List.mem_singleton] at hx;subst hx;exact fra)
   have apa:∀ x∈wl::sl::cells,x≠a:=fun x hx=>(fr x (by
    rcases List.mem_cons.mp hx with rfl|hx
    ·simp
    ·rcases List.mem_cons.mp hx with rfl|hx
     ·simp
     ·simp [hx])).1
   have aps:a≠sh:=fun z=>(fr sh (by simp)).1 z.symm
   have apc:a∉shc:=fun z=>(fr a (by simp [z])).1 rfl
   have frD:∀ x∈p::wl::sl::cells,Fr H0 x:=fun x hx=>frH x (by
    rcases List.mem_cons.mp hx with rfl|hx
    ·simp
    ·rcases List.mem_cons.mp hx with rfl|hx
     ·simp
     ·rcases List.mem_cons.mp hx with rfl|hx
      ·simp
      ·simp [hx])
   have frS:∀ x∈FS a p wl sl cells shc,Fr H0 x:=fun x hx=>by
    unfold FS at hx
    rcases List.mem_cons.mp hx with rfl|hx
    ·exact fra
    ·rcases List.mem_cons.mp hx with rfl|hx
     ·exact frH _ (by simp)
     ·rcases List.mem_cons.mp hx with rfl|hx
      ·exact frH _ (by simp)
      ·rcases List.mem_cons.mp hx with rfl|hx
       ·exact frH _ (by simp)
       ·exact frH x (by simp only [List.mem_cons];exact .inr (.inr (.inr (.inr hx))))
   try simp_all only []
   obtain ⟨dx2,ob2⟩:=W2.disk.ob
   refine ⟨dx2,_,ob2,zs2,a,2,rfl,hP2,by decide,by decide,fun r H3 b3 hP3 r0 r1=>?_⟩
   obtain ⟨k,rfl⟩:=Int.eq_ofNat_of_zero_le r0
   have W3:=W2.potB hP2 apa aps apc b3
   refine ⟨⟨by decide,by decide,by decide⟩,by decide,fun tr H4 n4=>?_⟩
   have rok:zay [.str "free",.int (10 ^ Int.toNat 17),.str "a"]:=.free _ _ ⟨by decide,by decide⟩ (by decide +kernel)
   refine ⟨tr,_,rfl,.inr n4.at_,by simp,rok.parts.2.2.2,fun H5 s5=>?_⟩
   have rl:=(zg0 rok (by simp)).2.1
   have W5:=(W3.same n4.same).same s5
   refine ⟨p,wl,sl,cells,m,d,k,_,rfl,W5.disk,by omega,sd,rl,fun H6 D6 b6=>?_⟩
   obtain ⟨d6,ep,er,l6,st6⟩:=zoU (k:=k) (t:=zag [.str "free",.int (10 ^ Int.toNat 17),.str "a"]) lf st
   rw [ep] at D6 ⊢
   unfold Out
   dsimp only
   obtain ⟨S6,tb6⟩:=W5.diskB b6
   have W6:DW A H6 p wl sl sh cells shc m d6:=⟨D6,by rw [er];exact S6,W5.ap,tb6,W5.ok.rows er⟩
   have s06:zr H0 H6:=((s2.keeps b3.keeps (fun x hx=>by rw [List.mem_singleton] at hx;subst hx;exact fra)).trans (.of (n4.same.trans s5))).keeps b6 frD
   have P6:Pot H6 a:=by
    obtain ⟨x,y,e,r⟩:=((hP3.same n4.same).same s5).ex
    exact ⟨⟨x,y,b6 _ _ e (W5.disk.out e apa),r⟩⟩
   refine ⟨p,wl,sl,sh,cells,shc,m,d6,rfl,W6,fun H7 s7 tb7=>?_⟩
   have W7:=W6.sameT s7 tb7
   have P7:Pot H7 a:=by obtain ⟨x,y,e,r⟩:=P6.ex;exact ⟨⟨x,y,s7.list e,r⟩⟩
   try simp_all only []
   refine ⟨a,p,wl,sl,sh,cells,shc,m,d6,rfl,W7,P7,apa,aps,apc,l6,st6,size.2.2.1,size.2.2.2,fun d8 H8 W8 fr8=>?_⟩
   try simp_all only []
   refine ⟨p,wl,sl,sh,cells,shc,m,d8,rfl,W8,fun H9 s9 tb9=>?_⟩
   try simp_all only []
   exact ⟨⟨_,_,_,_,_,rfl⟩,s0.trans ((fr8 H0 (s06.trans s7) frS).trans s9),tb9⟩
  ·rintro σ H1 ⟨⟨t1,t2,t3,t4,t5,rfl⟩,s1,tb1⟩
   simp_all only []
   refine fun p dxp H2 nI=>⟨p,dxp,3,2,rfl,nI.at_,by decide,by decide,by decide,by decide,fun wl sl cells H3 D3 k3 f3=>⟨rfl,Nat.zero_le _,fun c1 H4 n4 _=>⟨Nat.zero_le _,fun c2 H5 n5 _=>⟨Nat.zero_le _,fun c3 H6 n6 _=>⟨by decide,fun sh H7 n7 _=>?_⟩⟩⟩⟩⟩
   have D3:zB A H3 p wl sl cells 2 (DM.new 3):=D3
   have kp3:zm [p] H2 H3:=fun c o e n=>k3 c o e (fun z=>n (by simp [z]))
   have tb3:TB A H3:=(tb1.same nI.same).lists kp3 (fun x hx=>by rw [List.mem_singleton] at hx;subst hx;exact .inr ⟨_,_,_,nI.at_⟩)
   have s46:zl H4 H6:=n5.same.trans n6.same
   have s37:zl H3 H7:=(n4.same.trans s46).trans n7.same
   have h1:=s46 _ _ n4.at_
   have h2:=n6.same _ _ n5.at_
   have h12:c1≠c2:=zt n4.at_ n5.no
   have h13:c1≠c3:=zt (n5.same _ _ n4.at_) n6.no
   have h23:c2≠c3:=zt n5.at_ n6.no
   have hs1:c1≠sh:=zt h1 n7.no
   have hs2:c2≠sh:=zt h2 n7.no
   have hs3:c3≠sh:=zt n6.at_ n7.no
   have fr:∀ x o,H3 x=some o→x≠sh∧x∉[c1,c2,c3]:=fun x o e=>by
    refine ⟨zt (s46 _ _ (n4.same _ _ e)) n7.no,fun z=>?_⟩
    simp only [List.mem_cons,List.not_mem_nil,or_false] at z
    rcases z with z|z|z
    ·exact zt e n4.no z
    ·exact zt (n4.same _ _ e) n5.no z
    ·exact zt (n5.same _ _ (n4.same _ _ e)) n6.no z
   have rrep:rdR (DM.new 3).rows=List.replicate 3 []:=by
    show (List.replicate 3 ([]:List Tx)).map _=_
    rw [List.map_replicate];rfl
   have S7:zab H7 sh [c1,c2,c3] (rdR (DM.new 3).rows):=by
    rw [rrep]
    refine ⟨n7.at_,rfl,fun i c h=>⟨[],?_,by rw [zgj];exact .nil⟩,?_⟩
    ·have hm:=List.mem_of_getElem? h
     simp only [List.mem_cons,List.not_mem_nil,or_false] at hm
     rcases hm with rfl|rfl|rfl
     ·exact n7.same _ _ h1
     ·exact n7.same _ _ h2
     ·exact n7.same _ _ n6.at_
    ·simp only [List.nodup_cons,List.mem_cons,List.not_mem_nil,or_false,not_or,List.nodup_nil,and_true,not_false_eq_true]
     exact ⟨⟨Ne.symm hs1,Ne.symm hs2,Ne.symm hs3⟩,⟨h12,h13⟩,h23⟩
   exact ⟨p,wl,sl,sh,cells,[c1,c2,c3],2,DM.new 3,rfl,⟨D3.sameT (.of s37),S7,fun x hx=>by
    rcases D3.lists x (List.mem_cons_of_mem _ hx) with ⟨xs,e⟩|⟨_,_,_,e⟩ <;> exact fr x _ e,tb3.same s37,zkq (by decide)⟩,fun H8 _ _=>q H8⟩
end
theorem all_mk {l:OpenLaw}{w:World}{K:Frag}{h:Heap}{mg:Str→Option Value}{fa:Addr}{x5 xn xr yF x8 xQ xA xc xB xC xR x4 uc xj xp xT xD x3 f_0 f_1 f_2 f_3 f_4 f_5 f_6 f_7 f_8 f_9 qm qo qp qq qr qt qu yC x9 qv qw qx qy uW uX uY uZ v0 v3 v4 v5 v6 v7 v8 v9 va vb qz qA qB qC qD qE qF qG qH qI yD xb qJ qK qM qN qO qP xP xk xl xg xh xf:Addr}{x67 x68 x69 x6a x6b x6c x6d x6e x6f x6g x6h x6i x6j x6k x6l x6m x6n x6o x6p x6q qV qX qY qZ x00 x01 x02 x03 x04 x05 x06 x07 x08 x09 x0a x0b x0c x0d x0e x0f x0g x0h x0i x0j x0k x0l x0m x0n x0o x0p x0q x0r x0s x0t x0u x0v x0w x0x x0y x0z x0A x0B x0C x0D x0E x0F x0G x0H x0I x0J x0K x0L x0M x0N x0O x0P x0Q x0R x0S x0T x0U x0V x0W x0X x0Y x0Z x10 x11 x12 x13 x14 x15 x16 x17 x18 x19 x1a x1b x1c x1d x1e vp yV yW yG yH yh:Option Addr}{x6r x6s x6t x6u x6v x6w x6x x6y x6z x6A x1f x1g x1h x1i x1j x1k x1l x1m x1n x1o x1p x1q x1r x1s x1t x1u x1v x1w x1x x1y x1z x1A x1B x1C x1D x1E x1F x1G x1H x1I x1J x1K x1L x1M x1N x1O x1P x1Q x1R x1S x1T yX yY yI yJ yi:Array (Option Value)}{x6B x6C x6D x6E x1U x6F x6G x6H x6I x6J x1V x6K x6L x6M x6N x6O x1W x6P x6Q x6R x6S x6T x1X x6U x6V x6W x6X x6Y x1Y x6Z x70 x71 x72 x73 x1Z x74 x75 x76 x77 x78 x20 x79 x7a x7b x7c x7d x21 x7e x7f x7g x7h x7i x22 x7j x7k x7l x7m x7n x23 x7o x24 x25 x26 x27 vq x28 x29 x2a x2b x2c vt x2d x2e x2f x2g x2h vv x2i x2j x2k x2l x2m vw x2n x2o x2p x2q x2r vx x2s x2t x2u x2v x2w vy x2x x2y x2z x2A x2B x2C x2D x2E x2F x2G vz x2H x2I x2J x2K x2L vA x2M x2N x2O x2P x2Q vB x2R x2S x2T x2U x2V vC x2W x2X x2Y x2Z x30 vD x31 x32 x33 x34 x35 vE x36 x37 x38 x39 x3a vF x3b x3c x3d x3e x3f vG x3g x3h x3i x3j x3k vH x3l x3m x3n x3o x3p vI x3q x3r x3s x3t x3u vJ x3v x3w x3x x3y x3z vK x3A x3B x3C x3D x3E vL x3F x3G x3H x3I x3J vM x3K x3L x3M x3N x3O vN x3P x3Q x3R x3S x3T vO x3U x3V x3W x3X x3Y vP x3Z x40 x41 x42 x43 vQ x44 x45 x46 x47 x48 vR x49 x4a x4b x4c x4d vS x4e x4f x4g x4h x4i vT x4j x4k x4l x4m x4n vU x4o x4p x4q x4r x4s vV x4t x4u x4v x4w x4x vW x4y x4z x4A x4B x4C vX x4D x4E x4F x4G x4H vY x4I x4J x4K x4L x4M vZ x4N x4O x4P x4Q x4R x4S x4T x4U x4V x4W q9 x4X x4Y x4Z x50 x51 qa x52 x53 x54 x55 x56 qc x57 x58 x59 x5a x5b qe x5c x5d x5e x5f x5g qf x5h x5i qg qh qi uE qj:Value}{uk ul xU xV yK um yZ xt xE xX yj u0 yk yl ym yn yo yp u5 yq yr yt yL xY xZ yM y7 y8 yu xL xM xN:Tok}{vc u6 u7 yN yO yw:Nat} (X:K.In h) (G:h.Ns mainGlobals mg) (hfa:mg "law"=some (.ref fa))
  (yP:nsIn K mainGlobals "CleanError"=some (some (.ref x5)))
  (vd:nsIn K mainGlobals "NoRow"=some (some (.ref xn)))
  (uF:nsIn K mainGlobals "NoDisk"=some (some (.ref xr)))
  (qQ:nsIn K mainGlobals "Full"=some (some (.ref yF)))
  (uo:nsIn K mainGlobals "Stopped"=some (some (.ref x8)))
  (uG:nsIn K mainGlobals "NoFile"=some (some (.ref xQ)))
  (uq:nsIn K mainGlobals "NoPlace"=some (some (.ref xA)))
  (yx:nsIn K mainGlobals "HeldAlready"=some (some (.ref xc)))
  (ur:nsIn K mainGlobals "NotHeld"=some (some (.ref xB)))
  (ut:nsIn K mainGlobals "NoFiles"=some (some (.ref xC)))
  (uH:nsIn K mainGlobals "NoMark"=some (some (.ref xR)))
  (uI:nsIn K mainGlobals "NoRoom"=some (some (.ref x4)))
  (qR:nsIn K mainGlobals "Gone"=some (some (.ref uc)))
  (u8:nsIn K mainGlobals "NotClosed"=some (some (.ref xj)))
  (ud:nsIn K mainGlobals "NotBlank"=some (some (.ref xp)))
  (uJ:nsIn K mainGlobals "NoDeed"=some (some (.ref xT)))
  (uu:nsIn K mainGlobals "NoHouse"=some (some (.ref xD)))
  (uL:nsIn K mainGlobals "Disk"=some (some (.ref x3)))
  (a_0:nsIn K mainGlobals "is_whole"=some (some (.ref f_0)))
  (l_0:K.lookup f_0=some ⟨x6B,x67,.func (fnOf "is_whole" "is_whole" (zA zdJ) (zy zdJ) (zd zdJ) .none x6C x6D x6E x68 x1U x6F),x6r⟩)
  (d_0:codeIn K x1U "is_whole"=true)
  (k_0:keepIn K (.ref f_0)=true)
  (a_1:nsIn K mainGlobals "is_within"=some (some (.ref f_1)))
  (l_1:K.lookup f_1=some ⟨x6G,x69,.func (fnOf "is_within" "is_within" (zA zdr) (zy zdr) (zd zdr) .none x6H x6I x6J x6a x1V x6K),x6s⟩)
  (d_1:codeIn K x1V "is_within"=true)
  (k_1:keepIn K (.ref f_1)=true)
  (a_2:nsIn K mainGlobals "is_made_of"=some (some (.ref f_2)))
  (l_2:K.lookup f_2=some ⟨x6L,x6b,.func (fnOf "is_made_of" "is_made_of" (zA zc9) (zy zc9) (zd zc9) .none x6M x6N x6O x6c x1W x6P),x6t⟩)
  (d_2:codeIn K x1W "is_made_of"=true)
  (k_2:keepIn K (.ref f_2)=true)
  (a_3:nsIn K mainGlobals "is_number_text"=some (some (.ref f_3)))
  (l_3:K.lookup f_3=some ⟨x6Q,x6d,.func (fnOf "is_number_text" "is_number_text" (zA zdG) (zy zdG) (zd zdG) .none x6R x6S x6T x6e x1X x6U),x6u⟩)
  (d_3:codeIn K x1X "is_number_text"=true)
  (k_3:keepIn K (.ref f_3)=true)
  (a_4:nsIn K mainGlobals "is_name"=some (some (.ref f_4)))
  (l_4:K.lookup f_4=some ⟨x6V,x6f,.func (fnOf "is_name" "is_name" (zA zdz) (zy zdz) (zd zdz) .none x6W x6X x6Y x6g x1Y x6Z),x6v⟩)
  (d_4:codeIn K x1Y "is_name"=true)
  (k_4:keepIn K (.ref f_4)=true)
  (a_5:nsIn K mainGlobals "is_word"=some (some (.ref f_5)))
  (l_5:K.lookup f_5=some ⟨x70,x6h,.func (fnOf "is_word" "is_word" (zA zdC) (zy zdC) (zd zdC) .none x71 x72 x73 x6i x1Z x74),x6w⟩)
  (d_5:codeIn K x1Z "is_word"=true)
  (k_5:keepIn K (.ref f_5)=true)
  (a_6:nsIn K mainGlobals "sum_of"=some (some (.ref f_6)))
  (l_6:K.lookup f_6=some ⟨x75,x6j,.func (fnOf "sum_of" "sum_of" (zA zdF) (zy zdF) (zd zdF) .none x76 x77 x78 x6k x20 x79),x6x⟩)
  (d_6:codeIn K x20 "sum_of"=true)
  (k_6:keepIn K (.ref f_6)=true)
  (a_7:nsIn K mainGlobals "summed"=some (some (.ref f_7)))
  (l_7:K.lookup f_7=some ⟨x7a,x6l,.func (fnOf "summed" "summed" (zA zdM) (zy zdM) (zd zdM) .none x7b x7c x7d x6m x21 x7e),x6y⟩)
  (d_7:codeIn K x21 "summed"=true)
  (k_7:keepIn K (.ref f_7)=true)
  (a_8:nsIn K mainGlobals "body_of"=some (some (.ref f_8)))
  (l_8:K.lookup f_8=some ⟨x7f,x6n,.func (fnOf "body_of" "body_of" (zA zd1) (zy zd1) (zd zd1) .none x7g x7h x7i x6o x22 x7j),x6z⟩)
  (d_8:codeIn K x22 "body_of"=true)
  (k_8:keepIn K (.ref f_8)=true)
  (a_9:nsIn K mainGlobals "row_text"=some (some (.ref f_9)))
  (l_9:K.lookup f_9=some ⟨x7k,x6p,.func (fnOf "row_text" "row_text" (zA zc1) (zy zc1) (zd zc1) .none x7l x7m x7n x6q x23 x7o),x6A⟩)
  (d_9:codeIn K x23 "row_text"=true)
  (k_9:keepIn K (.ref f_9)=true)
  (x7p:nsIn K mainGlobals "part_text"=some (some (.ref qm)))
  (x7q:K.lookup qm=some ⟨x24,qV,.func (fnOf "part_text" "part_text" (zA zd4) (zy zd4) (zd zd4) .none x25 x26 x27 qX vq x28),x1f⟩)
  (x7r:codeIn K vq "part_text"=true)
  (x5j:keepIn K (.ref qm)=true)
  (x7s:nsIn K mainGlobals "read_row"=some (some (.ref qo)))
  (x7t:K.lookup qo=some ⟨x29,qY,.func (fnOf "read_row" "read_row" (zA zdi) (zy zdi) (zd zdi) .none x2a x2b x2c qZ vt x2d),x1g⟩)
  (x7u:codeIn K vt "read_row"=true)
  (x5k:keepIn K (.ref qo)=true)
  (x7v:nsIn K mainGlobals "row_of"=some (some (.ref qp)))
  (x7w:K.lookup qp=some ⟨x2e,x00,.func (fnOf "row_of" "row_of" (zA zc0) (zy zc0) (zd zc0) .none x2f x2g x2h x01 vv x2i),x1h⟩)
  (x7x:codeIn K vv "row_of"=true)
  (x5l:keepIn K (.ref qp)=true)
  (x7y:nsIn K mainGlobals "read_part"=some (some (.ref qq)))
  (x7z:K.lookup qq=some ⟨x2j,x02,.func (fnOf "read_part" "read_part" (zA zcw) (zy zcw) (zd zcw) .none x2k x2l x2m x03 vw x2n),x1i⟩)
  (x7A:codeIn K vw "read_part"=true)
  (x5m:keepIn K (.ref qq)=true)
  (x7B:nsIn K mainGlobals "row_at"=some (some (.ref qr)))
  (x7C:K.lookup qr=some ⟨x2o,x04,.func (fnOf "row_at" "row_at" (zA zdN) (zy zdN) (zd zdN) .none x2p x2q x2r x05 vx x2s),x1j⟩)
  (x7D:codeIn K vx "row_at"=true)
  (x5n:keepIn K (.ref qr)=true)
  (x7E:nsIn K mainGlobals "rows_in"=some (some (.ref qt)))
  (x7F:K.lookup qt=some ⟨x2t,x06,.func (fnOf "rows_in" "rows_in" (zA zec) (zy zec) (zd zec) .none x2u x2v x2w x07 vy x2x),x1k⟩)
  (x7G:codeIn K vy "rows_in"=true)
  (x5o:keepIn K (.ref qt)=true)
  (x7H:nsIn K mainGlobals "whole_rows"=some (some (.ref qu)))
  (x7I:K.lookup qu=some ⟨x2y,x08,.func (fnOf "whole_rows" "whole_rows" (zA zdc) (zy zdc) (zd zdc) .none x2z x2A x2B x09 (.ref yC) x2C),x1l⟩)
  (x7J:codeIn K (.ref yC) "whole_rows"=true)
  (x9E:tabIn K "whole_rows"=some (yC,x9))
  (qk:codeHdIn K yC x9=true)
  (x5p:K.lookup x9=none)
  (x5q:keepIn K (.ref qu)=true)
  (x7K:nsIn K mainGlobals "end_of"=some (some (.ref qv)))
  (x7L:K.lookup qv=some ⟨x2D,x0a,.func (fnOf "end_of" "end_of" (zA zef) (zy zef) (zd zef) .none x2E x2F x2G x0b vz x2H),x1m⟩)
  (x7M:codeIn K vz "end_of"=true)
  (x5r:keepIn K (.ref qv)=true)
  (x7N:nsIn K mainGlobals "empties"=some (some (.ref qw)))
  (x7O:K.lookup qw=some ⟨x2I,x0c,.func (fnOf "empties" "empties" (zA zdg) (zy zdg) (zd zdg) .none x2J x2K x2L x0d vA x2M),x1n⟩)
  (x7P:codeIn K vA "empties"=true)
  (x5s:keepIn K (.ref qw)=true)
  (x7Q:nsIn K mainGlobals "free_in"=some (some (.ref qx)))
  (x7R:K.lookup qx=some ⟨x2N,x0e,.func (fnOf "free_in" "free_in" (zA zdY) (zy zdY) (zd zdY) .none x2O x2P x2Q x0f vB x2R),x1o⟩)
  (x7S:codeIn K vB "free_in"=true)
  (x5t:keepIn K (.ref qx)=true)
  (x7T:nsIn K mainGlobals "next_stretch"=some (some (.ref qy)))
  (x7U:K.lookup qy=some ⟨x2S,x0g,.func (fnOf "next_stretch" "next_stretch" (zA zcR) (zy zcR) (zd zcR) .none x2T x2U x2V x0h vC x2W),x1p⟩)
  (x7V:codeIn K vC "next_stretch"=true)
  (x5u:keepIn K (.ref qy)=true)
  (x7W:findIn K (.ref x3) "__init__"=some (some (.ref uW)))
  (x7X:isFn K (.ref uW)=true)
  (x7Y:K.lookup uW=some ⟨x2X,x0i,.func (fnOf "__init__" "Disk.__init__" (zA zch) (zy zch) (zd zch) .none x2Y x2Z x30 x0j vD x31),x1q⟩)
  (x7Z:codeIn K vD "Disk.__init__"=true)
  (x80:keepIn K (.ref uW)=true)
  (x81:findIn K (.ref x3) "stretches"=some (some (.ref uX)))
  (x82:isFn K (.ref uX)=true)
  (x83:K.lookup uX=some ⟨x32,x0k,.func (fnOf "stretches" "Disk.stretches" (zA zd6) (zy zd6) (zd zd6) .none x33 x34 x35 x0l vE x36),x1r⟩)
  (x84:codeIn K vE "Disk.stretches"=true)
  (x5v:keepIn K (.ref uX)=true)
  (x85:findIn K (.ref x3) "places"=some (some (.ref uY)))
  (x86:isFn K (.ref uY)=true)
  (x87:K.lookup uY=some ⟨x37,x0m,.func (fnOf "places" "Disk.places" (zA zdp) (zy zdp) (zd zdp) .none x38 x39 x3a x0n vF x3b),x1s⟩)
  (x88:codeIn K vF "Disk.places"=true)
  (x5w:keepIn K (.ref uY)=true)
  (x89:findIn K (.ref x3) "next_place"=some (some (.ref uZ)))
  (x8a:isFn K (.ref uZ)=true)
  (x8b:K.lookup uZ=some ⟨x3c,x0o,.func (fnOf "next_place" "Disk.next_place" (zA zdZ) (zy zdZ) (zd zdZ) .none x3d x3e x3f x0p vG x3g),x1t⟩)
  (x8c:codeIn K vG "Disk.next_place"=true)
  (x5x:keepIn K (.ref uZ)=true)
  (x8d:findIn K (.ref x3) "told"=some (some (.ref v0)))
  (x8e:isFn K (.ref v0)=true)
  (x8f:K.lookup v0=some ⟨x3h,x0q,.func (fnOf "told" "Disk.told" (zA zdm) (zy zdm) (zd zdm) .none x3i x3j x3k x0r vH x3l),x1u⟩)
  (x8g:codeIn K vH "Disk.told"=true)
  (x5y:keepIn K (.ref v0)=true)
  (x8h:findIn K (.ref x3) "signs"=some (some (.ref v3)))
  (x8i:isFn K (.ref v3)=true)
  (x8j:K.lookup v3=some ⟨x3m,x0s,.func (fnOf "signs" "Disk.signs" (zA zdy) (zy zdy) (zd zdy) .none x3n x3o x3p x0t vI x3q),x1v⟩)
  (x8k:codeIn K vI "Disk.signs"=true)
  (x5z:keepIn K (.ref v3)=true)
  (x8l:findIn K (.ref x3) "write"=some (some (.ref v4)))
  (x8m:isFn K (.ref v4)=true)
  (x8n:K.lookup v4=some ⟨x3r,x0u,.func (fnOf "write" "Disk.write" (zA zcZ) (zy zcZ) (zd zcZ) .none x3s x3t x3u x0v vJ x3v),x1w⟩)
  (x8o:codeIn K vJ "Disk.write"=true)
  (x5A:keepIn K (.ref v4)=true)
  (x8p:findIn K (.ref x3) "put_side"=some (some (.ref v5)))
  (x8q:isFn K (.ref v5)=true)
  (x8r:K.lookup v5=some ⟨x3w,x0w,.func (fnOf "put_side" "Disk.put_side" (zA zc7) (zy zc7) (zd zc7) .none x3x x3y x3z x0x vK x3A),x1x⟩)
  (x8s:codeIn K vK "Disk.put_side"=true)
  (x5B:keepIn K (.ref v5)=true)
  (x8t:findIn K (.ref x3) "empty"=some (some (.ref v6)))
  (x8u:isFn K (.ref v6)=true)
  (x8v:K.lookup v6=some ⟨x3B,x0y,.func (fnOf "empty" "Disk.empty" (zA zcU) (zy zcU) (zd zcU) .none x3C x3D x3E x0z vL x3F),x1y⟩)
  (x8w:codeIn K vL "Disk.empty"=true)
  (x5C:keepIn K (.ref v6)=true)
  (x8x:findIn K (.ref x3) "stop"=some (some (.ref v7)))
  (x8y:isFn K (.ref v7)=true)
  (x8z:K.lookup v7=some ⟨x3G,x0A,.func (fnOf "stop" "Disk.stop" (zA zd3) (zy zd3) (zd zd3) .none x3H x3I x3J x0B vM x3K),x1z⟩)
  (x8A:codeIn K vM "Disk.stop"=true)
  (x5D:keepIn K (.ref v7)=true)
  (x8B:findIn K (.ref x3) "copied"=some (some (.ref v8)))
  (x8C:isFn K (.ref v8)=true)
  (x8D:K.lookup v8=some ⟨x3L,x0C,.func (fnOf "copied" "Disk.copied" (zA zcn) (zy zcn) (zd zcn) .none x3M x3N x3O x0D vN x3P),x1A⟩)
  (x8E:codeIn K vN "Disk.copied"=true)
  (x5E:keepIn K (.ref v8)=true)
  (x8F:findIn K (.ref x3) "refuse_if_stopped"=some (some (.ref v9)))
  (x8G:isFn K (.ref v9)=true)
  (x8H:K.lookup v9=some ⟨x3Q,x0E,.func (fnOf "refuse_if_stopped" "Disk.refuse_if_stopped" (zA zc4) (zy zc4) (zd zc4) .none x3R x3S x3T x0F vO x3U),x1B⟩)
  (x8I:codeIn K vO "Disk.refuse_if_stopped"=true)
  (x5F:keepIn K (.ref v9)=true)
  (x8J:findIn K (.ref x3) "spend"=some (some (.ref va)))
  (x8K:isFn K (.ref va)=true)
  (x8L:K.lookup va=some ⟨x3V,x0G,.func (fnOf "spend" "Disk.spend" (zA zdK) (zy zdK) (zd zdK) .none x3W x3X x3Y x0H vP x3Z),x1C⟩)
  (x8M:codeIn K vP "Disk.spend"=true)
  (x5G:keepIn K (.ref va)=true)
  (x8N:findIn K (.ref x3) "first_signs"=some (some (.ref vb)))
  (x8O:isFn K (.ref vb)=true)
  (x8P:K.lookup vb=some ⟨x40,x0I,.func (fnOf "first_signs" "Disk.first_signs" (zA zda) (zy zda) (zd zda) .none x41 x42 x43 x0J vQ x44),x1D⟩)
  (x8Q:codeIn K vQ "Disk.first_signs"=true)
  (x5H:keepIn K (.ref vb)=true)
  (x8R:nsIn K mainGlobals "_law_cell"=some (some (.ref qz)))
  (x8S:K.lookup qz=some ⟨x45,x0K,.func (fnOf "_law_cell" "_law_cell" (zA zdw) (zy zdw) (zd zdw) .none x46 x47 x48 x0L vR x49),x1E⟩)
  (x8T:codeIn K vR "_law_cell"=true)
  (x5I:keepIn K (.ref qz)=true)
  (x8U:nsIn K mainGlobals "_law_pot"=some (some (.ref qA)))
  (x8V:K.lookup qA=some ⟨x4a,x0M,.func (fnOf "_law_pot" "_law_pot" (zA zdD) (zy zdD) (zd zdD) .none x4b x4c x4d x0N vS x4e),x1F⟩)
  (x8W:codeIn K vS "_law_pot"=true)
  (x5J:keepIn K (.ref qA)=true)
  (x8X:nsIn K mainGlobals "_law_draw"=some (some (.ref qB)))
  (x8Y:K.lookup qB=some ⟨x4f,x0O,.func (fnOf "_law_draw" "_law_draw" (zA zdX) (zy zdX) (zd zdX) .none x4g x4h x4i x0P vT x4j),x1G⟩)
  (x8Z:codeIn K vT "_law_draw"=true)
  (x5K:keepIn K (.ref qB)=true)
  (x90:nsIn K mainGlobals "_law_drawn"=some (some (.ref qC)))
  (x91:K.lookup qC=some ⟨x4k,x0Q,.func (fnOf "_law_drawn" "_law_drawn" (zA zeb) (zy zeb) (zd zeb) .none x4l x4m x4n x0R vU x4o),x1H⟩)
  (x92:codeIn K vU "_law_drawn"=true)
  (x5L:keepIn K (.ref qC)=true)
  (x93:nsIn K mainGlobals "_law_row"=some (some (.ref qD)))
  (x94:K.lookup qD=some ⟨x4p,x0S,.func (fnOf "_law_row" "_law_row" (zA zdI) (zy zdI) (zd zdI) .none x4q x4r x4s x0T vV x4t),x1I⟩)
  (x95:codeIn K vV "_law_row"=true)
  (x5M:keepIn K (.ref qD)=true)
  (x96:nsIn K mainGlobals "_law_turn"=some (some (.ref qE)))
  (x97:K.lookup qE=some ⟨x4u,x0U,.func (fnOf "_law_turn" "_law_turn" (zA zcF) (zy zcF) (zd zcF) .none x4v x4w x4x x0V vW x4y),x1J⟩)
  (x98:codeIn K vW "_law_turn"=true)
  (x5N:keepIn K (.ref qE)=true)
  (x99:nsIn K mainGlobals "_law_numbers"=some (some (.ref qF)))
  (x9a:K.lookup qF=some ⟨x4z,x0W,.func (fnOf "_law_numbers" "_law_numbers" (zA zdU) (zy zdU) (zd zdU) .none x4A x4B x4C x0X vX x4D),x1K⟩)
  (x9b:codeIn K vX "_law_numbers"=true)
  (x5O:keepIn K (.ref qF)=true)
  (x9c:nsIn K mainGlobals "_law_torn"=some (some (.ref qG)))
  (x9d:K.lookup qG=some ⟨x4E,x0Y,.func (fnOf "_law_torn" "_law_torn" (zA zdh) (zy zdh) (zd zdh) .none x4F x4G x4H x0Z vY x4I),x1L⟩)
  (x9e:codeIn K vY "_law_torn"=true)
  (x5P:keepIn K (.ref qG)=true)
  (x9f:nsIn K mainGlobals "_law_disk"=some (some (.ref qH)))
  (x9g:K.lookup qH=some ⟨x4J,x10,.func (fnOf "_law_disk" "_law_disk" (zA zcK) (zy zcK) (zd zcK) .none x4K x4L x4M x11 vZ x4N),x1M⟩)
  (x9h:codeIn K vZ "_law_disk"=true)
  (x5Q:keepIn K (.ref qH)=true)
  (x9i:nsIn K mainGlobals "_law_rows"=some (some (.ref qI)))
  (x9j:K.lookup qI=some ⟨x4O,x12,.func (fnOf "_law_rows" "_law_rows" (zA zco) (zy zco) (zd zco) .none x4P x4Q x4R x13 (.ref yD) x4S),x1N⟩)
  (x9k:codeIn K (.ref yD) "_law_rows"=true)
  (x9F:tabIn K "_law_rows"=some (yD,xb))
  (ql:codeHdIn K yD xb=true)
  (x5R:K.lookup xb=none)
  (x5S:keepIn K (.ref qI)=true)
  (x9l:nsIn K mainGlobals "_law_end"=some (some (.ref qJ)))
  (x9m:K.lookup qJ=some ⟨x4T,x14,.func (fnOf "_law_end" "_law_end" (zA zcC) (zy zcC) (zd zcC) .none x4U x4V x4W x15 q9 x4X),x1O⟩)
  (x9n:codeIn K q9 "_law_end"=true)
  (x5T:keepIn K (.ref qJ)=true)
  (x9o:nsIn K mainGlobals "_law_goes_to"=some (some (.ref qK)))
  (x9p:K.lookup qK=some ⟨x4Y,x16,.func (fnOf "_law_goes_to" "_law_goes_to" (zA zc5) (zy zc5) (zd zc5) .none x4Z x50 x51 x17 qa x52),x1P⟩)
  (x9q:codeIn K qa "_law_goes_to"=true)
  (x5U:keepIn K (.ref qK)=true)
  (x9r:nsIn K mainGlobals "_law_asked"=some (some (.ref qM)))
  (x9s:K.lookup qM=some ⟨x53,x18,.func (fnOf "_law_asked" "_law_asked" (zA zd0) (zy zd0) (zd zd0) .none x54 x55 x56 x19 qc x57),x1Q⟩)
  (x9t:codeIn K qc "_law_asked"=true)
  (x5V:keepIn K (.ref qM)=true)
  (x9u:nsIn K mainGlobals "_law_right"=some (some (.ref qN)))
  (x9v:K.lookup qN=some ⟨x58,x1a,.func (fnOf "_law_right" "_law_right" (zA zcz) (zy zcz) (zd zcz) .none x59 x5a x5b x1b qe x5c),x1R⟩)
  (x9w:codeIn K qe "_law_right"=true)
  (x5W:keepIn K (.ref qN)=true)
  (x9x:nsIn K mainGlobals "_law_stopped"=some (some (.ref qO)))
  (x9y:K.lookup qO=some ⟨x5d,x1c,.func (fnOf "_law_stopped" "_law_stopped" (zA zdk) (zy zdk) (zd zdk) .none x5e x5f x5g x1d qf x5h),x1S⟩)
  (x9z:codeIn K qf "_law_stopped"=true)
  (x5X:keepIn K (.ref qO)=true)
  (x9A:nsIn K mainGlobals "law"=some (some (.ref qP)))
  (x9B:K.lookup qP=some ⟨x5i,x1e,.func (fnOf "law" "law" (zA zb0) (zy zb0) (zd zb0) .none qg qh qi vp uE qj),x1T⟩)
  (x9C:codeIn K uE "law"=true)
  (x9D:keepIn K (.ref qP)=true)
  (yQ:nsIn K mainGlobals "ValueError"=some none)
  (x5Y:nsIn K mainGlobals "abs"=some none)
  (x5Z:nsIn K mainGlobals "all"=some none)
  (qS:nsIn K mainGlobals "bool"=some none)
  (uM:nsIn K mainGlobals "divmod"=some none)
  (u9:nsIn K mainGlobals "enumerate"=some none)
  (x60:nsIn K mainGlobals "int"=some none)
  (yR:nsIn K mainGlobals "isinstance"=some none)
  (x61:nsIn K mainGlobals "len"=some none)
  (qT:nsIn K mainGlobals "list"=some none)
  (x62:nsIn K mainGlobals "max"=some none)
  (x63:nsIn K mainGlobals "min"=some none)
  (x64:nsIn K mainGlobals "ord"=some none)
  (ve:nsIn K mainGlobals "range"=some none)
  (qU:nsIn K mainGlobals "repr"=some none)
  (uN:nsIn K mainGlobals "sorted"=some none)
  (x65:nsIn K mainGlobals "str"=some none)
  (vf:nsIn K mainGlobals "tuple"=some none)
  (x66:nsIn K mainGlobals "zip"=some none)
  (uv:nsIn K mainGlobals "FIGURES"=some (some (.str "0123456789" uk)))
  (uw:nsIn K mainGlobals "LETTERS"=some (some (.str "abcdefghijklmnopqrstuvwxyz" ul)))
  (y9:nsIn K mainGlobals "MOST_FIGURES"=some (some (.int 18 xU)))
  (yb:nsIn K mainGlobals "MOST_LETTERS"=some (some (.int 6 xV)))
  (yS:nsIn K mainGlobals "MOST_SIGNS"=some (some (.int 20 yK)))
  (ux:nsIn K mainGlobals "MODULUS"=some (some (.int 65521 um)))
  (ua:nsIn K mainGlobals "COLD_KIND"=some (some (.str "carry" yZ)))
  (xu:nsIn K mainGlobals "LEAST_STRETCHES"=some (some (.int 3 xt)))
  (xF:nsIn K mainGlobals "MOST_STRETCHES"=some (some (.int 16 xE)))
  (yc:nsIn K mainGlobals "LEAST_PLACES"=some (some (.int 2 xX)))
  (yy:nsIn K mainGlobals "MOST_PLACES"=some (some (.int 32 yj)))
  (vg:nsIn K mainGlobals "PARTS"=some (some (.ref xP)))
  (uO:K.lookup xP=some { cls:=.type "dict",dict:=none,data:=.dict #[{ hash:=PyData.keyHash w.params (Str.ofString "put"),key:=.str (Str.ofString "put") u0,val:=.ref xk },{ hash:=PyData.keyHash w.params (Str.ofString "cut"),key:=.str (Str.ofString "cut") u5,val:=.ref xl },{ hash:=PyData.keyHash w.params (Str.ofString "hold"),key:=.str (Str.ofString "hold") yL,val:=.ref xg },{ hash:=PyData.keyHash w.params (Str.ofString "free"),key:=.str (Str.ofString "free") yM,val:=.ref xh },{ hash:=PyData.keyHash w.params (Str.ofString "carry"),key:=.str (Str.ofString "carry") yu,val:=.ref xf }] vc,slots:=#[] })
  (uP:(xP == sysModules)=false)
  (yT:K.lookup xk=some { cls:=.type "tuple",dict:=yV,data:=.seq #[.str (Str.ofString "number") yk,.str (Str.ofString "number") yl,.str (Str.ofString "end") ym,.str (Str.ofString "name") yn,.str (Str.ofString "number") yo,.str (Str.ofString "word") yp] u6,slots:=yX })
  (yU:K.lookup xl=some { cls:=.type "tuple",dict:=yW,data:=.seq #[.str (Str.ofString "number") yq,.str (Str.ofString "name") yr,.str (Str.ofString "number") yt] u7,slots:=yY })
  (yz:K.lookup xg=some { cls:=.type "tuple",dict:=yG,data:=.seq #[.str (Str.ofString "number") xY,.str (Str.ofString "name") xZ] yN,slots:=yI })
  (yA:K.lookup xh=some { cls:=.type "tuple",dict:=yH,data:=.seq #[.str (Str.ofString "number") y7,.str (Str.ofString "name") y8] yO,slots:=yJ })
  (yd:K.lookup xf=some { cls:=.type "tuple",dict:=yh,data:=.seq #[.str (Str.ofString "number") xL,.str (Str.ofString "number") xM,.str (Str.ofString "word") xN] yw,slots:=yi })
  (yB:excIn K x5 [.type "ValueError",.type "Exception",.type "BaseException",.type "object"] "ValueError.__new__"=true)
  (uQ:excIn K xn [.type "ValueError",.type "Exception",.type "BaseException",.type "object"] "ValueError.__new__"=true)
  (uy:excIn K xr [.type "ValueError",.type "Exception",.type "BaseException",.type "object"] "ValueError.__new__"=true)
  (vh:excIn K yF [.type "ValueError",.type "Exception",.type "BaseException",.type "object"] "ValueError.__new__"=true)
  (ue:excIn K x8 [.type "ValueError",.type "Exception",.type "BaseException",.type "object"] "ValueError.__new__"=true)
  (yE:excIn K x4 [.type "ValueError",.type "Exception",.type "BaseException",.type "object"] "ValueError.__new__"=true)
  (uT:mroIn K xn (.ref xn)=some true)
  (uf:mroIn K x8 (.ref x8)=some true)
  (uz:findIn K (.ref x4) "__getattribute__"=some (some (.builtin "BaseException.__getattribute__")))
  (uA:findIn K (.ref x4) "__getattr__"=some none)
  (ug:findIn K (.ref x4) "__class__"=some (some (.builtin "object.__class__")))
  (uC:mroIn K x4 (.type "object")=some true)
  (uD:mroIn K x4 (.type "BaseException")=some true)
  (uh:mroIn K x4 (.ref x5)=some true)
  (xm:kitOne K (.ref x4) (.type "ValueError")=some true)
  (xO:kitOne K (.ref x4) (.ref xn)=some false)
  (xG:kitOne K (.ref x4) (.ref xr)=some false)
  (ye:kitOne K (.ref x4) (.ref yF)=some false)
  (xv:kitOne K (.ref x4) (.ref x8)=some false)
  (xH:kitOne K (.ref x4) (.ref xQ)=some false)
  (xw:kitOne K (.ref x4) (.ref xA)=some false)
  (xi:kitOne K (.ref x4) (.ref xc)=some false)
  (xx:kitOne K (.ref x4) (.ref xB)=some false)
  (xy:kitOne K (.ref x4) (.ref xC)=some false)
  (xI:kitOne K (.ref x4) (.ref xR)=some false)
  (xJ:kitOne K (.ref x4) (.ref x4)=some true)
  (yf:kitOne K (.ref x4) (.ref uc)=some false)
  (xo:kitOne K (.ref x4) (.ref xj)=some false)
  (xq:kitOne K (.ref x4) (.ref xp)=some false)
  (xK:kitOne K (.ref x4) (.ref xT)=some false)
  (xz:kitOne K (.ref x4) (.ref xD)=some false)
  (vi:plainGet K x3 Str.empty=true)
  (uU:hasDictIn K x3=true)
  (vj:plainOver K x3=true)
  (vk:findIn K (.ref x3) "__setattr__"=some (some (.builtin "object.__setattr__")))
  (vm:makesIn K x3=true)
  (vn:keepIn K (.ref x3)=true)
  (ub:findIn K (.ref x3) "at_sides"=some none)
  (ui:findIn K (.ref x3) "counted"=some none)
  (yg:findIn K (.ref x3) "has_stopped"=some none)
  (vo:findIn K (.ref x3) "left"=some none)
  (uV:findIn K (.ref x3) "width"=some none)
  (uj:findIn K (.ref x3) "written"=some none) :
  ∃ fd:FuncData,(∀ (s:Shared) (v:Value),BindsTo s fd ⟨[v],[]⟩ [("_law_script",v)])∧(∀ T,T∈[x9,xb]→K.lookup T=none∧∃ c,codeHdIn K c T=true)∧∀ base:Heap,K.In base→base.Ns mainGlobals mg→zdj mg base→zp l.prog w K mg base CX0 true 15 fa fd ["_law_script"] (zgk x9 xb K):=by
 have e:=hfa.symm.trans (mg_of X G x9A)
 cases e
 have T:Txt w K mg ⟨x5,xn,xr,yF,x8,xQ,xA,xc,xB,xC,xR,x4,uc,xj,xp,xT,xD,x3,x9,xb,xP,xk,xl,xg,xh,xf⟩:=⟨mg_of X G vg,⟨⟨_,_,uO,(.cons (.cons (.cons (.cons (.cons .nil)))))⟩,by show (["put","cut","hold","free","carry"]:List Str).Nodup;decide +kernel,uP⟩,fun H=>.inr ⟨_,_,_,yT,rfl,rfl,by show 6≤sizeLine;decide,(.cons ⟨_,rfl⟩ (.cons ⟨_,rfl⟩ (.cons ⟨_,rfl⟩ (.cons ⟨_,rfl⟩ (.cons ⟨_,rfl⟩ (.cons ⟨_,rfl⟩ .nil))))))⟩,fun H=>.inr ⟨_,_,_,yU,rfl,rfl,by show 3≤sizeLine;decide,(.cons ⟨_,rfl⟩ (.cons ⟨_,rfl⟩ (.cons ⟨_,rfl⟩ .nil)))⟩,fun H=>.inr ⟨_,_,_,yz,rfl,rfl,by show 2≤sizeLine;decide,(.cons ⟨_,rfl⟩ (.cons ⟨_,rfl⟩ .nil))⟩,fun H=>.inr ⟨_,_,_,yA,rfl,rfl,by show 2≤sizeLine;decide,(.cons ⟨_,rfl⟩ (.cons ⟨_,rfl⟩ .nil))⟩,fun H=>.inr ⟨_,_,_,yd,rfl,rfl,by show 3≤sizeLine;decide,(.cons ⟨_,rfl⟩ (.cons ⟨_,rfl⟩ (.cons ⟨_,rfl⟩ .nil)))⟩,mg_none_of X G yQ,mg_none_of X G x5Y,mg_none_of X G x5Z,mg_none_of X G qS,mg_none_of X G uM,mg_none_of X G u9,mg_none_of X G x60,mg_none_of X G yR,mg_none_of X G x61,mg_none_of X G qT,mg_none_of X G x62,mg_none_of X G x63,mg_none_of X G x64,mg_none_of X G ve,mg_none_of X G qU,mg_none_of X G uN,mg_none_of X G x65,mg_none_of X G vf,mg_none_of X G x66,⟨_,mg_of X G uv,⟨_,rfl⟩⟩,⟨_,mg_of X G uw,⟨_,rfl⟩⟩,⟨_,mg_of X G y9,⟨_,rfl⟩⟩,⟨_,mg_of X G yb,⟨_,rfl⟩⟩,⟨_,mg_of X G yS,⟨_,rfl⟩⟩,⟨_,mg_of X G ux,⟨_,rfl⟩⟩,⟨_,mg_of X G ua,⟨_,rfl⟩⟩,⟨_,mg_of X G xu,⟨_,rfl⟩⟩,⟨_,mg_of X G xF,⟨_,rfl⟩⟩,⟨_,mg_of X G yc,⟨_,rfl⟩⟩,⟨_,mg_of X G yy,⟨_,rfl⟩⟩,mg_of X G yP,mg_of X G vd,mg_of X G uF,mg_of X G qQ,mg_of X G uo,mg_of X G uG,mg_of X G uq,mg_of X G yx,mg_of X G ur,mg_of X G ut,mg_of X G uH,mg_of X G uI,mg_of X G qR,mg_of X G u8,mg_of X G ud,mg_of X G uJ,mg_of X G uu,mg_of X G uL,yB,uQ,uy,vh,ue,yE,uT,uf,⟨yE,uz,uA,ug,uC,uD⟩,uh,xm,xO,xG,ye,xv,xH,xw,xi,xx,xy,xI,xJ,yf,xo,xq,xK,xz,⟨vi,uU,vj,vk⟩,ub,ui,yg,vo,uV,uj⟩
 have Fis_whole:=zC (st:=zdJ) l_0 d_0 k_0
 have bis_whole:=Fis_whole.binds (ps:=["value"]) fun|_,_,_,_,_,_,[_],_=>rfl
 have Fis_within:=zC (st:=zdr) l_1 d_1 k_1
 have bis_within:=Fis_within.binds (ps:=["value","least","most"]) fun|_,_,_,_,_,_,[_,_,_],_=>rfl
 have Fis_made_of:=zC (st:=zc9) l_2 d_2 k_2
 have bis_made_of:=Fis_made_of.binds (ps:=["text","signs","most"]) fun|_,_,_,_,_,_,[_,_,_],_=>rfl
 have Fis_number_text:=zC (st:=zdG) l_3 d_3 k_3
 have bis_number_text:=Fis_number_text.binds (ps:=["text"]) fun|_,_,_,_,_,_,[_],_=>rfl
 have Fis_name:=zC (st:=zdz) l_4 d_4 k_4
 have bis_name:=Fis_name.binds (ps:=["text"]) fun|_,_,_,_,_,_,[_],_=>rfl
 have Fis_word:=zC (st:=zdC) l_5 d_5 k_5
 have bis_word:=Fis_word.binds (ps:=["text"]) fun|_,_,_,_,_,_,[_],_=>rfl
 have Fsum_of:=zC (st:=zdF) l_6 d_6 k_6
 have bsum_of:=Fsum_of.binds (ps:=["text"]) fun|_,_,_,_,_,_,[_],_=>rfl
 have Fsummed:=zC (st:=zdM) l_7 d_7 k_7
 have bsummed:=Fsummed.binds (ps:=["body"]) fun|_,_,_,_,_,_,[_],_=>rfl
 have Fbody_of:=zC (st:=zd1) l_8 d_8 k_8
 have bbody_of:=Fbody_of.binds (ps:=["text"]) fun|_,_,_,_,_,_,[_],_=>rfl
 have Frow_text:=zC (st:=zc1) l_9 d_9 k_9
 have brow_text:=Frow_text.binds (ps:=["row"]) fun|_,_,_,_,_,_,[_],_=>rfl
 have Fpart_text:=zC (st:=zd4) x7q x7r x5j
 have bpart_text:=Fpart_text.binds (ps:=["part"]) fun|_,_,_,_,_,_,[_],_=>rfl
 have Fread_row:=zC (st:=zdi) x7t x7u x5k
 have bread_row:=Fread_row.binds (ps:=["text"]) fun|_,_,_,_,_,_,[_],_=>rfl
 have Frow_of:=zC (st:=zc0) x7w x7x x5l
 have brow_of:=Frow_of.binds (ps:=["words"]) fun|_,_,_,_,_,_,[_],_=>rfl
 have Fread_part:=zC (st:=zcw) x7z x7A x5m
 have bread_part:=Fread_part.binds (ps:=["kind","word"]) fun|_,_,_,_,_,_,[_,_],_=>rfl
 have Frow_at:=zC (st:=zdN) x7C x7D x5n
 have brow_at:=Frow_at.binds (ps:=["disk","stretch","place"]) fun|_,_,_,_,_,_,[_,_,_],_=>rfl
 have Frows_in:=zC (st:=zec) x7F x7G x5o
 have brows_in:=Frows_in.binds (ps:=["disk","stretch"]) fun|_,_,_,_,_,_,[_,_],_=>rfl
 have Fwhole_rows:=zC (st:=zdc) x7I x7J x5q
 have bwhole_rows:=Fwhole_rows.binds (ps:=["disk"]) fun|_,_,_,_,_,_,[_],_=>rfl
 have Fend_of:=zC (st:=zef) x7L x7M x5r
 have bend_of:=Fend_of.binds (ps:=["disk","is_hot"]) fun|_,_,_,_,_,_,[_,_],_=>rfl
 have Fempties:=zC (st:=zdg) x7O x7P x5s
 have bempties:=Fempties.binds (ps:=["disk"]) fun|_,_,_,_,_,_,[_],_=>rfl
 have Ffree_in:=zC (st:=zdY) x7R x7S x5t
 have bfree_in:=Ffree_in.binds (ps:=["disk","end"]) fun|_,_,_,_,_,_,[_,_],_=>rfl
 have Fnext_stretch:=zC (st:=zcR) x7U x7V x5u
 have bnext_stretch:=Fnext_stretch.binds (ps:=["disk","is_hot"]) fun|_,_,_,_,_,_,[_,_],_=>rfl
 have FDisk___init__:=zC (st:=zch) x7Y x7Z x80
 have bDisk___init__:=FDisk___init__.binds (ps:=["self","stretches","places"]) fun|_,_,_,_,_,_,[_,_,_],_=>rfl
 have FDisk_stretches:=zC (st:=zd6) x83 x84 x5v
 have bDisk_stretches:=FDisk_stretches.binds (ps:=["self"]) fun|_,_,_,_,_,_,[_],_=>rfl
 have FDisk_places:=zC (st:=zdp) x87 x88 x5w
 have bDisk_places:=FDisk_places.binds (ps:=["self"]) fun|_,_,_,_,_,_,[_],_=>rfl
 have FDisk_next_place:=zC (st:=zdZ) x8b x8c x5x
 have bDisk_next_place:=FDisk_next_place.binds (ps:=["self","stretch"]) fun|_,_,_,_,_,_,[_,_],_=>rfl
 have FDisk_told:=zC (st:=zdm) x8f x8g x5y
 have bDisk_told:=FDisk_told.binds (ps:=["self","stretch","place"]) fun|_,_,_,_,_,_,[_,_,_],_=>rfl
 have FDisk_signs:=zC (st:=zdy) x8j x8k x5z
 have bDisk_signs:=FDisk_signs.binds (ps:=["self"]) fun|_,_,_,_,_,_,[_],_=>rfl
 have FDisk_write:=zC (st:=zcZ) x8n x8o x5A
 have bDisk_write:=FDisk_write.binds (ps:=["self","stretch","text"]) fun|_,_,_,_,_,_,[_,_,_],_=>rfl
 have FDisk_put_side:=zC (st:=zc7) x8r x8s x5B
 have bDisk_put_side:=FDisk_put_side.binds (ps:=["self","k","text"]) fun|_,_,_,_,_,_,[_,_,_],_=>rfl
 have FDisk_empty:=zC (st:=zcU) x8v x8w x5C
 have bDisk_empty:=FDisk_empty.binds (ps:=["self","stretch"]) fun|_,_,_,_,_,_,[_,_],_=>rfl
 have FDisk_stop:=zC (st:=zd3) x8z x8A x5D
 have bDisk_stop:=FDisk_stop.binds (ps:=["self","many"]) fun|_,_,_,_,_,_,[_,_],_=>rfl
 have FDisk_copied:=zC (st:=zcn) x8D x8E x5E
 have bDisk_copied:=FDisk_copied.binds (ps:=["self"]) fun|_,_,_,_,_,_,[_],_=>rfl
 have FDisk_refuse_if_stopped:=zC (st:=zc4) x8H x8I x5F
 have bDisk_refuse_if_stopped:=FDisk_refuse_if_stopped.binds (ps:=["self"]) fun|_,_,_,_,_,_,[_],_=>rfl
 have FDisk_spend:=zC (st:=zdK) x8L x8M x5G
 have bDisk_spend:=FDisk_spend.binds (ps:=["self","many"]) fun|_,_,_,_,_,_,[_,_],_=>rfl
 have FDisk_first_signs:=zC (st:=zda) x8P x8Q x5H
 have bDisk_first_signs:=FDisk_first_signs.binds (ps:=["self","text"]) fun|_,_,_,_,_,_,[_,_],_=>rfl
 have F_law_cell:=zC (st:=zdw) x8S x8T x5I
 have b_law_cell:=F_law_cell.binds (ps:=["_law_script","_law_k"]) fun|_,_,_,_,_,_,[_,_],_=>rfl
 have F_law_pot:=zC (st:=zdD) x8V x8W x5J
 have b_law_pot:=F_law_pot.binds (ps:=["_law_script","_law_k"]) fun|_,_,_,_,_,_,[_,_],_=>rfl
 have F_law_draw:=zC (st:=zdX) x8Y x8Z x5K
 have b_law_draw:=F_law_draw.binds (ps:=["_law_pot_here","_law_many"]) fun|_,_,_,_,_,_,[_,_],_=>rfl
 have F_law_drawn:=zC (st:=zeb) x91 x92 x5L
 have b_law_drawn:=F_law_drawn.binds (ps:=["_law_pot_here","_law_some"]) fun|_,_,_,_,_,_,[_,_],_=>rfl
 have F_law_row:=zC (st:=zdI) x94 x95 x5M
 have b_law_row:=F_law_row.binds (ps:=["_law_pot_here","_law_number","_law_is_hot"]) fun|_,_,_,_,_,_,[_,_,_],_=>rfl
 have F_law_turn:=zC (st:=zcF) x97 x98 x5N
 have b_law_turn:=F_law_turn.binds (ps:=["_law_pot_here","_law_disk_here","_law_shelf","_law_numbers_here"]) fun|_,_,_,_,_,_,[_,_,_,_],_=>rfl
 have F_law_numbers:=zC (st:=zdU) x9a x9b x5O
 have b_law_numbers:=F_law_numbers.binds (ps:=["_law_pot_here","_law_many"]) fun|_,_,_,_,_,_,[_,_],_=>rfl
 have F_law_torn:=zC (st:=zdh) x9d x9e x5P
 have b_law_torn:=F_law_torn.binds (ps:=["_law_pot_here","_law_disk_here","_law_shelf"]) fun|_,_,_,_,_,_,[_,_,_],_=>rfl
 have F_law_disk:=zC (st:=zcK) x9g x9h x5Q
 have b_law_disk:=F_law_disk.binds (ps:=["_law_pot_here"]) fun|_,_,_,_,_,_,[_],_=>rfl
 have F_law_rows:=zC (st:=zco) x9j x9k x5S
 have b_law_rows:=F_law_rows.binds (ps:=["_law_shelf"]) fun|_,_,_,_,_,_,[_],_=>rfl
 have F_law_end:=zC (st:=zcC) x9m x9n x5T
 have b_law_end:=F_law_end.binds (ps:=["_law_shelf","_law_is_hot"]) fun|_,_,_,_,_,_,[_,_],_=>rfl
 have F_law_goes_to:=zC (st:=zc5) x9p x9q x5U
 have b_law_goes_to:=F_law_goes_to.binds (ps:=["_law_shelf","_law_places","_law_is_hot"]) fun|_,_,_,_,_,_,[_,_,_],_=>rfl
 have F_law_asked:=zC (st:=zd0) x9s x9t x5V
 have b_law_asked:=F_law_asked.binds (ps:=["_law_disk_here","_law_is_hot"]) fun|_,_,_,_,_,_,[_,_],_=>rfl
 have F_law_right:=zC (st:=zcz) x9v x9w x5W
 have b_law_right:=F_law_right.binds (ps:=["_law_disk_here","_law_shelf"]) fun|_,_,_,_,_,_,[_,_],_=>rfl
 have F_law_stopped:=zC (st:=zdk) x9y x9z x5X
 have b_law_stopped:=F_law_stopped.binds (ps:=["_law_pot_here","_law_disk_here","_law_shelf"]) fun|_,_,_,_,_,_,[_,_,_],_=>rfl
 have Flaw:=zC (st:=zb0) x9B x9C x9D
 have blaw:=Flaw.binds (ps:=["_law_script"]) fun|_,_,_,_,_,_,[_],_=>rfl
 refine ⟨fnOf "law" "law" (zA zb0) (zy zb0) (zd zb0) .none qg qh qi vp uE qj,fun s v=>.of_eq rfl,fun T hT=>?_,fun base KB _ hbt=>?_⟩
 ·simp only [List.mem_cons,List.not_mem_nil,or_false] at hT
  rcases hT with rfl|rfl
  ·exact ⟨x5p,_,qk⟩
  ·exact ⟨x5R,_,ql⟩
 have LB_whole_rows:zcY mg base (.ref yC) x9:=⟨⟨yC,rfl,codeHd_of_K KB qk⟩,hbt⟩
 have LB__law_rows:zcY mg base (.ref yD) xb:=⟨⟨yD,rfl,codeHd_of_K KB ql⟩,hbt⟩
 have G_is_whole:GF l.prog w K mg base true 1 "is_whole" ["value"] (zif):=⟨_,_,zw2 Fis_whole T,mg_of X G a_0,k_0,bis_whole⟩
 have G_is_within:GF l.prog w K mg base true 2 "is_within" ["value","least","most"] (zhW):=⟨_,_,zwT Fis_within T G_is_whole,mg_of X G a_1,k_1,bis_within⟩
 have G_Disk:GCX l.prog w K mg base true 3 "Disk" x3 ["self","stretches","places"] (zej _):=⟨_,_,zsu FDisk___init__ T G_is_within,mg_of X G uL,⟨vm,x7W,x7X,vn⟩,bDisk___init__⟩
 have M_Disk_stretches:GM l.prog w K mg base true 1 x3 "stretches" ["self"] (zaV _ fun _ d=>.int d.rows.length):=⟨_,_,zvS FDisk_stretches T,⟨x81,x82,x5v⟩,bDisk_stretches⟩
 have M_Disk_places:GM l.prog w K mg base true 1 x3 "places" ["self"] (zaV _ fun m _=>.int m):=⟨_,_,zvX FDisk_places T,⟨x85,x86,x5w⟩,bDisk_places⟩
 have M_Disk_next_place:GM l.prog w K mg base true 1 x3 "next_place" ["self","stretch"] (zeV _):=⟨_,_,zpf FDisk_next_place T,⟨x89,x8a,x5x⟩,bDisk_next_place⟩
 have M_Disk_told:GM l.prog w K mg base true 1 x3 "told" ["self","stretch","place"] (zhs _):=⟨_,_,zw3 FDisk_told T,⟨x8d,x8e,x5y⟩,bDisk_told⟩
 have M_Disk_refuse_if_stopped:GMX l.prog w K mg base true 1 x3 "refuse_if_stopped" ["self"] (zdu _):=⟨_,_,znb FDisk_refuse_if_stopped T,⟨x8F,x8G,x5F⟩,bDisk_refuse_if_stopped⟩
 have M_Disk_spend:GM l.prog w K mg base true 1 x3 "spend" ["self","many"] (zfb _):=⟨_,_,zwM FDisk_spend T,⟨x8J,x8K,x5G⟩,bDisk_spend⟩
 have M_Disk_first_signs:GMX l.prog w K mg base true 2 x3 "first_signs" ["self","text"] (zgr _):=⟨_,_,zvY FDisk_first_signs T M_Disk_spend M_Disk_refuse_if_stopped,⟨x8N,x8O,x5H⟩,bDisk_first_signs⟩
 have M_Disk_write:GMX l.prog w K mg base true 3 x3 "write" ["self","stretch","text"] (zeW _):=⟨_,_,zta FDisk_write T M_Disk_first_signs M_Disk_refuse_if_stopped,⟨x8l,x8m,x5A⟩,bDisk_write⟩
 have M_Disk_put_side:GMX l.prog w K mg base true 3 x3 "put_side" ["self","k","text"] (zhJ _):=⟨_,_,zuO FDisk_put_side T M_Disk_first_signs M_Disk_refuse_if_stopped,⟨x8p,x8q,x5B⟩,bDisk_put_side⟩
 have M_Disk_empty:GMX l.prog w K mg base true 2 x3 "empty" ["self","stretch"] (zgo _):=⟨_,_,zpY FDisk_empty T M_Disk_spend M_Disk_refuse_if_stopped,⟨x8t,x8u,x5C⟩,bDisk_empty⟩
 have M_Disk_stop:GM l.prog w K mg base true 1 x3 "stop" ["self","many"] (zga _):=⟨_,_,zsN FDisk_stop T,⟨x8x,x8y,x5D⟩,bDisk_stop⟩
 have M_Disk_copied:GM l.prog w K mg base true 5 x3 "copied" ["self"] (ziS _):=⟨_,_,zoe FDisk_copied T M_Disk_stretches G_Disk,⟨x8B,x8C,x5E⟩,bDisk_copied⟩
 have G_is_made_of:GF l.prog w K mg base true 1 "is_made_of" ["text","signs","most"] (zen):=⟨_,_,zw0 Fis_made_of T,mg_of X G a_2,k_2,bis_made_of⟩
 have G_is_number_text:GF l.prog w K mg base true 2 "is_number_text" ["text"] (zbV zaO):=⟨_,_,zq4 Fis_number_text T G_is_made_of,mg_of X G a_3,k_3,bis_number_text⟩
 have G_is_name:GF l.prog w K mg base true 2 "is_name" ["text"] (zbV zaS):=⟨_,_,zob Fis_name T G_is_made_of,mg_of X G a_4,k_4,bis_name⟩
 have G_is_word:GF l.prog w K mg base true 2 "is_word" ["text"] (zbV zbn):=⟨_,_,zqB Fis_word T G_is_made_of,mg_of X G a_5,k_5,bis_word⟩
 have G_sum_of:GF l.prog w K mg base true 1 "sum_of" ["text"] (zhm):=⟨_,_,zna Fsum_of T,mg_of X G a_6,k_6,bsum_of⟩
 have G_summed:GF l.prog w K mg base true 2 "summed" ["body"] (zeT):=⟨_,_,zn5 Fsummed T G_sum_of,mg_of X G a_7,k_7,bsummed⟩
 have G_body_of:GF l.prog w K mg base true 3 "body_of" ["text"] (zhI):=⟨_,_,zsD Fbody_of T G_summed,mg_of X G a_8,k_8,bbody_of⟩
 have G_part_text:GF l.prog w K mg base true 1 "part_text" ["part"] (zf0):=⟨_,_,zrq Fpart_text T,mg_of X G x7p,x5j,bpart_text⟩
 have G_row_text:GF l.prog w K mg base true 3 "row_text" ["row"] (zep):=⟨_,_,ztf Frow_text T G_summed G_part_text,mg_of X G a_9,k_9,brow_text⟩
 have G_read_part:GX l.prog w K mg base true 3 "read_part" ["kind","word"] (ziM _):=⟨_,_,zoi Fread_part T G_is_number_text G_is_name G_is_word,mg_of X G x7y,x5m,bread_part⟩
 have G_row_of:GX l.prog w K mg base true 4 "row_of" ["words"] (zgx _):=⟨_,_,zr5 Frow_of T G_read_part,mg_of X G x7v,x5l,brow_of⟩
 have G_read_row:GX l.prog w K mg base true 5 "read_row" ["text"] (zgE _):=⟨_,_,zmE Fread_row T G_body_of G_row_of,mg_of X G x7s,x5k,bread_row⟩
 have G_row_at:GF l.prog w K mg base true 7 "row_at" ["disk","stretch","place"] (zir _):=⟨_,_,zrd Frow_at T M_Disk_told G_read_row,mg_of X G x7B,x5n,brow_at⟩
 have G_rows_in:GF l.prog w K mg base true 8 "rows_in" ["disk","stretch"] (zhv _):=⟨_,_,zwK Frows_in T M_Disk_next_place G_row_at,mg_of X G x7E,x5o,brows_in⟩
 have G_whole_rows:GF l.prog w K mg base true 9 "whole_rows" ["disk"] (zfG _):=⟨_,_,zwz Fwhole_rows rfl LB_whole_rows T M_Disk_stretches G_rows_in,mg_of X G x7H,x5q,bwhole_rows⟩
 have G_end_of:GF l.prog w K mg base true 10 "end_of" ["disk","is_hot"] (zgd _):=⟨_,_,zqL Fend_of T G_whole_rows,mg_of X G x7K,x5r,bend_of⟩
 have G_empties:GF l.prog w K mg base true 2 "empties" ["disk"] (zfM _):=⟨_,_,zq9 Fempties T M_Disk_stretches M_Disk_next_place,mg_of X G x7N,x5s,bempties⟩
 have G_free_in:GF l.prog w K mg base true 2 "free_in" ["disk","end"] (zhE _):=⟨_,_,zqP Ffree_in T M_Disk_places M_Disk_next_place,mg_of X G x7Q,x5t,bfree_in⟩
 have G_next_stretch:GX l.prog w K mg base true 11 "next_stretch" ["disk","is_hot"] (zgw _):=⟨_,_,znT Fnext_stretch T G_end_of G_free_in G_empties,mg_of X G x7T,x5u,bnext_stretch⟩
 have M_Disk_signs:GM l.prog w K mg base true 1 x3 "signs" ["self"] (zaV _ fun _ d=>.int d.cnt):=⟨_,_,zp0 FDisk_signs T,⟨x8h,x8i,x5z⟩,bDisk_signs⟩
 have G__law_cell:GF l.prog w K mg base true 1 "_law_cell" ["_law_script","_law_k"] (ziB K):=⟨_,_,zsQ F_law_cell T,mg_of X G x8R,x5I,b_law_cell⟩
 have G__law_pot:GF l.prog w K mg base true 2 "_law_pot" ["_law_script","_law_k"] (zgZ K):=⟨_,_,zwe F_law_pot T G__law_cell,mg_of X G x8U,x5J,b_law_pot⟩
 have G__law_draw:GF l.prog w K mg base true 1 "_law_draw" ["_law_pot_here","_law_many"] (zbD):=⟨_,_,znm F_law_draw T,mg_of X G x8X,x5K,b_law_draw⟩
 have G__law_drawn:GF l.prog w K mg base true 2 "_law_drawn" ["_law_pot_here","_law_some"] (zeX):=⟨_,_,zso F_law_drawn T G__law_draw,mg_of X G x90,x5L,b_law_drawn⟩
 have G__law_row:GF l.prog w K mg base true 3 "_law_row" ["_law_pot_here","_law_number","_law_is_hot"] (ziw):=⟨_,_,znE F_law_row T G__law_draw G__law_drawn,mg_of X G x93,x5M,b_law_row⟩
 have G__law_turn:GF l.prog w K mg base true 4 "_law_turn" ["_law_pot_here","_law_disk_here","_law_shelf","_law_numbers_here"] (zix _):=⟨_,_,zqM F_law_turn T G__law_draw M_Disk_empty M_Disk_places G__law_row G_row_text M_Disk_write,mg_of X G x96,x5N,b_law_turn⟩
 have G__law_numbers:GF l.prog w K mg base true 2 "_law_numbers" ["_law_pot_here","_law_many"] (zht):=⟨_,_,zo9 F_law_numbers T G__law_draw,mg_of X G x99,x5O,b_law_numbers⟩
 have G__law_torn:GF l.prog w K mg base true 6 "_law_torn" ["_law_pot_here","_law_disk_here","_law_shelf"] (zhX _):=⟨_,_,ztr F_law_torn T G__law_draw G__law_drawn M_Disk_stop M_Disk_empty M_Disk_copied,mg_of X G x9c,x5P,b_law_torn⟩
 have G__law_disk:GF l.prog w K mg base true 7 "_law_disk" ["_law_pot_here"] (zgD _):=⟨_,_,znG F_law_disk T G__law_drawn G_Disk M_Disk_stretches G__law_numbers G__law_draw G__law_turn G__law_torn,mg_of X G x9f,x5Q,b_law_disk⟩
 have G__law_rows:GF l.prog w K mg base true 1 "_law_rows" ["_law_shelf"] (zeG _):=⟨_,_,zsj F_law_rows rfl LB__law_rows T,mg_of X G x9i,x5S,b_law_rows⟩
 have G__law_end:GF l.prog w K mg base true 2 "_law_end" ["_law_shelf","_law_is_hot"] (zfP _):=⟨_,_,zqX F_law_end T G__law_rows,mg_of X G x9l,x5T,b_law_end⟩
 have G__law_goes_to:GF l.prog w K mg base true 3 "_law_goes_to" ["_law_shelf","_law_places","_law_is_hot"] (zgp _):=⟨_,_,zty F_law_goes_to T G__law_end,mg_of X G x9o,x5U,b_law_goes_to⟩
 have G__law_asked:GF l.prog w K mg base true 12 "_law_asked" ["_law_disk_here","_law_is_hot"] (zgX _):=⟨_,_,zqC F_law_asked T G_next_stretch,mg_of X G x9r,x5V,b_law_asked⟩
 have G__law_right:GF l.prog w K mg base true 13 "_law_right" ["_law_disk_here","_law_shelf"] (ziP _):=⟨_,_,zmL F_law_right T M_Disk_signs G__law_rows G_whole_rows G_empties G_end_of G__law_end G__law_asked G__law_goes_to M_Disk_places,mg_of X G x9u,x5W,b_law_right⟩
 have G__law_stopped:GF l.prog w K mg base true 4 "_law_stopped" ["_law_pot_here","_law_disk_here","_law_shelf"] (ziE _):=⟨_,_,zvp F_law_stopped T G__law_rows G__law_goes_to M_Disk_places G_row_text G__law_draw M_Disk_stop M_Disk_write,mg_of X G x9x,x5X,b_law_stopped⟩
 exact zoW Flaw T G__law_pot G__law_disk G__law_draw G_row_text M_Disk_put_side G__law_right G__law_stopped G_Disk
theorem walk {l:OpenLaw}{q:Program}{loose:List Str}{XP:(Str→Option Value)→Heap→Prop}{YP:World→Heap→Prop}{d:DefRec}{K:Params→Frag} (x9 xb:Addr) {ts:List Addr} (hn:l.most=some 63) (hdf:d.params.defaults=[])
  (hY:∀ (w:World) (h:Heap),YP w h→(K w.params).In h∧∀ T∈ts,h.get? T=some (tabObj #[])) (hts:∀ T,T∈ts→T∈[x9,xb]) (hts2:∀ T,T∈[x9,xb]→T∈ts) (hnd:([x9,xb]:List Addr).Nodup)
  (F:∀ (w:World) (mg:Str→Option Value) (fa:Addr) (h:Heap),(K w.params).In h→h.Ns mainGlobals mg→mg d.name=some (.ref fa) →
   ∃ fd:FuncData,(∀ (s:Shared) (u:Value),BindsTo s fd ⟨[u],[]⟩ [("_law_script",u)])∧(∀ T,T∈[x9,xb]→(K w.params).lookup T=none∧∃ c,codeHdIn (K w.params) c T=true)∧∀ base:Heap,(K w.params).In base→base.Ns mainGlobals mg→zdj mg base→zp l.prog w (K w.params) mg base CX0 true 15 fa fd ["_law_script"] (zgk x9 xb (K w.params))) :
  WalkO q loose XP YP l.row.toRowW d [] (fun f vs=>PySem.call f vs) :=
 L2.walk_ofT (n:=63) (k:=15) (x:="_law_script") (CX:=fun _=>CX0) (sp:=fun w=>zgk x9 xb (K w.params)) (ts:=ts) hn (by decide) hdf ⟨fun _=>rfl,by decide,by decide,rfl⟩ hY (fun w mg fa h a b c=>let ⟨fd,g1,g2,g3⟩:=F w mg fa h a b c;⟨fd,g1,fun T hT=>g2 T (hts T hT),g3⟩) (fun _ H a ns hl hT hS=>⟨a,ns,rfl,hS,hl,hT _ (hts2 _ (by simp)),hT _ (hts2 _ (by simp)),(by intro z;rw [z] at hnd;exact absurd hnd (by simp)),fun _=>rfl⟩) fun _ _ _ _ _ z=>z
end K34
set_option Elab.async false
def PySem.W.Fast.tw12004966924932883114:Nat:=0
def PySem.W.Fast.tw1692796487115087431:Nat:=0
def PySem.W.Fast.tw5668485418716074916:Nat:=0
def PySem.W.Fast.tw17255029530826961812:Nat:=0
def PySem.W.Fast.tw14709101935667930600:Nat:=0
def PySem.W.Fast.tw6310712985318259974:Nat:=0
def PySem.W.Fast.tw1055718263465223266:Nat:=0
def PySem.W.Fast.tw14501069681080440126:Nat:=0
def PySem.W.Fast.tw11386618343688379213:Nat:=0
def PySem.W.Fast.tw4728223498163830752:Nat:=0
def PySem.W.Fast.tw7096348267915620718:Nat:=0
def PySem.W.Fast.tw308858210375404490:Nat:=0
def PySem.W.Fast.tw7855595906675069395:Nat:=0
def PySem.W.Fast.tw14601294324240561247:Nat:=0
def PySem.W.Fast.tw664791338616220458:Nat:=0
def PySem.W.Fast.tw12477792929709575208:Nat:=0
def PySem.W.Fast.tw3467435058199947957:Nat:=0
def PySem.W.Fast.tw4853809202744115671:Nat:=0
def PySem.W.Fast.tw6887815677479557747:Nat:=0
def PySem.W.Fast.tw4922474321919151469:Nat:=0
def PySem.W.Fast.tw15286199786311147885:Nat:=0
def PySem.W.Fast.tw1216096929941573897:Nat:=0
def PySem.W.Fast.tw6976240335486365204:Nat:=0
def PySem.W.Fast.tw17739051220938319208:Nat:=0
def PySem.W.Fast.tw11894479231625865190:Nat:=0
def PySem.W.Fast.tw9379098303003989943:Nat:=0
def PySem.W.Fast.tw15479159855891779093:Nat:=0
def PySem.W.Fast.tw5134084272711878661:Nat:=0
def PySem.W.Fast.tw13005306897635447453:Nat:=0
def PySem.W.Fast.tw9839604441473863569:Nat:=0
def PySem.W.Fast.tw11858494940620365143:Nat:=0
def PySem.W.Fast.tw16936171653339896801:Nat:=0
def PySem.W.Fast.tw1358941391496186800:Nat:=0
def PySem.W.Fast.tw3674420477604997459:Nat:=0
def PySem.W.Fast.tw10656351309734175793:Nat:=0
def PySem.W.Fast.tw2324507791855331575:Nat:=0
def PySem.W.Fast.tw5177844339032703198:Nat:=0
def PySem.W.Fast.tw12037534624115137658:Nat:=0
def PySem.W.Fast.tw15347371698825776359:Nat:=0
def PySem.W.Fast.tw14143994877351577123:Nat:=0
def PySem.W.Fast.tw1009887534131260718:Nat:=0
def PySem.W.Fast.tw13186266923747720157:Nat:=0
def PySem.W.Fast.tw1733949753443710001:Nat:=0
def PySem.W.Fast.tw12050910795069934468:Nat:=0
def PySem.W.Fast.tw2549747112142141549:Nat:=0
def PySem.W.Fast.tw2407537977249304799:Nat:=0
def PySem.W.Fast.tw363763587911476793:Nat:=0
def PySem.W.Fast.tw14557970783287858661:Nat:=0
def PySem.W.Fast.tw15380808620974441290:Nat:=0
def PySem.W.Fast.tw15340430526325075351:Nat:=0
def PySem.W.Fast.tw4251150561211641472:Nat:=0
def PySem.W.Fast.tw461749684871786351:Nat:=0
def PySem.W.Fast.tw1583528807980569370:Nat:=0
def PySem.W.Fast.tw11259360701917698047:Nat:=0
def PySem.W.Fast.tw18282932247115495624:Nat:=0
def PySem.W.Fast.tw8393303587087362048:Nat:=0
def PySem.W.Fast.tw2963371692354765936:Nat:=0
def PySem.W.Fast.tw16642870796096167957:Nat:=0
def PySem.W.Fast.tw13514999194176410747:Nat:=0
def PySem.W.Fast.tw5402662724539902814:Nat:=0
def PySem.W.Fast.tw10816178814562994263:Nat:=0
def PySem.W.Fast.tw4140837478963874034:Nat:=0
def PySem.W.Fast.tw9006798276833400852:Nat:=0
def PySem.W.Fast.tw1781511276727305484:Nat:=0
def PySem.W.Fast.tw12036318493280664925:Nat:=0
def PySem.W.Fast.tw5769865903869378044:Nat:=0
def PySem.W.Fast.tw6744769063976948309:Nat:=0
def PySem.W.Fast.tw13869769631868912383:Nat:=0
def PySem.W.Fast.tw1256633072392189755:Nat:=0
def PySem.W.Fast.tw16275422261338069695:Nat:=0
def PySem.W.Fast.tw15652042733459860071:Nat:=0
def PySem.W.Fast.tw13515541606269506010:Nat:=0
def PySem.W.Fast.tw1162929772819188444:Nat:=0
def PySem.W.Fast.tw2118690870709172102:Nat:=0
def PySem.W.Fast.tw6387158136285248897:Nat:=0
def PySem.W.Fast.tw11181851867448566054:Nat:=0
def PySem.W.Fast.tw15652786876304935650:Nat:=0
def PySem.W.Fast.tw1656887317449222954:Nat:=0
def PySem.W.Fast.tw13708891517641244421:Nat:=0
def PySem.W.Fast.tw15752742878504580804:Nat:=0
def PySem.W.Fast.tw12084239570338895536:Nat:=0
def PySem.W.Fast.tw8999927073481317421:Nat:=0
def PySem.W.Fast.tw3463489601124444366:Nat:=0
def PySem.W.Fast.tw6888222749603348574:Nat:=0
def PySem.W.Fast.tw6453509194602361397:Nat:=0
def PySem.W.Fast.tw3542933851679592710:Nat:=0
def PySem.W.Fast.tw13055746680170262890:Nat:=0
def PySem.W.Fast.tw11208561031241338279:Nat:=0
def PySem.W.Fast.tw4310346086261286549:Nat:=0
def PySem.W.Fast.tw9456725858871078343:Nat:=0
def PySem.W.Fast.tw17022788556213441256:Nat:=0
def PySem.W.Fast.tw16606277630297695816:Nat:=0
def PySem.W.Fast.tw1262645292549149274:Nat:=0
def PySem.W.Fast.tw11984013287752978738:Nat:=0
def PySem.W.Fast.tw1120610290735298577:Nat:=0
def PySem.W.Fast.tw16425128254753613538:Nat:=0
def PySem.W.Fast.tw259364432827434070:Nat:=0
def PySem.W.Fast.tw3262127969051314815:Nat:=0
open PySem PySem.W PyProof.Rows
set_option maxRecDepth 100000 in
set_option maxHeartbeats 0 in
theorem PySem.Challenge.cw_cleanrows_k34_ends_told_holds : PySem.Challenge.rw_cleanrows_k34_ends_told.Holds := by
 w_on;o_law;k_head;(case hw=>w_witness2)
 k_fill
 refine K34.walk 335 540 (l:=PySem.Challenge.rw_cleanrows_k34_ends_told) rfl rfl (fun w h Y=>⟨PySem.W.km_in_of Y,PySem.W.km_tabs_of Y⟩) (by decide) (by decide) (by decide) ?F
 case F =>
  intro w mg fa h KX G hmg
  refine' K34.all_mk KX G hmg ..
  all_goals first|k_is|kit_is|k_exc|rfl|decide +kernel|skip
