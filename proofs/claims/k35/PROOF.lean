import PyProof.Rows.All
import Wide.All
import OpenK.AllK
import Wide.FinOn
import Lean
import PyProof.EqAt
import PyProof.EqKinds
import PyProof.TupleCall
import KE.KUnpack
import PyProof.NeKinds
import PyProof.EnumFor
import PyProof.EnumStmt
import PyProof.EnumMake
import PyProof.Draws
import PyProof.StrWalks
import PyProof.Rows.FStr
import PyProof.Rows.CallKw2
import PyProof.StrBlockL
import KE.KIntText
import PyProof.ConsumeWalk
import PyProof.StrBlockG
import PyProof.CallStr
import PyProof.Rows.Range3
import PyProof.MeetsDict
import PyProof.DictList
import PyProof.StrLawsChain
import PyProof.StrLawsNeg
import KE.IntTextLaws
import KE.IntTextText
import PyProof.CallFns
import PyProof.CompUse
import PyProof.DictWalks
import KE.KDictSum
import PyProof.FString5
import KE.KLam
import KE.KSortKey
import KE.KNestM
import PyProof.Rows.RuleN_abs
import PySem.Challenge.RW_cleanrows_k35_whole_rows_put_at_ends
set_option Elab.async false
set_option linter.all false
set_option maxRecDepth 100000
namespace L2
open PySem PySem.Spec PyProof.Rows
abbrev Key:=Sum Int Str
def keyIs:Key→Value→Bool
 | .inl k,v=>Value.isInt k v
 | .inr x,v=>Value.isStrOf x v
def keyH (w:World):Key→Int
 | .inl k=>hashInt k
 | .inr x=>hashStr w x
theorem keyIs_shape:∀ {k:Key} {v:Value},keyIs k v=true→(∃ i t,k=Sum.inl i∧v=Value.int i t)∨(∃ x t,k=Sum.inr x∧v=Value.str x t)
 | .inl i,v,h=>by
  obtain ⟨t,e⟩:=Value.isInt_shape (k:=i) (v:=v) h
  exact .inl ⟨i,t,rfl,e⟩
 | .inr x,v,h=>by
  obtain ⟨t,e⟩:=Value.isStrOf_shape (x:=x) (v:=v) h
  exact .inr ⟨x,t,rfl,e⟩
theorem keyIs_int (i:Int) (t:Tok):keyIs (.inl i) (.int i t)=true:=by simp [keyIs,Value.isInt]
theorem keyIs_str (x:Str) (t:Tok):keyIs (.inr x) (.str x t)=true:=by simp [keyIs,Value.isStrOf]
theorem key_ll (a b:Int):decide ((Sum.inl a:Key)=Sum.inl b)=(a == b):=by
 by_cases e:a=b
 ·subst e; simp
 ·have h : ¬ (Sum.inl a:Key)=Sum.inl b:=fun q=>e (Sum.inl.inj q)
  rw [decide_eq_false h]
  exact (beq_eq_false_iff_ne.mpr e).symm
theorem key_rr (a b:Str):decide ((Sum.inr a:Key)=Sum.inr b)=decide (a=b):=by
 by_cases e:a=b
 ·subst e; simp
 ·have h : ¬ (Sum.inr a:Key)=Sum.inr b:=fun q=>e (Sum.inr.inj q)
  rw [decide_eq_false h,decide_eq_false e]
theorem key_lr (a:Int) (b:Str):decide ((Sum.inl a:Key)=Sum.inr b)=false:=decide_eq_false (fun q=>nomatch q)
theorem key_rl (a:Str) (b:Int):decide ((Sum.inr a:Key)=Sum.inl b)=false:=decide_eq_false (fun q=>nomatch q)
def mixKind (prog:Program) (w:World):PySem.KeyKind prog w Key where
 is:=keyIs
 hash:=keyH w
 inj:=fun v a b ha hb=>by
  rcases keyIs_shape ha with ⟨i,t,rfl,rfl⟩|⟨x,t,rfl,rfl⟩
  ·rcases keyIs_shape hb with ⟨j,u,rfl,e⟩|⟨y,u,rfl,e⟩
   ·injection e with e1 _; rw [e1]
   ·exact nomatch e
  ·rcases keyIs_shape hb with ⟨j,u,rfl,e⟩|⟨y,u,rfl,e⟩
   ·exact nomatch e
   ·injection e with e1 _; rw [e1]
 byValue:=fun k v h=>by
  rcases keyIs_shape h with ⟨i,t,rfl,rfl⟩|⟨x,t,rfl,rfl⟩ <;> rfl
 pyHash:=fun hv h=>by
  rcases keyIs_shape hv with ⟨i,t,rfl,rfl⟩|⟨x,t,rfl,rfl⟩
  ·exact wpAny_pyHash_int h
  ·exact wpAny_pyHash_str h
 eqBool:=fun hu hv h=>by
  rcases keyIs_shape hu with ⟨i,t,rfl,rfl⟩|⟨x,t,rfl,rfl⟩
  ·rcases keyIs_shape hv with ⟨j,u,rfl,rfl⟩|⟨y,u,rfl,rfl⟩
   ·rw [key_ll] at h; exact wpAny_eqBool_int h
   ·rw [key_lr] at h; exact SeqAt.EqAt.int_str i t y u _ _ _ _ h
  ·rcases keyIs_shape hv with ⟨j,u,rfl,rfl⟩|⟨y,u,rfl,rfl⟩
   ·rw [key_rl] at h; exact SeqAt.EqAt.str_int x t j u _ _ _ _ h
   ·rw [key_rr] at h; exact wpAny_eqBool_str h
 «strs»:=fun k x t v h=>by
  rcases keyIs_shape h with ⟨i,u,rfl,e⟩|⟨y,u,rfl,e⟩
  ·exact nomatch e
  ·injection e with e1 _
   subst e1
   cases v <;> rfl
theorem mixKind_int (prog:Program) (w:World) (i:Int) (t:Tok):(mixKind prog w).is (.inl i) (.int i t)=true:=keyIs_int i t
theorem mixKind_str (prog:Program) (w:World) (x:Str) (t:Tok):(mixKind prog w).is (.inr x) (.str x t)=true:=keyIs_str x t
end L2
namespace L2
open PySem PySem.Spec PyProof.Rows
inductive V where
 | non|bl (b:Bool)|int (i:Int)|str (x:Str)|byt (b:Array UInt8)|flt (b:UInt64)|ref (a:Addr)|ty (n:String)
 deriving DecidableEq
def RelV:V→Value→Prop
 | .non,u=>u=Value.none
 | .bl b,u=>u=Value.bool b
 | .int i,u=>∃ t,u=Value.int i t
 | .str x,u=>∃ t,u=Value.str x t
 | .byt b,u=>∃ t,u=Value.bytes b t
 | .flt b,u=>∃ t,u=Value.float b t
 | .ref a,u=>u=Value.ref a
 | .ty n,u=>u=Value.type n
abbrev Vals:List V→List Value→Prop:=Paired RelV
theorem Vals.length {xs:List V} {us:List Value} (r:Vals xs us):xs.length=us.length:=Paired.length r
theorem Vals.get:∀ {xs:List V} {us:List Value} {i:Nat} {x:V},Vals xs us→xs[i]?=some x→∃ u,us[i]?=some u∧RelV x u
 | _,_,_,_,.nil,e=>by simp at e
 | _,_,0,_,.cons r _,e=>by simp at e; subst e; exact ⟨_,rfl,r⟩
 | _,_,i+1,x,.cons _ t,e=>by
  obtain ⟨u,h1,h2⟩:=Vals.get (i:=i) (x:=x) t (by simpa using e)
  exact ⟨u,by simpa using h1,h2⟩
theorem Vals.set {x:V} {u:Value} (r:RelV x u):∀ {xs:List V} {us:List Value} (i:Nat),Vals xs us→Vals (xs.set i x) (us.set i u)
 | _,_,_,.nil=>.nil
 | _,_,0,.cons _ t=>.cons r t
 | _,_,i+1,.cons q t=>.cons q (Vals.set r i t)
theorem Vals.append:∀ {xs ys:List V} {us ws:List Value},Vals xs us→Vals ys ws→Vals (xs++ys) (us++ws)
 | _,_,_,_,.nil,s=>s
 | _,_,_,_,.cons r t,s=>.cons r (Vals.append t s)
theorem Vals.take:∀ {xs:List V} {us:List Value} (n:Nat),Vals xs us→Vals (xs.take n) (us.take n)
 | _,_,0,_=>.nil
 | _,_,_+1,.nil=>.nil
 | _,_,n+1,.cons r t=>.cons r (Vals.take n t)
theorem Vals.drop:∀ {xs:List V} {us:List Value} (n:Nat),Vals xs us→Vals (xs.drop n) (us.drop n)
 | _,_,0,r=>r
 | _,_,_+1,.nil=>.nil
 | _,_,n+1,.cons _ t=>Vals.drop n t
def RelO:Option V→Option Value→Prop
 | some v,some u=>RelV v u
 | none,none=>True
 | _,_=>False
def KV {κ:Type}:List (κ×V)→List (κ×Value)→Prop:=Paired fun (p:κ×V) (q:κ×Value)=>p.1=q.1∧RelV p.2 q.2
def kV:Key→V
 | .inl i=>.int i
 | .inr x=>.str x
inductive HO where
 | lst (xs:List V)
 | tup (xs:List V)
 | dK (kvs:List (Key×V))|dT (kvs:List (List Key×V))
 | set (S:Int→Bool) (n:Nat)
 | ins (C dx:Addr) (fs:List (Str×V))
 | own (x:Addr)
 | xd (fs:List (Str×V))
 | met (f x:Addr)
 | rng (lo hi:Int)
 | frz (o:Obj) (u:HO)
 | tbl (ps:Array Value)
 | ext (φ:Heap→Prop)
abbrev Hp:=Addr→Option HO
def upd (H:Hp) (a:Addr) (o:HO):Hp:=fun b=>if b=a then some o else H b
theorem upd_same {H:Hp} {a:Addr} {o:HO}:upd H a o a=some o:=by unfold upd; rw [if_pos rfl]
theorem upd_ne {H:Hp} {a b:Addr} {o:HO} (h:b≠a):upd H a o b=H b:=by unfold upd; rw [if_neg h]
theorem upd_upd {H:Hp} {a:Addr} {o u:HO}:upd (upd H a o) a u=upd H a u:=by
 funext b; unfold upd; split <;> rfl
theorem ne_of {H:Hp} {a b:Addr} {o u:HO} (h:H a=some o) (h':H b=some u) (d:o≠u):a≠b:=by
 intro e; subst e; rw [h] at h'; exact d (Option.some.inj h')
theorem ne_of_none {H:Hp} {a b:Addr} {o:HO} (h:H a=some o) (h':H b=none):a≠b:=by
 intro e; subst e; rw [h] at h'; cases h'
section
variable (P:Program) (w:World)
def ObjOk (H:Hp) (h:Heap) (a:Addr):HO→Prop
 | .lst xs=>xs.length≤sizeLine∧∃ (its:List Value) (n:Nat),Vals xs its∧h.get? a=some { cls:=.type "list",data:=.seq its.toArray n }
 | .tup xs=>xs.length≤sizeLine∧∃ its:List Value,Vals xs its∧IsTup h a its.toArray
 | .dK kvs=>kvs.length≤sizeLine∧(a == sysModules)=false∧∃ vs,KV kvs vs∧h.DictOf (mixKind P w) a vs
 | .dT kvs=>kvs.length≤sizeLine∧(a == sysModules)=false∧∃ xs:List (List Key×Addr×Value),
   Paired (fun (p:List Key×V) (q:List Key×Addr×Value)=>p.1=q.1∧H q.2.1=some (.tup (p.1.map kV))∧RelV p.2 q.2.2) kvs xs ∧
   ∃ o es ep,h.get? a=some o∧o.ExactDict∧o.data = .dict es ep∧es.toList=xs.map (entryOfKey (tupleKind (mixKind P w)))∧(xs.map (·.1)).Nodup
 | .set S n=>h.SetOf (intKind P w) a S n
 | .ins C dx fs=>H dx=some (.own a)∧fs.length≤1000∧dx≠a∧h.get? a=some (PySem.W.instObj C dx) ∧
   ∃ mA,h.Ns1 dx mA∧(∀ f,RelO (fs.lookup f) (mA f))∧PySem.Within mA (fs.map (·.1))
 | .own _=>∃ o,h.get? a=some o
 | .xd fs=>∃ mA,h.Ns1 a mA∧∀ f,RelO (fs.lookup f) (mA f)
 | .rng lo hi=>∃ t u v,h.get? a=some { cls:=.type "range",data:=.fields #[.int lo t,.int hi u,.int 1 v] }
 | .frz o u=>h.get? a=some o∧ObjOk H h a u
 | .tbl ps=>h.get? a=some { cls:=.none,data:=.fields ps }
 | .met f x=>h.get? a=some (PySem.W.methodObj (.ref f) (.ref x))
 | .ext φ=>φ h∧(∃ o,h.get? a=some o)∧∀ h1 h2:Heap,φ h1→(∀ o,h1.get? a=some o→h2.get? a=some o)→φ h2
def HOk (H:Hp) (h:Heap):Prop:=∀ a o,H a=some o→ObjOk P w H h a o
end
section
variable {P:Program} {w:World} {H H':Hp} {h h':Heap} {a:Addr} {o:HO}
theorem ObjOk.lt (x:ObjOk P w H h a o):a<h.objs.size:=by
 cases o with
 | lst xs=>obtain ⟨_,_,_,_,e⟩:=x; exact Heap.lt_size e
 | tup xs=>obtain ⟨_,_,_,p⟩:=x; exact p.lt
 | dK kvs=>obtain ⟨_,_,_,_,o,_,_,e,_⟩:=x; exact Heap.lt_size e
 | dT kvs=>obtain ⟨_,_,_,_,o,_,_,e,_⟩:=x; exact Heap.lt_size e
 | set S n=>obtain ⟨o,_,_,_,e,_⟩:=x; exact Heap.lt_size e
 | ins C dx fs=>obtain ⟨_,_,_,e,_⟩:=x; exact Heap.lt_size e
 | own y=>obtain ⟨_,e⟩:=x; exact Heap.lt_size e
 | xd fs=>obtain ⟨_,⟨_,_,_,e,_⟩,_⟩:=x; exact Heap.lt_size e
 | rng lo hi=>obtain ⟨_,_,_,e⟩:=x; exact Heap.lt_size e
 | frz ob u=>obtain ⟨e,_⟩:=x; exact Heap.lt_size e
 | tbl ps=>exact Heap.lt_size (show h.get? a=some _ from x)
 | met f y=>exact Heap.lt_size (show h.get? a=some _ from x)
 | ext φ=>obtain ⟨_,⟨_,e⟩,_⟩:=x; exact Heap.lt_size e
theorem Paired.mapP {α β:Type} {F G:α→β→Prop}:∀ {l₁:List α} {l₂:List β},Paired F l₁ l₂→(∀ a b,F a b→G a b)→Paired G l₁ l₂
 | _,_,.nil,_=>.nil
 | _,_,.cons r t,f=>.cons (f _ _ r) (Paired.mapP t f)
theorem ObjOk.stay (x:ObjOk P w H h a o) (k:∀ b u,(b=a∨H b=some (.own a))→h.get? b=some u→h'.get? b=some u)
  (ho:∀ b,H b=some (.own a)→H' b=some (.own a)) (ht:∀ b xs,H b=some (.tup xs)→H' b=some (.tup xs)):ObjOk P w H' h' a o:=by
 induction o with
 | lst xs=>obtain ⟨z,its,n,r,e⟩:=x; exact ⟨z,its,n,r,k _ _ (.inl rfl) e⟩
 | tup xs=>obtain ⟨z,its,r,ob,e,c⟩:=x; exact ⟨z,its,r,ob,k _ _ (.inl rfl) e,c⟩
 | dK kvs=>obtain ⟨z,y,vs,r,ob,es,ep,e,c⟩:=x; exact ⟨z,y,vs,r,ob,es,ep,k _ _ (.inl rfl) e,c⟩
 | dT kvs =>
  obtain ⟨z,y,xs,r,ob,es,ep,e,c⟩:=x
  exact ⟨z,y,xs,Paired.mapP r fun p q z=>⟨z.1,ht _ _ z.2.1,z.2.2⟩,ob,es,ep,k _ _ (.inl rfl) e,c⟩
 | set S n=>obtain ⟨ob,es,ep,t,e,c⟩:=x; exact ⟨ob,es,ep,t,k _ _ (.inl rfl) e,c⟩
 | ins C dx fs =>
  obtain ⟨d,z,ne,e,mA,⟨od,es,ep,e2,c⟩,r⟩:=x
  exact ⟨ho _ d,z,ne,k _ _ (.inl rfl) e,mA,⟨od,es,ep,k _ _ (.inr d) e2,c⟩,r⟩
 | own y=>obtain ⟨ob,e⟩:=x; exact ⟨ob,k _ _ (.inl rfl) e⟩
 | xd fs=>obtain ⟨mA,⟨od,es,ep,e,c⟩,r⟩:=x; exact ⟨mA,⟨od,es,ep,k _ _ (.inl rfl) e,c⟩,r⟩
 | rng lo hi=>obtain ⟨t,u,v,e⟩:=x; exact ⟨t,u,v,k _ _ (.inl rfl) e⟩
 | frz ob u ih=>obtain ⟨e,q⟩:=x; exact ⟨k _ _ (.inl rfl) e,ih q⟩
 | tbl ps =>
  have e:h.get? a=some { cls:=.none,data:=.fields ps }:=x
  show h'.get? a=some { cls:=.none,data:=.fields ps }
  exact k a _ (.inl rfl) e
 | met f y =>
  have e:h.get? a=some (PySem.W.methodObj (.ref f) (.ref y)):=x
  show h'.get? a=some (PySem.W.methodObj (.ref f) (.ref y))
  exact k a _ (.inl rfl) e
 | ext φ=>obtain ⟨p,⟨o,e⟩,st⟩:=x; exact ⟨st _ _ p fun o q=>k _ _ (.inl rfl) q,⟨o,k _ _ (.inl rfl) e⟩,st⟩
theorem HOk.lt (x:HOk P w H h) (e:H a=some o):a<h.objs.size:=(x a o e).lt
theorem HOk.fresh (x:HOk P w H h) (e:h.objs.size≤a):H a=none:=by
 cases q:H a with
 | none=>rfl
 | some u=>exact absurd (Nat.lt_of_lt_of_le (x.lt q) e) (Nat.lt_irrefl _)
theorem HOk.kept (x:HOk P w H h) (k:∀ b u,h.get? b=some u→h'.get? b=some u):HOk P w H h':=fun a o e =>
 (x a o e).stay (fun b u _ q=>k b u q) (fun _ q=>q) fun _ _ q=>q
theorem HOk.laid (x:HOk P w H h) (k:∀ b u,h.get? b=some u→h'.get? b=some u) (hp:h.objs.size≤a) (new:ObjOk P w (upd H a o) h' a o):HOk P w (upd H a o) h':=fun b u e=>by
 have hn:=x.fresh hp
 by_cases hb:b=a
 ·subst hb; rw [upd_same] at e; cases e; exact new
 ·rw [upd_ne hb] at e
  exact (x b u e).stay (fun c v _ q=>k c v q) (fun c q=>by rw [upd_ne (ne_of_none q hn)]; exact q) fun c xs q=>by rw [upd_ne (ne_of_none q hn)]; exact q
end
def Rd (H:Hp) (a:Addr) (u:HO):Prop:=H a=some u∨∃ o,H a=some (.frz o u)
theorem Rd.ok {P:Program} {w:World} {H:Hp} {h:Heap} {a:Addr} {u:HO} (r:Rd H a u) (x:HOk P w H h):ObjOk P w H h a u:=by
 rcases r with r|⟨o,r⟩
 ·exact x a u r
 ·obtain ⟨_,q⟩:=x a _ r
  exact q
def Mut:Option HO→Prop
 | some (.lst _)=>True
 | some (.dK _)=>True
 | some (.dT _)=>True
 | some (.set _ _)=>True
 | some (.ins _ _ _)=>True
 | some (.ext _)=>True
 | _=>False
section
variable {P:Program} {w:World} {H:Hp} {h h':Heap} {x e:Addr} {o':HO}
theorem HOk.write (ok:HOk P w H h) (mu:Mut (H x)) (he:e=x∨H e=some (.own x)) (k:∀ b u,b≠e→h.get? b=some u→h'.get? b=some u) (heo:∃ u,h'.get? e=some u)
  (new:ObjOk P w (upd H x o') h' x o'):HOk P w (upd H x o') h':=fun b u q=>by
 have nown:∀ c y,H c=some (.own y)→c≠x:=fun c y r z=>by subst z; rw [r] at mu; exact mu
 have ntup:∀ c xs,H c=some (.tup xs)→c≠x:=fun c xs r z=>by subst z; rw [r] at mu; exact mu
 by_cases hb:b=x
 ·subst hb; rw [upd_same] at q; cases q; exact new
 ·rw [upd_ne hb] at q
  by_cases hbe:b=e
  ·have q':H b=some (.own x):=by
    rcases he with z|z
    ·exact absurd (hbe.trans z) hb
    ·rw [hbe]; exact z
   rw [q] at q'; cases q'
   obtain ⟨v,hv⟩:=heo
   exact ⟨v,by rw [hbe]; exact hv⟩
  ·refine (ok b u q).stay (fun c v hc r=>k c v ?_ r) (fun c r=>by rw [upd_ne (nown c b r)]; exact r) fun c xs r=>by rw [upd_ne (ntup c xs r)]; exact r
   rcases hc with rfl|hc
   ·exact hbe
   ·rintro rfl
    rcases he with z|z
    ·exact nown c b hc z
    ·rw [hc] at z; cases z; exact hb rfl
end
structure Un (fs ex:List Addr) (H H':Hp) (h h':Heap):Prop where
 keep:∀ b o,h.get? b=some o→H b=none→b∉fs→b∉ex→h'.get? b=some o
 slot:∀ b o,h.get? b=some o→H b=none→b∈fs→b∉ex→∃ sl,h'.get? b=some { o with slots:=sl }
 free:∀ b o,h.get? b=some o→H b=none→b∉ex→H' b=none
 there:∀ b o,h.get? b=some o→b∉ex→∃ o',h'.get? b=some o'
 tups:∀ b xs,H b=some (.tup xs)→H' b=some (.tup xs)
 frzs:∀ b o u,H b=some (.frz o u)→H' b=some (.frz o u)
 tbls:∀ b ps,H b=some (.tbl ps)→∃ more,H' b=some (.tbl (ps++more))
section
variable {fs fs' ex ex':List Addr} {H H1 H2:Hp} {h h1 h2 h':Heap} {a x e:Addr} {o:HO}
theorem Un.any (u:Un fs ex H H1 h h1) {b:Addr} {ob:Obj} (q:h.get? b=some ob) (n:H b=none) (hx:b∉ex):∃ sl,h1.get? b=some { ob with slots:=sl }:=by
 by_cases hb:b∈fs
 ·exact u.slot b ob q n hb hx
 ·exact ⟨ob.slots,u.keep b ob q n hb hx⟩
theorem Un.kept (k:∀ b u,h.get? b=some u→h'.get? b=some u):Un fs ex H H h h' :=
 ⟨fun b ob q _ _ _=>k b ob q,fun b ob q _ _ _=>⟨ob.slots,k b ob q⟩,fun _ _ _ n _=>n,fun b ob q _=>⟨ob,k b ob q⟩,fun _ _ q=>q,fun _ _ _ q=>q,fun _ ps q=>⟨#[],by rw [q]; simp⟩⟩
theorem Un.refl:Un fs ex H H h h:=Un.kept fun _ _ q=>q
theorem Un.laid (k:∀ b u,h.get? b=some u→h'.get? b=some u) (hp:h.objs.size≤a) (hn:H a=none):Un fs ex H (upd H a o) h h' where
 keep:=fun b u q _ _ _=>k b u q
 slot:=fun b u q _ _ _=>⟨u.slots,k b u q⟩
 free:=fun b u q n _=>by rw [upd_ne (Nat.ne_of_lt (Nat.lt_of_lt_of_le (Heap.lt_size q) hp))]; exact n
 there:=fun b u q _=>⟨u,k b u q⟩
 tups:=fun b xs q=>by rw [upd_ne (ne_of_none q hn)]; exact q
 frzs:=fun b u xs q=>by rw [upd_ne (ne_of_none q hn)]; exact q
 tbls:=fun b ps q=>⟨#[],by rw [upd_ne (ne_of_none q hn),q]; simp⟩
theorem Un.write (mu:Mut (H x)) (he:e=x∨H e=some (.own x)) (k:∀ b u,b≠e→h.get? b=some u→h'.get? b=some u) (heo:∃ u,h'.get? e=some u):Un fs ex H (upd H x o) h h':=by
 have hx:∀ b,H b=none→b≠x:=fun b n z=>by subst z; rw [n] at mu; exact mu
 have hb:∀ b,H b=none→b≠e:=fun b n z=>by
  subst z
  rcases he with r|r
  ·exact hx b n r
  ·rw [n] at r; cases r
 have hm:∀ b u,H b=some u→¬ Mut (some u)→b≠x:=fun b u q nm z=>by subst z; rw [q] at mu; exact nm mu
 refine ⟨fun b u q n _ _=>k b u (hb b n) q,fun b u q n _ _=>⟨u.slots,k b u (hb b n) q⟩,fun b u q n _=>by rw [upd_ne (hx b n)]; exact n,fun b u q _=>?_,
  fun b xs q=>by rw [upd_ne (hm b _ q fun z=>z)]; exact q,fun b u xs q=>by rw [upd_ne (hm b _ q fun z=>z)]; exact q,fun b ps q=>⟨#[],by rw [upd_ne (hm b _ q fun z=>z),q]; simp⟩⟩
 by_cases hbe:b=e
 ·subst hbe; exact heo
 ·exact ⟨u,k b u hbe q⟩
end
def trk (h:Heap) (H:Hp):List Addr:=(List.range h.objs.size).filter fun a=>(H a).isSome
def hidT (h:Heap) (H:Hp):Heap:=PySem.W.hideAll h (trk h H)
theorem hidT_size (h:Heap) (H:Hp):(hidT h H).objs.size=h.objs.size:=PySem.W.hideAll_size _ _
theorem hidT_get {h:Heap} {H:Hp} {b:Addr} {o:Obj} (e:h.get? b=some o) (n:H b=none):(hidT h H).get? b=some o :=
 PySem.W.hideAll_get _ e fun hm=>by
  have q:(H b).isSome=true:=(List.mem_filter.mp hm).2
  rw [n] at q; simp at q
theorem of_hidT {h:Heap} {H:Hp} {b:Addr} {o:Obj} (e:(hidT h H).get? b=some o):h.get? b=some o∧H b=none:=by
 have e':h.get? b=some o:=PySem.W.of_hideAll (trk h H) e
 refine ⟨e',?_⟩
 cases q:H b with
 | none=>rfl
 | some x =>
  have hm:b∈trk h H:=List.mem_filter.mpr ⟨List.mem_range.mpr (Heap.lt_size e'),by simp [q]⟩
  have z:(hidT h H).get? b=none:=PySem.W.hideAll_none (trk h H) hm
  rw [z] at e; cases e
def allNews (g h:Heap) (L:Addr):List (Addr×Obj):=(List.range h.objs.size).filterMap fun a=>if a=L∨(g.get? a).isSome=true then none else (h.get? a).map fun o=>(a,o)
theorem mem_allNews {g h:Heap} {L a:Addr} {o:Obj} (h1:a≠L) (h2:g.get? a=none) (h3:h.get? a=some o):(a,o)∈allNews g h L :=
 List.mem_filterMap.mpr ⟨a,List.mem_range.mpr (Heap.lt_size h3),by simp [h1,h2,h3]⟩
theorem of_mem_allNews {g h:Heap} {L:Addr} {p:Addr×Obj} (hp:p∈allNews g h L):p.1≠L∧g.get? p.1=none∧h.get? p.1=some p.2:=by
 obtain ⟨b,_,e⟩:=List.mem_filterMap.mp hp
 split at e
 ·cases e
 ·rename_i hn
  cases q:h.get? b with
  | none=>rw [q] at e; simp at e
  | some u =>
   rw [q] at e
   simp only [Option.map_some,Option.some.injEq] at e
   subst e
   refine ⟨fun z=>hn (.inl z),?_,q⟩
   show g.get? b=none
   cases r:g.get? b with
   | none=>rfl
   | some v=>exact (hn (.inr (by simp [r]))).elim
def rest (g h:Heap) (L d:Addr):List (Addr×Obj):=(allNews g h L).filter fun p=>decide (p.1≠d)
theorem news_all {g h:Heap} {L:Addr}:News g L h (allNews g h L):=fun p hp=>let ⟨a,b,c⟩:=of_mem_allNews hp; ⟨c,a,b⟩
end L2
namespace L2
open PySem PySem.Spec PyProof.Rows
structure Mod (K:PySem.W.Frag) (mg:Str→Option Value) (base:Heap):Prop where
 kin:K.In base
 glob:base.Ns mainGlobals mg
 blt:∃ mb,base.Ns builtinsNs mb∧∀ x:Str,x≠"__name__"→mb x=bootBuiltins x
 nolimit:base.NoLimit
def HdOk (A:Around) (H:Hp):Prop:=A.handled=none∨∃ (a:Addr) (o:Obj) (vs:Array Value),A.handled=some (.ref a)∧H a=some (.frz o (.own 0))∧o.data = .fields vs∧vs[2]?=some .none∧∃ C,o.cls = .ref C
theorem HdOk.same {A:Around} {H H':Hp} (x:HdOk A H) (k:∀ b o u,H b=some (.frz o u)→H' b=some (.frz o u)):HdOk A H':=by
 rcases x with x|⟨a,o,vs,h1,h2,h3⟩
 ·exact .inl x
 ·exact .inr ⟨a,o,vs,h1,k _ _ _ h2,h3⟩
structure Cx where
 prog:Program
 w:World
 K:PySem.W.Frag
 mg:Str→Option Value
 base:Heap
 A:Around
 N:List Str
 s₀:Shared
 H₀:Hp
 env:Env
 outer:List Env
 stack:List Env
 ex:List Addr
 fn:Str→Bool
 calm:Bool
 pn:List (Addr×Obj)
 xe:Value→Shared→Prop
def frs (l:List Env):List Addr:=l.filterMap (·.frame)
abbrev Cx.fs (X:Cx):List Addr:=frs X.outer
def Vis (sc:Scope) (x:Str):Prop:=sc.names.lookup x=some .local∨sc.names.lookup x=some .cell∨sc.names.lookup x=some .free
def Loc (sc:Scope) (x:Str):Prop:=sc.names.lookup x=some .local∨sc.names.lookup x=some .cell
def Look (env:Env) (h:Heap) (m:Str→Option Value) (x:Str) (u:Value):Prop :=
 (env.kindOf x=some .local∧m x=some u)∨((env.kindOf x=some .cell∨env.kindOf x=some .free)∧∃ c,env.cells.lookup x=some c∧h.IsCell c (some u))
structure Cx.Ok (X:Cx):Prop where
 mod:Mod X.K X.mg X.base
 kind:X.env.scope.kind = .function
 glob:X.env.globals=mainGlobals
 blt:X.env.builtins=builtinsNs
 above:X.s₀.heap.objs.size≤X.env.locals
 inj:∀ x y c,X.env.cells.lookup x=some c→X.env.cells.lookup y=some c→x=y
 has:∀ x,(X.env.kindOf x=some .cell∨X.env.kindOf x=some .free)→∃ c,X.env.cells.lookup x=some c
 cab:∀ x c,X.fn x=true→X.env.cells.lookup x=some c→X.s₀.heap.objs.size≤c
 hd:X.calm=true→X.A.handled=none
 frames:X.A.frames=some X.stack
 stk:X.stack=X.outer∨(X.stack=X.env::X.outer∧X.env.frame=some X.env.locals)
 exf:∀ b∈X.ex,b≠X.env.locals∧∀ x c,X.env.cells.lookup x=some c→c≠b
 bs:∀ b o,X.base.get? b=some o→X.s₀.heap.get? b=some o∧X.H₀ b=none
 bsz:X.base.objs.size≤X.s₀.heap.objs.size
 noex:∀ b o,X.base.get? b=some o→b∉X.ex
 exfs:∀ b∈X.ex,b∉X.fs
 funs:X.s₀.heap.FunFrames X.base X.outer
 frf:∀ b∈X.fs,X.H₀ b=none
structure Inv (X:Cx) (pins:List (Addr×Obj)) (σ:List (Option V)) (H:Hp) (s:Shared):Prop where
 ok:X.Ok
 os:s.os=X.s₀.os
 bare:AllBare s.gens
 base:Un X.fs X.ex X.H₀ H X.s₀.heap s.heap
 loc:∃ m,s.heap.Ns X.env.locals m∧∀ (i:Nat) (x:Str) (v:V),X.N[i]?=some x→σ[i]?=some (some v)→Vis X.env.scope x→∃ u,RelV v u∧Look X.env s.heap m x u
 cell:∀ x c,X.env.cells.lookup x=some c→∃ v,s.heap.IsCell c v
 free:H X.env.locals=none
 freeC:∀ x c,X.env.cells.lookup x=some c→H c=none
 pin:∀ p∈X.pn++pins,s.heap.get? p.1=some p.2∧H p.1=none∧p.1≠X.env.locals∧p.1∉X.fs∧∀ v,p.2.data≠.cell v
 hok:HOk X.prog X.w H s.heap
 len:σ.length=X.N.length
 hdk:HdOk X.A H
section
variable {X:Cx} {pins:List (Addr×Obj)} {σ:List (Option V)} {H H':Hp} {s:Shared} {h':Heap}
theorem Cx.Ok.nofr (ok:X.Ok) {b:Addr} {o:Obj} (e:X.base.get? b=some o):b∉X.fs:=fun hb=>by
 have:=(ok.funs.mem hb).1
 rw [e] at this; cases this
theorem Inv.bs (I:Inv X pins σ H s):∀ b o,X.base.get? b=some o→s.heap.get? b=some o∧H b=none:=fun b o e =>
 ⟨I.base.keep b o (I.ok.bs b o e).1 (I.ok.bs b o e).2 (I.ok.nofr e) (I.ok.noex b o e),I.base.free b o (I.ok.bs b o e).1 (I.ok.bs b o e).2 (I.ok.noex b o e)⟩
theorem Inv.bk (I:Inv X pins σ H s):∀ b o,X.base.get? b=some o→s.heap.get? b=some o:=fun b o e=>(I.bs b o e).1
theorem Inv.mod (I:Inv X pins σ H s):Mod X.K X.mg X.base:=I.ok.mod
theorem Inv.kIn (I:Inv X pins σ H s):X.K.In s.heap:=I.ok.mod.kin.keeps I.bk
theorem Inv.fr (I:Inv X pins σ H s):∃ m,Fr X.base X.env.locals s.heap m :=
 let ⟨m,hn,_⟩:=I.loc
 ⟨m,hn,I.bk,Nat.le_trans I.ok.bsz I.ok.above⟩
theorem Inv.lt (I:Inv X pins σ H s):X.env.locals<s.heap.objs.size:=let ⟨_,hn,_⟩:=I.loc; hn.lt
theorem Inv.sz (I:Inv X pins σ H s):X.s₀.heap.objs.size≤s.heap.objs.size:=Nat.le_trans I.ok.above (Nat.le_of_lt I.lt)
theorem Inv.nofs (I:Inv X pins σ H s) {a:Addr} (h:s.heap.objs.size≤a):a∉X.fs:=fun hb=>by
 obtain ⟨_,o,ho,_⟩:=I.ok.funs.mem hb
 exact absurd (Nat.lt_of_lt_of_le (Heap.lt_size ho) (Nat.le_trans I.sz h)) (Nat.lt_irrefl _)
theorem Inv.cne (I:Inv X pins σ H s):∀ x c,X.env.cells.lookup x=some c→c≠X.env.locals:=fun x c e z=>by
 obtain ⟨v,o,ho,hd⟩:=I.cell x c e
 obtain ⟨m,⟨o',es,ep,ho',hd',_⟩,_⟩:=I.loc
 rw [z,ho'] at ho; cases ho; rw [hd'] at hd; cases hd
theorem Inv.funs (I:Inv X pins σ H s):s.heap.FunFrames X.base X.outer:=by
 have all:∀ (l:List Env),(∀ b∈frs l,b∈X.fs)→X.s₀.heap.FunFrames X.base l→s.heap.FunFrames X.base l:=by
  intro l
  induction l with
  | nil=>intro _ _; trivial
  | cons env r ih =>
   intro hs hl
   obtain ⟨hk,⟨L,o,hf,hn,ho,hd⟩,hr⟩:=hl
   have hL:L∈X.fs:=hs L (by unfold frs; rw [List.filterMap_cons,hf]; exact List.mem_cons_self)
   obtain ⟨sl,e⟩:=I.base.slot L o ho (I.ok.frf L hL) hL fun z=>I.ok.exfs L z hL
   exact ⟨hk,⟨L,_,hf,hn,e,hd⟩,ih (fun b hb=>hs b (by unfold frs; rw [List.filterMap_cons,hf]; exact List.mem_cons_of_mem _ hb)) hr⟩
 exact all X.outer (fun _ hb=>hb) I.ok.funs
theorem Inv.stack (I:Inv X pins σ H s):s.heap.FunFrames X.base X.stack:=by
 rcases I.ok.stk with e|⟨e,hf⟩
 ·rw [e]; exact I.funs
 ·rw [e]
  obtain ⟨m,hn,_⟩:=I.loc
  refine .cons (by rw [I.ok.kind]; decide) hf hn ?_ I.funs
  exact Heap.get?_none_of_le (Nat.le_trans I.ok.bsz I.ok.above)
theorem Inv.stkSub (I:Inv X pins σ H s):∀ b∈frs X.stack,b∈X.env.locals::X.fs:=fun b hb=>by
 rcases I.ok.stk with e|⟨e,hf⟩
 ·rw [e] at hb; exact List.mem_cons_of_mem _ hb
 ·rw [e] at hb
  unfold frs at hb
  rw [List.filterMap_cons,hf] at hb
  exact hb
theorem Inv.stkFree (I:Inv X pins σ H s):∀ b∈frs X.stack,H b=none:=fun b hb=>by
 rcases List.mem_cons.mp (I.stkSub b hb) with e|hb
 ·rw [e]; exact I.free
 ·obtain ⟨_,o,ho,_⟩:=I.ok.funs.mem hb
  exact I.base.free b o ho (I.ok.frf b hb) fun z=>I.ok.exfs b z hb
theorem Inv.step {g':Array GenState} {t':Nat} {d':Drawn} {ch:List Addr} (I:Inv X pins σ H s)
  (hch:∀ b∈ch,(b∈X.ex∨X.s₀.heap.objs.size≤b)∧b≠X.env.locals∧(∀ x c,X.env.cells.lookup x=some c→c≠b)∧∀ p∈X.pn++pins,p.1≠b)
  (keep:∀ b o,b≠X.env.locals→b∉X.fs→b∉ch→s.heap.get? b=some o→H b=none→h'.get? b=some o)
  (slot:∀ b o,b≠X.env.locals→b∈X.fs→b∉ch→s.heap.get? b=some o→H b=none→∃ sl,h'.get? b=some { o with slots:=sl }) (free:∀ b o,b∉ch→s.heap.get? b=some o→H b=none→H' b=none)
  (there:∀ b o,b∉ch→s.heap.get? b=some o→∃ o',h'.get? b=some o')
  (tups:∀ b xs,H b=some (.tup xs)→H' b=some (.tup xs)) (frzs:∀ b o u,H b=some (.frz o u)→H' b=some (.frz o u)) (tbls:∀ b ps,H b=some (.tbl ps)→∃ more,H' b=some (.tbl (ps++more)))
  (ns:∀ m,s.heap.Ns X.env.locals m→h'.Ns X.env.locals m) (hok:HOk X.prog X.w H' h') (hg:AllBare g') :
  Inv X pins σ H' { s with heap:=h',gens:=g',drawn:=d',toks:=t' }:=by
 have neL:∀ b o,X.s₀.heap.get? b=some o→b≠X.env.locals:=fun b o e=>Nat.ne_of_lt (Nat.lt_of_lt_of_le (Heap.lt_size e) I.ok.above)
 have neC:∀ b o,X.s₀.heap.get? b=some o→b∉X.ex→b∉ch:=fun b o e hx hb=>by
  rcases (hch b hb).1 with z|z
  ·exact hx z
  ·exact absurd (Nat.lt_of_lt_of_le (Heap.lt_size e) z) (Nat.lt_irrefl _)
 have cellK:∀ x c,X.env.cells.lookup x=some c→∀ v,s.heap.IsCell c v→h'.IsCell c v:=fun x c e v ⟨o,ho,hd⟩=>by
  have nch:c∉ch:=fun z=>(hch c z).2.2.1 x c e rfl
  by_cases hc:c∈X.fs
  ·obtain ⟨sl,q⟩:=slot c o (I.cne x c e) hc nch ho (I.freeC x c e)
   exact ⟨_,q,hd⟩
  ·exact ⟨o,keep c o (I.cne x c e) hc nch ho (I.freeC x c e),hd⟩
 refine ⟨I.ok,I.os,hg,⟨fun b o e n hb hx=>?_,fun b o e n hb hx=>?_,fun b o e n hx=>?_,fun b o e hx=>?_,fun b xs e=>tups b xs (I.base.tups b xs e),fun b o xs e=>frzs b o xs (I.base.frzs b o xs e),fun b ps e=>?_⟩,?_,fun x c e=>?_,?_,fun x c e=>?_,fun p hp=>?_,hok,I.len,I.hdk.same frzs⟩
 ·exact keep b o (neL b o e) hb (neC b o e hx) (I.base.keep b o e n hb hx) (I.base.free b o e n hx)
 ·obtain ⟨sl,e1⟩:=I.base.slot b o e n hb hx
  obtain ⟨sl',e2⟩:=slot b _ (neL b o e) hb (neC b o e hx) e1 (I.base.free b o e n hx)
  exact ⟨sl',e2⟩
 ·obtain ⟨o',e1⟩:=I.base.there b o e hx
  exact free b o' (neC b o e hx) e1 (I.base.free b o e n hx)
 ·obtain ⟨o',e1⟩:=I.base.there b o e hx
  exact there b o' (neC b o e hx) e1
 ·obtain ⟨m1,e1⟩:=I.base.tbls b ps e
  obtain ⟨m2,e2⟩:=tbls b _ e1
  exact ⟨m1++m2,by rw [e2,Array.append_assoc]⟩
 ·obtain ⟨m,hn,hl⟩:=I.loc
  refine ⟨m,ns m hn,fun i x v e1 e2 e3=>?_⟩
  obtain ⟨u,r,l⟩:=hl i x v e1 e2 e3
  refine ⟨u,r,?_⟩
  rcases l with l|⟨k,c,e,z⟩
  ·exact .inl l
  ·exact .inr ⟨k,c,e,cellK x c e _ z⟩
 ·obtain ⟨v,z⟩:=I.cell x c e
  exact ⟨v,cellK x c e v z⟩
 ·obtain ⟨m,⟨o,_,_,ho,_⟩,_⟩:=I.loc
  exact free _ o (fun z=>(hch _ z).2.1 rfl) ho I.free
 ·obtain ⟨v,o,ho,hd⟩:=I.cell x c e
  exact free c o (fun z=>(hch c z).2.2.1 x c e rfl) ho (I.freeC x c e)
 ·obtain ⟨e,n,ne,nf,d⟩:=I.pin p hp
  have nch:p.1∉ch:=fun z=>(hch p.1 z).2.2.2 p hp rfl
  exact ⟨keep p.1 p.2 ne nf nch e n,free p.1 p.2 nch e n,ne,nf,d⟩
theorem Inv.un {t':Nat} (I:Inv X pins σ H s) (u:Un X.fs [] H H' s.heap h') (hok:HOk X.prog X.w H' h'):Inv X pins σ H' { s with heap:=h',toks:=t' }:=by
 obtain ⟨m,⟨o,es,ep,ho,r⟩,_⟩:=id I.loc
 obtain ⟨sl,hL⟩:=u.any ho I.free (by simp)
 exact I.step (g':=s.gens) (d':=s.drawn) (ch:=[]) (fun _ z=>nomatch z) (fun b o _ hb _ e n=>u.keep b o e n hb (by simp)) (fun b o _ hb _ e n=>u.slot b o e n hb (by simp)) (fun b o _ e n=>u.free b o e n (by simp)) (fun b o _ e=>u.there b o e (by simp)) u.tups u.frzs u.tbls (fun m' hm=>by
  obtain ⟨o',es',ep',ho',r'⟩:=hm
  rw [ho] at ho'; cases ho'
  exact ⟨_,es',ep',hL,r'⟩) hok I.bare
theorem Inv.call {g':Array GenState} {t':Nat} {d':Drawn} {ch:List Addr} (I:Inv X pins σ H s) (u:Un (frs X.stack) ch H H' s.heap h') (hok:HOk X.prog X.w H' h') (hg:AllBare g')
  (hch:∀ b∈ch,(b∈X.ex∨X.s₀.heap.objs.size≤b)∧b≠X.env.locals∧(∀ x c,X.env.cells.lookup x=some c→c≠b)∧∀ p∈X.pn++pins,p.1≠b) :
  Inv X pins σ H' { s with heap:=h',gens:=g',drawn:=d',toks:=t' }:=by
 obtain ⟨m,⟨o,es,ep,ho,r⟩,_⟩:=id I.loc
 obtain ⟨sl,hL⟩:=u.any ho I.free fun z=>(hch _ z).2.1 rfl
 exact I.step (ch:=ch) hch (fun b o hL hb hc e n=>u.keep b o e n (fun z=>(List.mem_cons.mp (I.stkSub b z)).elim hL hb) hc) (fun b o _ _ hc e n=>u.any e n hc) (fun b o hc e n=>u.free b o e n hc) (fun b o hc e=>u.there b o e hc) u.tups u.frzs u.tbls (fun m' hm=>by
  obtain ⟨o',es',ep',ho',r'⟩:=hm
  rw [ho] at ho'; cases ho'
  exact ⟨_,es',ep',hL,r'⟩) hok hg
theorem Inv.turned {t':Nat} {it:Addr} (I:Inv X pins σ H s) (k:∀ b o,b≠it→s.heap.get? b=some o→h'.get? b=some o) (hn:H it=none) (hL:it≠X.env.locals)
  (h1:it∈X.ex∨X.s₀.heap.objs.size≤it) (h2:∀ x c,X.env.cells.lookup x=some c→c≠it) (h3:∀ p∈X.pn++pins,p.1≠it):Inv X pins σ H { s with heap:=h',toks:=t' }:=by
 have nit:∀ b u,H b=some u→b≠it:=fun b u e z=>by rw [z,hn] at e; cases e
 refine I.step (g':=s.gens) (d':=s.drawn) (ch:=[it]) (fun b hb=>?_) (fun b o _ _ hc e _=>k b o (fun z=>hc (by simp [z])) e) (fun b o _ _ hc e _=>⟨o.slots,k b o (fun z=>hc (by simp [z])) e⟩) (fun _ _ _ _ n=>n)
  (fun b o hc e=>⟨o,k b o (fun z=>hc (by simp [z])) e⟩) (fun _ _ e=>e) (fun _ _ _ e=>e) (fun b ps e=>⟨#[],by rw [e]; simp⟩) (fun m hm=>?_) (fun b u e=>?_) I.bare
 ·have e:b=it:=by simpa using hb
  subst e
  exact ⟨h1,hL,h2,h3⟩
 ·obtain ⟨o,es,ep,ho,r⟩:=hm
  exact ⟨o,es,ep,k _ o (Ne.symm hL) ho,r⟩
 ·refine (I.hok b u e).stay (fun c v hc q=>k c v ?_ q) (fun _ q=>q) fun _ _ q=>q
  rcases hc with z|z
  ·rw [z]; exact nit b u e
  ·exact nit c _ z
theorem Inv.tok (I:Inv X pins σ H s) (t:Nat):Inv X pins σ H { s with toks:=t }:=I.un (h':=s.heap) (t':=t) Un.refl I.hok
theorem Inv.kept {t':Nat} (I:Inv X pins σ H s) (k:∀ b u,s.heap.get? b=some u→h'.get? b=some u):Inv X pins σ H { s with heap:=h',toks:=t' }:=I.un (Un.kept k) (I.hok.kept k)
theorem Inv.laid {a:Addr} {o:HO} {t':Nat} (I:Inv X pins σ H s) (k:∀ b u,s.heap.get? b=some u→h'.get? b=some u) (hp:s.heap.objs.size≤a) (new:ObjOk X.prog X.w (upd H a o) h' a o) :
  Inv X pins σ (upd H a o) { s with heap:=h',toks:=t' }:=I.un (Un.laid k hp (I.hok.fresh hp)) (I.hok.laid k hp new)
theorem Inv.write {x e:Addr} {o:HO} {t':Nat} (I:Inv X pins σ H s) (mu:Mut (H x)) (he:e=x∨H e=some (.own x)) (k:∀ b u,b≠e→s.heap.get? b=some u→h'.get? b=some u) (heo:∃ u,h'.get? e=some u)
  (new:ObjOk X.prog X.w (upd H x o) h' x o):Inv X pins σ (upd H x o) { s with heap:=h',toks:=t' }:=I.un (Un.write mu he k heo) (I.hok.write mu he k heo new)
theorem Inv.pins_of {pins':List (Addr×Obj)} (I:Inv X pins σ H s) (h:∀ p∈pins',s.heap.get? p.1=some p.2∧H p.1=none∧p.1≠X.env.locals∧p.1∉X.fs∧∀ v,p.2.data≠.cell v):Inv X pins' σ H s :=
 ⟨I.ok,I.os,I.bare,I.base,I.loc,I.cell,I.free,I.freeC,fun p hp=>(List.mem_append.mp hp).elim (fun z=>I.pin p (List.mem_append_left _ z)) (h p),I.hok,I.len,I.hdk⟩
theorem nodup_ix {N:List Str} (hN:N.Nodup) {i j:Nat} {x:Str} (a:N[i]?=some x) (b:N[j]?=some x):i=j:=by
 obtain ⟨h1,e1⟩:=List.getElem?_eq_some_iff.mp a
 obtain ⟨h2,e2⟩:=List.getElem?_eq_some_iff.mp b
 exact (List.getElem_inj hN).mp (e1.trans e2.symm)
theorem store_ok2 {M:Model} {A:Around} {E:Value→Shared→Prop} {i:Nat} {x:Str} {v:V} {u:Value} {Q:Unit→Shared→Prop} (I:Inv X pins σ H s) (hN:X.N.Nodup) (hi:X.N[i]?=some x) (hx:Loc X.env.scope x) (r:RelV v u)
  (h:∀ s',Inv X pins (σ.set i (some v)) H s'→(∃ a,Heap.SameBut a s.heap s'.heap∧(a=X.env.locals∨X.env.cells.lookup x=some a))→Q () s') (hf:X.fn x=true∨X.env.scope.names.lookup x=some .local:=by first|exact .inl rfl|exact .inr rfl|assumption):wpAny M A (storeName X.env x u) Q E s:=by
 obtain ⟨m,hn,hl⟩:=id I.loc
 have hcls:(X.env.scope.kind == .class || (X.env.scope.kind == .module && X.env.locals != X.env.globals))=false:=by rw [I.ok.kind]; rfl
 have hiσ:i<σ.length:=by rw [I.len]; exact (List.getElem?_eq_some_iff.mp hi).1
 have cne:=I.cne
 have tracked:∀ {a:Addr} {h':Heap},(∃ o,s.heap.get? a=some o∧H a=none)→Heap.SameBut a s.heap h'→HOk X.prog X.w H h':=fun {a h'} ha hs b ob e=>by
  obtain ⟨_,_,hfree⟩:=ha
  refine (I.hok b ob e).stay (fun c w' hc q=>(hs.2 c ?_).trans q) (fun _ q=>q) fun _ _ q=>q
  rintro rfl
  rcases hc with rfl|hc
  ·rw [hfree] at e; cases e
  ·rw [hfree] at hc; cases hc
 rcases hx with hk|hk
 ·refine wpAny_storeName_local hk hn (fun h' hn' hs=>?_) hcls
  obtain ⟨oL,_,_,hoL,_⟩:=id hn
  refine h _ ⟨I.ok,I.os,I.bare,⟨fun b o e n hb hx=>?_,fun b o e n hb hx=>?_,I.base.free,fun b o e hx=>?_,I.base.tups,I.base.frzs,I.base.tbls⟩,⟨_,hn',fun j y v' e1 e2 e3=>?_⟩,fun y c e=>?_,I.free,I.freeC,fun p hp=>?_,tracked ⟨oL,hoL,I.free⟩ hs,by simpa using I.len,I.hdk⟩ ⟨_,hs,.inl rfl⟩
  ·exact (hs.2 b (Nat.ne_of_lt (Nat.lt_of_lt_of_le (Heap.lt_size e) I.ok.above))).trans (I.base.keep b o e n hb hx)
  ·obtain ⟨sl,e1⟩:=I.base.slot b o e n hb hx
   exact ⟨sl,(hs.2 b (Nat.ne_of_lt (Nat.lt_of_lt_of_le (Heap.lt_size e) I.ok.above))).trans e1⟩
  ·obtain ⟨o',e1⟩:=I.base.there b o e hx
   exact ⟨o',(hs.2 b (Nat.ne_of_lt (Nat.lt_of_lt_of_le (Heap.lt_size e) I.ok.above))).trans e1⟩
  ·by_cases hj:j=i
   ·subst hj
    rw [hi] at e1; cases e1
    rw [List.getElem?_set_self hiσ] at e2
    cases e2
    exact ⟨u,r,.inl ⟨hk,by simp⟩⟩
   ·rw [List.getElem?_set_ne (Ne.symm hj)] at e2
    obtain ⟨u',r',q⟩:=hl j y v' e1 e2 e3
    refine ⟨u',r',?_⟩
    rcases q with ⟨k,e⟩|⟨k,c,e,z⟩
    ·refine .inl ⟨k,?_⟩
     have:y≠x:=fun e=>hj (nodup_ix hN e1 (e ▸ hi))
     simp [this,e]
    ·exact .inr ⟨k,c,e,z.sameBut hs (cne y c e)⟩
  ·obtain ⟨w',z⟩:=I.cell y c e
   exact ⟨w',z.sameBut hs (cne y c e)⟩
  ·obtain ⟨e,n,ne,nf,d⟩:=I.pin p hp
   exact ⟨(hs.2 p.1 ne).trans e,n,ne,nf,d⟩
 ·have hfn:X.fn x=true:=by
   rcases hf with z|z
   ·exact z
   ·rw [z] at hk; cases hk
  obtain ⟨c,hc⟩:=I.ok.has x (.inl hk)
  obtain ⟨w',z⟩:=I.cell x c hc
  refine wpAny_storeName_cell I.ok.kind hk hc z (fun h' hc' hs=>?_)
  obtain ⟨oc,hoc,hocd⟩:=id z
  refine h { s with heap:=h' } ⟨I.ok,I.os,I.bare,⟨fun b o e n hb hx=>?_,fun b o e n hb hx=>?_,I.base.free,fun b o e hx=>?_,I.base.tups,I.base.frzs,I.base.tbls⟩,⟨m,hn.sameBut hs (Ne.symm (cne x c hc)),fun j y v' e1 e2 e3=>?_⟩,fun y c' e=>?_,I.free,I.freeC,fun p hp=>?_,tracked ⟨oc,hoc,I.freeC x c hc⟩ hs,by simpa using I.len,I.hdk⟩ ⟨c,hs,.inr hc⟩
  ·exact (hs.2 b (Nat.ne_of_lt (Nat.lt_of_lt_of_le (Heap.lt_size e) (I.ok.cab x c hfn hc)))).trans (I.base.keep b o e n hb hx)
  ·obtain ⟨sl,e1⟩:=I.base.slot b o e n hb hx
   exact ⟨sl,(hs.2 b (Nat.ne_of_lt (Nat.lt_of_lt_of_le (Heap.lt_size e) (I.ok.cab x c hfn hc)))).trans e1⟩
  ·obtain ⟨o',e1⟩:=I.base.there b o e hx
   exact ⟨o',(hs.2 b (Nat.ne_of_lt (Nat.lt_of_lt_of_le (Heap.lt_size e) (I.ok.cab x c hfn hc)))).trans e1⟩
  ·by_cases hj:j=i
   ·subst hj
    rw [hi] at e1; cases e1
    rw [List.getElem?_set_self hiσ] at e2
    cases e2
    exact ⟨u,r,.inr ⟨.inl hk,c,hc,hc'⟩⟩
   ·rw [List.getElem?_set_ne (Ne.symm hj)] at e2
    obtain ⟨u',r',q⟩:=hl j y v' e1 e2 e3
    refine ⟨u',r',?_⟩
    rcases q with q|⟨k,c',e,z'⟩
    ·exact .inl q
    ·refine .inr ⟨k,c',e,z'.sameBut hs ?_⟩
     rintro rfl
     exact hj (nodup_ix hN e1 (I.ok.inj _ _ _ e hc ▸ hi))
  ·by_cases hcc:c'=c
   ·subst hcc; exact ⟨_,hc'⟩
   ·obtain ⟨w2,z2⟩:=I.cell y c' e
    exact ⟨w2,z2.sameBut hs hcc⟩
  ·obtain ⟨e,n,ne,nf,d⟩:=I.pin p hp
   refine ⟨(hs.2 p.1 ?_).trans e,n,ne,nf,d⟩
   intro q
   rw [q,hoc] at e
   have q':oc=p.2:=Option.some.inj e
   exact d w' (by rw [← q']; exact hocd)
theorem store_ok {M:Model} {A:Around} {E:Value→Shared→Prop} {i:Nat} {x:Str} {v:V} {u:Value} {Q:Unit→Shared→Prop} (I:Inv X pins σ H s) (hN:X.N.Nodup) (hi:X.N[i]?=some x) (hx:Loc X.env.scope x) (r:RelV v u)
  (h:∀ s',Inv X pins (σ.set i (some v)) H s'→Q () s') (hf:X.fn x=true∨X.env.scope.names.lookup x=some .local:=by first|exact .inl rfl|exact .inr rfl|assumption):wpAny M A (storeName X.env x u) Q E s :=
 store_ok2 I hN hi hx r (fun s' I' _=>h s' I') hf
theorem Inv.call' {s':Shared} {ch:List Addr} (I:Inv X pins σ H s) (ho:s'.os=s.os) (u:Un (frs X.stack) ch H H' s.heap s'.heap) (hok:HOk X.prog X.w H' s'.heap) (hg:AllBare s'.gens)
  (hch:∀ b∈ch,(b∈X.ex∨X.s₀.heap.objs.size≤b)∧b≠X.env.locals∧(∀ x c,X.env.cells.lookup x=some c→c≠b)∧∀ p∈X.pn++pins,p.1≠b):Inv X pins σ H' s':=by
 obtain ⟨h',g',d',t',o'⟩:=s'
 have e:o'=s.os:=ho
 subst e
 exact I.call (g':=g') (t':=t') (d':=d') u hok hg hch
end
abbrev XK:=Value→Option Addr→Hp→Prop
abbrev St:=List (Option V)
abbrev VK:=V→Hp→Prop
abbrev TE:=St→Hp→VK→Prop
abbrev TT:=St→Hp→(Bool→Hp→Prop)→Prop
abbrev TA:=St→Hp→(List V→Hp→Prop)→Prop
structure Ends where
 nx:St→Hp→Prop
 rt:VK
 bk:St→Hp→Prop:=fun _ _=>False
 ct:St→Hp→Prop:=fun _ _=>False
abbrev TS:=Ends→St→Hp→Prop
def EP (X:Cx) (pins:List (Addr×Obj)) (σ:St) (Q:VK) (u:Value) (s':Shared):Prop:=∃ v H',Inv X pins σ H' s'∧RelV v u∧Q v H'
def TP (X:Cx) (pins:List (Addr×Obj)) (σ:St) (Q:Bool→Hp→Prop) (b:Bool) (s':Shared):Prop:=∃ H',Inv X pins σ H' s'∧Q b H'
def AP (X:Cx) (pins:List (Addr×Obj)) (σ:St) (Q:List V→Hp→Prop) (us:List Value) (s':Shared):Prop:=∃ vs H',Inv X pins σ H' s'∧Vals vs us∧Q vs H'
def SP (X:Cx) (pins:List (Addr×Obj)) (D:Ends) (f:Flow) (s':Shared):Prop :=
 match f with
 | .next=>∃ σ' H',Inv X pins σ' H' s'∧D.nx σ' H'
 | .brk=>∃ σ' H',Inv X pins σ' H' s'∧D.bk σ' H'
 | .cont=>∃ σ' H',Inv X pins σ' H' s'∧D.ct σ' H'
 | .ret u=>∃ v σ' H',Inv X pins σ' H' s'∧RelV v u∧D.rt v H'
def PE (X:Cx) (e:Expr) (t:TE):Prop :=
 ∀ (pins:List (Addr×Obj)) (s:Shared) (σ:St) (H:Hp) (Q:VK),Inv X pins σ H s→t σ H Q→wpAny (model X.prog X.w) X.A (eval e X.env) (EP X pins σ Q) X.xe s
def PT (X:Cx) (e:Expr) (t:TT):Prop :=
 ∀ (pins:List (Addr×Obj)) (s:Shared) (σ:St) (H:Hp) (Q:Bool→Hp→Prop),Inv X pins σ H s→t σ H Q→wpAny (model X.prog X.w) X.A (isTrue e X.env (eval e X.env)) (TP X pins σ Q) X.xe s
def PW (X:Cx) (e:Expr) (t:TT):Prop :=
 ∀ (whole:Sem Value) (pins:List (Addr×Obj)) (s:Shared) (σ:St) (H:Hp) (Q:Bool→Hp→Prop),Inv X pins σ H s→t σ H Q→wpAny (model X.prog X.w) X.A (isTrue e X.env whole) (TP X pins σ Q) X.xe s
theorem PW.pt {X:Cx} {e:Expr} {t:TT} (h:PW X e t):PT X e t:=h _
def PA (X:Cx) (es:List Expr) (t:TA):Prop :=
 ∀ (pos:Pos) (pins:List (Addr×Obj)) (s:Shared) (σ:St) (H:Hp) (Q:List V→Hp→Prop),Inv X pins σ H s→t σ H Q→wpAny (model X.prog X.w) X.A (spliced (backTo pos (starEach es X.env))) (AP X pins σ Q) X.xe s
def PS (X:Cx) (st:Stmt) (t:TS):Prop :=
 ∀ (pins:List (Addr×Obj)) (s:Shared) (σ:St) (H:Hp) (D:Ends),Inv X pins σ H s→t D σ H→wpAny (model X.prog X.w) X.A (exec st X.env) (SP X pins D) X.xe s
def PSs (X:Cx) (st:List Stmt) (t:TS):Prop :=
 ∀ (pins:List (Addr×Obj)) (s:Shared) (σ:St) (H:Hp) (D:Ends),Inv X pins σ H s→t D σ H→wpAny (model X.prog X.w) X.A (execs st X.env) (SP X pins D) X.xe s
theorem thn {α:Type} {t:Sem α} {Q Q':α→Shared→Prop} {M:Model} {A:Around} {E:Value→Shared→Prop} {s:Shared} (h:wpAny M A t Q E s) (hQ:∀ a s,Q a s→Q' a s):wpAny M A t Q' E s:=wpAny_mono h hQ fun _ _ x=>x
end L2
namespace L2
open PySem PySem.Spec PyProof.Rows
section
variable {X:Cx}
theorem bin {a b:Expr} {ta tb:TE} (ha:PE X a ta) (hb:PE X b tb) {pins:List (Addr×Obj)} {s:Shared} {σ:St} {H:Hp} {R:V→V→Hp→Prop} (I:Inv X pins σ H s) (h:ta σ H fun x H1=>tb σ H1 fun y H2=>R x y H2)
  {α:Type} {Q:α→Shared→Prop} {f:Value→Value→Sem α}
  (hf:∀ v u s2 x y H2,Inv X pins σ H2 s2→RelV x v→RelV y u→R x y H2→wpAny (model X.prog X.w) X.A (f v u) Q X.xe s2) :
  wpAny (model X.prog X.w) X.A (eval a X.env) (fun v s₁=>wpAny (model X.prog X.w) X.A (eval b X.env) (fun u s₂=>wpAny (model X.prog X.w) X.A (f v u) Q X.xe s₂) X.xe s₁) X.xe s:=by
 refine thn (ha pins s σ H _ I h) fun v s1 ⟨x,H1,I1,r1,q1⟩=>?_
 refine thn (hb pins s1 σ H1 _ I1 q1) fun u s2 ⟨y,H2,I2,r2,q2⟩=>?_
 exact hf v u s2 x y H2 I2 r1 r2 q2
def tVar (i:Nat):TE:=fun σ H Q=>∃ v,σ[i]?=some (some v)∧Q v H
def tC (v:V):TE:=fun _ H Q=>Q v H
theorem pe_var {i:Nat} {x:Str} {pos:Pos} (hN:X.N[i]?=some x) (hv:Vis X.env.scope x) (hd:(x == ("__debug__" : Str))=false:=by decide) (hcd:(x == ("__classdict__" : Str))=false:=by decide):PE X (.Name x pos) (tVar i):=by
 intro pins s σ H Q I h
 obtain ⟨v,e,h⟩:=h
 obtain ⟨m,hn,hl⟩:=I.loc
 obtain ⟨u,r,l⟩:=hl i x v hN e hv
 have fin:EP X pins σ Q u s:=⟨v,H,I,r,h⟩
 rcases l with ⟨hk,hm⟩|⟨hk,c,hc,hcell⟩
 ·exact wpAny_Name (wpAny_loadName_local I.ok.kind hk hn hm fin) hd
 ·rcases hk with hk|hk
  ·exact wpAny_Name (wpAny_loadName_cell I.ok.kind hk hc hcell fin) hd
  ·exact wpAny_Name (wpAny_loadName_free I.ok.kind hk hc hcell fin hcd) hd
theorem pe_int {i j pos}:PE X (.Constant (.int i) j pos) (tC (.int i)):=fun _ _ _ H _ I h=>wpAny_Constant_int ⟨.int i,H,I.tok _,⟨_,rfl⟩,h⟩
theorem pe_bl {b j pos}:PE X (.Constant (.bool b) j pos) (tC (.bl b)):=fun _ _ _ H _ I h=>Constant_bool ⟨.bl b,H,I,rfl,h⟩
theorem pe_non {j pos}:PE X (.Constant .none j pos) (tC .non):=fun _ _ _ H _ I h=>Constant_none ⟨.non,H,I,rfl,h⟩
theorem pe_str {x j pos}:PE X (.Constant (.str x) j pos) (tC (.str x)):=fun _ _ _ H _ I h=>Calls.Constant_str ⟨.str x,H,I.tok _,⟨_,rfl⟩,h⟩
def Gl (X:Cx) (x:Str):Prop:=X.env.kindOf x=some .globalImplicit
theorem ld_glob {E:Value→Shared→Prop} {pins:List (Addr×Obj)} {s:Shared} {σ:St} {H:Hp} {x:Str} {u:Value} {pos:Pos} {Q:Value→Shared→Prop} (I:Inv X pins σ H s) (hg:Gl X x) (hm:X.mg x=some u) (h:Q u s)
  (hd:(x == ("__debug__" : Str))=false:=by decide):wpAny (model X.prog X.w) X.A (eval (.Name x pos) X.env) Q E s :=
 Calls.Name_function_global I.ok.kind hg (Calls.loadGlobal_global (by rw [I.ok.glob]; exact I.mod.glob.keeps I.bk) hm h) hd
theorem ld_blt {E:Value→Shared→Prop} {pins:List (Addr×Obj)} {s:Shared} {σ:St} {H:Hp} {x:Str} {u:Value} {pos:Pos} {Q:Value→Shared→Prop} (I:Inv X pins σ H s) (hg:Gl X x) (hm:X.mg x=none) (hv:bootBuiltins x=some u) (h:Q u s)
  (hn:x≠"__name__":=by decide) (hd:(x == ("__debug__" : Str))=false:=by decide):wpAny (model X.prog X.w) X.A (eval (.Name x pos) X.env) Q E s:=by
 obtain ⟨mb,h1,h2⟩:=I.mod.blt
 exact Calls.Name_function_global I.ok.kind hg (Calls.loadGlobal_builtin (by rw [I.ok.glob]; exact I.mod.glob.keeps I.bk) hm (by rw [I.ok.blt]; exact h1.keeps I.bk) ((h2 x hn).trans hv) h) hd
theorem pe_glob {x:Str} {v:V} {u:Value} {pos:Pos} (hg:Gl X x) (hm:X.mg x=some u) (r:RelV v u) (hd:(x == ("__debug__" : Str))=false:=by decide):PE X (.Name x pos) (tC v) :=
 fun _ _ _ H _ I h=>ld_glob I hg hm ⟨v,H,I,r,h⟩ hd
theorem pe_bltn {x:Str} {v:V} {u:Value} {pos:Pos} (hg:Gl X x) (hm:X.mg x=none) (hv:bootBuiltins x=some u) (r:RelV v u) (hn:x≠"__name__":=by decide) (hd:(x == ("__debug__" : Str))=false:=by decide):PE X (.Name x pos) (tC v) :=
 fun _ _ _ H _ I h=>ld_blt I hg hm hv ⟨v,H,I,r,h⟩ hn hd
variable {a b:Expr} {ta tb:TE} {pos:Pos}
def tB (t:TE):TT:=fun σ H Q=>t σ H fun x H1=>∃ c,x = .bl c∧Q c H1
variable {tA tB':TT} {rest:List Expr}
def tAnd (t u:TT):TT:=fun σ H Q=>t σ H fun c H1=>if c=true then u σ H1 Q else Q false H1
def tOr (t u:TT):TT:=fun σ H Q=>t σ H fun c H1=>if c=true then Q true H1 else u σ H1 Q
def tNot (t:TT):TT:=fun σ H Q=>t σ H fun c H1=>Q (!c) H1
theorem pw_and1 (ha:PT X a tA):PW X (.BoolOp .And [a] pos) tA:=by
 intro wh pins s σ H Q I h
 refine isTrue_and (thn (ha pins s σ H Q I h) fun c s1 e=>?_)
 cases c with
 | true=>exact isTrue_and_nil e
 | false=>exact e
theorem pw_or1 (ha:PT X a tA):PW X (.BoolOp .Or [a] pos) tA:=by
 intro wh pins s σ H Q I h
 refine isTrue_or (thn (ha pins s σ H Q I h) fun c s1 e=>?_)
 cases c with
 | false=>exact isTrue_or_nil e
 | true=>exact e
theorem pw_and (ha:PT X a tA) (hb:PW X (.BoolOp .And (b::rest) pos) tB'):PW X (.BoolOp .And (a::b::rest) pos) (tAnd tA tB'):=by
 intro wh pins s σ H Q I h
 refine isTrue_and (thn (ha pins s σ H _ I h) fun c s1 ⟨H1,I1,q1⟩=>?_)
 cases c with
 | true=>exact hb wh pins s1 σ H1 Q I1 q1
 | false=>exact ⟨H1,I1,q1⟩
theorem pw_or (ha:PT X a tA) (hb:PW X (.BoolOp .Or (b::rest) pos) tB'):PW X (.BoolOp .Or (a::b::rest) pos) (tOr tA tB'):=by
 intro wh pins s σ H Q I h
 refine isTrue_or (thn (ha pins s σ H _ I h) fun c s1 ⟨H1,I1,q1⟩=>?_)
 cases c with
 | true=>exact ⟨H1,I1,q1⟩
 | false=>exact hb wh pins s1 σ H1 Q I1 q1
theorem pt_not (ha:PT X a tA):PT X (.UnaryOp .Not a pos) (tNot tA):=by
 intro pins s σ H Q I h
 exact isTrue_not (ha pins s σ H (fun c H1=>Q (!c) H1) I h)
def tAndV (ta tb:TE):TE:=fun σ H Q=>ta σ H fun x H1=>∃ c,x = .bl c∧if c=true then tb σ H1 Q else Q (.bl false) H1
def tOrV (ta tb:TE):TE:=fun σ H Q=>ta σ H fun x H1=>∃ c,x = .bl c∧if c=true then Q (.bl true) H1 else tb σ H1 Q
def tNotV (ta:TE):TE:=fun σ H Q=>ta σ H fun x H1=>∃ c,x = .bl c∧Q (.bl (!c)) H1
theorem pe_one {op} {t:TE} (h:PE X a t):PE X (.BoolOp op [a] pos) t:=fun pins s σ H Q I hw=>BoolOp_one (h pins s σ H Q I hw)
theorem pe_and (ha:PE X a ta) (hb:PE X (.BoolOp .And (b::rest) pos) tb):PE X (.BoolOp .And (a::b::rest) pos) (tAndV ta tb):=by
 intro pins s σ H Q I h
 refine BoolOp_and (thn (ha pins s σ H _ I h) fun v s1 ⟨x,H1,I1,r1,q1⟩=>?_)
 obtain ⟨c,rfl,q1⟩:=q1
 cases r1
 refine wpAny_truthy_bool ?_
 cases c with
 | true=>exact hb pins s1 σ H1 Q I1 q1
 | false=>exact ⟨.bl false,H1,I1,rfl,q1⟩
theorem pe_or (ha:PE X a ta) (hb:PE X (.BoolOp .Or (b::rest) pos) tb):PE X (.BoolOp .Or (a::b::rest) pos) (tOrV ta tb):=by
 intro pins s σ H Q I h
 refine BoolOp_or (thn (ha pins s σ H _ I h) fun v s1 ⟨x,H1,I1,r1,q1⟩=>?_)
 obtain ⟨c,rfl,q1⟩:=q1
 cases r1
 refine wpAny_truthy_bool ?_
 cases c with
 | false=>exact hb pins s1 σ H1 Q I1 q1
 | true=>exact ⟨.bl true,H1,I1,rfl,q1⟩
theorem pe_not (ha:PE X a ta):PE X (.UnaryOp .Not a pos) (tNotV ta):=by
 intro pins s σ H Q I h
 refine UnaryOp_ (thn (ha pins s σ H _ I h) fun v s1 ⟨x,H1,I1,r1,q1⟩=>?_)
 obtain ⟨c,rfl,q1⟩:=q1
 cases r1
 exact not_of (wpAny_truthy_bool ⟨.bl (!c),H1,I1,rfl,q1⟩)
def tIf (t:TT) (ta tb:TE):TE:=fun σ H Q=>t σ H fun c H1=>if c=true then ta σ H1 Q else tb σ H1 Q
theorem pe_ifExp {c:Expr} (hc:PT X c tA) (ha:PE X a ta) (hb:PE X b tb):PE X (.IfExp c a b pos) (tIf tA ta tb):=by
 intro pins s σ H Q I h
 refine wpAny_IfExp (thn (hc pins s σ H _ I h) fun d s1 ⟨H1,I1,q1⟩=>?_)
 cases d with
 | true=>exact ha pins s1 σ H1 Q I1 q1
 | false=>exact hb pins s1 σ H1 Q I1 q1
end
end L2
namespace L2
open PySem PySem.Spec PyProof.Rows
def SqL (K:PySem.W.Frag) (H:Hp) (a:Addr) (xs:List V):Prop :=
 Rd H a (.lst xs) ∨
  ∃ (o:Obj) (its:Array Value) (n:Nat),K.lookup a=some o∧o.cls = .type "list"∧o.dict=none∧o.data = .seq its n∧its.size≤sizeLine∧Vals xs its.toList
def SqT (K:PySem.W.Frag) (H:Hp) (a:Addr) (xs:List V):Prop :=
 Rd H a (.tup xs) ∨
  ∃ (o:Obj) (its:Array Value) (n:Nat),K.lookup a=some o∧o.cls = .type "tuple"∧o.data = .seq its n∧its.size≤sizeLine∧Vals xs its.toList
def absV:Value→Option V
 | .none=>some .non
 | .bool b=>some (.bl b)
 | .int i _=>some (.int i)
 | .str x _=>some (.str x)
 | .bytes b _=>some (.byt b)
 | .float b _=>some (.flt b)
 | .ref a=>some (.ref a)
 | .type n=>some (.ty n)
 | _=>none
theorem RelV.abs {x:V} {u:Value} (r:RelV x u):absV u=some x:=by
 cases x with
 | non=>cases r; rfl
 | bl _=>cases r; rfl
 | int _=>obtain ⟨t,rfl⟩:=r; rfl
 | str _=>obtain ⟨t,rfl⟩:=r; rfl
 | byt _=>obtain ⟨t,rfl⟩:=r; rfl
 | flt _=>obtain ⟨t,rfl⟩:=r; rfl
 | ref _=>cases r; rfl
 | ty _=>cases r; rfl
theorem RelV.inj {x y:V} {u:Value} (r:RelV x u) (q:RelV y u):x=y:=Option.some.inj (r.abs.symm.trans q.abs)
theorem Vals.inj:∀ {xs ys:List V} {us:List Value},Vals xs us→Vals ys us→xs=ys
 | _,_,_,.nil,.nil=>rfl
 | _,_,_,.cons r t,.cons r' t'=>by rw [r.inj r',Vals.inj t t']
section
variable {X:Cx} {pins:List (Addr×Obj)} {σ:St} {H:Hp} {s:Shared} {a:Addr} {xs ys:List V}
theorem SqL.of {K:PySem.W.Frag} (h:H a=some (.lst xs)):SqL K H a xs:=.inl (.inl h)
theorem SqT.of {K:PySem.W.Frag} (h:H a=some (.tup xs)):SqT K H a xs:=.inl (.inl h)
theorem Inv.list (I:Inv X pins σ H s) (h:SqL X.K H a xs):∃ its:List Value,Vals xs its∧PlainL s.heap a its.toArray∧xs.length≤sizeLine:=by
 rcases h with h|⟨o,its,n,hk,hc,hd,hs,hz,r⟩
 ·obtain ⟨z,its,n,r,e⟩:=h.ok I.hok
  exact ⟨its,r,⟨_,n,e,rfl,rfl,rfl⟩,z⟩
 ·refine ⟨its.toList,r,⟨o,n,I.kIn a o hk,hc,hd,by simpa using hs⟩,?_⟩
  have e:=r.length
  simp only [Array.length_toList] at e
  omega
theorem Inv.tuple (I:Inv X pins σ H s) (h:SqT X.K H a xs):∃ its:List Value,Vals xs its∧IsTup s.heap a its.toArray∧xs.length≤sizeLine:=by
 rcases h with h|⟨o,its,n,hk,hc,hs,hz,r⟩
 ·obtain ⟨z,its,r,p⟩:=h.ok I.hok
  exact ⟨its,r,p,z⟩
 ·refine ⟨its.toList,r,⟨o,I.kIn a o hk,hc,n,by simpa using hs⟩,?_⟩
  have e:=r.length
  simp only [Array.length_toList] at e
  omega
theorem Inv.list_inj (I:Inv X pins σ H s) (h:SqL X.K H a xs) (h':SqL X.K H a ys):xs=ys:=by
 obtain ⟨its,r,⟨o,n,e,_,_,d⟩,_⟩:=I.list h
 obtain ⟨its',r',⟨o',n',e',_,_,d'⟩,_⟩:=I.list h'
 rw [e] at e'; cases e'
 rw [d] at d'
 injection d' with d1 _
 have:its=its':=by simpa using congrArg Array.toList d1
 subst this
 exact r.inj r'
theorem Inv.tuple_inj (I:Inv X pins σ H s) (h:SqT X.K H a xs) (h':SqT X.K H a ys):xs=ys:=by
 obtain ⟨its,r,⟨o,e,_,n,d⟩,_⟩:=I.tuple h
 obtain ⟨its',r',⟨o',e',_,n',d'⟩,_⟩:=I.tuple h'
 rw [e] at e'; cases e'
 rw [d] at d'
 injection d' with d1 _
 have:its=its':=by simpa using congrArg Array.toList d1
 subst this
 exact r.inj r'
end
abbrev Cx.wish (X:Cx) (E:Value→Shared→Prop):Cx:={ X with xe:=E }
abbrev Cx.nox (X:Cx):Cx:=X.wish fun _ _=>False
theorem Cx.Ok.wish {X:Cx} (ok:X.Ok) (E:Value→Shared→Prop):(X.wish E).Ok :=
 ⟨ok.mod,ok.kind,ok.glob,ok.blt,ok.above,ok.inj,ok.has,ok.cab,ok.hd,ok.frames,ok.stk,ok.exf,ok.bs,ok.bsz,ok.noex,ok.exfs,ok.funs,ok.frf⟩
theorem Cx.Ok.unwish {X:Cx} {E:Value→Shared→Prop} (ok:(X.wish E).Ok):X.Ok :=
 ⟨ok.mod,ok.kind,ok.glob,ok.blt,ok.above,ok.inj,ok.has,ok.cab,ok.hd,ok.frames,ok.stk,ok.exf,ok.bs,ok.bsz,ok.noex,ok.exfs,ok.funs,ok.frf⟩
section
variable {X:Cx} {pins:List (Addr×Obj)} {σ:St} {H:Hp} {s:Shared} {E:Value→Shared→Prop}
theorem Inv.wish (I:Inv X pins σ H s) (E:Value→Shared→Prop):Inv (X.wish E) pins σ H s:=⟨I.ok.wish E,I.os,I.bare,I.base,I.loc,I.cell,I.free,I.freeC,I.pin,I.hok,I.len,I.hdk⟩
theorem Inv.unwish (I:Inv (X.wish E) pins σ H s):Inv X pins σ H s:=⟨I.ok.unwish,I.os,I.bare,I.base,I.loc,I.cell,I.free,I.freeC,I.pin,I.hok,I.len,I.hdk⟩
theorem SP.unwish {D:Ends} {f:Flow} {s':Shared} (h:SP (X.wish E) pins D f s'):SP X pins D f s':=by
 cases f with
 | next=>obtain ⟨σ',H',I,q⟩:=h; exact ⟨σ',H',I.unwish,q⟩
 | brk=>obtain ⟨σ',H',I,q⟩:=h; exact ⟨σ',H',I.unwish,q⟩
 | cont=>obtain ⟨σ',H',I,q⟩:=h; exact ⟨σ',H',I.unwish,q⟩
 | ret u=>obtain ⟨v,σ',H',I,r,q⟩:=h; exact ⟨v,σ',H',I.unwish,r,q⟩
theorem PSs.nox {st:List Stmt} {t:TS} (h:PSs X.nox st t):PSs X st t:=fun pins s σ H D I hw =>
 wpAny_mono (h pins s σ H D (I.wish _) hw) (fun _ _ q=>q.unwish) fun _ _ z=>False.elim z
end
section
variable {X:Cx} {st:Stmt} {rest:List Stmt} {t u:TS} {e:Expr} {te:TE} {pos:Pos}
def tNext:TS:=fun D σ H=>D.nx σ H
def tSeq (t u:TS):TS:=fun D σ H=>t { D with nx:=u D } σ H
theorem pss_nil:PSs X [] tNext:=fun _ _ σ H _ I h=>wpAny_execs_nil ⟨σ,H,I,h⟩
theorem pss_cons (h1:PS X st t) (h2:PSs X rest u):PSs X (st::rest) (tSeq t u):=by
 intro pins s σ H D I h
 refine wpAny_execs_cons (thn (h1 pins s σ H { D with nx:=u D } I h) fun f s1 q=>?_)
 cases f with
 | next =>
  obtain ⟨σ',H',I',q⟩:=q
  exact h2 pins s1 σ' H' D I' q
 | ret v=>exact q
 | brk=>exact q
 | cont=>exact q
theorem pss_one (h1:PS X st t):PSs X [st] t:=by
 intro pins s σ H D I h
 refine wpAny_execs_cons (thn (h1 pins s σ H D I h) fun f s1 q=>?_)
 cases f with
 | next=>exact wpAny_execs_nil q
 | ret v=>exact q
 | brk=>exact q
 | cont=>exact q
def tBreak:TS:=fun D σ H=>D.bk σ H
def tCont:TS:=fun D σ H=>D.ct σ H
theorem Inv.quiet {pins:List (Addr×Obj)} {σ:St} {H:Hp} {s:Shared} (I:Inv X pins σ H s):interactive X.env=false:=by simp [interactive,I.ok.kind]
def tDrop (te:TE):TS:=fun D σ H=>te σ H fun _ H1=>D.nx σ H1
theorem ps_expr (he:PE X e te) (hs:swapsWith e none pos.line X.env=pure false:=by rfl):PS X (.Expr e pos) (tDrop te):=by
 intro pins s σ H D I h
 exact wpAny_Expr_any (thn (he pins s σ H _ I h) fun v s1 ⟨x,H1,I1,r1,q1⟩=>⟨σ,H1,I1,q1⟩) I.quiet hs
def tRet (te:TE):TS:=fun D σ H=>te σ H D.rt
theorem ps_ret (he:PE X e te):PS X (.Return (some e) pos) (tRet te):=by
 intro pins s σ H D I h
 exact wpAny_Return_some (thn (he pins s σ H _ I h) fun v s1 ⟨x,H1,I1,r1,q1⟩=>⟨x,σ,H1,I1,r1,q1⟩)
def tRetN:TS:=fun D _ H=>D.rt .non H
def tIfS (c:TT) (t u:TS):TS:=fun D σ H=>c σ H fun b H1=>if b=true then t D σ H1 else u D σ H1
theorem ps_if {c:Expr} {a b:List Stmt} {tc:TT} (hc:PT X c tc) (ha:PSs X a t) (hb:PSs X b u):PS X (.If c a b pos) (tIfS tc t u):=by
 intro pins s σ H D I h
 refine wpAny_If (thn (hc pins s σ H _ I h) fun d s1 ⟨H1,I1,q1⟩=>?_)
 cases d with
 | true=>exact ha pins s1 σ H1 D I1 q1
 | false=>exact hb pins s1 σ H1 D I1 q1
end
abbrev TG:=V→St→Hp→(St→Hp→Prop)→Prop
abbrev TGs:=List V→St→Hp→(St→Hp→Prop)→Prop
def PG (X:Cx) (target:Expr) (t:TG):Prop :=
 ∀ (pins:List (Addr×Obj)) (s:Shared) (σ:St) (H:Hp) (v:V) (u:Value) (Q:St→Hp→Prop),Inv X pins σ H s→RelV v u→t v σ H Q →
  wpAny (model X.prog X.w) X.A (assign target X.env u) (fun _ s'=>∃ σ' H',Inv X pins σ' H' s'∧Q σ' H') X.xe s
def PGs (X:Cx) (ts:List Expr) (t:TGs):Prop :=
 ∀ (pins:List (Addr×Obj)) (s:Shared) (σ:St) (H:Hp) (vs:List V) (us:List Value) (Q:St→Hp→Prop),Inv X pins σ H s→Vals vs us→t vs σ H Q →
  wpAny (model X.prog X.w) X.A (assignInOrder ((assignEach ts X.env).map (·.2)) us) (fun _ s'=>∃ σ' H',Inv X pins σ' H' s'∧Q σ' H') X.xe s
abbrev TSet:=V→V→V→Hp→(Hp→Prop)→Prop
def PSet (X:Cx) (t:TSet):Prop :=
 ∀ (pins:List (Addr×Obj)) (s:Shared) (σ:St) (H:Hp) (o i v:V) (ov iv u:Value) (Q:Hp→Prop),Inv X pins σ H s→RelV o ov→RelV i iv→RelV v u→t o i v H Q →
  wpAny (model X.prog X.w) X.A (setItem ov iv u) (fun _ s'=>∃ H',Inv X pins σ H' s'∧Q H') X.xe s
abbrev TIp:=V→V→Hp→VK→Prop
def PIp (X:Cx) (op:Operator) (t:TIp):Prop :=
 ∀ (pins:List (Addr×Obj)) (s:Shared) (σ:St) (H:Hp) (x y:V) (v u:Value) (Q:VK),Inv X pins σ H s→RelV x v→RelV y u→t x y H Q →
  wpAny (model X.prog X.w) X.A (inplaceOp op v u) (EP X pins σ Q) X.xe s
section
variable {X:Cx} {pos:Pos}
def gName (i:Nat):TG:=fun v σ H Q=>Q (σ.set i (some v)) H
theorem pg_name {i:Nat} {x:Str} (hN:X.N.Nodup) (hi:X.N[i]?=some x) (hx:Loc X.env.scope x) (hf:X.fn x=true∨X.env.scope.names.lookup x=some .local:=by first|exact .inl rfl|exact .inr rfl|assumption):PG X (.Name x pos) (gName i):=by
 intro pins s σ H v u Q I r h
 exact wpAny_assign_Name (store_ok I hN hi hx r (fun s' I'=>⟨_,H,I',h⟩) hf)
def gNil:TGs:=fun vs σ H Q=>vs=[]∧Q σ H
def gCons (t:TG) (u:TGs):TGs:=fun vs σ H Q=>∃ v r,vs=v::r∧t v σ H fun σ' H'=>u r σ' H' Q
theorem pgs_nil:PGs X [] gNil:=by
 intro pins s σ H vs us Q I r h
 obtain ⟨e,h⟩:=h
 subst e
 cases r
 exact assignInOrder_nil ⟨σ,H,I,h⟩
theorem pgs_cons {e:Expr} {es:List Expr} {t:TG} {u:TGs} (h1:PG X e t) (h2:PGs X es u)
  (hs:(assignEach (e::es) X.env).map (·.2)=assign e X.env::(assignEach es X.env).map (·.2):=by rfl):PGs X (e::es) (gCons t u):=by
 intro pins s σ H vs us Q I r h
 obtain ⟨v,vr,e1,h⟩:=h
 subst e1
 cases r with
 | cons r rr =>
  rw [hs]
  refine assignInOrder_cons (thn (h1 pins s σ H _ _ _ I r h) fun _ s1 ⟨σ1,H1,I1,q1⟩=>?_)
  exact h2 pins s1 σ1 H1 _ _ Q I1 rr q1
def gTup (K:PySem.W.Frag) (n:Nat) (t:TGs):TG:=fun v σ H Q=>∃ a xs,v = .ref a∧SqT K H a xs∧xs.length=n∧t xs σ H Q
def gSub (to ti:TE) (t:TSet):TG:=fun v σ H Q=>to σ H fun o H1=>ti σ H1 fun i H2=>t o i v H2 fun H3=>Q σ H3
theorem pg_sub {o i:Expr} {to ti:TE} {t:TSet} (ho:PE X o to) (hi:PE X i ti) (hs:PSet X t)
  (ha:∀ v,assign (.Subscript o i pos) X.env v=(do
   let ov←holding [v] (eval o X.env)
   let iv←holding [v,ov] (eval i X.env)
   standAt pos
   holding [v,ov,iv] (setItem ov iv v)
   release [v,ov,iv] []):=by intro _; rfl):PG X (.Subscript o i pos) (gSub to ti t):=by
 intro pins s σ H v u Q I r h
 rw [ha]
 refine wpAny_bind (wpAny_holding (thn (ho pins s σ H _ I h) fun ov s1 ⟨x,H1,I1,r1,q1⟩=>?_))
 refine wpAny_bind (wpAny_holding (thn (hi pins s1 σ H1 _ I1 q1) fun iv s2 ⟨y,H2,I2,r2,q2⟩=>?_))
 refine wpAny_bind (wpAny_standAt (wpAny_bind (wpAny_holding (thn (hs pins s2 σ H2 x y v ov iv u _ I2 r1 r2 r q2) fun _ s3 ⟨H3,I3,q3⟩=>?_))))
 exact wpAny_release ⟨σ,H3,I3,q3⟩
def tAsg (te:TE) (g:TG):TS:=fun D σ H=>te σ H fun x H1=>g x σ H1 D.nx
theorem ps_asg {tg e:Expr} {te:TE} {g:TG} (he:PE X e te) (hg:PG X tg g) (hs:swapsWithSole [tg] e pos.line X.env=pure false:=by rfl) (hw:swappedStores [tg] e X.env=pure none:=by rfl)
  (h1:(assignEach [tg] X.env).map (·.2)=[assign tg X.env]:=by rfl):PS X (.Assign [tg] e pos) (tAsg te g):=by
 intro pins s σ H D I h
 refine wpAny_Assign_stores (thn (he pins s σ H _ I h) fun v s1 ⟨x,H1,I1,r1,q1⟩=>?_) hs hw
 rw [h1]
 exact thn (hg pins s1 σ H1 x v _ I1 r1 q1) fun _ s2 q=>q
theorem ps_set {i:Nat} {x:Str} {e:Expr} {te:TE} {pos':Pos} (hN:X.N.Nodup) (hi:X.N[i]?=some x) (hx:Loc X.env.scope x) (he:PE X e te) (hs:swapsWith e (some (.Name x pos')) pos.line X.env=pure false:=by rfl) (hf:X.fn x=true∨X.env.scope.names.lookup x=some .local:=by first|exact .inl rfl|exact .inr rfl|assumption) :
  PS X (.Assign [.Name x pos'] e pos) (tAsg te (gName i)):=by
 intro pins s σ H D I h
 refine wpAny_Assign_Name (thn (he pins s σ H _ I h) fun v s1 ⟨y,H1,I1,r1,q1⟩=>?_) hs
 exact store_ok I1 hN hi hx r1 (fun s2 I2=>⟨_,H1,I2,q1⟩) hf
def tAug (i:Nat) (te:TE) (ti:TIp):TS:=fun D σ H=>∃ x,σ[i]?=some (some x)∧te σ H fun y H1=>ti x y H1 fun z H2=>D.nx (σ.set i (some z)) H2
theorem ps_aug {i:Nat} {x:Str} {e:Expr} {te:TE} {op:Operator} {ti:TIp} {pos':Pos} (hN:X.N.Nodup) (hi:X.N[i]?=some x) (hx:Loc X.env.scope x) (he:PE X e te) (ho:PIp X op ti) (hf:X.fn x=true∨X.env.scope.names.lookup x=some .local:=by first|exact .inl rfl|exact .inr rfl|assumption) :
  PS X (.AugAssign (.Name x pos') op e pos) (tAug i te ti):=by
 intro pins s σ H D I h
 obtain ⟨v,e1,h⟩:=h
 obtain ⟨m,hn,hl⟩:=I.loc
 have vis:Vis X.env.scope x:=by rcases hx with k|k; exact .inl k; exact .inr (.inl k)
 obtain ⟨u,r,l⟩:=hl i x v hi e1 vis
 refine wpAny_AugAssign_Name ?_
 have go:wpAny (model X.prog X.w) X.A (eval e X.env) (fun w s₂=>wpAny (model X.prog X.w) X.A (inplaceOp op u w) (fun r s₃=>wpAny (model X.prog X.w) X.A (storeName X.env x r) (fun _=>SP X pins D .next) X.xe s₃) X.xe s₂) X.xe s:=by
  refine thn (he pins s σ H _ I h) fun w s1 ⟨y,H1,I1,r1,q1⟩=>?_
  refine thn (ho pins s1 σ H1 v y u w _ I1 r r1 q1) fun z s2 ⟨zv,H2,I2,r2,q2⟩=>?_
  exact store_ok I2 hN hi hx r2 (fun s3 I3=>⟨_,H2,I3,q2⟩) hf
 rcases l with ⟨hk,hm⟩|⟨hk,c,hc,hcell⟩
 ·exact wpAny_loadName_local I.ok.kind hk hn hm go
 ·rcases hk with hk|hk
  ·exact wpAny_loadName_cell I.ok.kind hk hc hcell go
  ·rcases hx with k|k
   ·have:X.env.scope.names.lookup x=some .free:=hk
    rw [k] at this; cases this
   ·have:X.env.scope.names.lookup x=some .free:=hk
    rw [k] at this; cases this
def ipI (f:Int→Int→Int):TIp:=fun x y H Q=>∃ i j,x = .int i∧y = .int j∧Q (.int (f i j)) H
theorem ip_add:PIp X .Add (ipI fun i j=>i+j):=by
 intro pins s σ H x y v u Q I r1 r2 h
 obtain ⟨i,j,e1,e2,q⟩:=h
 subst e1; subst e2
 obtain ⟨t,rfl⟩:=r1
 obtain ⟨t',rfl⟩:=r2
 exact iadd_int ⟨.int _,H,I.tok _,⟨_,rfl⟩,q⟩
end
section
variable {X:Cx} {pos:Pos}
end
structure It where
 go:Nat→Hp→Prop
 yld:Nat→Hp→V→Hp→Prop
 stop:Nat→Hp→Prop
def FpOk (X:Cx) (pins:List (Addr×Obj)) (H:Hp) (b:Addr):Prop :=
 H b=none∧b≠X.env.locals∧b∉X.fs∧(b∈X.ex∨X.s₀.heap.objs.size≤b)∧(∀ x c,X.env.cells.lookup x=some c→c≠b)∧∀ p∈X.pn++pins,p.1≠b
theorem Inv.fpOk {X:Cx} {pins:List (Addr×Obj)} {σ:St} {H H':Hp} {s:Shared} {b:Addr} (I:Inv X pins σ H s) (hb:s.heap.objs.size≤b) (hn:H' b=none):FpOk X pins H' b:=by
 refine ⟨hn,Nat.ne_of_gt (Nat.lt_of_lt_of_le I.lt hb),I.nofs hb,.inr (Nat.le_trans I.sz hb),fun x c e z=>?_,fun p hp z=>?_⟩
 ·obtain ⟨v,q⟩:=I.cell x c e
  exact absurd (Nat.lt_of_lt_of_le q.lt (by rw [z]; exact hb)) (Nat.lt_irrefl _)
 ·exact absurd (Nat.lt_of_lt_of_le (Heap.lt_size (I.pin p hp).1) (by rw [z]; exact hb)) (Nat.lt_irrefl _)
structure Turn (c:Bool) (P:Program) (w:World) (K:PySem.W.Frag) (tg:Expr) (J:It) (fp:List Addr) (it:Addr) (tn:Nat→Heap→Prop):Prop where
 mem:it∈fp
 obj:∀ i h,tn i h→∀ b∈fp,∃ o,h.get? b=some o∧∀ v,o.data≠.cell v
 keep:∀ i h h',tn i h→(∀ b∈fp,∀ o,h.get? b=some o→h'.get? b=some o)→tn i h'
 item:∀ (X:Cx),X.prog=P→X.w=w→X.K=K→(c=true→X.calm=true)→∀ (i:Nat) (pins:List (Addr×Obj)) (s:Shared) (σ:St) (H:Hp) (E:Value→Shared→Prop),Inv X pins σ H s→(∀ b∈fp,FpOk X pins H b)→tn i s.heap→J.go i H →
  wpAny (model P w) X.A (pyNext (.ref it)) (fun r s1=>∃ u,r=some u ∧
   wpAny (model P w) X.A (letOwnedTupleGo tg (.ref it) u) (fun _ s2=>∃ x H',Inv X pins σ H' s2∧RelV x u∧J.yld i H x H'∧tn (i+1) s2.heap∧∀ b∈fp,H' b=none) E s1) E s
 done:∀ (X:Cx),X.prog=P→X.w=w→X.K=K→(c=true→X.calm=true)→∀ (i:Nat) (pins:List (Addr×Obj)) (s:Shared) (σ:St) (H:Hp) (E:Value→Shared→Prop),Inv X pins σ H s→(∀ b∈fp,FpOk X pins H b)→tn i s.heap→J.stop i H →
  wpAny (model P w) X.A (pyNext (.ref it)) (fun r s1=>r=none∧Inv X pins σ H s1) E s
 self:∀ (A:Around) (i:Nat) (s:Shared) (Q:Value→Shared→Prop) (E:Value→Shared→Prop),tn i s.heap→Q (.ref it) s→wpAny (model P w) A (pyIter (.ref it)) Q E s
abbrev TI:=St→Hp→(It→Hp→Prop)→Prop
def PIE (c:Bool) (X:Cx) (pins:List (Addr×Obj)) (σ:St) (tg:Expr) (R:It→Hp→Prop) (itv:Value) (s2:Shared):Prop :=
 ∃ (it:Addr) (fp:List Addr) (tn:Nat→Heap→Prop) (J:It) (H':Hp),itv = .ref it∧Inv X pins σ H' s2∧Turn c X.prog X.w X.K tg J fp it tn∧tn 0 s2.heap∧(∀ b∈fp,FpOk X pins H' b)∧R J H'
def PIc (c:Bool) (X:Cx) (tg iter:Expr) (wi:TI):Prop :=
 ∀ (pins:List (Addr×Obj)) (s:Shared) (σ:St) (H:Hp) (R:It→Hp→Prop),Inv X pins σ H s→wi σ H R →
  wpAny (model X.prog X.w) X.A (eval iter X.env) (fun v s1=>wpAny (model X.prog X.w) X.A (pyIter v) (PIE c X pins σ tg R) X.xe s1) X.xe s
abbrev PI:=PIc true
theorem go_of {M:Model} {A:Around} {E:Value→Shared→Prop} {s:Shared} {tg:Expr} {it:Addr} {u:Value} {o:Obj} {n:String} {vs:Array Value} {Q:Unit→Shared→Prop} (ho:s.heap.get? it=some o) (hc:o.cls = .type n) (hd:o.data = .fields vs)
  (hn:["enumerate","zip","dict_itemiterator","dict_reverseitemiterator","odict_iterator","itertools.zip_longest","itertools.pairwise"].contains n=false) (hQ:Q () s):wpAny M A (letOwnedTupleGo tg (.ref it) u) Q E s:=by
 unfold letOwnedTupleGo
 cases tg <;> first
  | exact wpAny_pure hQ
  | (cases u <;> first
    | exact wpAny_pure hQ
    | (refine wpAny_bind (wpAny_load ho ?_)
       rw [hc, hd]
       show wpAny M A (if (["enumerate", "zip", "dict_itemiterator", "dict_reverseitemiterator", "odict_iterator", "itertools.zip_longest", "itertools.pairwise"].contains n && vs[0]? == some (rawInt _)) = true then _ else _) Q E s
       rw [if_neg (by intro h; rw [hn, Bool.false_and] at h; cases h)]
       exact wpAny_pure hQ))
def Itl (K:PySem.W.Frag) (a:Addr):It :=
 ⟨fun i H=>∃ xs x,SqL K H a xs∧xs[i]?=some x,fun i H x H'=>H'=H∧∀ xs,SqL K H a xs→xs[i]?=some x,fun i H=>∃ xs,SqL K H a xs∧xs.length≤i⟩
def Itt (K:PySem.W.Frag) (a:Addr):It :=
 ⟨fun i H=>∃ xs x,SqT K H a xs∧xs[i]?=some x,fun i H x H'=>H'=H∧∀ xs,SqT K H a xs→xs[i]?=some x,fun i H=>∃ xs,SqT K H a xs∧xs.length≤i⟩
def Itr (lo:Int) (n:Nat):It:=⟨fun i _=>i<n,fun i H x H'=>H'=H∧x = .int (lo+i),fun i _=>n≤i⟩
theorem turn_list {P:Program} {w:World} {K:PySem.W.Frag} {tg:Expr} (a it:Addr):Turn true P w K tg (Itl K a) [it] it (fun i h=>h.IsListIter it a i) where
 mem:=by simp
 obj:=fun i h st b hb=>by
  have e:b=it:=by simpa using hb
  subst e
  obtain ⟨o,e,c,d⟩:=st
  exact ⟨o,e,fun v z=>by rw [d] at z; cases z⟩
 keep:=fun i h h' st k=>st.at fun o e=>k it (by simp) o e
 item:=by
  intro X hP hw hK hc i pins s σ H E I hf st hg
  subst hP hw hK
  obtain ⟨xs,x,hq,hx⟩:=hg
  obtain ⟨its,rv,p,hz⟩:=I.list hq
  obtain ⟨u,hu,ru⟩:=rv.get hx
  obtain ⟨f0,f1,f2,f3,f4,f5⟩:=hf it (by simp)
  refine wpAny_pyNext_list_item st p.isList (x:=u) (by simpa using hu) fun h' st' sb=>?_
  have I1:Inv X pins σ H { s with heap:=h' }:=I.turned (t':=s.toks) (fun b o hb e=>(sb.2 b hb).trans e) f0 f1 f3 f4 f5
  obtain ⟨o,e,c,d⟩:=id st'
  exact ⟨u,rfl,go_of (s:={ s with heap:=h' }) e c d (by decide) ⟨x,H,I1,ru,⟨rfl,fun ys hy=>by rw [I.list_inj hy hq]; exact hx⟩,st',fun b hb=>(hf b hb).1⟩⟩
 done:=by
  intro X hP hw hK hc i pins s σ H E I hf st hg
  subst hP hw hK
  obtain ⟨xs,hq,hx⟩:=hg
  obtain ⟨its,rv,p,hz⟩:=I.list hq
  obtain ⟨f0,f1,f2,f3,f4,f5⟩:=hf it (by simp)
  have hl:=rv.length
  exact wpAny_pyNext_list_end (I.ok.hd (hc rfl)) st p.isList (by simp; omega) fun h' eb=>⟨rfl,I.turned (t':=s.toks) (fun b o hb e=>eb b o hb e) f0 f1 f3 f4 f5⟩
 self:=fun _ _ _ _ _ st h=>wpAny_pyIter_listiter st h
theorem turn_tuple {P:Program} {w:World} {K:PySem.W.Frag} {tg:Expr} (a it:Addr):Turn true P w K tg (Itt K a) [it] it (fun i h=>h.IsTupleIter it a i) where
 mem:=by simp
 obj:=fun i h st b hb=>by
  have e:b=it:=by simpa using hb
  subst e
  obtain ⟨o,e,c,d⟩:=st
  exact ⟨o,e,fun v z=>by rw [d] at z; cases z⟩
 keep:=fun i h h' st k=>st.at fun o e=>k it (by simp) o e
 item:=by
  intro X hP hw hK hc i pins s σ H E I hf st hg
  subst hP hw hK
  obtain ⟨xs,x,hq,hx⟩:=hg
  obtain ⟨its,rv,p,hz⟩:=I.tuple hq
  obtain ⟨u,hu,ru⟩:=rv.get hx
  obtain ⟨f0,f1,f2,f3,f4,f5⟩:=hf it (by simp)
  refine wpAny_pyNext_tuple_item st (show s.heap.IsTuple a its.toArray from p) (x:=u) (by simpa using hu) fun h' st' sb=>?_
  have I1:Inv X pins σ H { s with heap:=h' }:=I.turned (t':=s.toks) (fun b o hb e=>(sb.2 b hb).trans e) f0 f1 f3 f4 f5
  obtain ⟨o,e,c,d⟩:=id st'
  exact ⟨u,rfl,go_of (s:={ s with heap:=h' }) e c d (by decide) ⟨x,H,I1,ru,⟨rfl,fun ys hy=>by rw [I.tuple_inj hy hq]; exact hx⟩,st',fun b hb=>(hf b hb).1⟩⟩
 done:=by
  intro X hP hw hK hc i pins s σ H E I hf st hg
  subst hP hw hK
  obtain ⟨xs,hq,hx⟩:=hg
  obtain ⟨its,rv,p,hz⟩:=I.tuple hq
  obtain ⟨f0,f1,f2,f3,f4,f5⟩:=hf it (by simp)
  have hl:=rv.length
  exact wpAny_pyNext_tuple_end (I.ok.hd (hc rfl)) st (show s.heap.IsTuple a its.toArray from p) (by simp; omega) fun h' eb=>⟨rfl,I.turned (t':=s.toks) (fun b o hb e=>eb b o hb e) f0 f1 f3 f4 f5⟩
 self:=fun _ _ _ _ _ st h=>wpAny_pyIter_tupleiter st h
theorem turn_range {P:Program} {w:World} {K:PySem.W.Frag} {tg:Expr} (it:Addr) (lo:Int) (n:Nat):Turn true P w K tg (Itr lo n) [it] it (fun i h=>IsRangeIter h it (lo+(i:Nat)*1) ((n:Int) - (i:Nat)) 1) where
 mem:=by simp
 obj:=fun i h st b hb=>by
  have e:b=it:=by simpa using hb
  subst e
  exact ⟨_,st,fun v z=>by
   have z':Data.fields _=Data.cell v:=z
   cases z'⟩
 keep:=fun i h h' st k=>k it (by simp) _ st
 item:=by
  intro X hP hw hK hc i pins s σ H E I hf st hg
  subst hP hw hK
  obtain ⟨f0,f1,f2,f3,f4,f5⟩:=hf it (by simp)
  have W:=Walks.range (prog:=X.prog) (w:=X.w) (I.ok.hd (hc rfl)) it lo 1 n
  refine W.item i s _ _ hg st fun v h' tk hv st' kk=>?_
  obtain ⟨t,rfl⟩:=hv
  have I1:Inv X pins σ H { s with heap:=h',toks:=tk }:=I.turned (fun b o hb e=>kk b o (by simpa using hb) e) f0 f1 f3 f4 f5
  refine ⟨_,rfl,go_of (s:={ s with heap:=h',toks:=tk }) (n:="range_iterator") st' rfl rfl (by decide) ⟨.int (lo+i),H,I1,⟨t,?_⟩,⟨rfl,rfl⟩,st',fun b hb=>(hf b hb).1⟩⟩
  rw [Int.mul_one]
 done:=by
  intro X hP hw hK hc i pins s σ H E I hf st hg
  subst hP hw hK
  obtain ⟨f0,f1,f2,f3,f4,f5⟩:=hf it (by simp)
  exact wpAny_pyNext_range_end (I.ok.hd (hc rfl)) st (by have:n≤i:=hg; omega) fun h' eb=>⟨rfl,I.turned (t':=s.toks) (fun b o hb e=>eb b o hb e) f0 f1 f3 f4 f5⟩
 self:=fun _ _ _ _ _ st h=>wpAny_pyIter_rangeiter st h
end L2
namespace L2
open PySem PySem.Spec PyProof.Rows
section
variable {X:Cx} {tg:Expr}
def iList (K:PySem.W.Frag) (tl:TE):TI:=fun σ H R=>tl σ H fun x H1=>∃ a,x = .ref a∧(∃ xs,SqL K H1 a xs)∧R (Itl K a) H1
def iTup (K:PySem.W.Frag) (tl:TE):TI:=fun σ H R=>tl σ H fun x H1=>∃ a,x = .ref a∧(∃ xs,SqT K H1 a xs)∧R (Itt K a) H1
theorem pi_list {l:Expr} {tl:TE} (hl:PE X l tl):PI X tg l (iList X.K tl):=by
 intro pins s σ H R I h
 refine thn (hl pins s σ H _ I h) fun v s1 ⟨x,H1,I1,r1,q1⟩=>?_
 obtain ⟨a,e,⟨xs,hq⟩,q⟩:=q1
 subst e
 cases r1
 obtain ⟨its,rv,p,hz⟩:=I1.list hq
 refine wpAny_pyIter_list p.isList ?_
 refine ⟨s1.heap.objs.size,[s1.heap.objs.size],_,_,H1,rfl,I1.kept (t':=s1.toks) fun b o e=>Heap.get?_push_of_some _ e,turn_list a _,⟨_,Heap.get?_push_size _ rfl,rfl,rfl⟩,fun b hb=>?_,q⟩
 have e:b=s1.heap.objs.size:=by simpa using hb
 subst e
 exact I1.fpOk (Nat.le_refl _) (I1.hok.fresh (Nat.le_refl _))
theorem range_it {pins:List (Addr×Obj)} {σ:St} {H:Hp} {s:Shared} {R:It→Hp→Prop} {E:Value→Shared→Prop} {lo hi:Int} {t u v:Tok} {tk:Nat} (I:Inv X pins σ H s) (h1 : -(2 ^ 62)≤lo) (h2:lo<2 ^ 62) (h3 : -(2 ^ 62)≤hi) (h4:hi<2 ^ 62)
  (q:R (Itr lo (hi - lo).toNat) H):wpAny (model X.prog X.w) X.A (pyIter (.ref s.heap.objs.size)) (PIE true X pins σ tg R) E { s with heap:=s.heap.push { cls:=.type "range",data:=.fields #[.int lo t,.int hi u,.int 1 v] },toks:=tk }:=by
 refine wpAny_pyIter_range (IsRange.new ..) (small_one h1 h2 h3 h4) ?_
 have I1:Inv X pins σ H { s with heap:=s.heap.push { cls:=.type "range",data:=.fields #[.int lo t,.int hi u,.int 1 v] },toks:=tk }:=I.kept fun b o e=>Heap.get?_push_of_some _ e
 refine ⟨(s.heap.push { cls:=.type "range",data:=.fields #[.int lo t,.int hi u,.int 1 v] }).objs.size,[(s.heap.push { cls:=.type "range",data:=.fields #[.int lo t,.int hi u,.int 1 v] }).objs.size],_,_,H,rfl,
  I1.kept (t':=tk) fun b o e=>Heap.get?_push_of_some _ e,turn_range _ lo (hi - lo).toNat,?_,fun b hb=>?_,q⟩
 ·have e1:lo+((0:Nat):Int)*1=lo:=by simp
  have e2:(((hi - lo).toNat:Nat):Int) - ((0:Nat):Int)=Builtin.Range.rangeSize lo hi 1:=by rw [rangeSize_one]; split <;> omega
  show IsRangeIter _ _ (lo+((0:Nat):Int)*1) ((((hi - lo).toNat:Nat):Int) - ((0:Nat):Int)) 1
  rw [e1,e2]
  exact Heap.get?_push_size _ rfl
 ·have e:b=(s.heap.push { cls:=.type "range",data:=.fields #[.int lo t,.int hi u,.int 1 v] }).objs.size:=by simpa using hb
  subst e
  exact I1.fpOk (Nat.le_refl _) (I1.hok.fresh (Nat.le_refl _))
def iRng1 (ta:TA):TI:=fun σ H R=>ta σ H fun vs H1=>∃ j:Int,vs=[.int j]∧-(2 ^ 62)≤j∧j<2 ^ 62∧R (Itr 0 j.toNat) H1
def iRng2 (ta:TA):TI:=fun σ H R=>ta σ H fun vs H1=>∃ i j:Int,vs=[.int i,.int j]∧(-(2 ^ 62)≤i∧i<2 ^ 62∧-(2 ^ 62)≤j∧j<2 ^ 62)∧R (Itr i (j - i).toNat) H1
theorem pi_range1 {a:Expr} {ta:TA} {p pos:Pos} (hg:Gl X "range") (hm:X.mg "range" = none) (ha:PA X [a] ta) (hs:starEach [a] X.env=[(false,eval a X.env)]:=by rfl):PI X tg (.Call (.Name "range" p) [a] [] pos) (iRng1 ta):=by
 intro pins s σ H R I h
 refine Call_ (ld_blt I hg hm boot_range (PyProof.Rows.callWith_type1 (thn (ha pos pins s σ H _ I h) fun us s1 ⟨vs,H1,I1,r1,q1⟩=>?_) hs rfl))
 obtain ⟨j,e,q1,q2,q⟩:=q1
 subst e
 cases r1 with
 | cons r rr =>
  cases rr
  obtain ⟨t,rfl⟩:=r
  exact call_range_1 (range_it I1 (by omega) (by omega) q1 q2 (by simpa using q))
def tFor (wi:TI) (g:TG) (tb:TS):TS:=fun D σ H=>wi σ H fun J H1=>∃ W:Nat→Nat→St→Hp→Prop,(∃ m,W 0 m σ H1)∧∀ i m σ H,W i m σ H →
 (J.stop i H∧D.nx σ H)∨(J.go i H∧∃ N:St→Hp→Prop,(∀ σ' H',N σ' H'→∃ m',m'<m∧W (i+1) m' σ' H')∧∀ x H',J.yld i H x H'→g x σ H' fun σ2 H2=>tb { D with nx:=N,ct:=N,bk:=D.nx } σ2 H2)
def pinsAt (fp:List Addr) (h:Heap):List (Addr×Obj):=fp.filterMap fun b=>(h.get? b).map fun o=>(b,o)
theorem mem_pinsAt {fp:List Addr} {h:Heap} {b:Addr} {o:Obj} (hb:b∈fp) (e:h.get? b=some o):(b,o)∈pinsAt fp h:=List.mem_filterMap.mpr ⟨b,hb,by rw [e]; rfl⟩
theorem of_pinsAt {fp:List Addr} {h:Heap} {p:Addr×Obj} (hp:p∈pinsAt fp h):p.1∈fp∧h.get? p.1=some p.2:=by
 obtain ⟨b,hb,e⟩:=List.mem_filterMap.mp hp
 cases q:h.get? b with
 | none=>rw [q] at e; cases e
 | some o =>
  rw [q] at e
  have e':(b,o)=p:=Option.some.inj e
  subst e'
  exact ⟨hb,q⟩
theorem Inv.pinned {pins:List (Addr×Obj)} {σ:St} {H:Hp} {s:Shared} {fp:List Addr} (I:Inv X pins σ H s) (hf:∀ b∈fp,FpOk X pins H b) (ho:∀ b∈fp,∃ o,s.heap.get? b=some o∧∀ v,o.data≠.cell v):Inv X (pins++pinsAt fp s.heap) σ H s :=
 I.pins_of fun p hp=>(List.mem_append.mp hp).elim (fun z=>I.pin p (List.mem_append_right _ z)) fun z=>by
  obtain ⟨hb,e⟩:=of_pinsAt z
  obtain ⟨f0,f1,f2,_⟩:=hf p.1 hb
  obtain ⟨o,e',d⟩:=ho p.1 hb
  rw [e] at e'; cases e'
  exact ⟨e,f0,f1,f2,d⟩
theorem Inv.unpinned {pins pl:List (Addr×Obj)} {σ:St} {H:Hp} {s:Shared} (I:Inv X (pins++pl) σ H s):Inv X pins σ H s:=I.pins_of fun p hp=>I.pin p (List.mem_append_right _ (List.mem_append_left _ hp))
theorem ps_for {c:Bool} {iter:Expr} {body:List Stmt} {wi:TI} {g:TG} {tb:TS} {pos:Pos} (hp:PassesOwn (model X.prog X.w) X.A X.env X.xe) (hc:c=true→X.calm=true) (hi:PIc c X tg iter wi) (hg:PG X tg g) (hb:PSs X body tb)
  (hs:∀ x,foldedSetIterable iter X.env x=pure x:=by intro _; rfl):PS X (.For tg iter body [] pos) (tFor wi g tb):=by
 intro pins s σ H D I h
 refine wpAny_For (thn (hi pins s σ H _ I h) fun v s1 h1=>thn h1 fun itv s2 h2=>?_) hs
 obtain ⟨it,fp,tn,J,H2,e,I2,T,st2,f2,W,⟨m0,w0⟩,turn⟩:=h2
 subst e
 have stat:∀ {H':Hp},(∀ b∈fp,H' b=none)→∀ b∈fp,FpOk X pins H' b:=fun hn b hb=>⟨hn b hb,(f2 b hb).2⟩
 refine codeAny_forLoop_any (fun n s'=>∃ i σ' H',Inv X pins σ' H' s'∧tn i s'.heap∧(∀ b∈fp,H' b=none)∧W i n σ' H') ?_ m0 ⟨0,σ,H2,I2,st2,fun b hb=>(f2 b hb).1,w0⟩
 rintro n s3 ⟨i,σ3,H3,I3,st3,fr3,w3⟩
 rcases turn i n σ3 H3 w3 with ⟨stop,qn⟩|⟨go,N,hN,step⟩
 ·refine wpAny_passesOwn hp (thn (T.done X rfl rfl rfl hc i pins s3 σ3 H3 X.xe I3 (stat fr3) st3 stop) fun r s4 ⟨hr,I4⟩=>?_)
  subst hr
  exact wpAny_execs_nil ⟨σ3,H3,I4,qn⟩
 ·refine wpAny_passesOwn hp (thn (T.item X rfl rfl rfl hc i pins s3 σ3 H3 X.xe I3 (stat fr3) st3 go) fun r s4 ⟨u,hr,h4⟩=>?_)
  subst hr
  refine wpAny_passesOwn hp (thn h4 fun _ s5 ⟨x,H5,I5,r5,y5,st5,fr5⟩=>?_)
  have I5':=I5.pinned (stat fr5) (T.obj _ _ st5)
  refine wpAny_passesOwn hp (thn (hg _ s5 σ3 H5 x u _ I5' r5 (step x H5 y5)) fun _ s6 ⟨σ6,H6,I6,q6⟩=>?_)
  refine wpAny_passesOwn hp (thn (hb _ s6 σ6 H6 _ I6 q6) fun f s7 q7=>?_)
  have again:∀ {σ7:St} {H7:Hp},Inv X (pins++pinsAt fp s5.heap) σ7 H7 s7→N σ7 H7→∃ m,m<n∧∃ i σ' H',Inv X pins σ' H' s7∧tn i s7.heap∧(∀ b∈fp,H' b=none)∧W i m σ' H':=fun {σ7 H7} I7 n7=>by
   obtain ⟨m',hm,w7⟩:=hN σ7 H7 n7
   refine ⟨m',hm,i+1,σ7,H7,I7.unpinned,T.keep _ _ _ st5 fun b hb o e=>(I7.pin (b,o) (List.mem_append_right _ (List.mem_append_right _ (mem_pinsAt hb e)))).1,fun b hb=>?_,w7⟩
   obtain ⟨o,e,d⟩:=T.obj _ _ st5 b hb
   exact (I7.pin (b,o) (List.mem_append_right _ (List.mem_append_right _ (mem_pinsAt hb e)))).2.1
  cases f with
  | next=>obtain ⟨σ7,H7,I7,n7⟩:=q7; exact again I7 n7
  | cont=>obtain ⟨σ7,H7,I7,n7⟩:=q7; exact again I7 n7
  | brk=>obtain ⟨σ7,H7,I7,q7⟩:=q7; exact ⟨σ7,H7,I7.unpinned,q7⟩
  | ret v=>obtain ⟨x7,σ7,H7,I7,r7,q7⟩:=q7; exact ⟨x7,σ7,H7,I7.unpinned,r7,q7⟩
end
theorem for_list {K:PySem.W.Frag} {a:Addr} {xs:List V} {g:TG} {tb:TS} {D:Ends} {σ:St} {H:Hp} (Pv:Nat→St→Hp→Prop) (h0:Pv 0 σ H) (hl:∀ i σ H,i≤xs.length→Pv i σ H→SqL K H a xs)
  (hs:∀ i x σ H,xs[i]?=some x→Pv i σ H→g x σ H fun σ2 H2=>tb { D with nx:=Pv (i+1),ct:=Pv (i+1),bk:=D.nx } σ2 H2) (hd:∀ σ H,Pv xs.length σ H→D.nx σ H) :
  ∃ W:Nat→Nat→St→Hp→Prop,(∃ m,W 0 m σ H)∧∀ i m σ H,W i m σ H →
   ((Itl K a).stop i H∧D.nx σ H)∨((Itl K a).go i H∧∃ N:St→Hp→Prop,(∀ σ' H',N σ' H'→∃ m',m'<m∧W (i+1) m' σ' H')∧∀ x H',(Itl K a).yld i H x H'→g x σ H' fun σ2 H2=>tb { D with nx:=N,ct:=N,bk:=D.nx } σ2 H2):=by
 refine ⟨fun i m σ H=>m=xs.length - i∧i≤xs.length∧Pv i σ H,⟨xs.length,by simp,Nat.zero_le _,h0⟩,?_⟩
 rintro i m σ H ⟨rfl,hi,p⟩
 have q:=hl i σ H hi p
 by_cases hlt:i<xs.length
 ·refine .inr ⟨⟨xs,xs[i],q,by simp [hlt]⟩,Pv (i+1),fun σ' H' p'=>⟨xs.length - (i+1),by omega,rfl,hlt,p'⟩,fun x H' y=>?_⟩
  obtain ⟨e,y⟩:=y
  subst e
  exact hs i x σ _ (y xs q) p
 ·have e:i=xs.length:=by omega
  subst e
  exact .inl ⟨⟨xs,q,Nat.le_refl _⟩,hd σ H p⟩
theorem for_tup {K:PySem.W.Frag} {a:Addr} {xs:List V} {g:TG} {tb:TS} {D:Ends} {σ:St} {H:Hp} (Pv:Nat→St→Hp→Prop) (h0:Pv 0 σ H) (hl:∀ i σ H,i≤xs.length→Pv i σ H→SqT K H a xs)
  (hs:∀ i x σ H,xs[i]?=some x→Pv i σ H→g x σ H fun σ2 H2=>tb { D with nx:=Pv (i+1),ct:=Pv (i+1),bk:=D.nx } σ2 H2) (hd:∀ σ H,Pv xs.length σ H→D.nx σ H) :
  ∃ W:Nat→Nat→St→Hp→Prop,(∃ m,W 0 m σ H)∧∀ i m σ H,W i m σ H →
   ((Itt K a).stop i H∧D.nx σ H)∨((Itt K a).go i H∧∃ N:St→Hp→Prop,(∀ σ' H',N σ' H'→∃ m',m'<m∧W (i+1) m' σ' H')∧∀ x H',(Itt K a).yld i H x H'→g x σ H' fun σ2 H2=>tb { D with nx:=N,ct:=N,bk:=D.nx } σ2 H2):=by
 refine ⟨fun i m σ H=>m=xs.length - i∧i≤xs.length∧Pv i σ H,⟨xs.length,by simp,Nat.zero_le _,h0⟩,?_⟩
 rintro i m σ H ⟨rfl,hi,p⟩
 have q:=hl i σ H hi p
 by_cases hlt:i<xs.length
 ·refine .inr ⟨⟨xs,xs[i],q,by simp [hlt]⟩,Pv (i+1),fun σ' H' p'=>⟨xs.length - (i+1),by omega,rfl,hlt,p'⟩,fun x H' y=>?_⟩
  obtain ⟨e,y⟩:=y
  subst e
  exact hs i x σ _ (y xs q) p
 ·have e:i=xs.length:=by omega
  subst e
  exact .inl ⟨⟨xs,q,Nat.le_refl _⟩,hd σ H p⟩
theorem for_range {lo:Int} {n:Nat} {g:TG} {tb:TS} {D:Ends} {σ:St} {H:Hp} (Pv:Nat→St→Hp→Prop) (h0:Pv 0 σ H)
  (hs:∀ i σ H,i<n→Pv i σ H→g (.int (lo+i)) σ H fun σ2 H2=>tb { D with nx:=Pv (i+1),ct:=Pv (i+1),bk:=D.nx } σ2 H2) (hd:∀ σ H,Pv n σ H→D.nx σ H) :
  ∃ W:Nat→Nat→St→Hp→Prop,(∃ m,W 0 m σ H)∧∀ i m σ H,W i m σ H →
   ((Itr lo n).stop i H∧D.nx σ H)∨((Itr lo n).go i H∧∃ N:St→Hp→Prop,(∀ σ' H',N σ' H'→∃ m',m'<m∧W (i+1) m' σ' H')∧∀ x H',(Itr lo n).yld i H x H'→g x σ H' fun σ2 H2=>tb { D with nx:=N,ct:=N,bk:=D.nx } σ2 H2):=by
 refine ⟨fun i m σ H=>m=n - i∧i≤n∧Pv i σ H,⟨n,by simp,Nat.zero_le _,h0⟩,?_⟩
 rintro i m σ H ⟨rfl,hi,p⟩
 by_cases hlt:i<n
 ·refine .inr ⟨hlt,Pv (i+1),fun σ' H' p'=>⟨n - (i+1),by omega,rfl,hlt,p'⟩,fun x H' y=>?_⟩
  obtain ⟨e,y⟩:=y
  subst e y
  exact hs i σ _ hlt p
 ·have e:i=n:=by omega
  subst e
  exact .inl ⟨Nat.le_refl _,hd σ H p⟩
end L2
namespace L2
open PySem PySem.Spec PyProof.Rows
abbrev R2:=V→V→Hp→VK→Prop
def OpR (X:Cx) (f:Value→Value→Sem Value) (r:R2):Prop :=
 ∀ (pins:List (Addr×Obj)) (s:Shared) (σ:St) (H:Hp) (x y:V) (v u:Value) (Q:VK),Inv X pins σ H s→RelV x v→RelV y u→r x y H Q →
  wpAny (model X.prog X.w) X.A (f v u) (EP X pins σ Q) X.xe s
def UnR (X:Cx) (f:Value→Sem Value) (r:V→Hp→VK→Prop):Prop :=
 ∀ (pins:List (Addr×Obj)) (s:Shared) (σ:St) (H:Hp) (x:V) (v:Value) (Q:VK),Inv X pins σ H s→RelV x v→r x H Q →
  wpAny (model X.prog X.w) X.A (f v) (EP X pins σ Q) X.xe s
def CallR (X:Cx) (f:Value) (r:List V→Hp→VK→Prop):Prop :=
 ∀ (pins:List (Addr×Obj)) (s:Shared) (σ:St) (H:Hp) (xs:List V) (us:List Value) (Q:VK),Inv X pins σ H s→Vals xs us→r xs H Q →
  wpAny (model X.prog X.w) X.A (call f us) (EP X pins σ Q) X.xe s
def TruR (X:Cx) (r:V→Hp→(Bool→Hp→Prop)→Prop):Prop :=
 ∀ (pins:List (Addr×Obj)) (s:Shared) (σ:St) (H:Hp) (x:V) (v:Value) (Q:Bool→Hp→Prop),Inv X pins σ H s→RelV x v→r x H Q →
  wpAny (model X.prog X.w) X.A (truthy v) (TP X pins σ Q) X.xe s
def tOp (r:R2) (ta tb:TE):TE:=fun σ H Q=>ta σ H fun x H1=>tb σ H1 fun y H2=>r x y H2 Q
def tUn (r:V→Hp→VK→Prop) (ta:TE):TE:=fun σ H Q=>ta σ H fun x H1=>r x H1 Q
def rI (C:Int→Int→Prop) (g:Int→Int→V):R2:=fun x y H Q=>∃ i j,x = .int i∧y = .int j∧C i j∧Q (g i j) H
def rI0 (g:Int→Int→V):R2:=fun x y H Q=>∃ i j,x = .int i∧y = .int j∧Q (g i j) H
def rU (g:Int→V):V→Hp→VK→Prop:=fun x H Q=>∃ i,x = .int i∧Q (g i) H
section
variable {X:Cx} {a b c:Expr} {ta tb tc:TE} {pos:Pos}
theorem binT (ha:PE X a ta) (hb:PE X b tb) {pins:List (Addr×Obj)} {s:Shared} {σ:St} {H:Hp} {R:V→V→Hp→Prop} (I:Inv X pins σ H s)
  (h:ta σ H fun x H1=>tb σ H1 fun y H2=>R x y H2) {Q:Value→Shared→Prop} {f:Value→Value→Sem Value}
  (hf:∀ v u s2 x y H2,Inv X pins σ H2 s2→RelV x v→RelV y u→R x y H2→wpAny (model X.prog X.w) X.A (f v u) Q X.xe s2) :
  wpAny (model X.prog X.w) X.A (eval a X.env) (fun v s₁=>wpAny (model X.prog X.w) X.A (eval b X.env) (fun u s₂=>wpAny (model X.prog X.w) X.A (f v u) Q X.xe s₂) X.xe s₁) X.xe s:=by
 refine thn (ha pins s σ H _ I h) fun v s1 ⟨x,H1,I1,r1,q1⟩=>?_
 refine thn (hb pins s1 σ H1 _ I1 q1) fun u s2 ⟨y,H2,I2,r2,q2⟩=>?_
 exact hf v u s2 x y H2 I2 r1 r2 q2
theorem pe_op {op:Operator} {r:R2} (ho:OpR X (binaryOp op) r) (ha:PE X a ta) (hb:PE X b tb):PE X (.BinOp a op b pos) (tOp r ta tb):=by
 intro pins s σ H Q I h
 exact wpAny_BinOp (binT ha hb I h fun v u s2 x y H2 I2 rx ry q=>ho pins s2 σ H2 x y v u Q I2 rx ry q)
theorem pe_un {op:UnaryOp} {r:V→Hp→VK→Prop} (ho:UnR X (unaryOp op) r) (ha:PE X a ta):PE X (.UnaryOp op a pos) (tUn r ta):=by
 intro pins s σ H Q I h
 exact UnaryOp_ (thn (ha pins s σ H _ I h) fun v s1 ⟨x,H1,I1,r1,q1⟩=>ho pins s1 σ H1 x v Q I1 r1 q1)
theorem opI {f:Value→Value→Sem Value} {C:Int→Int→Prop} {g:Int→Int→Int}
  (rule:∀ (i j:Int) (t u:Tok) (s:Shared) (Q:Value→Shared→Prop) (E:Value→Shared→Prop),C i j→Q (.int (g i j) s.toks) { s with toks:=s.toks+1 }→wpAny (model X.prog X.w) X.A (f (.int i t) (.int j u)) Q E s) :
  OpR X f (rI C fun i j=>.int (g i j)):=by
 intro pins s σ H x y v u Q I rx ry h
 obtain ⟨i,j,rfl,rfl,hc,q⟩:=h
 obtain ⟨t,rfl⟩:=rx
 obtain ⟨t',rfl⟩:=ry
 exact rule i j t t' s _ _ hc ⟨.int (g i j),H,I.tok _,⟨_,rfl⟩,q⟩
theorem opI0 {f:Value→Value→Sem Value} {g:Int→Int→Int}
  (rule:∀ (i j:Int) (t u:Tok) (s:Shared) (Q:Value→Shared→Prop) (E:Value→Shared→Prop),Q (.int (g i j) s.toks) { s with toks:=s.toks+1 }→wpAny (model X.prog X.w) X.A (f (.int i t) (.int j u)) Q E s) :
  OpR X f (rI0 fun i j=>.int (g i j)):=by
 intro pins s σ H x y v u Q I rx ry h
 obtain ⟨i,j,rfl,rfl,q⟩:=h
 obtain ⟨t,rfl⟩:=rx
 obtain ⟨t',rfl⟩:=ry
 exact rule i j t t' s _ _ ⟨.int (g i j),H,I.tok _,⟨_,rfl⟩,q⟩
theorem opB0 {f:Value→Value→Sem Value} {g:Int→Int→Bool}
  (rule:∀ (i j:Int) (t u:Tok) (s:Shared) (Q:Value→Shared→Prop) (E:Value→Shared→Prop),Q (.bool (g i j)) s→wpAny (model X.prog X.w) X.A (f (.int i t) (.int j u)) Q E s) :
  OpR X f (rI0 fun i j=>.bl (g i j)):=by
 intro pins s σ H x y v u Q I rx ry h
 obtain ⟨i,j,rfl,rfl,q⟩:=h
 obtain ⟨t,rfl⟩:=rx
 obtain ⟨t',rfl⟩:=ry
 exact rule i j t t' s _ _ ⟨.bl (g i j),H,I,rfl,q⟩
def CDiv (i j:Int):Prop:=0<j∧j<1073741824
def CPow (i j:Int):Prop:=0≤j∧j≤1000000∧i.natAbs<2 ^ 64
def CMul (i j:Int):Prop:=(-(2 ^ 64)<i∧i<2 ^ 64)∨(-(2 ^ 64)<j∧j<2 ^ 64)
theorem CMul.ok {i j:Int} (h:CMul i j):IntMulOk i j:=by
 rcases h with ⟨h1,h2⟩|⟨h1,h2⟩
 ·exact .of_left (intBits_le_64 h1 h2)
 ·exact .of_right (intBits_le_64 h1 h2)
theorem op_add:OpR X (binaryOp .Add) (rI0 fun i j=>.int (i+j)):=opI0 fun _ _ _ _ _ _ _ q=>add_int q
theorem op_sub:OpR X (binaryOp .Sub) (rI0 fun i j=>.int (i - j)):=opI0 fun _ _ _ _ _ _ _ q=>sub_int q
theorem op_mul:OpR X (binaryOp .Mult) (rI CMul fun i j=>.int (i*j)):=opI fun _ _ _ _ _ _ _ hc q=>mul_int q hc.ok
theorem op_fdiv:OpR X (binaryOp .FloorDiv) (rI CDiv fun i j=>.int (i / j)):=opI fun i j _ _ _ _ _ hc q=>by
 have h1:(0:Int)<j:=hc.1
 have h2:j<1073741824:=hc.2
 exact floordiv_int (by omega) (by rw [Int.fdiv_eq_ediv_of_nonneg i (by omega)]; exact q) (.inl (PyProof.noPylong_small (by omega)))
theorem op_mod:OpR X (binaryOp .Mod) (rI (fun _ j=>0<j) fun i j=>.int (i % j)):=opI fun i j _ _ _ _ _ hc q=>by
 have h1:(0:Int)<j:=hc
 exact mod_int' (by omega) (by rw [Int.fmod_eq_emod_of_nonneg i (by omega)]; exact q)
theorem op_pow:OpR X (binaryOp .Pow) (rI CPow fun i j=>.int (i ^ j.toNat)):=opI fun _ _ _ _ _ _ _ hc q=>pow_int_small hc.1 hc.2.1 hc.2.2 q
theorem unI {f:Value→Sem Value} {g:Int→Int}
  (rule:∀ (i:Int) (t:Tok) (s:Shared) (Q:Value→Shared→Prop) (E:Value→Shared→Prop),Q (.int (g i) s.toks) { s with toks:=s.toks+1 }→wpAny (model X.prog X.w) X.A (f (.int i t)) Q E s) :
  UnR X f (rU fun i=>.int (g i)):=by
 intro pins s σ H x v Q I rx h
 obtain ⟨i,rfl,q⟩:=h
 obtain ⟨t,rfl⟩:=rx
 exact rule i t s _ _ ⟨.int (g i),H,I.tok _,⟨_,rfl⟩,q⟩
theorem un_neg:UnR X (unaryOp .USub) (rU fun i=>.int (-i)):=unI fun _ _ _ _ _ q=>neg_int q
end
def scal:V→V→Bool
 | .non,.non=>true | .non,.int _=>true | .int _,.non=>true | .non,.bl _=>true | .bl _,.non=>true | .non,.str _=>true | .str _,.non=>true
 | .int _,.int _=>true | .bl _,.bl _=>true | .str _,.str _=>true | .byt _,.byt _=>true
 | .int _,.str _=>true | .str _,.int _=>true | .bl _,.str _=>true | .str _,.bl _=>true
 | _,_=>false
def rEq:R2:=fun x y H Q=>scal x y=true∧Q (.bl (decide (x=y))) H
def rNe:R2:=fun x y H Q=>scal x y=true∧Q (.bl (!decide (x=y))) H
theorem dec_int {i j:Int}:decide (V.int i=V.int j)=(i == j):=by
 rw [Bool.eq_iff_iff]
 simp
theorem dec_bl {i j:Bool}:decide (V.bl i=V.bl j)=(i == j):=by
 rw [Bool.eq_iff_iff]
 simp
theorem dec_str {i j:Str}:decide (V.str i=V.str j)=(i == j):=by
 rw [Bool.eq_iff_iff]
 simp
theorem dec_byt {i j:Array UInt8}:decide (V.byt i=V.byt j)=(i.toList == j.toList):=by
 rw [Bool.eq_iff_iff]
 cases i
 cases j
 simp
section
variable {X:Cx} {a b c:Expr} {ta tb tc:TE} {pos:Pos}
theorem fin_bl {pins:List (Addr×Obj)} {σ:St} {H:Hp} {s:Shared} {Q:VK} {k k':Bool} (I:Inv X pins σ H s) (q:Q (.bl k) H) (e:k=k'):EP X pins σ Q (.bool k') s:=by
 subst e
 exact ⟨.bl k,H,I,rfl,q⟩
theorem op_eq:OpR X (compareOp .Eq) rEq:=by
 intro pins s σ H x y v u Q I rx ry h
 obtain ⟨hs,q⟩:=h
 cases x with
 | non =>
  cases rx
  cases y with
  | non=>cases ry; exact PySem.EqNone.eq_none_none (fin_bl I q (by simp))
  | bl j=>cases ry; exact PySem.EqNone.eq_none_bool (fin_bl I q (by simp))
  | int j=>obtain ⟨t',rfl⟩:=ry; exact PySem.EqNone.eq_none_int (fin_bl I q (by simp))
  | str j=>obtain ⟨t',rfl⟩:=ry; exact PySem.EqNone.eq_none_str (fin_bl I q (by simp))
  | _=>exact absurd (show false=true from hs) Bool.false_ne_true
 | bl i =>
  cases rx
  cases y with
  | non=>cases ry; exact PySem.EqNone.eq_bool_none (fin_bl I q (by simp))
  | bl j=>cases ry; exact eq_bool (fin_bl I q dec_bl)
  | str j=>obtain ⟨t',rfl⟩:=ry; exact PySem.EqMixed.eq_bool_str (fin_bl I q (by simp))
  | _=>exact absurd (show false=true from hs) Bool.false_ne_true
 | int i =>
  obtain ⟨t,rfl⟩:=rx
  cases y with
  | non=>cases ry; exact PySem.EqNone.eq_int_none (fin_bl I q (by simp))
  | int j=>obtain ⟨t',rfl⟩:=ry; exact eq_int (fin_bl I q dec_int)
  | str j=>obtain ⟨t',rfl⟩:=ry; exact PySem.EqMixed.eq_int_str (fin_bl I q (by simp))
  | _=>exact absurd (show false=true from hs) Bool.false_ne_true
 | str i =>
  obtain ⟨t,rfl⟩:=rx
  cases y with
  | non=>cases ry; exact PySem.EqNone.eq_str_none (fin_bl I q (by simp))
  | bl j=>cases ry; exact PySem.EqMixed.eq_str_bool (fin_bl I q (by simp))
  | int j=>obtain ⟨t',rfl⟩:=ry; exact PySem.EqMixed.eq_str_int (fin_bl I q (by simp))
  | str j=>obtain ⟨t',rfl⟩:=ry; exact eq_str (fin_bl I q dec_str)
  | _=>exact absurd (show false=true from hs) Bool.false_ne_true
 | byt i =>
  obtain ⟨t,rfl⟩:=rx
  cases y with
  | byt j=>obtain ⟨t',rfl⟩:=ry; exact PySem.W.eq_bytes (fin_bl I q dec_byt)
  | _=>exact absurd (show false=true from hs) Bool.false_ne_true
 | _=>cases y <;> exact absurd (show false=true from hs) Bool.false_ne_true
theorem op_ne:OpR X (compareOp .NotEq) rNe:=by
 intro pins s σ H x y v u Q I rx ry h
 obtain ⟨hs,q⟩:=h
 cases x with
 | non =>
  cases rx
  cases y with
  | non=>cases ry; exact PySem.EqNone.ne_none_none (fin_bl I q (by simp))
  | bl j=>cases ry; exact PySem.EqNone.ne_none_bool (fin_bl I q (by simp))
  | int j=>obtain ⟨t',rfl⟩:=ry; exact PySem.EqNone.ne_none_int (fin_bl I q (by simp))
  | str j=>obtain ⟨t',rfl⟩:=ry; exact PySem.EqNone.ne_none_str (fin_bl I q (by simp))
  | _=>exact absurd (show false=true from hs) Bool.false_ne_true
 | bl i =>
  cases rx
  cases y with
  | non=>cases ry; exact PySem.EqNone.ne_bool_none (fin_bl I q (by simp))
  | bl j=>cases ry; exact ne_bool (fin_bl I q (congrArg not dec_bl))
  | str j=>obtain ⟨t',rfl⟩:=ry; exact PySem.EqMixed.ne_bool_str (fin_bl I q (by simp))
  | _=>exact absurd (show false=true from hs) Bool.false_ne_true
 | int i =>
  obtain ⟨t,rfl⟩:=rx
  cases y with
  | non=>cases ry; exact PySem.EqNone.ne_int_none (fin_bl I q (by simp))
  | int j=>obtain ⟨t',rfl⟩:=ry; exact ne_int (fin_bl I q (congrArg not dec_int))
  | str j=>obtain ⟨t',rfl⟩:=ry; exact PySem.EqMixed.ne_int_str (fin_bl I q (by simp))
  | _=>exact absurd (show false=true from hs) Bool.false_ne_true
 | str i =>
  obtain ⟨t,rfl⟩:=rx
  cases y with
  | non=>cases ry; exact PySem.EqNone.ne_str_none (fin_bl I q (by simp))
  | bl j=>cases ry; exact PySem.EqMixed.ne_str_bool (fin_bl I q (by simp))
  | int j=>obtain ⟨t',rfl⟩:=ry; exact PySem.EqMixed.ne_str_int (fin_bl I q (by simp))
  | str j=>obtain ⟨t',rfl⟩:=ry; exact ne_str (fin_bl I q (congrArg not dec_str))
  | _=>exact absurd (show false=true from hs) Bool.false_ne_true
 | byt i =>
  obtain ⟨t,rfl⟩:=rx
  cases y with
  | byt j=>obtain ⟨t',rfl⟩:=ry; exact PySem.W.ne_bytes (fin_bl I q (congrArg not dec_byt))
  | _=>exact absurd (show false=true from hs) Bool.false_ne_true
 | _=>cases y <;> exact absurd (show false=true from hs) Bool.false_ne_true
theorem op_lt:OpR X (compareOp .Lt) (rI0 fun i j=>.bl (decide (i<j))):=opB0 fun _ _ _ _ _ _ _ q=>lt_int q
theorem op_le:OpR X (compareOp .LtE) (rI0 fun i j=>.bl (decide (i≤j))):=opB0 fun _ _ _ _ _ _ _ q=>le_int q
theorem op_gt:OpR X (compareOp .Gt) (rI0 fun i j=>.bl (decide (j<i))):=opB0 fun _ _ _ _ _ _ _ q=>gt_int q
theorem op_in_str:OpR X (compareOp .In) (fun x y H Q=>∃ i j,x = .str i∧y = .str j∧Q (.bl (!(Builtin.Str.occurrences j i 0 j.length 1).isEmpty)) H):=by
 intro pins s σ H x y v u Q I rx ry h
 obtain ⟨i,j,rfl,rfl,q⟩:=h
 obtain ⟨t,rfl⟩:=rx
 obtain ⟨t',rfl⟩:=ry
 exact in_str (fin_bl I q rfl)
theorem op_isN:OpR X (compareOp .Is) (fun x y H Q=>y = .non∧Q (.bl (decide (x = .non))) H):=by
 intro pins s σ H x y v u Q I rx ry h
 obtain ⟨rfl,q⟩:=h
 cases ry
 refine is_none_gen (fin_bl I q ?_)
 cases x <;> first
  | (cases rx; rfl)
  | (obtain ⟨t,rfl⟩:=rx; rfl)
theorem op_notN:OpR X (compareOp .IsNot) (fun x y H Q=>y = .non∧Q (.bl (!decide (x = .non))) H):=by
 intro pins s σ H x y v u Q I rx ry h
 obtain ⟨rfl,q⟩:=h
 cases ry
 refine isnot_none_gen (fin_bl I q ?_)
 cases x <;> first
  | (cases rx; rfl)
  | (obtain ⟨t,rfl⟩:=rx; rfl)
theorem OpR.or {f:Value→Value→Sem Value} {r r':R2} (h:OpR X f r) (h':OpR X f r'):OpR X f (fun x y H Q=>r x y H Q∨r' x y H Q):=by
 intro pins s σ H x y v u Q I rx ry q
 rcases q with q|q
 ·exact h pins s σ H x y v u Q I rx ry q
 ·exact h' pins s σ H x y v u Q I rx ry q
theorem nomark (b:Expr) {op:CmpOp} (h:op≠.In:=by decide) (h2:op≠.NotIn:=by decide):behindInMarks op b=false:=by
 have e1:(op == CmpOp.In)=false:=by cases op <;> first|rfl|exact absurd rfl h
 have e2:(op == CmpOp.NotIn)=false:=by cases op <;> first|rfl|exact absurd rfl h2
 cases b <;> simp [behindInMarks,e1,e2]
theorem pe_cmpR {op:CmpOp} {r:R2} (ho:OpR X (compareOp op) r) (ha:PE X a ta) (hb:PE X b tb) (hm:behindInMarks op b=false):PE X (.Compare a [op] [b] pos) (tOp r ta tb):=by
 intro pins s σ H Q I h
 exact wpAny_Compare1 (binT ha hb I h fun v u s2 x y H2 I2 rx ry q=>ho pins s2 σ H2 x y v u Q I2 rx ry q) hm
def tTest (t:TE):TT:=fun σ H Q=>t σ H fun x H'=>∃ k,x = .bl k∧Q k H'
theorem pt_cmpR {op:CmpOp} {r:R2} (ho:OpR X (compareOp op) r) (ha:PE X a ta) (hb:PE X b tb) (hm:behindInMarks op b=false):PT X (.Compare a [op] [b] pos) (tTest (tOp r ta tb)):=by
 intro pins s σ H Q I h
 refine wpAny_isTrue_Compare1 (thn (ha pins s σ H _ I h) fun v s1 ⟨x,H1,I1,r1,q1⟩=>thn (hb pins s1 σ H1 _ I1 q1) fun u s2 ⟨y,H2,I2,r2,q2⟩ =>
  thn (ho pins s2 σ H2 x y v u _ I2 r1 r2 q2) fun c s3 ⟨z,H3,I3,r3,k,e,q3⟩=>?_) hm
 subst e
 cases r3
 exact wpAny_truthy_bool ⟨H3,I3,q3⟩
def tChain (r r':R2) (ta tb tc:TE):TE:=fun σ H Q=>ta σ H fun x H1=>tb σ H1 fun y H2=>r x y H2 fun z H3=>∃ k,z = .bl k ∧
 (if k=true then tc σ H3 fun w' H4=>r' y w' H4 Q else Q (.bl false) H3)
theorem pe_chain {op op':CmpOp} {r r':R2} (ho:OpR X (compareOp op) r) (ho':OpR X (compareOp op') r') (ha:PE X a ta) (hb:PE X b tb) (hc:PE X c tc)
  (hm:lastMarks [op,op'] [b,c]=false:=by with_unfolding_all rfl):PE X (.Compare a [op,op'] [b,c] pos) (tChain r r' ta tb tc):=by
 intro pins s σ H Q I h
 refine Compare_chain (thn (ha pins s σ H _ I h) fun v s1 ⟨x,H1,I1,r1,q1⟩=>chain_link (thn (hb pins s1 σ H1 _ I1 q1) fun u s2 ⟨y,H2,I2,r2,q2⟩ =>
  thn (ho pins s2 σ H2 x y v u _ I2 r1 r2 q2) fun d s3 ⟨z,H3,I3,r3,k,e,q3⟩=>?_)) hm
 subst e
 cases r3
 refine wpAny_truthy_bool ?_
 cases k with
 | false=>exact ite_ff ⟨.bl false,H3,I3,rfl,q3⟩
 | true=>exact ite_tt (chain_last (thn (hc pins s3 σ H3 _ I3 q3) fun w' s4 ⟨z',H4,I4,r4,q4⟩=>ho' pins s4 σ H4 y z' u w' Q I4 r2 r4 q4))
def TruV (K:PySem.W.Frag) (x:V) (H:Hp) (k:Bool):Prop :=
 match x with
 | .non=>k=false
 | .bl b=>k=b
 | .int i=>k=(i != 0)
 | .str y=>y.length≤sizeLine∧k=((y.length:Int) != 0)
 | .byt y=>y.size≤sizeLine∧k=((y.size:Int) != 0)
 | .ref p=>(∃ xs,SqL K H p xs∧k = !xs.isEmpty)∨(∃ xs,SqT K H p xs∧k = !xs.isEmpty)∨∃ kvs,H p=some (.dK kvs)∧k = !kvs.isEmpty
 | _=>False
theorem isEmpty_kv {κ:Type} {kvs:List (κ×V)} {vs:List (κ×Value)} (r:KV kvs vs):(!vs.isEmpty) = !kvs.isEmpty:=by
 cases r <;> rfl
theorem isEmpty_of {xs:List V} {its:List Value} (r:Vals xs its):(!its.toArray.isEmpty) = !xs.isEmpty:=by
 cases r <;> simp
theorem line63:(sizeLine:Nat)<2 ^ 63:=by rw [sizeLine_eq]; decide
theorem tru_ok:TruR X (fun x H Q=>∃ k,TruV X.K x H k∧Q k H):=by
 intro pins s σ H x v Q I rx h
 obtain ⟨k,e,q⟩:=h
 have hl:=line63
 have hs:sizeLine=16777216:=sizeLine_eq
 cases x with
 | non =>
  cases rx
  have e':k=false:=e
  subst e'
  exact truthy_none ⟨H,I,q⟩
 | bl b =>
  cases rx
  have e':k=b:=e
  subst e'
  exact wpAny_truthy_bool ⟨H,I,q⟩
 | int i =>
  obtain ⟨t,rfl⟩:=rx
  have e':k=(i != 0):=e
  subst e'
  exact PySem.P.truthy_int ⟨H,I,q⟩
 | str y =>
  obtain ⟨t,rfl⟩:=rx
  obtain ⟨hy,e'⟩:y.length≤sizeLine∧k=((y.length:Int) != 0):=e
  subst e'
  exact PySem.P.truthy_str (by omega) ⟨H,I.tok _,q⟩
 | byt y =>
  obtain ⟨t,rfl⟩:=rx
  obtain ⟨hy,e'⟩:y.size≤sizeLine∧k=((y.size:Int) != 0):=e
  subst e'
  exact PySem.W.truthy_bytes (by omega) ⟨H,I.tok _,q⟩
 | ref p =>
  cases rx
  have e':(∃ xs,SqL X.K H p xs∧k = !xs.isEmpty)∨(∃ xs,SqT X.K H p xs∧k = !xs.isEmpty)∨∃ kvs,H p=some (.dK kvs)∧k = !kvs.isEmpty:=e
  rcases e' with ⟨xs,hx,e'⟩|⟨xs,hx,e'⟩|⟨kvs,hx,e'⟩
  ·subst e'
   obtain ⟨its,r,pl,hz⟩:=I.list hx
   have hlen:=r.length
   exact wpAny_truthy_list pl.isList (by simp only [List.size_toArray]; omega) ⟨H,I.tok _,by rw [isEmpty_of r]; exact q⟩
  ·subst e'
   obtain ⟨its,r,pl,hz⟩:=I.tuple hx
   have hlen:=r.length
   exact truthy_tuple pl (by simp only [List.size_toArray]; omega) ⟨H,I.tok _,by rw [isEmpty_of r]; exact q⟩
  ·subst e'
   obtain ⟨hz,hS,vs,r,m⟩:kvs.length≤sizeLine∧(p == sysModules)=false∧∃ vs,KV kvs vs∧s.heap.DictOf (mixKind X.prog X.w) p vs:=I.hok p _ hx
   have hlen:kvs.length=vs.length:=Paired.length r
   exact wpAny_truthy_dict hS m (by omega) ⟨H,I.tok _,by rw [isEmpty_kv r]; exact q⟩
 | _=>exact (show False from e).elim
theorem pt_truth (ha:PE X a ta) (he:∀ whole,isTrue a X.env whole=(do let v←whole; standAt a.pos; holding [v] (truthy v))) :
  PT X a (fun σ H Q=>ta σ H fun x H'=>∃ k,TruV X.K x H' k∧Q k H'):=by
 intro pins s σ H Q I h
 exact isTrue_plain (thn (ha pins s σ H _ I h) fun v s1 ⟨x,H1,I1,r1,q1⟩=>tru_ok pins s1 σ H1 x v Q I1 r1 q1) (he _)
theorem op_add_str:OpR X (binaryOp .Add) (fun x y H Q=>∃ i j,x = .str i∧y = .str j∧i.length+j.length≤sizeLine∧Q (.str (i++j)) H):=by
 intro pins s σ H x y v u Q I rx ry h
 obtain ⟨i,j,rfl,rfl,hz,q⟩:=h
 obtain ⟨t,rfl⟩:=rx
 obtain ⟨t',rfl⟩:=ry
 exact add_str (fun t' tk=>⟨.str (i++j),H,I.tok _,⟨_,rfl⟩,q⟩) hz
theorem vals1 {x:V} {us:List Value} (r:Vals [x] us):∃ u,us=[u]∧RelV x u:=by
 cases r with
 | cons r1 r2=>cases r2; exact ⟨_,rfl,r1⟩
theorem vals2 {x y:V} {us:List Value} (r:Vals [x,y] us):∃ u w',us=[u,w']∧RelV x u∧RelV y w':=by
 cases r with
 | cons r1 r2 =>
  cases r2 with
  | cons r3 r4=>cases r4; exact ⟨_,_,rfl,r1,r3⟩
theorem call_max2 (hc:X.calm=true):CallR X (.builtin "max") (fun xs H Q=>∃ i j,xs=[.int i,.int j]∧Q (.int (if j>i then j else i)) H):=by
 intro pins s σ H xs us Q I r h
 obtain ⟨i,j,rfl,q⟩:=h
 obtain ⟨u,w',rfl,⟨t,rfl⟩,⟨t',rfl⟩⟩:=vals2 r
 refine max_two_ints (I.ok.hd hc) fun h' tk k=>⟨_,H,I.kept k,?_,q⟩
 by_cases hj:j>i
 ·rw [if_pos hj,if_pos hj]; exact ⟨_,rfl⟩
 ·rw [if_neg hj,if_neg hj]; exact ⟨_,rfl⟩
theorem call_min2 (hc:X.calm=true):CallR X (.builtin "min") (fun xs H Q=>∃ i j,xs=[.int i,.int j]∧Q (.int (if j<i then j else i)) H):=by
 intro pins s σ H xs us Q I r h
 obtain ⟨i,j,rfl,q⟩:=h
 obtain ⟨u,w',rfl,⟨t,rfl⟩,⟨t',rfl⟩⟩:=vals2 r
 refine min_two_ints (I.ok.hd hc) fun h' tk k=>⟨_,H,I.kept k,?_,q⟩
 by_cases hj:j<i
 ·rw [if_pos hj,if_pos hj]; exact ⟨_,rfl⟩
 ·rw [if_neg hj,if_neg hj]; exact ⟨_,rfl⟩
theorem call_int1:CallR X (.type "int") (fun xs H Q=>(∃ i,xs=[.int i]∧Q (.int i) H)∨∃ k,xs=[.bl k]∧Q (.int (if k then 1 else 0)) H):=by
 intro pins s σ H xs us Q I r h
 rcases h with ⟨i,rfl,q⟩|⟨k,rfl,q⟩
 ·obtain ⟨u,rfl,t,rfl⟩:=vals1 r
  exact call_int_int ⟨.int i,H,I,⟨_,rfl⟩,q⟩
 ·obtain ⟨u,rfl,r1⟩:=vals1 r
  cases r1
  exact call_int_bool ⟨.int (if k then 1 else 0),H,I.tok _,⟨_,rfl⟩,q⟩
theorem call_str_int:CallR X (.type "str") (fun xs H Q=>∃ i,xs=[.int i]∧i.natAbs.log2<1920∧Q (.str (toString i)) H):=by
 intro pins s σ H xs us Q I r h
 obtain ⟨i,rfl,hz,q⟩:=h
 obtain ⟨u,rfl,t,rfl⟩:=vals1 r
 exact PySem.P.str_of_int hz ⟨.str _,H,I.tok _,⟨_,rfl⟩,q⟩
theorem call_ord:CallR X (.builtin "ord") (fun xs H Q=>∃ x,xs=[.str x]∧x.length=1∧Q (.int (x.cps.getD 0 0:Nat)) H):=by
 intro pins s σ H xs us Q I r h
 obtain ⟨x,rfl,hz,q⟩:=h
 obtain ⟨u,rfl,t,rfl⟩:=vals1 r
 exact ord_of_one hz ⟨.int _,H,I.tok _,⟨_,rfl⟩,q⟩
end
end L2
namespace L2
open PySem PySem.Spec PyProof.Rows
structure ObjM (h:Heap) (x dx C:Addr) (mA:Str→Option Value):Prop where
 obj:h.get? x=some (PySem.W.instObj C dx)
 ns:h.Ns1 dx mA
 ne:dx≠x
theorem lookIn_ns {h:Heap} {dx:Addr} {mA:Str→Option Value} (n:h.Ns1 dx mA):∃ od,h.get? dx=some od∧∀ name,PySem.W.lookIn name od=some (mA name):=by
 obtain ⟨o,es,ep,ho,hd,hk,_,hm⟩:=n
 refine ⟨o,ho,fun name=>?_⟩
 have e:=hm name
 unfold nsFind findBy at e
 rw [← Array.find?_toList] at e
 unfold PySem.W.lookIn
 rw [hd]
 dsimp only
 split
 ·rename_i y q
  rw [q] at e
  exact congrArg some e
 ·rename_i q
  rw [q] at e
  have a:es.toList.any (·.refKey)=false:=by
   rw [List.any_eq_false]
   intro y hy
   obtain ⟨z,t,hkey⟩:=hk y (Array.mem_toList_iff.mp hy)
   simp [DictEntry.refKey,hkey]
  have a' : ¬ es.toList.any (·.refKey)=true:=by rw [a]; exact Bool.false_ne_true
  rw [if_neg a']
  exact congrArg some e
theorem ObjM.look {h:Heap} {x dx C:Addr} {mA:Str→Option Value} (I:ObjM h x dx C mA):∃ od,PySem.W.InstAt h x (PySem.W.instObj C dx) C (some od)∧∀ name,PySem.W.lookIn name od=some (mA name) :=
 let ⟨od,ho,hl⟩:=lookIn_ns I.ns
 ⟨od,⟨I.obj,rfl,rfl,ho⟩,hl⟩
section
variable {prog:Program} {w:World} {A:Around} {E:Value→Shared→Prop} {s:Shared} {K:PySem.W.Frag} {x dx C f:Addr} {mA:Str→Option Value} {name:Str} {v:Value}
theorem get_map {expr:Bool} {Q:Value→Shared→Prop} (X:K.In s.heap) (I:ObjM s.heap x dx C mA) (hg:PySem.W.plainGet K C name=true) (hh:PySem.W.hasDictIn K C=true)
  (ha:PySem.W.findIn K (.ref C) name=some none) (hv:mA name=some v) (hv':PySem.W.handedIn v=true) (h:Q v { s with toks:=s.toks+1 }) :
  wpAny (model prog w) A (getAttr (.ref x) name expr) Q E s:=by
 obtain ⟨od,J,hl⟩:=I.look
 exact PySem.W.get_value X J (PySem.W.plainGet_of hg).1 (PySem.W.findObj_own hh ha rfl (by rw [hl,hv])) hv' h
theorem get_meth {pl:Sem Bool} {Q:Value×List Value→Shared→Prop} (X:K.In s.heap) (I:ObjM s.heap x dx C mA) (hg:PySem.W.plainGet K C name=true)
  (hf:PySem.W.findIn K (.ref C) name=some (some (.ref f))) (ht:PySem.W.isFn K (.ref f)=true) (hv:mA name=none) (h:Q (.ref f,[.ref x]) s) :
  wpAny (model prog w) A (getMethod (.ref x) name pl) Q E s:=by
 obtain ⟨od,J,hl⟩:=I.look
 exact PySem.W.method_fn X J (PySem.W.plainGet_of hg).1 (PySem.W.plainGet_of hg).2 hf (beq_iff_eq.mp ht) (by show (PySem.W.lookIn name od).map (·.isSome)=some false; rw [hl,hv]; rfl) h
theorem set_map {ns:List Str} {Q:Unit→Shared→Prop} (X:K.In s.heap) (I:ObjM s.heap x dx C mA)
  (hs:PySem.W.findIn K (.ref C) "__setattr__" = some (some (.builtin "object.__setattr__"))) (hp:PySem.W.plainOver K C=true) (ht:PySem.W.takerIn K C name=some none) (hh:PySem.W.hasDictIn K C=true)
  (hw:PySem.Within mA ns) (hsz:ns.length≤sizeLine)
  (h:∀ h',ObjM h' x dx C (fun y=>if y=name then some v else mA y)→Heap.SameBut dx s.heap h'→Q () { s with heap:=h',toks:=s.toks+2 }) :
  wpAny (model prog w) A (setAttr (.ref x) name v) Q E s:=by
 obtain ⟨od,J,hl⟩:=I.look
 refine PySem.W.set_plain X J hs (PySem.W.osa_open (s:={ s with toks:=s.toks+1 }) (r:=none) X J hp ht fun b=>?_)
 obtain ⟨cd,hc,hd'⟩:=PySem.W.any_some hh
 have hx:s.heap.get? x=some ⟨.ref C,some dx,.plain,#[]⟩:=I.obj
 refine wpAny_bind (wpAny_pure (wpAny_bind (wpAny_bind (wpAny_loadPart hx (wpAny_bind (PySem.W.Looks.here (s:={ s with toks:=s.toks+1 }) (PySem.W.looks_clsIn X hc) ?_))))))
 rw [hd']
 refine wpAny_pure (a:=some dx) (wpAny_bind (wpAny_pure (wpAny_bind ?_)))
 refine wpAny_nsSet1 (s:={ s with toks:=s.toks+1 }) I.ns fun h' hn2 hs2=>?_
 obtain ⟨oD,esD,epD,hoD,hdD,hcD⟩:=hn2.count (PySem.Within.cons name v hw)
 refine wpAny_bind (wpAny_lookBehind hoD (by rw [hdD]; exact pastItsLine_dict (Nat.le_trans hcD (by rw [List.length_cons]; omega))) ?_)
 exact wpAny_pure (h _ ⟨(hs2.2 _ (Ne.symm I.ne)).trans I.obj,hn2,I.ne⟩ hs2)
theorem make_map {R:Result→Shared→Prop} {vs:List Value} {kw:List (Str×Value)} (X:K.In s.heap) (hm:PySem.W.makesIn K C=true)
  (hi:PySem.W.findIn K (.ref C) "__init__" = some (some (.ref f))) (hf:PySem.W.typeIn K (.ref f)=some (.type "function"))
  (h:codeAny (model prog w) (A.under (.builtin "type.__call__" ⟨.ref C::vs,kw⟩)) (.call (.ref f) ⟨.ref (s.heap.objs.size+1)::vs,kw⟩) (PySem.W.InitBack (s.heap.objs.size+1) R)
   { s with heap:=(s.heap.push PySem.W.emptyDict).push (PySem.W.instObj C s.heap.objs.size) }) :
  codeAny (model prog w) A (.call (.ref C) ⟨vs,kw⟩) R s:=by
 obtain ⟨hh,g,d,t,os⟩:=s
 exact PySem.W.make_core (PySem.W.makes_of X hm) (PySem.W.looks_findIn X hi) (fun self=>PySem.W.bind_fn X self hf) (.inl rfl) h
end
def putF (f:Str) (v:V):List (Str×V)→List (Str×V)
 | []=>[(f,v)]
 | (g,x)::r=>if g=f then (g,v)::r else (g,x)::putF f v r
theorem lookup_putF (f g:Str) (v:V):∀ fs:List (Str×V),(putF f v fs).lookup g=if g=f then some v else fs.lookup g
 | []=>by
  show List.lookup g [(f,v)]=_
  by_cases h:g=f
  ·have hb:(g == f)=true:=beq_iff_eq.mpr h
   simp only [List.lookup,hb,if_pos h]
  ·have hb:(g == f)=false:=beq_eq_false_iff_ne.mpr h
   simp only [List.lookup,hb,if_neg h]
 | (k,x)::r=>by
  have ih:=lookup_putF f g v r
  rw [show putF f v ((k,x)::r)=(if k=f then (k,v)::r else (k,x)::putF f v r) from rfl]
  by_cases hk:k=f
  ·rw [if_pos hk]
   by_cases h:g=k
   ·have hb:(g == k)=true:=beq_iff_eq.mpr h
    simp only [List.lookup,hb,if_pos (h.trans hk)]
   ·have hb:(g == k)=false:=beq_eq_false_iff_ne.mpr h
    simp only [List.lookup,hb,if_neg (fun e:g=f=>h (e.trans hk.symm))]
  ·rw [if_neg hk]
   by_cases h:g=k
   ·have hb:(g == k)=true:=beq_iff_eq.mpr h
    simp only [List.lookup,hb,if_neg (fun e:g=f=>hk (h.symm.trans e))]
   ·have hb:(g == k)=false:=beq_eq_false_iff_ne.mpr h
    simp only [List.lookup,hb]
    exact ih
theorem keys_putF (f:Str) (v:V):∀ fs:List (Str×V),f∈(putF f v fs).map (·.1)∧∀ g,g∈fs.map (·.1)→g∈(putF f v fs).map (·.1)
 | []=>⟨by simp [putF],fun g h=>by simp at h⟩
 | (k,x)::r=>by
  obtain ⟨i1,i2⟩:=keys_putF f v r
  rw [show putF f v ((k,x)::r)=(if k=f then (k,v)::r else (k,x)::putF f v r) from rfl]
  by_cases hk:k=f
  ·rw [if_pos hk]
   subst hk
   exact ⟨by simp,fun g h=>by simpa using h⟩
  ·rw [if_neg hk]
   refine ⟨?_,fun g h=>?_⟩
   ·rw [List.map_cons]
    exact List.mem_cons_of_mem _ i1
   ·rw [List.map_cons] at h ⊢
    rcases List.mem_cons.mp h with e|e
    ·exact List.mem_cons.mpr (.inl e)
    ·exact List.mem_cons_of_mem _ (i2 g e)
theorem length_putF (f:Str) (v:V):∀ fs:List (Str×V),(putF f v fs).length≤fs.length+1
 | []=>by simp [putF]
 | (k,x)::r=>by
  have ih:=length_putF f v r
  rw [show putF f v ((k,x)::r)=(if k=f then (k,v)::r else (k,x)::putF f v r) from rfl]
  by_cases hk:k=f
  ·rw [if_pos hk,List.length_cons,List.length_cons]; omega
  ·rw [if_neg hk,List.length_cons,List.length_cons]; omega
theorem RelO.some_of {v:V} {o:Option Value} (r:RelO (some v) o):∃ u,o=some u∧RelV v u:=by
 cases o with
 | none=>exact (show False from r).elim
 | some u=>exact ⟨u,rfl,r⟩
theorem RelO.none_of {o:Option Value} (r:RelO none o):o=none:=by
 cases o with
 | none=>rfl
 | some u=>exact (show False from r).elim
theorem handed_of {v:V} {u:Value} (r:RelV v u):PySem.W.handedIn u=true:=by
 cases v with
 | non=>cases (show u=Value.none from r); rfl
 | bl b=>cases (show u=Value.bool b from r); rfl
 | int i=>obtain ⟨t,e⟩:=(show ∃ t,u=Value.int i t from r); cases e; rfl
 | str x=>obtain ⟨t,e⟩:=(show ∃ t,u=Value.str x t from r); cases e; rfl
 | byt b=>obtain ⟨t,e⟩:=(show ∃ t,u=Value.bytes b t from r); cases e; rfl
 | flt b=>obtain ⟨t,e⟩:=(show ∃ t,u=Value.float b t from r); cases e; rfl
 | ref a=>cases (show u=Value.ref a from r); rfl
 | ty n=>cases (show u=Value.type n from r); rfl
section
variable {P:Program} {w:World} {H H':Hp} {h h':Heap} {a C dx:Addr} {fs fs':List (Str×V)}
theorem ins_get (hok:HOk P w H h) (e:H a=some (.ins C dx fs)):∃ mA,ObjM h a dx C mA∧(∀ f,RelO (fs.lookup f) (mA f))∧PySem.Within mA (fs.map (·.1))∧fs.length≤1000∧H dx=some (.own a):=by
 obtain ⟨d,z,ne,ob,mA,n,r,q⟩:=(show ObjOk P w H h a (.ins C dx fs) from hok a _ e)
 exact ⟨mA,⟨ob,n,ne⟩,r,q,z,d⟩
end
structure Cls (K:PySem.W.Frag) (C:Addr):Prop where
 pg:PySem.W.plainGet K C Str.empty=true
 hd:PySem.W.hasDictIn K C=true
 po:PySem.W.plainOver K C=true
 sa:PySem.W.findIn K (.ref C) "__setattr__" = some (some (.builtin "object.__setattr__"))
theorem Cls.get {K:PySem.W.Frag} {C:Addr} (c:Cls K C) (f:Str):PySem.W.plainGet K C f=true:=c.pg
def NoAttr (K:PySem.W.Frag) (C:Addr) (f:Str):Prop:=PySem.W.findIn K (.ref C) f=some none
theorem NoAttr.taker {K:PySem.W.Frag} {C:Addr} {f:Str} (n:NoAttr K C f):PySem.W.takerIn K C f=some none:=by
 unfold PySem.W.takerIn
 rw [show PySem.W.findIn K (.ref C) f=some none from n]
 rfl
structure Meth (K:PySem.W.Frag) (C:Addr) (m:Str) (f:Addr):Prop where
 at_:PySem.W.findIn K (.ref C) m=some (some (.ref f))
 fn:PySem.W.isFn K (.ref f)=true
 kp:PySem.W.keepIn K (.ref f)=true
section
variable {X:Cx} {pins:List (Addr×Obj)} {σ:St} {H:Hp} {s:Shared} {a C dx:Addr} {fs:List (Str×V)} {f:Str} {v:V} {A:Around} {E:Value→Shared→Prop}
theorem getattr_ok {b:Bool} {Q:Value→Shared→Prop} (I:Inv X pins σ H s) (e:H a=some (.ins C dx fs)) (c:Cls X.K C) (n:NoAttr X.K C f) (l:fs.lookup f=some v)
  (h:∀ u s',Inv X pins σ H s'→RelV v u→Q u s'):wpAny (model X.prog X.w) A (getAttr (.ref a) f b) Q E s:=by
 obtain ⟨mA,O,r,_,_,_⟩:=ins_get I.hok e
 obtain ⟨u,hu,ru⟩:=RelO.some_of (v:=v) (o:=mA f) (by rw [← l]; exact r f)
 exact get_map I.kIn O (c.get f) c.hd n hu (handed_of ru) (h u _ (I.tok _) ru)
theorem getmeth_ok {m:Str} {g:Addr} {pl:Sem Bool} {Q:Value×List Value→Shared→Prop} (I:Inv X pins σ H s) (e:H a=some (.ins C dx fs)) (c:Cls X.K C) (k:Meth X.K C m g) (l:fs.lookup m=none)
  (h:Q (.ref g,[.ref a]) s):wpAny (model X.prog X.w) A (getMethod (.ref a) m pl) Q E s:=by
 obtain ⟨mA,O,r,_,_,_⟩:=ins_get I.hok e
 have hn:mA m=none:=RelO.none_of (by rw [← l]; exact r m)
 exact get_meth I.kIn O (c.get m) k.at_ k.fn hn h
theorem setattr_ok {y:V} {u:Value} {Q:Unit→Shared→Prop} (I:Inv X pins σ H s) (e:H a=some (.ins C dx fs)) (c:Cls X.K C) (n:NoAttr X.K C f) (hl:fs.length<1000) (ry:RelV y u)
  (h:∀ s',Inv X pins σ (upd H a (.ins C dx (putF f y fs))) s'→Q () s'):wpAny (model X.prog X.w) A (setAttr (.ref a) f u) Q E s:=by
 obtain ⟨mA,O,r,wi,_,ho⟩:=ins_get I.hok e
 have hz:(fs.map (·.1)).length≤sizeLine:=by rw [List.length_map,sizeLine_eq]; omega
 refine set_map I.kIn O c.sa c.po n.taker c.hd wi hz fun h' O' sb=>h _ ?_
 have hd:∃ o,h'.get? dx=some o:=let ⟨o,_,_,e',_⟩:=O'.ns; ⟨o,e'⟩
 refine I.write (x:=a) (e:=dx) (by rw [e]; exact True.intro) (.inr ho) (fun b q hb z=>(sb.2 b hb).trans z) hd ?_
 refine ⟨by rw [upd_ne O.ne]; exact ho,?_,O.ne,O'.obj,_,O'.ns,fun g=>?_,fun g hg=>?_⟩
 ·have:=length_putF f y fs; omega
 ·show RelO ((putF f y fs).lookup g) (if g=f then some u else mA g)
  rw [lookup_putF]
  by_cases q:g=f
  ·rw [if_pos q,if_pos q]; exact ry
  ·rw [if_neg q,if_neg q]; exact r g
 ·by_cases q:g=f
  ·rw [q]; exact (keys_putF f y fs).1
  ·refine (keys_putF f y fs).2 g (wi g fun z=>hg ?_)
   show (if g=f then some u else mA g)=none
   rw [if_neg q]; exact z
theorem Inv.made (I:Inv X pins σ H s):Inv X pins σ (upd (upd H s.heap.objs.size (.own (s.heap.objs.size+1))) (s.heap.objs.size+1) (.ins C s.heap.objs.size []))
  { s with heap:=(s.heap.push PySem.W.emptyDict).push (PySem.W.instObj C s.heap.objs.size) }:=by
 have e1:(s.heap.push PySem.W.emptyDict).get? s.heap.objs.size=some PySem.W.emptyDict:=Heap.get?_push_size s.heap rfl
 have e2:((s.heap.push PySem.W.emptyDict).push (PySem.W.instObj C s.heap.objs.size)).get? (s.heap.objs.size+1)=some (PySem.W.instObj C s.heap.objs.size):=by
  have:=Heap.get?_push_size (s.heap.push PySem.W.emptyDict) (o:=PySem.W.instObj C s.heap.objs.size) rfl
  rwa [Heap.size_push] at this
 have e3:(s.heap.push PySem.W.emptyDict).Ns s.heap.objs.size (fun _=>none):=⟨PySem.W.emptyDict,#[],_,e1,rfl,(fun e he=>absurd he (by simp)),fun _=>rfl⟩
 have I1:=I.laid (a:=s.heap.objs.size) (o:=.own (s.heap.objs.size+1)) (h':=s.heap.push PySem.W.emptyDict) (t':=s.toks) (fun b u q=>Heap.get?_push_of_some _ q) (Nat.le_refl _) ⟨_,e1⟩
 refine I1.laid (a:=s.heap.objs.size+1) (o:=.ins C s.heap.objs.size []) (t':=s.toks) (fun b u q=>Heap.get?_push_of_some _ q) (Nat.le_of_eq (Heap.size_push _ _)) ?_
 have ne:s.heap.objs.size≠s.heap.objs.size+1:=Nat.ne_of_lt (Nat.lt_succ_self _)
 refine ⟨by rw [upd_ne ne,upd_same],Nat.zero_le _,ne,e2,fun _=>none,(Heap.Ns1.of_empty e3).at fun o q=>Heap.get?_push_of_some _ q,fun _=>True.intro,fun y hy=>absurd rfl hy⟩
theorem attr_of {prog:Program} {w:World} {env:Env} {e:Expr} {f:Str} {pos:Pos} {s:Shared} {Q:Value→Shared→Prop} (hb:attributeBase e f env (eval e env)=eval e env)
  (h:wpAny (model prog w) A (eval e env) (fun o s₁=>wpAny (model prog w) A (getAttr o f true) Q E s₁) E s):wpAny (model prog w) A (eval (.Attribute e f pos) env) Q E s :=
 Attribute_any_ h (by rw [arm_eval_Attribute,hb])
end
def InOp (X:Cx) (op:Operator) (rd:V→V→Hp→VK→Prop):Prop :=
 ∀ (pins:List (Addr×Obj)) (s:Shared) (σ:St) (H:Hp) (x y:V) (u v:Value) (Q:VK),Inv X pins σ H s→RelV x u→RelV y v→rd x y H Q→wpAny (model X.prog X.w) X.A (inplaceOp op u v) (EP X pins σ Q) X.xe s
section
variable {X:Cx} {o e value:Expr} {f:Str} {pos pos' tpos:Pos} {ta tv:TE}
def rAdd:V→V→Hp→VK→Prop:=fun x y H Q=>∃ i j,x = .int i∧y = .int j∧Q (.int (i+j)) H
def rSub:V→V→Hp→VK→Prop:=fun x y H Q=>∃ i j,x = .int i∧y = .int j∧Q (.int (i - j)) H
theorem in_add:InOp X .Add rAdd:=by
 rintro pins s σ H x y u v Q I rx ry ⟨i,j,rfl,rfl,q⟩
 obtain ⟨t,rfl⟩:=(show ∃ t,u=Value.int i t from rx)
 obtain ⟨t',rfl⟩:=(show ∃ t',v=Value.int j t' from ry)
 exact PyProof.Rows.iadd_int ⟨.int (i+j),H,I.tok _,⟨_,rfl⟩,q⟩
theorem in_sub:InOp X .Sub rSub:=by
 rintro pins s σ H x y u v Q I rx ry ⟨i,j,rfl,rfl,q⟩
 obtain ⟨t,rfl⟩:=(show ∃ t,u=Value.int i t from rx)
 obtain ⟨t',rfl⟩:=(show ∃ t',v=Value.int j t' from ry)
 exact PyProof.Rows.isub_int ⟨.int (i - j),H,I.tok _,⟨_,rfl⟩,q⟩
theorem methcall_of {pl:Sem Bool} {m:Str} {apos:Pos} {args:List Expr} {pins:List (Addr×Obj)} {s:Shared} {σ:St} {H:Hp} {Q:Value→Shared→Prop} {te:TE} (he:PE X e te) (I:Inv X pins σ H s)
  (h:te σ H fun x H1=>∃ a C dx fs g,x = .ref a∧H1 a=some (.ins C dx fs)∧Cls X.K C∧Meth X.K C m g∧fs.lookup m=none ∧
   ∀ s1,Inv X pins σ H1 s1→wpAny (model X.prog X.w) X.A (callWith pos (.ref g) [.ref a] (backTo pos (starEach args X.env)) (backToKw pos (keywordEach [] X.env))) Q X.xe s1)
  (ht:eval (.Call (.Attribute e m apos) args [] pos) X.env=(do
   let ov←eval e X.env
   standAt apos.atName
   let (f,first)←holding [ov] (getMethod ov m pl)
   callWith pos f first (backTo pos (starEach args X.env)) (backToKw pos (keywordEach [] X.env)))) :
  wpAny (model X.prog X.w) X.A (eval (.Call (.Attribute e m apos) args [] pos) X.env) Q X.xe s:=by
 refine PySem.W.methodCall_KW (pl:=pl) (thn (he pins s σ H _ I h) fun u s1 ⟨x,H1,I1,rx,a,C,dx,fs,g,ex,ea,c,k,l,q⟩=>?_) ht
 subst ex
 obtain rfl:u=Value.ref a:=rx
 exact getmeth_ok I1 ea c k l (q s1 I1)
end
section
variable {X:Cx} {pins:List (Addr×Obj)} {σ:St} {H:Hp} {s:Shared} {A:Around} {E:Value→Shared→Prop} {Q:Value→Shared→Prop} {c:Value} {b:Bool}
inductive TyOf (K:PySem.W.Frag) (H:Hp):V→Value→Prop where
 | non:TyOf K H .non (.type "NoneType")
 | bl (x:Bool):TyOf K H (.bl x) (.type "bool")
 | int (i:Int):TyOf K H (.int i) (.type "int")
 | str (x:Str):TyOf K H (.str x) (.type "str")
 | flt (x:UInt64):TyOf K H (.flt x) (.type "float")
 | lst {a:Addr} {xs:List V} (e:H a=some (.lst xs)):TyOf K H (.ref a) (.type "list")
 | frz {a:Addr} {o:Obj} {xs:List V} (e:H a=some (.frz o (.lst xs))):TyOf K H (.ref a) (.type "list")
 | tup {a:Addr} {xs:List V} (e:H a=some (.tup xs)):TyOf K H (.ref a) (.type "tuple")
 | dK {a:Addr} {kvs:List (Key×V)} (e:H a=some (.dK kvs)):TyOf K H (.ref a) (.type "dict")
 | dT {a:Addr} {kvs:List (List Key×V)} (e:H a=some (.dT kvs)):TyOf K H (.ref a) (.type "dict")
 | ins {a C dx:Addr} {fs:List (Str×V)} (e:H a=some (.ins C dx fs)) (cl:Cls K C) (ha:PySem.W.findIn K (.ref C) "__class__" = some (some (.builtin "object.__class__")))
   (hn:PySem.W.specialIn K (.builtin "object.__class__") "__get__" = some (some (.builtin "getset_descriptor.__get__"))) (htk:PySem.W.takesIn K (.builtin "object.__class__")=some true)
   (hm:PySem.W.mroIn K C (.type "object")=some true):TyOf K H (.ref a) (.ref C)
theorem isinst_ok {x:V} {u t:Value} (I:Inv X pins σ H s) (rx:RelV x u) (ty:TyOf X.K H x t) (e:PySem.W.kitOne X.K t c=some b) (h:∀ tk,Q (.bool b) { s with toks:=tk }) :
  wpAny (model X.prog X.w) A (call (.builtin "isinstance") [u,c]) Q E s:=by
 cases ty with
 | non=>cases (show u=Value.none from rx); exact PySem.W.kia_one PySem.W.kitx_none I.kIn True.intro e (fun z=>nomatch z) h
 | bl y=>cases (show u=Value.bool y from rx); exact PySem.W.kia_one PySem.W.kitx_bool I.kIn True.intro e (fun z=>nomatch z) h
 | int i=>obtain ⟨t,q⟩:=(show ∃ t,u=Value.int i t from rx); cases q; exact PySem.W.kia_one PySem.W.kitx_int I.kIn True.intro e (fun z=>nomatch z) h
 | str y=>obtain ⟨t,q⟩:=(show ∃ t,u=Value.str y t from rx); cases q; exact PySem.W.kia_one PySem.W.kitx_str I.kIn True.intro e (fun z=>nomatch z) h
 | flt y=>obtain ⟨t,q⟩:=(show ∃ t,u=Value.float y t from rx); cases q; exact PySem.W.kia_one PySem.W.kitx_float I.kIn True.intro e (fun z=>nomatch z) h
 | @lst a xs ea =>
  cases (show u=Value.ref a from rx)
  obtain ⟨_,_,n,_,h1⟩:=(show ObjOk X.prog X.w H s.heap a (.lst xs) from I.hok a _ ea)
  exact PySem.W.kia_one PySem.W.kitx_list I.kIn ⟨_,h1,rfl⟩ e (fun z=>nomatch z) h
 | @frz a ob xs ea =>
  cases (show u=Value.ref a from rx)
  obtain ⟨_,_,_,n,_,h1⟩:=(show ObjOk X.prog X.w H s.heap a (.frz ob (.lst xs)) from I.hok a _ ea)
  exact PySem.W.kia_one PySem.W.kitx_list I.kIn ⟨_,h1,rfl⟩ e (fun z=>nomatch z) h
 | @tup a xs ea =>
  cases (show u=Value.ref a from rx)
  obtain ⟨_,_,_,p⟩:=(show ObjOk X.prog X.w H s.heap a (.tup xs) from I.hok a _ ea)
  obtain ⟨o,h1,h2,_⟩:=p
  exact PySem.W.kia_one PySem.W.kitx_tuple I.kIn ⟨o,h1,h2⟩ e (fun z=>nomatch z) h
 | @dK a kvs ea =>
  cases (show u=Value.ref a from rx)
  obtain ⟨_,_,vs,_,p⟩:=(show ObjOk X.prog X.w H s.heap a (.dK kvs) from I.hok a _ ea)
  obtain ⟨o,es,ep,h1,h2,_⟩:=p
  exact PySem.W.kia_one PySem.W.kitx_dict I.kIn ⟨o,h1,h2.1⟩ e (fun z=>nomatch z) h
 | @dT a kvs ea =>
  cases (show u=Value.ref a from rx)
  obtain ⟨_,_,xs,_,o,es,ep,h1,h2,_⟩:=(show ObjOk X.prog X.w H s.heap a (.dT kvs) from I.hok a _ ea)
  exact PySem.W.kia_one PySem.W.kitx_dict I.kIn ⟨o,h1,h2.1⟩ e (fun z=>nomatch z) h
 | @ins a C dx fs ea cl ha hn htk hm =>
  cases (show u=Value.ref a from rx)
  obtain ⟨mA,O,_⟩:=ins_get I.hok ea
  obtain ⟨od,J,_⟩:=O.look
  exact PySem.W.kia_one (PySem.W.kitx_own (cl.get _) cl.hd ha hn htk hm) I.kIn J e (fun z=>nomatch z) h
end
end L2
namespace L2
open PySem PySem.Spec PyProof.Rows
structure Room (c:Bool) (k:Nat) (A:Around):Prop where
 hd:c=true→A.handled=none
 dp:A.depth+3*k+5<recursionLimit
 un:A.units+16*k+200<cLine
 gd:A.guards=some []
theorem Room.mono {c:Bool} {j k:Nat} {A:Around} (r:Room c k A) (h:j≤k):Room c j A:=⟨r.hd,by have:=r.dp; omega,by have:=r.un; omega,r.gd⟩
theorem Room.deeper {c:Bool} {k:Nat} {A:Around} (r:Room c (k+1) A) (env:Env):Room c k (A.deeper env) :=
 ⟨r.hd,by have:=r.dp; show A.depth+1+3*k+5<_; omega,by have:=r.un; show A.units+3+16*k+200<_; omega,by first|exact r.gd|simpa [Around.deeper,Around.under,Code.isGuard] using r.gd⟩
theorem make_depth {A:Around} {C:Addr} {us:List Value} {kw:List (Str×Value)}:(A.under (.builtin "type.__call__" ⟨.ref C::us,kw⟩)).depth=A.depth+1:=by
 first|rfl|simp [Around.under,Code.weight,Code.isCreation,Code.isGuard,Code.isCaller,Code.frames,Code.isFrame,guardIds]
theorem make_units {A:Around} {C:Addr} {us:List Value} {kw:List (Str×Value)}:(A.under (.builtin "type.__call__" ⟨.ref C::us,kw⟩)).units=A.units+1:=by
 first|rfl|simp [Around.under,Code.cUnits,Code.frames,Code.isFrame]
theorem Room.make {c:Bool} {k:Nat} {A:Around} (r:Room c (k+1) A) (C:Addr) (us:List Value) (kw:List (Str×Value)):Room c k (A.under (.builtin "type.__call__" ⟨.ref C::us,kw⟩)) :=
 ⟨r.hd,by have:=r.dp; rw [make_depth]; omega,by have:=r.un; rw [make_units]; omega,by first|exact r.gd|simpa [Around.under,Code.isGuard,guardIds] using r.gd⟩
theorem Room.depth {c:Bool} {k:Nat} {A:Around} (r:Room c k A):A.depth<recursionLimit:=by have:=r.dp; omega
theorem Room.units {c:Bool} {k:Nat} {A:Around} (r:Room c k A):A.units+64<cLine:=by have:=r.un; omega
def tNil:TA:=fun _ H Q=>Q [] H
def tCons (ta:TE) (tr:TA):TA:=fun σ H Q=>ta σ H fun x H1=>tr σ H1 fun xs H2=>Q (x::xs) H2
section
variable {X:Cx} {e:Expr} {es:List Expr} {te:TE} {t:TA} {pos:Pos}
theorem pa_nil:PA X [] tNil:=fun _ _ _ _ H Q I h=>Calls.spliced_nil ⟨[],H,I,.nil,h⟩
theorem pa_cons (ha:PE X e te) (hr:PA X es t) (hs:starEach (e::es) X.env=(false,eval e X.env)::starEach es X.env:=by rfl):PA X (e::es) (tCons te t):=by
 intro pos pins s σ H Q I h
 rw [hs]
 show wpAny _ _ (spliced ((false,eval e X.env)::backTo pos (starEach es X.env))) _ _ s
 refine Calls.spliced_cons (thn (ha pins s σ H _ I h) fun u s1 ⟨x,H1,I1,r1,q1⟩=>?_)
 exact thn (hr pos pins s1 σ H1 _ I1 q1) fun us s2 ⟨xs,H2,I2,r2,q2⟩=>⟨x::xs,H2,I2,.cons r1 r2,q2⟩
def tTup (t:TA):TE:=fun σ H Q=>t σ H fun xs H1=>xs.length≤sizeLine∧∀ p,H1 p=none→Q (.ref p) (upd H1 p (.tup xs))
theorem pe_tup {x1} (h:PA X es t):PE X (.Tuple es x1 pos) (tTup t):=by
 intro pins s σ H Q I hq
 refine wpAny_Tuple_spliced (thn (h pos pins s σ H _ I hq) fun us s1 ⟨xs,H1,I1,r,z,q⟩=>⟨by rw [← r.length]; exact z,?_⟩)
 have hf:H1 s1.heap.objs.size=none:=I1.hok.fresh (Nat.le_refl _)
 refine ⟨.ref s1.heap.objs.size,upd H1 s1.heap.objs.size (.tup xs),I1.laid (t':=s1.toks) (fun b u e=>Heap.get?_push_of_some _ e) (Nat.le_refl _) ?_,rfl,q _ hf⟩
 exact ⟨z,us,r,⟨_,Heap.get?_push_size _ rfl,rfl,_,rfl⟩⟩
end
abbrev Sp:=List V→Hp→VK→XK→Prop
abbrev CXT:=List Env→Hp→Shared→XK→Value→Shared→Prop
structure Env0 (P:Program) (w:World) (K:PySem.W.Frag) (mg:Str→Option Value) (base:Heap) (A:Around) (outer:List Env) (s:Shared) (H:Hp):Prop where
 frames:A.frames=some outer
 hdk:HdOk A H
 mod:Mod K mg base
 bs:∀ b o,base.get? b=some o→s.heap.get? b=some o∧H b=none
 bsz:base.objs.size≤s.heap.objs.size
 funs:s.heap.FunFrames base outer
 frf:∀ b∈frs outer,H b=none
 hok:HOk P w H s.heap
 bare:AllBare s.gens
def CE (outer:List Env) (P:Program) (w:World) (H:Hp) (s:Shared) (Q:VK) (u:Value) (s':Shared):Prop :=
 ∃ v H',s'.os=s.os∧AllBare s'.gens∧Un (frs outer) [] H H' s.heap s'.heap∧HOk P w H' s'.heap∧RelV v u∧Q v H'
def CR (CX:CXT) (outer:List Env) (P:Program) (w:World) (H:Hp) (s:Shared) (Q:VK) (E:XK) (r:Result) (s':Shared):Prop :=
 match r with
 | .ok (.ret u)=>CE outer P w H s Q u s'
 | .ok _=>False
 | .error e=>CX outer H s E e s'
structure FnOk (P:Program) (w:World) (K:PySem.W.Frag) (mg:Str→Option Value) (base:Heap) (CX:CXT) (c:Bool) (k:Nat) (f:Addr) (fd:FuncData) (ps:List Str) (sp:Sp):Prop where
 len:∀ vs H Q E,sp vs H Q E→vs.length=ps.length
 run:∀ (A:Around) (outer:List Env) (s:Shared) (H:Hp) (args:Args) (us:List Value) (vs:List V) (Q:VK) (E:XK),Room c k A→Env0 P w K mg base A outer s H→BindsTo s fd args (ps.zip us)→Vals vs us→sp vs H Q E →
  codeAny (model P w) A (.call (.ref f) args) (CR CX outer P w H s Q E) s
theorem Env0.make {P:Program} {w:World} {K:PySem.W.Frag} {mg:Str→Option Value} {base:Heap} {A:Around} {outer:List Env} {s:Shared} {H:Hp} (e:Env0 P w K mg base A outer s H) (C:Addr) (us:List Value) (kw:List (Str×Value)) :
  Env0 P w K mg base (A.under (.builtin "type.__call__" ⟨.ref C::us,kw⟩)) outer s H:=⟨by first|exact e.frames|(simpa [Around.under,Code.envs,Code.isFrame,pushEnvs] using e.frames),e.hdk,e.mod,e.bs,e.bsz,e.funs,e.frf,e.hok,e.bare⟩
section
variable {X:Cx} {pins:List (Addr×Obj)} {σ:St} {H:Hp} {s s':Shared}
theorem Inv.env0 (I:Inv X pins σ H s):Env0 X.prog X.w X.K X.mg X.base X.A X.stack s H :=
 ⟨I.ok.frames,I.hdk,I.ok.mod,I.bs,Nat.le_trans I.ok.bsz I.sz,I.stack,I.stkFree,I.hok,I.bare⟩
theorem Inv.after {Q:VK} {u:Value} (I:Inv X pins σ H s) (h:CE X.stack X.prog X.w H s Q u s'):EP X pins σ Q u s':=by
 obtain ⟨v,H',os,bare,un,hok,r,q⟩:=h
 obtain ⟨hh,g,d,t,os'⟩:=s'
 obtain rfl:os'=s.os:=os
 exact ⟨v,H',I.call (h':=hh) (g':=g) (d':=d) (t':=t) (ch:=[]) un hok bare (fun b z=>absurd z (by simp)),r,q⟩
end
def tCall (sp:Sp) (dvs:List V) (E:XK) (t:TA):TE:=fun σ H Q=>t σ H fun vs H1=>sp (vs++dvs) H1 Q E
def tMeth (C:Addr) (m:Str) (sp:Sp) (dvs:List V) (E:XK) (ta:TE) (t:TA):TE:=fun σ H Q=>ta σ H fun x H1=>∃ a dx fs,x = .ref a∧H1 a=some (.ins C dx fs)∧fs.lookup m=none ∧
 t σ H1 fun vs H2=>sp (x::(vs++dvs)) H2 Q E
def Binds (K:PySem.W.Frag) (fd:FuncData) (ps:List Str) (ds:List Value):Prop :=
 ∀ (s:Shared) (us:List Value),K.In s.heap→(us++ds).length=ps.length→BindsTo s fd ⟨us,[]⟩ (ps.zip (us++ds))
theorem Binds.all {K:PySem.W.Frag} {fd:FuncData} {ps:List Str} (h:∀ us:List Value,us.length=ps.length→bindArgs fd ⟨us,[]⟩=pure (ps.zip us)):Binds K fd ps []:=fun s us _ hl=>by
 rw [List.append_nil] at hl ⊢
 exact .of_eq (h us hl)
def Passes (CX:CXT) (X:Cx) (E:XK):Prop:=∀ (pins:List (Addr×Obj)) (σ:St) (H:Hp) (s:Shared) (e:Value) (s':Shared),Inv X pins σ H s→CX X.stack H s E e s'→X.xe e s'
section
variable {X:Cx} {CX:CXT} {cm:Bool} {k:Nat} {f C:Addr} {fd:FuncData} {ps:List Str} {sp:Sp} {dvs:List V} {ds:List Value} {E:XK} {x m:Str} {p pos apos:Pos} {e o:Expr} {es:List Expr} {ta:TE} {t:TA}
theorem run_fn {pins:List (Addr×Obj)} {σ:St} {H:Hp} {s:Shared} {Q:VK} {us:List Value} {vs:List V} (F:FnOk X.prog X.w X.K X.mg X.base CX cm k f fd ps sp) (hr:Room cm k X.A) (hb:Binds X.K fd ps ds) (hd:Vals dvs ds) (hx:Passes CX X E)
  (I:Inv X pins σ H s) (r:Vals vs us) (h:sp (vs++dvs) H Q E):wpAny (model X.prog X.w) X.A (call (.ref f) us) (EP X pins σ Q) X.xe s:=by
 have r2:Vals (vs++dvs) (us++ds):=r.append hd
 have hl:(us++ds).length=ps.length:=by rw [← r2.length]; exact F.len _ _ _ _ h
 refine wpAny_call (codeAny_mono (F.run X.A X.stack s H ⟨us,[]⟩ (us++ds) (vs++dvs) Q E hr I.env0 (hb s us I.kIn hl) r2 h) fun r s' hq=>?_)
 cases r with
 | error e=>exact hx pins σ H s e s' I hq
 | ok fl =>
  cases fl with
  | ret u=>exact I.after hq
  | next=>exact False.elim hq
  | brk=>exact False.elim hq
  | cont=>exact False.elim hq
theorem pe_call (F:FnOk X.prog X.w X.K X.mg X.base CX cm k f fd ps sp) (hr:Room cm k X.A) (hg:Gl X x) (hm:X.mg x=some (.ref f)) (hk:PySem.W.keepIn X.K (.ref f)=true) (hb:Binds X.K fd ps ds) (hd:Vals dvs ds) (hx:Passes CX X E)
  (ha:PA X (e::es) t) (hdb:(x == ("__debug__" : Str))=false:=by decide) (he:starEach (e::es) X.env=(false,eval e X.env)::starEach es X.env:=by rfl) (hpl:(backTo pos (starEach es X.env)).any (·.1)=false:=by rfl) :
  PE X (.Call (.Name x p) (e::es) [] pos) (tCall sp dvs E t):=by
 intro pins s σ H Q I h
 refine wpAny_Call_Name_kw (ld_glob I hg hm ?_ hdb)
 refine PySem.W.callWith_K (h₀:=X.base) I.ok.mod.kin hk (thn (ha pos pins s σ H _ I h) fun us s1 ⟨vs,H1,I1,r,q⟩=>⟨I1.kIn,?_⟩) he hpl
 exact run_fn F hr hb hd hx I1 r q
theorem pe_meth {pl:Sem Bool} (he:PE X o ta) (c:Cls X.K C) (hm:Meth X.K C m f) (F:FnOk X.prog X.w X.K X.mg X.base CX cm k f fd ps sp) (hr:Room cm k X.A) (hb:Binds X.K fd ps ds) (hd:Vals dvs ds) (hx:Passes CX X E) (ha:PA X (e::es) t)
  (hst:starEach (e::es) X.env=(false,eval e X.env)::starEach es X.env:=by rfl) (hpl:(backTo pos (starEach es X.env)).any (·.1)=false:=by rfl)
  (ht:eval (.Call (.Attribute o m apos) (e::es) [] pos) X.env=(do
   let ov←eval o X.env
   standAt apos.atName
   let (f,first)←holding [ov] (getMethod ov m pl)
   callWith pos f first (backTo pos (starEach (e::es) X.env)) (backToKw pos (keywordEach [] X.env))):=by rfl) :
  PE X (.Call (.Attribute o m apos) (e::es) [] pos) (tMeth C m sp dvs E ta t):=by
 intro pins s σ H Q I h
 refine PySem.W.methodCall_KW (pl:=pl) (thn (he pins s σ H _ I h) fun u s1 ⟨x,H1,I1,rx,a,dx,fs,ex,ea,l,q⟩=>?_) ht
 subst ex
 obtain rfl:u=Value.ref a:=rx
 refine getmeth_ok I1 ea c hm l ?_
 refine PySem.W.callWith_K (first:=[.ref a]) (h₀:=X.base) I.ok.mod.kin hm.kp (thn (ha pos pins s1 σ H1 _ I1 q) fun us s2 ⟨vs,H2,I2,r,q2⟩=>⟨I2.kIn,?_⟩) hst hpl
 exact run_fn (us:=.ref a::us) (vs:=.ref a::vs) F hr hb hd hx I2 (.cons rfl r) q2
theorem pe_meth0 {pl:Sem Bool} (he:PE X o ta) (c:Cls X.K C) (hm:Meth X.K C m f) (F:FnOk X.prog X.w X.K X.mg X.base CX cm k f fd ps sp) (hr:Room cm k X.A) (hb:Binds X.K fd ps ds) (hd:Vals dvs ds) (hx:Passes CX X E)
  (ht:eval (.Call (.Attribute o m apos) [] [] pos) X.env=(do
   let ov←eval o X.env
   standAt apos.atName
   let (f,first)←holding [ov] (getMethod ov m pl)
   callWith pos f first (backTo pos (starEach [] X.env)) (backToKw pos (keywordEach [] X.env))):=by rfl) :
  PE X (.Call (.Attribute o m apos) [] [] pos) (tMeth C m sp dvs E ta tNil):=by
 intro pins s σ H Q I h
 refine PySem.W.methodCall_KW (pl:=pl) (thn (he pins s σ H _ I h) fun u s1 ⟨x,H1,I1,rx,a,dx,fs,ex,ea,l,q⟩=>?_) ht
 subst ex
 obtain rfl:u=Value.ref a:=rx
 refine getmeth_ok I1 ea c hm l ?_
 exact PySem.W.callWith_K0 (first:=[.ref a]) I1.kIn hm.kp (run_fn (us:=[.ref a]) (vs:=[.ref a]) F hr hb hd hx I1 (.cons rfl .nil) q)
structure Mk (K:PySem.W.Frag) (C f:Addr):Prop where
 makes:PySem.W.makesIn K C=true
 init:PySem.W.findIn K (.ref C) "__init__" = some (some (.ref f))
 fn:PySem.W.isFn K (.ref f)=true
 kp:PySem.W.keepIn K (.ref C)=true
end
section
variable {X:Cx} {CX:CXT} {cm:Bool} {k:Nat} {f C:Addr} {fd:FuncData} {ps ks:List Str} {sp:Sp} {E:XK} {x m:Str} {p pos apos kpos:Pos} {e o:Expr} {es:List Expr} {kws:List Keyword} {te ta:TE} {t tk:TA} {nm:Option Str}
variable {g:List Value→List Value→List Value} {gV:List V→List V→List V}
end
structure FnScope (N P:List Str) (sc:Scope):Prop where
 kind:sc.kind = .function
 co:sc.isCoroutine=false
 gen:sc.isGenerator=false
 nd:N.Nodup
 pre:N.take P.length=P
 par:∀ x∈P,sc.names.lookup x=some .local∨sc.names.lookup x=some .cell
 nofree:∀ y∈sc.names,y.2≠.free
theorem bindL_out {kindOf:Str→Option NameKind} {x:Str}:∀ {binds:List (Str×Value)} {m:Str→Option Value},(∀ v,(x,v)∉binds)→bindL kindOf binds m x=m x
 | [],_,_=>rfl
 | (n,v)::r,m,h=>by
  unfold bindL
  rw [bindL_out fun w hw=>h w (List.mem_cons_of_mem _ hw)]
  split
  ·have:x≠n:=by rintro rfl; exact h v List.mem_cons_self
   simp [this]
  ·rfl
theorem bindC_out {kindOf:Str→Option NameKind} {x:Str}:∀ {binds:List (Str×Value)} {m:Str→Option Value},(∀ v,(x,v)∉binds)→bindC kindOf binds m x=m x
 | [],_,_=>rfl
 | (n,v)::r,m,h=>by
  unfold bindC
  rw [bindC_out fun w hw=>h w (List.mem_cons_of_mem _ hw)]
  split
  ·rfl
  ·have:x≠n:=by rintro rfl; exact h v List.mem_cons_self
   simp [this]
theorem bindL_get {kindOf:Str→Option NameKind} {x:Str} {v:Value}:∀ {P:List Str} {vs:List Value} {i:Nat} {m:Str→Option Value},P.Nodup→P[i]?=some x→vs[i]?=some v→kindOf x=some .local →
  bindL kindOf (P.zip vs) m x=some v
 | [],_,_,_,_,h,_,_=>by simp at h
 | _::_,[],_,_,_,_,h,_=>by simp at h
 | p::P,w::vs,0,m,nd,h1,h2,hk=>by
  simp at h1 h2; subst h1; subst h2
  show bindL kindOf ((p,w)::P.zip vs) m p=_
  unfold bindL
  rw [bindL_out fun v hv=>(List.nodup_cons.mp nd).1 (List.of_mem_zip hv).1,if_pos hk]
  simp
 | p::P,w::vs,i+1,m,nd,h1,h2,hk=>by
  show bindL kindOf ((p,w)::P.zip vs) m x=_
  unfold bindL
  exact bindL_get (i:=i) (List.nodup_cons.mp nd).2 (by simpa using h1) (by simpa using h2) hk
theorem bindC_get {kindOf:Str→Option NameKind} {x:Str} {v:Value}:∀ {P:List Str} {vs:List Value} {i:Nat} {m:Str→Option Value},P.Nodup→P[i]?=some x→vs[i]?=some v→kindOf x≠some .local →
  bindC kindOf (P.zip vs) m x=some v
 | [],_,_,_,_,h,_,_=>by simp at h
 | _::_,[],_,_,_,_,h,_=>by simp at h
 | p::P,w::vs,0,m,nd,h1,h2,hk=>by
  simp at h1 h2; subst h1; subst h2
  show bindC kindOf ((p,w)::P.zip vs) m p=_
  unfold bindC
  rw [bindC_out fun v hv=>(List.nodup_cons.mp nd).1 (List.of_mem_zip hv).1,if_neg hk]
  simp
 | p::P,w::vs,i+1,m,nd,h1,h2,hk=>by
  show bindC kindOf ((p,w)::P.zip vs) m x=_
  unfold bindC
  exact bindC_get (i:=i) (List.nodup_cons.mp nd).2 (by simpa using h1) (by simpa using h2) hk
def start (N:List Str) (vs:List V):St:=vs.map some++List.replicate (N.length - vs.length) none
def cxOf (CX:CXT) (cm:Bool) (P:Program) (w:World) (K:PySem.W.Frag) (mg:Str→Option Value) (base:Heap) (N:List Str) (qual:Str) (scope:Scope) (f:Addr) (cd:Value) (A:Around) (outer:List Env) (s:Shared) (H:Hp) (E:XK):Cx where
 prog:=P
 w:=w
 K:=K
 mg:=mg
 base:=base
 A:=A.deeper (envOfC qual scope s.heap.objs.size f cd)
 N:=N
 s₀:=s
 H₀:=H
 env:=envOfC qual scope s.heap.objs.size f cd
 outer:=outer
 stack:=envOfC qual scope s.heap.objs.size f cd::outer
 ex:=[]
 calm:=cm
 fn:=fun _=>true
 pn:=[]
 xe:=fun e s'=>wpAny (model P w) (A.deeper (envOfC qual scope s.heap.objs.size f cd)) (leaving (envOfC qual scope s.heap.objs.size f cd) e) (fun _ s''=>CX outer H s E e s'') (fun e' s''=>CX outer H s E e' s'') s'
theorem cell_has {sc:Scope} {n:Nat} {x:Str} (h:sc.names.lookup x=some .cell):∃ c,(cellsFrom n sc.names []).lookup x=some c:=by
 have q:=PySem.W.cellsFrom_some sc.names n [] (.inl h)
 exact Option.isSome_iff_exists.mp q
theorem inv_start {CX:CXT} {cm:Bool} {P:Program} {w:World} {K:PySem.W.Frag} {mg:Str→Option Value} {base:Heap} {N ps:List Str} {qual:Str} {scope:Scope} {f:Addr} {cd:Value} {A:Around} {outer:List Env} {s s1:Shared} {H:Hp} {E:XK} {us:List Value} {vs:List V}
  (S:FnScope N ps scope) (hd:cm=true→A.handled=none) (e0:Env0 P w K mg base A outer s H) (hl:vs.length=ps.length) (r:Vals vs us)
  (x:InCallC s s.heap.objs.size (bindL (envOfC qual scope s.heap.objs.size f cd).kindOf (ps.zip us) fun _=>none) (cellsFrom (s.heap.objs.size+1) scope.names []) (bindC (envOfC qual scope s.heap.objs.size f cd).kindOf (ps.zip us) fun _=>none) s1) :
  Inv (cxOf CX cm P w K mg base N qual scope f cd A outer s H E) [] (start N vs) H s1:=by
 have hpl:ps.length≤N.length:=by have:=congrArg List.length S.pre; rw [List.length_take] at this; omega
 obtain ⟨h1,tk,rfl,hk⟩:=x.done
 have noA:∀ b:Addr,b∉(cxOf CX cm P w K mg base N qual scope f cd A outer s H E).ex:=fun b z=>absurd (show b∈([]:List Addr) from z) (by simp)
 refine ⟨⟨e0.mod,S.kind,rfl,rfl,Nat.le_refl _,fun y z c h1 h2=>?_,fun y hy=>?_,fun y c _ h=>?_,hd,Around.frames_deeper e0.frames,.inr ⟨rfl,rfl⟩,fun b z=>absurd z (noA b),e0.bs,e0.bsz,fun b _ _=>noA b,fun b z=>absurd z (noA b),e0.funs,e0.frf⟩,
  rfl,e0.bare,Un.kept hk,⟨_,x.toInCall.ns,fun i y v h1 h2 h3=>?_⟩,fun y c h=>⟨_,x.cell y c h⟩,e0.hok.fresh (Nat.le_refl _),fun y c h=>?_,fun p hp=>absurd (show p∈([]:List (Addr×Obj)) from hp) (by simp),e0.hok.kept hk,?_,e0.hdk⟩
 ·exact name_of_addr x.apart (PySem.mem_of_lookup h1) (PySem.mem_of_lookup h2)
 ·have hy:scope.names.lookup y=some .cell∨scope.names.lookup y=some .free:=hy
  rcases hy with hy|hy
  ·exact cell_has hy
  ·exact absurd rfl (S.nofree _ (PySem.mem_of_lookup hy))
 ·exact Nat.le_of_lt (x.above y c (PySem.mem_of_lookup h))
 ·have hi:i<vs.length:=by
   unfold start at h2
   by_cases hi:i<vs.length
   ·exact hi
   ·rw [List.getElem?_append_right (by simpa using hi)] at h2
    rw [List.getElem?_replicate] at h2
    split at h2 <;> cases h2
  have ha:vs[i]?=some v:=by
   unfold start at h2
   rw [List.getElem?_append_left (by simpa using hi),List.getElem?_map] at h2
   cases e:vs[i]? with
   | none=>rw [e] at h2; cases h2
   | some a=>rw [e] at h2; cases h2; rfl
  obtain ⟨u,hu,rv⟩:=r.get ha
  have hp:ps[i]?=some y:=by
   rw [← S.pre,List.getElem?_take_of_lt (by omega)]; exact h1
  have ndP:ps.Nodup:=by rw [← S.pre]; exact S.nd.sublist (List.take_sublist _ _)
  refine ⟨u,rv,?_⟩
  rcases S.par y (List.mem_of_getElem? hp) with k|k
  ·exact .inl ⟨k,bindL_get ndP hp hu k⟩
  ·obtain ⟨c,e⟩:=cell_has (n:=s.heap.objs.size+1) k
   refine .inr ⟨.inl k,c,e,?_⟩
   have q:=x.cell y c e
   rw [bindC_get ndP hp hu (by show scope.names.lookup y≠_; rw [k]; decide)] at q
   exact q
 ·exact e0.hok.fresh (Nat.le_of_lt (x.above y c (PySem.mem_of_lookup h)))
 ·unfold start
  show _=N.length
  rw [List.length_append,List.length_map,List.length_replicate]
  omega
theorem fn_of {CX:CXT} {cm:Bool} {P:Program} {w:World} {K:PySem.W.Frag} {mg:Str→Option Value} {base:Heap} {k:Nat} {f:Addr} {name qual:Str} {params:Arguments} {body:List Stmt} {scope:Scope} {dV kV doc pm cdv ct oc:Value} {an od:Option Addr}
  {osl:Array (Option Value)} {N ps:List Str} {sp:Sp} (lk:K.lookup f=some ⟨oc,od,.func (PySem.W.fnOf name qual params body scope dV kV doc pm an cdv ct),osl⟩) (hcd:PySem.W.codeIn K cdv qual=true) (S:FnScope N ps scope)
  (len:∀ vs H Q E,sp vs H Q E→vs.length=ps.length)
  (hbody:∀ (A:Around) (outer:List Env) (s:Shared) (H:Hp) (vs:List V) (Q:VK) (E:XK),Room cm k (A.deeper (envOfC qual scope s.heap.objs.size f cdv))→sp vs H Q E →
   ∃ t,PSs (cxOf CX cm P w K mg base N qual scope f cdv A outer s H E) body t∧t { nx:=fun _ H'=>Q .non H',rt:=Q } (start N vs) H) :
  FnOk P w K mg base CX cm (k+1) f (PySem.W.fnOf name qual params body scope dV kV doc pm an cdv ct) ps sp:=by
 refine ⟨len,fun A outer s H args us vs Q E hr e0 hb r hsp=>?_⟩
 have hl:=len _ _ _ _ hsp
 have KX:K.In s.heap:=e0.mod.kin.keeps fun b o e=>(e0.bs b o e).1
 have lim:s.heap.NoLimit:=e0.mod.nolimit.keeps fun b o e=>(e0.bs b o e).1
 have hkind:∀ y∈ps.zip us,scope.names.lookup y.1=some .local∨(scope.names.lookup y.1=some .cell∧((cellsFrom (s.heap.objs.size+1) scope.names []).lookup y.1).isSome=true):=fun ⟨n,v⟩ hy=>by
  rcases S.par n (List.of_mem_zip hy).1 with q|q
  ·exact .inl q
  ·exact .inr ⟨q,PySem.W.cellsFrom_some _ _ _ (.inl q)⟩
 refine codeAny_call_function hr.depth (KX _ _ lk) rfl S.co S.gen rfl (PySem.W.codeRec_of KX hcd) (hb _ _ _ _ ?_)
 refine wpAny_newFunctionEnv_cells S.kind hkind fun env he s1 x=>?_
 subst he
 refine ⟨lim.keeps x.toInCall.keep,codeAny_func ?_⟩
 obtain ⟨t,ht,hq⟩:=hbody A outer s H vs Q E (hr.deeper _) hsp
 have I:Inv (cxOf CX cm P w K mg base N qual scope f cdv A outer s H E) [] (start N vs) H s1:=inv_start S hr.hd e0 hl r x
 refine wpAny_mono (ht [] s1 (start N vs) H _ I hq) (fun fl s' hs=>?_) fun e s' hs=>hs
 have fin:∀ {σ':St} {H':Hp} {v:V} {u:Value},Inv (cxOf CX cm P w K mg base N qual scope f cdv A outer s H E) [] σ' H' s'→RelV v u→Q v H'→CE outer P w H s Q u s' :=
  fun {σ' H' v u} J rv q=>⟨v,H',J.os,J.bare,J.base,J.hok,rv,q⟩
 cases fl with
 | ret u =>
  obtain ⟨v,σ',H',J,rv,q⟩:=hs
  exact fin J rv q
 | next =>
  obtain ⟨σ',H',J,q⟩:=hs
  exact fin (v:=V.non) (u:=Value.none) J rfl q
 | brk =>
  obtain ⟨_,_,_,q⟩:=hs
  exact False.elim q
 | cont =>
  obtain ⟨_,_,_,q⟩:=hs
  exact False.elim q
end L2
namespace L2
open PySem PySem.Spec PyProof.Rows
section
variable {X:Cx} {x:Str} {p pos:Pos} {e:Expr} {es:List Expr} {t:TA} {id T:String} {r:List V→Hp→VK→Prop}
def tCB (r:List V→Hp→VK→Prop) (t:TA):TE:=fun σ H Q=>t σ H fun vs H1=>r vs H1 Q
theorem pe_callB (hc:CallR X (.builtin id) r) (hg:Gl X x) (hm:X.mg x=none) (hv:bootBuiltins x=some (.builtin id)) (ha:PA X (e::es) t) (hn:x≠"__name__":=by decide) (hdb:(x == ("__debug__" : Str))=false:=by decide)
  (he:starEach (e::es) X.env=(false,eval e X.env)::starEach es X.env:=by rfl) (hpl:(backTo pos (starEach es X.env)).any (·.1)=false:=by rfl):PE X (.Call (.Name x p) (e::es) [] pos) (tCB r t):=by
 intro pins s σ H Q I h
 refine wpAny_Call_Name_kw (ld_blt I hg hm hv ?_ hn hdb)
 exact PyProof.Rows.callWith_builtin1 (thn (ha pos pins s σ H _ I h) fun us s1 ⟨vs,H1,I1,r1,q1⟩=>hc pins s1 σ H1 vs us Q I1 r1 q1) he hpl
theorem pe_callTy (hc:CallR X (.type T) r) (hg:Gl X x) (hm:X.mg x=none) (hv:bootBuiltins x=some (.type T)) (ha:PA X (e::es) t) (hn:x≠"__name__":=by decide) (hdb:(x == ("__debug__" : Str))=false:=by decide)
  (he:starEach (e::es) X.env=(false,eval e X.env)::starEach es X.env:=by rfl) (hpl:(backTo pos (starEach es X.env)).any (·.1)=false:=by rfl):PE X (.Call (.Name x p) (e::es) [] pos) (tCB r t):=by
 intro pins s σ H Q I h
 refine wpAny_Call_Name_kw (ld_blt I hg hm hv ?_ hn hdb)
 exact PyProof.Rows.callWith_type1 (thn (ha pos pins s σ H _ I h) fun us s1 ⟨vs,H1,I1,r1,q1⟩=>hc pins s1 σ H1 vs us Q I1 r1 q1) he hpl
end
end L2
namespace HT
open PySem PyProof.Rows
section
open PySem.SeqAt
open PySem.AutoSeq1 (wpAny_loadPart')
open PySem.MeetsSeq PySem.MeetsSeq2 PySem.MeetsSeq3
end
section
variable {prog:Program} {w:World} {A:Around} {E:Value→Shared→Prop} {s:Shared}
def sIx (n d:Nat):Option Int→Nat
 | none=>d
 | some v=>if v<0 then (v+(n:Int)).toNat else min v.toNat n
end
end HT
namespace L2
open PySem PySem.Spec PyProof.Rows
abbrev TO:=St→Hp→(Option Int→Hp→Prop)→Prop
def PO (X:Cx) (e:Option Expr) (t:TO):Prop :=
 ∀ (pins:List (Addr×Obj)) (s:Shared) (σ:St) (H:Hp) (Q:Option Int→Hp→Prop),Inv X pins σ H s→t σ H Q →
  wpAny (model X.prog X.w) X.A (evalPart e X.env) (fun u s'=>∃ o H',Inv X pins σ H' s'∧IsPart u o∧Q o H') X.xe s
def tNoPart:TO:=fun _ H Q=>Q none H
def tPart (t:TE):TO:=fun σ H Q=>t σ H fun x H1=>∃ i,x = .int i∧Q (some i) H1
section
variable {X:Cx} {e:Expr} {te:TE} {lo hi:Option Expr} {tl th:TO} {pos p2:Pos}
theorem po_none:PO X none tNoPart:=by
 intro pins s σ H Q I h
 rw [evalPart_none]
 exact wpAny_pure ⟨none,H,I,.none,h⟩
theorem po_some (h:PE X e te):PO X (some e) (tPart te):=by
 intro pins s σ H Q I hw
 rw [evalPart_some]
 refine thn (h pins s σ H _ I hw) fun u s1 ⟨x,H1,I1,r1,q1⟩=>?_
 obtain ⟨i,rfl,q⟩:=q1
 obtain ⟨t,rfl⟩:=r1
 exact ⟨some i,H1,I1,.int i t,q⟩
def SlR (X:Cx) (r:V→Option Int→Option Int→Hp→VK→Prop):Prop :=
 ∀ (pins:List (Addr×Obj)) (s:Shared) (σ:St) (H:Hp) (x:V) (v vl vu:Value) (lo hi:Option Int) (sl:Addr) (Q:VK),Inv X pins σ H s→RelV x v→s.heap.IsSliceOf sl vl vu .none→IsPart vl lo→IsPart vu hi→r x lo hi H Q →
  ∃ T id,typeLookup (.type T) "__getitem__" = pure (some (.builtin id))∧s.TypeIs v T∧wpAny (model X.prog X.w) X.A (getItem v (.ref sl)) (EP X pins σ Q) X.xe s
theorem SlR.or {r r':V→Option Int→Option Int→Hp→VK→Prop} (h:SlR X r) (h':SlR X r'):SlR X (fun x lo hi H Q=>r x lo hi H Q∨r' x lo hi H Q):=by
 intro pins s σ H x v vl vu lo hi sl Q I rx hs pl pu q
 rcases q with q|q
 ·exact h pins s σ H x v vl vu lo hi sl Q I rx hs pl pu q
 ·exact h' pins s σ H x v vl vu lo hi sl Q I rx hs pl pu q
def tSl (r:V→Option Int→Option Int→Hp→VK→Prop) (te:TE) (tl th:TO):TE:=fun σ H Q=>te σ H fun x H1=>tl σ H1 fun l H2=>th σ H2 fun u H3=>r x l u H3 Q
theorem pe_slice {r:V→Option Int→Option Int→Hp→VK→Prop} (hr:SlR X r) (he:PE X e te) (hl:PO X lo tl) (hu:PO X hi th):PE X (.Subscript e (.Slice lo hi none p2) pos) (tSl r te tl th):=by
 intro pins s σ H Q I h
 refine Subscript_ (thn (he pins s σ H _ I h) fun v s1 ⟨x,H1,I1,r1,q1⟩=>?_)
 refine wpAny_Slice (thn (hl pins s1 σ H1 _ I1 q1) fun vl s2 ⟨l,H2,I2,pl,q2⟩=>thn (hu pins s2 σ H2 _ I2 q2) fun vu s3 ⟨u,H3,I3,pu,q3⟩=>?_)
 rw [evalPart_none]
 refine wpAny_pure ?_
 have I4:Inv X pins σ H3 { s3 with heap:=s3.heap.push { cls:=.type "slice",data:=.fields #[vl,vu,.none] } }:=I3.kept (t':=s3.toks) fun b ob q=>Heap.get?_push_of_some _ q
 obtain ⟨T,id,hT,ht,hg⟩:=hr pins { s3 with heap:=s3.heap.push { cls:=.type "slice",data:=.fields #[vl,vu,.none] } } σ H3 x v vl vu l u s3.heap.objs.size Q I4 r1 (Heap.IsSliceOf.new ..) pl pu q3
 show wpAny (model X.prog X.w) X.A (subscriptTail e (.Slice lo hi none p2) v (.ref s3.heap.objs.size)) (EP X pins σ Q) X.xe { s3 with heap:=s3.heap.push { cls:=.type "slice",data:=.fields #[vl,vu,.none] } }
 exact tail_any (ops:=[.ref s3.heap.objs.size,v]) ht hT hg (by with_unfolding_all rfl)
def cutV (xs:List V) (lo hi:Option Int):List V:=(xs.drop (HT.sIx xs.length 0 lo)).take (HT.sIx xs.length xs.length hi - HT.sIx xs.length 0 lo)
theorem cutV_length (xs:List V) (lo hi:Option Int):(cutV xs lo hi).length≤xs.length:=by
 unfold cutV
 rw [List.length_take,List.length_drop]
 omega
end
end L2
namespace L2
open PySem PySem.Spec PyProof.Rows
def ixN (n:Nat) (i:Int):Option Nat:=if 0≤i then (if i<n then some i.toNat else none) else if -(n:Int)≤i then some (i+n).toNat else none
def atI {α:Type} (xs:List α) (i:Int):Option α:=(ixN xs.length i).bind fun j=>xs[j]?
theorem ixN_seq {n:Nat} {i:Int} {j:Nat} (h:ixN n i=some j):seqIndex? i n=some j∧j<n∧-(n:Int)≤i∧i<n:=by
 unfold ixN at h
 by_cases h0:0≤i
 ·rw [if_pos h0] at h
  by_cases h1:i<n
  ·rw [if_pos h1] at h
   have e:i.toNat=j:=Option.some.inj h
   exact ⟨by rw [seqIndex_of h0 h1,e],by omega,by omega,h1⟩
  ·rw [if_neg h1] at h; cases h
 ·rw [if_neg h0] at h
  by_cases h1 : -(n:Int)≤i
  ·rw [if_pos h1] at h
   have e:(i+n).toNat=j:=Option.some.inj h
   exact ⟨by rw [seqIndex_neg (by omega) h1,e],by omega,h1,by omega⟩
  ·rw [if_neg h1] at h; cases h
theorem atI_get {α:Type} {xs:List α} {i:Int} {v:α} (h:atI xs i=some v):∃ j,seqIndex? i xs.length=some j∧xs[j]?=some v∧j<xs.length∧-(xs.length:Int)≤i∧i<xs.length:=by
 unfold atI at h
 cases e:ixN xs.length i with
 | none=>rw [e] at h; cases h
 | some j =>
  rw [e] at h
  obtain ⟨h1,h2,h3,h4⟩:=ixN_seq e
  exact ⟨j,h1,h,h2,h3,h4⟩
theorem atI_nat {α:Type} {xs:List α} {j:Nat} {v:α} (h:xs[j]?=some v):atI xs (j:Int)=some v:=by
 have hj:j<xs.length:=(List.getElem?_eq_some_iff.mp h).1
 have e:ixN xs.length (j:Int)=some j:=by
  unfold ixN
  rw [if_pos (by omega),if_pos (by omega)]; simp
 unfold atI; rw [e]; exact h
def PlainIx (b:Expr):Prop:=∀ o i,subscripted b false o i=operate [o,i] (getItem o i)
def IxR (X:Cx) (r:R2):Prop :=
 ∀ (value slice:Expr) (pins:List (Addr×Obj)) (s:Shared) (σ:St) (H:Hp) (x y:V) (v u:Value) (Q:VK),Inv X pins σ H s→RelV x v→RelV y u→r x y H Q →
  subscripted slice false v u=operate [v,u] (getItem v u)→wpAny (model X.prog X.w) X.A (subscriptTail value slice v u) (EP X pins σ Q) X.xe s
def MtR (X:Cx) (id:String) (r:V→List V→Hp→VK→Prop):Prop :=
 ∀ (pins:List (Addr×Obj)) (s:Shared) (σ:St) (H:Hp) (x:V) (xs:List V) (v:Value) (us:List Value) (Q:VK),Inv X pins σ H s→RelV x v→Vals xs us→r x xs H Q →
  wpAny (model X.prog X.w) X.A (call (.builtin id) (v::us)) (EP X pins σ Q) X.xe s
section
variable {X:Cx} {a b:Expr} {ta tb:TE} {pos:Pos}
theorem IxR.or {r r':R2} (h:IxR X r) (h':IxR X r'):IxR X (fun x y H Q=>r x y H Q∨r' x y H Q):=by
 intro value slice pins s σ H x y v u Q I rx ry q hs
 rcases q with q|q
 ·exact h value slice pins s σ H x y v u Q I rx ry q hs
 ·exact h' value slice pins s σ H x y v u Q I rx ry q hs
theorem pe_ix {r:R2} (hr:IxR X r) (ha:PE X a ta) (hb:PE X b tb) (hs:PlainIx b):PE X (.Subscript a b pos) (tOp r ta tb):=by
 intro pins s σ H Q I h
 exact Subscript_ (binT ha hb I h fun v u s2 x y H2 I2 rx ry q=>hr a b pins s2 σ H2 x y v u Q I2 rx ry q (hs _ _))
def rIxL (K:PySem.W.Frag):R2:=fun x y H Q=>∃ p xs i v,x = .ref p∧y = .int i∧SqL K H p xs∧atI xs i=some v∧Q v H
def rIxT (K:PySem.W.Frag):R2:=fun x y H Q=>∃ p xs i v,x = .ref p∧y = .int i∧SqT K H p xs∧atI xs i=some v∧Q v H
def rIxS:R2:=fun x y H Q=>∃ z i c,x = .str z∧y = .int i∧z.length≤sizeLine∧atI z.cps.toList i=some c∧Q (.str ⟨#[c]⟩) H
theorem ix_list:IxR X (rIxL X.K):=by
 intro value slice pins s σ H x y v u Q I rx ry h hs
 obtain ⟨p,xs,i,z,rfl,rfl,hq,he,q⟩:=h
 cases rx
 obtain ⟨t,rfl⟩:=ry
 obtain ⟨its,r,pl,hz⟩:=I.list hq
 obtain ⟨j,h1,h2,h3,h4,h5⟩:=atI_get he
 obtain ⟨w,ew,rw'⟩:=r.get h2
 have hl:=r.length
 have hn:=line63
 have fin:EP X pins σ Q w s:=⟨z,H,I,rw',q⟩
 by_cases h0:0≤i
 ·have hj:i.toNat=j:=by
   rw [seqIndex_of h0 h5] at h1
   exact Option.some.inj h1
  exact item_listR pl.isList h0 (by omega) (by rw [hj]; simpa using ew) fin hs
 ·have hj:(i+(its.toArray.size:Int)).toNat=j:=by
   rw [seqIndex_neg (by omega) h4] at h1
   rw [List.size_toArray,← hl]
   exact Option.some.inj h1
  exact subscriptTail_builtinR (x:=w) pl.isList.typeIs slot_list_getitem.lookup
   (wpAny_getItem_list_neg (Q:=fun r s'=>r=w∧EP X pins σ Q r s') pl.isList (by omega) (by rw [List.size_toArray] <;> omega) (by omega) (by rw [hj]; simpa using ew) ⟨rfl,fin⟩) hs
theorem ix_tup:IxR X (rIxT X.K):=by
 intro value slice pins s σ H x y v u Q I rx ry h hs
 obtain ⟨p,xs,i,z,rfl,rfl,hq,he,q⟩:=h
 cases rx
 obtain ⟨t,rfl⟩:=ry
 obtain ⟨its,r,pl,hz⟩:=I.tuple hq
 obtain ⟨j,h1,h2,h3,h4,h5⟩:=atI_get he
 obtain ⟨w,ew,rw'⟩:=r.get h2
 have hl:=r.length
 have hn:=line63
 have fin:EP X pins σ Q w s:=⟨z,H,I,rw',q⟩
 exact subscriptTail_builtinR (x:=w) pl.typeIs slot_tuple_getitem.lookup
  (getItem_tuple (j:=j) (Q:=fun r s'=>r=w∧EP X pins σ Q r s') pl (by omega) (by omega) (by rw [List.size_toArray,← hl]; exact h1) (by simpa using ew) ⟨rfl,fin⟩) hs
theorem ix_str:IxR X rIxS:=by
 intro value slice pins s σ H x y v u Q I rx ry h hs
 obtain ⟨z,i,c,rfl,rfl,hz,he,q⟩:=h
 obtain ⟨t,rfl⟩:=rx
 obtain ⟨t',rfl⟩:=ry
 obtain ⟨j,h1,h2,h3,h4,h5⟩:=atI_get he
 have hl:z.cps.toList.length=z.length:=by simp [Str.length]
 rw [hl] at h1 h4 h5
 have hn:=line63
 exact tail_any (typeIs_str s z t) slot_str_getitem.lookup (getItem_str (c:=c) (by
  have e1:decide (i < -(2 ^ 63:Int))=false:=decide_eq_false (by omega)
  have e2:decide (i ≥ 2 ^ 63)=false:=decide_eq_false (by omega)
  rw [e1,e2,Bool.or_false]) (by rw [h1]; simpa using h2) ⟨.str ⟨#[c]⟩,H,I.tok _,⟨_,rfl⟩,q⟩) hs
def rIx (K:PySem.W.Frag):R2:=fun x y H Q=>rIxL K x y H Q∨rIxT K x y H Q∨rIxS x y H Q
theorem ix_seq:IxR X (rIx X.K):=ix_list.or (ix_tup.or ix_str)
theorem mapSeq_set (its:List Value) (n j:Nat) (u:Value):Obj.mapSeq (·.setIfInBounds j u) { cls:=.type "list",data:=.seq its.toArray n }={ cls:=.type "list",data:=.seq (its.set j u).toArray n }:=by
 simp [Obj.mapSeq]
theorem Inv.lst {pins:List (Addr×Obj)} {σ:St} {H:Hp} {s:Shared} {p:Addr} {xs:List V} (I:Inv X pins σ H s) (h:H p=some (.lst xs)) :
  ∃ (its:List Value) (n:Nat),Vals xs its∧s.heap.get? p=some { cls:=.type "list",data:=.seq its.toArray n }∧xs.length≤sizeLine:=by
 obtain ⟨z,its,n,r,e⟩:=I.hok p _ h
 exact ⟨its,n,r,e,z⟩
theorem Inv.lstUpd {pins:List (Addr×Obj)} {σ:St} {H:Hp} {s:Shared} {p:Addr} {xs ys:List V} {its its':List Value} {n n':Nat} {f:Obj→Obj} (I:Inv X pins σ H s) (h:H p=some (.lst xs))
  (ho:s.heap.get? p=some { cls:=.type "list",data:=.seq its.toArray n }) (hf:f { cls:=.type "list",data:=.seq its.toArray n }={ cls:=.type "list",data:=.seq its'.toArray n' }) (r:Vals ys its') (hz:ys.length≤sizeLine) (t:Nat) :
  Inv X pins σ (upd H p (.lst ys)) { s with heap:=s.heap.update p f,toks:=t }:=by
 have e:(s.heap.update p f).get? p=some { cls:=.type "list",data:=.seq its'.toArray n' }:=by
  rw [Heap.get?_update_self f ho (by rw [hf] <;> rfl),hf]
 refine I.write (x:=p) (e:=p) (by rw [h]; trivial) (.inl rfl) (fun b u hb q=>(Heap.get?_update_other _ _ (Ne.symm hb)).trans q) ⟨_,e⟩ ?_
 exact ⟨hz,its',n',r,e⟩
def rSetL:V→V→V→Hp→(Hp→Prop)→Prop:=fun o i v H Q=>∃ p xs k j,o = .ref p∧i = .int k∧H p=some (.lst xs)∧ixN xs.length k=some j∧Q (upd H p (.lst (xs.set j v)))
theorem set_list:PSet X rSetL:=by
 intro pins s σ H o i v ov iv u Q I ro ri rv h
 obtain ⟨p,xs,k,j,rfl,rfl,hp,hj,q⟩:=h
 cases ro
 obtain ⟨t,rfl⟩:=ri
 obtain ⟨its,n,r,ho,hz⟩:=I.lst hp
 obtain ⟨h1,h2,h3,h4⟩:=ixN_seq hj
 have hl:=r.length
 have hn:=line63
 have I':Inv X pins σ (upd H p (.lst (xs.set j v))) { s with heap:=s.heap.update p (Obj.mapSeq (·.setIfInBounds j u)) } :=
  I.lstUpd hp ho (mapSeq_set its n j u) (r.set rv j) (by rw [List.length_set]; exact hz) s.toks
 by_cases h0:0≤k
 ·have hk:k.toNat=j:=by
   rw [seqIndex_of h0 h4] at h1
   exact Option.some.inj h1
  exact PySem.W.ki_setAt ho h0 (by omega) (by rw [List.size_toArray,← hl]; exact h4) (by rw [hk]; exact ⟨_,I',q⟩)
 ·have hk:(k+(its.toArray.size:Int)).toNat=j:=by
   rw [seqIndex_neg (by omega) h3] at h1
   rw [List.size_toArray,← hl]
   exact Option.some.inj h1
  exact PySem.W.ki_setBack ho (by omega) (by rw [List.size_toArray,← hl]; exact h3) (by omega) (by rw [hk]; exact ⟨_,I',q⟩)
theorem slice_bounds (lo hi:Option Int) (n:Nat):(sliceBounds lo hi none n).1=((HT.sIx n 0 lo:Nat):Int)∧(sliceBounds lo hi none n).2.1=((HT.sIx n n hi:Nat):Int)∧(sliceBounds lo hi none n).2.2=1:=by
 refine ⟨?_,?_,rfl⟩
 ·cases lo with
  | none=>simp [sliceBounds,HT.sIx]
  | some i =>
   simp only [sliceBounds,HT.sIx,Option.getD_none,show (1:Int)>0 by decide,if_true]
   by_cases h:i<0
   ·simp only [h,if_true] <;> omega
   ·simp only [h,if_false] <;> omega
 ·cases hi with
  | none=>simp [sliceBounds,HT.sIx]
  | some i =>
   simp only [sliceBounds,HT.sIx,Option.getD_none,show (1:Int)>0 by decide,if_true]
   by_cases h:i<0
   ·simp only [h,if_true] <;> omega
   ·simp only [h,if_false] <;> omega
theorem slicePick_cut (its:List Value) (lo hi:Option Int):slicePick its.toArray lo hi none=((its.drop (HT.sIx its.length 0 lo)).take (HT.sIx its.length its.length hi - HT.sIx its.length 0 lo)).toArray:=by
 obtain ⟨h1,h2,h3⟩:=slice_bounds lo hi its.toArray.size
 unfold slicePick
 rw [h1,h2,h3]
 simp only [sliceRange_one,pick_run,List.size_toArray] <;> rfl
def rSlL (K:PySem.W.Frag):V→Option Int→Option Int→Hp→VK→Prop:=fun x lo hi H Q=>∃ a xs,x = .ref a∧SqL K H a xs∧∀ p,H p=none→Q (.ref p) (upd H p (.lst (cutV xs lo hi)))
theorem sl_list:SlR X (rSlL X.K):=by
 intro pins s σ H x v vl vu lo hi sl Q I rx hs pl pu h
 obtain ⟨a,xs,rfl,hx,q⟩:=h
 cases rx
 obtain ⟨its,r,ht,hz⟩:=I.list hx
 have hlen:=r.length
 refine ⟨"list",_,slot_list_getitem.lookup,ht.isList.typeIs,?_⟩
 refine wpAny_getItem_list_slice ht.isList hs pl pu .none (by simp) ?_ (by rw [List.size_toArray] <;> omega)
 rw [slicePick_cut,← hlen]
 refine ⟨.ref s.heap.objs.size,_,I.laid (t':=s.toks) (o:=.lst (cutV xs lo hi)) (fun b ob q=>Heap.get?_push_of_some _ q) (Nat.le_refl _) ?_,rfl,q _ (I.hok.fresh (Nat.le_refl _))⟩
 exact ⟨Nat.le_trans (cutV_length xs lo hi) hz,_,0,(r.drop (HT.sIx xs.length 0 lo)).take (HT.sIx xs.length xs.length hi - HT.sIx xs.length 0 lo),Heap.get?_push_size _ rfl⟩
def flatV:V→Bool
 | .non=>true
 | .bl _=>true
 | .int _=>true
 | .str _=>true
 | _=>false
def eqV:V→V→Bool
 | .non,.non=>true
 | .bl a,.bl b=>a == b
 | .bl a,.int b=>(if a then 1 else 0) == b
 | .int a,.bl b=>a == (if b then 1 else 0)
 | .int a,.int b=>a == b
 | .str a,.str b=>a == b
 | _,_=>false
theorem eqAt_V {A:Around} {s:Shared} {y x:V} {u v:Value} (ry:RelV y u) (rx:RelV x v) (fy:flatV y=true) (fx:flatV x=true):SeqAt.EqAt A s u v (eqV y x):=by
 cases y with
 | non =>
  cases ry
  cases x with
  | non=>cases rx; exact SeqAt.EqAt.same _
  | bl b=>cases rx; exact SeqAt.EqAt.none_bool b
  | int b=>obtain ⟨t,rfl⟩:=rx; exact SeqAt.EqAt.none_int b t
  | str b=>obtain ⟨t,rfl⟩:=rx; exact SeqAt.EqAt.none_str b t
  | _=>exact absurd (show false=true from fx) Bool.false_ne_true
 | bl a =>
  cases ry
  cases x with
  | non=>cases rx; exact SeqAt.EqAt.bool_none a
  | bl b=>cases rx; exact SeqAt.EqAt.bool_bool a b
  | int b=>obtain ⟨t,rfl⟩:=rx; exact SeqAt.EqAt.bool_int a b t
  | str b=>obtain ⟨t,rfl⟩:=rx; exact SeqAt.EqAt.bool_str a b t
  | _=>exact absurd (show false=true from fx) Bool.false_ne_true
 | int a =>
  obtain ⟨t',rfl⟩:=ry
  cases x with
  | non=>cases rx; exact SeqAt.EqAt.int_none a t'
  | bl b=>cases rx; exact SeqAt.EqAt.int_bool a t' b
  | int b=>obtain ⟨t,rfl⟩:=rx; exact SeqAt.EqAt.int_int a t' b t
  | str b=>obtain ⟨t,rfl⟩:=rx; exact SeqAt.EqAt.int_str a t' b t
  | _=>exact absurd (show false=true from fx) Bool.false_ne_true
 | str a =>
  obtain ⟨t',rfl⟩:=ry
  cases x with
  | non=>cases rx; exact SeqAt.EqAt.str_none a t'
  | bl b=>cases rx; exact SeqAt.EqAt.str_bool a t' b
  | int b=>obtain ⟨t,rfl⟩:=rx; exact SeqAt.EqAt.str_int a t' b t
  | str b=>obtain ⟨t,rfl⟩:=rx; exact SeqAt.EqAt.str_str a t' b t
  | _=>exact absurd (show false=true from fx) Bool.false_ne_true
 | _=>exact absurd (show false=true from fy) Bool.false_ne_true
def eqU (x:V) (u:Value):Bool:=match u with
 | .none=>eqV .non x
 | .bool b=>eqV (.bl b) x
 | .int i _=>eqV (.int i) x
 | .str z _=>eqV (.str z) x
 | _=>false
theorem eqU_of {x y:V} {u:Value} (r:RelV y u) (f:flatV y=true):eqU x u=eqV y x:=by
 cases y with
 | non=>cases r; rfl
 | bl b=>cases r; rfl
 | int i=>obtain ⟨t,rfl⟩:=r; rfl
 | str z=>obtain ⟨t,rfl⟩:=r; rfl
 | _=>exact absurd (show false=true from f) Bool.false_ne_true
theorem any_eqU {x:V}:∀ {xs:List V} {us:List Value},Vals xs us→xs.all flatV=true→us.any (eqU x)=xs.any fun y=>eqV y x
 | _,_,.nil,_=>rfl
 | y::xs,u::us,.cons r t,f=>by
  rw [List.all_cons,Bool.and_eq_true] at f
  rw [List.any_cons,List.any_cons,eqU_of r f.1,any_eqU t f.2]
theorem mem_eqAt {A:Around} {s:Shared} {x:V} {v:Value} (rx:RelV x v) (fx:flatV x=true):∀ {xs:List V} {us:List Value},Vals xs us→xs.all flatV=true→∀ u∈us,SeqAt.EqAt A s u v (eqU x u)
 | _,_,.nil,_=>fun u hu=>by cases hu
 | y::xs,u::us,.cons r t,f=>fun u' hu=>by
  rw [List.all_cons,Bool.and_eq_true] at f
  rcases List.mem_cons.mp hu with rfl|hu
  ·rw [eqU_of r f.1]; exact eqAt_V r rx f.1 fx
  ·exact mem_eqAt rx fx t f.2 u' hu
def inV (x:V) (xs:List V):Bool:=xs.any fun y=>eqV y x
def rIn (K:PySem.W.Frag) (neg:Bool):R2:=fun x y H Q=>∃ p xs,y = .ref p∧(SqL K H p xs∨SqT K H p xs)∧flatV x=true∧xs.all flatV=true∧Q (.bl (if neg then !inV x xs else inV x xs)) H
theorem op_in_seq:OpR X (compareOp .In) (rIn X.K false):=by
 intro pins s σ H x y v u Q I rx ry h
 obtain ⟨p,xs,rfl,hq,fx,fs,q⟩:=h
 cases ry
 rcases hq with hq|hq
 ·obtain ⟨its,r,pl,hz⟩:=I.list hq
  refine SeqAt.in_listAt (eqU x) pl.isList (fun w hw=>mem_eqAt rx fx r fs w (by simpa using hw)) ⟨.bl _,H,I,rfl,?_⟩
  rw [show its.toArray.any (eqU x)=its.any (eqU x) by simp,any_eqU r fs]
  exact q
 ·obtain ⟨its,r,pl,hz⟩:=I.tuple hq
  refine SeqAt.in_tupleAt (eqU x) pl (fun w hw=>mem_eqAt rx fx r fs w (by simpa using hw)) ⟨.bl _,H,I,rfl,?_⟩
  rw [show its.toArray.any (eqU x)=its.any (eqU x) by simp,any_eqU r fs]
  exact q
theorem op_notIn_seq:OpR X (compareOp .NotIn) (rIn X.K true):=by
 intro pins s σ H x y v u Q I rx ry h
 obtain ⟨p,xs,rfl,hq,fx,fs,q⟩:=h
 cases ry
 rcases hq with hq|hq
 ·obtain ⟨its,r,pl,hz⟩:=I.list hq
  refine SeqAt.notIn_listAt (eqU x) pl.isList (fun w hw=>mem_eqAt rx fx r fs w (by simpa using hw)) ⟨.bl _,H,I,rfl,?_⟩
  rw [show its.toArray.any (eqU x)=its.any (eqU x) by simp,any_eqU r fs]
  exact q
 ·obtain ⟨its,r,pl,hz⟩:=I.tuple hq
  refine SeqAt.notIn_tupleAt (eqU x) pl (fun w hw=>mem_eqAt rx fx r fs w (by simpa using hw)) ⟨.bl _,H,I,rfl,?_⟩
  rw [show its.toArray.any (eqU x)=its.any (eqU x) by simp,any_eqU r fs]
  exact q
theorem call_len_seq:CallR X (.builtin "len") (fun xs H Q=>∃ p ys,xs=[.ref p]∧(SqL X.K H p ys∨SqT X.K H p ys)∧Q (.int ys.length) H):=by
 intro pins s σ H xs us Q I r h
 obtain ⟨p,ys,rfl,hq,q⟩:=h
 obtain ⟨u,rfl,rx⟩:=vals1 r
 cases rx
 have hn:=line63
 rcases hq with hq|hq
 ·obtain ⟨its,r',pl,hz⟩:=I.list hq
  have hlen:=r'.length
  exact Calls.call_len_list pl.isList (by simp only [List.size_toArray] <;> omega) ⟨.int ys.length,H,I.tok _,⟨s.toks+1,by rw [List.size_toArray,hlen]⟩,q⟩
 ·obtain ⟨its,r',pl,hz⟩:=I.tuple hq
  have hlen:=r'.length
  exact len_tuple pl (by simp only [List.size_toArray] <;> omega) ⟨.int ys.length,H,I.tok _,⟨s.toks+1,by rw [List.size_toArray,hlen]⟩,q⟩
theorem call_len_str:CallR X (.builtin "len") (fun xs H Q=>∃ z,xs=[.str z]∧z.length≤sizeLine∧Q (.int z.length) H):=by
 intro pins s σ H xs us Q I r h
 obtain ⟨z,rfl,hz,q⟩:=h
 obtain ⟨u,rfl,t,rfl⟩:=vals1 r
 have hn:=line63
 exact len_str (by omega) ⟨.int z.length,H,I.tok _,⟨_,rfl⟩,q⟩
theorem CallR.or {f:Value} {r r':List V→Hp→VK→Prop} (h:CallR X f r) (h':CallR X f r'):CallR X f (fun xs H Q=>r xs H Q∨r' xs H Q):=by
 intro pins s σ H xs us Q I rs q
 rcases q with q|q
 ·exact h pins s σ H xs us Q I rs q
 ·exact h' pins s σ H xs us Q I rs q
theorem call_tuple_of:CallR X (.type "tuple") (fun xs H Q=>∃ p ys,xs=[.ref p]∧((SqL X.K H p ys∧∀ l,H l=none→Q (.ref l) (upd H l (.tup ys)))∨(SqT X.K H p ys∧Q (.ref p) H))):=by
 intro pins s σ H xs us Q I r h
 obtain ⟨p,ys,rfl,h⟩:=h
 obtain ⟨u,rfl,rx⟩:=vals1 r
 cases rx
 rcases h with ⟨hq,q⟩|⟨hq,q⟩
 ·obtain ⟨its,r',pl,hz⟩:=I.list hq
  have hlen:=r'.length
  refine call_tuple_list pl.isList (fun h' kp=>?_) (by simp only [List.size_toArray] <;> omega)
  have I1:Inv X pins σ H { s with heap:=h' }:=I.kept (t':=s.toks) kp
  have I2:Inv X pins σ (upd H h'.objs.size (.tup ys)) { s with heap:=h'.push { cls:=.type "tuple",data:=.seq its.toArray } } :=
   I1.laid (t':=s.toks) (fun b o e=>Heap.get?_push_of_some _ e) (Nat.le_refl _) (show ObjOk X.prog X.w _ _ _ (.tup ys) from ⟨hz,its,r',IsTup.new _ _⟩)
  exact ⟨.ref h'.objs.size,_,I2,rfl,q _ (I1.hok.fresh (Nat.le_refl _))⟩
 ·obtain ⟨its,r',pl,hz⟩:=I.tuple hq
  exact call_tuple_same pl ⟨.ref p,H,I,rfl,q⟩
def tyV (K:PySem.W.Frag) (T:String) (x:V) (H:Hp):Prop:=match x with
 | .str _=>T = "str"
 | .int _=>T = "int"
 | .ref p=>(T = "list"∧∃ xs,SqL K H p xs)∨(T = "tuple"∧∃ o,K.lookup p=some o∧o.cls = .type "tuple"∧o.dict=none) ∨
   (T = "dict"∧((∃ kvs,H p=some (.dK kvs))∨∃ kvs,H p=some (.dT kvs)))∨(T = "set"∧∃ S n,H p=some (.set S n))
 | _=>False
theorem tyV_is {pins:List (Addr×Obj)} {σ:St} {H:Hp} {s:Shared} {T:String} {x:V} {v:Value} (I:Inv X pins σ H s) (r:RelV x v) (ty:tyV X.K T x H) :
  s.TypeIs v T∧∀ a,v = .ref a→∃ ob,s.heap.get? a=some ob∧ob.dict=none:=by
 cases x with
 | str z =>
  obtain ⟨t,rfl⟩:=r
  cases (show T = "str" from ty)
  exact ⟨typeIs_str s z t,fun _ e=>nomatch e⟩
 | int i =>
  obtain ⟨t,rfl⟩:=r
  cases (show T = "int" from ty)
  exact ⟨typeIs_int s i t,fun _ e=>nomatch e⟩
 | ref p =>
  cases r
  rcases ty with ⟨rfl,xs,hq⟩|⟨rfl,o,hk,hc,hd⟩|⟨rfl,hk⟩|⟨rfl,S,n,hk⟩
  ·obtain ⟨its,_,pl,_⟩:=I.list hq
   refine ⟨pl.isList.typeIs,fun a e=>?_⟩
   cases e
   obtain ⟨o,n,e,c,hd,_⟩:=pl
   exact ⟨o,e,hd⟩
  ·refine ⟨⟨o,I.kIn p o hk,hc⟩,fun a e=>?_⟩
   cases e
   exact ⟨o,I.kIn _ o hk,hd⟩
  ·have z:∃ o,s.heap.get? p=some o∧o.ExactDict:=by
    rcases hk with ⟨kvs,hk⟩|⟨kvs,hk⟩
    ·obtain ⟨_,_,_,_,o,_,_,e,ex,_⟩:=I.hok p _ hk
     exact ⟨o,e,ex⟩
    ·obtain ⟨_,_,_,_,o,_,_,e,ex,_⟩:=I.hok p _ hk
     exact ⟨o,e,ex⟩
   obtain ⟨o,e,ex⟩:=z
   refine ⟨⟨o,e,ex.1⟩,fun a e2=>?_⟩
   cases e2
   exact ⟨o,e,ex.2.1⟩
  ·obtain ⟨o,_,_,_,e,ex,_⟩:=I.hok p _ hk
   refine ⟨⟨o,e,ex.1⟩,fun a e2=>?_⟩
   cases e2
   exact ⟨o,e,ex.2.1⟩
 | _=>exact False.elim ty
variable {o e:Expr} {es:List Expr} {to:TE} {t:TA} {name:Str} {apos cpos:Pos} {T id:String} {r:V→List V→Hp→VK→Prop}
end
end L2
namespace L2
open PySem PySem.Spec PyProof.Rows
def MtM (X:Cx) (id:String) (r:V→List V→Hp→VK→Prop):Prop :=
 ∀ (pins:List (Addr×Obj)) (s:Shared) (σ:St) (H:Hp) (x:V) (xs:List V) (v:Value) (us:List Value) (Q:VK),Inv X pins σ H s→RelV x v→Vals xs us→r x xs H Q →
  wpAny (model X.prog X.w) X.A (call (.builtin id) (v::us)) (EP X pins σ Q) X.xe s
theorem Vals.one:∀ {x:V} {us:List Value},Vals [x] us→∃ u,us=[u]∧RelV x u
 | _,_,.cons r .nil=>⟨_,rfl,r⟩
theorem Vals.zero:∀ {us:List Value},Vals [] us→us=[]
 | _,.nil=>rfl
theorem Vals.dropLast {xs:List V} {us:List Value} (h:Vals xs us):Vals xs.dropLast us.dropLast:=by
 induction h with
 | nil=>exact .nil
 | cons r t ih =>
  cases t with
  | nil=>exact .nil
  | cons q t'=>exact .cons r ih
theorem Vals.eraseIdx:∀ {xs:List V} {us:List Value} (i:Nat),Vals xs us→Vals (xs.eraseIdx i) (us.eraseIdx i)
 | _,_,_,.nil=>.nil
 | _,_,0,.cons _ t=>t
 | _,_,i+1,.cons r t=>.cons r (Vals.eraseIdx i t)
theorem Vals.rep {xs:List V} {us:List Value} (h:Vals xs us):∀ k:Nat,Vals (List.replicate k xs).flatten (List.replicate k us).flatten
 | 0=>.nil
 | k+1=>by
  rw [List.replicate_succ,List.replicate_succ,List.flatten_cons,List.flatten_cons]
  exact Vals.append h (Vals.rep h k)
theorem erase_last {α:Type} (l:List α):l.eraseIdx (l.length - 1)=l.dropLast:=by
 induction l with
 | nil=>rfl
 | cons a r ih =>
  cases r with
  | nil=>rfl
  | cons b r =>
   have e:(a::b::r).length - 1=((b::r).length - 1)+1:=by
    have h1:(a::b::r).length=r.length+2:=rfl
    have h2:(b::r).length=r.length+1:=rfl
    omega
   rw [e,List.eraseIdx_cons_succ,ih]
   all_goals rfl
theorem foldl_rep (its:List Value):∀ (k:Nat) (acc:List Value),
  List.foldl (fun x1 x2=>x1++x2) acc.toArray (List.replicate k its.toArray)=(acc++(List.replicate k its).flatten).toArray
 | 0,acc=>by simp
 | k+1,acc=>by
  have e:acc.toArray++its.toArray=(acc++its).toArray:=by simp
  have e2:(acc++its)++(List.replicate k its).flatten=acc++(List.replicate (k+1) its).flatten:=by
   rw [List.replicate_succ,List.flatten_cons,List.append_assoc]
  rw [← e2,← foldl_rep its k (acc++its),← e,List.replicate_succ,List.foldl_cons]
section
variable {X:Cx} {pins:List (Addr×Obj)} {σ:St} {H:Hp} {s:Shared} {l b:Addr} {xs ys zs:List V}
theorem Inv.lset {its its':List Value} {n:Nat} {f:Array Value→Array Value} {t':Nat} (I:Inv X pins σ H s) (hH:H l=some (.lst xs))
  (e:s.heap.get? l=some { cls:=.type "list",data:=.seq its.toArray n }) (hf:f its.toArray=its'.toArray) (hv:Vals ys its') (hz:ys.length≤sizeLine) :
  Inv X pins σ (upd H l (.lst ys)) { s with heap:=s.heap.update l (Obj.mapSeq f),toks:=t' }:=by
 have q:=PySem.IsL.update e f
 rw [hf] at q
 refine I.write (x:=l) (e:=l) (by rw [hH]; exact trivial) (.inl rfl) (fun b' u hb hu=>(Heap.get?_update_other s.heap (Obj.mapSeq f) (Ne.symm hb)).trans hu) ⟨_,q⟩ ?_
 exact ⟨hz,its',_,hv,q⟩
theorem Inv.lnew {its:List Value} {t':Nat} (I:Inv X pins σ H s) (hv:Vals ys its) (hz:ys.length≤sizeLine) :
  Inv X pins σ (upd H s.heap.objs.size (.lst ys)) { s with heap:=s.heap.push { cls:=.type "list",data:=.seq its.toArray },toks:=t' } :=
 I.laid (fun _ _ q=>Heap.get?_push_of_some _ q) (Nat.le_refl _) ⟨hz,its,0,hv,Heap.get?_push_size _ rfl⟩
theorem Inv.fresh (I:Inv X pins σ H s):H s.heap.objs.size=none:=I.hok.fresh (Nat.le_refl _)
theorem Inv.lstM (I:Inv X pins σ H s) (hH:H l=some (.lst xs)):xs.length≤sizeLine∧∃ (its:List Value) (n:Nat),Vals xs its∧xs.length=its.length∧s.heap.get? l=some { cls:=.type "list",data:=.seq its.toArray n }:=by
 obtain ⟨z,its,n,r,e⟩:=I.hok l _ hH
 exact ⟨z,its,n,r,r.length,e⟩
theorem notLongL {n:Nat} (h:n≤sizeLine):Builtin.List.listTooLong n=false:=by
 unfold Builtin.List.listTooLong
 exact decide_eq_false (by omega)
end
section
variable {X:Cx}
def rAppend:V→List V→Hp→VK→Prop:=fun x vs H Q=>∃ l xs y,x = .ref l∧vs=[y]∧H l=some (.lst xs)∧xs.length<sizeLine∧Q .non (upd H l (.lst (xs++[y])))
theorem mt_append:MtM X "list.append" rAppend:=by
 intro pins s σ H x vs v us Q I rx rv h
 obtain ⟨l,xs,y,rfl,rfl,hH,hz,q⟩:=h
 cases rx
 obtain ⟨u,rfl,ru⟩:=rv.one
 obtain ⟨z,its,n,r,hl,e⟩:=I.lstM hH
 refine call_meets F.slot_list_append ⟨_,e,rfl⟩ F.entry_list_append (F.args_list_append_2 _ _) (PySem.list_append l its.toArray n u (by rw [List.size_toArray]; omega)) ⟨e,?_⟩
 refine ⟨.non,_,I.lset (its':=its++[u]) hH e (by simp) (r.append (.cons ru .nil)) ?_,rfl,q⟩
 rw [List.length_append,List.length_singleton]
 omega
def rExtend:V→List V→Hp→VK→Prop:=fun x vs H Q=>∃ l b xs zs,x = .ref l∧vs=[.ref b]∧H l=some (.lst xs)∧H b=some (.lst zs)∧xs.length+zs.length≤sizeLine∧Q .non (upd H l (.lst (xs++zs)))
theorem mt_extend:MtM X "list.extend" rExtend:=by
 intro pins s σ H x vs v us Q I rx rv h
 obtain ⟨l,b,xs,zs,rfl,rfl,hH,hB,hz,q⟩:=h
 cases rx
 obtain ⟨u,rfl,ru⟩:=rv.one
 cases ru
 obtain ⟨z,its,n,r,hl,e⟩:=I.lstM hH
 obtain ⟨z2,its2,n2,r2,hl2,e2⟩:=I.lstM hB
 have hsz:its.toArray.size+its2.toArray.size≤sizeLine:=by rw [List.size_toArray,List.size_toArray]; omega
 have hlong : ¬ (!its.toArray.isEmpty && Builtin.List.listTooLong (its.toArray.size+its2.toArray.size))=true:=by
  rw [notLongL hsz,Bool.and_false]
  exact Bool.false_ne_true
 refine call_meets F.slot_list_extend ⟨_,e,rfl⟩ F.entry_list_extend (F.args_list_extend_2 _ _)
  (AutoSeq1.list_extend_list_list_0 l its.toArray n b its2.toArray n2 hlong (by rw [List.size_toArray]; omega) (by omega)) ⟨e,e2,?_⟩
 refine ⟨.non,_,I.lset (its':=its++its2) hH e (by simp) (r.append r2) ?_,rfl,q⟩
 rw [List.length_append]
 omega
def rPop:V→List V→Hp→VK→Prop:=fun x vs H Q=>∃ l xs y,x = .ref l∧vs=[]∧H l=some (.lst xs)∧xs[xs.length - 1]?=some y∧Q y (upd H l (.lst xs.dropLast))
theorem mt_pop:MtM X "list.pop" rPop:=by
 intro pins s σ H x vs v us Q I rx rv h
 obtain ⟨l,xs,y,rfl,rfl,hH,hy,q⟩:=h
 cases rx
 have hus:=rv.zero
 subst hus
 obtain ⟨z,its,n,r,hl,e⟩:=I.lstM hH
 obtain ⟨u,hu,ru⟩:=r.get hy
 have hy':its.toArray[its.toArray.size - 1]?=some u:=by
  show its.toArray[its.length - 1]?=some u
  rw [← Array.getElem?_toList,← hl]
  exact hu
 refine call_meets F.slot_list_pop ⟨_,e,rfl⟩ F.entry_list_pop (F.args_list_pop_1 _) (MeetsSeq.list_pop_last l its.toArray n u hy' (by rw [List.size_toArray]; omega)) ⟨e,?_⟩
 refine ⟨y,_,I.lset (its':=its.dropLast) hH e ?_ r.dropLast ?_,ru,q⟩
 ·show its.toArray.eraseIdxIfInBounds (its.toArray.size - 1)=its.dropLast.toArray
  rw [List.size_toArray,List.eraseIdxIfInBounds_toArray,erase_last]
 ·rw [List.length_dropLast]
  omega
def rClear:V→List V→Hp→VK→Prop:=fun x vs H Q=>∃ l xs,x = .ref l∧vs=[]∧H l=some (.lst xs)∧Q .non (upd H l (.lst []))
theorem mt_clear:MtM X "list.clear" rClear:=by
 intro pins s σ H x vs v us Q I rx rv h
 obtain ⟨l,xs,rfl,rfl,hH,q⟩:=h
 cases rx
 have hus:=rv.zero
 subst hus
 obtain ⟨z,its,n,r,hl,e⟩:=I.lstM hH
 refine call_meets F.slot_list_clear ⟨_,e,rfl⟩ F.entry_list_clear (F.args_list_clear_1 _) (AutoSeq1.list_clear_list_0 l its.toArray n (by rw [List.size_toArray]; omega)) ⟨e,?_⟩
 exact ⟨.non,_,I.lset (its':=[]) (ys:=[]) hH e rfl .nil (Nat.zero_le _),rfl,q⟩
def rCat:R2:=fun x y H Q=>∃ l b xs zs,x = .ref l∧y = .ref b∧H l=some (.lst xs)∧H b=some (.lst zs)∧xs.length+zs.length≤sizeLine∧∀ p,H p=none→Q (.ref p) (upd H p (.lst (xs++zs)))
theorem op_cat:OpR X (binaryOp .Add) rCat:=by
 intro pins s σ H x y v u Q I rx ry h
 obtain ⟨l,b,xs,zs,rfl,rfl,hH,hB,hz,q⟩:=h
 cases rx
 cases ry
 obtain ⟨z,its,n,r,hl,e⟩:=I.lstM hH
 obtain ⟨z2,its2,n2,r2,hl2,e2⟩:=I.lstM hB
 refine PySem.P.add_list e e2 ?_ (by rw [List.size_toArray,List.size_toArray]; omega)
 have ea:its.toArray++its2.toArray=(its++its2).toArray:=by simp
 rw [ea]
 exact ⟨.ref _,_,I.lnew (t':=s.toks) (r.append r2) (by rw [List.length_append]; omega),rfl,q _ I.fresh⟩
def rRep:R2:=fun x y H Q=>∃ l k xs,x = .ref l∧y = .int k∧H l=some (.lst xs)∧-(2 ^ 63)≤k∧k<2 ^ 63∧xs.length*k.toNat≤sizeLine ∧
 ∀ p,H p=none→Q (.ref p) (upd H p (.lst (List.replicate k.toNat xs).flatten))
theorem len_rep {α:Type} (xs:List α) (k:Nat):(List.replicate k xs).flatten.length=k*xs.length:=by
 induction k with
 | zero=>simp
 | succ k ih=>rw [List.replicate_succ,List.flatten_cons,List.length_append,ih,Nat.succ_mul,Nat.add_comm]
theorem op_rep:OpR X (binaryOp .Mult) rRep:=by
 intro pins s σ H x y v u Q I rx ry h
 obtain ⟨l,k,xs,rfl,rfl,hH,h1,h2,hz,q⟩:=h
 cases rx
 obtain ⟨t,rfl⟩:=ry
 obtain ⟨z,its,n,r,hl,e⟩:=I.lstM hH
 have hlen:its.toArray.size*k.toNat≤sizeLine:=by rw [List.size_toArray,← hl]; exact hz
 have hcap : ¬ its.toArray.size*k.toNat>(2 ^ 63 - 1) / 8:=by
  have:(sizeLine:Nat)≤(2 ^ 63 - 1) / 8:=by decide
  omega
 have hfit : ¬ (!Builtin.List.listFitsIndex k)=true:=by
  rw [fitsIndex_both h1 h2]
  exact Bool.false_ne_true
 have hlong : ¬ Builtin.List.listTooLong (its.toArray.size*k.toNat)=true:=by
  rw [notLongL hlen]
  exact Bool.false_ne_true
 have hnew:List.foldl (fun x1 x2=>x1++x2) #[] (List.replicate (if its.toArray.isEmpty=true then 0 else k.toNat) its.toArray)=(List.replicate k.toNat its).flatten.toArray:=by
  have f0:∀ m:Nat,List.foldl (fun x1 x2=>x1++x2) #[] (List.replicate m its.toArray)=(List.replicate m its).flatten.toArray:=fun m=>by
   have:=foldl_rep its m []
   rw [List.nil_append] at this
   exact this
  rw [f0]
  cases its with
  | nil=>simp
  | cons a r'=>rw [if_neg (by simp)]
 refine wpAny_binaryOp_repeat_ref (T:="list") (U:="int") (by decide) ⟨_,e,rfl⟩ (fun s'=>typeIs_int s' k t) noFill_list_mul F.fills_int_mul F.slot_int_rmul repeat_list F.slot_int_index.lookup
  (call_meets F.slot_int_rmul (typeIs_int s k t) F.entry_int_rmul (F.args_int_rmul_2 _ _) (int___rmul___int_list k t l its.toArray n)
   ⟨e,rfl,⟨_,e,rfl⟩,call_meets F.slot_list_mul ⟨_,e,rfl⟩ F.entry_list_mul (F.args_list_mul_2 _ _) (AutoListH.list___mul___list_int_3 l its.toArray n k t hfit hcap hlong) ⟨e,?_⟩⟩)
 rw [hnew]
 exact ⟨.ref _,_,I.lnew (t':=s.toks) (r.rep k.toNat) (by rw [len_rep,Nat.mul_comm]; exact hz),rfl,q _ I.fresh⟩
end
section
variable {prog:Program} {w:World} {A:Around} {E:Value→Shared→Prop} {s:Shared}
end
section
variable {X:Cx}
end
end L2
namespace Att
open PySem PySem.W PySem.Calls PyProof.Rows
theorem ints_of_wellAll {P:Params} {h:Heap}:∀ (ns:List Int) (vs:List Value),WellAll P h vs (ns.map WData.int)→IntsAre vs ns:=by
 intro ns
 induction ns with
 | nil =>
  intro vs w
  rw [List.map_nil] at w
  cases w
  exact .nil
 | cons n ns ih =>
  intro vs w
  rw [List.map_cons] at w
  cases w with
  | cons a b =>
   cases a
   exact .cons _ _ (ih _ b)
theorem script_of {l:OpenLaw} {n:Nat} (hn:l.most=some n) {P:Params} {h:Heap} {args:List WData} {vals:List Value}
  (hpre:l.row.toRowW.claim.pre args=true) (hwl:WellAll P h vals args) :
  ∃ a vs ns,vals=[Value.ref a]∧args=[WData.list (ns.map WData.int)]∧h.get? a=some { cls:=.type "list",data:=.seq vs.toArray }∧IntsAre vs ns∧ns.length≤n:=by
 have hsh:WShape.hasAll [] args [.list .int]=true:=(pre_splitW hpre).1
 have hc:l.pre.holds [] { args:=args }=true:=(pre_splitW hpre).2
 obtain ⟨d,r,rfl,h1,h2⟩:=hasAllW_cons hsh
 obtain rfl:=hasAllW_nil h2
 obtain ⟨xs,rfl,h3⟩:=hasW_list h1
 obtain ⟨ns,rfl⟩:=items_int h3
 have hlen:ns.length≤n:=by
  unfold OpenLaw.pre at hc
  have h4:(WTm.not (.lt (.lit (.int (n:Int))) (.len (.arg 0)))).holds [] { args:=[.list (ns.map .int)] }=true:=by
   have h4:=(holds_andW hc).1
   rw [hn] at h4
   exact h4
  have h5:=condW_of h4 (w_not (w_lt w_lit (w_len_list (w_arg rfl))))
  rw [List.length_map] at h5
  refine Nat.le_of_not_lt fun q=>?_
  have q':(n:Int)<((ns.length:Nat):Int):=by omega
  first
   | (rw [decide_eq_true q'] at h5; exact absurd h5 (by decide))
   | (simp at h5; omega)
 cases hwl with
 | cons w1 w2 =>
  cases w2
  cases w1 with
  | list ho hall=>exact ⟨_,_,ns,rfl,rfl,ho,ints_of_wellAll ns _ hall,hlen⟩
theorem post_true (l:OpenLaw) (args:List WData):l.row.toRowW.claim.post args (.bool true) args=true :=
 postW_of (r:=l.row.toRowW) (X:=(true == true))
  (show WShape.has [] (.bool true) .bool=true by first|rfl|decide|simp [WShape.has,WShape.arms,WShape.armsAll])
  (show (WTm.eq .res (.lit (.bool true))).value [] { args:=args,res:=some (.bool true),after:=args }=some (.bool (true == true)) from w_eq_bool (w_res rfl) w_lit) rfl
theorem attach_call {l:OpenLaw} {n:Nat} {q:Program} {loose:List Str} {XP:(Str→Option Value)→Heap→Prop} {YP:World→Heap→Prop} {d:DefRec}
  (hn:l.most=some n) (hdf:d.params.defaults=[])
  (call:∀ (w:World) (s₀ s₁:Shared) (mg mb:Str→Option Value) (fa:Addr) (o:Obj) (pm cd doc:Value) (a:Addr) (vs:List Value) (ns:List Int),
   Ground q loose [] XP w s₀ mg mb s₁.heap→YP w s₁.heap →
   s₁.heap.get? fa=some o→o.data = .func (docDef d.name d.params d.body d.scope pm cd doc)→s₁.heap.CodeRec cd d.name→mg d.name=some (.ref fa) →
   s₁.heap.get? a=some { cls:=.type "list",data:=.seq vs.toArray }→IntsAre vs ns→ns.length≤n→s₁.gens = #[] →
   codeAny (model l.prog w) callerA (.call (.ref fa) ⟨[.ref a],[]⟩) (fun r s'=>r = .ok (.ret (.bool true))∧OldK s₁.heap s'.heap∧s'.os=s₁.os∧AllBare s'.gens) s₁) :
  WalkO q loose XP YP l.row.toRowW d [] (fun f vs=>PySem.call f vs):=by
 intro w s₀ s₁ mg mb G Y fa o pm cd doc dV kV ho hd hcd hD hmg hg args vals as hpre hlay hrd hwl hlo
 obtain rfl:dV = .none:=Dflts.none hD hdf
 obtain rfl:kV = .none:=Dflts.noKw hD
 obtain ⟨a,vs,ns,rfl,rfl,hobj,hints,hlen⟩:=script_of hn hpre hwl
 refine enter_call (codeAny_mono (call w s₀ s₁ mg mb fa o pm cd doc a vs ns G Y ho (fd_plain hd) hcd hmg hobj hints hlen hg) fun r s' hq=>?_)
 obtain ⟨rfl,h2,h3,h4⟩:=hq
 exact ⟨.inl ⟨.bool true,.bool true,[],rfl,fun _=>rfl,.bool true,post_true l _,fun _=>⟨List.Pairwise.nil,fun _ hm=>(nomatch hm)⟩⟩,h2,h3,h4⟩
section
variable {prog:Program} {w:World} {A:Around} {E:Value→Shared→Prop} {s:Shared} {K:Frag}
end
end Att
namespace L2
open PySem PySem.Spec PyProof.Rows
theorem vals_ints:∀ {vs:List Value} {ns:List Int},IntsAre vs ns→Vals (ns.map V.int) vs
 | _,_,.nil=>.nil
 | _,_,.cons n t h=>.cons ⟨t,rfl⟩ (vals_ints h)
end L2
namespace L2
open PySem PySem.Spec PyProof.Rows
end L2
namespace L2
open PySem PySem.Spec PyProof.Rows
def inClass (s:Stmt) (j:Nat):Stmt:=match s with
 | .ClassDef _ _ _ body _ _ _ _ _ _ _=>body.getD j (.Pass ⟨0,0,0,0⟩)
 | _=>.Pass ⟨0,0,0,0⟩
def defArgs (s:Stmt):Arguments:=match s with
 | .FunctionDef _ a _ _ _ _ _ _ _ _=>a
 | _=>{ posonlyargs:=[],args:=[],vararg:=none,kwonlyargs:=[],kw_defaults:=[],kwarg:=none,defaults:=[] }
def defBody (s:Stmt):List Stmt:=match s with
 | .FunctionDef _ _ b _ _ _ _ _ _ _=>b
 | _=>[]
def defScope (s:Stmt):Scope:=match s with
 | .FunctionDef _ _ _ _ _ _ sc _ _ _=>sc
 | _=>{ kind:=.function,names:=[],isGenerator:=false,isCoroutine:=false }
abbrev CX0:CXT:=fun _ _ _ _ _ _=>False
abbrev E0:XK:=fun _ _ _=>False
theorem pass0 {X:Cx}:Passes CX0 X E0:=fun _ _ _ _ _ _ _ h=>h.elim
structure Fun (K:PySem.W.Frag) (x qual:Str) (st:Stmt) (f:Addr) (fd:FuncData):Prop where
 ex:∃ (oc:Value) (od:Option Addr) (kV doc pm:Value) (an:Option Addr) (cdv ct:Value) (osl:Array (Option Value)),
  fd=PySem.W.fnOf x qual (defArgs st) (defBody st) (defScope st) .none kV doc pm an cdv ct∧K.lookup f=some ⟨oc,od,.func fd,osl⟩∧PySem.W.codeIn K cdv qual=true
 kp:PySem.W.keepIn K (.ref f)=true
section
variable {P:Program} {w:World} {K:PySem.W.Frag} {mg:Str→Option Value} {base:Heap}
theorem Fun.ok {x qual:Str} {st:Stmt} {f:Addr} {fd:FuncData} {N ps:List Str} {cm:Bool} {k:Nat} {sp:Sp} (F:Fun K x qual st f fd) (S:FnScope N ps (defScope st)) (len:∀ vs H Q E,sp vs H Q E→vs.length=ps.length)
  (hbody:∀ (cdv:Value) (A:Around) (outer:List Env) (s:Shared) (H:Hp) (vs:List V) (Q:VK) (E:XK),Room cm k (A.deeper (envOfC qual (defScope st) s.heap.objs.size f cdv))→sp vs H Q E →
   ∃ t,PSs (cxOf CX0 cm P w K mg base N qual (defScope st) f cdv A outer s H E).nox (defBody st) t∧t { nx:=fun _ H'=>Q .non H',rt:=Q } (start N vs) H):FnOk P w K mg base CX0 cm (k+1) f fd ps sp:=by
 obtain ⟨oc,od,kV,doc,pm,an,cdv,ct,osl,rfl,lk,hcd⟩:=F.ex
 refine fn_of lk hcd S len fun A outer s H vs Q E hr hsp=>?_
 obtain ⟨t,h,q⟩:=hbody cdv A outer s H vs Q E hr hsp
 exact ⟨t,h.nox,q⟩
theorem Fun.binds {x qual:Str} {st:Stmt} {f:Addr} {fd:FuncData} {ps:List Str} (F:Fun K x qual st f fd)
  (h:∀ (kV doc pm:Value) (an:Option Addr) (cdv ct:Value) (us:List Value),us.length=ps.length→bindArgs (PySem.W.fnOf x qual (defArgs st) (defBody st) (defScope st) .none kV doc pm an cdv ct) ⟨us,[]⟩=pure (ps.zip us)):Binds K fd ps []:=by
 obtain ⟨oc,od,kV,doc,pm,an,cdv,ct,osl,rfl,lk,hcd⟩:=F.ex
 exact .all (h kV doc pm an cdv ct)
theorem fun_mk {x qual:Str} {st:Stmt} {f:Addr} {oc:Value} {od an:Option Addr} {osl:Array (Option Value)} {kV doc pm cdv ct:Value} (l:K.lookup f=some ⟨oc,od,.func (PySem.W.fnOf x qual (defArgs st) (defBody st) (defScope st) .none kV doc pm an cdv ct),osl⟩)
  (c:PySem.W.codeIn K cdv qual=true) (k:PySem.W.keepIn K (.ref f)=true):Fun K x qual st f (PySem.W.fnOf x qual (defArgs st) (defBody st) (defScope st) .none kV doc pm an cdv ct):=⟨⟨oc,od,kV,doc,pm,an,cdv,ct,osl,rfl,l,c⟩,k⟩
end
theorem hu_of {A:Around} {c:Bool} {k:Nat} (hr:Room c k A):A.units+1<cLine:=Nat.lt_of_le_of_lt (Nat.add_le_add_left (by decide:1≤64) _) hr.units
theorem small1000 {n:Nat} (h:n≤1000):n<sizeLine:=Nat.lt_of_le_of_lt h (by decide)
section
variable {X:Cx}
theorem pv (i:Nat) {x:Str} {pos:Pos} (hN:X.N[i]?=some x:=by rfl) (hv:Vis X.env.scope x:=by first|exact Or.inl rfl|exact Or.inr (Or.inl rfl)|exact Or.inr (Or.inr rfl)) (hd:(x == ("__debug__" : Str))=false:=by decide)
  (hcd:(x == ("__classdict__" : Str))=false:=by decide):PE X (.Name x pos) (tVar i):=pe_var hN hv hd hcd
end
theorem iteF {A B:Prop} (h:B):if false=true then A else B:=by
 rw [if_neg Bool.false_ne_true]
 exact h
theorem iteT {A B:Prop} (h:A):if true=true then A else B:=by
 rw [if_pos rfl]
 exact h
theorem ite2 {c A B:Prop} [Decidable c] (h1:c→A) (h2 : ¬ c→B):if c then A else B:=by
 by_cases h:c
 ·rw [if_pos h]
  exact h1 h
 ·rw [if_neg h]
  exact h2 h
def Same (H H':Hp):Prop:=∀ b o,H b=some o→H' b=some o
theorem Same.refl (H:Hp):Same H H:=fun _ _ h=>h
theorem Same.trans {H H1 H2:Hp} (a:Same H H1) (b:Same H1 H2):Same H H2:=fun c o h=>b c o (a c o h)
theorem Same.free {H H':Hp} (e:Same H H') {l:Addr} (h:H' l=Option.none):H l=Option.none:=by
 cases q:H l with
 | none=>rfl
 | some o =>
  rw [e l o q] at h
  cases h
end L2
set_option Elab.async false
set_option linter.all false
set_option maxRecDepth 100000
set_option maxHeartbeats 4000000
namespace L2
open PySem PySem.Spec PyProof.Rows
def closL (cells:List (Str×Addr)):List (Str×NameKind)→List (Str×Addr)→List (Str×Addr)
 | [],cs=>cs
 | (n,k)::r,cs=>closL cells r (if k == .free then (match cells.lookup n with|some c=>(n,c)::cs|none=>cs) else cs)
theorem closureFor_eq {scope:Scope} {env:Env} (h:∀ y∈scope.names,y.2 = .free→∃ c,env.cells.lookup y.1=some c):closureFor scope env=pure (closL env.cells scope.names []):=by
 simp only [closureFor]
 have all:∀ (l:List (Str×NameKind)) (cs:List (Str×Addr)),(∀ y∈l,y.2 = .free→∃ c,env.cells.lookup y.1=some c) →
   (forIn l cs fun (x:Str×NameKind) (r:List (Str×Addr))=>match x with|(name,kind)=>if (kind == NameKind.free)=true then do let a←cellOf env name; pure (ForInStep.yield ((name,a)::r)) else pure (ForInStep.yield r):Sem (List (Str×Addr)))=pure (closL env.cells l cs):=by
  intro l
  induction l with
  | nil=>intro cs _; rfl
  | cons y r ih =>
   intro cs hy
   obtain ⟨n,k⟩:=y
   rw [List.forIn_cons]
   by_cases hk:k = .free
   ·subst hk
    obtain ⟨c,hc⟩:=hy (n,.free) List.mem_cons_self rfl
    have hc':env.cells.lookup n=some c:=hc
    simp only [cellOf,hc',closL,beq_self_eq_true,if_true]
    exact ih _ fun z hz=>hy z (List.mem_cons_of_mem _ hz)
   ·have hb:(k == NameKind.free)=false:=by simpa using hk
    simp only [closL,hb,Bool.false_eq_true,if_false]
    exact ih _ fun z hz=>hy z (List.mem_cons_of_mem _ hz)
 have e:=all scope.names [] h
 show (do let cs←forIn scope.names [] _; pure cs)=_
 first
  | (rw [bind_pure]; exact e)
  | exact e
  | (simpa using e)
theorem closL_of {cells:List (Str×Addr)}:∀ {l:List (Str×NameKind)} {cs:List (Str×Addr)} {x:Str} {c:Addr},(closL cells l cs).lookup x=some c→cs.lookup x=some c∨(cells.lookup x=some c∧(x,NameKind.free)∈l)
 | [],_,_,_,h=>.inl h
 | (n,k)::r,cs,x,c,h=>by
  unfold closL at h
  rcases closL_of h with h|⟨h1,h2⟩
  ·by_cases hk:k = .free
   ·subst hk
    simp only [beq_self_eq_true,if_true] at h
    cases e:cells.lookup n with
    | none=>rw [e] at h; exact .inl h
    | some c' =>
     rw [e] at h
     simp only [List.lookup_cons] at h
     by_cases hx:x=n
     ·subst hx
      simp only [beq_self_eq_true] at h
      cases h
      exact .inr ⟨e,List.mem_cons_self⟩
     ·have hb:(x == n)=false:=by simpa using hx
      rw [hb] at h
      exact .inl h
   ·have hb:(k == NameKind.free)=false:=by simpa using hk
    rw [hb] at h
    exact .inl h
  ·exact .inr ⟨h1,List.mem_cons_of_mem _ h2⟩
theorem closL_keep {cells:List (Str×Addr)}:∀ {l:List (Str×NameKind)} {cs:List (Str×Addr)} {x:Str},(cs.lookup x).isSome=true→((closL cells l cs).lookup x).isSome=true
 | [],_,_,h=>h
 | (n,k)::r,cs,x,h=>by
  unfold closL
  refine closL_keep ?_
  split
  ·split
   ·simp only [List.lookup_cons]
    split
    ·rfl
    ·exact h
   ·exact h
  ·exact h
theorem closL_has {cells:List (Str×Addr)}:∀ {l:List (Str×NameKind)} {cs:List (Str×Addr)} {x:Str} {c:Addr},(x,NameKind.free)∈l→cells.lookup x=some c→((closL cells l cs).lookup x).isSome=true
 | (n,k)::r,cs,x,c,hm,hc=>by
  unfold closL
  rcases List.mem_cons.mp hm with e|hm
  ·cases e
   refine closL_keep ?_
   simp only [beq_self_eq_true,if_true,hc,List.lookup_cons]
   rfl
  ·exact closL_has hm hc
def lcStat (sc:Scope) (names:List (Str×NameKind)) (N N':List Str) (ix:List (Option Nat)):Bool :=
 sc.kind == .function && sc.names.all (fun y=>y.2 != .cell && (y.2 != .local || sc.names.lookup y.1 == some .local) && (y.2 != .free || (names.lookup y.1 == some .cell && sc.names.lookup y.1 == some .free)) ) &&
 ix.length == N'.length && (List.range ix.length).all (fun i=>match ix.getD i none with
  | none=>true
  | some j=>(match N'[i]?,N[j]? with|some x,some y=>x == y && sc.names.lookup x == some .free|_,_=>false))
def pick (ix:List (Option Nat)) (σ:St):St:=ix.map fun o=>o.bind fun j=>(σ[j]?).join
structure LcOk (X:Cx) (sc:Scope) (N':List Str) (ix:List (Option Nat)):Prop where
 kind:sc.kind = .function
 cell:∀ y∈sc.names,y.2≠.cell
 names:∀ y∈sc.names,y.2 = .local→sc.names.lookup y.1=some .local
 free:∀ y∈sc.names,y.2 = .free→X.env.kindOf y.1=some .cell∧sc.names.lookup y.1=some .free
 len:ix.length=N'.length
 at_:∀ (i j:Nat),ix[i]?=some (some j)→∃ x,N'[i]?=some x∧X.N[j]?=some x∧sc.names.lookup x=some .free
theorem LcOk.of {X:Cx} {sc:Scope} {N':List Str} {ix:List (Option Nat)} (h:lcStat sc X.env.scope.names X.N N' ix=true):LcOk X sc N' ix:=by
 unfold lcStat at h
 simp only [Bool.and_eq_true,List.all_eq_true] at h
 obtain ⟨⟨⟨h1,h2⟩,h3⟩,h4⟩:=h
 refine ⟨by simpa using h1,fun y hy=>?_,fun y hy hk=>?_,fun y hy hk=>?_,by simpa using h3,fun i j e=>?_⟩
 ·simpa using (h2 y hy).1.1
 ·have q:=(h2 y hy).1.2
  rw [hk] at q
  simpa using q
 ·have q:=(h2 y hy).2
  rw [hk] at q
  simp only [bne_self_eq_false,Bool.false_or,Bool.and_eq_true,beq_iff_eq] at q
  exact q
 ·have hi:i<ix.length:=(List.getElem?_eq_some_iff.mp e).1
  have:=h4 i (List.mem_range.mpr hi)
  have eg:ix.getD i none=some j:=by rw [List.getD_eq_getElem?_getD,e]; rfl
  rw [eg] at this
  dsimp only at this
  cases e1:N'[i]? with
  | none=>rw [e1] at this; simp at this
  | some x =>
   cases e2:X.N[j]? with
   | none=>rw [e1,e2] at this; simp at this
   | some y =>
    rw [e1,e2] at this
    simp only [Bool.and_eq_true,beq_iff_eq] at this
    exact ⟨x,rfl,by rw [this.1],this.2⟩
def cxLC (X:Cx) (sc:Scope) (N':List Str) (pins:List (Addr×Obj)) (C:Addr) (fp:List Addr) (s:Shared) (H:Hp):Cx :=
 { X with N:=N',s₀:=s,H₀:=H,env:=compEnvC sc (closL X.env.cells sc.names []) C X.env,outer:=X.stack,stack:=X.stack,ex:=fp,fn:=fun _=>false,pn:=X.pn++pins,xe:=fun _ _=>False }
theorem HOk.add {P:Program} {w:World} {H:Hp} {h:Heap} {D:Addr} {o:HO} (x:HOk P w H h) (hn:H D=none) (new:ObjOk P w (upd H D o) h D o):HOk P w (upd H D o) h:=fun b u e=>by
 by_cases hb:b=D
 ·subst hb; rw [upd_same] at e; cases e; exact new
 ·rw [upd_ne hb] at e
  exact (x b u e).stay (fun _ _ _ q=>q) (fun c q=>by rw [upd_ne (ne_of_none q hn)]; exact q) fun c xs q=>by rw [upd_ne (ne_of_none q hn)]; exact q
theorem HOk.but {P:Program} {w:World} {H:Hp} {h h':Heap} {C:Addr} (x:HOk P w H h) (hn:H C=none) (k:∀ b u,b≠C→h.get? b=some u→h'.get? b=some u):HOk P w H h':=fun b u e =>
 (x b u e).stay (fun c v hc q=>k c v (by
  rcases hc with z|z
  ·rw [z]; exact ne_of_none e hn
  ·exact ne_of_none z hn) q) (fun _ q=>q) fun _ _ q=>q
theorem relabel_look {sc:Scope} {env:Env} (hk:env.scope.kind = .function) (hf:∀ y∈sc.names,y.2 = .free→env.kindOf y.1=some .cell) :
  ∀ x,(relabel sc env).names.lookup x=(sc.names.lookup x).map fun k=>if k == .free then .cell else k:=by
 intro x
 have em:(relabel sc env).names=sc.names.map fun y=>(y.1,if y.2 == .free then NameKind.cell else y.2):=by
  show sc.names.map _=_
  refine List.map_congr_left fun y hy=>?_
  obtain ⟨n,k⟩:=y
  by_cases hk':k = .free
  ·subst hk'
   have e:env.kindOf n=some .cell:=hf (n,.free) hy rfl
   simp [hk,e]
  ·have hb:(k == NameKind.free)=false:=by simpa using hk'
   simp [hb]
 rw [em]
 generalize sc.names=l
 induction l with
 | nil=>rfl
 | cons y r ih =>
  obtain ⟨n,k⟩:=y
  simp only [List.map_cons,List.lookup_cons]
  cases x == n with
  | true=>rfl
  | false=>exact ih
section
variable {X:Cx} {sc:Scope} {N':List Str} {ix:List (Option Nat)}
theorem pick_get {σ:St} {i:Nat} {v:V} (h:(pick ix σ)[i]?=some (some v)):∃ j,ix[i]?=some (some j)∧σ[j]?=some (some v):=by
 unfold pick at h
 rw [List.getElem?_map] at h
 cases e:ix[i]? with
 | none=>rw [e] at h; cases h
 | some o =>
  rw [e] at h
  have h':(o.bind fun j=>(σ[j]?).join)=some v:=Option.some.inj h
  cases o with
  | none=>cases h'
  | some j =>
   have h'':(σ[j]?).join=some v:=h'
   cases e2:σ[j]? with
   | none=>rw [e2] at h''; cases h''
   | some z =>
    rw [e2] at h''
    have:z=some v:=h''
    exact ⟨j,rfl,by rw [e2,this]⟩
theorem inv_lc {pins:List (Addr×Obj)} {σ:St} {H:Hp} {s:Shared} {fp:List Addr} {h₁:Heap} {C:Addr} {tk:Nat} {m:Str→Option Value} (I:Inv X pins σ H s) (L:LcOk X sc N' ix) (f:∀ b∈fp,FpOk X pins H b) (fl:∀ b∈fp,b<s.heap.objs.size)
  (hC:s.heap.objs.size≤C) (hns:h₁.Ns C m) (old:∀ b o,s.heap.get? b=some o→h₁.get? b=some o) :
  Inv (cxLC X sc N' pins C fp s H) [] (pick ix σ) H { s with heap:=h₁,toks:=tk }:=by
 have cof:∀ x c,(closL X.env.cells sc.names []).lookup x=some c→X.env.cells.lookup x=some c∧(x,NameKind.free)∈sc.names:=fun x c h=>by
  rcases closL_of h with h|h
  ·cases h
  ·exact h
 have rl:=relabel_look (sc:=sc) (env:=X.env) I.ok.kind fun y hy hk=>(L.free y hy hk).1
 have chas:∀ x,sc.names.lookup x=some .free→∃ c,(closL X.env.cells sc.names []).lookup x=some c∧X.env.cells.lookup x=some c:=fun x hx=>by
  have hm:(x,NameKind.free)∈sc.names:=PySem.mem_of_lookup hx
  obtain ⟨c,hc⟩:=I.ok.has x (.inl (L.free _ hm rfl).1)
  obtain ⟨c',hc'⟩:=Option.isSome_iff_exists.mp (closL_has (cs:=[]) hm hc)
  exact ⟨c',hc',(cof x c' hc').1⟩
 refine ⟨⟨I.ok.mod,L.kind,I.ok.glob,I.ok.blt,hC,fun x y c h1 h2=>I.ok.inj x y c (cof x c h1).1 (cof y c h2).1,fun x hx=>?_,fun x c h=>(nomatch h),I.ok.hd,I.ok.frames,.inl rfl,fun b hb=>⟨Nat.ne_of_lt (Nat.lt_of_lt_of_le (fl b hb) hC),fun x c h=>(f b hb).2.2.2.2.1 x c (cof x c h).1⟩,
   I.bs,Nat.le_trans I.ok.bsz I.sz,fun b o e hb=>?_,fun b hb z=>?_,I.stack,I.stkFree⟩,rfl,I.bare,Un.kept old,⟨m,hns,fun i x v e1 e2 e3=>?_⟩,fun x c h=>?_,I.hok.fresh hC,fun x c h=>I.freeC x c (cof x c h).1,fun p hp=>?_,I.hok.kept old,?_,I.hdk⟩
 ·have hx':(relabel sc X.env).names.lookup x=some .cell∨(relabel sc X.env).names.lookup x=some .free:=hx
  rw [rl x] at hx'
  cases e:sc.names.lookup x with
  | none=>rw [e] at hx'; simp at hx'
  | some k =>
   have hk:k = .free:=by
    cases k with
    | free=>rfl
    | cell=>exact absurd rfl (L.cell _ (PySem.mem_of_lookup e))
    | _=>rw [e] at hx'; revert hx'; decide
   subst hk
   obtain ⟨c,h1,_⟩:=chas x e
   exact ⟨c,h1⟩
 ·rcases (f b hb).2.2.2.1 with z|z
  ·exact I.ok.noex b o e z
  ·exact absurd (Nat.lt_of_lt_of_le (Heap.lt_size (I.ok.bs b o e).1) z) (Nat.lt_irrefl _)
 ·rcases List.mem_cons.mp (I.stkSub b z) with e|e
  ·exact (f b hb).2.1 e
  ·exact (f b hb).2.2.1 e
 ·obtain ⟨j,hj,hv⟩:=pick_get e2
  obtain ⟨y,n1,n2,n3⟩:=L.at_ i j hj
  have exy:x=y:=Option.some.inj ((show N'[i]?=some x from e1).symm.trans n1)
  subst exy
  obtain ⟨c,c1,c2⟩:=chas x n3
  have kf:=(L.free _ (PySem.mem_of_lookup n3) rfl).1
  obtain ⟨m0,hn0,hl⟩:=I.loc
  obtain ⟨u,r,l⟩:=hl j x v n2 hv (.inr (.inl kf))
  refine ⟨u,r,.inr ⟨.inl ?_,c,c1,?_⟩⟩
  ·show (relabel sc X.env).names.lookup x=some .cell
   rw [rl x,n3]; rfl
  ·rcases l with ⟨hk,_⟩|⟨_,c',hc',z⟩
   ·have kf':X.env.kindOf x=some .cell:=kf
    rw [hk] at kf'; cases kf'
   ·rw [c2] at hc'
    cases hc'
    obtain ⟨oc,ho,hd⟩:=z
    exact ⟨oc,old _ _ ho,hd⟩
 ·obtain ⟨v,oc,ho,hd⟩:=I.cell x c (cof x c h).1
  exact ⟨v,oc,old _ _ ho,hd⟩
 ·have hp':p∈X.pn++pins:=by
   have:p∈(X.pn++pins)++[]:=hp
   simpa using this
  obtain ⟨a,b,c,d,e⟩:=I.pin p hp'
  exact ⟨old _ _ a,b,Nat.ne_of_lt (Nat.lt_of_lt_of_le (Heap.lt_size a) hC),fun z=>(List.mem_cons.mp (I.stkSub p.1 z)).elim c d,e⟩
 ·show (pick ix σ).length=N'.length
  unfold pick
  rw [List.length_map,L.len]
end
def PTs (X:Cx) (ifs:List Expr) (t:TT):Prop :=
 ∀ (pins:List (Addr×Obj)) (s:Shared) (σ:St) (H:Hp) (Q:Bool→Hp→Prop),Inv X pins σ H s→t σ H Q →
  wpAny (model X.prog X.w) X.A (forIn ifs true fun c r=>if r=true then do let ok←isTrue c X.env (eval c X.env); pure (ForInStep.yield ok) else pure (ForInStep.yield r)) (TP X pins σ Q) X.xe s
def tAll:TT:=fun _ H Q=>Q true H
theorem pts_nil {X:Cx}:PTs X [] tAll:=fun _ _ _ H _ I h=>wpAny_tests_nil ⟨H,I,h⟩
theorem pts_one {X:Cx} {c:Expr} {t:TT} (h:PT X c t):PTs X [c] t:=fun pins s σ H Q I q=>wpAny_tests_one (h pins s σ H Q I q)
theorem compLoop_gen {prog:Program} {w:World} {A:Around} {R:Result→Shared→Prop} {s:Shared} {elt target iter:Expr} {ifs:List Expr} {scope:Scope} {pos:Pos} {it acc:Value} {env:Env} (I:Nat→Shared→Prop)
  (turn:∀ n s,I n s→wpAny (model prog w) A (pyNext it) (fun r s₁=>match r with
   | none=>R (.ok .next) s₁
   | some v=>wpAny (model prog w) A (letOwnedTupleGo target it v) (fun _ s₁'=>wpAny (model prog w) A (assign target env v) (fun _ s₂ =>
     wpAny (model prog w) A (forIn ifs true fun c r=>if r=true then do let ok←isTrue c env (eval c env); pure (ForInStep.yield ok) else pure (ForInStep.yield r)) (fun ok s₃ =>
      if ok=true then wpAny (model prog w) A (eval elt env) (fun x s₄ =>
       wpAny (model prog w) A (call (.builtin "list.append") [acc,x]) (fun _ s₅=>∃ m,m<n∧I m s₅) (fun _ _=>False) s₄) (fun _ _=>False) s₃
      else ∃ m,m<n∧I m s₃) (fun _ _=>False) s₂) (fun _ _=>False) s₁') (fun _ _=>False) s₁) (fun _ _=>False) s)
  (n:Nat) (h:I n s):codeAny (model prog w) A (.compLoop (.ListComp elt [⟨target,iter,ifs,0⟩] scope pos) 0 it acc env) R s:=by
 refine codeAny_loop rfl I (fun n s hI=>?_) n h
 show wpAny _ A ((compTurn (.ListComp elt [⟨target,iter,ifs,0⟩] scope pos) 0 it acc env).onRaise (fun x=>do noteFrame x env; theTreesLotGoes x)) _ _ s
 refine wpAny_noted (wpAny_mono (E:=fun _ _=>False) ?_ (fun _ _ q=>q) fun _ _ z=>z.elim)
 rw [compTurn_list]
 refine wpAny_bind (wpAny_standAt (wpAny_bind (wpAny_mono (turn n s hI) (fun r s₁ h₁=>?_) fun _ _ h'=>h')))
 cases r with
 | none=>exact wpAny_pure h₁
 | some v =>
  refine wpAny_bind (wpAny_mono h₁ (fun _ s₁' h₁'=>?_) fun _ _ h'=>h')
  refine wpAny_bind (wpAny_mono h₁' (fun _ s₂ h₂=>wpAny_bind (wpAny_mono h₂ (fun ok s₃ h₃=>?_) fun _ _ h'=>h')) fun _ _ h'=>h')
  cases ok with
  | false=>exact wpAny_pure ⟨rfl,h₃⟩
  | true=>exact wpAny_bind (wpAny_bind (wpAny_mono h₃ (fun x s₄ h₄=>wpAny_bind (wpAny_mono h₄ (fun _ s₅ h₅=>wpAny_pure (wpAny_pure ⟨rfl,h₅⟩)) fun _ _ h'=>h')) fun _ _ h'=>h'))
def tLC (ix:List (Option Nat)) (wi:TI) (g:TG) (tt:TT) (te:TE):TE:=fun σ H Q=>wi σ H fun J H1=>∃ W:Nat→Nat→St→List V→Hp→Prop,(∃ m,W 0 m (pick ix σ) [] H1)∧∀ i m τ ys H2,W i m τ ys H2→ys.length<sizeLine ∧
 ((J.stop i H2 ∧ ∀ D, H2 D = none → D ≠ sysModules → Q (.ref D) (upd H2 D (.lst ys))) ∨
  (J.go i H2 ∧ ∀ x H3, J.yld i H2 x H3 → g x τ H3 fun τ1 H4 => tt τ1 H4 fun ok H5 => if ok = true then te τ1 H5 fun y H6 => ∃ m', m' < m ∧ W (i + 1) m' τ1 (ys ++ [y]) H6 else ∃ m', m' < m ∧ W (i + 1) m' τ1 ys H5))
theorem pe_lc {c:Bool} {X:Cx} {elt tg iter:Expr} {ifs:List Expr} {sc:Scope} {pos:Pos} {N':List Str} {ix:List (Option Nat)} {wi:TI} {g:TG} {tt:TT} {te:TE} (hc:c=true→X.calm=true) (L:LcOk X sc N' ix) (hi:PIc c X tg iter wi)
  (hg:∀ pins C fp s H,PG (cxLC X sc N' pins C fp s H) tg g) (ht:∀ pins C fp s H,PTs (cxLC X sc N' pins C fp s H) ifs tt) (he:∀ pins C fp s H,PE (cxLC X sc N' pins C fp s H) elt te)
  (hs:∀ x,foldedSetIterable iter X.env x=pure x:=by intro _; rfl):PE X (.ListComp elt [⟨tg,iter,ifs,0⟩] sc pos) (tLC ix wi g tt te):=by
 intro pins s σ H Q I h
 rw [eval_ListComp]
 have hclos:closureFor sc X.env=pure (closL X.env.cells sc.names []):=closureFor_eq fun y hy hk=>I.ok.has y.1 (.inl (L.free y hy hk).1)
 refine wpAny_comprehension_free (use:=none) rfl hs hclos L.kind L.names (thn (hi pins s σ H _ I h) fun v s1 h1=>thn h1 fun itv s2 h2=>?_)
 obtain ⟨it,fp,tn,J,H2,e,I2,T,st2,f2,W,⟨m0,w0⟩,turn⟩:=h2
 subst e
 refine wpAny_newObj_type (wpAny_newFunctionEnv L.cell (by intro y hy; simp at hy) (fun h₁ hns₁ hsb₁=>?_) L.kind)
 dsimp only at hns₁ hsb₁ ⊢
 generalize hH2:s2.heap.push { cls:=.type "list",dict:=none,data:=.seq ([]:List Value).toArray }=G2 at hns₁ hsb₁ ⊢
 have hC:G2.objs.size=s2.heap.objs.size+1:=by rw [← hH2,Heap.size_push]
 have hDC:s2.heap.objs.size≠G2.objs.size:=by rw [hC]; exact Nat.ne_of_lt (Nat.lt_succ_self _)
 have hCle:s2.heap.objs.size≤G2.objs.size:=by rw [hC]; exact Nat.le_succ _
 have below:∀ b,b<s2.heap.objs.size→b≠G2.objs.size∧b≠s2.heap.objs.size:=fun b hb=>⟨by rw [hC]; exact Nat.ne_of_lt (Nat.lt_succ_of_lt hb),Nat.ne_of_lt hb⟩
 have old:∀ b o,s2.heap.get? b=some o→h₁.get? b=some o:=fun b o e=>hsb₁.extBut b o (below b (Heap.lt_size e)).1 (Heap.get?_push_of_some _ (hH2 ▸ Heap.get?_push_of_some _ e))
 have hacc:h₁.get? s2.heap.objs.size=some { cls:=.type "list",data:=.seq ([]:List Value).toArray 0 }:=hsb₁.extBut _ _ hDC (Heap.get?_push_of_some _ (hH2 ▸ Heap.get?_push_size _ rfl))
 have fl:∀ b∈fp,b<s2.heap.objs.size:=fun b hb=>by
  obtain ⟨o,e,_⟩:=T.obj 0 _ st2 b hb
  exact Heap.lt_size e
 have hDfp:s2.heap.objs.size∉fp:=fun z=>Nat.lt_irrefl _ (fl _ z)
 generalize hD:s2.heap.objs.size=D at *
 generalize hCe:G2.objs.size=C at *
 have cof:∀ x c,(closL X.env.cells sc.names []).lookup x=some c→X.env.cells.lookup x=some c:=fun x c h=>by
  rcases closL_of h with h|h
  ·cases h
  ·exact h.1
 have st1:tn 0 h₁:=T.keep _ _ _ st2 fun b _ o e=>old b o e
 have I3:Inv (cxLC X sc N' pins C fp s2 H2) [] (pick ix σ) H2 { s2 with heap:=h₁,toks:=s2.toks+([]:List (Str×Value)).length }:=inv_lc I2 L f2 (fun b hb=>by rw [hD]; exact fl b hb) (by rw [hD]; exact hCle) hns₁ old
 have D0:H2 D=none:=I2.hok.fresh (Nat.le_of_eq hD)
 have fD:∀ {H':Hp},H' D=none→FpOk (cxLC X sc N' pins C fp s2 H2) [] H' D:=fun {H'} hn=>by
  refine ⟨hn,hDC,fun z=>?_,.inr (Nat.le_of_eq hD),fun x c hx z=>?_,fun p hp z=>?_⟩
  ·obtain ⟨_,o,ho,_⟩:=I2.stack.mem (show D∈frs X.stack from z)
   exact absurd (Heap.lt_size ho) (by rw [hD]; exact Nat.lt_irrefl _)
  ·obtain ⟨v,q⟩:=I2.cell x c (cof x c hx)
   have:=q.lt
   rw [z,hD] at this
   exact Nat.lt_irrefl _ this
  ·have hp':p∈X.pn++pins:=by
    have:p∈(X.pn++pins)++[]:=hp
    simpa using this
   have:=Heap.lt_size (I2.pin p hp').1
   rw [z,hD] at this
   exact Nat.lt_irrefl _ this
 have fF:∀ {H':Hp},(∀ b∈fp,H' b=none)→∀ b∈fp,FpOk (cxLC X sc N' pins C fp s2 H2) [] H' b:=fun {H'} hn b hb=>by
  obtain ⟨_,g1,g2,g3,g4,g5⟩:=f2 b hb
  refine ⟨hn b hb,(below b (fl b hb)).1,fun z=>?_,.inl hb,fun x c hx=>g4 x c (cof x c hx),fun p hp=>g5 p ?_⟩
  ·rcases List.mem_cons.mp (I2.stkSub b z) with e|e
   ·exact g1 e
   ·exact g2 e
  ·have:p∈(X.pn++pins)++[]:=hp
   simpa using this
 have loop:∀ s₃:Shared,s₃={ s2 with heap:=h₁,toks:=s2.toks+([]:List (Str×Value)).length } →
   codeAny (model X.prog X.w) X.A (.compLoop (.ListComp elt [⟨tg,iter,ifs,0⟩] sc pos) 0 (.ref it) (.ref D) (compEnvC sc (closL X.env.cells sc.names []) C X.env))
    (compPost (model X.prog X.w) X.A X.xe none (EP X pins σ Q) (.ref D) C) s₃:=by
  rintro s₃ rfl
  refine compLoop_gen (fun n s'=>∃ i τ ys H',Inv (cxLC X sc N' pins C fp s2 H2) [] τ H' s'∧tn i s'.heap∧(∀ b∈fp,H' b=none)∧H' D=none∧(∃ its k,Vals ys its∧s'.heap.get? D=some { cls:=.type "list",data:=.seq its.toArray k })∧W i n τ ys H')
   ?_ m0 ⟨0,_,[],H2,I3,st1,fun b hb=>(f2 b hb).1,D0,⟨[],0,.nil,hacc⟩,w0⟩
  rintro n s4 ⟨i,τ,ys,H4,I4,st4,fr4,dn4,⟨its,k,rv,dg⟩,w4⟩
  obtain ⟨hlen,step⟩:=turn i n τ ys H4 w4
  rcases step with ⟨stop,fin⟩|⟨go,step⟩
  ·refine thn (T.done (cxLC X sc N' pins C fp s2 H2) rfl rfl rfl hc i [(D,({ cls:=.type "list",data:=.seq its.toArray k }:Obj))] s4 τ H4 (fun _ _=>False) (I4.pins_of fun p hp=>?_) (fun b hb=>?_) st4 stop) fun r s5 ⟨hr,I5⟩=>?_
   ·have e:p=(D,{ cls:=.type "list",data:=.seq its.toArray k }):=by simpa using hp
    subst e
    obtain ⟨g0,g1,g2,_⟩:=fD dn4
    exact ⟨dg,g0,g1,g2,fun v z=>(nomatch z)⟩
   ·obtain ⟨g0,g1,g2,g3,g4,g5⟩:=fF fr4 b hb
    refine ⟨g0,g1,g2,g3,g4,fun p hp=>?_⟩
    rcases List.mem_append.mp hp with z|z
    ·exact g5 p (List.mem_append_left _ z)
    ·have e:p=(D,{ cls:=.type "list",data:=.seq its.toArray k }):=by simpa using z
     subst e
     exact fun q=>hDfp (by have q':D=b:=q; rw [q']; exact hb)
   ·subst hr
    have dg5:=(I5.pin (D,_) (List.mem_append_right _ (List.mem_singleton.mpr rfl))).1
    obtain ⟨m5,hn5,_⟩:=id I5.loc
    refine ⟨m5,hn5,fun h' hsb=>?_⟩
    have kb:∀ b u,b≠C→s5.heap.get? b=some u→h'.get? b=some u:=fun b u hb e=>(hsb.2 b hb).trans e
    have hlt:∀ b o,s2.heap.get? b=some o→b≠C∧b≠D:=fun b o e=>by
     have:=Heap.lt_size e
     rw [hD] at this
     exact below b this
    have U:=I5.base
    refine ⟨.ref D,upd H4 D (.lst ys),I2.call' (s':={ s5 with heap:=h' }) (ch:=fp) I5.os ⟨fun b o e n hb hx=>kb b o (hlt b o e).1 (U.keep b o e n hb hx),fun b o e n hb hx=>?_,fun b o e n hx=>?_,fun b o e hx=>?_,fun b xs e=>?_,fun b o u e=>?_,fun b ps e=>?_⟩ ?_ I5.bare (fun b hb=>?_),rfl,fin D dn4 (by have h:mainGlobals<s2.heap.objs.size:=(I2.mod.glob.keeps I2.bk).lt; rw [hD] at h; exact Nat.ne_of_gt (Nat.lt_trans (by decide) h))⟩
    ·obtain ⟨sl,q⟩:=U.slot b o e n hb hx
     exact ⟨sl,kb b _ (hlt b o e).1 q⟩
    ·rw [upd_ne (hlt b o e).2]
     exact U.free b o e n hx
    ·obtain ⟨o',q⟩:=U.there b o e hx
     exact ⟨o',kb b _ (hlt b o e).1 q⟩
    ·have q:=U.tups b xs e
     rw [upd_ne (ne_of_none q dn4)]
     exact q
    ·have q:=U.frzs b o u e
     rw [upd_ne (ne_of_none q dn4)]
     exact q
    ·obtain ⟨more,q⟩:=U.tbls b ps e
     exact ⟨more,by rw [upd_ne (ne_of_none q dn4)]; exact q⟩
    ·refine (I5.hok.but I5.free kb).add dn4 ?_
     exact ⟨Nat.le_of_lt hlen,its,k,rv,kb _ _ hDC dg5⟩
    ·obtain ⟨_,g1,g2,g3,g4,g5⟩:=f2 b hb
     exact ⟨g3,g1,g4,g5⟩
  ·refine thn (T.item (cxLC X sc N' pins C fp s2 H2) rfl rfl rfl hc i [(D,({ cls:=.type "list",data:=.seq its.toArray k }:Obj))] s4 τ H4 (fun _ _=>False) (I4.pins_of fun p hp=>?_) (fun b hb=>?_) st4 go) fun r s5 ⟨u,hr,h5⟩=>?_
   ·have e:p=(D,{ cls:=.type "list",data:=.seq its.toArray k }):=by simpa using hp
    subst e
    obtain ⟨g0,g1,g2,_⟩:=fD dn4
    exact ⟨dg,g0,g1,g2,fun v z=>(nomatch z)⟩
   ·obtain ⟨g0,g1,g2,g3,g4,g5⟩:=fF fr4 b hb
    refine ⟨g0,g1,g2,g3,g4,fun p hp=>?_⟩
    rcases List.mem_append.mp hp with z|z
    ·exact g5 p (List.mem_append_left _ z)
    ·have e:p=(D,{ cls:=.type "list",data:=.seq its.toArray k }):=by simpa using z
     subst e
     exact fun q=>hDfp (by have q':D=b:=q; rw [q']; exact hb)
   ·subst hr
    refine thn h5 fun _ s6 ⟨x,H6,I6,r6,y6,st6,fr6⟩=>?_
    obtain ⟨dg6,dn6,_⟩:=I6.pin (D,_) (List.mem_append_right _ (List.mem_singleton.mpr rfl))
    have dn6':H6 D=none:=dn6
    have all6:∀ b∈D::fp,FpOk (cxLC X sc N' pins C fp s2 H2) [] H6 b:=fun b hb=>by
     rcases List.mem_cons.mp hb with z|z
     ·subst z; exact fD dn6'
     ·exact fF fr6 b z
    have obj6:∀ b∈D::fp,∃ o,s6.heap.get? b=some o∧∀ v,o.data≠.cell v:=fun b hb=>by
     rcases List.mem_cons.mp hb with z|z
     ·subst z; exact ⟨_,dg6,fun v q=>(nomatch q)⟩
     ·exact T.obj _ _ st6 b z
    have I6':=(I6.unpinned (pins:=[])).pinned all6 obj6
    refine thn (hg pins C fp s2 H2 _ s6 τ H6 x u _ I6' r6 (step x H6 y6)) fun _ s7 ⟨τ7,H7,I7,q7⟩=>?_
    refine thn (ht pins C fp s2 H2 _ s7 τ7 H7 _ I7 q7) fun ok s8 ⟨H8,I8,q8⟩=>?_
    have back:∀ {s9:Shared} {H9:Hp},Inv (cxLC X sc N' pins C fp s2 H2) ([]++pinsAt (D::fp) s6.heap) τ7 H9 s9→s9.heap.get? D=some { cls:=.type "list",data:=.seq its.toArray k }∧H9 D=none∧tn (i+1) s9.heap∧∀ b∈fp,H9 b=none:=fun {s9 H9} I9=>by
     have pin:∀ b o,b∈D::fp→s6.heap.get? b=some o→s9.heap.get? b=some o∧H9 b=none:=fun b o hb e=>by
      have q:=I9.pin (b,o) (List.mem_append_right _ (List.mem_append_right _ (mem_pinsAt hb e)))
      exact ⟨q.1,q.2.1⟩
     refine ⟨(pin D _ List.mem_cons_self dg6).1,(pin D _ List.mem_cons_self dg6).2,T.keep _ _ _ st6 fun b hb o e=>(pin b o (List.mem_cons_of_mem _ hb) e).1,fun b hb=>?_⟩
     obtain ⟨o,e,_⟩:=T.obj _ _ st6 b hb
     exact (pin b o (List.mem_cons_of_mem _ hb) e).2
    cases ok with
    | false =>
     obtain ⟨b1,b2,b3,b4⟩:=back I8
     simp only [Bool.false_eq_true,if_false] at q8 ⊢
     obtain ⟨m',hm,w'⟩:=q8
     exact ⟨m',hm,i+1,τ7,ys,H8,I8.unpinned,b3,b4,b2,⟨its,k,rv,b1⟩,w'⟩
    | true =>
     simp only [if_true] at q8 ⊢
     refine thn (he pins C fp s2 H2 _ s8 τ7 H8 _ I8 q8) fun y s9 ⟨yv,H9,I9,r9,m',hm,w'⟩=>?_
     obtain ⟨b1,b2,b3,b4⟩:=back I9
     have el:its.toArray.size≤sizeLine:=by
      have:=rv.length
      simp only [List.size_toArray]
      omega
     refine append_at (hsz:=el) b1 fun h10 sb hD10=>?_
     obtain ⟨_,g1,_,g3,g4,g5⟩:=fD b2
     refine ⟨m',hm,i+1,τ7,ys++[yv],H9,(I9.unpinned (pins:=[])).turned (t':=s9.toks) (fun b o hb e=>(sb.2 b hb).trans e) b2 g1 g3 g4 g5,T.keep _ _ _ b3 fun b hb o e=>(sb.2 b fun q=>hDfp (by rw [← q]; exact hb)).trans e,b4,b2,⟨its++[y],k+1,rv.append (.cons r9 .nil),?_⟩,w'⟩
     show h10.get? D=_
     rw [hD10]
     simp
 exact codeAny_compStart_list (loop _ rfl) (T.self _ 0 _ _ _ st1 (loop _ rfl))
end L2
set_option Elab.async false
set_option linter.all false
set_option maxRecDepth 100000
set_option maxHeartbeats 4000000
namespace L2
open PySem PySem.Spec PyProof.Rows
structure FlyZ (B:Heap) (l:List Env) (e:Addr) (cls fl:Value) (h:Heap):Prop where
 stays:B.StaysIn h
 new:B.get? e=none
 frames:h.FunFrames B l
 obj:∃ oe vs,h.get? e=some oe∧oe.cls=cls∧oe.dict=none∧oe.data = .fields vs∧2<vs.size∧vs[2]?=some .none ∧
  (vs[1]?=some .none∨∃ T oT ts,vs[1]?=some (.ref T)∧B.get? T=none∧T≠e∧h.get? T=some oT∧oT.data = .fields ts∧ts[3]?=some fl)
section
variable {M:Model} {A:Around} {E:Value→Shared→Prop} {s:Shared} {B:Heap} {env:Env} {outer l:List Env} {L e:Addr} {cls fl:Value}
theorem dict_mapFields (o:Obj) (f:Array Value→Array Value):(o.mapFields f).dict=o.dict:=by
 obtain ⟨c,d,dt,sl⟩:=o
 cases dt <;> rfl
theorem fly_entry {oe:Obj} {vs:Array Value} {head:Value} {had:Bool} {Q:Unit→Shared→Prop} (hfr:A.frames=some (env::outer)) (hf:env.frame=some L) (st:B.StaysIn s.heap) (hn:B.get? e=none)
  (hl:s.heap.FunFrames B (env::outer)) (he:s.heap.get? e=some oe) (hc:oe.cls=cls) (hdi:oe.dict=none) (hd:oe.data = .fields vs) (hz:2<vs.size) (h2:vs[2]?=some .none)
  (k:∀ h',FlyZ B (env::outer) e cls (rawInt L) h'→s.heap.UpToSlots h'→Q () { s with heap:=h' }) :
  wpAny M A (do let a←frameOf env; let pl←entryPlaceOf L had; let b←EntryCells.newEntry head a .none (rawInt L) .none pl; setField (.ref e) 1 b) Q E s:=by
 have nfr:e∉(env::outer).filterMap (·.frame):=fun z=>by
  obtain ⟨_,o,ho,nf⟩:=hl.mem z
  rw [he] at ho
  cases ho
  exact nf vs hd
 refine wpAny_bind (wpAny_frameOf_fun hfr hl hf fun g only=>?_)
 obtain ⟨_,same,slots⟩:=only
 refine wpAny_bind (wpAny_entryPlaceOf fun pl hpl=>?_)
 have key:∀ (tb:Obj) (ts:Array Value),tb.data = .fields ts→ts[3]?=some (rawInt L)→wpAny M A (setField (.ref e) 1 (.ref g.objs.size)) Q E { s with heap:=g.push tb }:=by
  intro tb ts td t3
  have e1:g.get? e=some oe:=(same e nfr).trans he
  have e2:(g.push tb).get? e=some oe:=Heap.get?_push_of_some _ e1
  have hT:(g.push tb).get? g.objs.size=some tb:=Heap.get?_push_size _ (by rw [Obj.isFreed_of_fields td])
  have hne:g.objs.size≠e:=Nat.ne_of_gt (Heap.lt_size e1)
  have fresh:B.get? g.objs.size=none:=by
   cases q:B.get? g.objs.size with
   | none=>rfl
   | some o =>
    obtain ⟨sl,z⟩:=slots _ o (st _ o q)
    exact absurd (Heap.lt_size z) (Nat.lt_irrefl _)
  have up:∀ b o,b≠e→g.get? b=some o→((g.push tb).update e (Obj.mapFields (·.setIfInBounds 1 (.ref g.objs.size)))).get? b=some o:=fun b o hb q =>
   (Heap.get?_update_other _ _ (Ne.symm hb)).trans (Heap.get?_push_of_some _ q)
  have notE:∀ b o,s.heap.get? b=some o→(∀ ws,o.data≠.fields ws)→b≠e:=fun b o q nf z=>by
   rw [z,he] at q
   cases q
   exact nf vs hd
  have dd:=Obj.data_mapFields hd (·.setIfInBounds 1 (Value.ref g.objs.size))
  refine wpAny_setField e2 hd (by omega) (k _ ⟨fun b o q=>?_,hn,?_,?_⟩ fun b o q nf=>?_)
  ·refine up b o (fun z=>by rw [z,hn] at q; cases q) ((same b fun z=>?_).trans (st b o q))
   rw [(hl.mem z).1] at q
   cases q
  ·refine hl.of_keeps fun b o q nf=>?_
   obtain ⟨sl,z⟩:=slots b o q
   exact ⟨_,up b _ (notE b o q nf) z,rfl⟩
  ·refine ⟨_,_,Heap.get?_update_self _ e2 (Obj.isFreed_of_fields dd),(Obj.cls_mapFields _ _).trans hc,(dict_mapFields _ _).trans hdi,dd,by simpa using hz,by rw [Array.getElem?_setIfInBounds_ne (by decide)]; exact h2,.inr ⟨g.objs.size,tb,ts,?_,fresh,hne,?_,td,t3⟩⟩
   ·rw [Array.getElem?_setIfInBounds_self_of_lt (by omega)]
   ·rw [Heap.get?_update_other _ _ (Ne.symm hne)]
    exact hT
  ·obtain ⟨sl,z⟩:=slots b o q
   exact ⟨sl,up b _ (notE b o q nf) z⟩
 unfold EntryCells.newEntry newFields
 refine wpAny_bind (wpAny_newObj_type ?_ (hpl.sizeOk5 _ _ _ _ _))
 exact key _ _ rfl (by simp)
theorem fly_note {Q:Unit→Shared→Prop} (hfr:A.frames=some (env::outer)) (hf:env.frame=some L) (x:FlyZ B (env::outer) e cls fl s.heap)
  (k:∀ h',FlyZ B (env::outer) e cls (rawInt L) h'→s.heap.UpToSlots h'→Q () { s with heap:=h' }):wpAny M A (noteFrame (.ref e) env) Q E s:=by
 obtain ⟨st,hn,hl,oe,vs,he,hc,hdi,hd,hz,h2,h1⟩:=x
 unfold noteFrame
 simp only [hf]
 rcases h1 with h1|⟨T,oT,ts,h1,nT,Te,gT,dT,t3⟩
 ·refine wpAny_bind (wpAny_field he hd h1 ?_)
  rw [if_neg (show ¬ ((Value.none != Value.none)=true) by decide)]
  exact fly_entry hfr hf st hn hl he hc hdi hd hz h2 k
 ·refine wpAny_bind (wpAny_field he hd h1 ?_)
  rw [if_pos (show (Value.ref T != Value.none)=true by simp)]
  refine wpAny_bind (wpAny_field gT dT t3 ?_)
  by_cases hfl:fl=rawInt L
  ·subst hfl
   rw [if_pos (show (rawInt L == rawInt L)=true by simp)]
   exact wpAny_pure (k s.heap ⟨st,hn,hl,oe,vs,he,hc,hdi,hd,hz,h2,.inr ⟨T,oT,ts,h1,nT,Te,gT,dT,t3⟩⟩ (Heap.UpToSlots.refl _))
  ·rw [if_neg (show ¬ ((fl == rawInt L)=true) by simpa using hfl)]
   refine wpAny_bind (wpAny_setField gT dT (Array.getElem?_eq_some_iff.mp t3).1 ?_)
   have oth:∀ b,b≠T→(s.heap.update T (Obj.mapFields (·.setIfInBounds 3 Value.none))).get? b=s.heap.get? b:=fun b hb=>Heap.get?_update_other _ _ (Ne.symm hb)
   have notT:∀ b o,s.heap.get? b=some o→(∀ ws,o.data≠.fields ws)→b≠T:=fun b o q nf z=>by
    rw [z,gT] at q
    cases q
    exact nf ts dT
   refine fly_entry (B:=B) (cls:=cls) hfr hf (fun b o q=>?_) hn (hl.of_keeps fun b o q nf=>⟨o,(oth b (notT b o q nf)).trans q,rfl⟩) ((oth e (Ne.symm Te)).trans he) hc hdi hd hz h2 fun h' y up=>k h' y fun b o q nf=>up b o ((oth b (notT b o q nf)).trans q) nf
   exact (oth b fun z=>by rw [z,nT] at q; cases q).trans (st b o q)
theorem fly_flight {Q:Unit→Shared→Prop} (x:FlyZ B l e cls fl s.heap) (k:∀ h',FlyZ B l e cls .none h'→s.heap.UpToSlots h'→Q () { s with heap:=h' }):wpAny M A (setFlight (.ref e) none) Q E s:=by
 obtain ⟨st,hn,hl,oe,vs,he,hc,hdi,hd,hz,h2,h1⟩:=x
 unfold setFlight
 rcases h1 with h1|⟨T,oT,ts,h1,nT,Te,gT,dT,t3⟩
 ·refine wpAny_bind (wpAny_field he hd h1 ?_)
  rw [if_neg (show ¬ ((Value.none != Value.none)=true) by decide)]
  exact wpAny_pure (k s.heap ⟨st,hn,hl,oe,vs,he,hc,hdi,hd,hz,h2,.inl h1⟩ (Heap.UpToSlots.refl _))
 ·refine wpAny_bind (wpAny_field he hd h1 ?_)
  rw [if_pos (show (Value.ref T != Value.none)=true by simp)]
  have lt3:3<ts.size:=(Array.getElem?_eq_some_iff.mp t3).1
  have dd:=Obj.data_mapFields dT (·.setIfInBounds 3 Value.none)
  have oth:∀ b,b≠T→(s.heap.update T (Obj.mapFields (·.setIfInBounds 3 Value.none))).get? b=s.heap.get? b:=fun b hb=>Heap.get?_update_other _ _ (Ne.symm hb)
  have notT:∀ b o,s.heap.get? b=some o→(∀ ws,o.data≠.fields ws)→b≠T:=fun b o q nf z=>by
   rw [z,gT] at q
   cases q
   exact nf ts dT
  refine wpAny_setField gT dT lt3 (k _ ⟨fun b o q=>(oth b fun z=>by rw [z,nT] at q; cases q).trans (st b o q),hn,hl.of_keeps fun b o q nf=>⟨o,(oth b (notT b o q nf)).trans q,rfl⟩,oe,vs,(oth e (Ne.symm Te)).trans he,hc,hdi,hd,hz,h2,
   .inr ⟨T,_,_,h1,nT,Te,Heap.get?_update_self _ gT (Obj.isFreed_of_fields dd),dd,?_⟩⟩ fun b o q nf=>⟨o.slots,(oth b (notT b o q nf)).trans q⟩)
  rw [Array.getElem?_setIfInBounds_self_of_lt lt3]
theorem fly_leave {Q:Unit→Shared→Prop} (hfr:A.frames=some (env::outer)) (hf:env.frame=some L) (x:FlyZ B (env::outer) e cls fl s.heap)
  (k:∀ h',FlyZ B outer e cls .none h'→s.heap.UpToSlots h'→Q () { s with heap:=h' }):wpAny M A (leaving env (.ref e)) Q E s:=by
 unfold leaving
 refine wpAny_bind (fly_note hfr hf x fun h1 y u1=>fly_flight (s:={ s with heap:=h1 }) y fun h2 z u2=>?_)
 obtain ⟨a,b,⟨_,_,c⟩,d⟩:=z
 exact k h2 ⟨a,b,c,d⟩ (u1.trans u2)
end
def CXW (P:Program) (w:World):CXT:=fun outer H s E e s'=>∃ (ea C:Addr) (B:Heap) (H':Hp) (sI:Shared),e = .ref ea∧FlyZ B outer ea (.ref C) .none s'.heap∧Un (frs outer) [] H H' s.heap sI.heap∧HOk P w H' sI.heap ∧
 sI.os=s.os∧AllBare sI.gens∧s'.os=s.os∧AllBare s'.gens∧(∀ b o,sI.heap.get? b=some o→b∉frs outer→B.get? b=some o)∧sI.heap.UpToSlots s'.heap∧E (.ref C) none H'
def Throws (X:Cx) (Ex:Addr→St→Hp→Prop):Prop:=∀ (pins:List (Addr×Obj)) (σ:St) (H:Hp) (sI:Shared) (ea C:Addr) (B:Heap) (fl:Value) (s':Shared),Inv X pins σ H sI→FlyZ B X.stack ea (.ref C) fl s'.heap→s'.os=sI.os→AllBare s'.gens →
 (∀ b o,sI.heap.get? b=some o→b∉frs X.stack→B.get? b=some o)→sI.heap.UpToSlots s'.heap→Ex C σ H→X.xe (.ref ea) s'
theorem throws_none {X:Cx}:Throws X (fun _ _ _=>False):=fun _ _ _ _ _ _ _ _ _ _ _ _ _ _ _ h=>h.elim
theorem throws_def {cm:Bool} {P:Program} {w:World} {K:PySem.W.Frag} {mg:Str→Option Value} {base:Heap} {N:List Str} {qual:Str} {scope:Scope} {f:Addr} {cd:Value} {A:Around} {outer:List Env} {s:Shared} {H:Hp} {E:XK} :
  Throws (cxOf (CXW P w) cm P w K mg base N qual scope f cd A outer s H E) (fun C _ H'=>E (.ref C) none H'):=by
 intro pins σ H' sI ea C B fl s' I x os bare hB up q
 have ff:A.frames=some outer:=by
  have:=I.ok.frames
  cases h:A.frames with
  | none =>
   have z:(A.deeper (envOfC qual scope s.heap.objs.size f cd)).frames=none:=by
    first|(show (A.frames.map _)=none; rw [h]; rfl)|simp [Around.deeper,Around.under,h]
   rw [show (cxOf (CXW P w) cm P w K mg base N qual scope f cd A outer s H E).A=A.deeper (envOfC qual scope s.heap.objs.size f cd) from rfl,z] at this
   cases this
  | some l =>
   have z:=Around.frames_deeper (env:=envOfC qual scope s.heap.objs.size f cd) h
   rw [show (cxOf (CXW P w) cm P w K mg base N qual scope f cd A outer s H E).A=A.deeper (envOfC qual scope s.heap.objs.size f cd) from rfl,z] at this
   have:=Option.some.inj this
   exact congrArg some (List.cons.inj this).2
 show wpAny (model P w) (A.deeper (envOfC qual scope s.heap.objs.size f cd)) (leaving (envOfC qual scope s.heap.objs.size f cd) (.ref ea)) _ _ s'
 refine fly_leave (L:=s.heap.objs.size) (Around.frames_deeper ff) rfl x fun h' y u=>?_
 have hid:∀ b o,b≠s.heap.objs.size→sI.heap.get? b=some o→(PySem.W.hideAll sI.heap [s.heap.objs.size]).get? b=some o:=fun b o hb e=>PySem.W.hideAll_get _ e (by simpa using hb)
 have U:=I.base
 have lt:∀ b o,s.heap.get? b=some o→b≠s.heap.objs.size:=fun b o e=>Nat.ne_of_lt (Heap.lt_size e)
 have nl:∀ b:Addr,b∉(cxOf (CXW P w) cm P w K mg base N qual scope f cd A outer s H E).ex:=fun b z=>absurd (show b∈([]:List Addr) from z) (by simp)
 refine ⟨ea,C,B,H',{ sI with heap:=PySem.W.hideAll sI.heap [s.heap.objs.size] },rfl,y,⟨fun b o e n hb _=>hid b o (lt b o e) (U.keep b o e n hb (nl b)),fun b o e n hb _=>?_,fun b o e n _=>U.free b o e n (nl b),fun b o e _=>?_,U.tups,U.frzs,U.tbls⟩,
  I.hok.but (C:=s.heap.objs.size) I.free hid,I.os,I.bare,os.trans I.os,bare,fun b o e hb=>?_,fun b o e nf=>?_,q⟩
 ·obtain ⟨sl,z⟩:=U.slot b o e n hb (nl b)
  exact ⟨sl,hid b _ (lt b o e) z⟩
 ·obtain ⟨o',z⟩:=U.there b o e (nl b)
  exact ⟨o',hid b _ (lt b o e) z⟩
 ·have e':=PySem.W.of_hideAll _ e
  refine hB b o e' fun z=>?_
  have z':b∈s.heap.objs.size::frs outer:=z
  rcases List.mem_cons.mp z' with r|r
  ·rw [r] at e
   have z9:(PySem.W.hideAll sI.heap [s.heap.objs.size]).get? s.heap.objs.size=none:=PySem.W.hideAll_none _ (by simp)
   exact absurd (z9.symm.trans e) (by simp)
  ·exact hb r
 ·exact (up.trans u) b o (PySem.W.of_hideAll _ e) nf
def XE (Ex:Addr→St→Hp→Prop) (σ:St):XK:=fun c _ H'=>∃ C,c = .ref C∧Ex C σ H'
def tCallX (sp:Sp) (dvs:List V) (Ex:Addr→St→Hp→Prop) (t:TA):TE:=fun σ H Q=>t σ H fun vs H1=>sp (vs++dvs) H1 Q (XE Ex σ)
def tMethX (C:Addr) (m:Str) (sp:Sp) (dvs:List V) (Ex:Addr→St→Hp→Prop) (ta:TE) (t:TA):TE:=fun σ H Q=>ta σ H fun x H1=>∃ a dx fs,x = .ref a∧H1 a=some (.ins C dx fs)∧fs.lookup m=none ∧
 t σ H1 fun vs H2=>sp (x::(vs++dvs)) H2 Q (XE Ex σ)
def tMakeX (C:Addr) (sp:Sp) (dvs:List V) (Ex:Addr→St→Hp→Prop) (t:TA):TE:=fun σ H Q=>t σ H fun vs H1=>∀ x dx,H1 x=none→H1 dx=none→dx≠x →
 sp (.ref x::(vs++dvs)) (upd (upd H1 dx (.own x)) x (.ins C dx [])) (fun v H2=>v = .non∧Q (.ref x) H2) (XE Ex σ)
section
variable {X:Cx} {cm:Bool} {k:Nat} {f C:Addr} {fd:FuncData} {ps:List Str} {sp:Sp} {dvs:List V} {ds:List Value} {Ex:Addr→St→Hp→Prop} {x m:Str} {p pos apos:Pos} {e o:Expr} {es:List Expr} {ta:TE} {t:TA}
theorem Throws.of {pins:List (Addr×Obj)} {σ:St} {H:Hp} {s s':Shared} {v:Value} (T:Throws X Ex) (I:Inv X pins σ H s) (h:CXW X.prog X.w X.stack H s (XE Ex σ) v s'):X.xe v s':=by
 obtain ⟨ea,C,B,H',sI,rfl,y,un,hok,os,bare,os',bare',hB,up,C',ec,q⟩:=h
 cases ec
 exact T pins σ H' sI ea C B .none s' (I.call' os un hok bare fun b z=>absurd z (by simp)) y (os'.trans os.symm) bare' hB up q
theorem run_fnX {pins:List (Addr×Obj)} {σ:St} {H:Hp} {s:Shared} {Q:VK} {us:List Value} {vs:List V} (T:Throws X Ex) (F:FnOk X.prog X.w X.K X.mg X.base (CXW X.prog X.w) cm k f fd ps sp) (hr:Room cm k X.A) (hb:Binds X.K fd ps ds) (hd:Vals dvs ds)
  (I:Inv X pins σ H s) (r:Vals vs us) (h:sp (vs++dvs) H Q (XE Ex σ)):wpAny (model X.prog X.w) X.A (call (.ref f) us) (EP X pins σ Q) X.xe s:=by
 have r2:Vals (vs++dvs) (us++ds):=r.append hd
 have hl:(us++ds).length=ps.length:=by rw [← r2.length]; exact F.len _ _ _ _ h
 refine wpAny_call (codeAny_mono (F.run X.A X.stack s H ⟨us,[]⟩ (us++ds) (vs++dvs) Q (XE Ex σ) hr I.env0 (hb s us I.kIn hl) r2 h) fun r s' hq=>?_)
 cases r with
 | error v=>exact T.of I hq
 | ok fl =>
  cases fl with
  | ret u=>exact I.after hq
  | next=>exact False.elim hq
  | brk=>exact False.elim hq
  | cont=>exact False.elim hq
theorem pe_callX (T:Throws X Ex) (F:FnOk X.prog X.w X.K X.mg X.base (CXW X.prog X.w) cm k f fd ps sp) (hr:Room cm k X.A) (hg:Gl X x) (hm:X.mg x=some (.ref f)) (hk:PySem.W.keepIn X.K (.ref f)=true) (hb:Binds X.K fd ps ds) (hd:Vals dvs ds)
  (ha:PA X (e::es) t) (hdb:(x == ("__debug__" : Str))=false:=by decide) (he:starEach (e::es) X.env=(false,eval e X.env)::starEach es X.env:=by rfl) (hpl:(backTo pos (starEach es X.env)).any (·.1)=false:=by rfl) :
  PE X (.Call (.Name x p) (e::es) [] pos) (tCallX sp dvs Ex t):=by
 intro pins s σ H Q I h
 refine wpAny_Call_Name_kw (ld_glob I hg hm ?_ hdb)
 refine PySem.W.callWith_K (h₀:=X.base) I.ok.mod.kin hk (thn (ha pos pins s σ H _ I h) fun us s1 ⟨vs,H1,I1,r,q⟩=>⟨I1.kIn,?_⟩) he hpl
 exact run_fnX T F hr hb hd I1 r q
theorem pe_methX {pl:Sem Bool} (he:PE X o ta) (c:Cls X.K C) (hm:Meth X.K C m f) (T:Throws X Ex) (F:FnOk X.prog X.w X.K X.mg X.base (CXW X.prog X.w) cm k f fd ps sp) (hr:Room cm k X.A) (hb:Binds X.K fd ps ds) (hd:Vals dvs ds) (ha:PA X (e::es) t)
  (hst:starEach (e::es) X.env=(false,eval e X.env)::starEach es X.env:=by rfl) (hpl:(backTo pos (starEach es X.env)).any (·.1)=false:=by rfl)
  (ht:eval (.Call (.Attribute o m apos) (e::es) [] pos) X.env=(do
   let ov←eval o X.env
   standAt apos.atName
   let (f,first)←holding [ov] (getMethod ov m pl)
   callWith pos f first (backTo pos (starEach (e::es) X.env)) (backToKw pos (keywordEach [] X.env))):=by rfl) :
  PE X (.Call (.Attribute o m apos) (e::es) [] pos) (tMethX C m sp dvs Ex ta t):=by
 intro pins s σ H Q I h
 refine PySem.W.methodCall_KW (pl:=pl) (thn (he pins s σ H _ I h) fun u s1 ⟨x,H1,I1,rx,a,dx,fs,ex,ea,l,q⟩=>?_) ht
 subst ex
 obtain rfl:u=Value.ref a:=rx
 refine getmeth_ok I1 ea c hm l ?_
 refine PySem.W.callWith_K (first:=[.ref a]) (h₀:=X.base) I.ok.mod.kin hm.kp (thn (ha pos pins s1 σ H1 _ I1 q) fun us s2 ⟨vs,H2,I2,r,q2⟩=>⟨I2.kIn,?_⟩) hst hpl
 exact run_fnX (us:=.ref a::us) (vs:=.ref a::vs) T F hr hb hd I2 (.cons rfl r) q2
theorem pe_methX0 {pl:Sem Bool} (he:PE X o ta) (c:Cls X.K C) (hm:Meth X.K C m f) (T:Throws X Ex) (F:FnOk X.prog X.w X.K X.mg X.base (CXW X.prog X.w) cm k f fd ps sp) (hr:Room cm k X.A) (hb:Binds X.K fd ps ds) (hd:Vals dvs ds)
  (ht:eval (.Call (.Attribute o m apos) [] [] pos) X.env=(do
   let ov←eval o X.env
   standAt apos.atName
   let (f,first)←holding [ov] (getMethod ov m pl)
   callWith pos f first (backTo pos (starEach [] X.env)) (backToKw pos (keywordEach [] X.env))):=by rfl) :
  PE X (.Call (.Attribute o m apos) [] [] pos) (tMethX C m sp dvs Ex ta tNil):=by
 intro pins s σ H Q I h
 refine PySem.W.methodCall_KW (pl:=pl) (thn (he pins s σ H _ I h) fun u s1 ⟨x,H1,I1,rx,a,dx,fs,ex,ea,l,q⟩=>?_) ht
 subst ex
 obtain rfl:u=Value.ref a:=rx
 refine getmeth_ok I1 ea c hm l ?_
 exact PySem.W.callWith_K0 (first:=[.ref a]) I1.kIn hm.kp (run_fnX (us:=[.ref a]) (vs:=[.ref a]) T F hr hb hd I1 (.cons rfl .nil) q)
theorem pe_makeX (M:Mk X.K C f) (T:Throws X Ex) (F:FnOk X.prog X.w X.K X.mg X.base (CXW X.prog X.w) cm k f fd ps sp) (hr:Room cm (k+1) X.A) (hg:Gl X x) (hm:X.mg x=some (.ref C)) (hb:Binds X.K fd ps ds) (hd:Vals dvs ds)
  (ha:PA X (e::es) t) (hdb:(x == ("__debug__" : Str))=false:=by decide) (he:starEach (e::es) X.env=(false,eval e X.env)::starEach es X.env:=by rfl) (hpl:(backTo pos (starEach es X.env)).any (·.1)=false:=by rfl) :
  PE X (.Call (.Name x p) (e::es) [] pos) (tMakeX C sp dvs Ex t):=by
 intro pins s σ H Q I h
 refine wpAny_Call_Name_kw (ld_glob I hg hm ?_ hdb)
 refine PySem.W.callWith_K (h₀:=X.base) I.ok.mod.kin M.kp (thn (ha pos pins s σ H _ I h) fun us s1 ⟨vs,H1,I1,r,q⟩=>⟨I1.kIn,?_⟩) he hpl
 have hq:=q (s1.heap.objs.size+1) s1.heap.objs.size (I1.hok.fresh (Nat.le_succ _)) (I1.hok.fresh (Nat.le_refl _)) (Nat.ne_of_lt (Nat.lt_succ_self _))
 have I2:=Inv.made (C:=C) I1
 have r2:Vals (V.ref (s1.heap.objs.size+1)::(vs++dvs)) (Value.ref (s1.heap.objs.size+1)::(us++ds)):=.cons rfl (r.append hd)
 have hl:(Value.ref (s1.heap.objs.size+1)::us++ds).length=ps.length:=by
  have e:=r2.length
  rw [F.len _ _ _ _ hq] at e
  exact e.symm
 refine wpAny_call (make_map (f:=f) I1.kIn M.makes M.init (beq_iff_eq.mp M.fn) (codeAny_mono (F.run _ X.stack _ _ ⟨Value.ref (s1.heap.objs.size+1)::us,[]⟩ (Value.ref (s1.heap.objs.size+1)::(us++ds)) _ _ (XE Ex σ) (hr.make C us [])
  (I2.env0.make C us []) (hb _ (Value.ref (s1.heap.objs.size+1)::us) I2.kIn hl) r2 hq) fun r s' hq'=>?_))
 cases r with
 | error e=>exact T.of I2 hq'
 | ok fl =>
  cases fl with
  | ret u =>
   obtain ⟨v,H',I3,rv,ev,q3⟩:=I2.after hq'
   subst ev
   exact ⟨rv,⟨V.ref (s1.heap.objs.size+1),H',I3,rfl,q3⟩⟩
  | next=>exact False.elim hq'
  | brk=>exact False.elim hq'
  | cont=>exact False.elim hq'
end
theorem PS.nox {X:Cx} {st:Stmt} {t:TS} (h:PS X.nox st t):PS X st t:=fun pins s σ H D I hw =>
 wpAny_mono (h pins s σ H D (I.wish _) hw) (fun _ _ q=>q.unwish) fun _ _ z=>False.elim z
theorem Fun.okW {P:Program} {w:World} {K:PySem.W.Frag} {mg:Str→Option Value} {base:Heap} {x qual:Str} {st:Stmt} {f:Addr} {fd:FuncData} {N ps:List Str} {cm:Bool} {k:Nat} {sp:Sp} (F:Fun K x qual st f fd) (S:FnScope N ps (defScope st)) (len:∀ vs H Q E,sp vs H Q E→vs.length=ps.length)
  (hbody:∀ (cdv:Value) (A:Around) (outer:List Env) (s:Shared) (H:Hp) (vs:List V) (Q:VK) (E:XK),Room cm k (A.deeper (envOfC qual (defScope st) s.heap.objs.size f cdv))→sp vs H Q E →
   ∃ t,PSs (cxOf (CXW P w) cm P w K mg base N qual (defScope st) f cdv A outer s H E) (defBody st) t∧t { nx:=fun _ H'=>Q .non H',rt:=Q } (start N vs) H):FnOk P w K mg base (CXW P w) cm (k+1) f fd ps sp:=by
 obtain ⟨oc,od,kV,doc,pm,an,cdv,ct,osl,rfl,lk,hcd⟩:=F.ex
 exact fn_of lk hcd S len fun A outer s H vs Q E hr hsp=>hbody cdv A outer s H vs Q E hr hsp
end L2
set_option Elab.async false
set_option linter.all false
set_option maxRecDepth 100000
set_option maxHeartbeats 4000000
namespace L2
open PySem PySem.Spec PyProof.Rows
def bmV:List Value:=[.type "ValueError",.type "Exception",.type "BaseException",.type "object"]
def ErrK (K:PySem.W.Frag) (C:Addr):Prop:=PySem.W.excIn K C bmV "ValueError.__new__" = true
structure ErrObj (h:Heap) (C:Addr) (mro:List Value):Prop where
 ex:∃ bm N nm q bs hdct sn sub ab col dd k0 k1 k2 k3 k5 mN,mro = .ref C::bm∧h.get? C=some (excClassObj nm q C N bs bm hdct sn sub ab col dd k0 k1 k2 k3 k5 "ValueError.__new__")∧h.Ns N mN∧mN "__init__" = none∧OwnTail h bmV bm
theorem ErrK.obj {K:PySem.W.Frag} {C:Addr} {h:Heap} (x:ErrK K C) (X:K.In h):∃ cd,PySem.W.clsIn K C=some cd∧ErrObj h C cd.mro:=by
 unfold ErrK PySem.W.excIn at x
 split at x
 ·rename_i dd cd sl look
  have hc:PySem.W.clsIn K C=some cd:=by
   unfold PySem.W.clsIn
   rw [look]
  refine ⟨cd,hc,?_⟩
  split at x
  ·rename_i C' bm k0 k1 k2 k3 n k5 em es
   simp only [Bool.and_eq_true,beq_iff_eq,Bool.not_eq_true'] at x
   obtain ⟨⟨⟨⟨⟨c1,c2⟩,c3⟩,c4⟩,c5⟩,c6⟩:=x
   subst c1 c2
   obtain ⟨a1,a2,a3,a4,a5,a6,a7,a8,a9,a10,a11⟩:=cd
   dsimp only at em c3 c5 c6 ⊢
   subst em c3
   obtain ⟨sl⟩:=sl
   dsimp only at es
   subst es
   exact ⟨bm,a4,a1,a5,a2,a6,a7,a8,a9,a10,dd,k0,k1,k2,k3,k5,_,rfl,X _ _ look,.of_isNs (PySem.W.isNs_of_in X c5),PySem.W.nsMap_none_of_in X c5 c6,PySem.W.tail_of_in X c4⟩
  ·cases x
 ·cases x
def tRaise (C:Addr) (Ex:Addr→St→Hp→Prop) (t:TA):TS:=fun _ σ H=>t σ H fun vs H1=>vs.length≤sizeLine∧Ex C σ H1
theorem ps_raise {X:Cx} {Ex:Addr→St→Hp→Prop} {C:Addr} {x:Str} {np cpos pos:Pos} {e:Expr} {es:List Expr} {t:TA} (hc:X.calm=true) (T:Throws X Ex) (O:ErrK X.K C) (hg:Gl X x) (hm:X.mg x=some (.ref C)) (ha:PA X (e::es) t)
  (hdb:(x == ("__debug__" : Str))=false:=by decide) (hst:starEach (e::es) X.env=(false,eval e X.env)::starEach es X.env:=by rfl) (hpl:(backTo cpos (starEach es X.env)).any (·.1)=false:=by rfl) :
  PS X (.Raise (some (.Call (.Name x np) (e::es) [] cpos)) none pos) (tRaise C Ex t):=by
 intro pins s σ H D I h
 obtain ⟨cd,_,⟨bm,N,nm,q,bs,hdct,sn,sub,ab,col,dd,k0,k1,k2,k3,k5,mN,em,hC,hN,hni,TL⟩⟩:=O.obj I.ok.mod.kin
 refine wpAny_Raise_call_subT (C:=C) (nm:=nm) (q:=q) (N:=N) (bs:=bs) (bm:=bm) (hdct:=hdct) (sn:=sn) (sub:=sub) (ab:=ab) (col:=col) (dd:=dd) (k0:=k0) (k1:=k1) (k2:=k2) (k3:=k3) (k5:=k5) (mN:=mN) PySem.F.excBase_ValueError (TL.hasType (by decide)) (I.ok.hd hc)
  (by rw [hst]; show (false || (backTo cpos (starEach es X.env)).any (·.1))=false; rw [hpl]; rfl) hni (ld_glob I hg hm ⟨rfl,?_⟩ hdb)
 have hA:=ha cpos pins s σ H _ I h
 rw [hst] at hA ⊢
 refine Calls.evalArgs_plain (thn hA fun us s2 ⟨vs,H2,I2,r2,hz,q2⟩=>⟨rfl,by rw [← r2.length]; exact hz,I2.bk _ _ hC,hN.keeps I2.bk,TL.keeps I2.bk,fun h' ea hm'=>?_⟩)
 obtain ⟨tt,he,htn,_⟩:=hm'.there
 have hin:∀ env∈X.stack,∀ a,env.frame=some a→a∈frs X.stack:=fun env hm a ha=>List.mem_filterMap.mpr ⟨env,hm,ha⟩
 refine T pins σ H2 s2 ea C (PySem.W.hideAll s2.heap (frs X.stack)) .none { s2 with heap:=h' } I2 ⟨fun b o e=>hm'.keeps b o (PySem.W.of_hideAll _ e),?_,?_,?_⟩ rfl I2.bare (fun b o e hb=>PySem.W.hideAll_get _ e hb) (fun b o e _=>⟨o.slots,hm'.keeps b o e⟩) q2
 ·cases z:(PySem.W.hideAll s2.heap (frs X.stack)).get? ea with
  | none=>rfl
  | some o =>
   have:=PySem.W.of_hideAll _ z
   rw [hm'.new] at this
   cases this
 ·exact (PySem.W.funFrames_hide I2.stack hin).of_keeps fun b o e _=>⟨o,hm'.keeps b o e,rfl⟩
 ·exact ⟨_,_,he,rfl,rfl,rfl,by simp,rfl,.inl rfl⟩
section
variable {M:Model} {A:Around} {E:Value→Shared→Prop}
theorem exc_matches {h:Heap} {g:Array GenState} {d:Drawn} {t:Nat} {os:OsState} {e C D:Addr} {oe:Obj} {mC mD:List Value} {Q:Bool→Shared→Prop} (OC:ErrObj h C mC) (OD:ErrObj h D mD) (he:h.get? e=some oe) (hcls:oe.cls = .ref C)
  (hsub:mC.contains (.ref D)=true) (hq:Q true ⟨h,g,d,t,os⟩):wpAny M A (excMatches (.ref e) (.ref D)) Q E ⟨h,g,d,t,os⟩:=by
 obtain ⟨bm,N,nm,q,bs,hdct,sn,sub,ab,col,dd,k0,k1,k2,k3,k5,mN,rfl,hC,_,_,TC⟩:=OC
 obtain ⟨bm',N',nm',q',bs',hdct',sn',sub',ab',col',dd',j0,j1,j2,j3,j5,mN',rfl,hD,_,_,TD⟩:=OD
 have b1:(Value.ref D::bm').contains (.type "BaseException")=true:=by
  rw [List.contains_cons,TD.hasType (X:="BaseException") (b:=true) (by decide),Bool.or_true]
 have b2:=tc_notTuple
 unfold excMatches
 repeat (first|(with_reducible refine wpAny_loadPart_at he ?_; rw [hcls])|with_reducible refine wpAny_loadPart_at hD ?_|(with_reducible refine wpAny_isSubtype_exc hD ?_; rw [b1])|(with_reducible refine wpAny_isSubtype_exc hC ?_; rw [hsub])|wp_step)
 exact hq
end
theorem ObjOk.ex {P:Program} {w:World} {H:Hp} {h:Heap} {a:Addr} {o:HO} (x:ObjOk P w H h a o):∃ ob,h.get? a=some ob:=by
 cases o with
 | lst xs=>obtain ⟨_,_,_,_,e⟩:=x; exact ⟨_,e⟩
 | tup xs=>obtain ⟨_,_,_,o,e,_⟩:=x; exact ⟨_,e⟩
 | dK kvs=>obtain ⟨_,_,_,_,o,_,_,e,_⟩:=x; exact ⟨_,e⟩
 | dT kvs=>obtain ⟨_,_,_,_,o,_,_,e,_⟩:=x; exact ⟨_,e⟩
 | set S n=>obtain ⟨o,_,_,_,e,_⟩:=x; exact ⟨_,e⟩
 | ins C dx fs=>obtain ⟨_,_,_,e,_⟩:=x; exact ⟨_,e⟩
 | own y=>exact x
 | xd fs=>obtain ⟨_,⟨_,_,_,e,_⟩,_⟩:=x; exact ⟨_,e⟩
 | rng lo hi=>obtain ⟨_,_,_,e⟩:=x; exact ⟨_,e⟩
 | frz ob u=>exact ⟨_,x.1⟩
 | tbl ps=>exact ⟨_,x⟩
 | met f y=>exact ⟨_,x⟩
 | ext φ=>exact x.2.1
abbrev cxP (X:Cx) (pins:List (Addr×Obj)):Cx:={ X with pn:=X.pn++pins }
theorem Cx.Ok.p {X:Cx} (ok:X.Ok) (pins:List (Addr×Obj)):(cxP X pins).Ok :=
 ⟨ok.mod,ok.kind,ok.glob,ok.blt,ok.above,ok.inj,ok.has,ok.cab,ok.hd,ok.frames,ok.stk,ok.exf,ok.bs,ok.bsz,ok.noex,ok.exfs,ok.funs,ok.frf⟩
theorem Inv.p {X:Cx} {pins:List (Addr×Obj)} {σ:St} {H:Hp} {s:Shared} (I:Inv X pins σ H s):Inv (cxP X pins) [] σ H s :=
 ⟨I.ok.p pins,I.os,I.bare,I.base,I.loc,I.cell,I.free,I.freeC,fun p hp=>I.pin p (by have h:p∈(X.pn++pins)++[]:=hp; simpa using h),I.hok,I.len,I.hdk⟩
theorem Inv.unp {X:Cx} {pins:List (Addr×Obj)} {σ:St} {H:Hp} {s:Shared} (ok:X.Ok) (I:Inv (cxP X pins) [] σ H s):Inv X pins σ H s :=
 ⟨ok,I.os,I.bare,I.base,I.loc,I.cell,I.free,I.freeC,fun p hp=>I.pin p (by show p∈(X.pn++pins)++[]; simpa using hp),I.hok,I.len,I.hdk⟩
abbrev cxTry (X:Cx) (pins:List (Addr×Obj)) (Ex:Addr→St→Hp→Prop):Cx:=(cxP X pins).wish fun e s'=>∃ (ea C:Addr) (B:Heap) (H':Hp) (fl:Value) (σ:St) (sI:Shared),e = .ref ea∧Inv (cxP X pins) [] σ H' sI∧FlyZ B X.stack ea (.ref C) fl s'.heap ∧
 s'.os=sI.os∧AllBare s'.gens∧(∀ b o,sI.heap.get? b=some o→b∉frs X.stack→B.get? b=some o)∧sI.heap.UpToSlots s'.heap∧Ex C σ H'
theorem throws_try {X:Cx} {pins:List (Addr×Obj)} {Ex:Addr→St→Hp→Prop}:Throws (cxTry X pins Ex) Ex:=fun ps σ H sI ea C B fl s' I y os bare hB up q =>
 ⟨ea,C,B,H,fl,σ,sI,rfl,(I.unwish.pins_of fun p hp=>(nomatch hp)),y,os,bare,hB,up,q⟩
abbrev cxSuite (X:Cx) (pins:List (Addr×Obj)) (ea:Addr):Cx:={ X with pn:=X.pn++pins,A:=X.A.mark (some (.ref ea)),calm:=false,xe:=fun _ _=>False }
def ExcO (C:Addr) (o:Obj):Prop:=o.cls = .ref C∧o.dict=none∧∃ vs,o.data = .fields vs
theorem land {X:Cx} {pins:List (Addr×Obj)} {σ:St} {H:Hp} {sI s':Shared} {ea C:Addr} {B:Heap} {fl:Value} (hex:X.ex=[]) (I:Inv (cxP X pins) [] σ H sI) (y:FlyZ B X.stack ea (.ref C) fl s'.heap) (os:s'.os=sI.os) (bare:AllBare s'.gens)
  (hB:∀ b o,sI.heap.get? b=some o→b∉frs X.stack→B.get? b=some o) (up:sI.heap.UpToSlots s'.heap) :
  H ea=none∧∃ oe,ExcO C oe∧s'.heap.get? ea=some oe∧Inv (cxSuite X pins ea) [] σ (upd H ea (.frz oe (.own 0))) s':=by
 obtain ⟨st,hn,hl,oe,vs,he,hc,hdi,hd,hz,h2,h1⟩:=y
 have nea:ea∉frs X.stack:=fun z=>by
  obtain ⟨_,o,ho,nf⟩:=hl.mem z
  rw [he] at ho
  cases ho
  exact nf vs hd
 have new:sI.heap.get? ea=none:=by
  cases q:sI.heap.get? ea with
  | none=>rfl
  | some o =>
   have:=hB _ o q nea
   rw [hn] at this
   cases this
 have hH:H ea=none:=by
  cases q:H ea with
  | none=>rfl
  | some u =>
   obtain ⟨ob,z⟩:=(I.hok ea u q).ex
   rw [new] at z
   cases z
 have keep:∀ b o,sI.heap.get? b=some o→b∉frs X.stack→s'.heap.get? b=some o:=fun b o e hb=>st b o (hB b o e hb)
 have slot:∀ b o,sI.heap.get? b=some o→b∈frs X.stack→∃ sl,s'.heap.get? b=some { o with slots:=sl }:=fun b o e hb=>by
  obtain ⟨_,o',ho',nf⟩:=I.stack.mem (show b∈(cxP X pins).stack.filterMap (·.frame) from hb)
  rw [e] at ho'
  cases ho'
  exact up b o e nf
 have I1:Inv (cxP X pins) [] σ H s':=I.call' (ch:=[]) os ⟨fun b o e _ hb _=>keep b o e hb,fun b o e _ hb _=>slot b o e hb,fun _ _ _ n _=>n,fun b o e _=>?_,fun _ _ e=>e,fun _ _ _ e=>e,fun b ps e=>⟨#[],by rw [e]; simp⟩⟩
  (fun b u e=>(I.hok b u e).stay (fun c v hc q=>keep c v q fun z=>?_) (fun _ q=>q) fun _ _ q=>q) bare fun b z=>absurd z (by simp)
 ·have nel:ea≠X.env.locals:=fun z=>by
   obtain ⟨m,⟨o,es,ep,ho,hdd,_⟩,_⟩:=I1.loc
   have ho':s'.heap.get? ea=some o:=by rw [z]; exact ho
   rw [he] at ho'
   cases ho'
   rw [hd] at hdd
   cases hdd
  refine ⟨hH,oe,⟨hc,hdi,vs,hd⟩,he,⟨⟨I1.ok.mod,I1.ok.kind,I1.ok.glob,I1.ok.blt,I1.ok.above,I1.ok.inj,I1.ok.has,I1.ok.cab,fun z=>(nomatch z),I1.ok.frames,I1.ok.stk,I1.ok.exf,I1.ok.bs,I1.ok.bsz,I1.ok.noex,I1.ok.exfs,I1.ok.funs,I1.ok.frf⟩,I1.os,I1.bare,
   ⟨I1.base.keep,I1.base.slot,fun b o e n hx=>?_,I1.base.there,fun b xs e=>?_,fun b o u e=>?_,fun b ps e=>?_⟩,I1.loc,I1.cell,?_,fun x c e=>?_,fun p hp=>?_,I1.hok.add hH ⟨he,oe,he⟩,I1.len,.inr ⟨ea,oe,vs,rfl,upd_same,hd,h2,C,hc⟩⟩⟩
  ·obtain ⟨o',z⟩:=I.base.there b o e hx
   rw [upd_ne (fun w=>by rw [w,new] at z; cases z)]
   exact I1.base.free b o e n hx
  ·have z:=I1.base.tups b xs e
   rw [upd_ne (ne_of_none z hH)]
   exact z
  ·have z:=I1.base.frzs b o u e
   rw [upd_ne (ne_of_none z hH)]
   exact z
  ·obtain ⟨more,z⟩:=I1.base.tbls b ps e
   exact ⟨more,by rw [upd_ne (ne_of_none z hH)]; exact z⟩
  ·rw [upd_ne (Ne.symm nel)]
   exact I1.free
  ·have nc:c≠ea:=fun w=>by
    obtain ⟨v,o,ho,hdd⟩:=I1.cell x c e
    rw [w,he] at ho
    cases ho
    rw [hd] at hdd
    cases hdd
   rw [upd_ne nc]
   exact I1.freeC x c e
  ·obtain ⟨a,b,c,d,f⟩:=I1.pin p hp
   refine ⟨a,?_,c,d,f⟩
   rw [upd_ne fun w=>?_]
   ·exact b
   ·have:=(I.pin p hp).1
    rw [w,new] at this
    cases this
 ·by_cases hb:b∈frs X.stack
  ·obtain ⟨sl,z⟩:=slot b o e hb
   exact ⟨_,z⟩
  ·exact ⟨o,keep b o e hb⟩
 ·have zf:H c=none:=I.stkFree c z
  rcases hc with w|w
  ·rw [w] at zf
   rw [zf] at e
   cases e
  ·rw [zf] at w
   cases w
theorem Inv.unbound {X:Cx} {pins:List (Addr×Obj)} {σ:St} {H:Hp} {s:Shared} {i:Nat} {n:Str} {m:Str→Option Value} {v:Option Value} {h':Heap} {tk:Nat} (I:Inv X pins σ H s) (hN:X.N.Nodup) (hi:X.N[i]?=some n)
  (hm:s.heap.Ns X.env.locals m∧∀ (i:Nat) (x:Str) (v:V),X.N[i]?=some x→σ[i]?=some (some v)→Vis X.env.scope x→∃ u,RelV v u∧Look X.env s.heap m x u)
  (hn':h'.Ns X.env.locals (fun x=>if x=n then v else m x)) (hs:Heap.SameBut X.env.locals s.heap h'):Inv X pins (σ.set i none) H { s with heap:=h',toks:=tk }:=by
 obtain ⟨oL,_,_,hoL,_⟩:=id hm.1
 have hiσ:i<σ.length:=by rw [I.len]; exact (List.getElem?_eq_some_iff.mp hi).1
 have ne0:∀ b o,X.s₀.heap.get? b=some o→b≠X.env.locals:=fun b o e=>Nat.ne_of_lt (Nat.lt_of_lt_of_le (Heap.lt_size e) I.ok.above)
 refine ⟨I.ok,I.os,I.bare,⟨fun b o e n hb hx=>(hs.2 b (ne0 b o e)).trans (I.base.keep b o e n hb hx),fun b o e n hb hx=>?_,I.base.free,fun b o e hx=>?_,I.base.tups,I.base.frzs,I.base.tbls⟩,⟨_,hn',fun j y w e1 e2 e3=>?_⟩,fun y c e=>?_,I.free,I.freeC,fun p hp=>?_,
  I.hok.but I.free fun b u hb e=>(hs.2 b hb).trans e,by simpa using I.len,I.hdk⟩
 ·obtain ⟨sl,z⟩:=I.base.slot b o e n hb hx
  exact ⟨sl,(hs.2 b (ne0 b o e)).trans z⟩
 ·obtain ⟨o',z⟩:=I.base.there b o e hx
  exact ⟨o',(hs.2 b (ne0 b o e)).trans z⟩
 ·by_cases hj:j=i
  ·subst hj
   rw [List.getElem?_set_self hiσ] at e2
   cases e2
  ·rw [List.getElem?_set_ne (Ne.symm hj)] at e2
   obtain ⟨u,r,l⟩:=hm.2 j y w e1 e2 e3
   refine ⟨u,r,?_⟩
   have hy:y≠n:=fun q=>hj (nodup_ix hN e1 (q ▸ hi))
   rcases l with ⟨k1,k2⟩|⟨k1,c,e,z⟩
   ·exact .inl ⟨k1,by simp [hy,k2]⟩
   ·exact .inr ⟨k1,c,e,z.sameBut hs (I.cne y c e)⟩
 ·obtain ⟨w,z⟩:=I.cell y c e
  exact ⟨w,z.sameBut hs (I.cne y c e)⟩
 ·obtain ⟨a,b,c,d,f⟩:=I.pin p hp
  exact ⟨(hs.2 p.1 c).trans a,b,c,d,f⟩
theorem Inv.unsuite {X:Cx} {pins:List (Addr×Obj)} {σ:St} {H:Hp} {s:Shared} {ea:Addr} (ok:X.Ok) (hh:X.A.handled=none) (I:Inv (cxSuite X pins ea) [] σ H s):Inv X pins σ H s :=
 ⟨ok,I.os,I.bare,I.base,I.loc,I.cell,I.free,I.freeC,fun p hp=>I.pin p (by show p∈(X.pn++pins)++[]; simpa using hp),I.hok,I.len,.inl hh⟩
def tTry (K:PySem.W.Frag) (i:Nat) (D:Addr) (tb:(Addr→St→Hp→Prop)→TS) (ts:TS):TS:=fun Z σ H =>
 tb (fun C σ' H'=>ErrK K C∧PySem.W.mroIn K C (.ref D)=some true∧∀ ea oe,H' ea=none→ExcO C oe →
  ts { nx:=fun σ2 H2=>Z.nx (σ2.set i none) H2,rt:=Z.rt,bk:=fun σ2 H2=>Z.bk (σ2.set i none) H2,ct:=fun σ2 H2=>Z.ct (σ2.set i none) H2 } (σ'.set i (some (.ref ea))) (upd H' ea (.frz oe (.own 0)))) Z σ H
theorem ps_try {X:Cx} {i:Nat} {D:Addr} {x n:Str} {np hpos pos:Pos} {body:List Stmt} {b₀:Stmt} {suite:List Stmt} {tb:(Addr→St→Hp→Prop)→TS} {ts:TS} (hc:X.calm=true) (hex:X.ex=[]) (hstk:X.stack=X.env::X.outer∧X.env.frame=some X.env.locals)
  (hN:X.N.Nodup) (hi:X.N[i]?=some n) (hlo:X.env.scope.names.lookup n=some .local) (OD:ErrK X.K D) (hg:Gl X x) (hm:X.mg x=some (.ref D))
  (hb:∀ pins Ex,PSs (cxTry X pins Ex) body (tb Ex)) (hs:∀ pins ea,PSs (cxSuite X pins ea) (b₀::suite) ts) (hdb:(x == ("__debug__" : Str))=false:=by decide) :
  PS X (.Try body [.ExceptHandler (some (.Name x np)) (some n) (b₀::suite) hpos] [] [] pos) (tTry X.K i D tb ts):=by
 intro pins s σ H Z I h
 have hh:X.A.handled=none:=I.ok.hd hc
 have hp:(X.env.scope.kind == .class || (X.env.scope.kind == .module && X.env.locals != X.env.globals))=false:=by rw [I.ok.kind]; rfl
 refine wpAny_Try_except (wpAny_mono (hb pins _ [] s σ H Z (I.p.wish _) h) (fun f s1 q=>?_) fun e s1 q=>?_)
 ·cases f with
  | next =>
   obtain ⟨σ',H',J,q⟩:=q
   exact wpAny_execs_nil ⟨σ',H',Inv.unp I.ok J.unwish,q⟩
  | brk=>obtain ⟨σ',H',J,q⟩:=q; exact ⟨σ',H',Inv.unp I.ok J.unwish,q⟩
  | cont=>obtain ⟨σ',H',J,q⟩:=q; exact ⟨σ',H',Inv.unp I.ok J.unwish,q⟩
  | ret u=>obtain ⟨v,σ',H',J,r,q⟩:=q; exact ⟨v,σ',H',Inv.unp I.ok J.unwish,r,q⟩
 ·obtain ⟨ea,C,B,H',fl,σ',sI,rfl,J,y,os,bare,hB,up,OC,sub,want⟩:=q
  have fr:X.A.frames=some (X.env::X.outer):=by rw [I.ok.frames,hstk.1]
  rw [hstk.1] at y
  refine fly_note fr hstk.2 y fun h2 y2 u2=>fly_flight (s:={ s1 with heap:=h2 }) y2 fun h3 y3 u3=>?_
  have y3':FlyZ B X.stack ea (.ref C) .none h3:=by rw [hstk.1]; exact y3
  have up3:=(up.trans u2).trans u3
  obtain ⟨_,oe3,c3,g3,J3⟩:=land (s':={ s1 with heap:=h3 }) hex J y3' os bare hB up3
  obtain ⟨cdC,cC,eC⟩:=OC.obj J3.kIn
  obtain ⟨cdD,cD,eD⟩:=OD.obj J3.kIn
  have hsub:cdC.mro.contains (.ref D)=true:=by
   unfold PySem.W.mroIn at sub
   rw [cC] at sub
   simp only [Option.bind_some] at sub
   split at sub
   ·cases sub
   ·exact Option.some.inj sub
  refine wpAny_handleBy_cons (codeAny_handlers_test (ld_glob (X:=cxSuite X pins ea) J3 hg hm ?_ hdb)) (by intro q; cases q)
  refine exc_matches (h:=h3) (g:=s1.gens) (d:=s1.drawn) (t:=s1.toks) (os:=s1.os) eC eD g3 c3.1 hsub ?_
  refine codeAny_handlers_suite_as ?_
  refine fly_flight (s:={ s1 with heap:=h3 }) y3 fun h4 y4 u4=>?_
  have y4':FlyZ B X.stack ea (.ref C) .none h4:=by rw [hstk.1]; exact y4
  obtain ⟨hH4,oe4,c4,g4,J4⟩:=land (s':={ s1 with heap:=h4 }) hex J y4' os bare hB (up3.trans u4)
  refine store_ok (X:=cxSuite X pins ea) (i:=i) (v:=.ref ea) J4 hN hi (.inl hlo) rfl (fun s5 J5=>?_) (.inr hlo)
  refine wpAny_mono (hs pins ea [] s5 _ _ _ J5 (want ea oe4 hH4 c4)) (fun f s6 q6=>?_) fun _ _ z=>z.elim
  have go:∀ {σ7:St} {H7:Hp},Inv (cxSuite X pins ea) [] σ7 H7 s6→(∀ s7,Inv X pins (σ7.set i none) H7 s7→SP X pins Z f s7) →
    wpAny (model X.prog X.w) X.A (do bindName X.env n .none; unbindBehindTheSuite X.env n hpos) (fun _ s7=>SP X pins Z f s7) X.xe s6:=fun {σ7 H7} J7 k=>by
   have J8:=Inv.unsuite I.ok hh J7
   obtain ⟨m,hns,hl⟩:=id J8.loc
   exact wpAny_nameGoes_keeps hlo hns hp fun h' v hn' hsb=>k _ (J8.unbound hN hi ⟨hns,hl⟩ hn' hsb)
  cases f with
  | next=>obtain ⟨σ7,H7,J7,q7⟩:=q6; exact go J7 fun s7 I7=>⟨_,_,I7,q7⟩
  | brk=>obtain ⟨σ7,H7,J7,q7⟩:=q6; exact go J7 fun s7 I7=>⟨_,_,I7,q7⟩
  | cont=>obtain ⟨σ7,H7,J7,q7⟩:=q6; exact go J7 fun s7 I7=>⟨_,_,I7,q7⟩
  | ret u=>obtain ⟨v,σ7,H7,J7,r7,q7⟩:=q6; exact go J7 fun s7 I7=>⟨v,_,_,I7,r7,q7⟩
end L2
set_option Elab.async false
set_option linter.all false
set_option maxRecDepth 100000
set_option maxHeartbeats 4000000
namespace L2
open PySem PySem.Spec PyProof.Rows PySem.W
section
variable {prog:Program} {w:World} {A:Around} {E:Value→Shared→Prop} {K:Frag} {h:Heap} {g:Array GenState} {d:Drawn} {t:Nat} {os:OsState} {e C:Addr} {oe:Obj}
theorem exc_getattribute {tk:Tok} {Q:Fin→Shared→Prop} (X:K.In h) (I:InstAt h e oe C none) (f3:findIn K (.ref C) "__class__" = some (some (.builtin "object.__class__"))) (hm:mroIn K C (.type "object")=some true)
  (hq:Q (.done (.ret (.ref C))) ⟨h,g,d,t,os⟩):wpAny (model prog w) A (Builtin.«object.__getattribute__» ⟨[.ref e,.str "__class__" tk],[]⟩) Q E ⟨h,g,d,t,os⟩:=by
 have L0:=I.type (M:=model prog w)
 have L3:=looks_findIn (M:=model prog w) X f3
 have f5:=F.typeOf_object_class
 have f6:=F.slot_gs_get.lookup
 have f7:=F.slot_gs_set.lookup
 repeat (any_goals (first|assumption|with_reducible refine L0.at ?_|with_reducible refine L3.at ?_|wp_step))
 exact class_get (s:=⟨h,g,d,t,os⟩) X I hm (wpAny_pure hq)
theorem exc_check {nameV:Value} {Q:Unit→Shared→Prop} (X:K.In h) (I:InstAt h e oe C none) (hb:mroIn K C (.type "BaseException")=some true) (hq:Q () ⟨h,g,d,t,os⟩) :
  wpAny (model prog w) A (checkBuiltinCall "BaseException.__getattribute__" ⟨[.ref e,nameV],[]⟩) Q E ⟨h,g,d,t,os⟩:=by
 have L0:=I.type (M:=model prog w)
 have L4:=looks_mroIn (M:=model prog w) X hb
 have c1:builtinKind "BaseException.__getattribute__" = some .slot:=by decide +kernel
 have c2:splitId "BaseException.__getattribute__" = some ("BaseException","__getattribute__"):=by decide +kernel
 have c3:=F.args_bexc_ga (.ref e) nameV
 simp only [checkBuiltinCall,c1,c2]
 refine wpAny_bind ?_
 unfold isInstance
 repeat (first|with_reducible refine L0.at ?_|with_reducible refine L4.at ?_|wp_step)
 exact hq
theorem exc_class {Q:Option Value→Shared→Prop} (X:K.In h) (I:InstAt h e oe C none) (f1:findIn K (.ref C) "__getattribute__" = some (some (.builtin "BaseException.__getattribute__"))) (f2:findIn K (.ref C) "__getattr__" = some none)
  (f3:findIn K (.ref C) "__class__" = some (some (.builtin "object.__class__"))) (hm:mroIn K C (.type "object")=some true) (hb:mroIn K C (.type "BaseException")=some true) (hq:Q (some (.ref C)) ⟨h,g,d,t+1,os⟩) :
  wpAny (model prog w) A (getAttr? (.ref e) "__class__") Q E ⟨h,g,d,t,os⟩:=by
 have L0:=I.type (M:=model prog w)
 have L1:=looks_findIn (M:=model prog w) X f1
 have L2:=looks_findIn (M:=model prog w) X f2
 have f4:=PySem.F.attr_ValueError.ga.bind (.ref e)
 have x2:(Value.builtin "BaseException.__getattribute__" == Value.builtin "object.__getattribute__")=false:=by decide +kernel
 have x1:(onTheHeap (Value.ref C) && Value.builtin "BaseException.__getattribute__" == Value.builtin "object.__getattribute__")=false:=by rw [x2]; rfl
 have x0:(false && onTheHeap (Value.builtin "BaseException.__getattribute__"))=false:=rfl
 unfold getAttr? getAttrBy?
 refine wpAny_bind (wpAny_mkText (wpAny_bind (wpAny_attempt ?_)))
 repeat (any_goals (first|assumption|with_reducible refine L0.at ?_|with_reducible refine L1.at ?_|with_reducible refine L2.at ?_|wp_step))
 refine codeAny_call_builtin PySem.F.attr_ValueError.ga.plain F.entry_bexc_ga (exc_check X I hb (exc_getattribute X I f3 hm ?_))
 repeat (any_goals (first|assumption|wp_step))
structure ErrC (K:Frag) (C:Addr):Prop where
 err:ErrK K C
 ga:findIn K (.ref C) "__getattribute__" = some (some (.builtin "BaseException.__getattribute__"))
 gr:findIn K (.ref C) "__getattr__" = some none
 cl:findIn K (.ref C) "__class__" = some (some (.builtin "object.__class__"))
 ob:mroIn K C (.type "object")=some true
 ba:mroIn K C (.type "BaseException")=some true
theorem kitx_exc (O:ErrC K C):KitX K (.ref e) (.ref C) (fun h=>InstAt h e oe C none) where
 ty:=fun _ _ _ I=>I.type
 it:=fun M h X I=>by
  obtain ⟨cd,_,⟨bm,N,nm,q,bs,hdct,sn,sub,ab,col,dd,k0,k1,k2,k3,k5,mN,_,hC,_⟩⟩:=O.err.obj X
  intro A' Q' E' s' k q'
  unfold isType loadHead
  exact wpAny_bind (wpAny_loadPart (k _ _ hC) (wpAny_pure q'))
 ne:=fun h tp dd its n sl X htp=>by
  obtain ⟨cd,_,⟨bm,N,nm,q,bs,hdct,sn,sub,ab,col,d1,k0,k1,k2,k3,k5,mN,_,hC,_⟩⟩:=O.err.obj X
  refine Bool.eq_false_iff.mpr fun z=>?_
  have ec:C=tp:=Value.ref.inj (beq_iff_eq.mp z)
  subst ec
  have wd:=congrArg Obj.data (Option.some.inj (hC.symm.trans htp))
  cases wd
 ca:=fun {prog w A E Q s} X I k=>by
  obtain ⟨h,g,d,t,os⟩:=s
  exact exc_class X I O.ga O.gr O.cl O.ob O.ba k
end
def clsV:V→Option Value
 | .ref a=>some (.ref a)
 | .ty n=>some (.type n)
 | _=>none
inductive TyX (K:Frag) (H:Hp):V→Value→Prop where
 | of {x:V} {t:Value} (h:TyOf K H x t):TyX K H x t
 | exc {a C:Addr} {o:Obj} (e:H a=some (.frz o (.own 0))) (ho:ExcO C o) (O:ErrC K C):TyX K H (.ref a) (.ref C)
def rIsi (K:Frag):List V→Hp→VK→Prop:=fun xs H Q=>∃ x c t u b,xs=[x,c]∧clsV c=some u∧TyX K H x t∧kitOne K t u=some b∧Q (.bl b) H
theorem call_isi {X:Cx}:CallR X (.builtin "isinstance") (rIsi X.K):=by
 intro pins s σ H xs us Q I r h
 obtain ⟨x,c,t,u,b,rfl,hc,ty,hk,q⟩:=h
 cases r with
 | cons r1 rr =>
  cases rr with
  | cons r2 rr =>
   cases rr
   rename_i v1 v2
   have e2:v2=u:=by
    cases c with
    | ref a=>cases hc; exact r2
    | ty n=>cases hc; exact r2
    | _=>cases hc
   subst e2
   cases ty with
   | of ty=>exact isinst_ok I r1 ty hk fun tk=>⟨.bl b,H,I.tok tk,rfl,q⟩
   | exc e ho O =>
    rename_i a C o
    obtain rfl:v1=Value.ref a:=r1
    obtain ⟨z,_⟩:=I.hok a _ e
    obtain ⟨c1,c2,vs,c3⟩:=ho
    have J:InstAt s.heap a o C none:=⟨z,c1,by unfold notCls; rw [c3],by rw [c2]; trivial⟩
    exact kia_one (kitx_exc O) I.kIn J hk (fun w=>nomatch w) fun tk=>⟨.bl b,H,I.tok tk,rfl,q⟩
end L2
set_option Elab.async false
set_option linter.all false
set_option maxRecDepth 100000
set_option maxHeartbeats 4000000
namespace L2
open PySem PySem.Spec PyProof.Rows
def Hnd (A:Around) (h:Heap):Prop:=A.handled=none∨∃ (a:Addr) (o:Obj) (vs:Array Value),A.handled=some (.ref a)∧h.get? a=some o∧o.data = .fields vs∧vs[2]?=some .none∧∃ C,o.cls = .ref C
theorem Inv.hnd {X:Cx} {pins:List (Addr×Obj)} {σ:St} {H:Hp} {s:Shared} (I:Inv X pins σ H s):Hnd X.A s.heap:=by
 rcases I.hdk with h|⟨a,o,vs,h1,h2,h3⟩
 ·exact .inl h
 ·exact .inr ⟨a,o,vs,h1,(I.hok a _ h2).1,h3⟩
theorem Hnd.keeps {A:Around} {h h':Heap} (x:Hnd A h) (k:∀ b o,(∃ C,o.cls = .ref C)→h.get? b=some o→h'.get? b=some o):Hnd A h':=by
 rcases x with x|⟨a,o,vs,h1,h2,h3,h4,h5⟩
 ·exact .inl x
 ·exact .inr ⟨a,o,vs,h1,k a o h5 h2,h3,h4,h5⟩
theorem entry_unchain:entryFor table "proto.unchain" = some Builtin.«proto.unchain»:=entryFor_of_tree (by kernel_rfl)
section
variable {prog:Program} {w:World} {A:Around} {E:Value→Shared→Prop} {s:Shared}
theorem raise_fresh {α:Type} {e:Addr} {oe:Obj} {ws:Array Value} {Q:α→Shared→Prop} (hh:Hnd A s.heap) (he:s.heap.get? e=some oe) (hd:oe.data = .fields ws) (hz:2<ws.size) (hc:∀ C,oe.cls≠.ref C)
  (k:∀ h',Heap.SameBut e s.heap h'→(∃ o,h'.get? e=some o∧o.cls=oe.cls)→E (.ref e) { s with heap:=h' }):wpAny (model prog w) A (raiseNew (.ref e):Sem α) Q E s:=by
 unfold raiseNew
 refine wpAny_bind (wpAny_handled ?_)
 rcases hh with hh|⟨a,o,vs,h1,h2,h3,h4,C,h5⟩
 ·rw [hh]
  exact wpAny_bind (wpAny_pure (wpAny_throw (k s.heap (Heap.SameBut.refl _ _) ⟨oe,he,rfl⟩)))
 ·rw [h1]
  have ne:a≠e:=fun z=>by rw [z,he] at h2; cases h2; exact hc C h5
  dsimp only
  rw [if_pos (show (Value.ref a != Value.ref e)=true by simpa using ne)]
  refine wpAny_bind (wpAny_holding (wpAny_runValue (codeAny_builtin entry_unchain ?_)))
  refine wpAny_bind (m:=field (.ref a) 2) (wpAny_field h2 h3 h4 ?_)
  rw [if_pos (show (Value.none == Value.none)=true by rfl)]
  refine wpAny_pure (wpAny_bind ?_)
  show wpAny _ _ (setField (.ref e) 2 (.ref a)) _ _ _
  have dd:=Obj.data_mapFields hd (·.setIfInBounds 2 (Value.ref a))
  exact wpAny_setField he hd hz (wpAny_throw (k _ (Heap.SameBut.update ..) ⟨_,Heap.get?_update_self _ he (Obj.isFreed_of_fields dd),Obj.cls_mapFields _ _⟩))
theorem stop_raised {α:Type} {Q:α→Shared→Prop} (hh:Hnd A s.heap) (k:∀ h' e,(∀ b o,s.heap.get? b=some o→h'.get? b=some o)→(∃ o,h'.get? e=some o∧o.cls = .type "StopIteration")→E (.ref e) { s with heap:=h' }) :
  wpAny (model prog w) A (newExc (.type "StopIteration") []>>=fun e=>(raiseNew e:Sem α)) Q E s:=by
 refine wpAny_bind ?_
 simp only [newExc,newTuple]
 refine wpAny_bind (wpAny_newObj_type (wpAny_bind (m:=firstArgMember _ _) (wpAny_of_eq (a:=Value.none) (by first|rfl|(simp only [firstArgMember]; rfl)) (wpAny_newObj_type ?_ (by size_fits)))) (by size_fits))
 have old:∀ (o1 o2:Obj) b o,s.heap.get? b=some o→((s.heap.push o1).push o2).get? b=some o:=fun o1 o2 b o q=>Heap.get?_push_of_some _ (Heap.get?_push_of_some _ q)
 refine raise_fresh (hh.keeps fun b o _ q=>old _ _ b o q) (Heap.get?_push_size _ rfl) rfl (by simp; omega) (fun C z=>by cases z) fun h' sb ⟨o,g,c⟩=>k h' _ (fun b o q=>?_) ⟨o,g,c⟩
 refine (sb.2 b (fun z=>?_)).trans (old _ _ b o q)
 have:=Heap.lt_size q
 rw [z,Heap.size_push] at this
 exact absurd (Nat.lt_of_succ_lt this) (Nat.lt_irrefl _)
theorem tup_last {it t:Addr} {i:Nat} {items:Array Value} {Q:Option Value→Shared→Prop} (hh:Hnd A s.heap) (hit:s.heap.IsTupleIter it t i) (ht:s.heap.IsTuple t items) (hx:items[i]?=none)
  (k:∀ h',Heap.ExtBut it s.heap h'→Q none { s with heap:=h' }):wpAny (model prog w) A (pyNext (.ref it)) Q E s:=by
 obtain ⟨o,ho,hc,hd⟩:=id hit
 obtain ⟨ol,hol,_,nl,hdl⟩:=ht
 unfold pyNext
 refine wpAny_bind (wpAny_attempt (wpAny_callSpecial?_slot (name:=Str.ofString "__next__") hit.typeIs F.slot_tuple_iterator_next (wpAny_call_entry F.slot_tuple_iterator_next hit.typeIs F.entry_tuple_iterator_next ?_ (F.args_tuple_iterator_next_1 _))))
 refine wpAny_bind (m:=field (.ref it) 0) (wpAny_field ho hd (x:=.ref t) rfl ?_)
 rw [if_neg (show ¬ ((Value.ref t == Value.none)=true) by simp)]
 refine wpAny_bind (m:=field (.ref it) 1) (wpAny_field ho hd (x:=.int i 0) rfl (wpAny_bind (m:=seqItems? (.ref t)) (wpAny_seqItems hol hdl ?_)))
 simp only [Int.toNat_natCast,hx]
 refine wpAny_bind (wpAny_rule (wpAny_bind (wpAny_setField ho hd (by simp) ?_)))
 refine stop_raised (hh.keeps fun b q hq e=>(Heap.get?_update_other _ _ fun z=>?_).trans e) fun h' e up ⟨o',g',c'⟩ =>
  wpAny_bind (wpAny_isInstance (T:="StopIteration") (b:=true) ⟨o',g',c'⟩ isSubtype_stop (wpAny_pure (k h' fun b q hb z=>up b q ((Heap.get?_update_other _ _ (Ne.symm hb)).trans z))))
 obtain ⟨C,hC⟩:=hq
 rw [← z,ho] at e
 cases e
 rw [hc] at hC
 cases hC
theorem unpack_tup {env:Env} {elts:List Expr} {x1} {pos:Pos} {t:Addr} {items:Array Value} {Q:Unit→Shared→Prop} (hh:Hnd A s.heap) (ht:IsTup s.heap t items) (hn:(assignEach elts env).length=items.size) (hstar:(assignEach elts env).findIdx? (·.1)=none)
  (h:∀ h',Heap.ExtBut s.heap.objs.size s.heap h'→wpAny (model prog w) A (assignInOrder ((assignEach elts env).map (·.2)) items.toList) Q E { s with heap:=h' }):wpAny (model prog w) A (assign (.Tuple elts x1 pos) env (.ref t)) Q E s:=by
 have lt:t≠s.heap.objs.size:=by obtain ⟨o,ho,_⟩:=ht; exact Nat.ne_of_lt (Heap.lt_size ho)
 have all:List.take items.size (List.drop 0 items.toList)=items.toList:=by rw [List.drop_zero]; exact List.take_of_length_le (by simp)
 have core:wpAny (model prog w) A (unpackItems (.ref t) items.size none) (fun vs s'=>∃ h',vs=items.toList∧s'={ s with heap:=h' }∧Heap.ExtBut s.heap.objs.size s.heap h') E s:=by
  unfold unpackItems
  refine wpAny_bind ?_
  unfold notIterableAtAll
  refine wpAny_bind (wpAny_specialOf ht.typeIs slot_tuple_iter.lookup (wpAny_pure ?_))
  simp only [Bool.false_eq_true,if_false]
  refine wpAny_bind (wpAny_holding (iter_tuple ht (wpAny_bind (wpAny_holding (draw_tuple lt items.size 0 _ _ ⟨_,Heap.get?_push_size _ rfl,rfl,rfl⟩ (ht.push _) (by omega) fun h1 it1 s1=>?_)))))
  rw [all,if_neg (by simp)]
  have t1:IsTup h1 t items:=(ht.push _).extBut s1.extBut lt
  have up1:∀ b o,b≠s.heap.objs.size→s.heap.get? b=some o→h1.get? b=some o:=fun b o hb e=>s1.extBut b o hb (Heap.get?_push_of_some _ e)
  refine wpAny_bind (wpAny_holding (tup_last (s:={ s with heap:=h1 }) (hh.keeps fun b o _ e=>up1 b o (Nat.ne_of_lt (Heap.lt_size e)) e) it1 t1 (by simp) fun h2 e2=>?_))
  simp only [Option.isSome_none,Bool.false_eq_true,if_false]
  exact wpAny_pure ⟨h2,rfl,rfl,fun b o hb e=>e2 b o hb (up1 b o hb e)⟩
 rw [assign_Tuple]
 refine wpAny_bind (wpAny_standAt ?_)
 unfold unpack
 rw [hstar,hn]
 refine wpAny_bind (wpAny_holding (wpAny_mono core (fun vs s' ⟨h',e1,e2,x⟩=>?_) fun _ _ z=>z))
 subst e1 e2
 exact h h' x
end
end L2
set_option Elab.async false
set_option linter.all false
set_option maxRecDepth 100000
set_option maxHeartbeats 4000000
namespace L2
open PySem PySem.Spec PyProof.Rows
theorem pg_tupA {X:Cx} {pos:Pos} {es:List Expr} {k:Nat} {t:TGs} {n:Nat} (h:PGs X es t) (hl:(assignEach es X.env).length=n:=by rfl) (hst:(assignEach es X.env).findIdx? (·.1)=none:=by rfl):PG X (.Tuple es k pos) (gTup X.K n t):=by
 intro pins s σ H v u Q I r q
 obtain ⟨a,xs,rfl,hx,hn,q⟩:=q
 obtain rfl:u=Value.ref a:=r
 obtain ⟨its,rv,ht,hz⟩:=I.tuple hx
 refine unpack_tup I.hnd ht (by rw [hl,← hn,rv.length]; simp) hst fun h' ex=>?_
 have I1:Inv X pins σ H { s with heap:=h' }:=I.kept (t':=s.toks) fun b o e=>ex b o (Nat.ne_of_lt (Heap.lt_size e)) e
 have:=h pins { s with heap:=h' } σ H xs its Q I1 rv q
 simpa using this
section
variable {prog:Program} {w:World} {A:Around} {E:Value→Shared→Prop} {s:Shared}
end
def Itz (K:PySem.W.Frag) (a b:Addr):It :=
 ⟨fun i H=>∃ xs ys x y,SqL K H a xs∧SqL K H b ys∧xs[i]?=some x∧ys[i]?=some y,fun i H v H'=>∃ T x y,H T=none∧v = .ref T∧H'=upd H T (.tup [x,y])∧(∀ xs,SqL K H a xs→xs[i]?=some x)∧∀ ys,SqL K H b ys→ys[i]?=some y,
  fun i H=>∃ xs ys,SqL K H a xs∧SqL K H b ys∧xs.length≤i⟩
end L2
set_option Elab.async false
set_option linter.all false
set_option maxRecDepth 100000
set_option maxHeartbeats 4000000
namespace L2
open PySem PySem.Spec PyProof.Rows
def eqL (xs ys:List V):Bool:=xs.length == ys.length && (List.range xs.length).all fun i=>eqV (xs.getD i .non) (ys.getD i .non)
section
variable {X:Cx}
def rEqL (K:PySem.W.Frag) (neg:Bool):R2:=fun x y H Q=>∃ a b xs ys,x = .ref a∧y = .ref b∧SqL K H a xs∧SqL K H b ys∧xs.all flatV=true∧ys.all flatV=true∧Q (.bl (if neg then !eqL xs ys else eqL xs ys)) H
theorem lists_at {pins:List (Addr×Obj)} {σ:St} {H:Hp} {s:Shared} {a b:Addr} {xs ys:List V} (I:Inv X pins σ H s) (ha:SqL X.K H a xs) (hb:SqL X.K H b ys) (fx:xs.all flatV=true) (fy:ys.all flatV=true) :
  ∃ is js:List Value,s.heap.IsList a is.toArray∧s.heap.IsList b js.toArray∧xs.length=is.length∧ys.length=js.length∧∀ (A:Around) (j:Nat) (h1:j<is.toArray.size) (h2:j<js.toArray.size),SeqAt.EqAt A s is.toArray[j] js.toArray[j] (eqV (xs.getD j .non) (ys.getD j .non)):=by
 obtain ⟨is,r1,p1,_⟩:=I.list ha
 obtain ⟨js,r2,p2,_⟩:=I.list hb
 refine ⟨is,js,p1.isList,p2.isList,r1.length,r2.length,fun A j h1 h2=>?_⟩
 have l1:=r1.length
 have l2:=r2.length
 simp only [List.size_toArray] at h1 h2
 have e1:xs[j]?=some (xs.getD j .non):=by rw [List.getD_eq_getElem?_getD,List.getElem?_eq_getElem (by omega)]; rfl
 have e2:ys[j]?=some (ys.getD j .non):=by rw [List.getD_eq_getElem?_getD,List.getElem?_eq_getElem (by omega)]; rfl
 obtain ⟨u,g1,q1⟩:=r1.get e1
 obtain ⟨v,g2,q2⟩:=r2.get e2
 rw [List.getElem?_eq_getElem h1] at g1
 rw [List.getElem?_eq_getElem h2] at g2
 have f1:=List.all_eq_true.mp fx _ (List.mem_of_getElem? e1)
 have f2:=List.all_eq_true.mp fy _ (List.mem_of_getElem? e2)
 have z:=eqAt_V (A:=A) (s:=s) q1 q2 f1 f2
 have w1:is.toArray[j]=u:=by simpa using Option.some.inj g1
 have w2:js.toArray[j]=v:=by simpa using Option.some.inj g2
 rw [w1,w2]
 exact z
theorem op_eqL (hu:X.A.units<cLine):OpR X (compareOp .Eq) (rEqL X.K false):=by
 intro pins s σ H x y v u Q I rx ry h
 obtain ⟨a,b,xs,ys,rfl,rfl,ha,hb,fx,fy,q⟩:=h
 cases rx
 cases ry
 obtain ⟨is,js,p1,p2,l1,l2,eq⟩:=lists_at I ha hb fx fy
 by_cases hz:is.toArray.size=js.toArray.size
 ·refine SeqAt.eq_listAt p1 p2 hz hu (fun j h1 h2=>eq _ j h1 h2) ⟨.bl _,H,I,rfl,?_⟩
  have e:eqL xs ys=(List.range is.toArray.size).all fun j=>eqV (xs.getD j .non) (ys.getD j .non):=by
   unfold eqL
   simp only [List.size_toArray] at hz ⊢
   rw [l1,l2,hz]
   simp
  rw [← e]
  exact q
 ·refine SeqAt.eq_list_lengthsAt p1 p2 (by simpa using hz) hu ⟨.bl false,H,I,rfl,?_⟩
  have e:eqL xs ys=false:=by
   unfold eqL
   have:(xs.length == ys.length)=false:=by simp only [List.size_toArray] at hz; rw [l1,l2]; simpa using hz
   rw [this,Bool.false_and]
  have q':Q (.bl (eqL xs ys)) H:=q
  rw [e] at q'
  exact q'
theorem op_neL (hu:X.A.units<cLine):OpR X (compareOp .NotEq) (rEqL X.K true):=by
 intro pins s σ H x y v u Q I rx ry h
 obtain ⟨a,b,xs,ys,rfl,rfl,ha,hb,fx,fy,q⟩:=h
 cases rx
 cases ry
 obtain ⟨is,js,p1,p2,l1,l2,eq⟩:=lists_at I ha hb fx fy
 have q':Q (.bl (!eqL xs ys)) H:=q
 by_cases hz:is.toArray.size=js.toArray.size
 ·refine SeqAt.RcNeAt.lists p1 p2 hz hu (fun j h1 h2=>eq _ j h1 h2) _ _ _ _ ⟨.bl _,H,I,rfl,?_⟩
  have e:eqL xs ys=(List.range is.toArray.size).all fun j=>eqV (xs.getD j .non) (ys.getD j .non):=by
   unfold eqL
   simp only [List.size_toArray] at hz ⊢
   rw [l1,l2,hz]
   simp
  rw [← e]
  exact q'
 ·refine SeqAt.RcNeAt.lists_lengths p1 p2 (by simpa using hz) hu _ _ _ _ ⟨.bl true,H,I,rfl,?_⟩
  have e:eqL xs ys=false:=by
   unfold eqL
   have:(xs.length == ys.length)=false:=by simp only [List.size_toArray] at hz; rw [l1,l2]; simpa using hz
   rw [this,Bool.false_and]
  rw [e] at q'
  exact q'
mutual
inductive DatV (H:Hp):V→PyData→Prop
 | non:DatV H .non .none
 | bl (b:Bool):DatV H (.bl b) (.bool b)
 | int (i:Int):DatV H (.int i) (.int i)
 | str (x:Str):DatV H (.str x) (.str x)
 | lst {a:Addr} {xs:List V} {ds:List PyData}:a≠sysModules→H a=some (.lst xs)→DatVs H xs ds→DatV H (.ref a) (.list ds)
 | tup {a:Addr} {xs:List V} {ds:List PyData}:H a=some (.tup xs)→DatVs H xs ds→DatV H (.ref a) (.tuple ds)
 | dic {a:Addr}:H a=some (.dK [])→DatV H (.ref a) (.dict [])
inductive DatVs (H:Hp):List V→List PyData→Prop
 | nil:DatVs H [] []
 | cons {x:V} {xs:List V} {d:PyData} {ds:List PyData}:DatV H x d→DatVs H xs ds→DatVs H (x::xs) (d::ds)
end
mutual
theorem DatV.reads {pins:List (Addr×Obj)} {σ:St} {H:Hp} {s:Shared} (I:Inv X pins σ H s):∀ {x:V} {d:PyData} {u:Value},DatV H x d→RelV x u→∃ as,Reads s.heap u d as∧sysModules∉as
 | _,_,u,.non,r=>⟨[],by cases (show u=Value.none from r); exact .none,by simp⟩
 | _,_,u,.bl b,r=>⟨[],by cases (show u=Value.bool b from r); exact .bool b,by simp⟩
 | _,_,u,.int i,r=>⟨[],by obtain ⟨t,rfl⟩:=r; exact .int i t,by simp⟩
 | _,_,u,.str x,r=>⟨[],by obtain ⟨t,rfl⟩:=r; exact .str x t,by simp⟩
 | _,_,u,.lst (a:=a) na h ds,r=>by
  obtain rfl:u=Value.ref a:=r
  obtain ⟨z,its,n,rv,e⟩:=I.hok a _ h
  obtain ⟨as,q,hn⟩:=DatVs.reads I ds rv
  refine ⟨a::as,.list e rfl rfl q,fun w=>?_⟩
  rcases List.mem_cons.mp w with w|w
  ·exact na w.symm
  ·exact hn w
 | _,_,u,.tup (a:=a) h ds,r=>by
  obtain rfl:u=Value.ref a:=r
  obtain ⟨z,its,rv,o,e,hc,n,hd⟩:=I.hok a _ h
  obtain ⟨as,q,hn⟩:=DatVs.reads I ds rv
  exact ⟨as,.tuple e hc hd q,hn⟩
 | _,_,u,.dic (a:=a) h,r=>by
  obtain rfl:u=Value.ref a:=r
  obtain ⟨z,hs,vs,kv,o,es,ep,e,ed,ee,er⟩:=I.hok a _ h
  cases kv
  have e0:es.toList=[]:=by
   have w:=er.2.1
   generalize es.toList=l at w
   cases w
   rfl
  refine ⟨[a]++[],.dict (kvs:=[]) (as:=[]) (bs:=[]) e ed.1 ee (by rw [e0]; exact .nil) (by rw [e0]; exact .nil),fun w=>?_⟩
  have w':sysModules=a:=by simpa using w
  rw [w'] at hs
  simp at hs
theorem DatVs.reads {pins:List (Addr×Obj)} {σ:St} {H:Hp} {s:Shared} (I:Inv X pins σ H s):∀ {xs:List V} {ds:List PyData} {us:List Value},DatVs H xs ds→Vals xs us→∃ as,ReadsAll s.heap us ds as∧sysModules∉as
 | _,_,_,.nil,.nil=>⟨[],.nil,by simp⟩
 | _,_,_,.cons d ds,.cons r rs=>by
  obtain ⟨as,q,hn⟩:=DatV.reads I d r
  obtain ⟨bs,qs,hm⟩:=DatVs.reads I ds rs
  exact ⟨as++bs,.cons q qs,fun w=>(List.mem_append.mp w).elim hn hm⟩
end
def rRepr (A:Around):List V→Hp→VK→Prop:=fun xs H Q=>∃ a d,xs=[.ref a]∧DatV H (.ref a) d∧d.showable=true∧A.units+(d.depth+1)<cLine∧d.shown.length≤sizeLine∧Q (.str d.shown) H
theorem call_repr (hg:X.A.guards=some []):CallR X (.builtin "repr") (rRepr X.A):=by
 intro pins s σ H xs us Q I r h
 obtain ⟨a,d,rfl,dv,hs,hu,hz,q⟩:=h
 cases r with
 | cons r1 rr =>
  cases rr
  obtain ⟨as,rd,hn⟩:=dv.reads I r1
  rename_i u
  obtain rfl:u=Value.ref a:=r1
  exact repr_of_reads' rd hs (fun _=>hn) hg hu (fun _ _ e=>e) (fun h' u tk k=>⟨.str d.shown,H,I.kept k,⟨_,rfl⟩,q⟩) hz
theorem Inv.big {pins:List (Addr×Obj)} {σ:St} {H:Hp} {s:Shared} (I:Inv X pins σ H s):sysModules<s.heap.objs.size:=by
 have h:mainGlobals<s.heap.objs.size:=(I.mod.glob.keeps I.bk).lt
 exact Nat.lt_trans (by decide) h
def tDNew:TE:=fun _ H Q=>∀ p,H p=none→Q (.ref p) (upd H p (.dK []))
theorem pe_dnew {pos:Pos}:PE X (.Dict [] [] pos) tDNew:=fun pins s σ H Q I h =>
 wpAny_Dict_empty ⟨.ref s.heap.objs.size,_,I.laid (a:=s.heap.objs.size) (o:=.dK []) (t':=s.toks) (fun _ _ q=>Heap.get?_push_of_some _ q) (Nat.le_refl _) ⟨Nat.zero_le _,beq_eq_false_iff_ne.mpr (Ne.symm (Nat.ne_of_lt I.big)),[],.nil,Heap.DictOf.new s.heap⟩,rfl,h _ (I.hok.fresh (Nat.le_refl _))⟩
def iZip (K:PySem.W.Frag) (ta:TA):TI:=fun σ H R=>ta σ H fun vs H1=>∃ a b,vs=[.ref a,.ref b]∧(∃ xs,SqL K H1 a xs)∧(∃ ys,SqL K H1 b ys)∧R (Itz K a b) H1
end
end L2
set_option Elab.async false
set_option linter.all false
set_option maxRecDepth 100000
set_option maxHeartbeats 4000000
namespace L2
open PySem PySem.Spec PyProof.Rows
theorem Room.mark {c:Bool} {k:Nat} {A:Around} {v:Option Value} (r:Room c k A):Room false k (A.mark v):=⟨fun h=>(nomatch h),r.dp,r.un,r.gd⟩
def plainE:Expr→Bool
 | .Starred _ _=>false
 | _=>true
theorem starEach_plain {e:Expr} {es:List Expr} {env:Env} (h:plainE e=true):starEach (e::es) env=(false,eval e env)::starEach es env:=by
 cases e <;> first|rfl|(exact absurd (show false=true from h) Bool.false_ne_true)
def plainEs (es:List Expr):Bool:=es.all plainE
theorem starEach_any {env:Env}:∀ {es:List Expr} (h:plainEs es=true),(starEach es env).any (·.1)=false
 | [],_=>rfl
 | e::es,h=>by
  unfold plainEs at h
  rw [List.all_cons,Bool.and_eq_true] at h
  rw [starEach_plain h.1,List.any_cons,starEach_any h.2]
  rfl
theorem backTo_any {pos:Pos} {env:Env} {es:List Expr} (h:plainEs es=true):(backTo pos (starEach es env)).any (·.1)=false:=by
 have q:=starEach_any (env:=env) h
 unfold backTo
 rw [List.any_map]
 exact q
theorem star1 {e:Expr} {env:Env} (h:plainE e=true):starEach [e] env=[(false,eval e env)]:=(starEach_plain h).trans rfl
section
variable {X:Cx}
theorem pa_p {e:Expr} {es:List Expr} {te:TE} {t:TA} (ha:PE X e te) (hr:PA X es t) (hp:plainE e=true:=by rfl):PA X (e::es) (tCons te t):=pa_cons ha hr (starEach_plain hp)
theorem pe_callBp {id:String} {r:List V→Hp→VK→Prop} {x:Str} {e:Expr} {es:List Expr} {t:TA} {p pos:Pos} (hc:CallR X (.builtin id) r) (hg:Gl X x) (hm:X.mg x=none) (hv:bootBuiltins x=some (.builtin id)) (ha:PA X (e::es) t) (hp:plainE e=true:=by rfl) (hps:plainEs es=true:=by rfl) (hn:x≠"__name__":=by decide) (hdb:(x == ("__debug__" : Str))=false:=by decide):PE X (.Call (.Name x p) (e::es) [] pos) (tCB r t) :=
 pe_callB hc hg hm hv ha hn hdb (starEach_plain hp) (backTo_any hps)
theorem pe_callTyp {T:String} {r:List V→Hp→VK→Prop} {x:Str} {e:Expr} {es:List Expr} {t:TA} {p pos:Pos} (hc:CallR X (.type T) r) (hg:Gl X x) (hm:X.mg x=none) (hv:bootBuiltins x=some (.type T)) (ha:PA X (e::es) t) (hp:plainE e=true:=by rfl) (hps:plainEs es=true:=by rfl) (hn:x≠"__name__":=by decide) (hdb:(x == ("__debug__" : Str))=false:=by decide):PE X (.Call (.Name x p) (e::es) [] pos) (tCB r t) :=
 pe_callTy hc hg hm hv ha hn hdb (starEach_plain hp) (backTo_any hps)
theorem pi_range1p {tg a:Expr} {ta:TA} {p pos:Pos} (hg:Gl X "range") (hm:X.mg "range" = none) (ha:PA X [a] ta) (hp:plainE a=true:=by rfl):PIc true X tg (.Call (.Name "range" p) [a] [] pos) (iRng1 ta):=pi_range1 hg hm ha (star1 hp)
theorem ps_raisep {Ex:Addr→St→Hp→Prop} {C:Addr} {x:Str} {np cpos pos:Pos} {e:Expr} {es:List Expr} {t:TA} (hc:X.calm=true) (T:Throws X Ex) (O:ErrK X.K C) (hg:Gl X x) (hm:X.mg x=some (.ref C)) (ha:PA X (e::es) t) (hp:plainE e=true:=by rfl) (hps:plainEs es=true:=by rfl)
  (hdb:(x == ("__debug__" : Str))=false:=by decide):PS X (.Raise (some (.Call (.Name x np) (e::es) [] cpos)) none pos) (tRaise C Ex t):=ps_raise hc T O hg hm ha hdb (starEach_plain hp) (backTo_any hps)
end
structure New (H:Hp) (p:Addr) (o:HO) (H':Hp):Prop where
 no:H p=none
 at_:H' p=some o
 same:Same H H'
theorem New.mk' {H:Hp} {p:Addr} {o:HO} (h:H p=none):New H p o (upd H p o):=⟨h,upd_same,fun b u e=>by rw [upd_ne (ne_of_none e h)]; exact e⟩
section
variable {X:Cx}
def tLstA (t:TA):TE:=fun σ H Q=>t σ H fun xs H1=>xs.length≤sizeLine∧∀ p H2,New H1 p (.lst xs) H2→p≠sysModules→Q (.ref p) H2
theorem pe_lstA {es:List Expr} {t:TA} {pos:Pos} (h:PA X es t):PE X (.List es pos) (tLstA t):=by
 intro pins s σ H Q I hq
 refine wpAny_List_spliced (thn (h pos pins s σ H _ I hq) fun us s1 ⟨xs,H1,I1,r,z,q⟩=>⟨by rw [← r.length]; exact z,?_⟩)
 have hf:H1 s1.heap.objs.size=none:=I1.hok.fresh (Nat.le_refl _)
 refine ⟨.ref s1.heap.objs.size,upd H1 s1.heap.objs.size (.lst xs),I1.laid (t':=s1.toks) (fun b u e=>Heap.get?_push_of_some _ e) (Nat.le_refl _) ?_,rfl,q _ _ (.mk' hf) (Nat.ne_of_gt I1.big)⟩
 exact ⟨z,us,0,r,Heap.get?_push_size _ rfl⟩
def tTupA (t:TA):TE:=fun σ H Q=>t σ H fun xs H1=>xs.length≤sizeLine∧∀ p H2,New H1 p (.tup xs) H2→Q (.ref p) H2
theorem thenA {es:List Expr} {t:TA} {R R':List V→Hp→Prop} (hw:∀ xs H,R xs H→R' xs H) (h:PA X es t) (pos:Pos) (pins:List (Addr×Obj)) (s:Shared) (σ:St) (H:Hp) (I:Inv X pins σ H s) (q:t σ H R) :
  wpAny (model X.prog X.w) X.A (spliced (backTo pos (starEach es X.env))) (AP X pins σ R') X.xe s :=
 thn (h pos pins s σ H R I q) fun _ _ ⟨vs,H',a,b,c⟩=>⟨vs,H',a,b,hw _ _ c⟩
theorem pe_tupA {es:List Expr} {t:TA} {x1} {pos:Pos} (h:PA X es t):PE X (.Tuple es x1 pos) (tTupA t):=by
 have h':PA X es (fun σ H Q=>∃ R:List V→Hp→Prop,t σ H R∧∀ xs H,R xs H→Q xs H):=fun pos pins s σ H Q I ⟨R,q,hw⟩=>thenA hw h pos pins s σ H I q
 intro pins s σ H Q I hq
 exact pe_tup h' pins s σ H Q I ⟨_,hq,fun xs H1 ⟨z,q⟩=>⟨z,fun p hp=>q p _ (.mk' hp)⟩⟩
def tDNewA:TE:=fun _ H Q=>∀ p H2,New H p (.dK []) H2→Q (.ref p) H2
theorem pe_dnewA {pos:Pos}:PE X (.Dict [] [] pos) tDNewA:=fun pins s σ H Q I h=>pe_dnew pins s σ H Q I fun p hp=>h p _ (.mk' hp)
end
def uR (v:V) (q:Addr→Prop):Prop:=∃ a,v = .ref a∧q a
def uApp (to te:TE):TE:=fun σ H Q=>to σ H fun x H1=>uR x fun l=>(∃ xs,H1 l=some (.lst xs))∧te σ H1 fun y H2=>∃ xs,H2 l=some (.lst xs)∧xs.length<sizeLine∧Q .non (upd H2 l (.lst (xs++[y])))
section
variable {X:Cx}
theorem OpR.weak {f:Value→Value→Sem Value} {r r':R2} (h:OpR X f r) (hw:∀ x y H Q,r' x y H Q→r x y H Q):OpR X f r' :=
 fun pins s σ H x y v u Q I rx ry q=>h pins s σ H x y v u Q I rx ry (hw x y H Q q)
theorem CallR.weak {f:Value} {r r':List V→Hp→VK→Prop} (h:CallR X f r) (hw:∀ xs H Q,r' xs H Q→r xs H Q):CallR X f r' :=
 fun pins s σ H xs us Q I rs q=>h pins s σ H xs us Q I rs (hw xs H Q q)
theorem IxR.weak {r r':R2} (h:IxR X r) (hw:∀ x y H Q,r' x y H Q→r x y H Q):IxR X r' :=
 fun value slice pins s σ H x y v u Q I rx ry q hs=>h value slice pins s σ H x y v u Q I rx ry (hw x y H Q q) hs
def uAdd:R2:=fun x y H Q=>(∃ i j,x = .int i∧y = .int j∧Q (.int (i+j)) H)∨(∃ i j,x = .str i∧y = .str j∧i.length+j.length≤sizeLine∧Q (.str (i++j)) H) ∨
 (∃ l b xs zs,x = .ref l∧y = .ref b∧H l=some (.lst xs)∧H b=some (.lst zs)∧xs.length+zs.length≤sizeLine∧∀ p H2,New H p (.lst (xs++zs)) H2→Q (.ref p) H2)
theorem op_addU:OpR X (binaryOp .Add) uAdd:=op_add.or (op_add_str.or (op_cat.weak fun x y H Q h=>by
 obtain ⟨l,b,xs,zs,e1,e2,h1,h2,h3,h4⟩:=h
 exact ⟨l,b,xs,zs,e1,e2,h1,h2,h3,fun p hp=>h4 p _ (.mk' hp)⟩))
def uMul:R2:=fun x y H Q=>(∃ i j,x = .int i∧y = .int j∧CMul i j∧Q (.int (i*j)) H) ∨
 (∃ l k xs,x = .ref l∧y = .int k∧H l=some (.lst xs)∧-(2 ^ 63)≤k∧k<2 ^ 63∧xs.length*k.toNat≤sizeLine∧∀ p H2,New H p (.lst (List.replicate k.toNat xs).flatten) H2→Q (.ref p) H2)
theorem op_mulU:OpR X (binaryOp .Mult) uMul:=op_mul.or (op_rep.weak fun x y H Q h=>by
 obtain ⟨l,k,xs,e1,e2,h1,h2,h3,h5,h4⟩:=h
 exact ⟨l,k,xs,e1,e2,h1,h2,h3,h5,fun p hp=>h4 p _ (.mk' hp)⟩)
def uIx:R2:=fun x y H Q=>(∃ p xs i v,x = .ref p∧y = .int i∧H p=some (.lst xs)∧atI xs i=some v∧Q v H) ∨
 (∃ p xs i v,x = .ref p∧y = .int i∧H p=some (.tup xs)∧atI xs i=some v∧Q v H)∨(∃ z i c,x = .str z∧y = .int i∧z.length≤sizeLine∧atI z.cps.toList i=some c∧Q (.str ⟨#[c]⟩) H)
theorem ix_U:IxR X uIx:=ix_seq.weak fun x y H Q h=>by
 rcases h with ⟨p,xs,i,v,e1,e2,h,r⟩|⟨p,xs,i,v,e1,e2,h,r⟩|h
 ·exact .inl ⟨p,xs,i,v,e1,e2,SqL.of h,r⟩
 ·exact .inr (.inl ⟨p,xs,i,v,e1,e2,SqT.of h,r⟩)
 ·exact .inr (.inr h)
def uLen:List V→Hp→VK→Prop:=fun xs H Q=>(∃ p ys,xs=[.ref p]∧H p=some (.lst ys)∧Q (.int ys.length) H)∨(∃ p ys,xs=[.ref p]∧H p=some (.tup ys)∧Q (.int ys.length) H) ∨
 (∃ z,xs=[.str z]∧z.length≤sizeLine∧Q (.int z.length) H)
theorem call_lenU:CallR X (.builtin "len") uLen:=(call_len_seq.or call_len_str).weak fun xs H Q h=>by
 rcases h with ⟨p,ys,e,h,q⟩|⟨p,ys,e,h,q⟩|h
 ·exact .inl ⟨p,ys,e,.inl (SqL.of h),q⟩
 ·exact .inl ⟨p,ys,e,.inr (SqT.of h),q⟩
 ·exact .inr h
def uEq (neg:Bool):R2:=fun x y H Q=>(scal x y=true∧Q (.bl (if neg then !decide (x=y) else decide (x=y))) H) ∨
 (∃ a b xs ys,x = .ref a∧y = .ref b∧H a=some (.lst xs)∧H b=some (.lst ys)∧xs.all flatV=true∧ys.all flatV=true∧Q (.bl (if neg then !eqL xs ys else eqL xs ys)) H)
theorem op_eqU (hu:X.A.units<cLine):OpR X (compareOp .Eq) (uEq false):=(op_eq.or (op_eqL hu)).weak fun x y H Q h=>by
 rcases h with h|⟨a,b,xs,ys,e1,e2,h1,h2,r⟩
 ·exact .inl ⟨h.1,by simpa using h.2⟩
 ·exact .inr ⟨a,b,xs,ys,e1,e2,SqL.of h1,SqL.of h2,r⟩
theorem op_neU (hu:X.A.units<cLine):OpR X (compareOp .NotEq) (uEq true):=(op_ne.or (op_neL hu)).weak fun x y H Q h=>by
 rcases h with h|⟨a,b,xs,ys,e1,e2,h1,h2,r⟩
 ·exact .inl ⟨h.1,by simpa using h.2⟩
 ·exact .inr ⟨a,b,xs,ys,e1,e2,SqL.of h1,SqL.of h2,r⟩
def tTru (K:PySem.W.Frag) (ta:TE):TT:=fun σ H Q=>ta σ H fun x H'=>∃ k,TruV K x H' k∧Q k H'
theorem pt_tru {a:Expr} {ta:TE} (ha:PE X a ta) (he:∀ whole,isTrue a X.env whole=(do let v←whole; standAt a.pos; holding [v] (truthy v)):=by intro _; rfl):PT X a (tTru X.K ta):=pt_truth ha he
def uFld (C:Addr) (ta:TE) (f:Str):TE:=fun σ H Q=>ta σ H fun x H1=>∃ a dx fs v,x = .ref a∧H1 a=some (.ins C dx fs)∧fs.lookup f=some v∧Q v H1
theorem pe_fldU {C:Addr} {e:Expr} {ta:TE} {f:Str} {pos:Pos} (c:Cls X.K C) (n:NoAttr X.K C f) (he:PE X e ta) (hb:attributeBase e f X.env (eval e X.env)=eval e X.env:=by rfl):PE X (.Attribute e f pos) (uFld C ta f):=by
 intro pins s σ H Q I h
 refine attr_of hb (thn (he pins s σ H _ I h) fun u s1 ⟨x,H1,I1,rx,a,dx,fs,v,ex,ea,l,q⟩=>?_)
 subst ex
 obtain rfl:u=Value.ref a:=rx
 exact getattr_ok I1 ea c n l fun u' s2 I2 ru=>⟨v,H1,I2,ru,q⟩
def uSetF (C:Addr) (ta tv:TE) (f:Str):TS:=fun D σ H=>tv σ H fun y H1=>ta σ H1 fun x H2=>∃ a dx fs,x = .ref a∧H2 a=some (.ins C dx fs)∧fs.length<1000∧D.nx σ (upd H2 a (.ins C dx (putF f y fs)))
theorem ps_fldU {C:Addr} {o value:Expr} {ta tv:TE} {f:Str} {pos pos':Pos} (c:Cls X.K C) (n:NoAttr X.K C f) (ha:PE X o ta) (hv:PE X value tv) (hs:swapsWith value (some (.Attribute o f pos')) pos.line X.env=pure false:=by rfl):PS X (.Assign [.Attribute o f pos'] value pos) (uSetF C ta tv f):=by
 intro pins s σ H D I h
 refine plainObj_wpAny_Assign_Attribute (thn (hv pins s σ H _ I h) fun u s1 ⟨y,H1,I1,ry,q⟩=>thn (ha pins s1 σ H1 _ I1 q) fun ov s2 ⟨x,H2,I2,rx,a,dx,fs,ex,ea,l,q2⟩=>?_) hs
 subst ex
 obtain rfl:ov=Value.ref a:=rx
 exact setattr_ok I2 ea c n l ry fun s3 I3=>⟨σ,_,I3,q2⟩
structure GF (P:Program) (w:World) (K:PySem.W.Frag) (mg:Str→Option Value) (base:Heap) (cm:Bool) (k:Nat) (x:Str) (ps:List Str) (sp:Sp):Prop where
 ex:∃ (f:Addr) (fd:FuncData),FnOk P w K mg base CX0 cm k f fd ps sp∧mg x=some (.ref f)∧PySem.W.keepIn K (.ref f)=true∧Binds K fd ps []
structure GX (P:Program) (w:World) (K:PySem.W.Frag) (mg:Str→Option Value) (base:Heap) (cm:Bool) (k:Nat) (x:Str) (ps:List Str) (sp:Sp):Prop where
 ex:∃ (f:Addr) (fd:FuncData),FnOk P w K mg base (CXW P w) cm k f fd ps sp∧mg x=some (.ref f)∧PySem.W.keepIn K (.ref f)=true∧Binds K fd ps []
structure GM (P:Program) (w:World) (K:PySem.W.Frag) (mg:Str→Option Value) (base:Heap) (cm:Bool) (k:Nat) (C:Addr) (m:Str) (ps:List Str) (sp:Sp):Prop where
 ex:∃ (f:Addr) (fd:FuncData),FnOk P w K mg base CX0 cm k f fd ps sp∧Meth K C m f∧Binds K fd ps []
structure GMX (P:Program) (w:World) (K:PySem.W.Frag) (mg:Str→Option Value) (base:Heap) (cm:Bool) (k:Nat) (C:Addr) (m:Str) (ps:List Str) (sp:Sp):Prop where
 ex:∃ (f:Addr) (fd:FuncData),FnOk P w K mg base (CXW P w) cm k f fd ps sp∧Meth K C m f∧Binds K fd ps []
structure GCX (P:Program) (w:World) (K:PySem.W.Frag) (mg:Str→Option Value) (base:Heap) (cm:Bool) (k:Nat) (x:Str) (C:Addr) (ps:List Str) (sp:Sp):Prop where
 ex:∃ (f:Addr) (fd:FuncData),FnOk P w K mg base (CXW P w) cm k f fd ps sp∧mg x=some (.ref C)∧Mk K C f∧Binds K fd ps []
variable {cm:Bool} {k j:Nat} {x m:Str} {C:Addr} {ps:List Str} {sp:Sp} {e o:Expr} {es:List Expr} {t:TA} {ta:TE} {p pos apos:Pos} {Ex:Addr→St→Hp→Prop}
theorem pe_g (G:GF X.prog X.w X.K X.mg X.base cm j x ps sp) (hr:Room cm k X.A) (hg:Gl X x) (ha:PA X (e::es) t) (hj:j≤k:=by decide) (hdb:(x == ("__debug__" : Str))=false:=by decide) (hp:plainE e=true:=by rfl) (hps:plainEs es=true:=by rfl) :
  PE X (.Call (.Name x p) (e::es) [] pos) (tCall sp [] E0 t):=by
 obtain ⟨f,fd,F,hm,hk,hb⟩:=G.ex
 exact pe_call F (hr.mono hj) hg hm hk hb .nil pass0 ha hdb (starEach_plain hp) (backTo_any hps)
theorem pe_gX (T:Throws X Ex) (G:GX X.prog X.w X.K X.mg X.base cm j x ps sp) (hr:Room cm k X.A) (hg:Gl X x) (ha:PA X (e::es) t) (hj:j≤k:=by decide) (hdb:(x == ("__debug__" : Str))=false:=by decide) (hp:plainE e=true:=by rfl) (hps:plainEs es=true:=by rfl) :
  PE X (.Call (.Name x p) (e::es) [] pos) (tCallX sp [] Ex t):=by
 obtain ⟨f,fd,F,hm,hk,hb⟩:=G.ex
 exact pe_callX T F (hr.mono hj) hg hm hk hb .nil ha hdb (starEach_plain hp) (backTo_any hps)
theorem pe_m {pl:Sem Bool} (he:PE X o ta) (c:Cls X.K C) (G:GM X.prog X.w X.K X.mg X.base cm j C m ps sp) (hr:Room cm k X.A) (ha:PA X (e::es) t) (hj:j≤k:=by decide)
  (hp:plainE e=true:=by rfl) (hps:plainEs es=true:=by rfl)
  (ht:eval (.Call (.Attribute o m apos) (e::es) [] pos) X.env=(do
   let ov←eval o X.env
   standAt apos.atName
   let (f,first)←holding [ov] (getMethod ov m pl)
   callWith pos f first (backTo pos (starEach (e::es) X.env)) (backToKw pos (keywordEach [] X.env))):=by rfl) :
  PE X (.Call (.Attribute o m apos) (e::es) [] pos) (tMeth C m sp [] E0 ta t):=by
 obtain ⟨f,fd,F,hm,hb⟩:=G.ex
 exact pe_meth he c hm F (hr.mono hj) hb .nil pass0 ha (starEach_plain hp) (backTo_any hps) ht
theorem pe_m0 {pl:Sem Bool} (he:PE X o ta) (c:Cls X.K C) (G:GM X.prog X.w X.K X.mg X.base cm j C m ps sp) (hr:Room cm k X.A) (hj:j≤k:=by decide)
  (ht:eval (.Call (.Attribute o m apos) [] [] pos) X.env=(do
   let ov←eval o X.env
   standAt apos.atName
   let (f,first)←holding [ov] (getMethod ov m pl)
   callWith pos f first (backTo pos (starEach [] X.env)) (backToKw pos (keywordEach [] X.env))):=by rfl) :
  PE X (.Call (.Attribute o m apos) [] [] pos) (tMeth C m sp [] E0 ta tNil):=by
 obtain ⟨f,fd,F,hm,hb⟩:=G.ex
 exact pe_meth0 he c hm F (hr.mono hj) hb .nil pass0 ht
theorem pe_mX {pl:Sem Bool} (he:PE X o ta) (c:Cls X.K C) (T:Throws X Ex) (G:GMX X.prog X.w X.K X.mg X.base cm j C m ps sp) (hr:Room cm k X.A) (ha:PA X (e::es) t) (hj:j≤k:=by decide)
  (hp:plainE e=true:=by rfl) (hps:plainEs es=true:=by rfl)
  (ht:eval (.Call (.Attribute o m apos) (e::es) [] pos) X.env=(do
   let ov←eval o X.env
   standAt apos.atName
   let (f,first)←holding [ov] (getMethod ov m pl)
   callWith pos f first (backTo pos (starEach (e::es) X.env)) (backToKw pos (keywordEach [] X.env))):=by rfl) :
  PE X (.Call (.Attribute o m apos) (e::es) [] pos) (tMethX C m sp [] Ex ta t):=by
 obtain ⟨f,fd,F,hm,hb⟩:=G.ex
 exact pe_methX he c hm T F (hr.mono hj) hb .nil ha (starEach_plain hp) (backTo_any hps) ht
theorem pe_mX0 {pl:Sem Bool} (he:PE X o ta) (c:Cls X.K C) (T:Throws X Ex) (G:GMX X.prog X.w X.K X.mg X.base cm j C m ps sp) (hr:Room cm k X.A) (hj:j≤k:=by decide)
  (ht:eval (.Call (.Attribute o m apos) [] [] pos) X.env=(do
   let ov←eval o X.env
   standAt apos.atName
   let (f,first)←holding [ov] (getMethod ov m pl)
   callWith pos f first (backTo pos (starEach [] X.env)) (backToKw pos (keywordEach [] X.env))):=by rfl) :
  PE X (.Call (.Attribute o m apos) [] [] pos) (tMethX C m sp [] Ex ta tNil):=by
 obtain ⟨f,fd,F,hm,hb⟩:=G.ex
 exact pe_methX0 he c hm T F (hr.mono hj) hb .nil ht
structure NewI (H:Hp) (C x dx:Addr) (H':Hp):Prop where
 no:H x=none
 nod:H dx=none
 ne:dx≠x
 at_:H' x=some (.ins C dx [])
 own:H' dx=some (.own x)
 same:Same H H'
theorem NewI.mk' {H:Hp} {C x dx:Addr} (h:H x=none) (hd:H dx=none) (ne:dx≠x):NewI H C x dx (upd (upd H dx (.own x)) x (.ins C dx [])) :=
 ⟨h,hd,ne,upd_same,by rw [upd_ne ne,upd_same],fun b u e=>by rw [upd_ne (ne_of_none e h),upd_ne (ne_of_none e hd)]; exact e⟩
def tMakeA (C:Addr) (sp:Sp) (t:TA):TE:=fun σ H Q=>t σ H fun vs H1=>∀ x dx H2,NewI H1 C x dx H2→sp (.ref x::vs) H2 (fun v H3=>v = .non∧Q (.ref x) H3) E0
def tMakeXA (C:Addr) (sp:Sp) (Ex:Addr→St→Hp→Prop) (t:TA):TE:=fun σ H Q=>t σ H fun vs H1=>∀ x dx H2,NewI H1 C x dx H2→sp (.ref x::vs) H2 (fun v H3=>v = .non∧Q (.ref x) H3) (XE Ex σ)
theorem PA.any {es:List Expr} {t:TA} (h:PA X es t):PA X es (fun σ H Q=>∃ R:List V→Hp→Prop,t σ H R∧∀ xs H,R xs H→Q xs H):=fun pos pins s σ H Q I ⟨R,q,hw⟩=>thenA hw h pos pins s σ H I q
theorem pe_cX (T:Throws X Ex) (G:GCX X.prog X.w X.K X.mg X.base cm j x C ps sp) (hr:Room cm k X.A) (hg:Gl X x) (ha:PA X (e::es) t) (hj:j+1≤k:=by decide) (hdb:(x == ("__debug__" : Str))=false:=by decide) (hp:plainE e=true:=by rfl) (hps:plainEs es=true:=by rfl) :
  PE X (.Call (.Name x p) (e::es) [] pos) (tMakeXA C sp Ex t):=by
 obtain ⟨f,fd,F,hm,M,hb⟩:=G.ex
 intro pins s σ H Q I h
 exact pe_makeX M T F (hr.mono hj) hg hm hb .nil ha.any hdb (starEach_plain hp) (backTo_any hps) pins s σ H Q I ⟨_,h,fun vs H1 q x dx hx hd ne=>by rw [List.append_nil]; exact q x dx _ (.mk' hx hd ne)⟩
theorem pe_gv {v:V} {pos:Pos} (hg:Gl X x) (hm:∃ u,X.mg x=some u∧RelV v u) (hd:(x == ("__debug__" : Str))=false:=by decide):PE X (.Name x pos) (tC v):=by
 obtain ⟨u,hm,r⟩:=hm
 exact pe_glob hg hm r hd
theorem pe_append {o e:Expr} {to te:TE} {apos cpos:Pos} (ho:PE X o to) (he:PE X e te)
  (hbase:attributeBase o "append" X.env (eval o X.env)=eval o X.env:=by rfl)
  (hline:(apos.endLine == cpos.line)=true:=by rfl) (hp:plainE e=true:=by rfl):PE X (.Call (.Attribute o "append" apos) [e] [] cpos) (uApp to te):=by
 intro pins s σ H Q I h
 have hs:starEach [e] X.env=[(false,eval e X.env)]:=star1 hp
 refine wpAny_Call_method_late hbase (by rw [hs]; rfl) hline rfl (thn (ho pins s σ H _ I h) fun v s1 ⟨x,H1,I1,r1,l,ex,⟨xs,hx⟩,q1⟩=>?_)
 subst ex
 obtain ⟨h1,h2⟩:=tyV_is (T:="list") I1 r1 (.inl ⟨rfl,xs,SqL.of hx⟩)
 refine ⟨"list","list.append",PySem.F.plainAttrs_list,PySem.F.slot_list_append,PySem.F.type_list_append,h1,h2,?_⟩
 rw [hs]
 refine Calls.callWith_builtin rfl (Calls.evalArgs_plain ?_)
 have hA:=pa_cons he pa_nil (hs:=hs) cpos pins s1 σ H1 (fun ys H2=>match ys with|[y]=>∃ xs,H2 l=some (.lst xs)∧xs.length<sizeLine∧Q .non (upd H2 l (.lst (xs++[y])))|_=>False) I1 q1
 rw [hs] at hA
 refine thn hA fun us s2 ⟨vs,H2,I2,r2,q2⟩=>?_
 match vs,q2,r2 with
 | [y],⟨xs2,hx2,hl2,q2⟩,r2=>exact mt_append pins s2 σ H2 (.ref l) [y] v us Q I2 r1 r2 ⟨l,xs2,y,rfl,rfl,hx2,hl2,q2⟩
end
section
variable {X:Cx}
def uInt:List V→Hp→VK→Prop:=fun xs H Q=>(∃ i,xs=[.int i]∧Q (.int i) H)∨∃ k,xs=[.bl k]∧Q (.int (if k then 1 else 0)) H
theorem call_intU:CallR X (.type "int") uInt:=call_int1
def uStr:List V→Hp→VK→Prop:=fun xs H Q=>∃ i,xs=[.int i]∧i.natAbs.log2<1920∧Q (.str (toString i)) H
theorem call_strU:CallR X (.type "str") uStr:=call_str_int
theorem uInt_i {i:Int} {H:Hp} {Q:VK}:uInt [.int i] H Q=Q (.int i) H:=by simp [uInt]
theorem uInt_b {k:Bool} {H:Hp} {Q:VK}:uInt [.bl k] H Q=Q (.int (if k then 1 else 0)) H:=by simp [uInt]
theorem uStr_i {i:Int} {H:Hp} {Q:VK}:uStr [.int i] H Q=(i.natAbs.log2<1920∧Q (.str (toString i)) H):=by simp [uStr]
def uMax:List V→Hp→VK→Prop:=fun xs H Q=>∃ i j,xs=[.int i,.int j]∧Q (.int (if j>i then j else i)) H
def uMin:List V→Hp→VK→Prop:=fun xs H Q=>∃ i j,xs=[.int i,.int j]∧Q (.int (if j<i then j else i)) H
theorem call_maxU (hc:X.calm=true):CallR X (.builtin "max") uMax:=call_max2 hc
theorem call_minU (hc:X.calm=true):CallR X (.builtin "min") uMin:=call_min2 hc
theorem uMax_ii {i j:Int} {H:Hp} {Q:VK}:uMax [.int i,.int j] H Q=Q (.int (if j>i then j else i)) H:=by
 apply propext; constructor
 ·rintro ⟨a,b,e,q⟩; cases e; exact q
 ·exact fun q=>⟨i,j,rfl,q⟩
theorem uMin_ii {i j:Int} {H:Hp} {Q:VK}:uMin [.int i,.int j] H Q=Q (.int (if j<i then j else i)) H:=by
 apply propext; constructor
 ·rintro ⟨a,b,e,q⟩; cases e; exact q
 ·exact fun q=>⟨i,j,rfl,q⟩
end
section
variable {Y:Cx} {sc:Scope} {N':List Str} {pins:List (Addr×Obj)} {D:Addr} {fp:List Addr} {s:Shared} {H:Hp}
theorem pg_tupL {pos:Pos} {es:List Expr} {k:Nat} {t:TGs} {n:Nat} (h:PGs (cxLC Y sc N' pins D fp s H) es t) (hl:(assignEach es (cxLC Y sc N' pins D fp s H).env).length=n:=by rfl) (hst:(assignEach es (cxLC Y sc N' pins D fp s H).env).findIdx? (·.1)=none:=by rfl):PG (cxLC Y sc N' pins D fp s H) (.Tuple es k pos) (gTup Y.K n t):=pg_tupA h hl hst
end
theorem gCons_c {t:TG} {u:TGs} {v:V} {r:List V} {σ:St} {H:Hp} {Q:St→Hp→Prop}:gCons t u (v::r) σ H Q=t v σ H fun σ' H'=>u r σ' H' Q:=by
 apply propext; constructor
 ·rintro ⟨v,r,e,h⟩; cases e; exact h
 ·exact fun h=>⟨v,r,rfl,h⟩
theorem gNil_n {σ:St} {H:Hp} {Q:St→Hp→Prop}:gNil [] σ H Q=Q σ H:=by
 apply propext; constructor
 ·exact fun h=>h.2
 ·exact fun h=>⟨rfl,h⟩
section
variable {H:Hp} {Q:VK} {i j:Int} {x y:Str} {a b:Addr} {K:PySem.W.Frag} {g:Int→Int→V} {C:Int→Int→Prop} {k c:Bool} {QB:Bool→Hp→Prop}
theorem uAdd_ii:uAdd (.int i) (.int j) H Q=Q (.int (i+j)) H:=by simp [uAdd]
theorem uAdd_ss:uAdd (.str x) (.str y) H Q=(x.length+y.length≤sizeLine∧Q (.str (x++y)) H):=by simp [uAdd]
theorem uAdd_rr:uAdd (.ref a) (.ref b) H Q = ∃ xs zs,H a=some (.lst xs)∧H b=some (.lst zs)∧xs.length+zs.length≤sizeLine∧∀ p H2,New H p (.lst (xs++zs)) H2→Q (.ref p) H2:=by simp [uAdd]
theorem uMul_ii:uMul (.int i) (.int j) H Q=(CMul i j∧Q (.int (i*j)) H):=by simp [uMul]
theorem uMul_ri:uMul (.ref a) (.int i) H Q = ∃ xs,H a=some (.lst xs)∧-(2 ^ 63)≤i∧i<2 ^ 63∧xs.length*i.toNat≤sizeLine∧∀ p H2,New H p (.lst (List.replicate i.toNat xs).flatten) H2→Q (.ref p) H2:=by simp [uMul]
theorem uIx_r:uIx (.ref a) (.int i) H Q = ∃ xs,(H a=some (.lst xs)∨H a=some (.tup xs))∧∃ v,atI xs i=some v∧Q v H:=by
 apply propext; constructor
 ·rintro (⟨p,xs,i,v,e1,e2,h,r⟩|⟨p,xs,i,v,e1,e2,h,r⟩|⟨z,i,c,e,_⟩)
  ·cases e1; cases e2; exact ⟨xs,.inl h,v,r⟩
  ·cases e1; cases e2; exact ⟨xs,.inr h,v,r⟩
  ·cases e
 ·rintro ⟨xs,h|h,v,r⟩
  ·exact .inl ⟨_,xs,_,v,rfl,rfl,h,r⟩
  ·exact .inr (.inl ⟨_,xs,_,v,rfl,rfl,h,r⟩)
theorem uIx_s:uIx (.str x) (.int i) H Q=(x.length≤sizeLine∧∃ c,atI x.cps.toList i=some c∧Q (.str ⟨#[c]⟩) H):=by simp [uIx]
theorem uLen_r:uLen [.ref a] H Q = ∃ ys,(H a=some (.lst ys)∨H a=some (.tup ys))∧Q (.int ys.length) H:=by
 apply propext; constructor
 ·rintro (⟨p,xs,e1,h,r⟩|⟨p,xs,e1,h,r⟩|⟨z,e,_⟩)
  ·cases e1; exact ⟨xs,.inl h,r⟩
  ·cases e1; exact ⟨xs,.inr h,r⟩
  ·cases e
 ·rintro ⟨xs,h|h,r⟩
  ·exact .inl ⟨_,xs,rfl,h,r⟩
  ·exact .inr (.inl ⟨_,xs,rfl,h,r⟩)
theorem uLen_s:uLen [.str x] H Q=(x.length≤sizeLine∧Q (.int x.length) H):=by simp [uLen]
theorem rI_ii:rI C g (.int i) (.int j) H Q=(C i j∧Q (g i j) H):=by simp [rI]
theorem rI0_ii:rI0 g (.int i) (.int j) H Q=Q (g i j) H:=by simp [rI0]
theorem rU_i {g:Int→V}:rU g (.int i) H Q=Q (g i) H:=by simp [rU]
theorem uEq_ii:uEq c (.int i) (.int j) H Q=Q (.bl (if c then !decide (i=j) else decide (i=j))) H:=by simp [uEq,scal]
theorem uEq_ss:uEq c (.str x) (.str y) H Q=Q (.bl (if c then !decide (x=y) else decide (x=y))) H:=by simp [uEq,scal]
theorem uEq_bb:uEq c (.bl k) (.bl k') H Q=Q (.bl (if c then !decide (k=k') else decide (k=k'))) H:=by simp [uEq,scal]
theorem uEq_rr:uEq c (.ref a) (.ref b) H Q = ∃ xs ys,H a=some (.lst xs)∧H b=some (.lst ys)∧xs.all flatV=true∧ys.all flatV=true∧Q (.bl (if c then !eqL xs ys else eqL xs ys)) H:=by simp [uEq,scal]
def uTru (K:PySem.W.Frag) (v:V) (H:Hp) (Q:Bool→Hp→Prop):Prop:=∃ k,TruV K v H k∧Q k H
theorem uTru_b:uTru K (.bl k) H QB=QB k H:=by simp [uTru,TruV]
theorem uTru_n:uTru K .non H QB=QB false H:=by simp [uTru,TruV]
theorem uTru_i:uTru K (.int i) H QB=QB (i != 0) H:=by simp [uTru,TruV]
theorem uTru_r {xs:List V} (h:H a=some (.lst xs)) (q:QB (!xs.isEmpty) H):uTru K (.ref a) H QB:=⟨_,.inl ⟨xs,SqL.of h,rfl⟩,q⟩
theorem tTru_eq {ta:TE} {σ:St}:tTru K ta σ H QB=ta σ H fun x H'=>uTru K x H' QB:=rfl
def uB (v:V) (q:Bool→Prop):Prop:=∃ c,v = .bl c∧q c
theorem uB_b {q:Bool→Prop}:uB (.bl k) q=q k:=by simp [uB]
theorem tB_eq {t:TE} {σ:St}:tB t σ H QB=t σ H fun x H1=>uB x fun c=>QB c H1:=rfl
theorem tTest_eq {t:TE} {σ:St}:tTest t σ H QB=t σ H fun x H1=>uB x fun c=>QB c H1:=rfl
theorem tAndV_eq {t u:TE} {σ:St}:tAndV t u σ H Q=t σ H fun x H1=>uB x fun c=>if c=true then u σ H1 Q else Q (.bl false) H1:=rfl
theorem tOrV_eq {t u:TE} {σ:St}:tOrV t u σ H Q=t σ H fun x H1=>uB x fun c=>if c=true then Q (.bl true) H1 else u σ H1 Q:=rfl
theorem tNotV_eq {t:TE} {σ:St}:tNotV t σ H Q=t σ H fun x H1=>uB x fun c=>Q (.bl (!c)) H1:=rfl
theorem tChain_eq {r r':R2} {ta tb tc:TE} {σ:St}:tChain r r' ta tb tc σ H Q=ta σ H fun x H1=>tb σ H1 fun y H2=>r x y H2 fun z H3=>uB z fun k=>if k=true then tc σ H3 fun w' H4=>r' y w' H4 Q else Q (.bl false) H3:=rfl
theorem uR_r {q:Addr→Prop}:uR (.ref a) q=q a:=by simp [uR]
theorem uFld_eq {C:Addr} {ta:TE} {f:Str} {σ:St}:uFld C ta f σ H Q=ta σ H fun x H1=>uR x fun a=>∃ dx fs v,H1 a=some (.ins C dx fs)∧fs.lookup f=some v∧Q v H1:=by
 unfold uFld uR
 congr; funext x H1
 apply propext
 constructor
 ·rintro ⟨a,dx,fs,v,h1,h2,h3,h4⟩; exact ⟨a,h1,dx,fs,v,h2,h3,h4⟩
 ·rintro ⟨a,h1,dx,fs,v,h2,h3,h4⟩; exact ⟨a,dx,fs,v,h1,h2,h3,h4⟩
theorem uSetF_eq {C:Addr} {ta tv:TE} {f:Str} {σ:St} {D:Ends}:uSetF C ta tv f D σ H=tv σ H fun y H1=>ta σ H1 fun x H2=>uR x fun a=>∃ dx fs,H2 a=some (.ins C dx fs)∧fs.length<1000∧D.nx σ (upd H2 a (.ins C dx (putF f y fs))):=by
 unfold uSetF uR
 congr; funext x H1; congr; funext x2 H2
 apply propext
 constructor
 ·rintro ⟨a,dx,fs,h1,h2,h3,h4⟩; exact ⟨a,h1,dx,fs,h2,h3,h4⟩
 ·rintro ⟨a,h1,dx,fs,h2,h3,h4⟩; exact ⟨a,dx,fs,h1,h2,h3,h4⟩
theorem tMeth_eq {C:Addr} {m:Str} {sp:Sp} {dvs:List V} {E:XK} {ta:TE} {t:TA} {σ:St}:tMeth C m sp dvs E ta t σ H Q=ta σ H fun x H1=>uR x fun a=>∃ dx fs,H1 a=some (.ins C dx fs)∧fs.lookup m=none∧t σ H1 fun vs H2=>sp (.ref a::(vs++dvs)) H2 Q E:=by
 unfold tMeth uR
 congr; funext x H1
 apply propext
 constructor
 ·rintro ⟨a,dx,fs,rfl,h2,h3,h4⟩; exact ⟨a,rfl,dx,fs,h2,h3,h4⟩
 ·rintro ⟨a,rfl,dx,fs,h2,h3,h4⟩; exact ⟨a,dx,fs,rfl,h2,h3,h4⟩
theorem tMethX_eq {C:Addr} {m:Str} {sp:Sp} {dvs:List V} {Ex:Addr→St→Hp→Prop} {ta:TE} {t:TA} {σ:St}:tMethX C m sp dvs Ex ta t σ H Q=ta σ H fun x H1=>uR x fun a=>∃ dx fs,H1 a=some (.ins C dx fs)∧fs.lookup m=none∧t σ H1 fun vs H2=>sp (.ref a::(vs++dvs)) H2 Q (XE Ex σ):=by
 unfold tMethX uR
 congr; funext x H1
 apply propext
 constructor
 ·rintro ⟨a,dx,fs,rfl,h2,h3,h4⟩; exact ⟨a,rfl,dx,fs,h2,h3,h4⟩
 ·rintro ⟨a,rfl,dx,fs,h2,h3,h4⟩; exact ⟨a,dx,fs,rfl,h2,h3,h4⟩
end
section
variable {K:PySem.W.Frag} {g:TG} {tb:TS} {D:Ends} {σ:St} {H:Hp} {ta:TA} {tl:TE} {wi:TI} {R:It→Hp→Prop} {j:Int} {tt:TT} {te:TE} {ix:List (Option Nat)} {Q:VK}
def ForJ (J:It) (g:TG) (tb:TS) (D:Ends) (σ:St) (H:Hp):Prop:=∃ W:Nat→Nat→St→Hp→Prop,(∃ m,W 0 m σ H)∧∀ i m σ H,W i m σ H →
 (J.stop i H∧D.nx σ H)∨(J.go i H∧∃ N:St→Hp→Prop,(∀ σ' H',N σ' H'→∃ m',m'<m∧W (i+1) m' σ' H')∧∀ x H',J.yld i H x H'→g x σ H' fun σ2 H2=>tb { D with nx:=N,ct:=N,bk:=D.nx } σ2 H2)
theorem tFor_eq:tFor wi g tb D σ H=wi σ H fun J H1=>ForJ J g tb D σ H1:=rfl
def uI1 (vs:List V) (q:Int→Prop):Prop:=∃ j,vs=[.int j]∧q j
theorem uI1_i {q:Int→Prop}:uI1 [.int j] q=q j:=by simp [uI1]
theorem iRng1_eq:iRng1 ta σ H R=ta σ H fun vs H1=>uI1 vs fun j=>-(2 ^ 62)≤j∧j<2 ^ 62∧R (Itr 0 j.toNat) H1:=rfl
theorem iList_eq:iList K tl σ H R=tl σ H fun x H1=>uR x fun a=>(∃ xs,SqL K H1 a xs)∧R (Itl K a) H1:=rfl
theorem iTup_eq:iTup K tl σ H R=tl σ H fun x H1=>uR x fun a=>(∃ xs,SqT K H1 a xs)∧R (Itt K a) H1:=rfl
def uR2 (vs:List V) (q:Addr→Addr→Prop):Prop:=∃ a b,vs=[.ref a,.ref b]∧q a b
theorem uR2_r {q:Addr→Addr→Prop} {a b:Addr}:uR2 [.ref a,.ref b] q=q a b:=by
 apply propext
 constructor
 ·rintro ⟨c,d,e,h⟩; cases e; exact h
 ·exact fun h=>⟨a,b,rfl,h⟩
theorem iZip_eq:iZip K ta σ H R=ta σ H fun vs H1=>uR2 vs fun a b=>(∃ xs,SqL K H1 a xs)∧(∃ ys,SqL K H1 b ys)∧R (Itz K a b) H1:=by
 unfold iZip uR2
 rfl
def CompJ (J:It) (g:TG) (tt:TT) (te:TE) (τ:St) (H:Hp) (Q:VK):Prop:=∃ W:Nat→Nat→St→List V→Hp→Prop,(∃ m,W 0 m τ [] H)∧∀ i m τ ys H2,W i m τ ys H2→ys.length<sizeLine ∧
 ((J.stop i H2 ∧ ∀ D, H2 D = none → D ≠ sysModules → Q (.ref D) (upd H2 D (.lst ys))) ∨
  (J.go i H2 ∧ ∀ x H3, J.yld i H2 x H3 → g x τ H3 fun τ1 H4 => tt τ1 H4 fun ok H5 => if ok = true then te τ1 H5 fun y H6 => ∃ m', m' < m ∧ W (i + 1) m' τ1 (ys ++ [y]) H6 else ∃ m', m' < m ∧ W (i + 1) m' τ1 ys H5))
theorem tLC_eq:tLC ix wi g tt te σ H Q=wi σ H fun J H1=>CompJ J g tt te (pick ix σ) H1 Q:=rfl
theorem ForJ.rng {lo:Int} {n:Nat} (Pv:Nat→St→Hp→Prop) (h0:Pv 0 σ H)
  (hs:∀ i σ H,i<n→Pv i σ H→g (.int (lo+i)) σ H fun σ2 H2=>tb { D with nx:=Pv (i+1),ct:=Pv (i+1),bk:=D.nx } σ2 H2) (hd:∀ σ H,Pv n σ H→D.nx σ H):ForJ (Itr lo n) g tb D σ H:=for_range Pv h0 hs hd
theorem ForJ.lst {a:Addr} {xs:List V} (Pv:Nat→St→Hp→Prop) (h0:Pv 0 σ H) (hl:∀ i σ H,i≤xs.length→Pv i σ H→SqL K H a xs)
  (hs:∀ i x σ H,xs[i]?=some x→Pv i σ H→g x σ H fun σ2 H2=>tb { D with nx:=Pv (i+1),ct:=Pv (i+1),bk:=D.nx } σ2 H2) (hd:∀ σ H,Pv xs.length σ H→D.nx σ H):ForJ (Itl K a) g tb D σ H:=for_list Pv h0 hl hs hd
def CompN (N:St→List V→Hp→Prop) (ys:List V) (τ1:St) (te:TE) (ok:Bool) (H5:Hp):Prop:=if ok=true then te τ1 H5 fun y H6=>N τ1 (ys++[y]) H6 else N τ1 ys H5
theorem CompN_t {N:St→List V→Hp→Prop} {ys:List V} {τ:St}:CompN N ys τ te true H=te τ H fun y H6=>N τ (ys++[y]) H6:=rfl
theorem CompN_f {N:St→List V→Hp→Prop} {ys:List V} {τ:St}:CompN N ys τ te false H=N τ ys H:=rfl
theorem CompJ.rng {lo:Int} {n:Nat} {τ:St} (Pv:Nat→St→List V→Hp→Prop) (hz:∀ i τ ys H,Pv i τ ys H→ys.length<sizeLine) (h0:Pv 0 τ [] H)
  (hs:∀ (N:St→List V→Hp→Prop) i τ ys H,i<n→Pv i τ ys H→(∀ τ ys H,Pv (i+1) τ ys H→N τ ys H)→g (.int (lo+i)) τ H fun τ1 H4=>tt τ1 H4 fun ok H5=>CompN N ys τ1 te ok H5) (hd:∀ τ ys H,Pv n τ ys H→∀ D H',New H D (.lst ys) H'→Q (.ref D) H'):CompJ (Itr lo n) g tt te τ H Q:=by
 refine ⟨fun i m τ ys H=>m=n - i∧i≤n∧Pv i τ ys H,⟨n,by simp,Nat.zero_le _,h0⟩,?_⟩
 rintro i m τ ys H2 ⟨rfl,hi,p⟩
 refine ⟨hz i τ ys H2 p,?_⟩
 by_cases hlt:i<n
 ·refine .inr ⟨hlt,fun x H' y=>?_⟩
  obtain ⟨e,y⟩:=y
  subst e y
  exact hs (fun τ1 ys H=>∃ m',m'<n - i∧m'=n - (i+1)∧i+1≤n∧Pv (i+1) τ1 ys H) i τ ys _ hlt p fun τ1 zs H q=>⟨n - (i+1),by omega,rfl,hlt,q⟩
 ·have e:i=n:=by omega
  subst e
  exact .inl ⟨Nat.le_refl _,fun D hD _=>hd τ ys H2 p D _ (.mk' hD)⟩
end
end L2
set_option Elab.async false
set_option linter.all false
set_option maxRecDepth 100000
set_option maxHeartbeats 4000000
namespace L2
open PySem PySem.Spec PyProof.Rows
section
variable {X:Cx}
def rSlS:V→Option Int→Option Int→Hp→VK→Prop:=fun x lo hi H Q=>∃ z,x = .str z∧z.length≤sizeLine∧Q (.str (Txt.slice z lo hi)) H
theorem isSlice_of {h:Heap} {sl:Addr} {vl vu:Value} {lo hi:Option Int} (hs:h.IsSliceOf sl vl vu .none) (pl:IsPart vl lo) (pu:IsPart vu hi):∃ l u:Option (Int×Tok),h.IsSlice sl l u none∧l.map (·.1)=lo∧u.map (·.1)=hi:=by
 obtain ⟨o,h1,h2,h3⟩:=hs
 cases pl with
 | none =>
  cases pu with
  | none=>exact ⟨none,none,⟨o,h1,h2,h3⟩,rfl,rfl⟩
  | int j t=>exact ⟨none,some (j,t),⟨o,h1,h2,h3⟩,rfl,rfl⟩
 | int i t' =>
  cases pu with
  | none=>exact ⟨some (i,t'),none,⟨o,h1,h2,h3⟩,rfl,rfl⟩
  | int j t=>exact ⟨some (i,t'),some (j,t),⟨o,h1,h2,h3⟩,rfl,rfl⟩
theorem sl_str:SlR X rSlS:=by
 intro pins s σ H x v vl vu lo hi sl Q I rx hs pl pu h
 obtain ⟨z,rfl,hz,q⟩:=h
 obtain ⟨t,rfl⟩:=rx
 obtain ⟨l,u,hS,e1,e2⟩:=isSlice_of hs pl pu
 subst e1 e2
 exact ⟨"str",_,F.slot_str_getitem.lookup,typeIs_str _ _ _,wpAny_getItem_str_slice (l:=l) (u:=u) (st:=none) hS rfl
  (post_val_or_str ⟨Nat.le_trans (Txt.slice_le z _ _) hz,fun t' k=>⟨.str _,H,I.tok k,⟨_,rfl⟩,q⟩⟩)⟩
def uSl:V→Option Int→Option Int→Hp→VK→Prop:=fun x lo hi H Q=>(∃ a xs,x = .ref a∧H a=some (.lst xs)∧∀ p H2,New H p (.lst (cutV xs lo hi)) H2→Q (.ref p) H2)∨rSlS x lo hi H Q
theorem SlR.weak {r r':V→Option Int→Option Int→Hp→VK→Prop} (h:SlR X r) (hw:∀ x l u H Q,r' x l u H Q→r x l u H Q):SlR X r' :=
 fun pins s σ H x v vl vu lo hi sl Q I rx hs pl pu q=>h pins s σ H x v vl vu lo hi sl Q I rx hs pl pu (hw _ _ _ _ _ q)
theorem sl_U:SlR X uSl:=((sl_list (X:=X)).or sl_str).weak fun x l u H Q h=>by
 rcases h with ⟨a,xs,e,h,q⟩|h
 ·exact .inl ⟨a,xs,e,SqL.of h,fun p hp=>q p _ (.mk' hp)⟩
 ·exact .inr h
def uPart (v:V) (q:Int→Prop):Prop:=∃ i,v = .int i∧q i
theorem uPart_i {i:Int} {q:Int→Prop}:uPart (.int i) q=q i:=by simp [uPart]
theorem tPart_eq {t:TE} {σ:St} {H:Hp} {Q:Option Int→Hp→Prop}:tPart t σ H Q=t σ H fun x H1=>uPart x fun i=>Q (some i) H1:=rfl
theorem uSl_s {z:Str} {lo hi:Option Int} {H:Hp} {Q:VK}:uSl (.str z) lo hi H Q=(z.length≤sizeLine∧Q (.str (Txt.slice z lo hi)) H):=by simp [uSl,rSlS]
theorem uSl_r {a:Addr} {lo hi:Option Int} {H:Hp} {Q:VK}:uSl (.ref a) lo hi H Q = ∃ xs,H a=some (.lst xs)∧∀ p H2,New H p (.lst (cutV xs lo hi)) H2→Q (.ref p) H2:=by simp [uSl,rSlS]
theorem strsAre_of {ys:List Str}:∀ {us:List Value},Vals (ys.map V.str) us→StrsAre us ys:=by
 induction ys with
 | nil=>intro us r; rw [List.map_nil] at r; cases r; exact .nil
 | cons n ns ih =>
  intro us r
  rw [List.map_cons] at r
  cases r with
  | cons r1 r2 =>
   obtain ⟨t,e⟩:=r1
   subst e
   exact .cons n t (ih r2)
def rJoin:V→List V→Hp→VK→Prop:=fun x vs H Q=>∃ z p ys,x = .str z∧vs=[.ref p]∧H p=some (.lst (ys.map V.str))∧(ys.map (·.length)).sum+ys.length*z.length≤16777216∧Q (.str (Txt.join z ys)) H
theorem mt_join:MtR X "str.join" rJoin:=by
 intro pins s σ H x xs v us Q I rx rs h
 obtain ⟨z,p,ys,rfl,rfl,hp,hz,q⟩:=h
 obtain ⟨t,rfl⟩:=rx
 cases rs with
 | cons r1 rr =>
  cases rr
  cases (show _=Value.ref p from r1)
  obtain ⟨its,r,ht,_⟩:=I.list (SqL.of (K:=X.K) hp)
  exact join_list ht.isList (by simpa using strsAre_of r) hz fun t' k=>⟨.str _,H,I.tok k,⟨_,rfl⟩,q⟩
def repS (z:Str) (n:Nat):Str:=⟨((List.replicate n z.cps.toList).flatten).toArray⟩
theorem foldl_repN {α:Type} (l:List α):∀ (n:Nat) (acc:List α),List.foldl (fun x1 x2:Array α=>x1++x2) acc.toArray (List.replicate n l.toArray)=(acc++(List.replicate n l).flatten).toArray
 | 0,acc=>by simp
 | n+1,acc=>by
  rw [List.replicate_succ,List.foldl_cons,List.append_toArray,foldl_repN l n (acc++l)]
  simp [List.replicate_succ]
theorem repS_eq (z:Str) (n:Nat):(⟨(List.replicate n z.cps).foldl (·++·) #[]⟩:Str)=repS z n:=by
 have h:=foldl_repN z.cps.toList n []
 unfold repS
 congr 1
theorem flat_len {α:Type} (l:List α):∀ n:Nat,((List.replicate n l).flatten).length=l.length*n
 | 0=>by simp
 | n+1=>by rw [List.replicate_succ,List.flatten_cons,List.length_append,flat_len l n,Nat.mul_succ]; omega
theorem repS_len (z:Str) (n:Nat):(repS z n).length=z.length*n:=by
 show (((List.replicate n z.cps.toList).flatten).toArray).size=_
 rw [List.size_toArray,flat_len]
 rfl
def rRepS:R2:=fun x y H Q=>∃ z n,x = .str z∧y = .int n∧1<n∧n<2 ^ 31∧z.length≠0∧z.length*n.toNat≤sizeLine∧Q (.str (repS z n.toNat)) H
theorem op_repS:OpR X (binaryOp .Mult) rRepS:=by
 intro pins s σ H x y v u Q I rx ry h
 obtain ⟨z,n,rfl,rfl,h1,h2,h3,h4,q⟩:=h
 obtain ⟨t,rfl⟩:=rx
 obtain ⟨t',rfl⟩:=ry
 have hs:sizeLine=16777216:=sizeLine_eq
 have hc:(n == 1 || z.length == 0)=false:=by
  rw [Bool.or_eq_false_iff]
  exact ⟨beq_eq_false_iff_ne.mpr (by omega),beq_eq_false_iff_ne.mpr h3⟩
 have hz:z.length≤16777216:=by
  have:z.length*1≤z.length*n.toNat:=Nat.mul_le_mul_left _ (by omega)
  omega
 refine PySem.P.mul_str ?_ ?_ ?_ ?_
 ·rw [decide_eq_false (show ¬ n < -(2 ^ 63:Int) by omega),decide_eq_false (show ¬ n ≥ 2 ^ 63 by omega)]; rfl
 ·intro _ _ hgt
  have:(16777216:Int)≤(2 ^ 63 - 1) / n:=Int.le_ediv_of_mul_le (by omega) (by omega)
  omega
 ·intro _ _
  exact decide_eq_false (by omega)
 ·rw [if_neg (show ¬ n<1 by omega),if_neg (by rw [hc]; exact Bool.false_ne_true),repS_eq]
  exact ⟨by rw [repS_len]; omega,⟨.str _,H,I.tok _,⟨_,rfl⟩,q⟩⟩
theorem rSetL_r {p:Addr} {k:Int} {v:V} {H:Hp} {Q:Hp→Prop}:rSetL (.ref p) (.int k) v H Q = ∃ xs j,H p=some (.lst xs)∧ixN xs.length k=some j∧Q (upd H p (.lst (xs.set j v))):=by
 apply propext; constructor
 ·rintro ⟨p',xs,k',j,e1,e2,h⟩; cases e1; cases e2; exact ⟨xs,j,h⟩
 ·rintro ⟨xs,j,h⟩; exact ⟨p,xs,k,j,rfl,rfl,h⟩
def uListOf:List V→Hp→VK→Prop:=fun xs H Q=>∃ p ys,xs=[.ref p]∧(H p=some (.lst ys)∨H p=some (.tup ys))∧∀ l H2,New H l (.lst ys) H2→Q (.ref l) H2
theorem uListOf_r {a:Addr} {H:Hp} {Q:VK}:uListOf [.ref a] H Q = ∃ ys,(H a=some (.lst ys)∨H a=some (.tup ys))∧∀ l H2,New H l (.lst ys) H2→Q (.ref l) H2:=by
 apply propext; constructor
 ·rintro ⟨p,ys,e,h⟩; cases e; exact ⟨ys,h⟩
 ·rintro ⟨ys,h⟩; exact ⟨a,ys,rfl,h⟩
def uClear (to:TE):TE:=fun σ H Q=>to σ H fun x H1=>uR x fun l=>∃ xs,H1 l=some (.lst xs)∧Q .non (upd H1 l (.lst []))
theorem pe_clear {o:Expr} {to:TE} {apos cpos:Pos} (ho:PE X o to) (hbase:attributeBase o "clear" X.env (eval o X.env)=eval o X.env:=by rfl) (hline:(apos.endLine == cpos.line)=true:=by rfl):PE X (.Call (.Attribute o "clear" apos) [] [] cpos) (uClear to):=by
 intro pins s σ H Q I h
 refine wpAny_Call_method0_late hbase hline (thn (ho pins s σ H _ I h) fun v s1 ⟨x,H1,I1,r1,l,ex,xs,hx,q1⟩=>?_)
 subst ex
 obtain ⟨h1,h2⟩:=tyV_is (T:="list") I1 r1 (.inl ⟨rfl,xs,SqL.of hx⟩)
 exact ⟨"list","list.clear",PySem.F.plainAttrs_list,PySem.F.slot_list_clear,PySem.F.type_list_clear,h1,h2,Calls.callWith_builtin rfl (PySem.evalArgs_none (mt_clear pins s1 σ H1 (.ref l) [] v [] Q I1 r1 .nil ⟨l,xs,rfl,rfl,hx,q1⟩))⟩
theorem rJoin_sr {z:Str} {p:Addr} {H:Hp} {Q:VK}:rJoin (.str z) [.ref p] H Q = ∃ ys:List Str,H p=some (.lst (ys.map V.str))∧(ys.map (·.length)).sum+ys.length*z.length≤16777216∧Q (.str (Txt.join z ys)) H:=by
 apply propext; constructor
 ·rintro ⟨z',p',ys,e1,e2,h⟩; cases e1; cases e2; exact ⟨ys,h⟩
 ·rintro ⟨ys,h⟩; exact ⟨z,p,ys,rfl,rfl,h⟩
end
end L2
set_option Elab.async false
set_option linter.all false
set_option maxRecDepth 100000
set_option maxHeartbeats 4000000
namespace L2
open PySem PySem.Spec PyProof.Rows
def Ite (K:PySem.W.Frag) (a:Addr):It :=
 ⟨fun i H=>∃ xs x,SqL K H a xs∧xs[i]?=some x,fun i H v H'=>∃ T x,H T=none∧v = .ref T∧H'=upd H T (.tup [.int i,x])∧∀ xs,SqL K H a xs→xs[i]?=some x,fun i H=>∃ xs,SqL K H a xs∧xs.length≤i⟩
structure EnumSt (e it l:Addr) (i:Nat) (h:Heap):Prop where
 z:∃ old,IsEnum h e it i old
 a:h.IsListIter it l i
theorem turn_enum {P:Program} {w:World} {K:PySem.W.Frag} {elts:List Expr} {kk:Nat} {tp:Pos} {l e it:Addr} (hne:e≠it) :
  Turn true P w K (.Tuple elts kk tp) (Ite K l) [e,it] e (EnumSt e it l) where
 mem:=by simp
 obj:=fun i h st b hb=>by
  obtain ⟨⟨old,a1⟩,⟨o4,a4,_,d4⟩⟩:=st
  simp only [List.mem_cons,List.not_mem_nil,or_false] at hb
  rcases hb with rfl|rfl
  ·exact ⟨_,a1,fun v q=>nomatch q⟩
  ·exact ⟨_,a4,fun v q=>by rw [d4] at q; cases q⟩
 keep:=fun i h h' st k=>by
  obtain ⟨⟨old,a1⟩,a4⟩:=st
  exact ⟨⟨old,k _ (by simp) _ a1⟩,a4.at fun o e=>k _ (by simp) o e⟩
 item:=by
  intro X hP hw hK hc i pins s σ H E I hf st hg
  subst hP hw hK
  obtain ⟨xs,x,hq1,hx⟩:=hg
  obtain ⟨is1,rv1,p1,hz1⟩:=I.list hq1
  obtain ⟨u1,hu1,ru1⟩:=rv1.get hx
  obtain ⟨⟨old,a1⟩,a4⟩:=st
  refine wpAny_pyNext_enum_item a1 a4 p1.isList (x:=u1) (by simpa using hu1) hne fun h' b1 b2 b3 b4 b5=>?_
  refine ⟨_,rfl,wpAny_letOwnedTupleGo_enum (s:={ s with heap:=h',toks:=s.toks+1 }) b1 fun h2 c1 c2=>?_⟩
  have zlt:e<s.heap.objs.size:=Heap.lt_size a1
  have nz:s.heap.objs.size≠e:=Nat.ne_of_gt zlt
  have all:∀ c o,c≠e→c≠it→s.heap.get? c=some o→h2.get? c=some o:=fun c o n1 n2 q=>c2.extBut c o n1 (b5 c o n1 n2 q)
  have tT:h2.get? s.heap.objs.size=some { cls:=.type "tuple",data:=.seq #[.int i s.toks,u1] }:=c2.extBut _ _ nz b3
  have hfr:H s.heap.objs.size=none:=I.hok.fresh (Nat.le_refl _)
  have hok0:HOk X.prog X.w H h2:=fun b u q0=>by
   refine (I.hok b u q0).stay (fun c v hc q=>?_) (fun _ q=>q) fun _ _ q=>q
   have hnn:∀ d∈[e,it],c≠d:=fun d hd w=>by
    have fd:=(hf d hd).1
    rcases hc with k|k
    ·rw [k] at w; rw [w,fd] at q0; cases q0
    ·rw [w,fd] at k; cases k
   exact all c v (hnn e (by simp)) (hnn it (by simp)) q
  have lt0:∀ b o,s.heap.get? b=some o→b≠s.heap.objs.size:=fun b o e=>Nat.ne_of_lt (Heap.lt_size e)
  have I2:Inv X pins σ (upd H s.heap.objs.size (.tup [.int i,x])) { s with heap:=h2,toks:=s.toks+1 }:=by
   refine I.step (g':=s.gens) (d':=s.drawn) (t':=s.toks+1) (ch:=[e,it]) (fun b hb=>?_) (fun b o _ _ hb q _=>?_) (fun b o _ _ hb q _=>?_) (fun b o _ q n=>?_) (fun b o hb q=>?_) (fun b ps q=>?_) (fun b o u q=>?_) (fun b ps q=>?_) (fun m hm=>?_) (hok0.add hfr ?_) I.bare
   ·obtain ⟨f0,f1,f2,f3,f4,f5⟩:=hf b hb
    exact ⟨f3,f1,f4,f5⟩
   ·simp only [List.mem_cons,List.not_mem_nil,or_false,not_or] at hb
    exact all b o hb.1 hb.2 q
   ·simp only [List.mem_cons,List.not_mem_nil,or_false,not_or] at hb
    exact ⟨o.slots,all b o hb.1 hb.2 q⟩
   ·rw [upd_ne (lt0 b o q)]; exact n
   ·simp only [List.mem_cons,List.not_mem_nil,or_false,not_or] at hb
    exact ⟨o,all b o hb.1 hb.2 q⟩
   ·rw [upd_ne (ne_of_none q hfr)]; exact q
   ·rw [upd_ne (ne_of_none q hfr)]; exact q
   ·exact ⟨#[],by rw [upd_ne (ne_of_none q hfr),q]; simp⟩
   ·obtain ⟨o,es,ep,ho,r⟩:=hm
    exact ⟨o,es,ep,all _ o (Ne.symm (hf e (by simp)).2.1) (Ne.symm (hf it (by simp)).2.1) ho,r⟩
   ·exact ⟨by show 2≤sizeLine; decide,[.int i s.toks,u1],.cons ⟨_,rfl⟩ (.cons ru1 .nil),⟨_,tT,rfl,_,rfl⟩⟩
  refine ⟨.ref s.heap.objs.size,_,I2,rfl,⟨_,x,hfr,rfl,rfl,fun zs hz=>by rw [I.list_inj hz hq1]; exact hx⟩,?_,fun b hb=>?_⟩
  ·exact ⟨⟨_,c1⟩,b2.extBut c2.extBut (Ne.symm hne)⟩
  ·have ne:b≠s.heap.objs.size:=fun q=>by
    have:b<s.heap.objs.size:=by
     simp only [List.mem_cons,List.not_mem_nil,or_false] at hb
     obtain ⟨o4,a4,_⟩:=a4
     rcases hb with rfl|rfl
     ·exact zlt
     ·exact Heap.lt_size a4
    exact absurd (q ▸ this) (Nat.lt_irrefl _)
   rw [upd_ne ne]
   exact (hf b hb).1
 done:=by
  intro X hP hw hK hc i pins s σ H E I hf st hg
  subst hP hw hK
  obtain ⟨xs,hq1,hx⟩:=hg
  obtain ⟨is1,rv1,p1,hz1⟩:=I.list hq1
  have hl:=rv1.length
  obtain ⟨⟨old,a1⟩,a4⟩:=st
  refine wpAny_pyNext_enum_end (I.ok.hd (hc rfl)) a1 a4 p1.isList (by simp; omega) fun h' up=>⟨rfl,?_⟩
  refine I.step (g':=s.gens) (d':=s.drawn) (t':=s.toks) (ch:=[it]) (fun b hb=>?_) (fun b o _ _ hb q _=>?_) (fun b o _ _ hb q _=>?_) (fun _ _ _ _ n=>n) (fun b o hb q=>?_) (fun _ _ q=>q) (fun _ _ _ q=>q) (fun b ps q=>⟨#[],by rw [q]; simp⟩) (fun m hm=>?_) (fun b u q0=>?_) I.bare
  ·have hb':b∈[e,it]:=by simp only [List.mem_cons,List.not_mem_nil,or_false] at hb ⊢; exact .inr hb
   obtain ⟨f0,f1,f2,f3,f4,f5⟩:=hf b hb'
   exact ⟨f3,f1,f4,f5⟩
  ·simp only [List.mem_cons,List.not_mem_nil,or_false] at hb
   exact up b o hb q
  ·simp only [List.mem_cons,List.not_mem_nil,or_false] at hb
   exact ⟨o.slots,up b o hb q⟩
  ·simp only [List.mem_cons,List.not_mem_nil,or_false] at hb
   exact ⟨o,up b o hb q⟩
  ·obtain ⟨o,es,ep,ho,r⟩:=hm
   exact ⟨o,es,ep,up _ o (Ne.symm (hf it (by simp)).2.1) ho,r⟩
  ·refine (I.hok b u q0).stay (fun c v hc q=>?_) (fun _ q=>q) fun _ _ q=>q
   have hnn:c≠it:=fun w=>by
    have fd:=(hf it (by simp)).1
    rcases hc with k|k
    ·rw [k] at w; rw [w,fd] at q0; cases q0
    ·rw [w,fd] at k; cases k
   exact up c v hnn q
 self:=fun _ _ _ _ _ st h=>by
  obtain ⟨old,a1⟩:=st.z
  exact wpAny_pyIter_enum a1 h
section
variable {X:Cx}
def iEnum (K:PySem.W.Frag) (ta:TA):TI:=fun σ H R=>ta σ H fun vs H1=>∃ a,vs=[.ref a]∧(∃ xs,SqL K H1 a xs)∧R (Ite K a) H1
theorem pi_enumL {elts:List Expr} {kk:Nat} {tp p pos:Pos} {a:Expr} {ta:TA} (hg:Gl X "enumerate") (hm:X.mg "enumerate" = none) (ha:PA X [a] ta) (hp:plainE a=true:=by rfl) :
  PIc true X (.Tuple elts kk tp) (.Call (.Name "enumerate" p) [a] [] pos) (iEnum X.K ta):=by
 intro pins s σ H R I h
 have hs:starEach [a] X.env=[(false,eval a X.env)]:=star1 hp
 refine Call_ (ld_blt I hg hm boot_enumerate (PyProof.Rows.callWith_type1 (thn (ha pos pins s σ H _ I h) fun us s1 ⟨vs,H1,I1,r1,q1⟩=>?_) hs rfl))
 obtain ⟨l1,e,⟨xs,h1⟩,q⟩:=q1
 subst e
 cases r1 with
 | cons r rr =>
  cases rr
  cases (show _=Value.ref l1 from r)
  obtain ⟨is1,rv1,p1,_⟩:=I1.list h1
  refine call_enumerate_list p1.isList fun h' a1 a4 a6 a7=>wpAny_pyIter_enum (s:={ s1 with heap:=h' }) a1 ?_
  refine ⟨_,_,_,_,H1,rfl,I1.kept (t':=s1.toks) a7,turn_enum (Nat.succ_ne_self _),⟨⟨_,a1⟩,a4⟩,fun b hb=>?_,q⟩
  have le:s1.heap.objs.size≤b:=by
   simp only [List.mem_cons,List.not_mem_nil,or_false] at hb
   rcases hb with rfl|rfl <;> omega
  exact I1.fpOk le (I1.hok.fresh le)
end
section
variable {K:PySem.W.Frag} {g:TG} {tb:TS} {D:Ends} {σ:St} {H:Hp} {ta:TA} {R:It→Hp→Prop}
def uR1 (vs:List V) (q:Addr→Prop):Prop:=∃ a,vs=[.ref a]∧q a
theorem uR1_r {q:Addr→Prop} {a:Addr}:uR1 [.ref a] q=q a:=by
 apply propext; constructor
 ·rintro ⟨c,e,h⟩; cases e; exact h
 ·exact fun h=>⟨a,rfl,h⟩
theorem iEnum_eq:iEnum K ta σ H R=ta σ H fun vs H1=>uR1 vs fun a=>(∃ xs,SqL K H1 a xs)∧R (Ite K a) H1:=rfl
theorem ForJ.enum {a:Addr} {xs:List V} (Pv:Nat→St→Hp→Prop) (h0:Pv 0 σ H) (hl:∀ i σ H,i≤xs.length→Pv i σ H→SqL K H a xs)
  (hs:∀ i x p σ H,xs[i]?=some x→Pv i σ H→H p=none→g (.ref p) σ (upd H p (.tup [.int i,x])) fun σ2 H2=>tb { D with nx:=Pv (i+1),ct:=Pv (i+1),bk:=D.nx } σ2 H2) (hd:∀ σ H,Pv xs.length σ H→D.nx σ H):ForJ (Ite K a) g tb D σ H:=by
 refine ⟨fun i m σ H=>m=xs.length - i∧i≤xs.length∧Pv i σ H,⟨xs.length,by simp,Nat.zero_le _,h0⟩,?_⟩
 rintro i m σ H ⟨rfl,hi,p⟩
 have q:=hl i σ H hi p
 by_cases hlt:i<xs.length
 ·refine .inr ⟨⟨xs,xs[i],q,by simp [hlt]⟩,Pv (i+1),fun σ' H' p'=>⟨xs.length - (i+1),by omega,rfl,hlt,p'⟩,fun x H' y=>?_⟩
  obtain ⟨T,z,hT,rfl,rfl,hz⟩:=y
  exact hs i z T σ _ (hz xs q) p hT
 ·have e:i=xs.length:=by omega
  subst e
  exact .inl ⟨⟨xs,q,Nat.le_refl _⟩,hd σ H p⟩
end
end L2
set_option Elab.async false
set_option linter.all false
set_option maxRecDepth 100000
set_option maxHeartbeats 4000000
namespace L2
open PySem PySem.Spec PyProof.Rows
section
variable {X:Cx}
def uAugF (C:Addr) (ta tv:TE) (rd:V→V→Hp→VK→Prop) (f:Str):TS:=fun D σ H=>ta σ H fun x H1=>uR x fun a=>∃ dx fs v,H1 a=some (.ins C dx fs)∧fs.lookup f=some v ∧
 tv σ H1 fun y H2=>rd v y H2 fun z H3=>∃ dx' fs',H3 a=some (.ins C dx' fs')∧fs'.length<1000∧D.nx σ (upd H3 a (.ins C dx' (putF f z fs')))
theorem ps_augFU {C:Addr} {o value:Expr} {f:Str} {tpos pos:Pos} {ta tv:TE} {op:Operator} {rd:V→V→Hp→VK→Prop} (c:Cls X.K C) (n:NoAttr X.K C f) (ha:PE X o ta) (hv:PE X value tv) (hop:InOp X op rd):PS X (.AugAssign (.Attribute o f tpos) op value pos) (uAugF C ta tv rd f):=by
 intro pins s σ H D I h
 refine wpAny_AugAssign_AttributeAny (thn (ha pins s σ H _ I h) fun ov s1 ⟨x,H1,I1,rx,a,ex,dx,fs,v,ea,l,q⟩=>?_)
 subst ex
 obtain rfl:ov=Value.ref a:=rx
 refine getattr_ok I1 ea c n l fun u s2 I2 ru=>thn (hv pins s2 σ H1 _ I2 q) fun w3 s3 ⟨y,H2,I3,ry,q3⟩=>thn (hop pins s3 σ H2 v y u w3 _ I3 ru ry q3) fun w4 s4 ⟨z,H3,I4,rz,dx',fs',ea',l',q4⟩=>?_
 exact setattr_ok I4 ea' c n l' rz fun s5 I5=>⟨σ,_,I5,q4⟩
theorem rAdd_ii {i j:Int} {H:Hp} {Q:VK}:rAdd (.int i) (.int j) H Q=Q (.int (i+j)) H:=by simp [rAdd]
theorem rSub_ii {i j:Int} {H:Hp} {Q:VK}:rSub (.int i) (.int j) H Q=Q (.int (i - j)) H:=by simp [rSub]
def uIsN (neg:Bool):R2:=fun x y H Q=>y = .non∧Q (.bl (if neg then !decide (x = .non) else decide (x = .non))) H
theorem op_isU:OpR X (compareOp .Is) (uIsN false):=op_isN.weak fun x y H Q h=>⟨h.1,by simpa using h.2⟩
theorem op_isnU:OpR X (compareOp .IsNot) (uIsN true):=op_notN.weak fun x y H Q h=>⟨h.1,by simpa using h.2⟩
theorem uIsN_n {c:Bool} {H:Hp} {Q:VK}:uIsN c .non .non H Q=Q (.bl (if c then false else true)) H:=by simp [uIsN]
theorem uIsN_i {c:Bool} {i:Int} {H:Hp} {Q:VK}:uIsN c (.int i) .non H Q=Q (.bl (if c then true else false)) H:=by simp [uIsN]
def uMulS:R2:=fun x y H Q=>uMul x y H Q∨rRepS x y H Q
theorem op_mulS:OpR X (binaryOp .Mult) uMulS:=op_mulU.or op_repS
theorem uMulS_ii {i j:Int} {H:Hp} {Q:VK}:uMulS (.int i) (.int j) H Q=(CMul i j∧Q (.int (i*j)) H):=by simp [uMulS,uMul_ii,rRepS]
theorem uMulS_ri {a:Addr} {i:Int} {H:Hp} {Q:VK}:uMulS (.ref a) (.int i) H Q=uMul (.ref a) (.int i) H Q:=by simp [uMulS,rRepS]
theorem uMulS_si {z:Str} {i:Int} {H:Hp} {Q:VK}:uMulS (.str z) (.int i) H Q=(1<i∧i<2 ^ 31∧z.length≠0∧z.length*i.toNat≤sizeLine∧Q (.str (repS z i.toNat)) H):=by
 simp [uMulS,uMul,rRepS]
def uS (v:V) (q:Str→Prop):Prop:=∃ z,v = .str z∧q z
theorem uS_s {z:Str} {q:Str→Prop}:uS (.str z) q=q z:=by simp [uS]
def uJoinE (to te:TE):TE:=fun σ H Q=>to σ H fun x H1=>uS x fun z=>te σ H1 fun y H2=>rJoin (.str z) [y] H2 Q
theorem pe_b_join {o e:Expr} {to te:TE} {apos cpos:Pos} (ho:PE X o to) (he:PE X e te) (hbase:attributeBase o "join" X.env (eval o X.env)=eval o X.env:=by rfl) (hline:(apos.endLine == cpos.line)=true:=by rfl) (hp:plainE e=true:=by rfl) :
  PE X (.Call (.Attribute o "join" apos) [e] [] cpos) (uJoinE to te):=by
 intro pins s σ H Q I h
 have hs:starEach [e] X.env=[(false,eval e X.env)]:=star1 hp
 refine wpAny_Call_method_late hbase (by rw [hs]; rfl) hline rfl (thn (ho pins s σ H _ I h) fun v s1 ⟨x,H1,I1,r1,z,ex,q1⟩=>?_)
 subst ex
 obtain ⟨h1,h2⟩:=tyV_is (T:="str") I1 r1 rfl
 refine ⟨"str","str.join",PySem.F.plainAttrs_str,PySem.F.slot_str_join,PySem.F.type_str_join,h1,h2,?_⟩
 rw [hs]
 refine Calls.callWith_builtin rfl (Calls.evalArgs_plain ?_)
 have hA:=pa_cons he pa_nil (hs:=hs) cpos pins s1 σ H1 (fun ys H2=>match ys with|[y]=>rJoin (.str z) [y] H2 Q|_=>False) I1 q1
 rw [hs] at hA
 refine thn hA fun us s2 ⟨vs,H2,I2,r2,q2⟩=>?_
 match vs,q2,r2 with
 | [y],q2,r2=>exact mt_join pins s2 σ H2 (.str z) [y] v us Q I2 r1 r2 q2
def uRev (te:TE):TE:=fun σ H Q=>te σ H fun x H1=>uR x fun a=>∃ xs,H1 a=some (.lst xs)∧∀ ys:List V,(∀ y∈ys,y∈xs)→ys.length≤xs.length→∀ p H2,New H1 p (.lst ys) H2→Q (.ref p) H2
end
section
variable {K:PySem.W.Frag} {g:TG} {tb:TS} {D:Ends} {σ:St} {H:Hp} {ta:TA} {tl:TE} {wi:TI} {R:It→Hp→Prop} {j:Int} {tt:TT} {te:TE} {ix:List (Option Nat)} {Q:VK}
def uI2 (vs:List V) (q:Int→Int→Prop):Prop:=∃ i j,vs=[.int i,.int j]∧q i j
theorem uI2_i {i:Int} {q:Int→Int→Prop}:uI2 [.int i,.int j] q=q i j:=by
 apply propext; constructor
 ·rintro ⟨a,b,e,h⟩; cases e; exact h
 ·exact fun h=>⟨i,j,rfl,h⟩
theorem iRng2_eq:iRng2 ta σ H R=ta σ H fun vs H1=>uI2 vs fun i j=>(-(2 ^ 62)≤i∧i<2 ^ 62∧-(2 ^ 62)≤j∧j<2 ^ 62)∧R (Itr i (j - i).toNat) H1:=rfl
theorem ForJ.tup {a:Addr} {xs:List V} (Pv:Nat→St→Hp→Prop) (h0:Pv 0 σ H) (hl:∀ i σ H,i≤xs.length→Pv i σ H→SqT K H a xs)
  (hs:∀ i x σ H,xs[i]?=some x→Pv i σ H→g x σ H fun σ2 H2=>tb { D with nx:=Pv (i+1),ct:=Pv (i+1),bk:=D.nx } σ2 H2) (hd:∀ σ H,Pv xs.length σ H→D.nx σ H):ForJ (Itt K a) g tb D σ H:=for_tup Pv h0 hl hs hd
theorem CompJ.lst {a:Addr} {xs:List V} {τ:St} (Pv:Nat→St→List V→Hp→Prop) (hz:∀ i τ ys H,Pv i τ ys H→ys.length<sizeLine) (ha:∀ i τ ys H,Pv i τ ys H→SqL K H a xs) (h0:Pv 0 τ [] H)
  (hs:∀ (N:St→List V→Hp→Prop) i x τ ys H,xs[i]?=some x→Pv i τ ys H→(∀ τ ys H,Pv (i+1) τ ys H→N τ ys H)→g x τ H fun τ1 H4=>tt τ1 H4 fun ok H5=>CompN N ys τ1 te ok H5) (hd:∀ τ ys H,Pv xs.length τ ys H→∀ D H',New H D (.lst ys) H'→Q (.ref D) H'):CompJ (Itl K a) g tt te τ H Q:=by
 refine ⟨fun i m τ ys H=>m=xs.length - i∧i≤xs.length∧Pv i τ ys H,⟨xs.length,by simp,Nat.zero_le _,h0⟩,?_⟩
 rintro i m τ ys H2 ⟨rfl,hi,p⟩
 refine ⟨hz i τ ys H2 p,?_⟩
 have q:=ha i τ ys H2 p
 by_cases hlt:i<xs.length
 ·refine .inr ⟨⟨xs,xs[i],q,by simp [hlt]⟩,fun x H' y=>?_⟩
  obtain ⟨e,y⟩:=y
  subst e
  exact hs (fun τ1 ys H=>∃ m',m'<xs.length - i∧m'=xs.length - (i+1)∧i+1≤xs.length∧Pv (i+1) τ1 ys H) i x τ ys _ (y xs q) p fun τ1 zs H q=>⟨xs.length - (i+1),by omega,rfl,hlt,q⟩
 ·have e:i=xs.length:=by omega
  subst e
  exact .inl ⟨⟨xs,q,Nat.le_refl _⟩,fun D hD _=>hd τ ys H2 p D _ (.mk' hD)⟩
def tCut (t:TS):TS:=fun D σ H=>∃ Mid:St→Hp→Prop,t { D with nx:=Mid } σ H∧∀ σ' H',Mid σ' H'→D.nx σ' H'
theorem ps_cut {st:Stmt} {t:TS} (h:PS X st t):PS X st (tCut t):=fun pins s σ H D I hw=>by
 obtain ⟨Mid,h1,h2⟩:=hw
 refine thn (h pins s σ H _ I h1) fun f s1 q=>?_
 cases f with
 | next=>obtain ⟨σ',H',I',q⟩:=q; exact ⟨σ',H',I',h2 _ _ q⟩
 | ret v=>exact q
 | brk=>exact q
 | cont=>exact q
theorem tCut_eq {t:TS} {D:Ends} {σ:St} {H:Hp}:tCut t D σ H = ∃ Mid:St→Hp→Prop,t { D with nx:=Mid } σ H∧∀ σ' H',Mid σ' H'→D.nx σ' H':=rfl
end
end L2
set_option Elab.async false
set_option linter.all false
set_option maxRecDepth 100000
set_option maxHeartbeats 4000000
namespace L2
open PySem PySem.Spec PyProof.Rows
structure W (p:Prop):Prop where
 h:p
section
variable {X:Cx}
theorem w_pss_nil  : W (PSs X [] tNext):=⟨pss_nil ⟩
theorem w_pss_cons {st:Stmt} {rest:List Stmt} {t:TS} {u:TS} (h1:W (PS X st t)) (h2:W (PSs X rest u)):W (PSs X (st::rest) (tSeq t u)):=⟨pss_cons (h1:=h1.h) (h2:=h2.h)⟩
theorem w_pss_one {st:Stmt} {t:TS} (h1:W (PS X st t)):W (PSs X [st] t):=⟨pss_one (h1:=h1.h)⟩
theorem w_ps_ret {e:Expr} {te:TE} {pos:Pos} (he:W (PE X e te)):W (PS X (.Return (some e) pos) (tRet te)):=⟨ps_ret (he:=he.h)⟩
theorem w_ps_expr {e:Expr} {te:TE} {pos:Pos} (he:W (PE X e te)) (hs:swapsWith e none pos.line X.env=pure false:=by rfl):W (PS X (.Expr e pos) (tDrop te)):=⟨ps_expr (he:=he.h) (hs:=hs)⟩
theorem w_ps_set {pos:Pos} {i:Nat} {x:Str} {e:Expr} {te:TE} {pos':Pos} (hN:X.N.Nodup) (hi:X.N[i]?=some x) (hx:Loc X.env.scope x) (he:W (PE X e te)) (hs:swapsWith e (some (.Name x pos')) pos.line X.env=pure false:=by rfl) (hf:X.fn x=true∨X.env.scope.names.lookup x=some .local:=by first|exact .inl rfl|exact .inr rfl|assumption):W (PS X (.Assign [.Name x pos'] e pos) (tAsg te (gName i))):=⟨ps_set (hN:=hN) (hi:=hi) (hx:=hx) (he:=he.h) (hs:=hs) (hf:=hf)⟩
theorem w_ps_fldU {C:Addr} {o value:Expr} {ta tv:TE} {f:Str} {pos pos':Pos} (c:Cls X.K C) (n:NoAttr X.K C f) (ha:W (PE X o ta)) (hv:W (PE X value tv)) (hs:swapsWith value (some (.Attribute o f pos')) pos.line X.env=pure false:=by rfl):W (PS X (.Assign [.Attribute o f pos'] value pos) (uSetF C ta tv f)):=⟨ps_fldU (c:=c) (n:=n) (ha:=ha.h) (hv:=hv.h) (hs:=hs)⟩
theorem w_ps_asg {pos:Pos} {tg e:Expr} {te:TE} {g:TG} (he:W (PE X e te)) (hg:W (PG X tg g)) (hs:swapsWithSole [tg] e pos.line X.env=pure false:=by rfl) (hw:swappedStores [tg] e X.env=pure none:=by rfl) (h1:(assignEach [tg] X.env).map (·.2)=[assign tg X.env]:=by rfl):W (PS X (.Assign [tg] e pos) (tAsg te g)):=⟨ps_asg (he:=he.h) (hg:=hg.h) (hs:=hs) (hw:=hw) (h1:=h1)⟩
theorem w_ps_aug {pos:Pos} {i:Nat} {x:Str} {e:Expr} {te:TE} {op:Operator} {ti:TIp} {pos':Pos} (hN:X.N.Nodup) (hi:X.N[i]?=some x) (hx:Loc X.env.scope x) (he:W (PE X e te)) (ho:PIp X op ti) (hf:X.fn x=true∨X.env.scope.names.lookup x=some .local:=by first|exact .inl rfl|exact .inr rfl|assumption):W (PS X (.AugAssign (.Name x pos') op e pos) (tAug i te ti)):=⟨ps_aug (hN:=hN) (hi:=hi) (hx:=hx) (he:=he.h) (ho:=ho) (hf:=hf)⟩
theorem w_ps_if {t:TS} {u:TS} {pos:Pos} {c:Expr} {a b:List Stmt} {tc:TT} (hc:W (PT X c tc)) (ha:W (PSs X a t)) (hb:W (PSs X b u)):W (PS X (.If c a b pos) (tIfS tc t u)):=⟨ps_if (hc:=hc.h) (ha:=ha.h) (hb:=hb.h)⟩
theorem w_ps_for {tg:Expr} {c:Bool} {iter:Expr} {body:List Stmt} {wi:TI} {g:TG} {tb:TS} {pos:Pos} (hp:PassesOwn (model X.prog X.w) X.A X.env X.xe) (hc:c=true→X.calm=true) (hi:W (PIc c X tg iter wi)) (hg:W (PG X tg g)) (hb:W (PSs X body tb)) (hs:∀ x,foldedSetIterable iter X.env x=pure x:=by intro _; rfl):W (PS X (.For tg iter body [] pos) (tFor wi g tb)):=⟨ps_for (hp:=hp) (hc:=hc) (hi:=hi.h) (hg:=hg.h) (hb:=hb.h) (hs:=hs)⟩
theorem w_ps_raisep {Ex:Addr→St→Hp→Prop} {C:Addr} {x:Str} {np cpos pos:Pos} {e:Expr} {es:List Expr} {t:TA} (hc:X.calm=true) (T:Throws X Ex) (O:ErrK X.K C) (hg:Gl X x) (hm:X.mg x=some (.ref C)) (ha:W (PA X (e::es) t)) (hp:plainE e=true:=by rfl) (hps:plainEs es=true:=by rfl) (hdb:(x == ("__debug__" : Str))=false:=by decide):W (PS X (.Raise (some (.Call (.Name x np) (e::es) [] cpos)) none pos) (tRaise C Ex t)):=⟨ps_raisep (hc:=hc) (T:=T) (O:=O) (hg:=hg) (hm:=hm) (ha:=ha.h) (hp:=hp) (hps:=hps) (hdb:=hdb)⟩
theorem w_pi_range1p {tg a:Expr} {ta:TA} {p pos:Pos} (hg:Gl X "range") (hm:X.mg "range" = none) (ha:W (PA X [a] ta)) (hp:plainE a=true:=by rfl):W (PIc true X tg (.Call (.Name "range" p) [a] [] pos) (iRng1 ta)):=⟨pi_range1p (hg:=hg) (hm:=hm) (ha:=ha.h) (hp:=hp)⟩
theorem w_pi_list {tg:Expr} {l:Expr} {tl:TE} (hl:W (PE X l tl)):W (PI X tg l (iList X.K tl)):=⟨pi_list (hl:=hl.h)⟩
theorem w_pa_nil  : W (PA X [] tNil):=⟨pa_nil ⟩
theorem w_pa_p {e:Expr} {es:List Expr} {te:TE} {t:TA} (ha:W (PE X e te)) (hr:W (PA X es t)) (hp:plainE e=true:=by rfl):W (PA X (e::es) (tCons te t)):=⟨pa_p (ha:=ha.h) (hr:=hr.h) (hp:=hp)⟩
theorem w_pt_not {a:Expr} {pos:Pos} {tA:TT} (ha:W (PT X a tA)):W (PT X (.UnaryOp .Not a pos) (tNot tA)):=⟨pt_not (ha:=ha.h)⟩
theorem w_pw_and1 {a:Expr} {pos:Pos} {tA:TT} (ha:W (PT X a tA)):W (PW X (.BoolOp .And [a] pos) tA):=⟨pw_and1 (ha:=ha.h)⟩
theorem w_pw_or1 {a:Expr} {pos:Pos} {tA:TT} (ha:W (PT X a tA)):W (PW X (.BoolOp .Or [a] pos) tA):=⟨pw_or1 (ha:=ha.h)⟩
theorem w_pw_and {a:Expr} {b:Expr} {pos:Pos} {tA:TT} {tB':TT} {rest:List Expr} (ha:W (PT X a tA)) (hb:W (PW X (.BoolOp .And (b::rest) pos) tB')):W (PW X (.BoolOp .And (a::b::rest) pos) (tAnd tA tB')):=⟨pw_and (ha:=ha.h) (hb:=hb.h)⟩
theorem w_pw_or {a:Expr} {b:Expr} {pos:Pos} {tA:TT} {tB':TT} {rest:List Expr} (ha:W (PT X a tA)) (hb:W (PW X (.BoolOp .Or (b::rest) pos) tB')):W (PW X (.BoolOp .Or (a::b::rest) pos) (tOr tA tB')):=⟨pw_or (ha:=ha.h) (hb:=hb.h)⟩
theorem w_pt_cmpR {a:Expr} {b:Expr} {ta:TE} {tb:TE} {pos:Pos} {op:CmpOp} {r:R2} (ho:OpR X (compareOp op) r) (ha:W (PE X a ta)) (hb:W (PE X b tb)) (hm:behindInMarks op b=false):W (PT X (.Compare a [op] [b] pos) (tTest (tOp r ta tb))):=⟨pt_cmpR (ho:=ho) (ha:=ha.h) (hb:=hb.h) (hm:=hm)⟩
theorem w_pt_tru {a:Expr} {ta:TE} (ha:W (PE X a ta)) (he:∀ whole,isTrue a X.env whole=(do let v←whole; standAt a.pos; holding [v] (truthy v)):=by intro _; rfl):W (PT X a (tTru X.K ta)):=⟨pt_tru (ha:=ha.h) (he:=he)⟩
theorem w_pv (i:Nat) {x:Str} {pos:Pos} (hN:X.N[i]?=some x:=by rfl) (hv:Vis X.env.scope x:=by first|exact Or.inl rfl|exact Or.inr (Or.inl rfl)|exact Or.inr (Or.inr rfl)) (hd:(x == ("__debug__" : Str))=false:=by decide) (hcd:(x == ("__classdict__" : Str))=false:=by decide):W (PE X (.Name x pos) (tVar i)):=⟨pv (i:=i) (hN:=hN) (hv:=hv) (hd:=hd) (hcd:=hcd)⟩
theorem w_pe_gv {x:Str} {v:V} {pos:Pos} (hg:Gl X x) (hm:∃ u,X.mg x=some u∧RelV v u) (hd:(x == ("__debug__" : Str))=false:=by decide):W (PE X (.Name x pos) (tC v)):=⟨pe_gv (hg:=hg) (hm:=hm) (hd:=hd)⟩
theorem w_pe_bltn {x:Str} {v:V} {u:Value} {pos:Pos} (hg:Gl X x) (hm:X.mg x=none) (hv:bootBuiltins x=some u) (r:RelV v u) (hn:x≠"__name__":=by decide) (hd:(x == ("__debug__" : Str))=false:=by decide):W (PE X (.Name x pos) (tC v)):=⟨pe_bltn (hg:=hg) (hm:=hm) (hv:=hv) (r:=r) (hn:=hn) (hd:=hd)⟩
theorem w_pe_non {j pos}:W (PE X (.Constant .none j pos) (tC .non)):=⟨pe_non ⟩
theorem w_pe_bl {b j pos}:W (PE X (.Constant (.bool b) j pos) (tC (.bl b))):=⟨pe_bl ⟩
theorem w_pe_int {i j pos}:W (PE X (.Constant (.int i) j pos) (tC (.int i))):=⟨pe_int ⟩
theorem w_pe_str {x j pos}:W (PE X (.Constant (.str x) j pos) (tC (.str x))):=⟨pe_str ⟩
theorem w_pe_op {a:Expr} {b:Expr} {ta:TE} {tb:TE} {pos:Pos} {op:Operator} {r:R2} (ho:OpR X (binaryOp op) r) (ha:W (PE X a ta)) (hb:W (PE X b tb)):W (PE X (.BinOp a op b pos) (tOp r ta tb)):=⟨pe_op (ho:=ho) (ha:=ha.h) (hb:=hb.h)⟩
theorem w_pe_not {a:Expr} {ta:TE} {pos:Pos} (ha:W (PE X a ta)):W (PE X (.UnaryOp .Not a pos) (tNotV ta)):=⟨pe_not (ha:=ha.h)⟩
theorem w_pe_un {a:Expr} {ta:TE} {pos:Pos} {op:UnaryOp} {r:V→Hp→VK→Prop} (ho:UnR X (unaryOp op) r) (ha:W (PE X a ta)):W (PE X (.UnaryOp op a pos) (tUn r ta)):=⟨pe_un (ho:=ho) (ha:=ha.h)⟩
theorem w_pe_one {a:Expr} {pos:Pos} {op} {t:TE} (h:W (PE X a t)):W (PE X (.BoolOp op [a] pos) t):=⟨pe_one (h:=h.h)⟩
theorem w_pe_and {a:Expr} {b:Expr} {ta:TE} {tb:TE} {pos:Pos} {rest:List Expr} (ha:W (PE X a ta)) (hb:W (PE X (.BoolOp .And (b::rest) pos) tb)):W (PE X (.BoolOp .And (a::b::rest) pos) (tAndV ta tb)):=⟨pe_and (ha:=ha.h) (hb:=hb.h)⟩
theorem w_pe_or {a:Expr} {b:Expr} {ta:TE} {tb:TE} {pos:Pos} {rest:List Expr} (ha:W (PE X a ta)) (hb:W (PE X (.BoolOp .Or (b::rest) pos) tb)):W (PE X (.BoolOp .Or (a::b::rest) pos) (tOrV ta tb)):=⟨pe_or (ha:=ha.h) (hb:=hb.h)⟩
theorem w_pe_cmpR {a:Expr} {b:Expr} {ta:TE} {tb:TE} {pos:Pos} {op:CmpOp} {r:R2} (ho:OpR X (compareOp op) r) (ha:W (PE X a ta)) (hb:W (PE X b tb)) (hm:behindInMarks op b=false):W (PE X (.Compare a [op] [b] pos) (tOp r ta tb)):=⟨pe_cmpR (ho:=ho) (ha:=ha.h) (hb:=hb.h) (hm:=hm)⟩
theorem w_pe_chain {a:Expr} {b:Expr} {c:Expr} {ta:TE} {tb:TE} {tc:TE} {pos:Pos} {op op':CmpOp} {r r':R2} (ho:OpR X (compareOp op) r) (ho':OpR X (compareOp op') r') (ha:W (PE X a ta)) (hb:W (PE X b tb)) (hc:W (PE X c tc)) (hm:lastMarks [op,op'] [b,c]=false:=by with_unfolding_all rfl):W (PE X (.Compare a [op,op'] [b,c] pos) (tChain r r' ta tb tc)):=⟨pe_chain (ho:=ho) (ho':=ho') (ha:=ha.h) (hb:=hb.h) (hc:=hc.h) (hm:=hm)⟩
theorem w_pe_ifExp {a:Expr} {b:Expr} {ta:TE} {tb:TE} {pos:Pos} {tA:TT} {c:Expr} (hc:W (PT X c tA)) (ha:W (PE X a ta)) (hb:W (PE X b tb)):W (PE X (.IfExp c a b pos) (tIf tA ta tb)):=⟨pe_ifExp (hc:=hc.h) (ha:=ha.h) (hb:=hb.h)⟩
theorem w_pe_lstA {es:List Expr} {t:TA} {pos:Pos} (h:W (PA X es t)):W (PE X (.List es pos) (tLstA t)):=⟨pe_lstA (h:=h.h)⟩
theorem w_pe_tupA {es:List Expr} {t:TA} {x1} {pos:Pos} (h:W (PA X es t)):W (PE X (.Tuple es x1 pos) (tTupA t)):=⟨pe_tupA (h:=h.h)⟩
theorem w_pe_dnewA {pos:Pos}:W (PE X (.Dict [] [] pos) tDNewA):=⟨pe_dnewA ⟩
theorem w_pe_fldU {C:Addr} {e:Expr} {ta:TE} {f:Str} {pos:Pos} (c:Cls X.K C) (n:NoAttr X.K C f) (he:W (PE X e ta)) (hb:attributeBase e f X.env (eval e X.env)=eval e X.env:=by rfl):W (PE X (.Attribute e f pos) (uFld C ta f)):=⟨pe_fldU (c:=c) (n:=n) (he:=he.h) (hb:=hb)⟩
theorem w_pe_ix {a:Expr} {b:Expr} {ta:TE} {tb:TE} {pos:Pos} {r:R2} (hr:IxR X r) (ha:W (PE X a ta)) (hb:W (PE X b tb)) (hs:PlainIx b):W (PE X (.Subscript a b pos) (tOp r ta tb)):=⟨pe_ix (hr:=hr) (ha:=ha.h) (hb:=hb.h) (hs:=hs)⟩
theorem w_pe_slice {e:Expr} {te:TE} {lo:Option Expr} {hi:Option Expr} {tl:TO} {th:TO} {pos:Pos} {p2:Pos} {r:V→Option Int→Option Int→Hp→VK→Prop} (hr:SlR X r) (he:W (PE X e te)) (hl:W (PO X lo tl)) (hu:W (PO X hi th)):W (PE X (.Subscript e (.Slice lo hi none p2) pos) (tSl r te tl th)):=⟨pe_slice (hr:=hr) (he:=he.h) (hl:=hl.h) (hu:=hu.h)⟩
theorem w_pe_g {cm:Bool} {k:Nat} {j:Nat} {x:Str} {ps:List Str} {sp:Sp} {e:Expr} {es:List Expr} {t:TA} {p:Pos} {pos:Pos} (G:GF X.prog X.w X.K X.mg X.base cm j x ps sp) (hr:Room cm k X.A) (hg:Gl X x) (ha:W (PA X (e::es) t)) (hj:j≤k:=by decide) (hdb:(x == ("__debug__" : Str))=false:=by decide) (hp:plainE e=true:=by rfl) (hps:plainEs es=true:=by rfl):W (PE X (.Call (.Name x p) (e::es) [] pos) (tCall sp [] E0 t)):=⟨pe_g (G:=G) (hr:=hr) (hg:=hg) (ha:=ha.h) (hj:=hj) (hdb:=hdb) (hp:=hp) (hps:=hps)⟩
theorem w_pe_gX {cm:Bool} {k:Nat} {j:Nat} {x:Str} {ps:List Str} {sp:Sp} {e:Expr} {es:List Expr} {t:TA} {p:Pos} {pos:Pos} {Ex:Addr→St→Hp→Prop} (T:Throws X Ex) (G:GX X.prog X.w X.K X.mg X.base cm j x ps sp) (hr:Room cm k X.A) (hg:Gl X x) (ha:W (PA X (e::es) t)) (hj:j≤k:=by decide) (hdb:(x == ("__debug__" : Str))=false:=by decide) (hp:plainE e=true:=by rfl) (hps:plainEs es=true:=by rfl):W (PE X (.Call (.Name x p) (e::es) [] pos) (tCallX sp [] Ex t)):=⟨pe_gX (T:=T) (G:=G) (hr:=hr) (hg:=hg) (ha:=ha.h) (hj:=hj) (hdb:=hdb) (hp:=hp) (hps:=hps)⟩
theorem w_pe_cX {cm:Bool} {k:Nat} {j:Nat} {x:Str} {C:Addr} {ps:List Str} {sp:Sp} {e:Expr} {es:List Expr} {t:TA} {p:Pos} {pos:Pos} {Ex:Addr→St→Hp→Prop} (T:Throws X Ex) (G:GCX X.prog X.w X.K X.mg X.base cm j x C ps sp) (hr:Room cm k X.A) (hg:Gl X x) (ha:W (PA X (e::es) t)) (hj:j+1≤k:=by decide) (hdb:(x == ("__debug__" : Str))=false:=by decide) (hp:plainE e=true:=by rfl) (hps:plainEs es=true:=by rfl):W (PE X (.Call (.Name x p) (e::es) [] pos) (tMakeXA C sp Ex t)):=⟨pe_cX (T:=T) (G:=G) (hr:=hr) (hg:=hg) (ha:=ha.h) (hj:=hj) (hdb:=hdb) (hp:=hp) (hps:=hps)⟩
theorem w_pe_callBp {id:String} {r:List V→Hp→VK→Prop} {x:Str} {e:Expr} {es:List Expr} {t:TA} {p pos:Pos} (hc:CallR X (.builtin id) r) (hg:Gl X x) (hm:X.mg x=none) (hv:bootBuiltins x=some (.builtin id)) (ha:W (PA X (e::es) t)) (hp:plainE e=true:=by rfl) (hps:plainEs es=true:=by rfl) (hn:x≠"__name__":=by decide) (hdb:(x == ("__debug__" : Str))=false:=by decide):W (PE X (.Call (.Name x p) (e::es) [] pos) (tCB r t)):=⟨pe_callBp (hc:=hc) (hg:=hg) (hm:=hm) (hv:=hv) (ha:=ha.h) (hp:=hp) (hps:=hps) (hn:=hn) (hdb:=hdb)⟩
theorem w_pe_callTyp {T:String} {r:List V→Hp→VK→Prop} {x:Str} {e:Expr} {es:List Expr} {t:TA} {p pos:Pos} (hc:CallR X (.type T) r) (hg:Gl X x) (hm:X.mg x=none) (hv:bootBuiltins x=some (.type T)) (ha:W (PA X (e::es) t)) (hp:plainE e=true:=by rfl) (hps:plainEs es=true:=by rfl) (hn:x≠"__name__":=by decide) (hdb:(x == ("__debug__" : Str))=false:=by decide):W (PE X (.Call (.Name x p) (e::es) [] pos) (tCB r t)):=⟨pe_callTyp (hc:=hc) (hg:=hg) (hm:=hm) (hv:=hv) (ha:=ha.h) (hp:=hp) (hps:=hps) (hn:=hn) (hdb:=hdb)⟩
theorem w_pe_m {cm : Bool} {k : Nat} {j : Nat} {m : Str} {C : Addr} {ps : List Str} {sp : Sp} {e : Expr} {o : Expr} {es : List Expr} {t : TA} {ta : TE} {pos : Pos} {apos : Pos} {pl : Sem Bool} (he : W (PE X o ta)) (c : Cls X.K C) (G : GM X.prog X.w X.K X.mg X.base cm j C m ps sp) (hr : Room cm k X.A) (ha : W (PA X (e :: es) t)) (hj : j ≤ k := by decide) (hp : plainE e = true := by rfl) (hps : plainEs es = true := by rfl) (ht : eval (.Call (.Attribute o m apos) (e :: es) [] pos) X.env = (do
      let ov ← eval o X.env
      standAt apos.atName
      let (f, first) ← holding [ov] (getMethod ov m pl)
      callWith pos f first (backTo pos (starEach (e :: es) X.env)) (backToKw pos (keywordEach [] X.env))) := by rfl) : W (PE X (.Call (.Attribute o m apos) (e :: es) [] pos) (tMeth C m sp [] E0 ta t)) := ⟨pe_m (he := he.h) (c := c) (G := G) (hr := hr) (ha := ha.h) (hj := hj) (hp := hp) (hps := hps) (ht := ht)⟩
theorem w_pe_m0 {cm : Bool} {k : Nat} {j : Nat} {m : Str} {C : Addr} {ps : List Str} {sp : Sp} {o : Expr} {ta : TE} {pos : Pos} {apos : Pos} {pl : Sem Bool} (he : W (PE X o ta)) (c : Cls X.K C) (G : GM X.prog X.w X.K X.mg X.base cm j C m ps sp) (hr : Room cm k X.A) (hj : j ≤ k := by decide) (ht : eval (.Call (.Attribute o m apos) [] [] pos) X.env = (do
      let ov ← eval o X.env
      standAt apos.atName
      let (f, first) ← holding [ov] (getMethod ov m pl)
      callWith pos f first (backTo pos (starEach [] X.env)) (backToKw pos (keywordEach [] X.env))) := by rfl) : W (PE X (.Call (.Attribute o m apos) [] [] pos) (tMeth C m sp [] E0 ta tNil)) := ⟨pe_m0 (he := he.h) (c := c) (G := G) (hr := hr) (hj := hj) (ht := ht)⟩
theorem w_pe_mX {cm : Bool} {k : Nat} {j : Nat} {m : Str} {C : Addr} {ps : List Str} {sp : Sp} {e : Expr} {o : Expr} {es : List Expr} {t : TA} {ta : TE} {pos : Pos} {apos : Pos} {Ex : Addr → St → Hp → Prop} {pl : Sem Bool} (he : W (PE X o ta)) (c : Cls X.K C) (T : Throws X Ex) (G : GMX X.prog X.w X.K X.mg X.base cm j C m ps sp) (hr : Room cm k X.A) (ha : W (PA X (e :: es) t)) (hj : j ≤ k := by decide) (hp : plainE e = true := by rfl) (hps : plainEs es = true := by rfl) (ht : eval (.Call (.Attribute o m apos) (e :: es) [] pos) X.env = (do
      let ov ← eval o X.env
      standAt apos.atName
      let (f, first) ← holding [ov] (getMethod ov m pl)
      callWith pos f first (backTo pos (starEach (e :: es) X.env)) (backToKw pos (keywordEach [] X.env))) := by rfl) : W (PE X (.Call (.Attribute o m apos) (e :: es) [] pos) (tMethX C m sp [] Ex ta t)) := ⟨pe_mX (he := he.h) (c := c) (T := T) (G := G) (hr := hr) (ha := ha.h) (hj := hj) (hp := hp) (hps := hps) (ht := ht)⟩
theorem w_pe_mX0 {cm : Bool} {k : Nat} {j : Nat} {m : Str} {C : Addr} {ps : List Str} {sp : Sp} {o : Expr} {ta : TE} {pos : Pos} {apos : Pos} {Ex : Addr → St → Hp → Prop} {pl : Sem Bool} (he : W (PE X o ta)) (c : Cls X.K C) (T : Throws X Ex) (G : GMX X.prog X.w X.K X.mg X.base cm j C m ps sp) (hr : Room cm k X.A) (hj : j ≤ k := by decide) (ht : eval (.Call (.Attribute o m apos) [] [] pos) X.env = (do
      let ov ← eval o X.env
      standAt apos.atName
      let (f, first) ← holding [ov] (getMethod ov m pl)
      callWith pos f first (backTo pos (starEach [] X.env)) (backToKw pos (keywordEach [] X.env))) := by rfl) : W (PE X (.Call (.Attribute o m apos) [] [] pos) (tMethX C m sp [] Ex ta tNil)) := ⟨pe_mX0 (he := he.h) (c := c) (T := T) (G := G) (hr := hr) (hj := hj) (ht := ht)⟩
theorem w_pe_append {o e:Expr} {to te:TE} {apos cpos:Pos} (ho:W (PE X o to)) (he:W (PE X e te)) (hbase:attributeBase o "append" X.env (eval o X.env)=eval o X.env:=by rfl) (hline:(apos.endLine == cpos.line)=true:=by rfl) (hp:plainE e=true:=by rfl):W (PE X (.Call (.Attribute o "append" apos) [e] [] cpos) (uApp to te)):=⟨pe_append (ho:=ho.h) (he:=he.h) (hbase:=hbase) (hline:=hline) (hp:=hp)⟩
theorem w_pe_lc {c:Bool} {X:Cx} {elt tg iter:Expr} {ifs:List Expr} {sc:Scope} {pos:Pos} {N':List Str} {ix:List (Option Nat)} {wi:TI} {g:TG} {tt:TT} {te:TE} (hc:c=true→X.calm=true) (L:LcOk X sc N' ix) (hi:W (PIc c X tg iter wi)) (hg:∀ pins C fp s H,W (PG (cxLC X sc N' pins C fp s H) tg g)) (ht:∀ pins C fp s H,W (PTs (cxLC X sc N' pins C fp s H) ifs tt)) (he:∀ pins C fp s H,W (PE (cxLC X sc N' pins C fp s H) elt te)) (hs:∀ x,foldedSetIterable iter X.env x=pure x:=by intro _; rfl):W (PE X (.ListComp elt [⟨tg,iter,ifs,0⟩] sc pos) (tLC ix wi g tt te)):=⟨pe_lc (hc:=hc) (L:=L) (hi:=hi.h) (hg:=fun z0 z1 z2 z3 z4=>(hg z0 z1 z2 z3 z4).h) (ht:=fun z0 z1 z2 z3 z4=>(ht z0 z1 z2 z3 z4).h) (he:=fun z0 z1 z2 z3 z4=>(he z0 z1 z2 z3 z4).h) (hs:=hs)⟩
theorem w_pg_name {pos:Pos} {i:Nat} {x:Str} (hN:X.N.Nodup) (hi:X.N[i]?=some x) (hx:Loc X.env.scope x) (hf:X.fn x=true∨X.env.scope.names.lookup x=some .local:=by first|exact .inl rfl|exact .inr rfl|assumption):W (PG X (.Name x pos) (gName i)):=⟨pg_name (hN:=hN) (hi:=hi) (hx:=hx) (hf:=hf)⟩
theorem w_pg_tupA {X:Cx} {pos:Pos} {es:List Expr} {k:Nat} {t:TGs} {n:Nat} (h:W (PGs X es t)) (hl:(assignEach es X.env).length=n:=by rfl) (hst:(assignEach es X.env).findIdx? (·.1)=none:=by rfl):W (PG X (.Tuple es k pos) (gTup X.K n t)):=⟨pg_tupA (h:=h.h) (hl:=hl) (hst:=hst)⟩
theorem w_pgs_nil  : W (PGs X [] gNil):=⟨pgs_nil ⟩
theorem w_pgs_cons {e:Expr} {es:List Expr} {t:TG} {u:TGs} (h1:W (PG X e t)) (h2:W (PGs X es u)) (hs:(assignEach (e::es) X.env).map (·.2)=assign e X.env::(assignEach es X.env).map (·.2):=by rfl):W (PGs X (e::es) (gCons t u)):=⟨pgs_cons (h1:=h1.h) (h2:=h2.h) (hs:=hs)⟩
theorem w_pts_nil {X:Cx}:W (PTs X [] tAll):=⟨pts_nil ⟩
theorem w_pts_one {X:Cx} {c:Expr} {t:TT} (h:W (PT X c t)):W (PTs X [c] t):=⟨pts_one (h:=h.h)⟩
theorem w_ps_try {X:Cx} {i:Nat} {D:Addr} {x n:Str} {np hpos pos:Pos} {body:List Stmt} {b₀:Stmt} {suite:List Stmt} {tb:(Addr→St→Hp→Prop)→TS} {ts:TS} (hc:X.calm=true) (hex:X.ex=[]) (hstk:X.stack=X.env::X.outer∧X.env.frame=some X.env.locals) (hN:X.N.Nodup) (hi:X.N[i]?=some n) (hlo:X.env.scope.names.lookup n=some .local) (OD:ErrK X.K D) (hg:Gl X x) (hm:X.mg x=some (.ref D)) (hb:∀ pins Ex,W (PSs (cxTry X pins Ex) body (tb Ex))) (hs:∀ pins ea,W (PSs (cxSuite X pins ea) (b₀::suite) ts)) (hdb:(x == ("__debug__" : Str))=false:=by decide):W (PS X (.Try body [.ExceptHandler (some (.Name x np)) (some n) (b₀::suite) hpos] [] [] pos) (tTry X.K i D tb ts)):=⟨ps_try (hc:=hc) (hex:=hex) (hstk:=hstk) (hN:=hN) (hi:=hi) (hlo:=hlo) (OD:=OD) (hg:=hg) (hm:=hm) (hb:=fun z0 z1=>(hb z0 z1).h) (hs:=fun z0 z1=>(hs z0 z1).h) (hdb:=hdb)⟩
theorem w_pg_tupL {Y:Cx} {sc:Scope} {N':List Str} {pins:List (Addr×Obj)} {D:Addr} {fp:List Addr} {s:Shared} {H:Hp} {pos:Pos} {es:List Expr} {k:Nat} {t:TGs} {n:Nat} (h:W (PGs (cxLC Y sc N' pins D fp s H) es t)) (hl:(assignEach es (cxLC Y sc N' pins D fp s H).env).length=n:=by rfl) (hst:(assignEach es (cxLC Y sc N' pins D fp s H).env).findIdx? (·.1)=none:=by rfl):W (PG (cxLC Y sc N' pins D fp s H) (.Tuple es k pos) (gTup Y.K n t)):=⟨pg_tupL (h:=h.h) (hl:=hl) (hst:=hst)⟩
theorem w_pe_clear {o:Expr} {to:TE} {apos cpos:Pos} (ho:W (PE X o to)) (hbase:attributeBase o "clear" X.env (eval o X.env)=eval o X.env:=by rfl) (hline:(apos.endLine == cpos.line)=true:=by rfl):W (PE X (.Call (.Attribute o "clear" apos) [] [] cpos) (uClear to)):=⟨pe_clear (ho:=ho.h) (hbase:=hbase) (hline:=hline)⟩
theorem w_pe_b_join {o e:Expr} {to te:TE} {apos cpos:Pos} (ho:W (PE X o to)) (he:W (PE X e te)) (hbase:attributeBase o "join" X.env (eval o X.env)=eval o X.env:=by rfl) (hline:(apos.endLine == cpos.line)=true:=by rfl) (hp:plainE e=true:=by rfl):W (PE X (.Call (.Attribute o "join" apos) [e] [] cpos) (uJoinE to te)):=⟨pe_b_join (ho:=ho.h) (he:=he.h) (hbase:=hbase) (hline:=hline) (hp:=hp)⟩
theorem w_pi_enumL {elts:List Expr} {kk:Nat} {tp p pos:Pos} {a:Expr} {ta:TA} (hg:Gl X "enumerate") (hm:X.mg "enumerate" = none) (ha:W (PA X [a] ta)) (hp:plainE a=true:=by rfl):W (PIc true X (.Tuple elts kk tp) (.Call (.Name "enumerate" p) [a] [] pos) (iEnum X.K ta)):=⟨pi_enumL (hg:=hg) (hm:=hm) (ha:=ha.h) (hp:=hp)⟩
theorem w_ps_augFU {C:Addr} {o value:Expr} {f:Str} {tpos pos:Pos} {ta tv:TE} {op:Operator} {rd:V→V→Hp→VK→Prop} (c:Cls X.K C) (n:NoAttr X.K C f) (ha:W (PE X o ta)) (hv:W (PE X value tv)) (hop:InOp X op rd):W (PS X (.AugAssign (.Attribute o f tpos) op value pos) (uAugF C ta tv rd f)):=⟨ps_augFU (c:=c) (n:=n) (ha:=ha.h) (hv:=hv.h) (hop:=hop)⟩
theorem w_pg_sub {pos : Pos} {o i : Expr} {to ti : TE} {t : TSet} (ho : W (PE X o to)) (hi : W (PE X i ti)) (hs : PSet X t) (ha : ∀ v, assign (.Subscript o i pos) X.env v = (do
      let ov ← holding [v] (eval o X.env)
      let iv ← holding [v, ov] (eval i X.env)
      standAt pos
      holding [v, ov, iv] (setItem ov iv v)
      release [v, ov, iv] []) := by intro _; rfl) : W (PG X (.Subscript o i pos) (gSub to ti t)) := ⟨pg_sub (ho := ho.h) (hi := hi.h) (hs := hs) (ha := ha)⟩
theorem w_po_none  : W (PO X none tNoPart):=⟨po_none ⟩
theorem w_po_some {e:Expr} {te:TE} (h:W (PE X e te)):W (PO X (some e) (tPart te)):=⟨po_some (h:=h.h)⟩
theorem w_ps_cut {st:Stmt} {t:TS} (h:W (PS X st t)):W (PS X st (tCut t)):=⟨ps_cut (h:=h.h)⟩
theorem w_pt {e:Expr} {t:TT} (h:W (PW X e t)):W (PT X e t):=⟨PW.pt h.h⟩
theorem w_ps_nox {st:Stmt} {t:TS} (h:W (PS X.nox st t)):W (PS X st t):=⟨PS.nox h.h⟩
end
end L2
set_option Elab.async false
set_option linter.all false
set_option maxRecDepth 100000
set_option maxHeartbeats 4000000
namespace L2
open PySem PySem.Spec PyProof.Rows
def asc (z:Str):Bool:=z.cps.all (· < 128)
def Its (z:Str):It:=⟨fun i _=>i<z.cps.size,fun i H x H'=>H'=H∧∃ c,z.cps[i]?=some c∧x = .str ⟨#[c]⟩,fun i _=>z.cps.size≤i⟩
theorem turn_str {P:Program} {w:World} {K:PySem.W.Frag} {tg:Expr} (z:Str) (it:Addr):Turn true P w K tg (Its z) [it] it (fun i h=>∃ t,h.IsStrIter it "str_ascii_iterator" z t i) where
 mem:=by simp
 obj:=fun i h st b hb=>by
  have e:b=it:=by simpa using hb
  subst e
  obtain ⟨t,o,e,c,d⟩:=st
  exact ⟨o,e,fun v z=>by rw [d] at z; cases z⟩
 keep:=fun i h h' st k=>by
  obtain ⟨t,o,e,r⟩:=st
  exact ⟨t,o,k it (by simp) o e,r⟩
 item:=by
  intro X hP hw hK hc i pins s σ H E I hf st hg
  subst hP hw hK
  obtain ⟨t,st⟩:=st
  obtain ⟨f0,f1,f2,f3,f4,f5⟩:=hf it (by simp)
  have hi:i<z.cps.size:=hg
  refine wpAny_pyNext_ascii_item st (c:=z.cps[i]) (by simp [hi]) fun h' st' sb=>?_
  have I1:Inv X pins σ H { s with heap:=h',toks:=s.toks+1 }:=I.turned (fun b o hb e=>(sb.2 b hb).trans e) f0 f1 f3 f4 f5
  obtain ⟨o,e,c,d⟩:=id st'
  exact ⟨_,rfl,go_of (s:={ s with heap:=h',toks:=s.toks+1 }) e c d (by decide) ⟨.str ⟨#[z.cps[i]]⟩,H,I1,⟨_,rfl⟩,⟨rfl,_,by simp [hi],rfl⟩,⟨t,st'⟩,fun b hb=>(hf b hb).1⟩⟩
 done:=by
  intro X hP hw hK hc i pins s σ H E I hf st hg
  subst hP hw hK
  obtain ⟨t,st⟩:=st
  obtain ⟨f0,f1,f2,f3,f4,f5⟩:=hf it (by simp)
  have hi:z.cps.size≤i:=hg
  exact wpAny_pyNext_ascii_end (I.ok.hd (hc rfl)) st (by simp [hi]) fun h' eb=>⟨rfl,I.turned (t':=s.toks) (fun b o hb e=>eb b o hb e) f0 f1 f3 f4 f5⟩
 self:=fun _ _ _ _ _ st h=>by
  obtain ⟨t,st⟩:=st
  exact wpAny_pyIter_striter_ascii st h
section
variable {X:Cx} {tg:Expr}
def iStr (tl:TE):TI:=fun σ H R=>tl σ H fun x H1=>uS x fun z=>asc z=true∧R (Its z) H1
theorem iStr_eq {tl:TE} {σ:St} {H:Hp} {R:It→Hp→Prop}:iStr tl σ H R=tl σ H fun x H1=>uS x fun z=>asc z=true∧R (Its z) H1:=rfl
theorem pi_str {l:Expr} {tl:TE} (hl:PE X l tl):PIc true X tg l (iStr tl):=by
 intro pins s σ H R I h
 refine thn (hl pins s σ H _ I h) fun v s1 ⟨x,H1,I1,r1,q1⟩=>?_
 obtain ⟨z,e,ha,q⟩:=q1
 subst e
 obtain ⟨t,rfl⟩:=r1
 refine wpAny_pyIter_ascii ha ?_
 refine ⟨s1.heap.objs.size,[s1.heap.objs.size],_,_,H1,rfl,I1.kept (t':=s1.toks) fun b o e=>Heap.get?_push_of_some _ e,turn_str z _,⟨t,_,Heap.get?_push_size _ rfl,rfl,rfl⟩,fun b hb=>?_,q⟩
 have e:b=s1.heap.objs.size:=by simpa using hb
 subst e
 exact I1.fpOk (Nat.le_refl _) (I1.hok.fresh (Nat.le_refl _))
end
theorem Draws.later {prog:Program} {w:World} {A:Around} {it:Addr} {fp:List Addr} {n k:Nat} {P:Nat→Value→Prop} {St:Nat→Heap→Prop} (D:Draws prog w A it fp n P St) :
  Draws prog w A it fp (n+k) (fun i v=>P (i - k) v) (fun i h=>k≤i∧St (i - k) h) where
 live:=fun _ _ st=>D.live _ _ st.2
 frame:=fun _ _ _ st hk=>⟨st.1,D.frame _ _ _ st.2 hk⟩
 item:=fun i s Q E hi st hQ=>D.item (i - k) s Q E (by have:=st.1; omega) st.2 fun x h' tk p st' sb=>hQ x h' tk p ⟨by have:=st.1; omega,by
  have e:i+1 - k=i - k+1:=by have:=st.1; omega
  rw [e]; exact st'⟩ sb
 done:=fun s Q E st hE=>D.done s Q E (by
  have e:n+k - k=n:=by omega
  have:=st.2; rwa [e] at this) hE
def IteS (z:Str) (k:Nat):It :=
 ⟨fun i _=>i<z.cps.size,fun i H v H'=>∃ T c,H T=none∧v = .ref T∧z.cps[i]?=some c∧H'=upd H T (.tup [.int ((i:Nat)+k:Nat),.str ⟨#[c]⟩]),fun i _=>i=z.cps.size⟩
structure EnumStS (e it:Addr) (z:Str) (k i:Nat) (h:Heap):Prop where
 en:∃ old,IsEnum h e it ((i+k:Nat):Int) old
 a:∃ t,h.IsStrIter it "str_ascii_iterator" z t i
theorem turn_enumS {P:Program} {w:World} {K:PySem.W.Frag} {elts:List Expr} {kk:Nat} {tp:Pos} {z:Str} {k:Nat} {e it:Addr} (hne:e≠it) :
  Turn true P w K (.Tuple elts kk tp) (IteS z k) [e,it] e (EnumStS e it z k) where
 mem:=by simp
 obj:=fun i h st b hb=>by
  obtain ⟨⟨old,a1⟩,⟨t,o4,a4,_,d4⟩⟩:=st
  simp only [List.mem_cons,List.not_mem_nil,or_false] at hb
  rcases hb with rfl|rfl
  ·exact ⟨_,a1,fun v q=>nomatch q⟩
  ·exact ⟨_,a4,fun v q=>by rw [d4] at q; cases q⟩
 keep:=fun i h h' st k=>by
  obtain ⟨⟨old,a1⟩,⟨t,o,a4,r⟩⟩:=st
  exact ⟨⟨old,k _ (by simp) _ a1⟩,t,o,k _ (by simp) o a4,r⟩
 item:=by
  intro X hP hw hK hc i pins s σ H E I hf st hg
  subst hP hw hK
  obtain ⟨⟨old,a1⟩,⟨t,a4⟩⟩:=st
  have hi:i<z.cps.size:=hg
  have hid:=I.ok.hd (hc rfl)
  have D:=Draws.later (k:=k) (Draws.strAscii (prog:=X.prog) (w:=X.w) (A:=X.A.in1) hid it z t)
  refine wpAny_pyNext_enum_itemD D a1 (i:=i+k) ⟨by omega,by rw [Nat.add_sub_cancel]; exact a4⟩ (by omega) hne (by simpa using hne) fun x h' tk px b1 b2 b3 b4 b5=>?_
  obtain ⟨c,u,hcc,rfl⟩:=px
  rw [Nat.add_sub_cancel] at hcc
  refine ⟨_,rfl,wpAny_letOwnedTupleGo_enum (s:={ s with heap:=h',toks:=tk+1 }) b1 fun h2 c1 c2=>?_⟩
  have zlt:e<s.heap.objs.size:=Heap.lt_size a1
  have nz:s.heap.objs.size≠e:=Nat.ne_of_gt zlt
  have all:∀ c o,c≠e→c≠it→s.heap.get? c=some o→h2.get? c=some o:=fun c o n1 n2 q=>c2.extBut c o n1 (b5 c o n1 n2 q)
  have tT:h2.get? s.heap.objs.size=some { cls:=.type "tuple",data:=.seq #[.int ((i+k:Nat):Int) tk,.str ⟨#[c]⟩ u] }:=c2.extBut _ _ nz b3
  have hfr:H s.heap.objs.size=none:=I.hok.fresh (Nat.le_refl _)
  have hok0:HOk X.prog X.w H h2:=fun b u q0=>by
   refine (I.hok b u q0).stay (fun c v hc q=>?_) (fun _ q=>q) fun _ _ q=>q
   have hnn:∀ d∈[e,it],c≠d:=fun d hd w=>by
    have fd:=(hf d hd).1
    rcases hc with k|k
    ·rw [k] at w; rw [w,fd] at q0; cases q0
    ·rw [w,fd] at k; cases k
   exact all c v (hnn e (by simp)) (hnn it (by simp)) q
  have lt0:∀ b o,s.heap.get? b=some o→b≠s.heap.objs.size:=fun b o e=>Nat.ne_of_lt (Heap.lt_size e)
  have I2:Inv X pins σ (upd H s.heap.objs.size (.tup [.int ((i+k:Nat):Int),.str ⟨#[c]⟩])) { s with heap:=h2,toks:=tk+1 }:=by
   refine I.step (g':=s.gens) (d':=s.drawn) (t':=tk+1) (ch:=[e,it]) (fun b hb=>?_) (fun b o _ _ hb q _=>?_) (fun b o _ _ hb q _=>?_) (fun b o _ q n=>?_) (fun b o hb q=>?_) (fun b ps q=>?_) (fun b o u q=>?_) (fun b ps q=>?_) (fun m hm=>?_) (hok0.add hfr ?_) I.bare
   ·obtain ⟨f0,f1,f2,f3,f4,f5⟩:=hf b hb
    exact ⟨f3,f1,f4,f5⟩
   ·simp only [List.mem_cons,List.not_mem_nil,or_false,not_or] at hb
    exact all b o hb.1 hb.2 q
   ·simp only [List.mem_cons,List.not_mem_nil,or_false,not_or] at hb
    exact ⟨o.slots,all b o hb.1 hb.2 q⟩
   ·rw [upd_ne (lt0 b o q)]; exact n
   ·simp only [List.mem_cons,List.not_mem_nil,or_false,not_or] at hb
    exact ⟨o,all b o hb.1 hb.2 q⟩
   ·rw [upd_ne (ne_of_none q hfr)]; exact q
   ·rw [upd_ne (ne_of_none q hfr)]; exact q
   ·exact ⟨#[],by rw [upd_ne (ne_of_none q hfr),q]; simp⟩
   ·obtain ⟨o,es,ep,ho,r⟩:=hm
    exact ⟨o,es,ep,all _ o (Ne.symm (hf e (by simp)).2.1) (Ne.symm (hf it (by simp)).2.1) ho,r⟩
   ·exact ⟨by show 2≤sizeLine; decide,[.int ((i+k:Nat):Int) tk,.str ⟨#[c]⟩ u],.cons ⟨_,rfl⟩ (.cons ⟨_,rfl⟩ .nil),⟨_,tT,rfl,_,rfl⟩⟩
  refine ⟨.ref s.heap.objs.size,_,I2,rfl,⟨_,c,hfr,rfl,hcc,rfl⟩,?_,fun b hb=>?_⟩
  ·obtain ⟨_,b2⟩:=b2
   have e1:i+k+1 - k=i+1:=by omega
   rw [e1] at b2
   obtain ⟨o,b2,r⟩:=b2
   have e3:((i+1+k:Nat):Int)=((i+k:Nat):Int)+1:=by omega
   refine ⟨?_,t,o,c2.extBut _ _ (Ne.symm hne) b2,r⟩
   rw [e3]
   exact ⟨_,c1⟩
  ·have ne:b≠s.heap.objs.size:=fun q=>by
    have:b<s.heap.objs.size:=by
     simp only [List.mem_cons,List.not_mem_nil,or_false] at hb
     obtain ⟨o4,a4,_⟩:=a4
     rcases hb with rfl|rfl
     ·exact zlt
     ·exact Heap.lt_size a4
    exact absurd (q ▸ this) (Nat.lt_irrefl _)
   rw [upd_ne ne]
   exact (hf b hb).1
 done:=by
  intro X hP hw hK hc i pins s σ H E I hf st hg
  subst hP hw hK
  obtain ⟨⟨old,a1⟩,⟨t,a4⟩⟩:=st
  have hi:i=z.cps.size:=hg
  have hid:=I.ok.hd (hc rfl)
  have D:=Draws.strAscii (prog:=X.prog) (w:=X.w) (A:=X.A.in1) hid it z t
  rw [hi] at a4
  refine wpAny_pyNext_enum_endD D a1 a4 fun h' up=>⟨rfl,?_⟩
  refine I.step (g':=s.gens) (d':=s.drawn) (t':=s.toks) (ch:=[it]) (fun b hb=>?_) (fun b o _ _ hb q _=>?_) (fun b o _ _ hb q _=>?_) (fun _ _ _ _ n=>n) (fun b o hb q=>?_) (fun _ _ q=>q) (fun _ _ _ q=>q) (fun b ps q=>⟨#[],by rw [q]; simp⟩) (fun m hm=>?_) (fun b u q0=>?_) I.bare
  ·have hb':b∈[e,it]:=by simp only [List.mem_cons,List.not_mem_nil,or_false] at hb ⊢; exact .inr hb
   obtain ⟨f0,f1,f2,f3,f4,f5⟩:=hf b hb'
   exact ⟨f3,f1,f4,f5⟩
  ·simp only [List.mem_cons,List.not_mem_nil,or_false] at hb
   exact up b o hb q
  ·simp only [List.mem_cons,List.not_mem_nil,or_false] at hb
   exact ⟨o.slots,up b o hb q⟩
  ·simp only [List.mem_cons,List.not_mem_nil,or_false] at hb
   exact ⟨o,up b o hb q⟩
  ·obtain ⟨o,es,ep,ho,r⟩:=hm
   exact ⟨o,es,ep,up _ o (Ne.symm (hf it (by simp)).2.1) ho,r⟩
  ·refine (I.hok b u q0).stay (fun c v hc q=>?_) (fun _ q=>q) fun _ _ q=>q
   have hnn:c≠it:=fun w=>by
    have fd:=(hf it (by simp)).1
    rcases hc with k|k
    ·rw [k] at w; rw [w,fd] at q0; cases q0
    ·rw [w,fd] at k; cases k
   exact up c v hnn q
 self:=fun _ _ _ _ _ st h=>by
  obtain ⟨old,a1⟩:=st.en
  exact wpAny_pyIter_enum a1 h
end L2
set_option Elab.async false
set_option linter.all false
set_option maxRecDepth 100000
set_option maxHeartbeats 4000000
namespace L2
open PySem PySem.Spec PyProof.Rows
section
variable {prog:Program} {w:World} {A:Around} {E:Value→Shared→Prop} {s:Shared}
theorem typeCallK_enumerate (a b:Value):checkTypeCall "enumerate" ⟨[a],[(Str.ofString "start",b)]⟩=pure ():=by kernel_rfl
theorem newCallK_enumerate (a b:Value):checkBuiltinCall "enumerate.__new__" ⟨[.type "enumerate",a],[(Str.ofString "start",b)]⟩=pure ():=by kernel_rfl
theorem initK_enumerate (o a b:Value):argsOk "object.__init__" ⟨[o,a],[(Str.ofString "start",b)]⟩:=by
 unfold argsOk; kernel_rfl
theorem enumNewK (x : Str) (t u : Tok) : Meets (Builtin.«enumerate.__new__» ⟨[.type "enumerate", .str x t], [(Str.ofString "start", .int 1 u)]⟩) (fun _ R s =>
      R (.ok (.ret (.ref (s.heap.push { cls := .type (strIterType x), data := .fields #[.str x t, .int 0 0] }).objs.size)))
        { s with heap := (s.heap.push { cls := .type (strIterType x), data := .fields #[.str x t, .int 0 0] }).push { cls := .type "enumerate", data := .fields #[.none, .bool false, .ref s.heap.objs.size, rawInt 1, .none, .none] } }) :=
 .of_wp fun prog w A R s h=>by
  obtain ⟨hp,g,d,tk,os⟩:=s
  have hsub:=sub_enumerate
  wp_walk
  refine wpAny_stack_any fun st=>wpAny_pure ?_
  split
  ·rename_i c _ _ _ _ _
   cases (c == Value.type "enumerate")
   ·wp_walk using wpAny_pyIter_strU
    exact ⟨_,rfl,h⟩
   ·wp_walk using wpAny_pyIter_strU
    exact ⟨_,rfl,h⟩
  ·wp_walk using wpAny_pyIter_strU
   exact ⟨_,rfl,h⟩
end
end L2
set_option Elab.async false
set_option linter.all false
set_option maxRecDepth 100000
set_option maxHeartbeats 4000000
namespace L2
open PySem PySem.Spec PyProof.Rows
section
variable {prog:Program} {w:World} {A:Around} {E:Value→Shared→Prop} {s:Shared}
theorem objInitK {T newId:String} {self a:Value} {kws:List (Str×Value)} (hl:typeLookup (.type T) "__init__" = pure (some (.builtin "object.__init__")))
  (hm:Bind.madeBy (.type T)=pure (some newId)) (hne:(some newId != some "object.__new__")=true):Meets (Builtin.«object.__init__» ⟨[self,a],kws⟩) (fun _ R s=>s.TypeIs self T∧R (.ok (.ret .none)) s):=by
 refine Meets.of_wp fun prog w A R s ⟨hT,hq⟩=>?_
 repeat (any_goals (first|assumption|wp_step))
 exact ⟨_,rfl,hq⟩
theorem callTypeK {T newId:String} {Bn:Builtin} {a:Value} {kws:List (Str×Value)} {S:PySem.Spec} {Q:Value→Shared→Prop} (ft:TypeCalled T newId "object.__init__") (hne:(some newId != some "object.__new__")=true)
  (hct:checkTypeCall T ⟨[a],kws⟩=pure ()) (hcn:checkBuiltinCall newId ⟨[.type T,a],kws⟩=pure ()) (hok:∀ obj,argsOk "object.__init__" ⟨[obj,a],kws⟩) (entryN:entryFor table newId=some Bn) (g:Meets (Bn ⟨[.type T,a],kws⟩) S)
  (h:S A.in1 (wants (fun obj s₁=>s₁.TypeIs obj T∧Q obj s₁) E) s):wpAny (model prog w) A (call (.type T) [a] kws) Q E s:=by
 obtain ⟨c,tl,hmro⟩:=ft.mro
 have hmade:=ft.made
 have hsub:=ft.sub
 refine wpAny_call (A:=A) (codeAny_of_tree (A:=A) ?_)
 show wpAny (model prog w) _ (callAny (.type T) _) _ _ _
 refine wpAny_pure ⟨Code.quiet_builtin _ (by decide +kernel),codeAny_builtin (A:=A) F.entry_type_call ?_⟩
 rw [Around.under_plain (weight_type_call_type T [a] kws) (units_type_call_type T [a] kws)]
 have k1:=ft.notType
 have k2:=ft.canCreate
 repeat (any_goals (first|assumption|wp_step))
 refine codeAny_mono (codeAny_call_builtin ft.plain entryN (wpAny_of_eq hcn (g prog w A.in1 _ s h))) fun r s1 hr=>?_
 cases r with
 | error e=>exact hr
 | ok fl =>
  cases fl with
  | ret obj =>
   have hli:=ft.init.lookup
   have hbi:=ft.init.bind obj
   have hT:=hr.1
   repeat (any_goals (first|assumption|wp_step))
   refine codeAny_mono (codeAny_call_builtin ft.init.plain F.entry_object_init (ft.init.check _ _ _ _ _ _ _ _ hr.1 (hok obj) (objInitK ft.init.lookup ft.made hne prog w A.in1 (wants (fun r s2=>r = .none∧Q obj s2) E) s1 ⟨hr.1,rfl,hr.2⟩))) fun r2 s2 hr2=>?_
   cases r2 with
   | error e=>exact hr2
   | ok fl2 =>
    cases fl2 with
    | ret r =>
     obtain ⟨rfl,hq⟩:=hr2
     repeat (any_goals (first|assumption|wp_step))
    | _=>exact hr2.elim
  | _=>exact hr.elim
theorem callEnumK {x:Str} {t u:Tok} {Q:Value→Shared→Prop}
  (h:∀ h',IsEnum h' (s.heap.objs.size+1) s.heap.objs.size 1 .none→h'.IsStrIter s.heap.objs.size (strIterType x) x t 0→h'.objs.size=s.heap.objs.size+2→(∀ b o,s.heap.get? b=some o→h'.get? b=some o)→Q (.ref (s.heap.objs.size+1)) { s with heap:=h' }) :
  wpAny (model prog w) A (call (.type "enumerate") [.str x t] [(Str.ofString "start",.int 1 u)]) Q E s:=by
 refine callTypeK F.called_enumerate (by decide) (typeCallK_enumerate _ _) (newCallK_enumerate _ _) (fun obj=>initK_enumerate obj _ _) F.entry_enumerate_new (enumNewK x t u) ?_
 have hz:(s.heap.push { cls:=.type (strIterType x),data:=.fields #[.str x t,.int 0 0] }).objs.size=s.heap.objs.size+1:=Heap.size_push ..
 show _∧_
 rw [hz]
 have he:IsEnum ((s.heap.push { cls:=.type (strIterType x),data:=.fields #[.str x t,.int 0 0] }).push { cls:=.type "enumerate",data:=.fields #[.none,.bool false,.ref s.heap.objs.size,rawInt 1,.none,.none] }) (s.heap.objs.size+1) s.heap.objs.size 1 .none:=by
  have q:=Heap.get?_push_size (s.heap.push { cls:=.type (strIterType x),data:=.fields #[.str x t,.int 0 0] }) (o:={ cls:=.type "enumerate",data:=.fields #[.none,.bool false,.ref s.heap.objs.size,rawInt 1,.none,.none] }) rfl
  rw [hz] at q; exact q
 exact ⟨⟨_,he,rfl⟩,h _ he ⟨_,Heap.get?_push_of_some _ (Heap.get?_push_size _ rfl),rfl,rfl⟩ (by rw [Heap.size_push,hz]) fun b o y=>Heap.get?_push_of_some _ (Heap.get?_push_of_some _ y)⟩
theorem callWithTK {M:Model} {pos:Pos} {T:String} {args:List (Bool×Sem Value)} {keywords:List (Option Str×Sem Value)} {Q:Value→Shared→Prop} (hplain:args.any (·.1)=false) (hkw:keywords.any (·.1.isNone)=false)
  (h:wpAny M A (evalArgs (.type T) true args keywords) (fun a s1=>wpAny M A (call (.type T) a.pos a.kw) Q E s1) E s):wpAny M A (callWith pos (.type T) [] args keywords) Q E s:=by
 unfold callWith
 refine wpAny_bind (wpAny_holding (wpAny_mono h (fun a s1 h1=>wpAny_bind (wpAny_standAt ?_)) fun _ _ x=>x))
 simp only [hplain,hkw,Bool.or_false]
 exact wpAny_bind (wpAny_pure (wpAny_bind (wpAny_mono h1 (fun r s2 hr=>wpAny_bind (wpAny_holding (wpAny_point (wpAny_pure hr)))) fun _ _ x=>x)))
end
section
variable {X:Cx}
def iEnumS (k:Nat) (ta:TE):TI:=fun σ H R=>ta σ H fun x H1=>uS x fun z=>asc z=true∧R (IteS z k) H1
theorem iEnumS_eq {k:Nat} {ta:TE} {σ:St} {H:Hp} {R:It→Hp→Prop}:iEnumS k ta σ H R=ta σ H fun x H1=>uS x fun z=>asc z=true∧R (IteS z k) H1:=rfl
theorem strIterType_asc {z:Str} (h:asc z=true):strIterType z = "str_ascii_iterator":=by
 unfold strIterType; rw [show z.cps.all (· < 128)=true from h]; rfl
theorem pi_enumS {elts:List Expr} {kk:Nat} {tp p pos:Pos} {a:Expr} {ta:TE} (hg:Gl X "enumerate") (hm:X.mg "enumerate" = none) (ha:PE X a ta) (hp:plainE a=true:=by rfl) :
  PIc true X (.Tuple elts kk tp) (.Call (.Name "enumerate" p) [a] [] pos) (iEnumS 0 ta):=by
 intro pins s σ H R I h
 have hs:starEach [a] X.env=[(false,eval a X.env)]:=star1 hp
 have hA:=pa_cons ha pa_nil (hs:=hs) pos pins s σ H (fun ys H2=>match ys with|[y]=>uS y fun z=>asc z=true∧R (IteS z 0) H2|_=>False) I h
 refine Call_ (ld_blt I hg hm boot_enumerate (PyProof.Rows.callWith_type1 (thn hA fun us s1 ⟨vs,H1,I1,r1,q1⟩=>?_) hs rfl))
 match vs,q1,r1 with
 | [y],⟨z,ey,hz,q⟩,r1 =>
  subst ey
  cases r1 with
  | cons r rr =>
   cases rr
   obtain ⟨t,rfl⟩:=r
   refine call_enumerate_str fun h' a1 a4 a6 a7=>wpAny_pyIter_enum (s:={ s1 with heap:=h' }) a1 ?_
   rw [strIterType_asc hz] at a4
   refine ⟨_,_,_,_,H1,rfl,I1.kept (t':=s1.toks) a7,turn_enumS (Nat.succ_ne_self _),⟨⟨_,a1⟩,t,a4⟩,fun b hb=>?_,q⟩
   have le:s1.heap.objs.size≤b:=by
    simp only [List.mem_cons,List.not_mem_nil,or_false] at hb
    rcases hb with rfl|rfl <;> omega
   exact I1.fpOk le (I1.hok.fresh le)
theorem pi_enumK {elts:List Expr} {kk j:Nat} {tp p pos kp cp:Pos} {a:Expr} {ta:TE} (hg:Gl X "enumerate") (hm:X.mg "enumerate" = none) (ha:PE X a ta) (hp:plainE a=true:=by rfl) :
  PIc true X (.Tuple elts kk tp) (.Call (.Name "enumerate" p) [a] [⟨some (Str.ofString "start"),.Constant (.int 1) j cp,kp⟩] pos) (iEnumS 1 ta):=by
 intro pins s σ H R I h
 have hs:starEach [a] X.env=[(false,eval a X.env)]:=star1 hp
 have hA:=pa_cons ha pa_nil (hs:=hs) pos pins s σ H (fun ys H2=>match ys with|[y]=>uS y fun z=>asc z=true∧R (IteS z 1) H2|_=>False) I h
 refine wpAny_Call_Name_kw (ld_blt I hg hm boot_enumerate (callWithTK (by rw [hs]; rfl) rfl ?_))
 rw [hs] at hA ⊢
 refine evalArgs_kwB rfl (thn hA fun us s1 ⟨vs,H1,I1,r1,q1⟩=>kws_cons (thn (pe_int pins s1 σ H1 (fun v H=>v = .int 1∧H=H1) I1 ⟨rfl,rfl⟩) fun w2 s2 ⟨y2,H2,I2,r2,ey2,eH2⟩=>kws_nil ?_))
 subst ey2 eH2
 obtain ⟨t2,rfl⟩:=r2
 match vs,q1,r1 with
 | [y],⟨z,ey,hz,q⟩,r1 =>
  subst ey
  cases r1 with
  | cons r rr =>
   cases rr
   obtain ⟨t,rfl⟩:=r
   refine callEnumK (s:=s2) fun h' a1 a4 a6 a7=>wpAny_pyIter_enum (s:={ s2 with heap:=h' }) a1 ?_
   rw [strIterType_asc hz] at a4
   refine ⟨_,_,_,_,H2,rfl,I2.kept (t':=s2.toks) a7,turn_enumS (Nat.succ_ne_self _),⟨⟨_,a1⟩,t,a4⟩,fun b hb=>?_,q⟩
   have le:s2.heap.objs.size≤b:=by
    simp only [List.mem_cons,List.not_mem_nil,or_false] at hb
    rcases hb with rfl|rfl
    ·exact Nat.le_succ _
    ·exact Nat.le_refl _
   exact I2.fpOk le (I2.hok.fresh le)
end
section
variable {K:PySem.W.Frag} {g:TG} {tb:TS} {D:Ends} {σ:St} {H:Hp} {tt:TT} {te:TE} {Q:VK}
theorem ForJ.enumS {z:Str} {k:Nat} (Pv:Nat→St→Hp→Prop) (h0:Pv 0 σ H)
  (hs:∀ i c p σ H,z.cps[i]?=some c→Pv i σ H→H p=none→g (.ref p) σ (upd H p (.tup [.int ((i+k:Nat):Int),.str ⟨#[c]⟩])) fun σ2 H2=>tb { D with nx:=Pv (i+1),ct:=Pv (i+1),bk:=D.nx } σ2 H2) (hd:∀ σ H,Pv z.cps.size σ H→D.nx σ H):ForJ (IteS z k) g tb D σ H:=by
 refine ⟨fun i m σ H=>m=z.cps.size - i∧i≤z.cps.size∧Pv i σ H,⟨z.cps.size,by simp,Nat.zero_le _,h0⟩,?_⟩
 rintro i m σ H ⟨rfl,hi,p⟩
 by_cases hlt:i<z.cps.size
 ·refine .inr ⟨hlt,Pv (i+1),fun σ' H' p'=>⟨z.cps.size - (i+1),by omega,rfl,hlt,p'⟩,fun x H' y=>?_⟩
  obtain ⟨T,c,hT,rfl,hc,rfl⟩:=y
  exact hs i c T σ _ hc p hT
 ·have e:i=z.cps.size:=by omega
  subst e
  exact .inl ⟨rfl,hd σ H p⟩
theorem CompJ.str {z:Str} {τ:St} (Pv:Nat→St→List V→Hp→Prop) (hz:∀ i τ ys H,Pv i τ ys H→ys.length<sizeLine) (h0:Pv 0 τ [] H)
  (hs:∀ (N:St→List V→Hp→Prop) i c τ ys H,z.cps[i]?=some c→Pv i τ ys H→(∀ τ ys H,Pv (i+1) τ ys H→N τ ys H)→g (.str ⟨#[c]⟩) τ H fun τ1 H4=>tt τ1 H4 fun ok H5=>CompN N ys τ1 te ok H5) (hd:∀ τ ys H,Pv z.cps.size τ ys H→∀ D H',New H D (.lst ys) H'→Q (.ref D) H'):CompJ (Its z) g tt te τ H Q:=by
 refine ⟨fun i m τ ys H=>m=z.cps.size - i∧i≤z.cps.size∧Pv i τ ys H,⟨z.cps.size,by simp,Nat.zero_le _,h0⟩,?_⟩
 rintro i m τ ys H2 ⟨rfl,hi,p⟩
 refine ⟨hz i τ ys H2 p,?_⟩
 by_cases hlt:i<z.cps.size
 ·refine .inr ⟨hlt,fun x H' y=>?_⟩
  obtain ⟨e,c,hc,rfl⟩:=y
  subst e
  exact hs (fun τ1 ys H=>∃ m',m'<z.cps.size - i∧m'=z.cps.size - (i+1)∧i+1≤z.cps.size∧Pv (i+1) τ1 ys H) i c τ ys _ hc p fun τ1 zs H q=>⟨z.cps.size - (i+1),by omega,rfl,hlt,q⟩
 ·have e:i=z.cps.size:=by omega
  subst e
  exact .inl ⟨Nat.le_refl _,fun D hD _=>hd τ ys H2 p D _ (.mk' hD)⟩
end
end L2
set_option Elab.async false
set_option linter.all false
set_option maxRecDepth 100000
set_option maxHeartbeats 4000000
namespace L2
open PySem PySem.Spec PyProof.Rows
section
variable {X:Cx}
def uAll:List V→Hp→VK→Prop:=fun xs H Q=>uR1 xs fun p=>∃ bs:List Bool,H p=some (.lst (bs.map V.bl))∧Q (.bl (bs.all id)) H
theorem vals_bl {bs:List Bool}:∀ {us:List Value},Vals (bs.map V.bl) us→us=bs.map Value.bool:=by
 induction bs with
 | nil=>intro us r; rw [List.map_nil] at r; cases r; rfl
 | cons b bs ih =>
  intro us r
  rw [List.map_cons] at r
  cases r with
  | cons r1 r2=>rw [show _=Value.bool b from r1,ih r2]; rfl
theorem call_allU (hc:X.calm=true):CallR X (.builtin "all") uAll:=by
 intro pins s σ H xs us Q I r h
 obtain ⟨p,rfl,bs,hp,q⟩:=h
 cases r with
 | cons r1 rr =>
  cases rr
  cases (show _=Value.ref p from r1)
  obtain ⟨its,rv,pl,_⟩:=I.list (SqL.of (K:=X.K) hp)
  have e:=vals_bl rv
  subst e
  have hne:p≠s.heap.objs.size:=by obtain ⟨o,e,_⟩:=pl.isList; exact Nat.ne_of_lt (Heap.lt_size e)
  refine call_all_walk (wpAny_pyIter_list pl.isList ?_)
  have hl:∀ k:Nat,k=bs.length→(List.range k).all (fun i=>bs.getD i true)=bs.all id:=by
   intro k e
   subst e
   rw [Bool.eq_iff_iff,List.all_eq_true,List.all_eq_true]
   constructor
   ·intro h x hx
    obtain ⟨i,hi,rfl⟩:=List.getElem_of_mem hx
    have:=h i (List.mem_range.mpr hi)
    rw [List.getD_eq_getElem?_getD,List.getElem?_eq_getElem hi] at this
    exact this
   ·intro h i hi
    have hi:=List.mem_range.mp hi
    rw [List.getD_eq_getElem?_getD,List.getElem?_eq_getElem hi]
    exact h _ (List.getElem_mem hi)
  refine ⟨s.heap.objs.size,_,_,_,_,_,fun i=>bs.getD i true,rfl,Walks.list (prog:=X.prog) (w:=X.w) (A:=X.A.in1) (show X.A.in1.handled=none from I.ok.hd hc) s.heap.objs.size p hne (bs.map Value.bool).toArray,⟨⟨_,Heap.get?_push_size _ rfl,rfl,rfl⟩,pl.isList.push _⟩,?_,fun h' tk kp=>?_⟩
  ·intro i v s2 Q2 E2 hv hQ
   have hv:(bs.map Value.bool)[i]?=some v:=by simpa using hv
   rw [List.getElem?_map] at hv
   cases e:bs[i]? with
   | none=>rw [e] at hv; cases hv
   | some b =>
    rw [e] at hv
    cases hv
    have e2:bs.getD i true=b:=by rw [List.getD_eq_getElem?_getD,e]; rfl
    have hQ:Q2 (bs.getD i true) s2:=hQ
    rw [e2] at hQ
    exact wpAny_pure hQ
  ·refine ⟨.bl _,H,I.kept (t':=tk) fun b o e=>kp b o ?_ (Heap.get?_push_of_some _ e),rfl,?_⟩
   ·simpa using Nat.ne_of_lt (Heap.lt_size e)
   ·rw [hl _ (by simp)]; exact q
theorem uAll_r {p:Addr} {H:Hp} {Q:VK}:uAll [.ref p] H Q = ∃ bs:List Bool,H p=some (.lst (bs.map V.bl))∧Q (.bl (bs.all id)) H:=uR1_r
def uIs (neg:Bool):R2:=fun x y H Q=>(y = .non∨∃ b,y = .bl b∧flatV x=true)∧Q (.bl (if neg then !decide (x=y) else decide (x=y))) H
theorem uIs_b {c b:Bool} {x:V} {H:Hp} {Q:VK}:uIs c x (.bl b) H Q=(flatV x=true∧Q (.bl (if c then !decide (x = .bl b) else decide (x = .bl b))) H):=by simp [uIs]
theorem uIs_n {c:Bool} {x:V} {H:Hp} {Q:VK}:uIs c x .non H Q=Q (.bl (if c then !decide (x = .non) else decide (x = .non))) H:=by simp [uIs]
def uIn:R2:=fun x y H Q=>(∃ i j,x = .str i∧y = .str j∧Q (.bl (!(Builtin.Str.occurrences j i 0 j.length 1).isEmpty)) H)∨∃ p xs,y = .ref p∧(H p=some (.lst xs)∨H p=some (.tup xs))∧flatV x=true∧xs.all flatV=true∧Q (.bl (inV x xs)) H
theorem op_inU (hu:X.A.units<cLine):OpR X (compareOp .In) uIn:=(op_in_str.or op_in_seq).weak fun x y H Q h=>by
 rcases h with h|⟨p,xs,e,h,f1,f2,q⟩
 ·exact .inl h
 ·exact .inr ⟨p,xs,e,h.elim (fun h=>.inl (SqL.of h)) (fun h=>.inr (SqT.of h)),f1,f2,by simpa using q⟩
theorem uIn_ss {x y:Str} {H:Hp} {Q:VK}:uIn (.str x) (.str y) H Q=Q (.bl (!(Builtin.Str.occurrences y x 0 y.length 1).isEmpty)) H:=by simp [uIn]
theorem uIn_r {x:V} {p:Addr} {H:Hp} {Q:VK}:uIn x (.ref p) H Q = ∃ xs,(H p=some (.lst xs)∨H p=some (.tup xs))∧flatV x=true∧xs.all flatV=true∧Q (.bl (inV x xs)) H:=by simp [uIn]
def uM1 (to te:TE) (r:Str→V→Hp→VK→Prop):TE:=fun σ H Q=>to σ H fun x H1=>uS x fun z=>te σ H1 fun y H2=>r z y H2 Q
theorem uM1_eq {to te:TE} {r:Str→V→Hp→VK→Prop} {σ:St} {H:Hp} {Q:VK}:uM1 to te r σ H Q=to σ H fun x H1=>uS x fun z=>te σ H1 fun y H2=>r z y H2 Q:=rfl
theorem pe_sm1 {o e:Expr} {to te:TE} {apos cpos:Pos} {m:Str} {id:String} {r:Str→V→Hp→VK→Prop} (hs1:Slot "str" m id) (hs2:typeOf (.builtin id)=pure (.type "method_descriptor"))
  (hr:∀ (pins:List (Addr×Obj)) (s:Shared) (σ:St) (H:Hp) (z:Str) (y:V) (t:Tok) (v:Value) (Q:VK),Inv X pins σ H s→RelV y v→r z y H Q→wpAny (model X.prog X.w) X.A (call (.builtin id) [.str z t,v]) (fun u s1=>∃ x H',Inv X pins σ H' s1∧RelV x u∧Q x H') X.xe s)
  (ho:PE X o to) (he:PE X e te) (hbase:attributeBase o m X.env (eval o X.env)=eval o X.env:=by rfl) (hline:(apos.endLine == cpos.line)=true:=by rfl) (hp:plainE e=true:=by rfl) :
  PE X (.Call (.Attribute o m apos) [e] [] cpos) (uM1 to te r):=by
 intro pins s σ H Q I h
 have hs:starEach [e] X.env=[(false,eval e X.env)]:=star1 hp
 refine wpAny_Call_method_late hbase (by rw [hs]; rfl) hline rfl (thn (ho pins s σ H _ I h) fun v s1 ⟨x,H1,I1,r1,z,ex,q1⟩=>?_)
 subst ex
 obtain ⟨h1,h2⟩:=tyV_is (T:="str") I1 r1 rfl
 refine ⟨"str",id,PySem.F.plainAttrs_str,hs1,hs2,h1,h2,?_⟩
 rw [hs]
 refine Calls.callWith_builtin rfl (Calls.evalArgs_plain ?_)
 have hA:=pa_cons he pa_nil (hs:=hs) cpos pins s1 σ H1 (fun ys H2=>match ys with|[y]=>r z y H2 Q|_=>False) I1 q1
 rw [hs] at hA
 refine thn hA fun us s2 ⟨vs,H2,I2,r2,q2⟩=>?_
 obtain ⟨t,rfl⟩:=r1
 match vs,q2,r2 with
 | [y],q2,.cons ry .nil=>exact hr pins s2 σ H2 z y t _ Q I2 ry q2
def rRfind:Str→V→Hp→VK→Prop:=fun z y H Q=>uS y fun q=>Q (.int (PySem.Txt.rfind z q)) H
theorem pe_b_rfind {o e:Expr} {to te:TE} {apos cpos:Pos} (ho:PE X o to) (he:PE X e te) (hbase:attributeBase o "rfind" X.env (eval o X.env)=eval o X.env:=by rfl) (hline:(apos.endLine == cpos.line)=true:=by rfl) (hp:plainE e=true:=by rfl) :
  PE X (.Call (.Attribute o "rfind" apos) [e] [] cpos) (uM1 to te rRfind) :=
 pe_sm1 PySem.F.slot_str_rfind PySem.F.type_str_rfind (fun pins s σ H z y t v Q I ry q=>by
  obtain ⟨w,rfl,q⟩:=q
  obtain ⟨u,rfl⟩:=ry
  exact call_meets PySem.F.slot_str_rfind (typeIs_str _ _ _) PySem.F.entry_str_rfind (PySem.F.args_str_rfind_2 _ _) (gives_str_rfind z w t u).meets ⟨.int _,H,I.tok _,⟨_,rfl⟩,q⟩) ho he hbase hline hp
theorem rRfind_s {z q:Str} {H:Hp} {Q:VK}:rRfind z (.str q) H Q=Q (.int (PySem.Txt.rfind z q)) H:=uS_s
theorem vals_strsFrom:∀ (k:Nat) (ys:List Str),Vals (ys.map V.str) (strsFrom k ys)
 | _,[]=>.nil
 | k,y::ys=>.cons ⟨k,rfl⟩ (vals_strsFrom (k+1) ys)
def rSplit:Str→V→Hp→VK→Prop:=fun z y H Q=>uS y fun q=>(q.length == 0)=false∧z.length<sizeLine∧(PySem.Txt.split z q).length≤sizeLine∧∀ p H2,New H p (.lst ((PySem.Txt.split z q).map V.str)) H2→Q (.ref p) H2
theorem pe_b_split {o e:Expr} {to te:TE} {apos cpos:Pos} (ho:PE X o to) (he:PE X e te) (hbase:attributeBase o "split" X.env (eval o X.env)=eval o X.env:=by rfl) (hline:(apos.endLine == cpos.line)=true:=by rfl) (hp:plainE e=true:=by rfl) :
  PE X (.Call (.Attribute o "split" apos) [e] [] cpos) (uM1 to te rSplit) :=
 pe_sm1 PySem.F.slot_str_split PySem.F.type_str_split (fun pins s σ H z y t v Q I ry q=>by
  obtain ⟨w,rfl,hw,hz,hn,q⟩:=q
  obtain ⟨u,rfl⟩:=ry
  have lay:∀ (ys:List Str) (us:List Value) (k:Nat),ys=PySem.Txt.split z w→Vals (ys.map V.str) us→∃ x H',Inv X pins σ H' { s with heap:=s.heap.push { cls:=.type "list",data:=.seq us.toArray },toks:=k }∧RelV x (.ref s.heap.objs.size)∧Q x H':=fun ys us k e rv=>by
   subst e
   have hl:=rv.length
   rw [List.length_map] at hl
   exact ⟨.ref s.heap.objs.size,_,I.laid (t':=k) (o:=.lst _) (fun b ob q=>Heap.get?_push_of_some _ q) (Nat.le_refl _) ⟨by rw [List.length_map]; exact hn,us,0,rv,Heap.get?_push_size _ rfl⟩,rfl,q _ _ (.mk' (I.hok.fresh (Nat.le_refl _)))⟩
  cases h1:(decide (z.length<w.length) || decide (Builtin.Str.strKind z<Builtin.Str.strKind w))
  ·cases hf:(Builtin.Str.occurrences z w 0 z.length (z.length+1)).isEmpty
   ·have es:PySem.Txt.split z w=Builtin.Str.partsBetween z (Builtin.Str.occurrences z w 0 z.length (z.length+1)) w.length:=(if_neg (ne_true_of_eq_false h1)).trans (if_neg (ne_true_of_eq_false hf))
    rw [es] at hn
    exact call_meets PySem.F.slot_str_split (typeIs_str _ _ _) PySem.F.entry_str_split (PySem.F.args_str_split_2 _ _) (meets_str_split_sep z w t u h1 hw hf (Nat.le_of_lt hz) hn) (lay _ _ _ es.symm (vals_strsFrom _ _))
   ·exact call_meets PySem.F.slot_str_split (typeIs_str _ _ _) PySem.F.entry_str_split (PySem.F.args_str_split_2 _ _) (meets_str_split_not_found z w t u h1 hw hf) (lay [z] [.str z t] s.toks ((if_neg (ne_true_of_eq_false h1)).trans (if_pos hf)).symm (.cons ⟨t,rfl⟩ .nil))
  ·exact call_meets PySem.F.slot_str_split (typeIs_str _ _ _) PySem.F.entry_str_split (PySem.F.args_str_split_2 _ _) (meets_str_split_cannot_occur z w t u h1) (lay [z] [.str z t] s.toks (if_pos h1).symm (.cons ⟨t,rfl⟩ .nil))) ho he hbase hline hp
theorem rSplit_s {z q:Str} {H:Hp} {Q:VK}:rSplit z (.str q) H Q=((q.length == 0)=false∧z.length<sizeLine∧(PySem.Txt.split z q).length≤sizeLine∧∀ p H2,New H p (.lst ((PySem.Txt.split z q).map V.str)) H2→Q (.ref p) H2):=uS_s
def uFmt (te:TE):TE:=fun σ H Q=>te σ H fun x H1=>(∃ z,x = .str z∧z.length≤sizeLine∧Q (.str z) H1)∨∃ i,x = .int i∧i.natAbs.log2<1920∧Q (.str (toString i)) H1
def rFmt:V→Hp→VK→Prop:=fun x H1 Q=>(∃ z,x = .str z∧z.length≤sizeLine∧Q (.str z) H1)∨∃ i,x = .int i∧i.natAbs.log2<1920∧Q (.str (toString i)) H1
theorem uFmt_eq {te:TE} {σ:St} {H:Hp} {Q:VK}:uFmt te σ H Q=te σ H fun x H1=>rFmt x H1 Q:=rfl
theorem rFmt_s {z:Str} {H:Hp} {Q:VK}:rFmt (.str z) H Q=(z.length≤sizeLine∧Q (.str z) H):=by simp [rFmt]
theorem rFmt_i {i:Int} {H:Hp} {Q:VK}:rFmt (.int i) H Q=(i.natAbs.log2<1920∧Q (.str (toString i)) H):=by simp [rFmt]
theorem pe_fmt {e:Expr} {te:TE} {pos:Pos} (he:PE X e te):PE X (.FormattedValue e (-1) none pos) (uFmt te):=by
 intro pins s σ H Q I h
 refine FormattedValue_plain (thn (he pins s σ H _ I h) fun v s1 ⟨x,H1,I1,r1,q1⟩=>?_)
 rcases q1 with ⟨z,rfl,hz,q⟩|⟨i,rfl,hi,q⟩
 ·obtain ⟨t,rfl⟩:=r1
  exact formatField_str (fun t' tk=>⟨.str z,H1,I1.tok _,⟨_,rfl⟩,q⟩) hz
 ·obtain ⟨t,rfl⟩:=r1
  exact formatField_int_small hi ⟨.str _,H1,I1.tok _,⟨_,rfl⟩,q⟩
abbrev TJ:=Str→TE
def PJ (X:Cx) (es:List Expr) (tj:TJ):Prop:=∀ (out:Str) (pins:List (Addr×Obj)) (s:Shared) (σ:St) (H:Hp) (Q:VK),Inv X pins σ H s→tj out σ H Q →
 wpAny (model X.prog X.w) X.A (joinParts out (evalEach es X.env)) (fun u s1=>∃ x H',Inv X pins σ H' s1∧RelV x u∧Q x H') X.xe s
def jNil:TJ:=fun out _ H Q=>out.length≤sizeLine∧Q (.str out) H
def jCons (te:TE) (tj:TJ):TJ:=fun out σ H Q=>te σ H fun x H1=>uS x fun y=>(out++y).length≤sizeLine∧tj (out++y) σ H1 Q
theorem pj_nil:PJ X [] jNil:=fun out pins s σ H Q I h=>joinParts_nil ⟨.str out,H,I.tok _,⟨_,rfl⟩,h.2⟩ h.1
theorem pj_cons {e:Expr} {es:List Expr} {te:TE} {tj:TJ} (he:PE X e te) (hj:PJ X es tj):PJ X (e::es) (jCons te tj):=fun out pins s σ H Q I h=>by
 refine joinParts_cons (thn (he pins s σ H _ I h) fun v s1 ⟨x,H1,I1,r1,q1⟩=>?_)
 obtain ⟨y,rfl,hy,q⟩:=q1
 obtain ⟨t,rfl⟩:=r1
 exact ⟨hy,hj _ pins s1 σ H1 Q I1 q⟩
def tJoined (tj:TJ):TE:=tj Str.empty
theorem tJoined_eq {tj:TJ}:tJoined tj=tj Str.empty:=rfl
theorem pe_fstr {e e':Expr} {es:List Expr} {tj:TJ} {pos:Pos} (h:PJ X (e::e'::es) tj):PE X (.JoinedStr (e::e'::es) pos) (tJoined tj):=fun pins s σ H Q I q=>JoinedStr_many (h Str.empty pins s σ H Q I q)
def uIntT:List V→Hp→VK→Prop:=fun xs H Q=>uInt xs H Q∨∃ z n,xs=[.str z]∧z.length≤640∧PySem.intText? z=some n∧Q (.int n) H
theorem call_intT:CallR X (.type "int") uIntT:=by
 intro pins s σ H xs us Q I r h
 rcases h with h|⟨z,n,rfl,hl,hn,q⟩
 ·exact call_intU pins s σ H xs us Q I r h
 ·cases r with
  | cons r1 rr =>
   cases rr
   obtain ⟨t,rfl⟩:=r1
   exact PySem.W.KIN.call_text hn hl ⟨.int n,H,I.tok _,⟨_,rfl⟩,q⟩
theorem uIntT_i {i:Int} {H:Hp} {Q:VK}:uIntT [.int i] H Q=Q (.int i) H:=by simp [uIntT,uInt]
theorem uIntT_b {k:Bool} {H:Hp} {Q:VK}:uIntT [.bl k] H Q=Q (.int (if k then 1 else 0)) H:=by simp [uIntT,uInt]
theorem uIntT_s {z:Str} {H:Hp} {Q:VK}:uIntT [.str z] H Q = ∃ n,z.length≤640∧PySem.intText? z=some n∧Q (.int n) H:=by simp [uIntT,uInt]
def uStrT:List V→Hp→VK→Prop:=fun xs H Q=>uStr xs H Q∨∃ z,xs=[.str z]∧Q (.str z) H
theorem call_strT:CallR X (.type "str") uStrT:=by
 intro pins s σ H xs us Q I r h
 rcases h with h|⟨z,rfl,q⟩
 ·exact call_strU pins s σ H xs us Q I r h
 ·cases r with
  | cons r1 rr =>
   cases rr
   obtain ⟨t,rfl⟩:=r1
   exact PySem.P.str_of_str ⟨.str z,H,I,⟨_,rfl⟩,q⟩
theorem uStrT_i {i:Int} {H:Hp} {Q:VK}:uStrT [.int i] H Q=(i.natAbs.log2<1920∧Q (.str (toString i)) H):=by simp [uStrT,uStr]
theorem uStrT_s {z:Str} {H:Hp} {Q:VK}:uStrT [.str z] H Q=Q (.str z) H:=by simp [uStrT,uStr]
def uTupOf:List V→Hp→VK→Prop:=fun xs H Q=>uR1 xs fun p=>∃ ys,H p=some (.lst ys)∧∀ l H2,New H l (.tup ys) H2→Q (.ref l) H2
theorem call_tupU:CallR X (.type "tuple") uTupOf:=call_tuple_of.weak fun xs H Q h=>by
 obtain ⟨p,e,ys,h1,q⟩:=h
 exact ⟨p,ys,e,.inl ⟨SqL.of h1,fun l hl=>q l _ (.mk' hl)⟩⟩
theorem uTupOf_r {p:Addr} {H:Hp} {Q:VK}:uTupOf [.ref p] H Q = ∃ ys,H p=some (.lst ys)∧∀ l H2,New H l (.tup ys) H2→Q (.ref l) H2:=uR1_r
def uOrd:List V→Hp→VK→Prop:=fun xs H Q=>∃ x,xs=[.str x]∧x.length=1∧Q (.int (x.cps.getD 0 0:Nat)) H
theorem call_ordU:CallR X (.builtin "ord") uOrd:=call_ord
theorem uOrd_s {x:Str} {H:Hp} {Q:VK}:uOrd [.str x] H Q=(x.length=1∧Q (.int (x.cps.getD 0 0:Nat)) H):=by simp [uOrd]
end
end L2
set_option Elab.async false
set_option linter.all false
set_option maxRecDepth 100000
set_option maxHeartbeats 4000000
namespace L2
open PySem PySem.Spec PyProof.Rows
section
variable {X:Cx}
def uEqT:R2:=fun x y H Q=>uEq false x y H Q∨∃ a b xs ys,x = .ref a∧y = .ref b∧H a=some (.tup xs)∧H b=some (.tup ys)∧xs.all flatV=true∧ys.all flatV=true∧Q (.bl (eqL xs ys)) H
theorem uEqT_ii {i j:Int} {H:Hp} {Q:VK}:uEqT (.int i) (.int j) H Q=Q (.bl (decide (i=j))) H:=by simp [uEqT,uEq,scal]
theorem uEqT_ss {x y:Str} {H:Hp} {Q:VK}:uEqT (.str x) (.str y) H Q=Q (.bl (decide (x=y))) H:=by simp [uEqT,uEq,scal]
theorem uEqT_bb {x y:Bool} {H:Hp} {Q:VK}:uEqT (.bl x) (.bl y) H Q=Q (.bl (decide (x=y))) H:=by simp [uEqT,uEq,scal]
theorem uEqT_rr {a b:Addr} {H:Hp} {Q:VK}:uEqT (.ref a) (.ref b) H Q = ∃ xs ys,((H a=some (.lst xs)∧H b=some (.lst ys))∨(H a=some (.tup xs)∧H b=some (.tup ys)))∧xs.all flatV=true∧ys.all flatV=true∧Q (.bl (eqL xs ys)) H:=by
 apply propext; constructor
 ·rintro (h|⟨a',b',xs,ys,e1,e2,h1,h2,f1,f2,q⟩)
  ·rw [uEq_rr] at h
   obtain ⟨xs,ys,h1,h2,f1,f2,q⟩:=h
   exact ⟨xs,ys,.inl ⟨h1,h2⟩,f1,f2,q⟩
  ·cases e1; cases e2; exact ⟨xs,ys,.inr ⟨h1,h2⟩,f1,f2,q⟩
 ·rintro ⟨xs,ys,⟨h1,h2⟩|⟨h1,h2⟩,f1,f2,q⟩
  ·exact .inl (by rw [uEq_rr]; exact ⟨xs,ys,h1,h2,f1,f2,q⟩)
  ·exact .inr ⟨a,b,xs,ys,rfl,rfl,h1,h2,f1,f2,q⟩
end
end L2
set_option Elab.async false
set_option linter.all false
set_option maxRecDepth 100000
set_option maxHeartbeats 4000000
namespace L2
open PySem PySem.Spec PyProof.Rows
section
variable {X:Cx}
inductive EntsAre (w:World):List DictEntry→List (Str×Addr)→Prop
 | nil:EntsAre w [] []
 | cons {k:Str} {t:Tok} {r:Addr} {es:List DictEntry} {kvs:List (Str×Addr)}:EntsAre w es kvs→EntsAre w ({ hash:=PyData.keyHash w.params k,key:=.str k t,val:=.ref r }::es) ((k,r)::kvs)
structure DicK (w:World) (K:PySem.W.Frag) (a:Addr) (kvs:List (Str×Addr)):Prop where
 ex:∃ es n,K.lookup a=some { cls:=.type "dict",dict:=none,data:=.dict es n,slots:=#[] }∧EntsAre w es.toList kvs
 nd:(kvs.map (·.1)).Nodup
 ns:(a == sysModules)=false
def getK (kvs:List (Str×Addr)) (z:Str):V:=match kvs.find? (fun p=>p.1=z) with|some p=>.ref p.2|none=>.non
theorem ents_pairs {P:Program} {w:World}:∀ {es:List DictEntry} {kvs:List (Str×Addr)},EntsAre w es kvs→PySem.Pairs (mixKind P w) es (kvs.map fun p=>(Sum.inr p.1,Value.ref p.2))∧∀ e∈es,∃ k,(mixKind P w).is k e.key=true∧e.hash=(mixKind P w).hash k
 | _,_,.nil=>⟨.nil,fun e he=>by cases he⟩
 | _,_,.cons (k:=k) (t:=t) h=>by
  obtain ⟨h1,h2⟩:=ents_pairs (P:=P) h
  refine ⟨.cons (mixKind_str P w k t) rfl h1,fun e he=>?_⟩
  rcases List.mem_cons.mp he with rfl|he
  ·exact ⟨Sum.inr k,mixKind_str P w k t,rfl⟩
  ·exact h2 e he
theorem DicK.dictOf {w:World} {P:Program} {K:PySem.W.Frag} {a:Addr} {kvs:List (Str×Addr)} {h:Heap} (D:DicK w K a kvs) (hk:∀ o,K.lookup a=some o→h.get? a=some o):h.DictOf (mixKind P w) a (kvs.map fun p=>(Sum.inr p.1,Value.ref p.2)):=by
 obtain ⟨es,n,h1,h2⟩:=D.ex
 obtain ⟨p1,p2⟩:=ents_pairs (P:=P) h2
 refine ⟨_,es,n,hk _ h1,⟨rfl,rfl,rfl⟩,rfl,fun e he=>p2 e (by simpa using he),p1,?_⟩
 rw [List.map_map]
 have e:((fun p:Key×Value=>p.1)∘fun p:Str×Addr=>((Sum.inr p.1:Key),Value.ref p.2))=(fun z:Str=>(Sum.inr z:Key))∘(fun p:Str×Addr=>p.1):=rfl
 rw [e,← List.map_map]
 exact List.Pairwise.map _ (fun x y q z=>q (Sum.inr.inj z)) D.nd
def tGetK (kvs:List (Str×Addr)) (te:TE):TE:=fun σ H Q=>te σ H fun y H1=>uS y fun z=>Q (getK kvs z) H1
theorem tGetK_eq {kvs:List (Str×Addr)} {te:TE} {σ:St} {H:Hp} {Q:VK}:tGetK kvs te σ H Q=te σ H fun y H1=>uS y fun z=>Q (getK kvs z) H1:=rfl
theorem valueAt_getK {kvs:List (Str×Addr)} {z:Str}:RelV (getK kvs z) ((PySem.valueAt (kvs.map fun p=>((Sum.inr p.1:Key),Value.ref p.2)) (Sum.inr z)).getD .none):=by
 unfold getK PySem.valueAt
 rw [List.find?_map]
 have e:((fun kv:Key×Value=>decide (kv.1=Sum.inr z))∘fun p:Str×Addr=>((Sum.inr p.1:Key),Value.ref p.2))=fun p:Str×Addr=>decide (p.1=z):=by
  funext p
  simp
 rw [e]
 cases kvs.find? (fun p=>decide (p.1=z)) with
 | none=>rfl
 | some p=>rfl
theorem pe_getK {x:Str} {a:Addr} {kvs:List (Str×Addr)} {e:Expr} {te:TE} {np apos cpos:Pos} (hg:Gl X x) (hm:X.mg x=some (.ref a)) (D:DicK X.w X.K a kvs) (he:PE X e te)
  (hbase:attributeBase (.Name x np) "get" X.env (eval (.Name x np) X.env)=eval (.Name x np) X.env:=by rfl) (hline:(apos.endLine == cpos.line)=true:=by rfl) (hp:plainE e=true:=by rfl) (hd:(x == ("__debug__" : Str))=false:=by decide) :
  PE X (.Call (.Attribute (.Name x np) "get" apos) [e] [] cpos) (tGetK kvs te):=by
 intro pins s σ H Q I h
 have hs:starEach [e] X.env=[(false,eval e X.env)]:=star1 hp
 refine wpAny_Call_method_late hbase (by rw [hs]; rfl) hline rfl (thn (pe_gv (v:=.ref a) hg ⟨_,hm,rfl⟩ hd pins s σ H (fun v H1=>v = .ref a∧H1=H) I ⟨rfl,rfl⟩) fun v s1 ⟨x1,H1,I1,r1,ex,eH⟩=>?_)
 subst ex eH
 cases r1
 have dd:=D.dictOf (P:=X.prog) (h:=s1.heap) fun o ho=>I1.kIn a o ho
 refine ⟨"dict","dict.get",PySem.F.plainAttrs_dict,PySem.F.slot_dict_get,PySem.F.type_dict_get,dd.typeIs,fun b q=>?_,?_⟩
 ·cases q
  obtain ⟨ob,_,_,h1,h2,_⟩:=dd
  exact ⟨ob,h1,h2.2.1⟩
 rw [hs]
 refine Calls.callWith_builtin rfl (Calls.evalArgs_plain ?_)
 have hA:=pa_cons he pa_nil (hs:=hs) cpos pins s1 σ H1 (fun ys H2=>match ys with|[y]=>uS y fun z=>Q (getK kvs z) H2|_=>False) I1 h
 rw [hs] at hA
 refine thn hA fun us s2 ⟨vs,H2,I2,r2,q2⟩=>?_
 match vs,q2,r2 with
 | [y],q2,.cons ry .nil =>
  obtain ⟨z,ey,q⟩:=q2
  subst ey
  obtain ⟨t,rfl⟩:=ry
  have dd2:=D.dictOf (P:=X.prog) (h:=s2.heap) fun o ho=>I2.kIn a o ho
  refine call_meetsIn PySem.F.slot_dict_get dd2.typeIs PySem.F.entry_dict_get (PySem.F.args_dict_get_2 _ _) (meets_dict_get (mixKind X.prog X.w) a (mixKind_str X.prog X.w z t) D.ns) ⟨_,dd2.mapOf,?_⟩
  exact ⟨getK kvs z,H2,I2.tok _,valueAt_getK,q⟩
end
end L2
set_option Elab.async false
set_option linter.all false
set_option maxRecDepth 100000
set_option maxHeartbeats 4000000
namespace L2
open PySem PySem.Spec PyProof.Rows
def Itr3 (lo st:Int) (n:Nat):It:=⟨fun i _=>i<n,fun i H x H'=>H'=H∧x = .int (lo+i*st),fun i _=>n≤i⟩
section
variable {X:Cx} {tg:Expr}
def uI3 (vs:List V) (q:Int→Int→Int→Prop):Prop:=∃ i j k,vs=[.int i,.int j,.int k]∧q i j k
theorem uI3_i {i j k:Int} {q:Int→Int→Int→Prop}:uI3 [.int i,.int j,.int k] q=q i j k:=by
 apply propext; constructor
 ·rintro ⟨a,b,c,e,h⟩; cases e; exact h
 ·exact fun h=>⟨i,j,k,rfl,h⟩
def iRng3 (ta:TA):TI:=fun σ H R=>ta σ H fun vs H1=>uI3 vs fun i j k=>(0≤i∧i≤j∧j<2 ^ 20∧0<k∧k<2 ^ 20)∧R (Itr3 i k ((j - i+k - 1) / k).toNat) H1
theorem iRng3_eq {ta:TA} {σ:St} {H:Hp} {R:It→Hp→Prop}:iRng3 ta σ H R=ta σ H fun vs H1=>uI3 vs fun i j k=>(0≤i∧i≤j∧j<2 ^ 20∧0<k∧k<2 ^ 20)∧R (Itr3 i k ((j - i+k - 1) / k).toNat) H1:=rfl
end
section
variable {g:TG} {tb:TS} {D:Ends} {σ:St} {H:Hp}
end
end L2
set_option Elab.async false
set_option linter.all false
set_option maxRecDepth 100000
set_option maxHeartbeats 4000000
namespace L2
open PySem PySem.Spec PyProof.Rows
section
variable {prog:Program} {w:World} {A:Around} {E:Value→Shared→Prop} {s:Shared}
theorem tup_at {h h':Heap} {l:Addr} {xs:Array Value} (x:h.IsTuple l xs) (k:∀ o,h.get? l=some o→h'.get? l=some o):h'.IsTuple l xs:=by
 obtain ⟨o,e,r⟩:=x
 exact ⟨o,k o e,r⟩
theorem tupN_next {it t:Addr} {i:Nat} {items:Array Value} {x:Value} {Q:Value→Shared→Prop} (hit:s.heap.IsTupleIter it t i) (ht:s.heap.IsTuple t items) (hx:items[i]?=some x)
  (k:∀ h',h'.IsTupleIter it t (i+1)→Heap.SameBut it s.heap h'→Q x { s with heap:=h' }):wpAny (model prog w) A (Builtin.SmallTypes.nextOf (.ref it)) Q E s:=by
 obtain ⟨o,ho,hc,hd⟩:=id hit
 obtain ⟨ol,hol,_,nl,hdl⟩:=ht
 unfold Builtin.SmallTypes.nextOf
 refine wpAny_bind (wpAny_callSpecial?_slot (name:=Str.ofString "__next__") hit.typeIs F.slot_tuple_iterator_next (wpAny_call_entry F.slot_tuple_iterator_next hit.typeIs F.entry_tuple_iterator_next ?_ (F.args_tuple_iterator_next_1 _)))
 refine wpAny_bind (m:=field (.ref it) 0) (wpAny_field ho hd (x:=.ref t) rfl ?_)
 rw [if_neg (show ¬ ((Value.ref t == Value.none)=true) by simp)]
 refine wpAny_bind (m:=field (.ref it) 1) (wpAny_field ho hd (x:=.int i 0) rfl (wpAny_bind (m:=seqItems? (.ref t)) (wpAny_seqItems hol hdl ?_)))
 simp only [Int.toNat_natCast,hx]
 refine wpAny_bind (m:=setField _ _ _) (wpAny_setField ho hd (by simp) (wpAny_pure ⟨x,rfl,wpAny_pure (k _ ?_ (Heap.SameBut.update ..))⟩))
 refine ⟨_,Heap.get?_update_self _ ho (Obj.isFreed_of_fields (Obj.data_mapFields hd _)),(Obj.cls_mapFields ..).trans hc,?_⟩
 rw [Obj.data_mapFields hd]
 simp [rawInt]
theorem tupN_last {it t:Addr} {i:Nat} {items:Array Value} {Q:Value→Shared→Prop} (hh:Hnd A s.heap) (hit:s.heap.IsTupleIter it t i) (ht:s.heap.IsTuple t items) (hx:items[i]?=none)
  (k:∀ h' e,Heap.ExtBut it s.heap h'→(∃ o,h'.get? e=some o∧o.cls = .type "StopIteration")→E (.ref e) { s with heap:=h' }):wpAny (model prog w) A (Builtin.SmallTypes.nextOf (.ref it)) Q E s:=by
 obtain ⟨o,ho,hc,hd⟩:=id hit
 obtain ⟨ol,hol,_,nl,hdl⟩:=ht
 unfold Builtin.SmallTypes.nextOf
 refine wpAny_bind (wpAny_callSpecial?_slot (name:=Str.ofString "__next__") hit.typeIs F.slot_tuple_iterator_next (wpAny_call_entry F.slot_tuple_iterator_next hit.typeIs F.entry_tuple_iterator_next ?_ (F.args_tuple_iterator_next_1 _)))
 refine wpAny_bind (m:=field (.ref it) 0) (wpAny_field ho hd (x:=.ref t) rfl ?_)
 rw [if_neg (show ¬ ((Value.ref t == Value.none)=true) by simp)]
 refine wpAny_bind (m:=field (.ref it) 1) (wpAny_field ho hd (x:=.int i 0) rfl (wpAny_bind (m:=seqItems? (.ref t)) (wpAny_seqItems hol hdl ?_)))
 simp only [Int.toNat_natCast,hx]
 refine wpAny_bind (wpAny_rule (wpAny_bind (wpAny_setField ho hd (by simp) ?_)))
 refine stop_raised (hh.keeps fun b q hq e=>(Heap.get?_update_other _ _ fun z=>?_).trans e) fun h' e up st=>k h' e (fun b q hb z=>up b q ((Heap.get?_update_other _ _ (Ne.symm hb)).trans z)) st
 obtain ⟨C,hC⟩:=hq
 rw [← z,ho] at e
 cases e
 rw [hc] at hC
 cases hC
theorem zipT_next {z TI TO i1 i2 l1 l2:Addr} {k1 k2:Nat} {xs ys:Array Value} {x y a b:Value} {Q:Option Value→Shared→Prop} (D:ZipApart z TI TO i1 i2 l1 l2) (hz:IsZip s.heap z TI TO .none) (hTI:IsPair s.heap TI (.ref i1) (.ref i2)) (hTO:IsPair s.heap TO a b)
  (h1:s.heap.IsTupleIter i1 l1 k1) (h2:s.heap.IsListIter i2 l2 k2) (hl1:s.heap.IsTuple l1 xs) (hl2:s.heap.IsList l2 ys) (hx:xs[k1]?=some x) (hy:ys[k2]?=some y)
  (k:∀ h',IsZip h' z TI TO (rawInt s.heap.objs.size)→IsPair h' TO x y→h'.IsTupleIter i1 l1 (k1+1)→h'.IsListIter i2 l2 (k2+1)→IsPair h' s.heap.objs.size x y→h'.objs.size=s.heap.objs.size+1 →
   (∀ c o,c≠z→c≠TO→c≠i1→c≠i2→s.heap.get? c=some o→h'.get? c=some o)→Q (some (.ref s.heap.objs.size)) { s with heap:=h' }):wpAny (model prog w) A (pyNext (.ref z)) Q E s:=by
 have hT:s.TypeIs (.ref z) "zip":=⟨_,hz,rfl⟩
 have core:∀ (Q':Value→Shared→Prop) (E':Value→Shared→Prop),(∀ h',IsZip h' z TI TO (rawInt s.heap.objs.size)→IsPair h' TO x y→h'.IsTupleIter i1 l1 (k1+1)→h'.IsListIter i2 l2 (k2+1)→IsPair h' s.heap.objs.size x y→h'.objs.size=s.heap.objs.size+1 →
   (∀ c o,c≠z→c≠TO→c≠i1→c≠i2→s.heap.get? c=some o→h'.get? c=some o)→Q' (.ref s.heap.objs.size) { s with heap:=h' }) →
   wpAny (model prog w) A.in1 (Builtin.«zip.__next__» ⟨[.ref z],[]⟩) (fun fin s'=>∃ v,fin = .done (.ret v)∧Q' v s') E' s:=by
  intro Q' E' kk
  refine wpAny_bind (m:=field (.ref z) 2) (wpAny_field hz rfl (x:=.bool false) rfl (wpAny_bind (m:=field (.ref z) 3) (wpAny_field hz rfl (x:=.ref TI) rfl (wpAny_bind (wpAny_seqItems hTI rfl (wpAny_bind (m:=Builtin.SmallTypes.ownedTupleIsFree (.ref z)) ?_))))))
  unfold Builtin.SmallTypes.ownedTupleIsFree
  refine wpAny_bind (wpAny_field hz rfl (x:=.none) rfl (wpAny_pure ?_))
  simp only [if_true]
  refine wpAny_bind (wpAny_rule (wpAny_bind (wpAny_field hz rfl (x:=.ref TO) rfl (wpAny_bind (wpAny_setField_rec hz (by simp) fun g1 z1 s1=>?_)))))
  replace z1:IsZip g1 z TI TO .ellipsis:=z1
  refine wpAny_bind ?_
  simp only [List.zipIdx_cons,List.zipIdx_nil,List.forIn_cons,List.forIn_nil]
  refine wpAny_bind (wpAny_bind (wpAny_onRaise (wpAny_bind (m:=Builtin.SmallTypes.nextOf (.ref i1)) ?_)))
  refine tupN_next (s:={ s with heap:=g1 }) (h1.at fun o e=>s1.extBut _ o D.i1z e) (tup_at hl1 fun o e=>s1.extBut _ o D.l1z e) hx fun g2 a2 s2=>wpAny_pure ?_
  have t2:IsPair g2 TO a b:=s2.extBut _ _ D.TOi1 (s1.extBut _ _ D.TOz hTO)
  refine wpAny_bind (wpAny_seqItems t2 rfl (wpAny_bind (wpAny_updateSeq_pair t2 fun g3 t3 s3=>?_)))
  replace t3:IsPair g3 TO x b:=t3
  refine wpAny_bind (wpAny_letGo (wpAny_pure (wpAny_bind (wpAny_bind (wpAny_onRaise (wpAny_bind (m:=Builtin.SmallTypes.nextOf (.ref i2)) ?_))))))
  refine wpAny_nextOf_list_item (((h2.extBut s1.extBut D.i2z).extBut s2.extBut D.i12.symm).extBut s3.extBut D.TOi2.symm) (((hl2.extBut s1.extBut D.l2z).extBut s2.extBut D.l2i1).extBut s3.extBut D.l2TO) hy fun g4 b4 s4=>wpAny_pure ?_
  have t4:IsPair g4 TO x b:=s4.extBut _ _ D.TOi2 t3
  refine wpAny_bind (wpAny_seqItems t4 rfl (wpAny_bind (wpAny_updateSeq_pair t4 fun g5 t5 s5=>?_)))
  replace t5:IsPair g5 TO x y:=t5
  refine wpAny_bind (wpAny_letGo (wpAny_pure (wpAny_pure (wpAny_bind (wpAny_seqItems t5 rfl (wpAny_bind (wpAny_newTuple ?_)))))))
  have sz:g5.objs.size=s.heap.objs.size:=by rw [s5.1,s4.1,s3.1,s2.1,s1.1]
  have z5:IsZip g5 z TI TO .ellipsis:=s5.extBut _ _ D.TOz.symm (s4.extBut _ _ D.i2z.symm (s3.extBut _ _ D.TOz.symm (s2.extBut _ _ D.i1z.symm z1)))
  have old:∀ c o,c≠z→c≠TO→c≠i1→c≠i2→s.heap.get? c=some o→g5.get? c=some o:=fun c o c1 c2 c3 c4 e=>s5.extBut _ _ c2 (s4.extBut _ _ c4 (s3.extBut _ _ c2 (s2.extBut _ _ c3 (s1.extBut _ _ c1 e))))
  have a5:g5.IsTupleIter i1 l1 (k1+1):=a2.at fun o e=>s5.extBut _ _ D.TOi1.symm (s4.extBut _ _ D.i12 (s3.extBut _ _ D.TOi1.symm e))
  have b5:g5.IsListIter i2 l2 (k2+1):=b4.extBut s5.extBut D.TOi2.symm
  have zlt:z<g5.objs.size:=Heap.lt_size z5
  refine wpAny_bind (m:=Builtin.SmallTypes.ownedTupleHandOut (.ref z) (.ref g5.objs.size)) ?_
  unfold Builtin.SmallTypes.ownedTupleHandOut
  have z6:IsZip (g5.push { cls:=.type "tuple",data:=.seq #[x,y] }) z TI TO .ellipsis:=Heap.get?_push_of_some _ z5
  refine wpAny_bind (wpAny_setField_rec z6 (by simp) fun g7 z7 s7=>?_)
  replace z7:IsZip g7 z TI TO (rawInt g5.objs.size):=z7
  refine wpAny_setField_rec z7 (by simp) fun g8 z8 s8=>?_
  replace z8:IsZip g8 z TI TO (rawInt g5.objs.size):=z8
  have up:∀ c o,c≠z→g5.get? c=some o→g8.get? c=some o:=fun c o c1 e=>s8.extBut _ _ c1 (s7.extBut _ _ c1 (Heap.get?_push_of_some _ e))
  have t8:IsPair g8 g5.objs.size x y:=s8.extBut _ _ (Nat.ne_of_gt zlt) (s7.extBut _ _ (Nat.ne_of_gt zlt) (Heap.get?_push_size _ rfl))
  have sz8:g8.objs.size=g5.objs.size+1:=by rw [s8.1,s7.1,Heap.size_push]
  rw [sz] at z8 t8 sz8
  refine wpAny_pure ⟨_,rfl,?_⟩
  show Q' (.ref g5.objs.size) _
  rw [sz]
  exact kk g8 z8 (up _ _ D.TOz t5) (a5.at fun o e=>up _ o D.i1z e) (b5.at fun o e=>up _ o D.i2z e) t8 sz8 fun c o c1 c2 c3 c4 e=>up c o c1 (old c o c1 c2 c3 c4 e)
 unfold pyNext
 exact wpAny_bind (wpAny_attempt (wpAny_callSpecial?_slot (name:=Str.ofString "__next__") hT F.slot_zip_next (wpAny_call_entry F.slot_zip_next hT F.entry_zip_next (core _ _ fun h' q1 q2 q3 q4 q5 q6 q7=>wpAny_pure (k h' q1 q2 q3 q4 q5 q6 q7)) (F.args_zip_next_1 _))))
theorem zipT_last {z TI TO i1 i2 l1 l2:Addr} {k1:Nat} {xs:Array Value} {a b:Value} {Q:Option Value→Shared→Prop} (hh:Hnd A s.heap) (D:ZipApart z TI TO i1 i2 l1 l2) (hz:IsZip s.heap z TI TO .none) (hTI:IsPair s.heap TI (.ref i1) (.ref i2)) (hTO:IsPair s.heap TO a b)
  (h1:s.heap.IsTupleIter i1 l1 k1) (hl1:s.heap.IsTuple l1 xs) (hx:xs[k1]?=none)
  (k:∀ h',(∀ c o,c≠z→c≠i1→s.heap.get? c=some o→h'.get? c=some o)→Q none { s with heap:=h' }):wpAny (model prog w) A (pyNext (.ref z)) Q E s:=by
 have hT:s.TypeIs (.ref z) "zip":=⟨_,hz,rfl⟩
 have core:∀ (Q':Fin→Shared→Prop) (E':Value→Shared→Prop),(∀ h' e,(∀ c o,c≠z→c≠i1→s.heap.get? c=some o→h'.get? c=some o)→(∃ o,h'.get? e=some o∧o.cls = .type "StopIteration")→E' (.ref e) { s with heap:=h' }) →
   wpAny (model prog w) A.in1 (Builtin.«zip.__next__» ⟨[.ref z],[]⟩) Q' E' s:=by
  intro Q' E' kE
  refine wpAny_bind (m:=field (.ref z) 2) (wpAny_field hz rfl (x:=.bool false) rfl (wpAny_bind (m:=field (.ref z) 3) (wpAny_field hz rfl (x:=.ref TI) rfl (wpAny_bind (wpAny_seqItems hTI rfl (wpAny_bind (m:=Builtin.SmallTypes.ownedTupleIsFree (.ref z)) ?_))))))
  unfold Builtin.SmallTypes.ownedTupleIsFree
  refine wpAny_bind (wpAny_field hz rfl (x:=.none) rfl (wpAny_pure ?_))
  simp only [if_true]
  refine wpAny_bind (wpAny_rule (wpAny_bind (wpAny_field hz rfl (x:=.ref TO) rfl (wpAny_bind (wpAny_setField_rec hz (by simp) fun g1 z1 s1=>?_)))))
  refine wpAny_bind ?_
  simp only [List.zipIdx_cons,List.zipIdx_nil,List.forIn_cons,List.forIn_nil]
  refine wpAny_bind (wpAny_bind (wpAny_onRaise (wpAny_bind (m:=Builtin.SmallTypes.nextOf (.ref i1)) ?_)))
  have hh1:Hnd A.in1 g1:=Hnd.keeps (h:=s.heap) hh fun c o ⟨C,hC⟩ e=>s1.extBut c o (fun q=>by rw [q,hz] at e; cases e; cases hC) e
  refine tupN_last (s:={ s with heap:=g1 }) hh1 (h1.at fun o e=>s1.extBut _ o D.i1z e) (tup_at hl1 fun o e=>s1.extBut _ o D.l1z e) hx fun g2 e s2 st=>?_
  obtain ⟨oe,ge,ce⟩:=st
  have z2:IsZip g2 z TI TO .ellipsis:=s2 _ _ D.i1z.symm z1
  have ez:e≠z:=fun q=>by rw [q,z2] at ge; cases ge; simp at ce
  exact wpAny_setField_rec z2 (by simp) fun g3 _ s3=>kE g3 e (fun c o c1 c2 q=>s3.extBut _ _ c1 (s2 _ _ c2 (s1.extBut _ _ c1 q))) ⟨oe,s3.extBut _ _ ez ge,ce⟩
 unfold pyNext
 refine wpAny_bind (wpAny_attempt (wpAny_callSpecial?_slot (name:=Str.ofString "__next__") hT F.slot_zip_next (wpAny_call_entry F.slot_zip_next hT F.entry_zip_next (core _ _ fun h' e up st=>?_) (F.args_zip_next_1 _))))
 obtain ⟨o,g,c⟩:=st
 exact wpAny_bind (wpAny_isInstance (T:="StopIteration") (b:=true) ⟨o,g,c⟩ isSubtype_stop (wpAny_pure (k h' up)))
end
abbrev zT1 (h:Heap) (l1:Addr):Heap:=h.push { cls:=.type "tuple_iterator",data:=.fields #[.ref l1,.int 0 0] }
abbrev zT2 (h:Heap) (l1 l2:Addr):Heap:=(zT1 h l1).push { cls:=.type "list_iterator",data:=.fields #[.ref l2,.int 0 0] }
abbrev zT3 (h:Heap) (l1 l2:Addr):Heap:=(zT2 h l1 l2).push { cls:=.type "tuple",data:=.seq #[.ref h.objs.size,.ref (zT1 h l1).objs.size] }
abbrev zT4 (h:Heap) (l1 l2:Addr):Heap:=(zT3 h l1 l2).push { cls:=.type "tuple",data:=.seq #[.none,.none] }
abbrev zT5 (h:Heap) (l1 l2:Addr):Heap:=(zT4 h l1 l2).push { cls:=.type "zip",data:=.fields #[.none,.bool false,.bool false,.ref (zT2 h l1 l2).objs.size,.ref (zT3 h l1 l2).objs.size] }
theorem zipT_new (l1 l2:Addr) (xs ys:Array Value):Meets (Builtin.«zip.__new__» ⟨[.type "zip",.ref l1,.ref l2],[]⟩) (fun _ R s=>s.heap.IsTuple l1 xs∧s.heap.IsList l2 ys∧R (.ok (.ret (.ref (zT4 s.heap l1 l2).objs.size))) { s with heap:=zT5 s.heap l1 l2 }) :=
 .of_wp fun prog w A R s h=>by
  obtain ⟨hp,g,d,tk,os⟩:=s; obtain ⟨hl1,hl2,h⟩:=h
  have hsub:=sub_zip
  have hL1:Heap.IsTuple (Shared.heap ⟨hp,g,d,tk,os⟩) l1 xs:=hl1
  have hL2:Heap.IsList (Shared.heap ⟨hp.push { cls:=.type "tuple_iterator",data:=.fields #[.ref l1,.int 0 0] },g,d,tk,os⟩) l2 ys:=Heap.IsList.push hl2 _
  wp_walk using wpAny_pyIter_tuple hL1,wpAny_pyIter_list hL2
  exact ⟨_,rfl,h⟩
section
variable {prog:Program} {w:World} {A:Around} {E:Value→Shared→Prop} {s:Shared}
theorem callZipT {l1 l2:Addr} {xs ys:Array Value} {Q:Value→Shared→Prop} (hl1:s.heap.IsTuple l1 xs) (hl2:s.heap.IsList l2 ys)
  (h:∀ h',IsZip h' (s.heap.objs.size+4) (s.heap.objs.size+2) (s.heap.objs.size+3) .none→IsPair h' (s.heap.objs.size+2) (.ref s.heap.objs.size) (.ref (s.heap.objs.size+1)) →
   IsPair h' (s.heap.objs.size+3) .none .none→h'.IsTupleIter s.heap.objs.size l1 0→h'.IsListIter (s.heap.objs.size+1) l2 0→h'.objs.size=s.heap.objs.size+5 →
   (∀ c o,s.heap.get? c=some o→h'.get? c=some o)→Q (.ref (s.heap.objs.size+4)) { s with heap:=h' }):wpAny (model prog w) A (call (.type "zip") [.ref l1,.ref l2]) Q E s:=by
 refine callType_new F.called_zip (by decide) (F.typeCall_zip_2 _ _) (F.newCall_zip_2 _ _) (fun obj=>F.args_object_init_3 obj _ _) F.entry_zip_new (zipT_new l1 l2 xs ys) ⟨hl1,hl2,?_⟩
 have z1:(zT1 s.heap l1).objs.size=s.heap.objs.size+1:=Heap.size_push ..
 have z2:(zT2 s.heap l1 l2).objs.size=s.heap.objs.size+2:=by rw [Heap.size_push,z1]
 have z3:(zT3 s.heap l1 l2).objs.size=s.heap.objs.size+3:=by rw [Heap.size_push,z2]
 have z4:(zT4 s.heap l1 l2).objs.size=s.heap.objs.size+4:=by rw [Heap.size_push,z3]
 have z5:(zT5 s.heap l1 l2).objs.size=s.heap.objs.size+5:=by rw [Heap.size_push,z4]
 have g5:(zT5 s.heap l1 l2).get? (zT4 s.heap l1 l2).objs.size=some _:=Heap.get?_push_size _ rfl
 have g4:(zT5 s.heap l1 l2).get? (zT3 s.heap l1 l2).objs.size=some _:=Heap.get?_push_of_some _ (Heap.get?_push_size _ rfl)
 have g3:(zT5 s.heap l1 l2).get? (zT2 s.heap l1 l2).objs.size=some _:=Heap.get?_push_of_some _ (Heap.get?_push_of_some _ (Heap.get?_push_size _ rfl))
 have g2:(zT5 s.heap l1 l2).get? (zT1 s.heap l1).objs.size=some _:=Heap.get?_push_of_some _ (Heap.get?_push_of_some _ (Heap.get?_push_of_some _ (Heap.get?_push_size _ rfl)))
 have g1:(zT5 s.heap l1 l2).get? s.heap.objs.size=some _:=Heap.get?_push_of_some _ (Heap.get?_push_of_some _ (Heap.get?_push_of_some _ (Heap.get?_push_of_some _ (Heap.get?_push_size _ rfl))))
 show _∧_
 rw [z2,z3,z4] at g5
 rw [z1,z2] at g3
 rw [z3] at g4
 rw [z1] at g2
 rw [z4]
 refine ⟨⟨_,g5,rfl⟩,h _ g5 g3 g4 ⟨_,g1,rfl,rfl⟩ ⟨_,g2,rfl,rfl⟩ z5 fun c o x=>?_⟩
 exact Heap.get?_push_of_some _ (Heap.get?_push_of_some _ (Heap.get?_push_of_some _ (Heap.get?_push_of_some _ (Heap.get?_push_of_some _ x))))
end
def ItzT (K:PySem.W.Frag) (a b:Addr):It :=
 ⟨fun i H=>∃ xs ys x y,SqT K H a xs∧SqL K H b ys∧xs[i]?=some x∧ys[i]?=some y,fun i H v H'=>∃ T x y,H T=none∧v = .ref T∧H'=upd H T (.tup [x,y])∧(∀ xs,SqT K H a xs→xs[i]?=some x)∧∀ ys,SqL K H b ys→ys[i]?=some y,
  fun i H=>∃ xs ys,SqT K H a xs∧SqL K H b ys∧xs.length≤i⟩
structure ZipTSt (z TI TO i1 i2 l1 l2:Addr) (i:Nat) (h:Heap):Prop where
 z:IsZip h z TI TO .none
 ti:IsPair h TI (.ref i1) (.ref i2)
 to:∃ a b,IsPair h TO a b
 a:h.IsTupleIter i1 l1 i
 b:h.IsListIter i2 l2 i
theorem ZipTSt.keep {z TI TO i1 i2 l1 l2:Addr} {i:Nat} {h h':Heap} (x:ZipTSt z TI TO i1 i2 l1 l2 i h) (k:∀ b∈[z,TI,TO,i1,i2],∀ o,h.get? b=some o→h'.get? b=some o):ZipTSt z TI TO i1 i2 l1 l2 i h':=by
 obtain ⟨a1,a2,⟨u,v,a3⟩,a4,a5⟩:=x
 exact ⟨k _ (by simp) _ a1,k _ (by simp) _ a2,⟨u,v,k _ (by simp) _ a3⟩,a4.at fun o e=>k _ (by simp) o e,a5.at fun o e=>k _ (by simp) o e⟩
theorem turn_zipT {P:Program} {w:World} {K:PySem.W.Frag} {elts:List Expr} {kk:Nat} {tp:Pos} {l1 l2 z TI TO i1 i2:Addr} (D:ZipApart z TI TO i1 i2 l1 l2) :
  Turn false P w K (.Tuple elts kk tp) (ItzT K l1 l2) [z,TI,TO,i1,i2] z (ZipTSt z TI TO i1 i2 l1 l2) where
 mem:=by simp
 obj:=fun i h st b hb=>by
  obtain ⟨a1,a2,⟨u,v,a3⟩,⟨o4,a4,_,d4⟩,⟨o5,a5,_,d5⟩⟩:=st
  simp only [List.mem_cons,List.not_mem_nil,or_false] at hb
  rcases hb with rfl|rfl|rfl|rfl|rfl
  ·exact ⟨_,a1,fun v q=>nomatch q⟩
  ·exact ⟨_,a2,fun v q=>nomatch q⟩
  ·exact ⟨_,a3,fun v q=>nomatch q⟩
  ·exact ⟨_,a4,fun v q=>by rw [d4] at q; cases q⟩
  ·exact ⟨_,a5,fun v q=>by rw [d5] at q; cases q⟩
 keep:=fun i h h' st k=>st.keep k
 item:=by
  intro X hP hw hK hc i pins s σ H E I hf st hg
  subst hP hw hK
  obtain ⟨xs,ys,x,y,hq1,hq2,hx,hy⟩:=hg
  obtain ⟨is1,rv1,p1,hz1⟩:=I.tuple hq1
  obtain ⟨is2,rv2,p2,hz2⟩:=I.list hq2
  obtain ⟨u1,hu1,ru1⟩:=rv1.get hx
  obtain ⟨u2,hu2,ru2⟩:=rv2.get hy
  obtain ⟨a1,a2,⟨u,v,a3⟩,a4,a5⟩:=st
  refine zipT_next D a1 a2 a3 a4 a5 p1 p2.isList (x:=u1) (y:=u2) (by simpa using hu1) (by simpa using hu2) fun h' b1 b2 b3 b4 b5 b6 b7=>?_
  refine ⟨_,rfl,wpAny_letOwnedTupleGo_zip (s:={ s with heap:=h' }) b1 fun h2 c1 c2=>?_⟩
  have zlt:z<s.heap.objs.size:=Heap.lt_size a1
  have nz:s.heap.objs.size≠z:=Nat.ne_of_gt zlt
  have all:∀ c o,c≠z→c≠TO→c≠i1→c≠i2→s.heap.get? c=some o→h2.get? c=some o:=fun c o n1 n2 n3 n4 e=>c2.extBut c o n1 (b7 c o n1 n2 n3 n4 e)
  have tT:h2.get? s.heap.objs.size=some { cls:=.type "tuple",data:=.seq #[u1,u2] }:=c2.extBut _ _ nz b5
  have hfr:H s.heap.objs.size=none:=I.hok.fresh (Nat.le_refl _)
  have hok0:HOk X.prog X.w H h2:=fun b u e=>by
   refine (I.hok b u e).stay (fun c v hc q=>?_) (fun _ q=>q) fun _ _ q=>q
   have hne:∀ d∈[z,TI,TO,i1,i2],c≠d:=fun d hd w=>by
    have fd:=(hf d hd).1
    rcases hc with k|k
    ·rw [k] at w; rw [w,fd] at e; cases e
    ·rw [w,fd] at k; cases k
   exact all c v (hne z (by simp)) (hne TO (by simp)) (hne i1 (by simp)) (hne i2 (by simp)) q
  have lt0:∀ b o,s.heap.get? b=some o→b≠s.heap.objs.size:=fun b o e=>Nat.ne_of_lt (Heap.lt_size e)
  have I2:Inv X pins σ (upd H s.heap.objs.size (.tup [x,y])) { s with heap:=h2 }:=by
   refine I.step (g':=s.gens) (d':=s.drawn) (t':=s.toks) (ch:=[z,TO,i1,i2]) (fun b hb=>?_) (fun b o _ _ hb e _=>?_) (fun b o _ _ hb e _=>?_) (fun b o _ e n=>?_) (fun b o hb e=>?_) (fun b ps e=>?_) (fun b o u e=>?_) (fun b ps e=>?_) (fun m hm=>?_) (hok0.add hfr ?_) I.bare
   ·have hb':b∈[z,TI,TO,i1,i2]:=by simp only [List.mem_cons,List.not_mem_nil,or_false] at hb ⊢; rcases hb with h|h|h|h <;> simp [h]
    obtain ⟨f0,f1,f2,f3,f4,f5⟩:=hf b hb'
    exact ⟨f3,f1,f4,f5⟩
   ·simp only [List.mem_cons,List.not_mem_nil,or_false,not_or] at hb
    exact all b o hb.1 hb.2.1 hb.2.2.1 hb.2.2.2 e
   ·simp only [List.mem_cons,List.not_mem_nil,or_false,not_or] at hb
    exact ⟨o.slots,all b o hb.1 hb.2.1 hb.2.2.1 hb.2.2.2 e⟩
   ·rw [upd_ne (lt0 b o e)]; exact n
   ·simp only [List.mem_cons,List.not_mem_nil,or_false,not_or] at hb
    exact ⟨o,all b o hb.1 hb.2.1 hb.2.2.1 hb.2.2.2 e⟩
   ·rw [upd_ne (ne_of_none e hfr)]; exact e
   ·rw [upd_ne (ne_of_none e hfr)]; exact e
   ·exact ⟨#[],by rw [upd_ne (ne_of_none e hfr),e]; simp⟩
   ·obtain ⟨o,es,ep,ho,r⟩:=hm
    exact ⟨o,es,ep,all _ o (Ne.symm (hf z (by simp)).2.1) (Ne.symm (hf TO (by simp)).2.1) (Ne.symm (hf i1 (by simp)).2.1) (Ne.symm (hf i2 (by simp)).2.1) ho,r⟩
   ·exact ⟨by show 2≤sizeLine; decide,[u1,u2],.cons ru1 (.cons ru2 .nil),⟨_,tT,rfl,_,rfl⟩⟩
  refine ⟨.ref s.heap.objs.size,_,I2,rfl,⟨_,x,y,hfr,rfl,rfl,fun zs hz=>by rw [I.tuple_inj hz hq1]; exact hx,fun zs hz=>by rw [I.list_inj hz hq2]; exact hy⟩,?_,fun b hb=>?_⟩
  ·exact ⟨c1,c2.extBut _ _ D.TIz (b7 _ _ D.TIz D.TITO D.TIi1 D.TIi2 a2),⟨u1,u2,c2.extBut _ _ D.TOz b2⟩,b3.at fun o e=>c2.extBut _ o D.i1z e,b4.extBut c2.extBut D.i2z⟩
  ·have ne:b≠s.heap.objs.size:=fun q=>by
    have:b<s.heap.objs.size:=by
     simp only [List.mem_cons,List.not_mem_nil,or_false] at hb
     obtain ⟨o4,a4,_⟩:=a4
     obtain ⟨o5,a5,_⟩:=a5
     rcases hb with rfl|rfl|rfl|rfl|rfl
     ·exact zlt
     ·exact Heap.lt_size a2
     ·exact Heap.lt_size a3
     ·exact Heap.lt_size a4
     ·exact Heap.lt_size a5
    exact absurd (q ▸ this) (Nat.lt_irrefl _)
   rw [upd_ne ne]
   exact (hf b hb).1
 done:=by
  intro X hP hw hK hc i pins s σ H E I hf st hg
  subst hP hw hK
  obtain ⟨xs,ys,hq1,hq2,hx⟩:=hg
  obtain ⟨is1,rv1,p1,hz1⟩:=I.tuple hq1
  have hl:=rv1.length
  obtain ⟨a1,a2,⟨u,v,a3⟩,a4,a5⟩:=st
  refine zipT_last I.hnd D a1 a2 a3 a4 p1 (by simp; omega) fun h' up=>⟨rfl,?_⟩
  refine I.step (g':=s.gens) (d':=s.drawn) (t':=s.toks) (ch:=[z,i1]) (fun b hb=>?_) (fun b o _ _ hb e _=>?_) (fun b o _ _ hb e _=>?_) (fun _ _ _ _ n=>n) (fun b o hb e=>?_) (fun _ _ e=>e) (fun _ _ _ e=>e) (fun b ps e=>⟨#[],by rw [e]; simp⟩) (fun m hm=>?_) (fun b u e=>?_) I.bare
  ·have hb':b∈[z,TI,TO,i1,i2]:=by simp only [List.mem_cons,List.not_mem_nil,or_false] at hb ⊢; rcases hb with h|h <;> simp [h]
   obtain ⟨f0,f1,f2,f3,f4,f5⟩:=hf b hb'
   exact ⟨f3,f1,f4,f5⟩
  ·simp only [List.mem_cons,List.not_mem_nil,or_false,not_or] at hb
   exact up b o hb.1 hb.2 e
  ·simp only [List.mem_cons,List.not_mem_nil,or_false,not_or] at hb
   exact ⟨o.slots,up b o hb.1 hb.2 e⟩
  ·simp only [List.mem_cons,List.not_mem_nil,or_false,not_or] at hb
   exact ⟨o,up b o hb.1 hb.2 e⟩
  ·obtain ⟨o,es,ep,ho,r⟩:=hm
   exact ⟨o,es,ep,up _ o (Ne.symm (hf z (by simp)).2.1) (Ne.symm (hf i1 (by simp)).2.1) ho,r⟩
  ·refine (I.hok b u e).stay (fun c v hc q=>?_) (fun _ q=>q) fun _ _ q=>q
   have hne:∀ d∈[z,TI,TO,i1,i2],c≠d:=fun d hd w=>by
    have fd:=(hf d hd).1
    rcases hc with k|k
    ·rw [k] at w; rw [w,fd] at e; cases e
    ·rw [w,fd] at k; cases k
   exact up c v (hne z (by simp)) (hne i1 (by simp)) q
 self:=fun _ _ _ _ _ st h=>wpAny_pyIter_zip st.z h
section
variable {X:Cx}
def iZipT (K:PySem.W.Frag) (ta:TA):TI:=fun σ H R=>ta σ H fun vs H1=>∃ a b,vs=[.ref a,.ref b]∧(∃ xs,SqT K H1 a xs)∧(∃ ys,SqL K H1 b ys)∧R (ItzT K a b) H1
theorem pi_zipT {elts:List Expr} {kk:Nat} {tp p pos:Pos} {a b:Expr} {ta:TA} (hg:Gl X "zip") (hm:X.mg "zip" = none) (ha:PA X [a,b] ta) (hs:starEach [a,b] X.env=[(false,eval a X.env),(false,eval b X.env)]:=by rfl) (hs2:starEach [b] X.env=[(false,eval b X.env)]:=by rfl) :
  PIc false X (.Tuple elts kk tp) (.Call (.Name "zip" p) [a,b] [] pos) (iZipT X.K ta):=by
 intro pins s σ H R I h
 refine Call_ (ld_blt I hg hm boot_zip (PyProof.Rows.callWith_type1 (thn (ha pos pins s σ H _ I h) fun us s1 ⟨vs,H1,I1,r1,q1⟩=>?_) (by rw [hs,hs2]) (by rw [hs2]; rfl)))
 obtain ⟨l1,l2,e,⟨xs,h1⟩,⟨ys,h2⟩,q⟩:=q1
 subst e
 cases r1 with
 | cons r rr =>
  cases rr with
  | cons r' rr =>
   cases rr
   cases (show _=Value.ref l1 from r)
   cases (show _=Value.ref l2 from r')
   obtain ⟨is1,rv1,p1,_⟩:=I1.tuple h1
   obtain ⟨is2,rv2,p2,_⟩:=I1.list h2
   have lt1:l1<s1.heap.objs.size:=by obtain ⟨o,e,_⟩:=p1; exact Heap.lt_size e
   have lt2:l2<s1.heap.objs.size:=by obtain ⟨o,e,_⟩:=p2.isList; exact Heap.lt_size e
   refine callZipT p1 p2.isList fun h' a1 a2 a3 a4 a5 a6 a7=>wpAny_pyIter_zip (s:={ s1 with heap:=h' }) a1 ?_
   refine ⟨_,_,_,_,H1,rfl,I1.kept (t':=s1.toks) a7,turn_zipT (zipApart_new lt1 lt2),⟨a1,a2,⟨_,_,a3⟩,a4,a5⟩,fun b hb=>?_,q⟩
   have le:s1.heap.objs.size≤b:=by
    simp only [List.mem_cons,List.not_mem_nil,or_false] at hb
    rcases hb with rfl|rfl|rfl|rfl|rfl <;> omega
   exact I1.fpOk le (I1.hok.fresh le)
end
section
variable {K:PySem.W.Frag} {g:TG} {tb:TS} {D:Ends} {σ:St} {H:Hp} {ta:TA} {R:It→Hp→Prop}
theorem iZipT_eq:iZipT K ta σ H R=ta σ H fun vs H1=>uR2 vs fun a b=>(∃ xs,SqT K H1 a xs)∧(∃ ys,SqL K H1 b ys)∧R (ItzT K a b) H1:=by
 apply propext
 constructor
 ·intro h
  exact h
 ·intro h
  exact h
theorem ForJ.zipT {a b:Addr} {xs ys:List V} (hlen:xs.length=ys.length) (Pv:Nat→St→Hp→Prop) (h0:Pv 0 σ H) (hl:∀ i σ H,i≤xs.length→Pv i σ H→SqT K H a xs∧SqL K H b ys)
  (hs:∀ i x y p σ H,xs[i]?=some x→ys[i]?=some y→Pv i σ H→H p=none→g (.ref p) σ (upd H p (.tup [x,y])) fun σ2 H2=>tb { D with nx:=Pv (i+1),ct:=Pv (i+1),bk:=D.nx } σ2 H2) (hd:∀ σ H,Pv xs.length σ H→D.nx σ H):ForJ (ItzT K a b) g tb D σ H:=by
 refine ⟨fun i m σ H=>m=xs.length - i∧i≤xs.length∧Pv i σ H,⟨xs.length,by simp,Nat.zero_le _,h0⟩,?_⟩
 rintro i m σ H ⟨rfl,hi,p⟩
 obtain ⟨q1,q2⟩:=hl i σ H hi p
 by_cases hlt:i<xs.length
 ·refine .inr ⟨⟨xs,ys,xs[i],ys[i]'(by omega),q1,q2,by simp [hlt],by simp [hlen ▸ hlt]⟩,Pv (i+1),fun σ' H' p'=>⟨xs.length - (i+1),by omega,rfl,hlt,p'⟩,fun v H' y=>?_⟩
  obtain ⟨T,x,y,hT,rfl,rfl,hx,hy⟩:=y
  exact hs i x y T σ _ (hx xs q1) (hy ys q2) p hT
 ·have e:i=xs.length:=by omega
  subst e
  exact .inl ⟨⟨xs,ys,q1,q2,Nat.le_refl _⟩,hd σ H p⟩
end
end L2
set_option Elab.async false
set_option linter.all false
set_option maxRecDepth 100000
set_option maxHeartbeats 4000000
namespace L2
open PySem PySem.Spec PyProof.Rows
section
variable {X:Cx}
theorem w_pi_str {tg:Expr} {l:Expr} {tl:TE} (hl:W (PE X l tl)):W (PIc true X tg l (iStr tl)):=⟨pi_str (hl:=hl.h)⟩
theorem w_pi_enumK {elts:List Expr} {kk j:Nat} {tp p pos kp cp:Pos} {a:Expr} {ta:TE} (hg:Gl X "enumerate") (hm:X.mg "enumerate" = none) (ha:W (PE X a ta)) (hp:plainE a=true:=by rfl):W (PIc true X (.Tuple elts kk tp) (.Call (.Name "enumerate" p) [a] [⟨some (Str.ofString "start"),.Constant (.int 1) j cp,kp⟩] pos) (iEnumS 1 ta)):=⟨pi_enumK (hg:=hg) (hm:=hm) (ha:=ha.h) (hp:=hp)⟩
theorem w_pe_b_rfind {o e:Expr} {to te:TE} {apos cpos:Pos} (ho:W (PE X o to)) (he:W (PE X e te)) (hbase:attributeBase o "rfind" X.env (eval o X.env)=eval o X.env:=by rfl) (hline:(apos.endLine == cpos.line)=true:=by rfl) (hp:plainE e=true:=by rfl):W (PE X (.Call (.Attribute o "rfind" apos) [e] [] cpos) (uM1 to te rRfind)):=⟨pe_b_rfind (ho:=ho.h) (he:=he.h) (hbase:=hbase) (hline:=hline) (hp:=hp)⟩
theorem w_pe_b_split {o e:Expr} {to te:TE} {apos cpos:Pos} (ho:W (PE X o to)) (he:W (PE X e te)) (hbase:attributeBase o "split" X.env (eval o X.env)=eval o X.env:=by rfl) (hline:(apos.endLine == cpos.line)=true:=by rfl) (hp:plainE e=true:=by rfl):W (PE X (.Call (.Attribute o "split" apos) [e] [] cpos) (uM1 to te rSplit)):=⟨pe_b_split (ho:=ho.h) (he:=he.h) (hbase:=hbase) (hline:=hline) (hp:=hp)⟩
theorem w_pe_fmt {e:Expr} {te:TE} {pos:Pos} (he:W (PE X e te)):W (PE X (.FormattedValue e (-1) none pos) (uFmt te)):=⟨pe_fmt (he:=he.h)⟩
theorem w_pj_nil  : W (PJ X [] jNil):=⟨pj_nil ⟩
theorem w_pj_cons {e:Expr} {es:List Expr} {te:TE} {tj:TJ} (he:W (PE X e te)) (hj:W (PJ X es tj)):W (PJ X (e::es) (jCons te tj)):=⟨pj_cons (he:=he.h) (hj:=hj.h)⟩
theorem w_pe_fstr {e e':Expr} {es:List Expr} {tj:TJ} {pos:Pos} (h:W (PJ X (e::e'::es) tj)):W (PE X (.JoinedStr (e::e'::es) pos) (tJoined tj)):=⟨pe_fstr (h:=h.h)⟩
theorem w_pe_getK {x:Str} {a:Addr} {kvs:List (Str×Addr)} {e:Expr} {te:TE} {np apos cpos:Pos} (hg:Gl X x) (hm:X.mg x=some (.ref a)) (D:DicK X.w X.K a kvs) (he:W (PE X e te)) (hbase:attributeBase (.Name x np) "get" X.env (eval (.Name x np) X.env)=eval (.Name x np) X.env:=by rfl) (hline:(apos.endLine == cpos.line)=true:=by rfl) (hp:plainE e=true:=by rfl) (hd:(x == ("__debug__" : Str))=false:=by decide):W (PE X (.Call (.Attribute (.Name x np) "get" apos) [e] [] cpos) (tGetK kvs te)):=⟨pe_getK (hg:=hg) (hm:=hm) (D:=D) (he:=he.h) (hbase:=hbase) (hline:=hline) (hp:=hp) (hd:=hd)⟩
theorem w_pi_zipT {elts:List Expr} {kk:Nat} {tp p pos:Pos} {a b:Expr} {ta:TA} (hg:Gl X "zip") (hm:X.mg "zip" = none) (ha:W (PA X [a,b] ta)) (hs:starEach [a,b] X.env=[(false,eval a X.env),(false,eval b X.env)]:=by rfl) (hs2:starEach [b] X.env=[(false,eval b X.env)]:=by rfl):W (PIc false X (.Tuple elts kk tp) (.Call (.Name "zip" p) [a,b] [] pos) (iZipT X.K ta)):=⟨pi_zipT (hg:=hg) (hm:=hm) (ha:=ha.h) (hs:=hs) (hs2:=hs2)⟩
end
end L2
set_option Elab.async false
set_option linter.all false
set_option maxRecDepth 100000
set_option maxHeartbeats 4000000
namespace L2
open PySem PySem.Spec PyProof.Rows
def tx (l:List Nat):Str:=⟨l.toArray⟩
def sg (z:Str):List Nat:=z.cps.toList
theorem sg_tx (l:List Nat):sg (tx l)=l:=by simp [sg,tx]
theorem tx_sg (z:Str):tx (sg z)=z:=by cases z; simp [sg,tx]
theorem sg_inj {a b:Str} (h:sg a=sg b):a=b:=by rw [← tx_sg a,h,tx_sg]
theorem sg_append (a b:Str):sg (a++b)=sg a++sg b:=by simp [sg,Str.cps_append]
theorem sg_len (z:Str):(sg z).length=z.length:=by simp [sg,Str.length]
theorem tx_len (l:List Nat):(tx l).length=l.length:=by simp [tx,Str.length]
def c1 (c:Nat):Str:=⟨#[c]⟩
theorem at_one {x:Str} {c i:Nat}:StrLaws.At x (c1 c) x.length i↔(sg x)[i]?=some c:=by
 unfold StrLaws.At
 rw [StrLaws.subAt_eq]
 show i+1≤x.length∧((((sg x).drop i).take 1) == [c])=true↔_
 rw [← sg_len x]
 constructor
 ·rintro ⟨h1,h2⟩
  have h2:=eq_of_beq h2
  rw [List.getElem?_eq_getElem (by omega)]
  have h3:((sg x).drop i).take 1=[(sg x)[i]'(by omega)]:=by
   rw [List.drop_eq_getElem_cons (by omega)]; rfl
  rw [h3] at h2
  injection h2 with h2 _
  rw [h2]
 ·intro h
  obtain ⟨h1,h2⟩:=List.getElem?_eq_some_iff.mp h
  refine ⟨by omega,?_⟩
  rw [List.drop_eq_getElem_cons h1,h2]
  simp
theorem in_one (y:Str) (c:Nat):(!(Builtin.Str.occurrences y ⟨#[c]⟩ 0 y.length 1).isEmpty)=(sg y).contains c:=by
 rcases StrLaws.occ_head y (c1 c) 1 (Nat.le_refl _) with ⟨h,hn⟩|⟨i,r,h,ha,_⟩
 ·rw [show Builtin.Str.occurrences y ⟨#[c]⟩ 0 y.length 1=[] from h]
  symm
  show (sg y).contains c=false
  rw [Bool.eq_false_iff]
  intro hc
  obtain ⟨i,hi,e⟩:=List.getElem_of_mem (List.contains_iff_mem.mp hc)
  exact hn i (at_one.mpr (by rw [List.getElem?_eq_getElem hi,e]))
 ·rw [show Builtin.Str.occurrences y ⟨#[c]⟩ 0 y.length 1=i::r from h]
  symm
  exact List.contains_iff_mem.mpr (List.mem_of_getElem? (at_one.mp ha))
def splitL (c:Nat):List Nat→List (List Nat)
 | []=>[[]]
 | x::t=>if x=c then []::splitL c t else match splitL c t with
  | []=>[[x]]
  | h::r=>(x::h)::r
def preH (p:List Nat):List (List Nat)→List (List Nat)
 | []=>[p]
 | h::r=>(p++h)::r
theorem splitL_ne (c:Nat):∀ l,∃ h r,splitL c l=h::r
 | []=>⟨_,_,rfl⟩
 | x::t=>by
  unfold splitL
  split
  ·exact ⟨_,_,rfl⟩
  ·obtain ⟨h,r,e⟩:=splitL_ne c t
   rw [e]; exact ⟨_,_,rfl⟩
theorem splitL_cons (c x:Nat) (t:List Nat) (h:x≠c):splitL c (x::t)=preH [x] (splitL c t):=by
 obtain ⟨a,r,e⟩:=splitL_ne c t
 show (if x=c then _ else _)=_
 rw [if_neg h,e]
 rfl
theorem preH_preH (p q:List Nat) (l:List (List Nat)):preH p (preH q l)=preH (p++q) l:=by
 cases l <;> simp [preH]
theorem occ_one_aux (s:Str) (c hi limit:Nat):∀ (l:List Nat) (st:Array Nat×Nat),(∀ i∈l,st.2≤i)→l.Pairwise (· < ·)→st.1.size+l.length≤limit →
  (forIn l st (StrLaws.occBody s (c1 c) hi limit)).run.fst.toList=st.1.toList++l.filter fun i=>decide (i+1≤hi) && Builtin.Str.subAt s (c1 c) i
 | [],st,_,_,_=>by simp
 | a::l,st,h1,h2,h3=>by
  rw [List.forIn_cons]
  unfold StrLaws.occBody
  have ha:=h1 a (List.mem_cons_self ..)
  rw [List.pairwise_cons] at h2
  simp only [List.length_cons] at h3
  split
  ·rename_i hc
   have ih:=occ_one_aux s c hi limit l (st.1.push a,a+(c1 c).length) (fun i hi=>by have:=h2.1 i hi; show a+1≤i; omega) h2.2 (by simp; omega)
   have e2:(decide (a+1≤hi) && Builtin.Str.subAt s (c1 c) a)=true:=by rw [Bool.and_eq_true]; exact ⟨decide_eq_true hc.1.2,hc.2⟩
   rw [List.filter_cons,e2,if_pos rfl]
   refine Eq.trans ih ?_
   simp
  ·rename_i hc
   have ih:=occ_one_aux s c hi limit l st (fun i hi=>h1 i (List.mem_cons_of_mem _ hi)) h2.2 (by omega)
   have e2:(decide (a+1≤hi) && Builtin.Str.subAt s (c1 c) a)=false:=by
    rw [Bool.eq_false_iff]
    intro h
    rw [Bool.and_eq_true] at h
    exact hc ⟨⟨⟨by omega,ha⟩,of_decide_eq_true h.1⟩,h.2⟩
   rw [List.filter_cons,e2,if_neg (by simp)]
   exact ih
theorem occ_one (x:Str) (c:Nat):Builtin.Str.occurrences x (c1 c) 0 x.length (x.length+1)=(List.range' 0 (x.length+1)).filter fun i=>(sg x)[i]? == some c:=by
 rw [StrLaws.occ_eq]
 rw [occ_one_aux x c x.length (x.length+1) _ _ (fun _ _=>Nat.zero_le _) (List.pairwise_lt_range' (s:=0) (n:=x.length+1 - 0)) (by simp)]
 simp only [List.nil_append,Nat.sub_zero]
 refine List.filter_congr fun i _=>?_
 rw [Bool.eq_iff_iff]
 have:=at_one (x:=x) (c:=c) (i:=i)
 unfold StrLaws.At at this
 rw [Bool.and_eq_true,decide_eq_true_eq,beq_iff_eq]
 exact this
theorem parts_one (x:Str) (c:Nat):∀ (k a i:Nat),i+k=x.length→a≤i→StrLaws.partsFrom x 1 a ((List.range' i (k+1)).filter fun i=>(sg x)[i]? == some c)=(preH (((sg x).drop a).take (i - a)) (splitL c ((sg x).drop i))).map tx
 | 0,a,i,h,ha=>by
  have hl:=sg_len x
  have e1:(sg x)[i]?=none:=List.getElem?_eq_none (by omega)
  have e2:(sg x).drop i=[]:=List.drop_eq_nil_of_le (by omega)
  have e3:(List.range' i (0+1)).filter (fun i=>(sg x)[i]? == some c)=[]:=by
   show List.filter _ [i]=[]
   rw [List.filter_cons,e1]; rfl
  rw [e2,e3]
  show [Builtin.Str.strSub x a x.length]=[tx _]
  refine congrArg (·::[]) (sg_inj ?_)
  rw [sg_tx]
  show (Builtin.Str.strSub x a x.length).cps.toList=_
  rw [StrLaws.strSub_toList,show x.length=i by omega]
  simp [splitL,sg]
 | k+1,a,i,h,ha=>by
  have hl:=sg_len x
  have hi:i<(sg x).length:=by omega
  have e0:(sg x)[i]?=some ((sg x)[i]):=List.getElem?_eq_getElem hi
  have ed:(sg x).drop i=(sg x)[i]::(sg x).drop (i+1):=List.drop_eq_getElem_cons hi
  rw [List.range'_succ,List.filter_cons,e0,ed]
  by_cases hc:(sg x)[i]=c
  ·rw [if_pos (by simp [hc])]
   have ih:=parts_one x c k (i+1) (i+1) (by omega) (Nat.le_refl _)
   show Builtin.Str.strSub x a i::StrLaws.partsFrom x 1 (i+1) _=_
   rw [ih]
   have e4:splitL c ((sg x)[i]::(sg x).drop (i+1))=[]::splitL c ((sg x).drop (i+1)):=by
    show (if _=c then _ else _)=_
    rw [if_pos hc]
   rw [e4]
   obtain ⟨p,r,e⟩:=splitL_ne c ((sg x).drop (i+1))
   rw [e]
   simp only [Nat.sub_self,List.take_zero,preH,List.nil_append,List.append_nil,List.map_cons]
   refine congrArg (·::_) (sg_inj ?_)
   rw [sg_tx]
   exact StrLaws.strSub_toList x a i
  ·rw [if_neg (by simp [hc])]
   rw [parts_one x c k a (i+1) (by omega) (by omega),splitL_cons c _ _ hc,preH_preH]
   have e5:((sg x).drop a).take (i+1 - a)=((sg x).drop a).take (i - a)++[(sg x)[i]]:=by
    rw [show i+1 - a=(i - a)+1 by omega,List.take_add_one]
    congr 1
    rw [List.getElem?_drop,show a+(i - a)=i by omega,e0]
    rfl
   rw [e5]
theorem splitL_no {c:Nat}:∀ {l:List Nat},c∉l→splitL c l=[l]
 | [],_=>rfl
 | x::t,h=>by
  rw [List.mem_cons,not_or] at h
  rw [splitL_cons c x t (Ne.symm h.1),splitL_no h.2]
  rfl
theorem split_one (x:Str) {c:Nat} (hc:c<128):PySem.Txt.split x (c1 c)=(splitL c (sg x)).map tx:=by
 have hk:Builtin.Str.strKind (c1 c)=1:=by
  unfold Builtin.Str.strKind
  rw [if_pos]
  show (#[c]:Array Nat).all (· < 256)=true
  simp; omega
 have hk2 : ¬ Builtin.Str.strKind x<Builtin.Str.strKind (c1 c):=by
  rw [hk]
  unfold Builtin.Str.strKind
  split <;> (try split) <;> omega
 have whole:c∉sg x→[x]=(splitL c (sg x)).map tx:=fun h=>by rw [splitL_no h]; show [x]=[tx (sg x)]; rw [tx_sg]
 unfold PySem.Txt.split
 split
 ·rename_i h
  rw [decide_eq_false hk2,Bool.or_false,decide_eq_true_eq] at h
  have h:x.length<1:=h
  rw [← sg_len] at h
  refine whole ?_
  have e0:sg x=[]:=List.eq_nil_of_length_eq_zero (by omega)
  rw [e0]
  exact List.not_mem_nil
 ·split
  ·rename_i h
   refine whole fun hm=>?_
   obtain ⟨i,hi,e⟩:=List.getElem_of_mem hm
   rw [occ_one] at h
   have:i∈(List.range' 0 (x.length+1)).filter fun i=>(sg x)[i]? == some c:=by
    rw [List.mem_filter]
    refine ⟨?_,by rw [List.getElem?_eq_getElem hi,e]; simp⟩
    rw [List.mem_range'_1]
    rw [sg_len] at hi
    omega
   rw [List.isEmpty_iff.mp h] at this
   exact absurd this List.not_mem_nil
  ·rw [StrLaws.partsBetween_eq,occ_one]
   show StrLaws.partsFrom x 1 0 _=_
   rw [parts_one x c x.length 0 0 (by omega) (Nat.le_refl _)]
   simp only [Nat.sub_self,List.take_zero,List.drop_zero]
   obtain ⟨h,r,e⟩:=splitL_ne c (sg x)
   rw [e]; rfl
theorem splitL_words {c:Nat}:∀ (w:List Nat) (ws:List (List Nat)),(∀ v∈w::ws,c∉v)→splitL c (w++(ws.map (c::·)).flatten)=w::ws
 | [],[],_=>rfl
 | [],v::ws,h=>by
  have ih:=splitL_words v ws fun u hu=>h u (List.mem_cons_of_mem _ hu)
  show splitL c (c::(v++(ws.map (c::·)).flatten))=_
  show (if c=c then _ else _)=_
  rw [if_pos rfl,ih]
 | x::w,ws,h=>by
  have hx:=h _ (List.mem_cons_self ..)
  rw [List.mem_cons,not_or] at hx
  have ih:=splitL_words w ws fun u hu=>by
   rcases List.mem_cons.mp hu with rfl|hu
   ·exact hx.2
   ·exact h u (List.mem_cons_of_mem _ hu)
  show splitL c (x::(w++(ws.map (c::·)).flatten))=_
  rw [splitL_cons c x _ (Ne.symm hx.1),ih]
  rfl
theorem last_aux (x:Str) (c hi:Nat):∀ (l:List Nat) (st:Option Nat),(forIn l st (fun i r=>if (decide (i+(c1 c).length≤hi) && Builtin.Str.subAt x (c1 c) i)=true then (pure (ForInStep.yield (some i)):Id _) else pure (ForInStep.yield r))).run =
  l.foldl (fun acc i=>if (decide (i+1≤hi) && Builtin.Str.subAt x (c1 c) i)=true then some i else acc) st
 | [],st=>rfl
 | a::l,st=>by
  rw [List.forIn_cons,List.foldl_cons]
  show _=l.foldl _ (if (decide (a+(c1 c).length≤hi) && Builtin.Str.subAt x (c1 c) a)=true then some a else st)
  split
  ·exact last_aux x c hi l _
  ·exact last_aux x c hi l _
theorem last_fold (x:Str) (c:Nat):Builtin.Str.lastOccurrence x (c1 c) 0 x.length=(List.range' 0 (x.length+1)).foldl (fun acc i=>if (sg x)[i]?=some c then some i else acc) none:=by
 have e:Builtin.Str.lastOccurrence x (c1 c) 0 x.length=(forIn (List.range' 0 (x.length+1)) none (fun i r=>if (decide (i+(c1 c).length≤x.length) && Builtin.Str.subAt x (c1 c) i)=true then (pure (ForInStep.yield (some i)):Id _) else pure (ForInStep.yield r))).run:=by
  unfold Builtin.Str.lastOccurrence
  simp
 rw [e,last_aux]
 congr 1
 funext acc i
 have:=at_one (x:=x) (c:=c) (i:=i)
 unfold StrLaws.At at this
 by_cases h:(sg x)[i]?=some c
 ·rw [if_pos h,if_pos]
  rw [Bool.and_eq_true,decide_eq_true_eq]
  exact this.mpr h
 ·rw [if_neg h,if_neg]
  intro q
  rw [Bool.and_eq_true,decide_eq_true_eq] at q
  exact h (this.mp q)
theorem fold_keep {p:Nat→Prop} [DecidablePred p]:∀ (l:List Nat) (a:Option Nat),(∀ i∈l,¬ p i)→l.foldl (fun acc i=>if p i then some i else acc) a=a
 | [],_,_=>rfl
 | x::l,a,h=>by
  rw [List.foldl_cons,if_neg (h x (List.mem_cons_self ..))]
  exact fold_keep l a fun i hi=>h i (List.mem_cons_of_mem _ hi)
theorem rfind_at {x:Str} {c:Nat} {a b:List Nat} (h:sg x=a++c::b) (hb:c∉b):PySem.Txt.rfind x (c1 c)=a.length:=by
 have hl:x.length=a.length+(b.length+1):=by rw [← sg_len,h]; simp
 have e:Builtin.Str.lastOccurrence x (c1 c) 0 x.length=some a.length:=by
  rw [last_fold,show x.length+1=a.length+((b.length+1)+1) by omega,← List.range'_append_1,List.foldl_append,List.range'_succ,List.foldl_cons]
  rw [if_pos (by rw [h]; simp),Nat.zero_add]
  refine fold_keep (p:=fun i=>(sg x)[i]?=some c) _ _ fun i hi=>?_
  rw [List.mem_range'_1] at hi
  intro q
  rw [h,List.getElem?_append_right (by omega)] at q
  obtain ⟨j,hj⟩:∃ j,i - a.length=j+1:=⟨i - a.length - 1,by omega⟩
  rw [hj,List.getElem?_cons_succ] at q
  exact hb (List.mem_of_getElem? q)
 show (match Builtin.Str.lastOccurrence x (c1 c) 0 x.length with|some i=>(i:Int)|none=>-1)=_
 rw [e]
theorem rfind_no {x:Str} {c:Nat} (h:c∉sg x):PySem.Txt.rfind x (c1 c) = -1:=by
 have e:Builtin.Str.lastOccurrence x (c1 c) 0 x.length=none:=by
  rw [last_fold]
  exact fold_keep (p:=fun i=>(sg x)[i]?=some c) _ _ fun i _ q=>h (List.mem_of_getElem? q)
 show (match Builtin.Str.lastOccurrence x (c1 c) 0 x.length with|some i=>(i:Int)|none=>-1)=_
 rw [e]
theorem slice_to {x:Str} {j:Nat} (h:j≤(sg x).length):PySem.Txt.slice x none (some (j:Int))=tx ((sg x).take j):=by
 have e:=StrLaws.sliceText_to (x:=x) (j:=(j:Int)) ⟨by omega,by simpa [sg] using h⟩
 refine Eq.trans (show PySem.Txt.slice x none (some (j:Int))=StrLaws.sliceText x none (some (j:Int)) from rfl) (e.trans ?_)
 show tx _=tx _
 simp [sg]
theorem slice_but_last {x:Str} (h:0<(sg x).length):PySem.Txt.slice x none (some (-1))=tx ((sg x).dropLast):=by
 rw [sg_len] at h
 have e:=StrLaws.sliceText_to_neg (x:=x) (j:=-1) (by omega) (by omega)
 refine Eq.trans (show PySem.Txt.slice x none (some (-1))=StrLaws.sliceText x none (some (-1)) from rfl) (e.trans ?_)
 show tx _=tx _
 rw [List.dropLast_eq_take,sg_len,List.drop_zero,show (-1+(x.length:Int) - 0).toNat=x.length - 1 by omega]
 rfl
theorem sg_num (m:Nat):sg (toString ((m:Nat):Int):Str)=(Nat.toDigits 10 m).map Char.toNat:=PySem.W.KIN.signs_num m
end L2
set_option Elab.async false
set_option linter.all false
set_option maxRecDepth 100000
set_option maxHeartbeats 4000000
namespace L2
open PySem PySem.Spec PyProof.Rows
section
variable {X:Cx} {tg:Expr}
def iSeq (K:PySem.W.Frag) (tl:TE):TI:=fun σ H R=>tl σ H fun x H1=>uR x fun a=>(∃ xs,SqL K H1 a xs∧R (Itl K a) H1)∨∃ xs,SqT K H1 a xs∧R (Itt K a) H1
theorem iSeq_eq {K:PySem.W.Frag} {tl:TE} {σ:St} {H:Hp} {R:It→Hp→Prop}:iSeq K tl σ H R=tl σ H fun x H1=>uR x fun a=>(∃ xs,SqL K H1 a xs∧R (Itl K a) H1)∨∃ xs,SqT K H1 a xs∧R (Itt K a) H1:=rfl
theorem pi_seq {l:Expr} {tl:TE} (hl:PE X l tl):PIc true X tg l (iSeq X.K tl):=by
 intro pins s σ H R I h
 refine thn (hl pins s σ H _ I h) fun v s1 ⟨x,H1,I1,r1,q1⟩=>?_
 obtain ⟨a,e,q1⟩:=q1
 subst e
 cases r1
 rcases q1 with ⟨xs,hq,q⟩|⟨xs,hq,q⟩
 ·obtain ⟨its,rv,p,hz⟩:=I1.list hq
  refine wpAny_pyIter_list p.isList ⟨s1.heap.objs.size,[s1.heap.objs.size],_,_,H1,rfl,I1.kept (t':=s1.toks) fun b o e=>Heap.get?_push_of_some _ e,turn_list a _,⟨_,Heap.get?_push_size _ rfl,rfl,rfl⟩,fun b hb=>?_,q⟩
  have e:b=s1.heap.objs.size:=by simpa using hb
  subst e
  exact I1.fpOk (Nat.le_refl _) (I1.hok.fresh (Nat.le_refl _))
 ·obtain ⟨its,rv,p,hz⟩:=I1.tuple hq
  refine wpAny_pyIter_tuple (show s1.heap.IsTuple a its.toArray from p) ⟨s1.heap.objs.size,[s1.heap.objs.size],_,_,H1,rfl,I1.kept (t':=s1.toks) fun b o e=>Heap.get?_push_of_some _ e,turn_tuple a _,⟨_,Heap.get?_push_size _ rfl,rfl,rfl⟩,fun b hb=>?_,q⟩
  have e:b=s1.heap.objs.size:=by simpa using hb
  subst e
  exact I1.fpOk (Nat.le_refl _) (I1.hok.fresh (Nat.le_refl _))
theorem w_pi_seq {l:Expr} {tl:TE} (hl:W (PE X l tl)):W (PIc true X tg l (iSeq X.K tl)):=⟨pi_seq hl.h⟩
end
section
variable {K:PySem.W.Frag} {g:TG} {tt:TT} {te:TE} {H:Hp} {Q:VK} {R:It→Hp→Prop}
theorem CompJ.tup {a:Addr} {xs:List V} {τ:St} (Pv:Nat→St→List V→Hp→Prop) (hz:∀ i τ ys H,Pv i τ ys H→ys.length<sizeLine) (ha:∀ i τ ys H,Pv i τ ys H→SqT K H a xs) (h0:Pv 0 τ [] H)
  (hs:∀ (N:St→List V→Hp→Prop) i x τ ys H,xs[i]?=some x→Pv i τ ys H→(∀ τ ys H,Pv (i+1) τ ys H→N τ ys H)→g x τ H fun τ1 H4=>tt τ1 H4 fun ok H5=>CompN N ys τ1 te ok H5) (hd:∀ τ ys H,Pv xs.length τ ys H→∀ D H',New H D (.lst ys) H'→Q (.ref D) H'):CompJ (Itt K a) g tt te τ H Q:=by
 refine ⟨fun i m τ ys H=>m=xs.length - i∧i≤xs.length∧Pv i τ ys H,⟨xs.length,by simp,Nat.zero_le _,h0⟩,?_⟩
 rintro i m τ ys H2 ⟨rfl,hi,p⟩
 refine ⟨hz i τ ys H2 p,?_⟩
 have q:=ha i τ ys H2 p
 by_cases hlt:i<xs.length
 ·refine .inr ⟨⟨xs,xs[i],q,by simp [hlt]⟩,fun x H' y=>?_⟩
  obtain ⟨e,y⟩:=y
  subst e
  exact hs (fun τ1 ys H=>∃ m',m'<xs.length - i∧m'=xs.length - (i+1)∧i+1≤xs.length∧Pv (i+1) τ1 ys H) i x τ ys _ (y xs q) p fun τ1 zs H q=>⟨xs.length - (i+1),by omega,rfl,hlt,q⟩
 ·have e:i=xs.length:=by omega
  subst e
  exact .inl ⟨⟨xs,q,Nat.le_refl _⟩,fun D hD _=>hd τ ys H2 p D _ (.mk' hD)⟩
theorem uIsN_r {c:Bool} {a:Addr} {H:Hp} {Q:VK}:uIsN c (.ref a) .non H Q=Q (.bl (if c then true else false)) H:=by simp [uIsN]
theorem uIsN_s {c:Bool} {a:Str} {H:Hp} {Q:VK}:uIsN c (.str a) .non H Q=Q (.bl (if c then true else false)) H:=by simp [uIsN]
theorem asc_sg (z:Str):asc z=(sg z).all (· < 128):=by simp [asc,sg]
end
end L2
set_option Elab.async false
set_option linter.all false
set_option maxRecDepth 100000
set_option maxHeartbeats 4000000
namespace L2
open PySem PySem.Spec PyProof.Rows
def HasT (h:Heap) (e:Addr):Prop:=∃ oe vs T,h.get? e=some oe∧oe.data = .fields vs∧vs[1]?=some (Value.ref T)
section
variable {M:Model} {A:Around} {E:Value→Shared→Prop} {s:Shared} {B:Heap} {env:Env} {outer l:List Env} {L e:Addr} {cls fl:Value}
theorem flyT_entry {oe:Obj} {vs:Array Value} {head:Value} {had:Bool} {Q:Unit→Shared→Prop} (hfr:A.frames=some (env::outer)) (hf:env.frame=some L) (st:B.StaysIn s.heap) (hn:B.get? e=none)
  (hl:s.heap.FunFrames B (env::outer)) (he:s.heap.get? e=some oe) (hc:oe.cls=cls) (hdi:oe.dict=none) (hd:oe.data = .fields vs) (hz:2<vs.size) (h2:vs[2]?=some .none)
  (k:∀ h',FlyZ B (env::outer) e cls (rawInt L) h'→HasT h' e→s.heap.UpToSlots h'→Q () { s with heap:=h' }) :
  wpAny M A (do let a←frameOf env; let pl←entryPlaceOf L had; let b←EntryCells.newEntry head a .none (rawInt L) .none pl; setField (.ref e) 1 b) Q E s:=by
 have nfr:e∉(env::outer).filterMap (·.frame):=fun z=>by
  obtain ⟨_,o,ho,nf⟩:=hl.mem z
  rw [he] at ho
  cases ho
  exact nf vs hd
 refine wpAny_bind (wpAny_frameOf_fun hfr hl hf fun g only=>?_)
 obtain ⟨_,same,slots⟩:=only
 refine wpAny_bind (wpAny_entryPlaceOf fun pl hpl=>?_)
 have key:∀ (tb:Obj) (ts:Array Value),tb.data = .fields ts→ts[3]?=some (rawInt L)→wpAny M A (setField (.ref e) 1 (.ref g.objs.size)) Q E { s with heap:=g.push tb }:=by
  intro tb ts td t3
  have e1:g.get? e=some oe:=(same e nfr).trans he
  have e2:(g.push tb).get? e=some oe:=Heap.get?_push_of_some _ e1
  have hT:(g.push tb).get? g.objs.size=some tb:=Heap.get?_push_size _ (by rw [Obj.isFreed_of_fields td])
  have hne:g.objs.size≠e:=Nat.ne_of_gt (Heap.lt_size e1)
  have fresh:B.get? g.objs.size=none:=by
   cases q:B.get? g.objs.size with
   | none=>rfl
   | some o =>
    obtain ⟨sl,z⟩:=slots _ o (st _ o q)
    exact absurd (Heap.lt_size z) (Nat.lt_irrefl _)
  have up:∀ b o,b≠e→g.get? b=some o→((g.push tb).update e (Obj.mapFields (·.setIfInBounds 1 (.ref g.objs.size)))).get? b=some o:=fun b o hb q =>
   (Heap.get?_update_other _ _ (Ne.symm hb)).trans (Heap.get?_push_of_some _ q)
  have notE:∀ b o,s.heap.get? b=some o→(∀ ws,o.data≠.fields ws)→b≠e:=fun b o q nf z=>by
   rw [z,he] at q
   cases q
   exact nf vs hd
  have dd:=Obj.data_mapFields hd (·.setIfInBounds 1 (Value.ref g.objs.size))
  refine wpAny_setField e2 hd (by omega) (k _ ⟨fun b o q=>?_,hn,?_,?_⟩ ⟨_,_,g.objs.size,Heap.get?_update_self _ e2 (Obj.isFreed_of_fields dd),dd,by rw [Array.getElem?_setIfInBounds_self_of_lt (by omega)]⟩ fun b o q nf=>?_)
  ·refine up b o (fun z=>by rw [z,hn] at q; cases q) ((same b fun z=>?_).trans (st b o q))
   rw [(hl.mem z).1] at q
   cases q
  ·refine hl.of_keeps fun b o q nf=>?_
   obtain ⟨sl,z⟩:=slots b o q
   exact ⟨_,up b _ (notE b o q nf) z,rfl⟩
  ·refine ⟨_,_,Heap.get?_update_self _ e2 (Obj.isFreed_of_fields dd),(Obj.cls_mapFields _ _).trans hc,(dict_mapFields _ _).trans hdi,dd,by simpa using hz,by rw [Array.getElem?_setIfInBounds_ne (by decide)]; exact h2,.inr ⟨g.objs.size,tb,ts,?_,fresh,hne,?_,td,t3⟩⟩
   ·rw [Array.getElem?_setIfInBounds_self_of_lt (by omega)]
   ·rw [Heap.get?_update_other _ _ (Ne.symm hne)]
    exact hT
  ·obtain ⟨sl,z⟩:=slots b o q
   exact ⟨sl,up b _ (notE b o q nf) z⟩
 unfold EntryCells.newEntry newFields
 refine wpAny_bind (wpAny_newObj_type ?_ (hpl.sizeOk5 _ _ _ _ _))
 exact key _ _ rfl (by simp)
theorem flyT_note {Q:Unit→Shared→Prop} (hfr:A.frames=some (env::outer)) (hf:env.frame=some L) (x:FlyZ B (env::outer) e cls fl s.heap)
  (k:∀ h',FlyZ B (env::outer) e cls (rawInt L) h'→HasT h' e→s.heap.UpToSlots h'→Q () { s with heap:=h' }):wpAny M A (noteFrame (.ref e) env) Q E s:=by
 obtain ⟨st,hn,hl,oe,vs,he,hc,hdi,hd,hz,h2,h1⟩:=x
 unfold noteFrame
 simp only [hf]
 rcases h1 with h1|⟨T,oT,ts,h1,nT,Te,gT,dT,t3⟩
 ·refine wpAny_bind (wpAny_field he hd h1 ?_)
  rw [if_neg (show ¬ ((Value.none != Value.none)=true) by decide)]
  exact flyT_entry hfr hf st hn hl he hc hdi hd hz h2 k
 ·refine wpAny_bind (wpAny_field he hd h1 ?_)
  rw [if_pos (show (Value.ref T != Value.none)=true by simp)]
  refine wpAny_bind (wpAny_field gT dT t3 ?_)
  by_cases hfl:fl=rawInt L
  ·subst hfl
   rw [if_pos (show (rawInt L == rawInt L)=true by simp)]
   exact wpAny_pure (k s.heap ⟨st,hn,hl,oe,vs,he,hc,hdi,hd,hz,h2,.inr ⟨T,oT,ts,h1,nT,Te,gT,dT,t3⟩⟩ ⟨oe,vs,T,he,hd,h1⟩ (Heap.UpToSlots.refl _))
  ·rw [if_neg (show ¬ ((fl == rawInt L)=true) by simpa using hfl)]
   refine wpAny_bind (wpAny_setField gT dT (Array.getElem?_eq_some_iff.mp t3).1 ?_)
   have oth:∀ b,b≠T→(s.heap.update T (Obj.mapFields (·.setIfInBounds 3 Value.none))).get? b=s.heap.get? b:=fun b hb=>Heap.get?_update_other _ _ (Ne.symm hb)
   have notT:∀ b o,s.heap.get? b=some o→(∀ ws,o.data≠.fields ws)→b≠T:=fun b o q nf z=>by
    rw [z,gT] at q
    cases q
    exact nf ts dT
   refine flyT_entry (B:=B) (cls:=cls) hfr hf (fun b o q=>?_) hn (hl.of_keeps fun b o q nf=>⟨o,(oth b (notT b o q nf)).trans q,rfl⟩) ((oth e (Ne.symm Te)).trans he) hc hdi hd hz h2 fun h' y ht up=>k h' y ht fun b o q nf=>up b o ((oth b (notT b o q nf)).trans q) nf
   exact (oth b fun z=>by rw [z,nT] at q; cases q).trans (st b o q)
theorem flyT_flight {Q:Unit→Shared→Prop} (x:FlyZ B l e cls fl s.heap) (k:∀ h',FlyZ B l e cls (rawInt L) h'→s.heap.UpToSlots h'→Q () { s with heap:=h' }):wpAny M A (setFlight (.ref e) (some L)) Q E s:=by
 obtain ⟨st,hn,hl,oe,vs,he,hc,hdi,hd,hz,h2,h1⟩:=x
 unfold setFlight
 rcases h1 with h1|⟨T,oT,ts,h1,nT,Te,gT,dT,t3⟩
 ·refine wpAny_bind (wpAny_field he hd h1 ?_)
  rw [if_neg (show ¬ ((Value.none != Value.none)=true) by decide)]
  exact wpAny_pure (k s.heap ⟨st,hn,hl,oe,vs,he,hc,hdi,hd,hz,h2,.inl h1⟩ (Heap.UpToSlots.refl _))
 ·refine wpAny_bind (wpAny_field he hd h1 ?_)
  rw [if_pos (show (Value.ref T != Value.none)=true by simp)]
  have lt3:3<ts.size:=(Array.getElem?_eq_some_iff.mp t3).1
  have dd:=Obj.data_mapFields dT (·.setIfInBounds 3 (rawInt L))
  have oth:∀ b,b≠T→(s.heap.update T (Obj.mapFields (·.setIfInBounds 3 (rawInt L)))).get? b=s.heap.get? b:=fun b hb=>Heap.get?_update_other _ _ (Ne.symm hb)
  have notT:∀ b o,s.heap.get? b=some o→(∀ ws,o.data≠.fields ws)→b≠T:=fun b o q nf z=>by
   rw [z,gT] at q
   cases q
   exact nf ts dT
  refine wpAny_setField gT dT lt3 (k _ ⟨fun b o q=>(oth b fun z=>by rw [z,nT] at q; cases q).trans (st b o q),hn,hl.of_keeps fun b o q nf=>⟨o,(oth b (notT b o q nf)).trans q,rfl⟩,oe,vs,(oth e (Ne.symm Te)).trans he,hc,hdi,hd,hz,h2,
   .inr ⟨T,_,_,h1,nT,Te,Heap.get?_update_self _ gT (Obj.isFreed_of_fields dd),dd,?_⟩⟩ fun b o q nf=>⟨o.slots,(oth b (notT b o q nf)).trans q⟩)
  rw [Array.getElem?_setIfInBounds_self_of_lt lt3]
end
def FlyP (X:Cx) (Ex:Addr→St→Hp→Prop):Value→Shared→Prop:=fun e s'=>∃ (ea C:Addr) (B:Heap) (H':Hp) (fl:Value) (σ:St) (sI:Shared) (pins:List (Addr×Obj)),e = .ref ea∧Inv X pins σ H' sI∧FlyZ B X.stack ea (.ref C) fl s'.heap ∧
 s'.os=sI.os∧AllBare s'.gens∧(∀ b o,sI.heap.get? b=some o→b∉frs X.stack→B.get? b=some o)∧sI.heap.UpToSlots s'.heap∧Ex C σ H'
abbrev cxF (X:Cx) (Ex:Addr→St→Hp→Prop):Cx:=X.wish (FlyP X Ex)
theorem throws_F {X:Cx} {Ex:Addr→St→Hp→Prop}:Throws (cxF X Ex) Ex:=fun ps σ H sI ea C B fl s' I y os bare hB up q =>
 ⟨ea,C,B,H,fl,σ,sI,ps,rfl,I.unwish,y,os,bare,hB,up,q⟩
theorem passes_F {X:Cx} {Ex:Addr→St→Hp→Prop} (hst:X.stack=X.env::X.outer) (hfr:X.Ok→X.A.frames=some (X.env::X.outer)) {L:Addr} (hL:X.env.frame=some L):PassesOwn (model X.prog X.w) X.A X.env (FlyP X Ex):=by
 rintro e s' ⟨ea,C,B,H',fl,σ,sI,pins,rfl,I,y,os,bare,hB,up,q⟩
 have fr:=hfr I.ok
 rw [hst] at y
 refine flyT_note fr hL y fun h1 y1 ht u1=>?_
 obtain ⟨oe,vs,T,g1,g2,g3⟩:=ht
 refine wpAny_bind (wpAny_field g1 g2 g3 ?_)
 rw [if_neg (show ¬ ((Value.ref T == Value.none)=true) by simp)]
 rw [hL]
 refine flyT_flight (s:={ s' with heap:=h1 }) y1 fun h2 y2 u2=>?_
 rw [← hst] at y2
 exact ⟨ea,C,B,H',_,σ,sI,pins,rfl,I,y2,os,bare,hB,(up.trans u1).trans u2,q⟩
theorem PS.thr {X:Cx} {Ex:Addr→St→Hp→Prop} {st:Stmt} {t:TS} (T:Throws X Ex) (h:PS (cxF X Ex) st t):PS X st t:=fun pins s σ H D I hw =>
 wpAny_mono (h pins s σ H D (I.wish _) hw) (fun _ _ q=>q.unwish) fun e s' ⟨ea,C,B,H',fl,σ',sI,ps,he,I',y,os,bare,hB,up,q⟩=>by
  subst he
  exact T ps σ' H' sI ea C B fl s' I' y os bare hB up q
theorem w_ps_thr {X:Cx} {Ex:Addr→St→Hp→Prop} {st:Stmt} {t:TS} (T:Throws X Ex) (h:W (PS (cxF X Ex) st t)):W (PS X st t):=⟨PS.thr T h.h⟩
end L2
set_option Elab.async false
set_option linter.all false
set_option maxRecDepth 100000
set_option maxHeartbeats 4000000
namespace L2
open PySem PySem.Spec PyProof.Rows
section
variable {X:Cx}
def uNeT:R2:=fun x y H Q=>uEq true x y H Q∨∃ a b xs ys,x = .ref a∧y = .ref b∧H a=some (.tup xs)∧H b=some (.tup ys)∧xs.all flatV=true∧ys.all flatV=true∧Q (.bl (!eqL xs ys)) H
theorem uNeT_rr {a b:Addr} {H:Hp} {Q:VK}:uNeT (.ref a) (.ref b) H Q = ∃ xs ys,((H a=some (.lst xs)∧H b=some (.lst ys))∨(H a=some (.tup xs)∧H b=some (.tup ys)))∧xs.all flatV=true∧ys.all flatV=true∧Q (.bl (!eqL xs ys)) H:=by
 apply propext; constructor
 ·rintro (h|⟨a',b',xs,ys,e1,e2,h1,h2,f1,f2,q⟩)
  ·rw [uEq_rr] at h
   obtain ⟨xs,ys,h1,h2,f1,f2,q⟩:=h
   exact ⟨xs,ys,.inl ⟨h1,h2⟩,f1,f2,q⟩
  ·cases e1; cases e2; exact ⟨xs,ys,.inr ⟨h1,h2⟩,f1,f2,q⟩
 ·rintro ⟨xs,ys,⟨h1,h2⟩|⟨h1,h2⟩,f1,f2,q⟩
  ·exact .inl (by rw [uEq_rr]; exact ⟨xs,ys,h1,h2,f1,f2,q⟩)
  ·exact .inr ⟨a,b,xs,ys,rfl,rfl,h1,h2,f1,f2,q⟩
theorem call_isiK {K:PySem.W.Frag} (h:X.K=K):CallR X (.builtin "isinstance") (rIsi K):=by subst h; exact call_isi
def rFind:Str→V→Hp→VK→Prop:=fun z y H Q=>uS y fun q=>Q (.int (PySem.Txt.find z q)) H
theorem rFind_s {z q:Str} {H:Hp} {Q:VK}:rFind z (.str q) H Q=Q (.int (PySem.Txt.find z q)) H:=uS_s
end
end L2
set_option Elab.async false
set_option linter.all false
set_option maxRecDepth 100000
set_option maxHeartbeats 4000000
namespace L2
open PySem PySem.Spec PyProof.Rows
section
variable {X:Cx}
def rReprV (A:Around):List V→Hp→VK→Prop:=fun xs H Q=>rRepr A xs H Q∨(∃ z,xs=[.str z]∧(PyData.str z).shown.length≤sizeLine∧Q (.str (PyData.str z).shown) H)∨(∃ i,xs=[.int i]∧i.natAbs.log2<1920∧Q (.str (toString i)) H) ∨
 (∃ b:Bool,xs=[.bl b]∧Q (.str (if b then "True" else "False")) H)∨(xs=[.non]∧Q (.str "None") H)
theorem call_reprV (hg:X.A.guards=some []):CallR X (.builtin "repr") (rReprV X.A):=by
 intro pins s σ H xs us Q I r h
 rcases h with h|⟨z,rfl,hz,q⟩|⟨i,rfl,hi,q⟩|⟨b,rfl,q⟩|⟨rfl,q⟩
 ·exact call_repr hg pins s σ H xs us Q I r h
 ·cases r with
  | cons r1 rr =>
   cases rr
   obtain ⟨t,rfl⟩:=r1
   have e:(PyData.str z).shown=PySem.reprText z:=by simp only [PyData.shown]
   rw [e] at hz q
   exact PySem.P.repr_of_str ⟨.str _,H,I.tok _,⟨_,rfl⟩,q⟩ hz
 ·cases r with
  | cons r1 rr =>
   cases rr
   obtain ⟨t,rfl⟩:=r1
   exact PySem.P.repr_of_int hi ⟨.str _,H,I.tok _,⟨_,rfl⟩,q⟩
 ·cases r with
  | cons r1 rr =>
   cases rr
   cases (show _=Value.bool b from r1)
   exact PySem.P.repr_of_bool ⟨.str _,H,I.tok _,⟨_,by cases b <;> rfl⟩,q⟩
 ·cases r with
  | cons r1 rr =>
   cases rr
   cases (show _=Value.none from r1)
   exact PySem.P.repr_of_none ⟨.str _,H,I.tok _,⟨_,rfl⟩,q⟩
def uStrB:List V→Hp→VK→Prop:=fun xs H Q=>uStrT xs H Q∨∃ b:Bool,xs=[.bl b]∧Q (.str (if b then "True" else "False")) H
theorem call_strB:CallR X (.type "str") uStrB:=by
 intro pins s σ H xs us Q I r h
 rcases h with h|⟨b,rfl,q⟩
 ·exact call_strT pins s σ H xs us Q I r h
 ·cases r with
  | cons r1 rr =>
   cases rr
   cases (show _=Value.bool b from r1)
   exact PySem.P.str_of_bool ⟨.str _,H,I.tok _,⟨_,by cases b <;> rfl⟩,q⟩
theorem uStrB_i {i:Int} {H:Hp} {Q:VK}:uStrB [.int i] H Q=(i.natAbs.log2<1920∧Q (.str (toString i)) H):=by simp [uStrB,uStrT_i]
theorem uStrB_s {z:Str} {H:Hp} {Q:VK}:uStrB [.str z] H Q=Q (.str z) H:=by simp [uStrB,uStrT_s]
theorem uStrB_b {b:Bool} {H:Hp} {Q:VK}:uStrB [.bl b] H Q=Q (.str (if b then "True" else "False")) H:=by simp [uStrB,uStrT,uStr]
end
end L2
set_option Elab.async false
set_option linter.all false
set_option maxRecDepth 100000
set_option maxHeartbeats 4000000
namespace L2
open PySem PySem.Spec PyProof.Rows
theorem ps_setLC {c:Bool} {X:Cx} {elt tg iter:Expr} {ifs:List Expr} {sc:Scope} {pos pos' pos0:Pos} {N':List Str} {ix:List (Option Nat)} {wi:TI} {g:TG} {tt:TT} {te:TE} {i0:Nat} {x0:Str} (hN0:X.N.Nodup) (hi0:X.N[i0]?=some x0) (hx0:Loc X.env.scope x0) (hc:c=true→X.calm=true) (L:LcOk X sc N' ix) (hi:PIc c X tg iter wi)
  (hg:∀ pins C fp s H,PG (cxLC X sc N' pins C fp s H) tg g) (ht:∀ pins C fp s H,PTs (cxLC X sc N' pins C fp s H) ifs tt) (he:∀ pins C fp s H,PE (cxLC X sc N' pins C fp s H) elt te)
  (hs:∀ x,foldedSetIterable iter X.env x=pure x:=by intro _; rfl) (hsw:swapsWith (.ListComp elt [⟨tg,iter,ifs,0⟩] sc pos) (some (.Name x0 pos')) pos0.line X.env=pure true:=by rfl) (hf0:X.fn x0=true∨X.env.scope.names.lookup x0=some .local:=by first|exact .inl rfl|exact .inr rfl|assumption) :
  PS X (.Assign [.Name x0 pos'] (.ListComp elt [⟨tg,iter,ifs,0⟩] sc pos) pos0) (tAsg (tLC ix wi g tt te) (gName i0)):=by
 intro pins s σ H Z I h
 rw [exec_Assign_Name_used x0 pos' _ pos0 hsw]
 refine wpAny_bind (wpAny_standAt (wpAny_bind ?_))
 rw [arm_evalThenUse_ListComp]
 have hclos:closureFor sc X.env=pure (closL X.env.cells sc.names []):=closureFor_eq fun y hy hk=>I.ok.has y.1 (.inl (L.free y hy hk).1)
 show wpAny (model X.prog X.w) X.A (comprehension (.ListComp elt [⟨tg,iter,ifs,0⟩] sc pos) sc X.env (firstIterPos [⟨tg,iter,ifs,0⟩] pos) (newList []) (firstAsync [⟨tg,iter,ifs,0⟩]) (firstIter [⟨tg,iter,ifs,0⟩] X.env) (some (assign (.Name x0 pos') X.env))>>=fun _=>pure ()) _ _ _
 refine wpAny_bind ?_
 refine wpAny_comprehension_free (use:=some (assign (.Name x0 pos') X.env)) rfl hs hclos L.kind L.names (thn (hi pins s σ H _ I h) fun v s1 h1=>thn h1 fun itv s2 h2=>?_)
 obtain ⟨it,fp,tn,J,H2,e,I2,T,st2,f2,W,⟨m0,w0⟩,turn⟩:=h2
 subst e
 refine wpAny_newObj_type (wpAny_newFunctionEnv L.cell (by intro y hy; simp at hy) (fun h₁ hns₁ hsb₁=>?_) L.kind)
 dsimp only at hns₁ hsb₁ ⊢
 generalize hH2:s2.heap.push { cls:=.type "list",dict:=none,data:=.seq ([]:List Value).toArray }=G2 at hns₁ hsb₁ ⊢
 have hC:G2.objs.size=s2.heap.objs.size+1:=by rw [← hH2,Heap.size_push]
 have hDC:s2.heap.objs.size≠G2.objs.size:=by rw [hC]; exact Nat.ne_of_lt (Nat.lt_succ_self _)
 have hCle:s2.heap.objs.size≤G2.objs.size:=by rw [hC]; exact Nat.le_succ _
 have below:∀ b,b<s2.heap.objs.size→b≠G2.objs.size∧b≠s2.heap.objs.size:=fun b hb=>⟨by rw [hC]; exact Nat.ne_of_lt (Nat.lt_succ_of_lt hb),Nat.ne_of_lt hb⟩
 have old:∀ b o,s2.heap.get? b=some o→h₁.get? b=some o:=fun b o e=>hsb₁.extBut b o (below b (Heap.lt_size e)).1 (Heap.get?_push_of_some _ (hH2 ▸ Heap.get?_push_of_some _ e))
 have hacc:h₁.get? s2.heap.objs.size=some { cls:=.type "list",data:=.seq ([]:List Value).toArray 0 }:=hsb₁.extBut _ _ hDC (Heap.get?_push_of_some _ (hH2 ▸ Heap.get?_push_size _ rfl))
 have fl:∀ b∈fp,b<s2.heap.objs.size:=fun b hb=>by
  obtain ⟨o,e,_⟩:=T.obj 0 _ st2 b hb
  exact Heap.lt_size e
 have hDfp:s2.heap.objs.size∉fp:=fun z=>Nat.lt_irrefl _ (fl _ z)
 generalize hD:s2.heap.objs.size=D at *
 generalize hCe:G2.objs.size=C at *
 have cof:∀ x c,(closL X.env.cells sc.names []).lookup x=some c→X.env.cells.lookup x=some c:=fun x c h=>by
  rcases closL_of h with h|h
  ·cases h
  ·exact h.1
 have st1:tn 0 h₁:=T.keep _ _ _ st2 fun b _ o e=>old b o e
 have I3:Inv (cxLC X sc N' pins C fp s2 H2) [] (pick ix σ) H2 { s2 with heap:=h₁,toks:=s2.toks+([]:List (Str×Value)).length }:=inv_lc I2 L f2 (fun b hb=>by rw [hD]; exact fl b hb) (by rw [hD]; exact hCle) hns₁ old
 have D0:H2 D=none:=I2.hok.fresh (Nat.le_of_eq hD)
 have fD:∀ {H':Hp},H' D=none→FpOk (cxLC X sc N' pins C fp s2 H2) [] H' D:=fun {H'} hn=>by
  refine ⟨hn,hDC,fun z=>?_,.inr (Nat.le_of_eq hD),fun x c hx z=>?_,fun p hp z=>?_⟩
  ·obtain ⟨_,o,ho,_⟩:=I2.stack.mem (show D∈frs X.stack from z)
   exact absurd (Heap.lt_size ho) (by rw [hD]; exact Nat.lt_irrefl _)
  ·obtain ⟨v,q⟩:=I2.cell x c (cof x c hx)
   have:=q.lt
   rw [z,hD] at this
   exact Nat.lt_irrefl _ this
  ·have hp':p∈X.pn++pins:=by
    have:p∈(X.pn++pins)++[]:=hp
    simpa using this
   have:=Heap.lt_size (I2.pin p hp').1
   rw [z,hD] at this
   exact Nat.lt_irrefl _ this
 have fF:∀ {H':Hp},(∀ b∈fp,H' b=none)→∀ b∈fp,FpOk (cxLC X sc N' pins C fp s2 H2) [] H' b:=fun {H'} hn b hb=>by
  obtain ⟨_,g1,g2,g3,g4,g5⟩:=f2 b hb
  refine ⟨hn b hb,(below b (fl b hb)).1,fun z=>?_,.inl hb,fun x c hx=>g4 x c (cof x c hx),fun p hp=>g5 p ?_⟩
  ·rcases List.mem_cons.mp (I2.stkSub b z) with e|e
   ·exact g1 e
   ·exact g2 e
  ·have:p∈(X.pn++pins)++[]:=hp
   simpa using this
 have loop:∀ s₃:Shared,s₃={ s2 with heap:=h₁,toks:=s2.toks+([]:List (Str×Value)).length } →
   codeAny (model X.prog X.w) X.A (.compLoop (.ListComp elt [⟨tg,iter,ifs,0⟩] sc pos) 0 (.ref it) (.ref D) (compEnvC sc (closL X.env.cells sc.names []) C X.env))
    (compPost (model X.prog X.w) X.A X.xe (some (assign (.Name x0 pos') X.env)) (fun _ s'=>wpAny (model X.prog X.w) X.A (pure ()) (fun _ s''=>wpAny (model X.prog X.w) X.A (pure Flow.next) (SP X pins Z) X.xe s'') X.xe s') (.ref D) C) s₃:=by
  rintro s₃ rfl
  refine compLoop_gen (fun n s'=>∃ i τ ys H',Inv (cxLC X sc N' pins C fp s2 H2) [] τ H' s'∧tn i s'.heap∧(∀ b∈fp,H' b=none)∧H' D=none∧(∃ its k,Vals ys its∧s'.heap.get? D=some { cls:=.type "list",data:=.seq its.toArray k })∧W i n τ ys H')
   ?_ m0 ⟨0,_,[],H2,I3,st1,fun b hb=>(f2 b hb).1,D0,⟨[],0,.nil,hacc⟩,w0⟩
  rintro n s4 ⟨i,τ,ys,H4,I4,st4,fr4,dn4,⟨its,k,rv,dg⟩,w4⟩
  obtain ⟨hlen,step⟩:=turn i n τ ys H4 w4
  rcases step with ⟨stop,fin⟩|⟨go,step⟩
  ·refine thn (T.done (cxLC X sc N' pins C fp s2 H2) rfl rfl rfl hc i [(D,({ cls:=.type "list",data:=.seq its.toArray k }:Obj))] s4 τ H4 (fun _ _=>False) (I4.pins_of fun p hp=>?_) (fun b hb=>?_) st4 stop) fun r s5 ⟨hr,I5⟩=>?_
   ·have e:p=(D,{ cls:=.type "list",data:=.seq its.toArray k }):=by simpa using hp
    subst e
    obtain ⟨g0,g1,g2,_⟩:=fD dn4
    exact ⟨dg,g0,g1,g2,fun v z=>(nomatch z)⟩
   ·obtain ⟨g0,g1,g2,g3,g4,g5⟩:=fF fr4 b hb
    refine ⟨g0,g1,g2,g3,g4,fun p hp=>?_⟩
    rcases List.mem_append.mp hp with z|z
    ·exact g5 p (List.mem_append_left _ z)
    ·have e:p=(D,{ cls:=.type "list",data:=.seq its.toArray k }):=by simpa using z
     subst e
     exact fun q=>hDfp (by have q':D=b:=q; rw [q']; exact hb)
   ·subst hr
    have dg5:=(I5.pin (D,_) (List.mem_append_right _ (List.mem_singleton.mpr rfl))).1
    obtain ⟨m5,hn5,_⟩:=id I5.loc
    have hlt:∀ b o,s2.heap.get? b=some o→b≠C∧b≠D:=fun b o e=>by
     have:=Heap.lt_size e
     rw [hD] at this
     exact below b this
    have U:=I5.base
    have IX:Inv X pins σ (upd H4 D (.lst ys)) s5:=by
     refine I2.call' (s':=s5) (ch:=fp) I5.os ⟨fun b o e n hb hx=>U.keep b o e n hb hx,fun b o e n hb hx=>U.slot b o e n hb hx,fun b o e n hx=>?_,fun b o e hx=>U.there b o e hx,fun b xs e=>?_,fun b o u e=>?_,fun b ps e=>?_⟩ ?_ I5.bare (fun b hb=>?_)
     ·rw [upd_ne (hlt b o e).2]
      exact U.free b o e n hx
     ·have q:=U.tups b xs e
      rw [upd_ne (ne_of_none q dn4)]
      exact q
     ·have q:=U.frzs b o u e
      rw [upd_ne (ne_of_none q dn4)]
      exact q
     ·obtain ⟨more,q⟩:=U.tbls b ps e
      exact ⟨more,by rw [upd_ne (ne_of_none q dn4)]; exact q⟩
     ·exact I5.hok.add dn4 ⟨Nat.le_of_lt hlen,its,k,rv,dg5⟩
     ·obtain ⟨_,g1,g2,g3,g4,g5⟩:=f2 b hb
      exact ⟨g3,g1,g4,g5⟩
    obtain ⟨oC,esC,epC,gC,rC⟩:=id hn5
    have dataC:∀ v,oC.data≠.cell v:=fun v z=>by rw [rC.1] at z; cases z
    have CneD:C≠D:=Ne.symm hDC
    have HC:upd H4 D (.lst ys) C=none:=by rw [upd_ne CneD]; exact I5.free
    have CneL:C≠X.env.locals:=fun z=>by
     have:=I2.lt
     rw [← z,hD] at this
     exact absurd (Nat.lt_of_lt_of_le this hCle) (Nat.lt_irrefl _)
    have Cfs:C∉X.fs:=I2.nofs (by rw [hD]; exact hCle)
    have IXp:=IX.pins_of (pins':=pins++[(C,oC)]) fun p hp=>by
     rcases List.mem_append.mp hp with z|z
     ·exact IX.pin p (List.mem_append_right _ z)
     ·rw [List.mem_singleton.mp z]
      exact ⟨gC,HC,CneL,Cfs,dataC⟩
    refine thn (pg_name hN0 hi0 hx0 hf0 (pins++[(C,oC)]) s5 σ (upd H4 D (.lst ys)) (.ref D) (.ref D) Z.nx IXp rfl (fin D dn4 (by have h:mainGlobals<s2.heap.objs.size:=(I2.mod.glob.keeps I2.bk).lt; rw [hD] at h; exact Nat.ne_of_gt (Nat.lt_trans (by decide) h)))) fun _ s6 ⟨σ6,H6,I6,q6⟩=>?_
    obtain ⟨p6,p6n,_⟩:=I6.pin (C,oC) (List.mem_append_right _ (List.mem_append_right _ (List.mem_singleton.mpr rfl)))
    refine ⟨m5,⟨oC,esC,epC,p6,rC⟩,fun h' hsb=>wpAny_pure (wpAny_pure ?_)⟩
    have I7:Inv X pins σ6 H6 s6:=I6.pins_of fun p hp=>I6.pin p (List.mem_append_right _ (List.mem_append_left _ hp))
    refine ⟨σ6,H6,I7.turned (t':=s6.toks) (it:=C) (fun b o hb e=>(hsb.2 b hb).trans e) p6n CneL (.inr (Nat.le_trans I2.sz (by rw [hD]; exact hCle))) (fun x c hx z=>?_) (fun p hp z=>?_),q6⟩
    ·obtain ⟨v,q⟩:=I2.cell x c hx
     have:=q.lt
     rw [z,hD] at this
     exact absurd (Nat.lt_of_lt_of_le this hCle) (Nat.lt_irrefl _)
    ·have:=Heap.lt_size (I2.pin p hp).1
     rw [z,hD] at this
     exact absurd (Nat.lt_of_lt_of_le this hCle) (Nat.lt_irrefl _)
  ·refine thn (T.item (cxLC X sc N' pins C fp s2 H2) rfl rfl rfl hc i [(D,({ cls:=.type "list",data:=.seq its.toArray k }:Obj))] s4 τ H4 (fun _ _=>False) (I4.pins_of fun p hp=>?_) (fun b hb=>?_) st4 go) fun r s5 ⟨u,hr,h5⟩=>?_
   ·have e:p=(D,{ cls:=.type "list",data:=.seq its.toArray k }):=by simpa using hp
    subst e
    obtain ⟨g0,g1,g2,_⟩:=fD dn4
    exact ⟨dg,g0,g1,g2,fun v z=>(nomatch z)⟩
   ·obtain ⟨g0,g1,g2,g3,g4,g5⟩:=fF fr4 b hb
    refine ⟨g0,g1,g2,g3,g4,fun p hp=>?_⟩
    rcases List.mem_append.mp hp with z|z
    ·exact g5 p (List.mem_append_left _ z)
    ·have e:p=(D,{ cls:=.type "list",data:=.seq its.toArray k }):=by simpa using z
     subst e
     exact fun q=>hDfp (by have q':D=b:=q; rw [q']; exact hb)
   ·subst hr
    refine thn h5 fun _ s6 ⟨x,H6,I6,r6,y6,st6,fr6⟩=>?_
    obtain ⟨dg6,dn6,_⟩:=I6.pin (D,_) (List.mem_append_right _ (List.mem_singleton.mpr rfl))
    have dn6':H6 D=none:=dn6
    have all6:∀ b∈D::fp,FpOk (cxLC X sc N' pins C fp s2 H2) [] H6 b:=fun b hb=>by
     rcases List.mem_cons.mp hb with z|z
     ·subst z; exact fD dn6'
     ·exact fF fr6 b z
    have obj6:∀ b∈D::fp,∃ o,s6.heap.get? b=some o∧∀ v,o.data≠.cell v:=fun b hb=>by
     rcases List.mem_cons.mp hb with z|z
     ·subst z; exact ⟨_,dg6,fun v q=>(nomatch q)⟩
     ·exact T.obj _ _ st6 b z
    have I6':=(I6.unpinned (pins:=[])).pinned all6 obj6
    refine thn (hg pins C fp s2 H2 _ s6 τ H6 x u _ I6' r6 (step x H6 y6)) fun _ s7 ⟨τ7,H7,I7,q7⟩=>?_
    refine thn (ht pins C fp s2 H2 _ s7 τ7 H7 _ I7 q7) fun ok s8 ⟨H8,I8,q8⟩=>?_
    have back:∀ {s9:Shared} {H9:Hp},Inv (cxLC X sc N' pins C fp s2 H2) ([]++pinsAt (D::fp) s6.heap) τ7 H9 s9→s9.heap.get? D=some { cls:=.type "list",data:=.seq its.toArray k }∧H9 D=none∧tn (i+1) s9.heap∧∀ b∈fp,H9 b=none:=fun {s9 H9} I9=>by
     have pin:∀ b o,b∈D::fp→s6.heap.get? b=some o→s9.heap.get? b=some o∧H9 b=none:=fun b o hb e=>by
      have q:=I9.pin (b,o) (List.mem_append_right _ (List.mem_append_right _ (mem_pinsAt hb e)))
      exact ⟨q.1,q.2.1⟩
     refine ⟨(pin D _ List.mem_cons_self dg6).1,(pin D _ List.mem_cons_self dg6).2,T.keep _ _ _ st6 fun b hb o e=>(pin b o (List.mem_cons_of_mem _ hb) e).1,fun b hb=>?_⟩
     obtain ⟨o,e,_⟩:=T.obj _ _ st6 b hb
     exact (pin b o (List.mem_cons_of_mem _ hb) e).2
    cases ok with
    | false =>
     obtain ⟨b1,b2,b3,b4⟩:=back I8
     simp only [Bool.false_eq_true,if_false] at q8 ⊢
     obtain ⟨m',hm,w'⟩:=q8
     exact ⟨m',hm,i+1,τ7,ys,H8,I8.unpinned,b3,b4,b2,⟨its,k,rv,b1⟩,w'⟩
    | true =>
     simp only [if_true] at q8 ⊢
     refine thn (he pins C fp s2 H2 _ s8 τ7 H8 _ I8 q8) fun y s9 ⟨yv,H9,I9,r9,m',hm,w'⟩=>?_
     obtain ⟨b1,b2,b3,b4⟩:=back I9
     have el:its.toArray.size≤sizeLine:=by
      have:=rv.length
      simp only [List.size_toArray]
      omega
     refine append_at (hsz:=el) b1 fun h10 sb hD10=>?_
     obtain ⟨_,g1,_,g3,g4,g5⟩:=fD b2
     refine ⟨m',hm,i+1,τ7,ys++[yv],H9,(I9.unpinned (pins:=[])).turned (t':=s9.toks) (fun b o hb e=>(sb.2 b hb).trans e) b2 g1 g3 g4 g5,T.keep _ _ _ b3 fun b hb o e=>(sb.2 b fun q=>hDfp (by rw [← q]; exact hb)).trans e,b4,b2,⟨its++[y],k+1,rv.append (.cons r9 .nil),?_⟩,w'⟩
     show h10.get? D=_
     rw [hD10]
     simp
 exact codeAny_compStart_list (loop _ rfl) (T.self _ 0 _ _ _ st1 (loop _ rfl))
theorem w_ps_setLC {c:Bool} {X:Cx} {elt tg iter:Expr} {ifs:List Expr} {sc:Scope} {pos pos' pos0:Pos} {N':List Str} {ix:List (Option Nat)} {wi:TI} {g:TG} {tt:TT} {te:TE} {i0:Nat} {x0:Str} (hN0:X.N.Nodup) (hi0:X.N[i0]?=some x0) (hx0:Loc X.env.scope x0) (hc:c=true→X.calm=true) (L:LcOk X sc N' ix) (hi:W (PIc c X tg iter wi))
  (hg:∀ pins C fp s H,W (PG (cxLC X sc N' pins C fp s H) tg g)) (ht:∀ pins C fp s H,W (PTs (cxLC X sc N' pins C fp s H) ifs tt)) (he:∀ pins C fp s H,W (PE (cxLC X sc N' pins C fp s H) elt te))
  (hs:∀ x,foldedSetIterable iter X.env x=pure x:=by intro _; rfl) (hsw:swapsWith (.ListComp elt [⟨tg,iter,ifs,0⟩] sc pos) (some (.Name x0 pos')) pos0.line X.env=pure true:=by rfl) (hf0:X.fn x0=true∨X.env.scope.names.lookup x0=some .local:=by first|exact .inl rfl|exact .inr rfl|assumption) :
  W (PS X (.Assign [.Name x0 pos'] (.ListComp elt [⟨tg,iter,ifs,0⟩] sc pos) pos0) (tAsg (tLC ix wi g tt te) (gName i0))) :=
 ⟨ps_setLC hN0 hi0 hx0 hc L hi.h (fun a b c d e=>(hg a b c d e).h) (fun a b c d e=>(ht a b c d e).h) (fun a b c d e=>(he a b c d e).h) hs hsw hf0⟩
end L2
set_option Elab.async false
set_option linter.all false
set_option maxRecDepth 100000
set_option maxHeartbeats 4000000
namespace L2
open PySem PySem.Spec PyProof.Rows
section
variable {κ:Type} [DecidableEq κ]
def valV (kvs:List (κ×V)) (k:κ):Option V:=(kvs.find? fun kv=>decide (kv.1=k)).map (·.2)
def putK (kvs:List (κ×V)) (k:κ) (v:V):List (κ×V) :=
 if (kvs.any fun kv=>decide (kv.1=k))=true then kvs.map (fun kv=>if kv.1=k then (kv.1,v) else kv) else kvs++[(k,v)]
def dropK (kvs:List (κ×V)) (k:κ):List (κ×V):=kvs.filter fun kv=>decide (kv.1≠k)
theorem valV_pos {p:κ×V} {r:List (κ×V)} {k:κ} (e:p.1=k):valV (p::r) k=some p.2:=by simp [valV,List.find?_cons,e]
theorem valV_neg {p:κ×V} {r:List (κ×V)} {k:κ} (e : ¬ p.1=k):valV (p::r) k=valV r k:=by simp [valV,List.find?_cons,e]
theorem valV_any (k:κ):∀ kvs:List (κ×V),(kvs.any fun kv=>decide (kv.1=k))=(valV kvs k).isSome
 | []=>rfl
 | p::r=>by
  rw [List.any_cons]
  by_cases e:p.1=k
  ·simp only [valV_pos e,decide_eq_true e,Bool.true_or,Option.isSome_some]
  ·rw [valV_neg e,decide_eq_false e,Bool.false_or]; exact valV_any k r
theorem length_putK (kvs:List (κ×V)) (k:κ) (v:V):(putK kvs k v).length≤kvs.length+1:=by
 unfold putK
 split
 ·rw [List.length_map]; omega
 ·rw [List.length_append,List.length_cons,List.length_nil]; omega
theorem RelO.isSome_eq {o:Option V} {u:Option Value} (r:RelO o u):o.isSome=u.isSome:=by
 cases o with
 | none=>cases u with
  | none=>rfl
  | some _=>exact (show False from r).elim
 | some _=>cases u with
  | none=>exact (show False from r).elim
  | some _=>rfl
theorem RelO.getD {o:Option V} {u:Option Value} {d:V} {d':Value} (r:RelO o u) (rd:RelV d d'):RelV (o.getD d) (u.getD d'):=by
 cases o with
 | none=>cases u with
  | none=>exact rd
  | some _=>exact (show False from r).elim
 | some _=>cases u with
  | none=>exact (show False from r).elim
  | some _=>exact r
theorem KV.val {kvs:List (κ×V)} {vs:List (κ×Value)} (r:KV kvs vs) (k:κ):RelO (valV kvs k) (valueAt vs k):=by
 unfold KV at r
 induction r with
 | nil=>exact True.intro
 | @cons p q ps qs h t ih =>
  obtain ⟨h1,h2⟩:=h
  by_cases e:p.1=k
  ·have e':q.1=k:=h1.symm.trans e
   have b:valueAt (q::qs) k=some q.2:=by simp [valueAt,List.find?_cons,e']
   rw [valV_pos e,b]; exact h2
  ·have e' : ¬ q.1=k:=fun z=>e (h1.trans z)
   have b:valueAt (q::qs) k=valueAt qs k:=by simp [valueAt,List.find?_cons,e']
   rw [valV_neg e,b]; exact ih
theorem KV.any {kvs:List (κ×V)} {vs:List (κ×Value)} (r:KV kvs vs) (k:κ):(kvs.any fun kv=>decide (kv.1=k))=vs.any fun kv=>decide (kv.1=k):=by
 unfold KV at r
 induction r with
 | nil=>rfl
 | cons h t ih=>rw [List.any_cons,List.any_cons,ih,h.1]
theorem KV.repl {kvs:List (κ×V)} {vs:List (κ×Value)} (r:KV kvs vs) (k:κ) {y:V} {u:Value} (ry:RelV y u) :
  KV (kvs.map fun kv=>if kv.1=k then (kv.1,y) else kv) (vs.map fun kv=>if kv.1=k then (kv.1,u) else kv):=by
 unfold KV at r ⊢
 induction r with
 | nil=>exact .nil
 | @cons p q ps qs h t ih =>
  rw [List.map_cons,List.map_cons]
  refine .cons ?_ ih
  obtain ⟨h1,h2⟩:=h
  by_cases e:p.1=k
  ·rw [if_pos e,if_pos (h1.symm.trans e)]; exact ⟨h1,ry⟩
  ·rw [if_neg e,if_neg (fun z=>e (h1.trans z))]; exact ⟨h1,h2⟩
theorem KV.put {kvs:List (κ×V)} {vs:List (κ×Value)} (r:KV kvs vs) (k:κ) {y:V} {u:Value} (ry:RelV y u):KV (putK kvs k y) (stored vs k u):=by
 unfold putK stored
 rw [r.any k]
 by_cases e:(vs.any fun kv=>decide (kv.1=k))=true
 ·rw [if_pos e,if_pos e]; exact r.repl k ry
 ·rw [if_neg e,if_neg e]; exact Paired.snoc r ⟨rfl,ry⟩
theorem KV.length {kvs:List (κ×V)} {vs:List (κ×Value)} (r:KV kvs vs):kvs.length=vs.length:=Paired.length r
end
theorem kV_is {P:Program} {w:World} {k:Key} {u:Value} (r:RelV (kV k) u):(mixKind P w).is k u=true:=by
 cases k with
 | inl i=>obtain ⟨t,e⟩:=(show ∃ t,u=Value.int i t from r); subst e; exact mixKind_int P w i t
 | inr x=>obtain ⟨t,e⟩:=(show ∃ t,u=Value.str x t from r); subst e; exact mixKind_str P w x t
theorem items_are {P:Program} {w:World}:∀ {ks:List Key} {us:List Value},Vals (ks.map kV) us→ItemsAre (mixKind P w) ks us
 | [],_,r=>by rw [List.map_nil] at r; cases r; exact .nil
 | k::ks,_,r=>by
  rw [List.map_cons] at r
  cases r with
  | cons h t=>exact .cons (kV_is h) (items_are t)
abbrev KT (H:Hp):List (List Key×V)→List (List Key×Addr×Value)→Prop:=Paired fun p q=>p.1=q.1∧H q.2.1=some (.tup (p.1.map kV))∧RelV p.2 q.2.2
theorem KT.val {H:Hp} {kvs:List (List Key×V)} {xs:List (List Key×Addr×Value)} (r:KT H kvs xs) (k:List Key):RelO (valV kvs k) ((atKey xs k).map (·.2)):=by
 induction r with
 | nil=>exact True.intro
 | @cons p q ps qs h t ih =>
  obtain ⟨h1,_,h2⟩:=h
  by_cases e:p.1=k
  ·have e':q.1=k:=h1.symm.trans e
   have b:atKey (q::qs) k=some q.2:=by simp [atKey,List.find?_cons,e']
   rw [valV_pos e,b]; exact h2
  ·have e' : ¬ q.1=k:=fun z=>e (h1.trans z)
   have b:atKey (q::qs) k=atKey qs k:=by simp [atKey,List.find?_cons,e']
   rw [valV_neg e,b]; exact ih
theorem KT.repl {H:Hp} {kvs:List (List Key×V)} {xs:List (List Key×Addr×Value)} (r:KT H kvs xs) (k:List Key) {y:V} {u:Value} (ry:RelV y u) :
  KT H (kvs.map fun kv=>if kv.1=k then (kv.1,y) else kv) (xs.map (putAt k u)):=by
 induction r with
 | nil=>exact .nil
 | @cons p q ps qs h t ih =>
  rw [List.map_cons,List.map_cons]
  refine .cons ?_ ih
  obtain ⟨h1,h2,h3⟩:=h
  unfold putAt
  by_cases e:p.1=k
  ·rw [if_pos e,if_pos (h1.symm.trans e)]; exact ⟨h1,h2,ry⟩
  ·rw [if_neg e,if_neg (fun z=>e (h1.trans z))]; exact ⟨h1,h2,h3⟩
theorem KT.put {H:Hp} {kvs:List (List Key×V)} {xs:List (List Key×Addr×Value)} (r:KT H kvs xs) (k:List Key) {b:Addr} {y:V} {u:Value} (hb:H b=some (.tup (k.map kV))) (ry:RelV y u) :
  KT H (putK kvs k y) (storedH xs k b u):=by
 have e:(kvs.any fun kv=>decide (kv.1=k))=(atKey xs k).isSome:=by
  rw [valV_any,(r.val k).isSome_eq,Option.isSome_map]
 unfold putK storedH
 rw [e]
 by_cases q:(atKey xs k).isSome=true
 ·rw [if_pos q,if_pos q]; exact r.repl k ry
 ·rw [if_neg q,if_neg q]; exact Paired.snoc r ⟨rfl,hb,ry⟩
theorem KT.keeps {H H':Hp} {kvs:List (List Key×V)} {xs:List (List Key×Addr×Value)} (r:KT H kvs xs) (ht:∀ b ys,H b=some (.tup ys)→H' b=some (.tup ys)):KT H' kvs xs :=
 Paired.mapP r fun _ _ z=>⟨z.1,ht _ _ z.2.1,z.2.2⟩
section
variable {P:Program} {w:World} {H:Hp} {h:Heap} {a:Addr}
theorem rd_of {u:HO} (ok:HOk P w H h) (e:Rd H a u):ObjOk P w H h a u:=e.ok ok
theorem dk_rd {kvs:List (Key×V)} (ok:HOk P w H h) (e:Rd H a (.dK kvs)):kvs.length≤sizeLine∧(a == sysModules)=false∧∃ vs,KV kvs vs∧h.DictOf (mixKind P w) a vs :=
 show ObjOk P w H h a (.dK kvs) from rd_of ok e
theorem dk_of {kvs:List (Key×V)} (ok:HOk P w H h) (e:H a=some (.dK kvs)):kvs.length≤sizeLine∧(a == sysModules)=false∧∃ vs,KV kvs vs∧h.DictOf (mixKind P w) a vs:=dk_rd ok (.inl e)
theorem key_of {ks:List Key} (ok:HOk P w H h) (e:H a=some (.tup (ks.map kV))):(tupleKind (mixKind P w)).is h ks a:=by
 obtain ⟨_,its,r,o,h1,h2,n,h3⟩:=(show ObjOk P w H h a (.tup (ks.map kV)) from ok a _ e)
 exact ⟨o,its.toArray,n,h1,h2,h3,by simpa using items_are r⟩
theorem dt_rd {kvs:List (List Key×V)} (ok:HOk P w H h) (e:Rd H a (.dT kvs)):kvs.length≤sizeLine∧(a == sysModules)=false ∧
  ∃ xs,KT H kvs xs∧h.DictOfH (tupleKind (mixKind P w)) a xs:=by
 obtain ⟨z,y,xs,r,o,es,ep,h1,h2,h3,h4,h5⟩:=(show ObjOk P w H h a (.dT kvs) from rd_of ok e)
 refine ⟨z,y,xs,r,o,es,ep,h1,h2,h3,h4,fun x hx=>?_,h5⟩
 have all:∀ {l:List (List Key×V)} {m:List (List Key×Addr×Value)},KT H l m→∀ x∈m,(tupleKind (mixKind P w)).is h x.1 x.2.1:=by
  intro l m q
  induction q with
  | nil=>intro x hx; exact nomatch hx
  | @cons p q ps qs hq t ih =>
   intro x hx
   rcases List.mem_cons.mp hx with e|hx
   ·subst e
    exact key_of ok (by rw [← hq.1]; exact hq.2.1)
   ·exact ih x hx
 exact all r x hx
theorem dt_of {kvs:List (List Key×V)} (ok:HOk P w H h) (e:H a=some (.dT kvs)):kvs.length≤sizeLine∧(a == sysModules)=false ∧
  ∃ xs,KT H kvs xs∧h.DictOfH (tupleKind (mixKind P w)) a xs:=dt_rd ok (.inl e)
end
def DGet (H:Hp) (a:Addr) (y:V) (r:Option V):Prop :=
 (∃ kvs k,Rd H a (.dK kvs)∧y=kV k∧r=valV kvs k)∨∃ kvs k b,Rd H a (.dT kvs)∧y = .ref b∧H b=some (.tup (k.map kV))∧r=valV kvs k
def DPut (H:Hp) (a:Addr) (y v:V) (H':Hp):Prop :=
 (∃ kvs k,H a=some (.dK kvs)∧y=kV k∧kvs.length<sizeLine∧H'=upd H a (.dK (putK kvs k v))) ∨
 ∃ kvs k b,H a=some (.dT kvs)∧y = .ref b∧H b=some (.tup (k.map kV))∧kvs.length<sizeLine∧H'=upd H a (.dT (putK kvs k v))
theorem DGet.k {H:Hp} {a:Addr} {kvs:List (Key×V)} {k:Key} (e:H a=some (.dK kvs)):DGet H a (kV k) (valV kvs k):=.inl ⟨kvs,k,.inl e,rfl,rfl⟩
theorem DGet.t {H:Hp} {a b:Addr} {kvs:List (List Key×V)} {k:List Key} (e:H a=some (.dT kvs)) (eb:H b=some (.tup (k.map kV))):DGet H a (.ref b) (valV kvs k):=.inr ⟨kvs,k,b,.inl e,rfl,eb,rfl⟩
theorem DPut.k {H:Hp} {a:Addr} {kvs:List (Key×V)} {k:Key} {v:V} (e:H a=some (.dK kvs)) (hl:kvs.length<sizeLine):DPut H a (kV k) v (upd H a (.dK (putK kvs k v))):=.inl ⟨kvs,k,e,rfl,hl,rfl⟩
theorem DPut.t {H:Hp} {a b:Addr} {kvs:List (List Key×V)} {k:List Key} {v:V} (e:H a=some (.dT kvs)) (eb:H b=some (.tup (k.map kV))) (hl:kvs.length<sizeLine) :
  DPut H a (.ref b) v (upd H a (.dT (putK kvs k v))):=.inr ⟨kvs,k,b,e,rfl,eb,hl,rfl⟩
section
variable {X:Cx} {pins:List (Addr×Obj)} {σ:St} {H:Hp} {s:Shared} {a:Addr} {y v:V} {u r:Value} {o:Option V} {A:Around} {E:Value→Shared→Prop}
theorem d_in {Q:Value→Shared→Prop} (hu:A.units+1<cLine) (I:Inv X pins σ H s) (g:DGet H a y o) (ry:RelV y u) (h:∀ s',Inv X pins σ H s'→Q (.bool o.isSome) s') :
  wpAny (model X.prog X.w) A (compareOp .In u (.ref a)) Q E s:=by
 rcases g with ⟨kvs,k,e,ey,l⟩|⟨kvs,k,b,e,ey,eb,l⟩
 ·subst ey
  obtain ⟨z,hd,vs,rel,dd⟩:=dk_rd I.hok e
  refine wpAny_in_of (kV_is ry) hd dd.mapOf ?_
  rw [← (rel.val k).isSome_eq,← l]
  exact h _ (I.tok _)
 ·subst ey
  cases (show u=Value.ref b from ry)
  obtain ⟨z,hd,xs,rel,dd⟩:=dt_rd I.hok e
  refine wpAny_in_heap (tupleKind_room_in1 hu) (key_of I.hok eb) hd dd ?_
  have q:=(rel.val k).isSome_eq
  rw [Option.isSome_map] at q
  rw [← q,← l]
  exact h _ (I.tok _)
theorem d_write {h':Heap} {t':Nat} {ob:HO} (I:Inv X pins σ H s) (mu:Mut (H a)) (hs:Heap.SameBut a s.heap h') (he:∃ q,h'.get? a=some q) (new:ObjOk X.prog X.w (upd H a ob) h' a ob) :
  Inv X pins σ (upd H a ob) { s with heap:=h',toks:=t' } :=
 I.write (x:=a) (e:=a) mu (.inl rfl) (fun b q hb z=>(hs.2 b hb).trans z) he new
theorem dk_new {P:Program} {w:World} {H':Hp} {h':Heap} {kvs:List (Key×V)} {vs:List (Key×Value)} (z:kvs.length≤sizeLine) (hd:(a == sysModules)=false) (rel:KV kvs vs) (dd:h'.DictOf (mixKind P w) a vs) :
  ObjOk P w H' h' a (.dK kvs):=⟨z,hd,vs,rel,dd⟩
theorem d_setItem {H':Hp} {Q:Unit→Shared→Prop} (hu:A.units+1<cLine) (I:Inv X pins σ H s) (g:DPut H a y v H') (ry:RelV y u) (rv:RelV v r) (h:∀ s',Inv X pins σ H' s'→Q () s') :
  wpAny (model X.prog X.w) A (setItem (.ref a) u r) Q E s:=by
 rcases g with ⟨kvs,k,e,ey,l,eH⟩|⟨kvs,k,b,e,ey,eb,l,eH⟩
 ·subst ey eH
  obtain ⟨z,hd,vs,rel,dd⟩:=dk_of I.hok e
  have hz:vs.length≤sizeLine:=by rw [← rel.length]; exact z
  have hl:(putK kvs k v).length≤sizeLine:=by have:=length_putK kvs k v; omega
  refine wpAny_setItem_pairs (hsz:=hz) (kV_is ry) dd fun h' dd' hs=>h _ ?_
  have he:∃ q,h'.get? a=some q:=let ⟨q,_,_,hq,_⟩:=dd'; ⟨q,hq⟩
  exact d_write I (by rw [e]; exact True.intro) hs he (dk_new hl hd (rel.put k rv) dd')
 ·subst ey eH
  cases (show u=Value.ref b from ry)
  obtain ⟨z,hd,xs,rel,dd⟩:=dt_of I.hok e
  have hz:xs.length≤sizeLine:=by rw [← Paired.length rel]; exact z
  have hl:(putK kvs k v).length≤sizeLine:=by have:=length_putK kvs k v; omega
  refine wpAny_setItem_heap (hsz:=hz) (tupleKind_room_in1 hu) (key_of I.hok eb) dd fun h' dd' hs=>h _ ?_
  obtain ⟨q,es,ep,hq,h2,h3,h4,_,h5⟩:=dd'
  refine d_write I (by rw [e]; exact True.intro) hs ⟨q,hq⟩ ⟨hl,hd,_,(rel.put k eb rv).keeps fun c ys ec=>?_,q,es,ep,hq,h2,h3,h4,h5⟩
  rw [upd_ne (ne_of ec e (fun z=>nomatch z))]
  exact ec
end
section
variable {X:Cx} {pins:List (Addr×Obj)} {σ:St} {H:Hp} {s:Shared} {a:Addr} {kvs:List (Key×V)} {k:Key} {u:Value} {A:Around} {E:Value→Shared→Prop}
end
section
variable {X:Cx} {o i e value:Expr} {pos pos' tpos:Pos} {td ty tv:TE}
end
section
variable {X:Cx} {pos:Pos}
end
section
variable {X:Cx} {pins:List (Addr×Obj)} {σ:St} {H:Hp} {s:Shared} {a:Addr} {y d:V} {u r:Value} {o:Option V} {A:Around} {E:Value→Shared→Prop}
end
section
variable {X:Cx} {o e f:Expr} {apos cpos:Pos} {td ty tx:TE}
end
section
variable {X:Cx} {pins:List (Addr×Obj)} {σ:St} {H:Hp} {s:Shared} {a:Addr} {kvs:List (Key×V)} {A:Around} {E:Value→Shared→Prop}
end
section
variable {X:Cx} {pins:List (Addr×Obj)} {σ:St} {H:Hp} {s:Shared} {a:Addr} {y:V} {u:Value} {A:Around} {E:Value→Shared→Prop}
end
section
variable {X:Cx}
end
section
variable {κ:Type} [DecidableEq κ]
end
end L2
set_option Elab.async false
set_option linter.all false
set_option maxRecDepth 100000
set_option maxHeartbeats 4000000
namespace L2
open PySem PySem.Spec PyProof.Rows
section
variable {X:Cx} {pins:List (Addr×Obj)} {σ:St} {H:Hp} {s:Shared} {a:Addr} {o:Obj} {kvs:List (Key×V)}
theorem Inv.swap {o1 o2:HO} (I:Inv X pins σ H s) (e:H a=some o1) (h1:∀ x,o1≠.own x) (h2:∀ xs,o1≠.tup xs) (h3:∀ ob,o1≠.frz ob (.own 0)) (h4:∀ ps,o1≠.tbl ps) (h5:∀ ob u,X.H₀ a≠some (.frz ob u))
  (new:∀ H',ObjOk X.prog X.w H' s.heap a o2):Inv X pins σ (upd H a o2) s:=by
 have ne:∀ b,H b=none→b≠a:=fun b n z=>by subst z; rw [e] at n; cases n
 have kn:∀ b,H b=none→upd H a o2 b=none:=fun b n=>by rw [upd_ne (ne b n)]; exact n
 refine ⟨I.ok,I.os,I.bare,⟨I.base.keep,I.base.slot,fun b ob q n hx=>kn b (I.base.free b ob q n hx),I.base.there,fun b xs q=>?_,fun b ob u q=>?_,fun b ps q=>?_⟩,I.loc,I.cell,kn _ I.free,fun x c q=>kn c (I.freeC x c q),fun p hp=>?_,fun b u q=>?_,I.len,?_⟩
 ·have z:=I.base.tups b xs q
  rw [upd_ne (fun y=>by subst y; rw [e] at z; cases z; exact h2 _ rfl)]; exact z
 ·by_cases hb:b=a
  ·subst hb; exact absurd q (h5 ob u)
  ·rw [upd_ne hb]; exact I.base.frzs b ob u q
 ·obtain ⟨more,z⟩:=I.base.tbls b ps q
  exact ⟨more,by rw [upd_ne (fun y=>by subst y; rw [e] at z; cases z; exact h4 _ rfl)]; exact z⟩
 ·obtain ⟨p1,p2,p3⟩:=I.pin p hp
  exact ⟨p1,kn _ p2,p3⟩
 ·by_cases hb:b=a
  ·subst hb; rw [upd_same] at q; cases q; exact new _
  ·rw [upd_ne hb] at q
   exact (I.hok b u q).stay (fun c z _ y=>y) (fun c z=>by rw [upd_ne (fun y=>by subst y; rw [e] at z; cases z; exact h1 _ rfl)]; exact z) (fun c xs z=>by rw [upd_ne (fun y=>by subst y; rw [e] at z; cases z; exact h2 _ rfl)]; exact z)
 ·rcases I.hdk with z|⟨b,ob,vs,q1,q2,q3⟩
  ·exact .inl z
  ·exact .inr ⟨b,ob,vs,q1,by rw [upd_ne (fun y=>by subst y; rw [e] at q2; cases q2; exact h3 _ rfl)]; exact q2,q3⟩
theorem Inv.freeze (I:Inv X pins σ H s) (e:H a=some (.dK kvs)):(∀ ob u,X.H₀ a≠some (.frz ob u))∧∃ o,Inv X pins σ (upd H a (.frz o (.dK kvs))) s:=by
 have h5:∀ ob u,X.H₀ a≠some (.frz ob u):=fun ob u q=>by
  have z:=I.base.frzs a ob u q
  rw [e] at z; cases z
 refine ⟨h5,?_⟩
 obtain ⟨z,hd,vs,rel,dd⟩:=dk_of I.hok e
 obtain ⟨o,es,ep,ho,r⟩:=id dd
 exact ⟨o,I.swap e (fun _ q=>nomatch q) (fun _ q=>nomatch q) (fun _ q=>nomatch q) (fun _ q=>nomatch q) h5 fun H'=>⟨ho,z,hd,vs,rel,dd⟩⟩
theorem Inv.thaw (I:Inv X pins σ H s) (e:H a=some (.frz o (.dK kvs))) (h5:∀ ob u,X.H₀ a≠some (.frz ob u)):Inv X pins σ (upd H a (.dK kvs)) s:=by
 obtain ⟨ho,z⟩:=I.hok a _ e
 exact I.swap e (fun _ q=>nomatch q) (fun _ q=>nomatch q) (fun _ q=>by injection q with _ q; cases q) (fun _ q=>nomatch q) h5 fun H'=>z
end
def Thawed (a:Addr) (kvs:List (Key×V)) (H:Hp) (R:Hp→Prop):Prop:=∃ o,H a=some (.frz o (.dK kvs))∧R (upd H a (.dK kvs))
def Ends.thaw (D:Ends) (a:Addr) (kvs:List (Key×V)):Ends:=⟨fun σ H=>Thawed a kvs H (D.nx σ),fun v H=>Thawed a kvs H (D.rt v),fun σ H=>Thawed a kvs H (D.bk σ),fun σ H=>Thawed a kvs H (D.ct σ)⟩
def tFz (t:TS):TS:=fun D σ H=>∃ a kvs,H a=some (.dK kvs)∧∀ o,t (D.thaw a kvs) σ (upd H a (.frz o (.dK kvs)))
def tFzE (t:TE):TE:=fun σ H Q=>∃ a kvs,H a=some (.dK kvs)∧∀ o,t σ (upd H a (.frz o (.dK kvs))) fun v H'=>Thawed a kvs H' (Q v)
theorem pe_fz {X:Cx} {e:Expr} {t:TE} (h:PE X e t):PE X e (tFzE t):=by
 rintro pins s σ H Q I ⟨a,kvs,e,q⟩
 obtain ⟨h5,o,I1⟩:=I.freeze e
 refine thn (h pins s σ _ _ I1 (q o)) fun u s' z=>?_
 obtain ⟨v,H',I',r,o',e',d⟩:=z
 exact ⟨v,_,I'.thaw e' h5,r,d⟩
theorem KV.at {kvs:List (Key×V)} {vs:List (Key×Value)} (r:KV kvs vs):∀ {i:Nat} {p:Key×V},kvs[i]?=some p→∃ u,vs[i]?=some (p.1,u)∧RelV p.2 u:=by
 induction r with
 | nil=>intro i p h; simp at h
 | @cons x y l m r t ih =>
  intro i p h
  cases i with
  | zero =>
   have e:x=p:=by simpa using h
   subst e
   exact ⟨y.2,by rw [r.1]; rfl,r.2⟩
  | succ i=>exact ih (by simpa using h)
def Itd (a:Addr) (o:Obj) (kvs:List (Key×V)):It:=⟨fun i H=>H a=some (.frz o (.dK kvs))∧i<kvs.length,fun i H x H'=>H'=H∧∃ p,kvs[i]?=some p∧x=kV p.1,fun i H=>H a=some (.frz o (.dK kvs))∧kvs.length≤i⟩
def Itw (a:Addr) (o:Obj) (kvs:List (Key×V)):It:=⟨fun i H=>H a=some (.frz o (.dK kvs))∧i<kvs.length,fun i H x H'=>H'=H∧∃ p,kvs[i]?=some p∧x=p.2,fun i H=>H a=some (.frz o (.dK kvs))∧kvs.length≤i⟩
theorem frz_at {X:Cx} {pins:List (Addr×Obj)} {σ:St} {H:Hp} {s:Shared} {a:Addr} {o:Obj} {kvs:List (Key×V)} {es:Array DictEntry} {ep:Nat} (I:Inv X pins σ H s) (e:H a=some (.frz o (.dK kvs))) (hd:o.data = .dict es ep) :
  (a == sysModules)=false∧∃ vs,KV kvs vs∧s.heap.DictAt (mixKind X.prog X.w) a vs ep∧vs.length=kvs.length:=by
 obtain ⟨ho,z,hm,vs,rel,o',es',ep',ho',hc,hd',r⟩:=I.hok a _ e
 rw [ho] at ho'
 cases ho'
 rw [hd] at hd'
 cases hd'
 exact ⟨hm,vs,rel,⟨o,es,ho,hc,hd,r⟩,rel.length.symm⟩
theorem frz_data {X:Cx} {pins:List (Addr×Obj)} {σ:St} {H:Hp} {s:Shared} {a:Addr} {o:Obj} {kvs:List (Key×V)} (I:Inv X pins σ H s) (e:H a=some (.frz o (.dK kvs))):∃ es ep,o.data = .dict es ep:=by
 obtain ⟨ho,z,hm,vs,rel,o',es',ep',ho',hc,hd',r⟩:=I.hok a _ e
 rw [ho] at ho'
 cases ho'
 exact ⟨_,_,hd'⟩
theorem turn_dict {P:Program} {w:World} {K:PySem.W.Frag} {tg:Expr} (a it:Addr) {o:Obj} {kvs:List (Key×V)} {es:Array DictEntry} {ep:Nat} (hd:o.data = .dict es ep):Turn true P w K tg (Itd a o kvs) [it] it (fun i h=>h.IsKeyIter it a i kvs.length ep) where
 mem:=by simp
 obj:=fun i h st b hb=>by
  have e:b=it:=by simpa using hb
  subst e
  obtain ⟨o,e,c,d⟩:=st
  exact ⟨o,e,fun v z=>by rw [d] at z; cases z⟩
 keep:=fun i h h' st k=>st.at fun o e=>k it (by simp) o e
 item:=by
  intro X hP hw hK hc i pins s σ H E I hf st hg
  subst hP hw hK
  obtain ⟨hq,hi⟩:=hg
  obtain ⟨hm,vs,rel,dd,hl⟩:=frz_at I hq hd
  obtain ⟨p,hp⟩:∃ p,kvs[i]?=some p:=⟨kvs[i],by simp [hi]⟩
  obtain ⟨u,hu,ru⟩:=rel.at hp
  obtain ⟨f0,f1,f2,f3,f4,f5⟩:=hf it (by simp)
  rw [← hl] at st
  refine wpAny_pyNext_dict_item st dd hu fun key h' hk st' sb=>?_
  rw [hl] at st'
  have I1:Inv X pins σ H { s with heap:=h' }:=I.turned (t':=s.toks) (fun b o hb e=>(sb.2 b hb).trans e) f0 f1 f3 f4 f5
  have rk:RelV (kV p.1) key:=by
   rcases keyIs_shape (show keyIs p.1 key=true from hk) with ⟨j,t,e1,e2⟩|⟨x,t,e1,e2⟩
   ·rw [e1,e2]; exact ⟨t,rfl⟩
   ·rw [e1,e2]; exact ⟨t,rfl⟩
  obtain ⟨o,e,c,d⟩:=id st'
  exact ⟨key,rfl,go_of (s:={ s with heap:=h' }) e c d (by decide) ⟨kV p.1,H,I1,rk,⟨rfl,p,hp,rfl⟩,st',fun b hb=>(hf b hb).1⟩⟩
 done:=by
  intro X hP hw hK hc i pins s σ H E I hf st hg
  subst hP hw hK
  obtain ⟨hq,hi⟩:=hg
  obtain ⟨hm,vs,rel,dd,hl⟩:=frz_at I hq hd
  obtain ⟨f0,f1,f2,f3,f4,f5⟩:=hf it (by simp)
  rw [← hl] at st
  exact wpAny_pyNext_dict_end (I.ok.hd (hc rfl)) st dd (List.getElem?_eq_none (by omega)) fun h' eb=>⟨rfl,I.turned (t':=s.toks) (fun b o hb e=>eb b o hb e) f0 f1 f3 f4 f5⟩
 self:=fun _ _ _ _ _ st h=>wpAny_pyIter_keyiter st h
section
variable {X:Cx} {tg:Expr}
def iDict (tl:TE):TI:=fun σ H R=>tl σ H fun x H1=>∃ a o kvs,x = .ref a∧H1 a=some (.frz o (.dK kvs))∧R (Itd a o kvs) H1
def iVals (tl:TE):TI:=fun σ H R=>tl σ H fun x H1=>∃ a o kvs,x = .ref a∧H1 a=some (.frz o (.dK kvs))∧R (Itw a o kvs) H1
theorem pi_dict {l:Expr} {tl:TE} (hl:PE X l tl):PI X tg l (iDict tl):=by
 intro pins s σ H R I h
 refine thn (hl pins s σ H _ I h) fun v s1 ⟨x,H1,I1,r1,q1⟩=>?_
 obtain ⟨a,o,kvs,e,hq,q⟩:=q1
 subst e
 cases r1
 obtain ⟨es,ep,hd⟩:=frz_data I1 hq
 obtain ⟨hm,vs,rel,dd,hl⟩:=frz_at I1 hq hd
 refine wpAny_pyIter_dict hm dd ?_
 rw [hl]
 refine ⟨s1.heap.objs.size,[s1.heap.objs.size],_,_,H1,rfl,I1.kept (t':=s1.toks) fun b o e=>Heap.get?_push_of_some _ e,turn_dict a _ hd,⟨_,Heap.get?_push_size _ rfl,rfl,rfl⟩,fun b hb=>?_,q⟩
 have e:b=s1.heap.objs.size:=by simpa using hb
 subst e
 exact I1.fpOk (Nat.le_refl _) (I1.hok.fresh (Nat.le_refl _))
end
end L2
set_option Elab.async false
set_option linter.all false
set_option maxRecDepth 100000
set_option maxHeartbeats 4000000
namespace L2
open PySem PySem.Spec PyProof.Rows
def uK (y:V) (q:Key→Prop):Prop:=∃ k,y=kV k∧q k
theorem uK_s {z:Str} {q:Key→Prop}:uK (.str z) q=q (.inr z):=by
 apply propext; constructor
 ·rintro ⟨k,e,h⟩
  cases k with
  | inl i=>cases e
  | inr x=>cases e; exact h
 ·exact fun h=>⟨.inr z,rfl,h⟩
theorem uK_i {i:Int} {q:Key→Prop}:uK (.int i) q=q (.inl i):=by
 apply propext; constructor
 ·rintro ⟨k,e,h⟩
  cases k with
  | inl i=>cases e; exact h
  | inr x=>cases e
 ·exact fun h=>⟨.inl i,rfl,h⟩
section
variable {X:Cx}
def rIxD:R2:=fun x y H Q=>∃ a k kvs v,x = .ref a∧y=kV k∧Rd H a (.dK kvs)∧valV kvs k=some v∧Q v H
def uIxD:R2:=fun x y H Q=>uIx x y H Q∨rIxD x y H Q
theorem uIxD_rs {a:Addr} {z:Str} {H:Hp} {Q:VK}:uIxD (.ref a) (.str z) H Q = ∃ kvs,Rd H a (.dK kvs)∧∃ v,valV kvs (.inr z)=some v∧Q v H:=by
 apply propext; constructor
 ·rintro (h|⟨a',k,kvs,v,e1,e2,h1,h2,q⟩)
  ·rcases h with ⟨_,_,_,_,_,e,_⟩|⟨_,_,_,_,_,e,_⟩|⟨_,_,_,e,_⟩ <;> cases e
  ·cases e1
   cases k with
   | inl i=>cases e2
   | inr x=>cases e2; exact ⟨kvs,h1,v,h2,q⟩
 ·rintro ⟨kvs,h1,v,h2,q⟩
  exact .inr ⟨a,.inr z,kvs,v,rfl,rfl,h1,h2,q⟩
theorem uIxD_ri {a:Addr} {i:Int} {H:Hp} {Q:VK}:uIxD (.ref a) (.int i) H Q=((∃ xs,(H a=some (.lst xs)∨H a=some (.tup xs))∧∃ v,atI xs i=some v∧Q v H)∨∃ kvs,Rd H a (.dK kvs)∧∃ v,valV kvs (.inl i)=some v∧Q v H):=by
 apply propext
 unfold uIxD
 rw [uIx_r]
 constructor
 ·rintro (h|⟨a',k,kvs,v,e1,e2,h1,h2,q⟩)
  ·exact .inl h
  ·cases e1
   cases k with
   | inl i=>cases e2; exact .inr ⟨kvs,h1,v,h2,q⟩
   | inr x=>cases e2
 ·rintro (h|⟨kvs,h1,v,h2,q⟩)
  ·exact .inl h
  ·exact .inr ⟨a,.inl i,kvs,v,rfl,rfl,h1,h2,q⟩
theorem uIxD_si {x:Str} {i:Int} {H:Hp} {Q:VK}:uIxD (.str x) (.int i) H Q=(x.length≤sizeLine∧∃ c,atI x.cps.toList i=some c∧Q (.str ⟨#[c]⟩) H):=by
 rw [← uIx_s]
 apply propext; constructor
 ·rintro (h|⟨a',k,kvs,v,e1,_⟩)
  ·exact h
  ·cases e1
 ·exact .inl
def rInD (c:Bool):R2:=fun y x H Q=>∃ a k kvs,x = .ref a∧y=kV k∧Rd H a (.dK kvs)∧Q (.bl (if c then !(valV kvs k).isSome else (valV kvs k).isSome)) H
theorem op_in_dict (hu:X.A.units+1<cLine):OpR X (compareOp .In) (rInD false):=by
 intro pins s σ H x y v u Q I rx ry h
 obtain ⟨a,k,kvs,rfl,rfl,hq,q⟩:=h
 obtain rfl:u=Value.ref a:=ry
 exact d_in hu I (.inl ⟨kvs,k,hq,rfl,rfl⟩) rx fun s3 I3=>⟨.bl (valV kvs k).isSome,H,I3,rfl,q⟩
def uInD:R2:=fun x y H Q=>uIn x y H Q∨rInD false x y H Q
theorem uInD_ss {x y:Str} {H:Hp} {Q:VK}:uInD (.str x) (.str y) H Q=Q (.bl (!(Builtin.Str.occurrences y x 0 y.length 1).isEmpty)) H:=by
 rw [← uIn_ss (x:=x) (y:=y) (H:=H) (Q:=Q)]
 apply propext; constructor
 ·rintro (h|⟨a,k,kvs,e,_⟩)
  ·exact h
  ·cases e
 ·exact .inl
theorem uInD_sr {x:Str} {p:Addr} {H:Hp} {Q:VK}:uInD (.str x) (.ref p) H Q=((∃ xs,(H p=some (.lst xs)∨H p=some (.tup xs))∧xs.all flatV=true∧Q (.bl (inV (.str x) xs)) H)∨∃ kvs,Rd H p (.dK kvs)∧Q (.bl (valV kvs (.inr x)).isSome) H):=by
 apply propext
 unfold uInD
 rw [uIn_r]
 constructor
 ·rintro (⟨xs,h,_,f,q⟩|⟨a,k,kvs,e1,e2,h,q⟩)
  ·exact .inl ⟨xs,h,f,q⟩
  ·cases e1
   cases k with
   | inl i=>cases e2
   | inr x=>cases e2; exact .inr ⟨kvs,h,q⟩
 ·rintro (⟨xs,h,f,q⟩|⟨kvs,h,q⟩)
  ·exact .inl ⟨xs,h,rfl,f,q⟩
  ·exact .inr ⟨p,.inr x,kvs,rfl,rfl,h,q⟩
theorem rInD_sr {c:Bool} {x:Str} {p:Addr} {H:Hp} {Q:VK}:rInD c (.str x) (.ref p) H Q = ∃ kvs,Rd H p (.dK kvs)∧Q (.bl (if c then !(valV kvs (.inr x)).isSome else (valV kvs (.inr x)).isSome)) H:=by
 apply propext; constructor
 ·rintro ⟨a,k,kvs,e1,e2,h,q⟩
  cases e1
  cases k with
  | inl i=>cases e2
  | inr x=>cases e2; exact ⟨kvs,h,q⟩
 ·rintro ⟨kvs,h,q⟩; exact ⟨p,.inr x,kvs,rfl,rfl,h,q⟩
def uLenD:List V→Hp→VK→Prop:=fun xs H Q=>uLen xs H Q∨∃ a kvs,xs=[V.ref a]∧Rd H a (.dK kvs)∧Q (.int kvs.length) H
theorem uLenD_r {a:Addr} {H:Hp} {Q:VK}:uLenD [.ref a] H Q=((∃ ys,(H a=some (.lst ys)∨H a=some (.tup ys))∧Q (.int ys.length) H)∨∃ kvs,Rd H a (.dK kvs)∧Q (.int kvs.length) H):=by
 apply propext
 unfold uLenD
 rw [uLen_r]
 constructor
 ·rintro (h|⟨a,kvs,e,h⟩)
  ·exact .inl h
  ·cases e; exact .inr ⟨kvs,h⟩
 ·rintro (h|⟨kvs,h⟩)
  ·exact .inl h
  ·exact .inr ⟨a,kvs,rfl,h⟩
theorem uLenD_s {x:Str} {H:Hp} {Q:VK}:uLenD [.str x] H Q=(x.length≤sizeLine∧Q (.int x.length) H):=by
 rw [← uLen_s]
 apply propext; constructor
 ·rintro (h|⟨a,kvs,e,h⟩)
  ·exact h
  ·cases e
 ·exact .inl
def rSetD:V→V→V→Hp→(Hp→Prop)→Prop:=fun o i v H Q=>rSetL o i v H Q∨∃ a k kvs,o = .ref a∧i=kV k∧H a=some (.dK kvs)∧kvs.length<sizeLine∧Q (upd H a (.dK (putK kvs k v)))
theorem set_D (hu:X.A.units+1<cLine):PSet X rSetD:=by
 intro pins s σ H o i v ov iv u Q I ro ri rv h
 rcases h with h|⟨a,k,kvs,rfl,rfl,e,l,q⟩
 ·exact set_list pins s σ H o i v ov iv u Q I ro ri rv h
 ·obtain rfl:ov=Value.ref a:=ro
  exact d_setItem hu I (.inl ⟨kvs,k,e,rfl,l,rfl⟩) ri rv fun s' I'=>⟨_,I',q⟩
theorem rSetD_rs {a:Addr} {z:Str} {v:V} {H:Hp} {Q:Hp→Prop}:rSetD (.ref a) (.str z) v H Q = ∃ kvs,H a=some (.dK kvs)∧kvs.length<sizeLine∧Q (upd H a (.dK (putK kvs (.inr z) v))):=by
 apply propext; constructor
 ·rintro (⟨_,_,_,_,_,e,_⟩|⟨a',k,kvs,e1,e2,h,l,q⟩)
  ·cases e
  ·cases e1
   cases k with
   | inl i=>cases e2
   | inr x=>cases e2; exact ⟨kvs,h,l,q⟩
 ·rintro ⟨kvs,h,l,q⟩; exact .inr ⟨a,.inr z,kvs,rfl,rfl,h,l,q⟩
theorem rSetD_ri {a:Addr} {i:Int} {v:V} {H:Hp} {Q:Hp→Prop}:rSetD (.ref a) (.int i) v H Q=((∃ xs j,H a=some (.lst xs)∧ixN xs.length i=some j∧Q (upd H a (.lst (xs.set j v))))∨∃ kvs,H a=some (.dK kvs)∧kvs.length<sizeLine∧Q (upd H a (.dK (putK kvs (.inl i) v)))):=by
 apply propext
 unfold rSetD
 rw [rSetL_r]
 constructor
 ·rintro (h|⟨a',k,kvs,e1,e2,h,l,q⟩)
  ·exact .inl h
  ·cases e1
   cases k with
   | inl i=>cases e2; exact .inr ⟨kvs,h,l,q⟩
   | inr x=>cases e2
 ·rintro (h|⟨kvs,h,l,q⟩)
  ·exact .inl h
  ·exact .inr ⟨a,.inl i,kvs,rfl,rfl,h,l,q⟩
def tDel (td ty:TE):TS:=fun D σ H=>td σ H fun x H1=>ty σ H1 fun y H2=>uR x fun a=>uK y fun k=>∃ kvs,H2 a=some (.dK kvs)∧(valV kvs k).isSome=true∧D.nx σ (upd H2 a (.dK (dropK kvs k)))
theorem tDel_eq {td ty:TE} {D:Ends} {σ:St} {H:Hp}:tDel td ty D σ H=td σ H fun x H1=>ty σ H1 fun y H2=>uR x fun a=>uK y fun k=>∃ kvs,H2 a=some (.dK kvs)∧(valV kvs k).isSome=true∧D.nx σ (upd H2 a (.dK (dropK kvs k))):=rfl
def tGetD (td ty tx:TE):TE:=fun σ H Q=>td σ H fun x H1=>uR x fun a=>(∃ kvs,Rd H1 a (.dK kvs))∧ty σ H1 fun y H2=>tx σ H2 fun z H3=>uK y fun k=>∃ kvs,Rd H3 a (.dK kvs)∧Q ((valV kvs k).getD z) H3
theorem tGetD_eq {td ty tx:TE} {σ:St} {H:Hp} {Q:VK}:tGetD td ty tx σ H Q=td σ H fun x H1=>uR x fun a=>(∃ kvs,Rd H1 a (.dK kvs))∧ty σ H1 fun y H2=>tx σ H2 fun z H3=>uK y fun k=>∃ kvs,Rd H3 a (.dK kvs)∧Q ((valV kvs k).getD z) H3:=rfl
def tPopD (td ty:TE):TE:=fun σ H Q=>td σ H fun x H1=>uR x fun a=>(∃ kvs,Rd H1 a (.dK kvs))∧ty σ H1 fun y H2=>uK y fun k=>∃ kvs,H2 a=some (.dK kvs)∧∃ v,valV kvs k=some v∧Q v (upd H2 a (.dK (dropK kvs k)))
theorem tPopD_eq {td ty:TE} {σ:St} {H:Hp} {Q:VK}:tPopD td ty σ H Q=td σ H fun x H1=>uR x fun a=>(∃ kvs,Rd H1 a (.dK kvs))∧ty σ H1 fun y H2=>uK y fun k=>∃ kvs,H2 a=some (.dK kvs)∧∃ v,valV kvs k=some v∧Q v (upd H2 a (.dK (dropK kvs k))):=rfl
end
end L2
set_option Elab.async false
set_option linter.all false
set_option maxRecDepth 100000
set_option maxHeartbeats 4000000
namespace L2
open PySem PySem.Spec PyProof.Rows PySem.W PySem.Calls
open Classical in
noncomputable def sortS (ks:List Str):List Str:=if h:∃ ss:List Str,ss.Perm ks∧sortedS ss=true then h.choose else ks
section
variable {X:Cx}
def uDictOf:List V→Hp→VK→Prop:=fun xs H Q=>uR1 xs fun a=>∃ kvs,Rd H a (.dK kvs)∧∀ p H2,New H p (.dK kvs) H2→Q (.ref p) H2
theorem uDictOf_r {a:Addr} {H:Hp} {Q:VK}:uDictOf [.ref a] H Q = ∃ kvs,Rd H a (.dK kvs)∧∀ p H2,New H p (.dK kvs) H2→Q (.ref p) H2:=uR1_r
def sk (kvs:List (Str×V)):List (Key×V):=kvs.map fun p=>(.inr p.1,p.2)
def uSortD:List V→Hp→VK→Prop:=fun xs H Q=>uR1 xs fun a=>∃ kvs:List (Str×V),Rd H a (.dK (sk kvs))∧kvs.length<64∧∀ p H2,New H p (.lst ((sortS (kvs.map (·.1))).map V.str)) H2→Q (.ref p) H2
theorem uSortD_r {a:Addr} {H:Hp} {Q:VK}:uSortD [.ref a] H Q = ∃ kvs:List (Str×V),Rd H a (.dK (sk kvs))∧kvs.length<64∧∀ p H2,New H p (.lst ((sortS (kvs.map (·.1))).map V.str)) H2→Q (.ref p) H2:=uR1_r
def tVals (to:TE):TE:=fun σ H Q=>to σ H fun x H1=>uR x fun a=>∃ kvs,Rd H1 a (.dK kvs)∧∀ v H2,New H1 v (.ext fun h=>h.IsValuesView v a) H2→Q (.ref v) H2
theorem tVals_eq {to:TE} {σ:St} {H:Hp} {Q:VK}:tVals to σ H Q=to σ H fun x H1=>uR x fun a=>∃ kvs,Rd H1 a (.dK kvs)∧∀ v H2,New H1 v (.ext fun h=>h.IsValuesView v a) H2→Q (.ref v) H2:=rfl
def uListV:List V→Hp→VK→Prop:=fun xs H Q=>uR1 xs fun v=>∃ a kvs,H v=some (.ext fun h=>h.IsValuesView v a)∧Rd H a (.dK kvs)∧∀ p H2,New H p (.lst (kvs.map (·.2))) H2→Q (.ref p) H2
theorem uListV_r {v:Addr} {H:Hp} {Q:VK}:uListV [.ref v] H Q = ∃ a kvs,H v=some (.ext fun h=>h.IsValuesView v a)∧Rd H a (.dK kvs)∧∀ p H2,New H p (.lst (kvs.map (·.2))) H2→Q (.ref p) H2:=uR1_r
end
end L2
set_option Elab.async false
set_option linter.all false
set_option maxRecDepth 100000
set_option maxHeartbeats 4000000
namespace HT
open PySem PySem.Spec PyProof.Rows PySem.Calls
section
variable {prog:Program} {w:World} {A:Around} {E:Value→Shared→Prop} {s:Shared}
end
end HT
namespace L2
open PySem PySem.Spec PyProof.Rows PySem.W PySem.Calls
section
variable {X:Cx}
def uSlT:V→Option Int→Option Int→Hp→VK→Prop:=fun x lo hi H Q=>uSl x lo hi H Q∨∃ a xs,x = .ref a∧H a=some (.tup xs)∧∀ p H2,Same H H2→H2 p=some (.tup (cutV xs lo hi))→Q (.ref p) H2
theorem uSlT_s {z:Str} {lo hi:Option Int} {H:Hp} {Q:VK}:uSlT (.str z) lo hi H Q=(z.length≤sizeLine∧Q (.str (Txt.slice z lo hi)) H):=by simp [uSlT,uSl_s]
theorem uSlT_r {a:Addr} {lo hi:Option Int} {H:Hp} {Q:VK}:uSlT (.ref a) lo hi H Q=((∃ xs,H a=some (.lst xs)∧∀ p H2,New H p (.lst (cutV xs lo hi)) H2→Q (.ref p) H2)∨∃ xs,H a=some (.tup xs)∧∀ p H2,Same H H2→H2 p=some (.tup (cutV xs lo hi))→Q (.ref p) H2):=by
 unfold uSlT
 rw [uSl_r]
 apply propext; constructor
 ·rintro (h|⟨a',xs,e,h⟩)
  ·exact .inl h
  ·cases e; exact .inr ⟨xs,h⟩
 ·rintro (h|⟨xs,h⟩)
  ·exact .inl h
  ·exact .inr ⟨a,xs,rfl,h⟩
def rCatU:R2:=fun x y H Q=>∃ a b xs ys,x = .ref a∧y = .ref b∧H a=some (.tup xs)∧H b=some (.tup ys)∧xs.length+ys.length≤sizeLine∧∀ p H2,Same H H2→H2 p=some (.tup (xs++ys))→Q (.ref p) H2
def uAddT:R2:=fun x y H Q=>uAdd x y H Q∨rCatU x y H Q
theorem uAddT_ii {i j:Int} {H:Hp} {Q:VK}:uAddT (.int i) (.int j) H Q=Q (.int (i+j)) H:=by simp [uAddT,rCatU,uAdd]
theorem uAddT_ss {i j:Str} {H:Hp} {Q:VK}:uAddT (.str i) (.str j) H Q=(i.length+j.length≤sizeLine∧Q (.str (i++j)) H):=by simp [uAddT,rCatU,uAdd]
theorem uAddT_rr {a b:Addr} {H:Hp} {Q:VK}:uAddT (.ref a) (.ref b) H Q=((∃ xs zs,H a=some (.lst xs)∧H b=some (.lst zs)∧xs.length+zs.length≤sizeLine∧∀ p H2,New H p (.lst (xs++zs)) H2→Q (.ref p) H2) ∨
  ∃ xs ys,H a=some (.tup xs)∧H b=some (.tup ys)∧xs.length+ys.length≤sizeLine∧∀ p H2,Same H H2→H2 p=some (.tup (xs++ys))→Q (.ref p) H2):=by
 unfold uAddT
 rw [uAdd_rr]
 apply propext; constructor
 ·rintro (h|⟨a',b',xs,ys,e1,e2,h⟩)
  ·exact .inl h
  ·cases e1; cases e2; exact .inr ⟨xs,ys,h⟩
 ·rintro (h|⟨xs,ys,h⟩)
  ·exact .inl h
  ·exact .inr ⟨a,b,xs,ys,rfl,rfl,h⟩
def uDivmod:List V→Hp→VK→Prop:=fun xs H Q=>∃ i j,xs=[.int i,.int j]∧(0<j∧j<2 ^ 64)∧∀ p H2,New H p (.tup [.int (i / j),.int (i % j)]) H2→Q (.ref p) H2
theorem uDivmod_ii {i j:Int} {H:Hp} {Q:VK}:uDivmod [.int i,.int j] H Q=((0<j∧j<2 ^ 64)∧∀ p H2,New H p (.tup [.int (i / j),.int (i % j)]) H2→Q (.ref p) H2):=by
 apply propext; constructor
 ·rintro ⟨i',j',e,h⟩; cases e; exact h
 ·exact fun h=>⟨i,j,rfl,h⟩
theorem call_divmodU:CallR X (.builtin "divmod") uDivmod:=by
 intro pins s σ H xs us Q I r h
 obtain ⟨i,j,rfl,⟨h1,h2⟩,q⟩:=h
 obtain ⟨u,w',rfl,⟨t,rfl⟩,⟨t',rfl⟩⟩:=vals2 r
 have hlog:j.natAbs.log2<9000:=by
  have:j.natAbs.log2<64:=(Nat.log2_lt (by omega)).mpr (by omega)
  omega
 refine divmod_int (by omega) ?_ (.inl (PyProof.noPylong_of_log2 hlog))
 rw [Int.fdiv_eq_ediv_of_nonneg i (by omega),Int.fmod_eq_emod_of_nonneg i (by omega)]
 have hn:H s.heap.objs.size=none:=I.hok.fresh (Nat.le_refl _)
 refine ⟨.ref s.heap.objs.size,_,?_,rfl,q _ _ (.mk' hn)⟩
 refine I.laid (fun b o e=>Heap.get?_push_of_some _ e) (Nat.le_refl _) ⟨by simp only [List.length_cons,List.length_nil]; rw [sizeLine_eq]; decide,[.int (i / j) s.toks,.int (i % j) (s.toks+1)],.cons ⟨_,rfl⟩ (.cons ⟨_,rfl⟩ .nil),?_⟩
 exact ⟨_,Heap.get?_push_size s.heap rfl,rfl,0,rfl⟩
def uLeT:R2:=fun x y H Q=>rI0 (fun i j=>.bl (decide (i≤j))) x y H Q∨∃ i j,x = .str i∧y = .str j∧Q (.bl (!decide (j.cps.toList<i.cps.toList))) H
theorem uLeT_ii {i j:Int} {H:Hp} {Q:VK}:uLeT (.int i) (.int j) H Q=Q (.bl (decide (i≤j))) H:=by simp [uLeT,rI0]
theorem uLeT_ss {i j:Str} {H:Hp} {Q:VK}:uLeT (.str i) (.str j) H Q=Q (.bl (!decide (j.cps.toList<i.cps.toList))) H:=by simp [uLeT,rI0]
def tDead:TS:=fun _ _ _=>False
def uExt (to te:TE):TE:=fun σ H Q=>to σ H fun x H1=>uR x fun l=>(∃ xs,H1 l=some (.lst xs))∧te σ H1 fun y H2=>uR y fun b=>∃ xs zs,H2 l=some (.lst xs)∧H2 b=some (.lst zs)∧xs.length+zs.length≤sizeLine∧Q .non (upd H2 l (.lst (xs++zs)))
theorem uExt_eq {to te:TE} {σ:St} {H:Hp} {Q:VK}:uExt to te σ H Q=to σ H fun x H1=>uR x fun l=>(∃ xs,H1 l=some (.lst xs))∧te σ H1 fun y H2=>uR y fun b=>∃ xs zs,H2 l=some (.lst xs)∧H2 b=some (.lst zs)∧xs.length+zs.length≤sizeLine∧Q .non (upd H2 l (.lst (xs++zs))):=rfl
theorem pe_extend {o e:Expr} {to te:TE} {apos cpos:Pos} (ho:PE X o to) (he:PE X e te)
  (hbase:attributeBase o "extend" X.env (eval o X.env)=eval o X.env:=by rfl)
  (hline:(apos.endLine == cpos.line)=true:=by rfl) (hp:plainE e=true:=by rfl):PE X (.Call (.Attribute o "extend" apos) [e] [] cpos) (uExt to te):=by
 intro pins s σ H Q I h
 have hs:starEach [e] X.env=[(false,eval e X.env)]:=star1 hp
 refine wpAny_Call_method_late hbase (by rw [hs]; rfl) hline rfl (thn (ho pins s σ H _ I h) fun v s1 ⟨x,H1,I1,r1,l,ex,⟨xs,hx⟩,q1⟩=>?_)
 subst ex
 obtain ⟨h1,h2⟩:=tyV_is (T:="list") I1 r1 (.inl ⟨rfl,xs,SqL.of hx⟩)
 refine ⟨"list","list.extend",PySem.F.plainAttrs_list,PySem.F.slot_list_extend,PySem.F.type_list_extend,h1,h2,?_⟩
 rw [hs]
 refine Calls.callWith_builtin rfl (Calls.evalArgs_plain ?_)
 refine Calls.spliced_cons (thn (he pins s1 σ H1 _ I1 q1) fun u s2 ⟨y,H2,I2,r2,b,ey,xs',zs,hl,hb,hz,q⟩=>Calls.spliced_nil ?_)
 subst ey
 exact mt_extend pins s2 σ H2 (.ref l) [.ref b] v [u] Q I2 r1 (.cons r2 .nil) ⟨l,b,xs',zs,rfl,rfl,hl,hb,hz,q⟩
end
section
variable {K:PySem.W.Frag} {g:TG} {tb:TS} {D:Ends} {σ:St} {H:Hp} {tl:TE} {R:It→Hp→Prop} {tt:TT} {te:TE} {Q:VK} {a:Addr} {o:Obj} {kvs:List (Key×V)}
theorem iDict_eq:iDict tl σ H R=tl σ H fun x H1=>uR x fun a=>∃ o kvs,H1 a=some (.frz o (.dK kvs))∧R (Itd a o kvs) H1:=by
 unfold iDict uR
 congr; funext x H1
 apply propext; constructor
 ·rintro ⟨a,o,kvs,e,h⟩; exact ⟨a,e,o,kvs,h⟩
 ·rintro ⟨a,e,o,kvs,h⟩; exact ⟨a,o,kvs,e,h⟩
theorem iVals_eq:iVals tl σ H R=tl σ H fun x H1=>uR x fun a=>∃ o kvs,H1 a=some (.frz o (.dK kvs))∧R (Itw a o kvs) H1:=by
 unfold iVals uR
 congr; funext x H1
 apply propext; constructor
 ·rintro ⟨a,o,kvs,e,h⟩; exact ⟨a,e,o,kvs,h⟩
 ·rintro ⟨a,e,o,kvs,h⟩; exact ⟨a,o,kvs,e,h⟩
theorem ForJ.dct (Pv:Nat→St→Hp→Prop) (h0:Pv 0 σ H) (hl:∀ i σ H,i≤kvs.length→Pv i σ H→H a=some (.frz o (.dK kvs)))
  (hs:∀ i p σ H,kvs[i]?=some p→Pv i σ H→g (kV p.1) σ H fun σ2 H2=>tb { D with nx:=Pv (i+1),ct:=Pv (i+1),bk:=D.nx } σ2 H2) (hd:∀ σ H,Pv kvs.length σ H→D.nx σ H):ForJ (Itd a o kvs) g tb D σ H:=by
 refine ⟨fun i m σ H=>m=kvs.length - i∧i≤kvs.length∧Pv i σ H,⟨kvs.length,by simp,Nat.zero_le _,h0⟩,?_⟩
 rintro i m σ H ⟨rfl,hi,p⟩
 have q:=hl i σ H hi p
 by_cases hlt:i<kvs.length
 ·refine .inr ⟨⟨q,hlt⟩,Pv (i+1),fun σ' H' p'=>⟨kvs.length - (i+1),by omega,rfl,hlt,p'⟩,fun x H' y=>?_⟩
  obtain ⟨e,z,hz,ex⟩:=y
  subst e ex
  exact hs i z σ _ hz p
 ·have e:i=kvs.length:=by omega
  subst e
  exact .inl ⟨⟨q,Nat.le_refl _⟩,hd σ H p⟩
theorem CompJ.dct {τ:St} (Pv:Nat→St→List V→Hp→Prop) (hz:∀ i τ ys H,Pv i τ ys H→ys.length<sizeLine) (ha:∀ i τ ys H,Pv i τ ys H→H a=some (.frz o (.dK kvs))) (h0:Pv 0 τ [] H)
  (hs:∀ (N:St→List V→Hp→Prop) i p τ ys H,kvs[i]?=some p→Pv i τ ys H→(∀ τ ys H,Pv (i+1) τ ys H→N τ ys H)→g (kV p.1) τ H fun τ1 H4=>tt τ1 H4 fun ok H5=>CompN N ys τ1 te ok H5) (hd:∀ τ ys H,Pv kvs.length τ ys H→∀ D H',New H D (.lst ys) H'→Q (.ref D) H'):CompJ (Itd a o kvs) g tt te τ H Q:=by
 refine ⟨fun i m τ ys H=>m=kvs.length - i∧i≤kvs.length∧Pv i τ ys H,⟨kvs.length,by simp,Nat.zero_le _,h0⟩,?_⟩
 rintro i m τ ys H2 ⟨rfl,hi,p⟩
 refine ⟨hz i τ ys H2 p,?_⟩
 have q:=ha i τ ys H2 p
 by_cases hlt:i<kvs.length
 ·refine .inr ⟨⟨q,hlt⟩,fun x H' y=>?_⟩
  obtain ⟨e,z,hz,ex⟩:=y
  subst e ex
  exact hs (fun τ1 ys H=>∃ m',m'<kvs.length - i∧m'=kvs.length - (i+1)∧i+1≤kvs.length∧Pv (i+1) τ1 ys H) i z τ ys _ hz p fun τ1 zs H q=>⟨kvs.length - (i+1),by omega,rfl,hlt,q⟩
 ·have e:i=kvs.length:=by omega
  subst e
  exact .inl ⟨⟨q,Nat.le_refl _⟩,fun D hD _=>hd τ ys H2 p D _ (.mk' hD)⟩
theorem tFz_eq {t:TS}:tFz t D σ H = ∃ a kvs,H a=some (.dK kvs)∧∀ o,t (D.thaw a kvs) σ (upd H a (.frz o (.dK kvs))):=rfl
theorem tFzE_eq {t:TE}:tFzE t σ H Q = ∃ a kvs,H a=some (.dK kvs)∧∀ o,t σ (upd H a (.frz o (.dK kvs))) fun v H'=>Thawed a kvs H' (Q v):=rfl
end
end L2
set_option Elab.async false
set_option linter.all false
set_option maxRecDepth 100000
set_option maxHeartbeats 4000000
namespace L2
open PySem PySem.Spec PyProof.Rows
section
variable {X:Cx}
theorem w_pi_dict {tg:Expr} {l:Expr} {tl:TE} (hl:W (PE X l tl)):W (PI X tg l (iDict tl)):=⟨pi_dict (hl:=hl.h)⟩
theorem w_pe_fz {X:Cx} {e:Expr} {t:TE} (h:W (PE X e t)):W (PE X e (tFzE t)):=⟨pe_fz (h:=h.h)⟩
theorem w_pe_extend {o e:Expr} {to te:TE} {apos cpos:Pos} (ho:W (PE X o to)) (he:W (PE X e te)) (hbase:attributeBase o "extend" X.env (eval o X.env)=eval o X.env:=by rfl) (hline:(apos.endLine == cpos.line)=true:=by rfl) (hp:plainE e=true:=by rfl):W (PE X (.Call (.Attribute o "extend" apos) [e] [] cpos) (uExt to te)):=⟨pe_extend (ho:=ho.h) (he:=he.h) (hbase:=hbase) (hline:=hline) (hp:=hp)⟩
end
end L2
set_option Elab.async false
set_option linter.all false
set_option maxRecDepth 100000
set_option maxHeartbeats 4000000
namespace L2
open PySem PySem.Spec PyProof.Rows
section
variable {α β:Type}
def look (t:List (Str×α)) (n:Str):Option α:=(t.find? fun p=>decide (p.1=n)).map (·.2)
theorem look_cons {p:Str×α} {t:List (Str×α)} {n:Str}:look (p::t) n=if p.1=n then some p.2 else look t n:=by
 unfold look
 by_cases h:p.1=n
 ·rw [List.find?_cons_of_pos (by simpa using h),if_pos h]; rfl
 ·rw [List.find?_cons_of_neg (by simpa using h),if_neg h]
def Dct (R:V→α→Prop):List (Str×V)→List (Str×α)→Prop:=Paired fun p q=>p.1=q.1∧R p.2 q.2
theorem Dct.length {R:V→α→Prop} {kvs:List (Str×V)} {t:List (Str×α)} (h:Dct R kvs t):kvs.length=t.length:=Paired.length h
theorem Dct.look {R:V→α→Prop} {kvs:List (Str×V)} {t:List (Str×α)} (h:Dct R kvs t) (n:Str):(∃ v a,L2.look kvs n=some v∧L2.look t n=some a∧R v a)∨(L2.look kvs n=none∧L2.look t n=none):=by
 induction h with
 | nil=>exact .inr ⟨rfl,rfl⟩
 | cons r _ ih =>
  rw [look_cons,look_cons,← r.1]
  split
  ·exact .inl ⟨_,_,rfl,rfl,r.2⟩
  ·exact ih
theorem Dct.at {R:V→α→Prop} {kvs:List (Str×V)} {t:List (Str×α)} (h:Dct R kvs t):∀ {i:Nat} {p:Str×V},kvs[i]?=some p→∃ a,t[i]?=some (p.1,a)∧R p.2 a:=by
 induction h with
 | nil=>intro i p e; simp at e
 | @cons x y _ _ r _ ih =>
  intro i p e
  cases i with
  | zero =>
   have e':x=p:=by simpa using e
   subst e'
   exact ⟨y.2,by rw [r.1]; rfl,r.2⟩
  | succ i=>exact ih (by simpa using e)
end
theorem rIxD_rs {a:Addr} {z:Str} {H:Hp} {Q:VK}:rIxD (.ref a) (.str z) H Q = ∃ kvs,Rd H a (.dK kvs)∧∃ v,valV kvs (.inr z)=some v∧Q v H:=by
 apply propext; constructor
 ·rintro ⟨a',k,kvs,v,e1,e2,h1,h2,q⟩
  cases e1
  cases k with
  | inl i=>cases e2
  | inr x=>cases e2; exact ⟨kvs,h1,v,h2,q⟩
 ·rintro ⟨kvs,h1,v,h2,q⟩
  exact ⟨a,.inr z,kvs,v,rfl,rfl,h1,h2,q⟩
theorem rCatU_rr {a b:Addr} {H:Hp} {Q:VK}:rCatU (.ref a) (.ref b) H Q = ∃ xs ys,H a=some (.tup xs)∧H b=some (.tup ys)∧xs.length+ys.length≤sizeLine∧∀ p H2,Same H H2→H2 p=some (.tup (xs++ys))→Q (.ref p) H2:=by
 apply propext; constructor
 ·rintro ⟨a',b',xs,ys,e1,e2,h⟩; cases e1; cases e2; exact ⟨xs,ys,h⟩
 ·rintro ⟨xs,ys,h⟩; exact ⟨a,b,xs,ys,rfl,rfl,h⟩
def uLenK:List V→Hp→VK→Prop:=fun xs H Q=>uR1 xs fun a=>∃ kvs,Rd H a (.dK kvs)∧Q (.int kvs.length) H
theorem uLenK_r {a:Addr} {H:Hp} {Q:VK}:uLenK [.ref a] H Q = ∃ kvs,Rd H a (.dK kvs)∧Q (.int kvs.length) H:=uR1_r
def uNin:R2:=fun x y H Q=>∃ p xs,y = .ref p∧(H p=some (.lst xs)∨H p=some (.tup xs))∧flatV x=true∧xs.all flatV=true∧Q (.bl (!inV x xs)) H
theorem op_ninU {X:Cx} (hu:X.A.units<cLine):OpR X (compareOp .NotIn) uNin:=op_notIn_seq.weak fun x y H Q h=>by
 obtain ⟨p,xs,e,h,f1,f2,q⟩:=h
 exact ⟨p,xs,e,h.elim (fun h=>.inl (SqL.of h)) (fun h=>.inr (SqT.of h)),f1,f2,by simpa using q⟩
theorem uNin_r {x:V} {p:Addr} {H:Hp} {Q:VK}:uNin x (.ref p) H Q = ∃ xs,(H p=some (.lst xs)∨H p=some (.tup xs))∧flatV x=true∧xs.all flatV=true∧Q (.bl (!inV x xs)) H:=by simp [uNin]
end L2
set_option Elab.async false
set_option linter.all false
set_option maxRecDepth 100000
set_option maxHeartbeats 4000000
namespace L2
open PySem PySem.Spec PyProof.Rows
section
variable {M:Model} {A:Around} {E:Value→Shared→Prop} {s:Shared}
theorem callWithBK {pos:Pos} {id:String} {args:List (Bool×Sem Value)} {keywords:List (Option Str×Sem Value)} {Q:Value→Shared→Prop} (hplain:args.any (·.1)=false) (hkw:keywords.any (·.1.isNone)=false)
  (h:wpAny M A (evalArgs (.builtin id) true args keywords) (fun a s1=>wpAny M A (call (.builtin id) a.pos a.kw) Q E s1) E s):wpAny M A (callWith pos (.builtin id) [] args keywords) Q E s:=by
 unfold callWith
 refine wpAny_bind (wpAny_holding (wpAny_mono h (fun a s1 h1=>wpAny_bind (wpAny_standAt ?_)) fun _ _ x=>x))
 simp only [hplain,hkw,Bool.or_false]
 exact wpAny_bind (wpAny_pure (wpAny_bind (wpAny_mono h1 (fun r s2 hr=>wpAny_bind (wpAny_holding (wpAny_point (wpAny_pure hr)))) fun _ _ x=>x)))
end
theorem eval_01 {prog:Program} {w:World} {A:Around} {E:Value→Shared→Prop} {s:Shared} {env:Env} {x:Str} {p1 p2 p3 p4 p5:Pos} {j1 j2:Nat} {m:Str→Option Value} {a r:Addr} {its ks:Array Value} {k:Int} {t:Tok} {Q:Value→Shared→Prop}
  (hk:env.scope.kind = .function) (hl:env.kindOf x=some .local) (hn:s.heap.Ns env.locals m) (hm:m x=some (.ref a)) (ha:IsTup s.heap a its) (h0:its[0]?=some (.ref r)) (hr:IsTup s.heap r ks) (h1:ks[1]?=some (.int k t)) (hd:(x == ("__debug__" : Str))=false)
  (q:∀ tk,Q (.int k t) { s with toks:=tk }):wpAny (model prog w) A (eval (.Subscript (.Subscript (.Name x p1) (.Constant (.int 0) j1 p2) p3) (.Constant (.int 1) j2 p4) p5) env) Q E s:=by
 refine Subscript_ (Subscript_ (wpAny_Name (wpAny_loadName_local hk hl hn hm ?_) hd))
 refine wpAny_Constant_int ?_
 have s0:0<its.size:=(Array.getElem?_eq_some_iff.mp h0).1
 have s1:1<ks.size:=(Array.getElem?_eq_some_iff.mp h1).1
 refine subscriptTail_builtinR (x:=.ref r) (T:="tuple") ha.typeIs slot_tuple_getitem.lookup (getItem_tuple (j:=0) ha (by decide) (by decide) (by simp [seqIndex?,s0]) h0 ⟨rfl,?_⟩)
 refine wpAny_Constant_int ?_
 exact subscriptTail_builtinR (x:=.int k t) (T:="tuple") hr.typeIs slot_tuple_getitem.lookup (getItem_tuple (j:=1) hr (by decide) (by decide) (by simp [seqIndex?]; omega) h1 ⟨rfl,q _⟩)
def LamT (pos:Pos) (qual:Str) (H:Hp) (P:Addr):Prop :=
 H P=some (.tbl #[])∨∃ c' oc vs t,H P=some (.tbl #[rawInt pos.line,rawInt pos.col,.ref c'])∧H c'=some (.frz oc (.own 0))∧oc.data = .fields vs∧vs[1]?=some (.str qual t)
structure LamB (mg:Str→Option Value) (base:Heap) (cdv:Value) (P:Addr):Prop where
 cd:∃ c,cdv = .ref c∧PySem.W.CodeHd base c P
 bt:∃ bm o,mg "__builtins__" = some (.ref bm)∧bm≠builtinsNs∧bm≠mainGlobals∧base.get? bm=some o∧o.cls = .type "module"∧o.dict=some builtinsNs∧o.data = .plain
def Lams (H H':Hp) (P:Addr):Prop:=∀ a o,a≠P→H a=some o→H' a=some o
theorem mk_lam {X:Cx} {pins:List (Addr×Obj)} {σ:St} {H:Hp} {s:Shared} {E:Value→Shared→Prop} {Q:Value→Shared→Prop} {params:Arguments} {body:Expr} {scope:Scope} {pos:Pos} {P:Addr} (LB:LamB X.mg X.base X.env.code P)
  (hdef:defaultsOf params X.env=([],[])) (hcl:closureFor scope X.env=pure []) (I:Inv X pins σ H s) (hT:LamT pos (X.env.qual++"<lambda>") H P)
  (h:∀ (f c':Addr) (ctv:Value) (h':Heap) (tk:Nat) (H':Hp),f+1=h'.objs.size→s.heap.objs.size≤f→h'.CodeRec (.ref c') (X.env.qual++"<lambda>") →
   h'.get? f=some (PySem.W.kla_obj "<lambda>" (X.env.qual++"<lambda>") params body scope [] ((X.mg "__name__").getD .none) c' ctv)→LamT pos (X.env.qual++"<lambda>") H' P→Lams H H' P→Inv X pins σ H' { s with heap:=h',toks:=tk }→Q (.ref f) { s with heap:=h',toks:=tk }) :
  wpAny (model X.prog X.w) X.A (eval (.Lambda params body scope pos) X.env) Q E s:=by
 refine PySem.W.kla_eval hdef ?_
 obtain ⟨c,hc,C⟩:=LB.cd
 obtain ⟨bm,ob,b1,b2,b3,b4,b5,b6,b7⟩:=LB.bt
 obtain ⟨og,esg,epg,eg,hdg⟩:=id I.ok.mod.glob
 have hgs:s.heap.Ns mainGlobals X.mg:=I.ok.mod.glob.keeps I.bk
 have neP:∀ {b:Addr} {o:Obj} {u:HO},X.base.get? b=some o→H P=some u→b≠P:=fun e hP z=>by
  have:=(I.bs _ _ e).2
  rw [z,hP] at this; cases this
 rcases hT with hP|⟨c',oc,vs,t,hP,hc',hd,hv⟩
 ·have hPs:s.heap.get? P=some (PySem.W.tabObj #[]):=I.hok P _ hP
  refine PySem.W.kla_makeFunction (mg:=X.mg) hcl I.ok.glob hgs hc (C.keeps I.bk) hPs trivial rfl (neP eg hP) ⟨bm,ob,b1,b2,b3,neP b4 hP,I.bk _ _ b4,b5,b6,b7⟩ fun c' ctv h' tk hx hge hlt hrec htb=>?_
  obtain ⟨c₂,oc,vs,t,e2,hoc,hd,hv⟩:=hrec
  cases e2
  have szP:P<s.heap.objs.size:=Heap.lt_size hPs
  have cP:c'≠P:=fun z=>by rw [z] at hge; exact absurd szP (Nat.not_lt.mpr hge)
  have neC:∀ {b:Addr} {u:HO},H b=some u→b≠c':=fun e z=>by
   have:=I.hok.lt e
   rw [z] at this; exact absurd this (Nat.not_lt.mpr hge)
  have neC2:∀ {b:Addr} {u:Obj},s.heap.get? b=some u→b≠c':=fun e z=>by
   have:=Heap.lt_size e
   rw [z] at this; exact absurd this (Nat.not_lt.mpr hge)
  have kp:∀ b o,b≠P→s.heap.get? b=some o→(h'.push (PySem.W.kla_obj "<lambda>" (X.env.qual++"<lambda>") params body scope [] ((X.mg "__name__").getD .none) c' ctv)).get? b=some o:=fun b o n e=>Heap.get?_push_of_some _ (hx b o n e)
  let H':Hp:=upd (upd H P (.tbl #[rawInt pos.line,rawInt pos.col,.ref c'])) c' (.frz oc (.own 0))
  have hH':∀ b,b≠P→b≠c'→H' b=H b:=fun b n1 n2=>by show upd _ c' _ b=H b; rw [upd_ne n2,upd_ne n1]
  have hHP:H' P=some (.tbl #[rawInt pos.line,rawInt pos.col,.ref c']):=by show upd _ c' _ P=_; rw [upd_ne (Ne.symm cP),upd_same]
  have hHc:H' c'=some (.frz oc (.own 0)):=upd_same
  have nP:∀ b,H b=none→b≠P:=fun b e z=>by rw [z,hP] at e; cases e
  have ext:∀ b u,H b=some u→(∀ ps,u≠.tbl ps)→H' b=some u:=fun b u e n=>by rw [hH' b (fun z=>by rw [z,hP] at e; cases e; exact n _ rfl) (neC e)]; exact e
  have un:Un X.fs [] H H' s.heap (h'.push (PySem.W.kla_obj "<lambda>" (X.env.qual++"<lambda>") params body scope [] ((X.mg "__name__").getD .none) c' ctv)):=by
   refine ⟨fun b o e n _ _=>kp b o (nP b n) e,fun b o e n _ _=>⟨o.slots,kp b o (nP b n) e⟩,fun b o e n _=>by rw [hH' b (nP b n) (neC2 e)]; exact n,fun b o e _=>?_,fun b xs e=>ext b _ e fun _=>nofun,fun b o u e=>ext b _ e fun _=>nofun,fun b ps e=>?_⟩
   ·by_cases z:b=P
    ·exact ⟨_,by rw [z]; exact Heap.get?_push_of_some _ htb⟩
    ·exact ⟨o,kp b o z e⟩
   ·by_cases z:b=P
    ·rw [z,hP] at e
     cases e
     exact ⟨#[rawInt pos.line,rawInt pos.col,.ref c'],by rw [z,hHP]; simp⟩
    ·exact ⟨#[],by rw [hH' b z (neC e),e]; simp⟩
  have hok:HOk X.prog X.w H' (h'.push (PySem.W.kla_obj "<lambda>" (X.env.qual++"<lambda>") params body scope [] ((X.mg "__name__").getD .none) c' ctv)):=fun a o e=>by
   by_cases z1:a=c'
   ·rw [z1,hHc] at e
    cases e
    rw [z1]
    exact ⟨Heap.get?_push_of_some _ hoc,⟨_,Heap.get?_push_of_some _ hoc⟩⟩
   ·by_cases z2:a=P
    ·rw [z2,hHP] at e
     cases e
     rw [z2]
     show Heap.get? _ P=_
     exact Heap.get?_push_of_some _ htb
    ·rw [hH' a z2 z1] at e
     refine (I.hok a o e).stay (fun b u hb q=>kp b u ?_ q) (fun b q=>ext b _ q fun _=>nofun) fun b xs q=>ext b _ q fun _=>nofun
     rcases hb with rfl|hb
     ·exact z2
     ·intro z; rw [z,hP] at hb; cases hb
  refine h h'.objs.size c' ctv _ tk H' (by rw [size_push']) (Nat.le_of_lt (Nat.lt_of_le_of_lt hge hlt)) ⟨c',oc,vs,t,rfl,Heap.get?_push_of_some _ hoc,hd,hv⟩ (Heap.get?_push_size _ rfl) (.inr ⟨c',oc,vs,t,hHP,hHc,hd,hv⟩) (fun a o n e=>by rw [hH' a n (neC e)]; exact e) (I.un un hok)
 ·have hPs:s.heap.get? P=some (PySem.W.tabObj #[rawInt pos.line,rawInt pos.col,.ref c']):=I.hok P _ hP
  have hcs:s.heap.get? c'=some oc:=(I.hok c' _ hc').1
  refine PySem.W.kla_makeFunctionHit (mg:=X.mg) (cv:=.ref c') hcl I.ok.glob hgs hc (C.keeps I.bk) hPs ?_ ?_ ⟨bm,ob,b1,b2,b3,neP b4 hP,I.bk _ _ b4,b5,b6,b7⟩ fun ctv h' tk hk hsz=>?_
  ·exact trivial
  ·simp [codeAmong,rawInt]
  ·exact h h'.objs.size c' ctv _ tk H (by rw [size_push']) hsz ⟨c',oc,vs,t,rfl,Heap.get?_push_of_some _ (hk _ _ hcs),hd,hv⟩ (Heap.get?_push_size _ rfl) (.inr ⟨c',oc,vs,t,hP,hc',hd,hv⟩) (fun _ _ _ e=>e) (I.kept fun b o e=>Heap.get?_push_of_some _ (hk b o e))
def KeyAt (H:Hp) (a:Addr) (k:Int):Prop:=∃ r rest y ys,H a=some (.tup (.ref r::rest))∧H r=some (.tup (y::.int k::ys))
def wSortK (P:Addr) (pos:Pos) (qual:Str) (v:V) (H1:Hp) (Q:VK):Prop:=uR v fun l=>∃ (as:List Addr) (ks:List Int),H1 l=some (.lst (as.map V.ref))∧LamT pos qual H1 P∧as.length<64∧Paired (KeyAt H1) as ks ∧
 ∀ (D:Addr) (zs:List (Int×Addr)) (H2:Hp),Lams H1 H2 P→LamT pos qual H2 P→H1 D=none→D≠P→D≠sysModules→H2 D=some (.lst (zs.map fun z=>V.ref z.2))→zs.Perm (ks.zip as)→zs.Pairwise (fun p q=>p.1≤q.1)→Q (.ref D) H2
def tSortK (P:Addr) (pos:Pos) (qual:Str) (ta:TE):TE:=fun σ H Q=>ta σ H fun v H1=>wSortK P pos qual v H1 Q
theorem tSortK_eq {P:Addr} {pos:Pos} {qual:Str} {ta:TE} {σ:St} {H:Hp} {Q:VK}:tSortK P pos qual ta σ H Q=ta σ H fun v H1=>wSortK P pos qual v H1 Q:=rfl
theorem wSortK_r {P:Addr} {pos:Pos} {qual:Str} {l:Addr} {H1:Hp} {Q:VK}:wSortK P pos qual (.ref l) H1 Q = ∃ (as:List Addr) (ks:List Int),H1 l=some (.lst (as.map V.ref))∧LamT pos qual H1 P∧as.length<64∧Paired (KeyAt H1) as ks ∧
 ∀ (D:Addr) (zs:List (Int×Addr)) (H2:Hp),Lams H1 H2 P→LamT pos qual H2 P→H1 D=none→D≠P→D≠sysModules→H2 D=some (.lst (zs.map fun z=>V.ref z.2))→zs.Perm (ks.zip as)→zs.Pairwise (fun p q=>p.1≤q.1)→Q (.ref D) H2:=uR_r
theorem vals_refs {as:List Addr} {its:List Value} (h:Vals (as.map V.ref) its):its=as.map Value.ref:=by
 induction as generalizing its with
 | nil=>cases h; rfl
 | cons a as ih =>
  cases h with
  | cons r rr=>rw [ih rr,show _=Value.ref a from r]; rfl
theorem refs_vals (as:List Addr):Vals (as.map V.ref) (as.map Value.ref):=by
 induction as with
 | nil=>exact .nil
 | cons a as ih=>exact .cons rfl ih
theorem perm_refs {l:List (Int×Addr)} {ps:List (Int×Value)} (h:ps.Perm (l.map fun z=>(z.1,Value.ref z.2))):∃ zs:List (Int×Addr),zs.Perm l∧ps=zs.map fun z=>(z.1,Value.ref z.2):=by
 let g:Int×Value→Int×Addr:=fun p=>(p.1,match p.2 with | .ref a=>a|_=>0)
 have e1:(l.map fun z=>(z.1,Value.ref z.2)).map g=l:=by
  rw [List.map_map]
  have:(g∘fun z:Int×Addr=>(z.1,Value.ref z.2))=id:=rfl
  rw [this,List.map_id]
 refine ⟨ps.map g,by have:=h.map g; rw [e1] at this; exact this,?_⟩
 rw [List.map_map]
 have:∀ p∈ps,((fun z:Int×Addr=>(z.1,Value.ref z.2))∘g) p=p:=fun p hp=>by
  obtain ⟨z,_,rfl⟩:=List.mem_map.mp (h.mem_iff.mp hp)
  rfl
 exact (List.map_id ps).symm.trans (List.map_congr_left fun p hp=>(this p hp).symm)
theorem zip_refs:∀ (ks:List Int) (as:List Addr),ks.zip (as.map Value.ref)=(ks.zip as).map fun z=>(z.1,Value.ref z.2)
 | [],_=>rfl
 | _::_,[]=>rfl
 | k::ks,a::as=>by rw [List.map_cons,List.zip_cons_cons,List.zip_cons_cons,List.map_cons,zip_refs ks as]
theorem paired_at {α β:Type} {R:α→β→Prop}:∀ {l:List α} {m:List β},Paired R l m→∀ {i:Nat} {a:α} {b:β},l[i]?=some a→m[i]?=some b→R a b
 | _,_,.nil,i,a,b,h,_=>by simp at h
 | _,_,.cons r t,0,a,b,h,h'=>by
  simp at h h'
  subst h h'
  exact r
 | _,_,.cons r t,i+1,a,b,h,h'=>paired_at t (by simpa using h) (by simpa using h')
theorem paired_len {α β:Type} {R:α→β→Prop} {l:List α} {m:List β} (h:Paired R l m):l.length=m.length:=Paired.length h
theorem pe_sortK {X:Cx} {cm:Bool} {k:Nat} {a:Expr} {ta:TE} {x:Str} {params:Arguments} {scope:Scope} {p pos lpos kp p1 p2 p3 p4 p5:Pos} {j1 j2:Nat} {P:Addr} (LB:LamB X.mg X.base X.env.code P) (hr:Room cm k X.A)
  (hg:Gl X "sorted") (hm:X.mg "sorted" = none) (ha:PE X a ta) (hdef:defaultsOf params X.env=([],[])) (hcl:closureFor scope X.env=pure [])
  (hbind:∀ (q:Str) (pm cd ct v:Value),bindArgs (PySem.W.kla_fn "<lambda>" q params (.Subscript (.Subscript (.Name x p1) (.Constant (.int 0) j1 p2) p3) (.Constant (.int 1) j2 p4) p5) scope [] pm cd ct) ⟨[v],[]⟩=pure [(x,v)])
  (hloc:scope.names=[(x,.local)]) (hkind:scope.kind = .function) (hco:scope.isCoroutine=false) (hgen:scope.isGenerator=false) (hp:plainE a=true:=by rfl) (hdb:(x == ("__debug__" : Str))=false:=by decide) :
  PE X (.Call (.Name "sorted" p) [a] [⟨some (Str.ofString "key"),.Lambda params (.Subscript (.Subscript (.Name x p1) (.Constant (.int 0) j1 p2) p3) (.Constant (.int 1) j2 p4) p5) scope lpos,kp⟩] pos) (tSortK P lpos (X.env.qual++"<lambda>") ta):=by
 intro pins s σ H Q I h
 have hs:starEach [a] X.env=[(false,eval a X.env)]:=star1 hp
 have hA:=pa_cons ha pa_nil (hs:=hs) pos pins s σ H (fun ys H1=>∃ y,ys=[y]∧wSortK P lpos (X.env.qual++"<lambda>") y H1 Q) I (by
  show ta σ H fun x H1=>∃ y,[x]=[y]∧wSortK P lpos (X.env.qual++"<lambda>") y H1 Q
  have e:(fun (x:V) (H1:Hp)=>∃ y,[x]=[y]∧wSortK P lpos (X.env.qual++"<lambda>") y H1 Q)=fun v H1=>wSortK P lpos (X.env.qual++"<lambda>") v H1 Q:=by
   funext x H1
   apply propext; constructor
   ·rintro ⟨y,e,h⟩; cases e; exact h
   ·exact fun h=>⟨x,rfl,h⟩
  rw [e]
  exact h)
 refine wpAny_Call_Name_kw (ld_blt I hg hm boot_sorted (callWithBK (by rw [hs]; rfl) rfl ?_))
 rw [hs] at hA ⊢
 refine evalArgs_kwB rfl (thn hA fun us s1 ⟨vs,H1,I1,r1,q1⟩=>kws_cons ?_)
 obtain ⟨y,rfl,l,rfl,as,ks,hl,hT,h64,hK,q⟩:=q1
 ·cases r1 with
  | cons r rr =>
   cases rr
   cases r
   refine mk_lam LB hdef hcl I1 hT fun f c' ctv h2 tk H2 hsz hge hcd hf hT2 hL I2=>kws_nil ?_
   have hlP:l≠P:=fun z=>by
    rcases hT with hP|⟨_,_,_,_,hP,_⟩ <;> · rw [z,hP] at hl; cases hl
   have hl2:=hL _ _ hlP hl
   obtain ⟨its,rv,⟨o,n,e1,e2,e3,e4⟩,hz⟩:=I2.list (SqL.of hl2)
   have hits:=vals_refs rv
   subst hits
   obtain ⟨m,F⟩:=I2.fr
   have lks:=paired_len hK
   have fresh2:∀ b o,h2.get? b=some o→b≠X.env.locals→X.base.get? b=none→(b,o)∈allNews X.base h2 X.env.locals:=fun b o e n1 n2=>mem_allNews n1 n2 e
   refine PyProof.Rows.ksk_sorted (b:=false) (kz:=ks) (f:=.ref f) (h₀:=X.base) (L:=X.env.locals) (news:=allNews X.base h2 X.env.locals) F news_all (vs:=as.map Value.ref) (l:=l) ⟨o,e1,e2,n,e4⟩ (by rw [List.length_map]; exact lks.symm) (by rw [List.length_map]; exact h64) (PyProof.Rows.ksk_s1 _ _) (fun x=>PyProof.Rows.ksk_l1 _ _) (fun x=>PyProof.Rows.ksk_t1 _ _) (fun i v k' hv hk' h3 tk3 own F3 N3=>?_) fun D h3 tk3 out c F3 N3 lt ko=>?_
   ·have all3:∀ b o,b≠X.env.locals→h2.get? b=some o→h3.get? b=some o:=fun b o n e=>by
     cases qb:X.base.get? b with
     | some u =>
      have:=F.keep b u qb
      rw [show h2.get? b=some u from this] at e
      cases e
      exact F3.keep b _ qb
     | none=>exact (N3 (b,o) (List.mem_append_left _ (fresh2 b o e n qb))).1
    rw [List.getElem?_map] at hv
    obtain ⟨ai,hai,rfl⟩:=Option.map_eq_some_iff.mp hv
    obtain ⟨r,rest,y,ys,k1,k2⟩:=paired_at hK hai hk'
    have tt:∀ {b xs},H1 b=some (.tup xs)→∃ its,Vals xs its∧IsTup h3 b its.toArray:=fun {b xs} e=>by
     have bP:b≠P:=fun z=>by
      rcases hT with hP|⟨_,_,_,_,hP,_⟩ <;> · rw [z,hP] at e; cases e
     have e2:=hL _ _ bP e
     obtain ⟨_,its,rv,ob,g1,g2⟩:=I2.hok b _ e2
     have bL:b≠X.env.locals:=fun z=>by rw [z,I2.free] at e2; cases e2
     exact ⟨its,rv,ob,all3 _ _ bL g1,g2⟩
    obtain ⟨it1,rv1,t1⟩:=tt k1
    obtain ⟨it2,rv2,t2⟩:=tt k2
    cases rv1 with
    | cons ra _ =>
    cases ra
    cases rv2 with
    | cons rb rc =>
    cases rc with
    | cons rd _ =>
    obtain ⟨tkk,rfl⟩:=rd
    have fL:f≠X.env.locals:=fun z=>by
     have:=I1.lt
     rw [← z] at this
     exact absurd this (Nat.not_lt.mpr hge)
    have hf3:=all3 _ _ fL hf
    have hcd3:h3.CodeRec (.ref c') (X.env.qual++"<lambda>"):=by
     obtain ⟨c2,oc,vs,t,e,g1,g2,g3⟩:=hcd
     refine ⟨c2,oc,vs,t,e,all3 _ _ (fun z=>?_) g1,g2,g3⟩
     obtain ⟨m',⟨ol,es,ep,el,hdl,_⟩,_⟩:=id I2.loc
     rw [z] at g1
     rw [show h2.get? X.env.locals=some ol from el] at g1
     cases g1
     rw [g2] at hdl
     cases hdl
    refine wpAny_call (PySem.W.kla_callFunE (by show X.A.depth<recursionLimit; exact hr.depth) hf3 rfl hco hgen rfl hcd3 ?_)
    rw [hbind]
    refine wpAny_pure (wpAny_newFunctionEnv (fun y hy=>?_) (fun y hy=>?_) (fun h4 hns hsb=>?_) hkind)
    ·rw [hloc,List.mem_singleton] at hy
     rw [hy]; nofun
    ·rw [List.mem_singleton] at hy
     rw [hy]
     show scope.names.lookup x=_
     rw [hloc]; simp [List.lookup]
    ·have k4:∀ b o,h3.get? b=some o→h4.get? b=some o:=fun b o e=>hsb.extBut b o (Nat.ne_of_lt (Heap.lt_size e)) (Heap.get?_push_of_some _ e)
     refine ⟨(I.ok.mod.nolimit.keeps F3.keep).keeps k4,PySem.W.kla_codeExpr ?_⟩
     refine eval_01 (m:=fun y=>([(x,Value.ref ai)]:List (Str×Value)).reverse.lookup y) (a:=ai) (r:=r) (k:=k') (t:=tkk) hkind ?_ hns (by simp [List.lookup]) (its:=(Value.ref r::_).toArray) ⟨t1.choose,k4 _ _ t1.choose_spec.1,t1.choose_spec.2⟩ (by simp) (ks:=(_::Value.int k' tkk::_).toArray) ⟨t2.choose,k4 _ _ t2.choose_spec.1,t2.choose_spec.2⟩ (by simp) hdb fun tk5=>?_
     ·show scope.names.lookup x=_
      rw [hloc]; simp [List.lookup]
     ·exact PyProof.Rows.KskEnd.intro (news':=allNews X.base h2 X.env.locals++own) ⟨F3.ns.keeps k4,fun b o e=>k4 _ _ (F3.keep b o e),F3.above⟩ (fun p hp=>⟨k4 _ _ (N3 p hp).1,(N3 p hp).2⟩) fun _ h=>h
   ·obtain ⟨ps,hp1,hp2,hp3⟩:=ko
    rw [zip_refs] at hp1
    obtain ⟨zs,hz1,rfl⟩:=perm_refs hp1
    have fm:(f,PySem.W.kla_obj "<lambda>" (X.env.qual++"<lambda>") params (.Subscript (.Subscript (.Name x p1) (.Constant (.int 0) j1 p2) p3) (.Constant (.int 1) j2 p4) p5) scope [] ((X.mg "__name__").getD .none) c' ctv)∈allNews X.base h2 X.env.locals:=fresh2 _ _ hf (fun z=>by
     have:=I1.lt
     rw [← z] at this
     exact absurd this (Nat.not_lt.mpr hge)) (by
     cases qb:X.base.get? f with
     | none=>rfl
     | some u =>
      have:=Heap.lt_size (I1.bk _ _ qb)
      exact absurd this (Nat.not_lt.mpr hge))
    have Dsz:h2.objs.size≤D:=by have:=lt _ fm; rw [← hsz]; exact this
    have D2:H2 D=none:=I2.hok.fresh Dsz
    have DP:D≠P:=fun z=>by
     rcases hT2 with hP|⟨_,_,_,_,hP,_⟩ <;> · rw [z,hP] at D2; cases D2
    have D1:H1 D=none:=by
     cases qd:H1 D with
     | none=>rfl
     | some u=>rw [hL _ _ DP qd] at D2; cases D2
    have eo:out=((zs.map (·.2)).map Value.ref).toArray:=by
     apply Array.toList_inj.mp
     rw [hp2]; simp
    have lz:zs.length≤as.length:=by rw [hz1.length_eq,List.length_zip]; omega
    have all3:∀ b o,b≠X.env.locals→h2.get? b=some o→h3.get? b=some o:=fun b o hb e=>by
     cases qb:X.base.get? b with
     | some u =>
      have:=F.keep b u qb
      rw [show h2.get? b=some u from this] at e
      cases e
      exact F3.keep b _ qb
     | none=>exact (N3 (b,o) (List.mem_cons_of_mem _ (fresh2 b o e hb qb))).1
    have neD:∀ {b:Addr} {u:HO},H2 b=some u→b≠D:=fun e z=>by rw [z,D2] at e; cases e
    have neL:∀ {b:Addr} {u:HO},H2 b=some u→b≠X.env.locals:=fun e z=>by rw [z,I2.free] at e; cases e
    have hm:(zs.map fun z:Int×Addr=>V.ref z.2)=(zs.map (·.2)).map V.ref:=by rw [List.map_map]; rfl
    have new:ObjOk X.prog X.w (upd H2 D (.lst (zs.map fun z:Int×Addr=>V.ref z.2))) h3 D (.lst (zs.map fun z:Int×Addr=>V.ref z.2)):=⟨by rw [List.length_map,sizeLine_eq]; omega,(zs.map (·.2)).map Value.ref,c,by rw [hm]; exact refs_vals _,by rw [← eo]; exact (N3 _ (List.mem_cons_self ..)).1⟩
    refine ⟨.ref D,upd H2 D (.lst (zs.map fun z:Int×Addr=>V.ref z.2)),?_,rfl,q D zs _ (fun b u n e=>by rw [upd_ne (fun z=>by rw [z,D1] at e; cases e)]; exact hL _ _ n e) ?_ D1 DP (Nat.ne_of_gt (Nat.lt_of_lt_of_le I2.big Dsz)) upd_same hz1 ?_⟩
    ·refine I2.step (h':=h3) (g':=s1.gens) (d':=s1.drawn) (t':=tk3) (ch:=[]) (fun _ z=>nomatch z) (fun b o n _ _ e _=>all3 b o n e) (fun b o n _ _ e _=>⟨o.slots,all3 b o n e⟩) (fun b o _ e n=>?_) (fun b o _ e=>?_) (fun b xs e=>by rw [upd_ne (neD e)]; exact e) (fun b o u e=>by rw [upd_ne (neD e)]; exact e) (fun b ps e=>⟨#[],by rw [upd_ne (neD e),e]; simp⟩) (fun m' hm'=>?_) (fun b u e=>?_) I2.bare
     ·rw [upd_ne (fun z=>?_)]
      ·exact n
      ·have:=Heap.lt_size e
       rw [z] at this
       exact absurd this (Nat.not_lt.mpr Dsz)
     ·by_cases hb:b=X.env.locals
      ·obtain ⟨o1,_,_,g1,_⟩:=F3.ns
       exact ⟨o1,by rw [hb]; exact g1⟩
      ·exact ⟨o,all3 b o hb e⟩
     ·have e1:=hm'.eq_nsMap
      have e2:=F.ns.eq_nsMap
      have:m'=m:=e1.trans e2.symm
      rw [this]; exact F3.ns
     ·by_cases z:b=D
      ·rw [z,upd_same] at e
       cases e
       rw [z]; exact new
      ·rw [upd_ne z] at e
       refine (I2.hok b u e).stay (fun c v hc q=>all3 c v ?_ q) (fun c q=>by rw [upd_ne (neD q)]; exact q) fun c xs q=>by rw [upd_ne (neD q)]; exact q
       rcases hc with rfl|hc
       ·exact neL e
       ·exact neL hc
    ·rcases hT2 with hP|⟨c1,oc,vs,t,hP,hc,hr⟩
     ·exact .inl (by rw [upd_ne (Ne.symm DP)]; exact hP)
     ·exact .inr ⟨c1,oc,vs,t,by rw [upd_ne (Ne.symm DP)]; exact hP,by rw [upd_ne (fun z=>by rw [← z,hc] at D2; cases D2)]; exact hc,hr⟩
    ·have:=List.pairwise_map.mp hp3
     exact this.imp fun h=>by simpa using h
end L2
set_option Elab.async false
set_option linter.all false
set_option maxRecDepth 100000
set_option maxHeartbeats 4000000
namespace L2
open PySem PySem.Spec PyProof.Rows
def BtOk (mg:Str→Option Value) (base:Heap):Prop:=∃ bm o,mg "__builtins__" = some (.ref bm)∧bm≠builtinsNs∧bm≠mainGlobals∧base.get? bm=some o∧o.cls = .type "module"∧o.dict=some builtinsNs∧o.data = .plain
theorem law_callT {P:Program} {w:World} {K:PySem.W.Frag} {mg mb:Str→Option Value} {CX:CXT} {k:Nat} {fa a:Addr} {fd:FuncData} {x:Str} {sp:Sp} {s₁:Shared} {vs:List Value} {ns:List Int} {ts:List Addr}
  (hT:∀ T∈ts,s₁.heap.get? T=some (PySem.W.tabObj #[])) (hC:∀ T∈ts,K.lookup T=none∧∃ c,PySem.W.codeHdIn K c T=true) (hbm:BtOk mg s₁.heap)
  (KX:K.In s₁.heap) (hns:s₁.heap.Ns mainGlobals mg) (hb:s₁.heap.Ns builtinsNs mb) (hbb:∀ x:Str,x≠"__name__"→mb x=bootBuiltins x) (hlim:s₁.heap.NoLimit) (hg:s₁.gens = #[])
  (ha:s₁.heap.get? a=some { cls:=.type "list",data:=.seq vs.toArray }) (hi:IntsAre vs ns) (hl:ns.length≤sizeLine) (hr:Room true k callerA)
  (F:∀ base:Heap,K.In base→base.Ns mainGlobals mg→BtOk mg base→FnOk P w K mg base CX true k fa fd [x] sp) (hbind:∀ (s:Shared) (u:Value),BindsTo s fd ⟨[u],[]⟩ [(x,u)])
  (hsp:∀ H:Hp,(∀ T∈ts,H T=some (.tbl #[]))→SqL K H a (ns.map V.int)→sp [.ref a] H (fun v _=>v = .bl true) fun _ _ _=>False)
  (hCX:∀ H e s',CX [] H s₁ (fun _ _ _=>False) e s'→False) :
  codeAny (model P w) callerA (.call (.ref fa) ⟨[.ref a],[]⟩) (fun r s'=>r = .ok (.ret (.bool true))∧OldK s₁.heap s'.heap∧s'.os=s₁.os∧AllBare s'.gens) s₁:=by
 have rv:=vals_ints hi
 have lenV:=hi.length
 have aT:a∉ts:=fun h=>by have:=hT a h; rw [ha] at this; cases this
 have core:∀ H:Hp,(∀ b,H b=none∨(∃ o xs,H b=some (.frz o (.lst xs)))∨(b∈ts∧H b=some (.tbl #[])))→(∀ T∈ts,H T=some (.tbl #[]))→SqL K H a (ns.map V.int)→HOk P w H s₁.heap→(∀ b,H b≠none→b=a∨b∈ts)→(H a≠none→K.lookup a=none) →
   codeAny (model P w) callerA (.call (.ref fa) ⟨[.ref a],[]⟩) (fun r s'=>r = .ok (.ret (.bool true))∧OldK s₁.heap s'.heap∧s'.os=s₁.os∧AllBare s'.gens) s₁:=by
  intro H hO hHT hS hok hA hK
  have base_of:∀ {b:Addr} {o:Obj},s₁.heap.get? b=some o→H b=none→(hidT s₁.heap H).get? b=some o:=fun e n=>hidT_get e n
  have noA:∀ {b:Addr} {o:Obj},s₁.heap.get? b=some o→(∀ xs n,o.data≠.seq xs n)→(∀ ps,o.data≠.fields ps)→H b=none:=fun {b o} e d1 d2=>by
   cases q:H b with
   | none=>rfl
   | some u =>
    rcases hA b (by rw [q]; simp) with e'|e'
    ·subst e'
     rw [ha] at e; cases e
     exact absurd rfl (d1 _ _)
    ·rw [hT b e'] at e; cases e
     exact absurd rfl (d2 _)
  have nsK:∀ {b:Addr} {m:Str→Option Value},s₁.heap.Ns b m→(hidT s₁.heap H).Ns b m:=fun {b m} ⟨o,es,ep,e,d,r⟩=>⟨o,es,ep,base_of e (noA e (fun _ _=>by rw [d]; nofun) (fun _=>by rw [d]; nofun)),d,r⟩
  have hKb:K.In (hidT s₁.heap H):=fun b o e=>base_of (KX b o e) (by
   cases q:H b with
   | none=>rfl
   | some u =>
    rcases hA b (by rw [q]; simp) with e'|e'
    ·subst e'
     rw [hK (by rw [q]; simp)] at e; cases e
    ·rw [(hC b e').1] at e; cases e)
  have hM:Mod K mg (hidT s₁.heap H):=⟨hKb,nsK hns,⟨mb,nsK hb,hbb⟩,let ⟨mc,h1,h2⟩:=hlim; ⟨mc,nsK h1,h2⟩⟩
  have hB:BtOk mg (hidT s₁.heap H):=let ⟨bm,o,b1,b2,b3,b4,b5,b6,b7⟩:=hbm; ⟨bm,o,b1,b2,b3,base_of b4 (noA b4 (fun _ _=>by rw [b7]; nofun) (fun _=>by rw [b7]; nofun)),b5,b6,b7⟩
  have e0:Env0 P w K mg (hidT s₁.heap H) callerA [] s₁ H:=⟨rfl,.inl rfl,hM,fun b o e=>of_hidT e,Nat.le_of_eq (hidT_size _ _),trivial,fun b hb=>absurd (show b∈([]:List Addr) from hb) (by simp),hok,.of_eq hg⟩
  refine codeAny_mono ((F _ hKb (nsK hns) hB).run callerA [] s₁ H ⟨[.ref a],[]⟩ [.ref a] [.ref a] _ _ hr e0 (hbind s₁ (.ref a)) (.cons rfl .nil) (hsp H hHT hS)) fun r s' h=>?_
  cases r with
  | error e=>exact (hCX H e s' h).elim
  | ok fl =>
   cases fl with
   | next=>exact False.elim h
   | brk=>exact False.elim h
   | cont=>exact False.elim h
   | ret u =>
    obtain ⟨v,H',os,bare,un,hok',r',q⟩:=h
    have q':v = .bl true:=q
    subst q'
    obtain rfl:u=Value.bool true:=r'
    have grown:∀ b,b∈ts→∃ more:Array Value,s'.heap.get? b=some (PySem.W.tabObj (#[]++more)):=fun b hb=>by
     obtain ⟨more,z⟩:=un.tbls b #[] (hHT b hb)
     exact ⟨more,hok' b _ z⟩
    refine ⟨rfl,⟨fun b o e=>?_,fun b o e=>un.there b o e (by simp)⟩,os,bare⟩
    cases q:H b with
    | none=>exact .inl (un.keep b o e q (by intro z; exact absurd (show b∈([]:List Addr) from z) (by simp)) (by simp))
    | some u =>
     rcases hO b with z|⟨ob,xs,z⟩|⟨hb,z⟩
     ·rw [q] at z; cases z
     ·have z2:=un.frzs b ob _ z
      obtain ⟨e1,_⟩:=hok b _ z
      obtain ⟨e2,_⟩:=hok' b _ z2
      rw [e] at e1; cases e1
      exact .inl e2
     ·obtain ⟨more,g⟩:=grown b hb
      have e2:=hT b hb
      rw [e] at e2
      cases e2
      obtain ⟨_,c,hc⟩:=hC b hb
      exact .inr (.inl ⟨((PySem.W.codeHd_of_K KX hc).tab (hT b hb)).isCodeTable,rfl,#[],more,rfl,g⟩)
 cases hk:K.lookup a with
 | some o =>
  have e:=KX a o hk
  rw [ha] at e
  cases e
  refine core (fun b=>if b∈ts then some (.tbl #[]) else none) (fun b=>?_) (fun T h=>if_pos h) (.inr ⟨_,vs.toArray,_,hk,rfl,rfl,rfl,by rw [List.size_toArray,lenV]; exact hl,by simpa using rv⟩) (fun b u z=>?_) (fun b z=>?_) fun z=>absurd (if_neg aT) z
  ·by_cases hb:b∈ts
   ·exact .inr (.inr ⟨hb,if_pos hb⟩)
   ·exact .inl (if_neg hb)
  ·by_cases hb:b∈ts
   ·have z':=(if_pos hb).symm.trans z
    cases z'
    exact hT b hb
   ·have z':=(if_neg hb).symm.trans z
    cases z'
  ·by_cases hb:b∈ts
   ·exact .inr hb
   ·exact absurd (if_neg hb) z
 | none =>
  refine core (fun b=>if b=a then some (.frz { cls:=.type "list",data:=.seq vs.toArray } (.lst (ns.map V.int))) else if b∈ts then some (.tbl #[]) else none) (fun b=>?_) (fun T h=>?_) (.inl (.inr ⟨{ cls:=.type "list",data:=.seq vs.toArray },if_pos rfl⟩)) (fun b u z=>?_) (fun b z=>?_) fun _=>hk
  ·by_cases hb:b=a
   ·exact .inr (.inl ⟨_,_,if_pos hb⟩)
   ·by_cases hb2:b∈ts
    ·exact .inr (.inr ⟨hb2,by rw [if_neg hb,if_pos hb2]⟩)
    ·exact .inl (by rw [if_neg hb,if_neg hb2])
  ·rw [if_neg (fun z=>aT (by rw [← z]; exact h)),if_pos h]
  ·by_cases hb:b=a
   ·have z':=(if_pos hb).symm.trans z
    cases z'
    subst hb
    exact ⟨ha,by rw [List.length_map]; exact hl,vs,_,rv,ha⟩
   ·have z1:=(if_neg hb).symm.trans z
    by_cases hb2:b∈ts
    ·have z2:=(if_pos hb2).symm.trans z1
     cases z2
     exact hT b hb2
    ·have z2:=(if_neg hb2).symm.trans z1
     cases z2
  ·by_cases hb:b=a
   ·exact .inl hb
   ·by_cases hb2:b∈ts
    ·exact .inr hb2
    ·exact absurd (show (if b=a then _ else if b∈ts then _ else none)=none by rw [if_neg hb,if_neg hb2]) z
theorem walk_ofT {l:PySem.W.OpenLaw} {n k:Nat} {q:Program} {loose:List Str} {XP:(Str→Option Value)→Heap→Prop} {YP:World→Heap→Prop} {d:DefRec} {K:Params→PySem.W.Frag} {CX:World→CXT} {sp:World→Sp} {x:Str} {ts:List Addr}
  (hn:l.most=some n) (hn2:n≤sizeLine) (hdf:d.params.defaults=[]) (hr:Room true k callerA)
  (hY:∀ (w:World) (h:Heap),YP w h→(K w.params).In h∧∀ T∈ts,h.get? T=some (PySem.W.tabObj #[]))
  (F:∀ (w:World) (mg:Str→Option Value) (fa:Addr) (h:Heap),(K w.params).In h→h.Ns mainGlobals mg→mg d.name=some (.ref fa) →
   ∃ fd:FuncData,(∀ (s:Shared) (u:Value),BindsTo s fd ⟨[u],[]⟩ [(x,u)])∧(∀ T∈ts,(K w.params).lookup T=none∧∃ c,PySem.W.codeHdIn (K w.params) c T=true) ∧
    ∀ base:Heap,(K w.params).In base→base.Ns mainGlobals mg→BtOk mg base→FnOk l.prog w (K w.params) mg base (CX w) true k fa fd [x] (sp w))
  (hsp:∀ (w:World) (H:Hp) (a:Addr) (ns:List Int),ns.length≤n→(∀ T∈ts,H T=some (.tbl #[]))→SqL (K w.params) H a (ns.map V.int)→sp w [.ref a] H (fun v _=>v = .bl true) fun _ _ _=>False)
  (hCX:∀ (w:World) (H:Hp) (s:Shared) (e:Value) (s':Shared),CX w [] H s (fun _ _ _=>False) e s'→False) :
  PySem.W.WalkO q loose XP YP l.row.toRowW d [] (fun f vs=>PySem.call f vs):=by
 refine Att.attach_call hn hdf fun w s₀ s₁ mg mb fa o pm cd doc a vs ns G Y ho hd hcd hmg hobj hints hlen hg=>?_
 obtain ⟨KX,hT⟩:=hY w _ Y
 obtain ⟨fd,hb,hC,hF⟩:=F w mg fa _ KX G.T.g hmg
 have hbm:BtOk mg s₁.heap:=by
  obtain ⟨bm,ob,b1,b2,b3,b4,b5,b6⟩:=G.T.bmain
  refine ⟨bm,ob,b1,b2,fun z=>?_,b3,b4,b5,b6⟩
  obtain ⟨og,es,ep,eg,hdg,_⟩:=G.T.g
  rw [z,eg] at b3
  cases b3
  rw [hdg] at b6
  cases b6
 exact law_callT hT hC hbm KX G.T.g G.T.b G.T.builtins G.T.nolimit hg hobj hints (Nat.le_trans hlen hn2) hr hF hb (fun H hO hS=>hsp w H a ns hlen hO hS) fun H e s'=>hCX w H s₁ e s'
theorem Fun.okC {P:Program} {w:World} {K:PySem.W.Frag} {mg:Str→Option Value} {base:Heap} {x qual:Str} {st:Stmt} {f c:Addr} {fd:FuncData} {N ps:List Str} {cm:Bool} {k:Nat} {sp:Sp} (F:Fun K x qual st f fd) (hc:fd.code = .ref c) (S:FnScope N ps (defScope st)) (len:∀ vs H Q E,sp vs H Q E→vs.length=ps.length)
  (hbody:∀ (A:Around) (outer:List Env) (s:Shared) (H:Hp) (vs:List V) (Q:VK) (E:XK),Room cm k (A.deeper (envOfC qual (defScope st) s.heap.objs.size f (.ref c)))→sp vs H Q E →
   ∃ t,PSs (cxOf CX0 cm P w K mg base N qual (defScope st) f (.ref c) A outer s H E).nox (defBody st) t∧t { nx:=fun _ H'=>Q .non H',rt:=Q } (start N vs) H):FnOk P w K mg base CX0 cm (k+1) f fd ps sp:=by
 obtain ⟨oc,od,kV,doc,pm,an,cdv,ct,osl,rfl,lk,hcd⟩:=F.ex
 have e:cdv = .ref c:=hc
 subst e
 refine fn_of lk hcd S len fun A outer s H vs Q E hr hsp=>?_
 obtain ⟨t,h,q⟩:=hbody A outer s H vs Q E hr hsp
 exact ⟨t,h.nox,q⟩
end L2
set_option Elab.async false
set_option linter.all false
set_option maxRecDepth 100000
set_option maxHeartbeats 4000000
namespace L2
open PySem PySem.Spec PyProof.Rows
section
variable {X:Cx}
theorem w_pe_sortK {cm:Bool} {k:Nat} {a:Expr} {ta:TE} {x:Str} {params:Arguments} {scope:Scope} {p pos lpos kp p1 p2 p3 p4 p5:Pos} {j1 j2:Nat} {P:Addr} (LB:LamB X.mg X.base X.env.code P) (hr:Room cm k X.A)
  (hg:Gl X "sorted") (hm:X.mg "sorted" = none) (ha:W (PE X a ta)) (hdef:defaultsOf params X.env=([],[])) (hcl:closureFor scope X.env=pure [])
  (hbind:∀ (q:Str) (pm cd ct v:Value),bindArgs (PySem.W.kla_fn "<lambda>" q params (.Subscript (.Subscript (.Name x p1) (.Constant (.int 0) j1 p2) p3) (.Constant (.int 1) j2 p4) p5) scope [] pm cd ct) ⟨[v],[]⟩=pure [(x,v)])
  (hloc:scope.names=[(x,.local)]) (hkind:scope.kind = .function) (hco:scope.isCoroutine=false) (hgen:scope.isGenerator=false) (hp:plainE a=true:=by rfl) (hdb:(x == ("__debug__" : Str))=false:=by decide) :
  W (PE X (.Call (.Name "sorted" p) [a] [⟨some (Str.ofString "key"),.Lambda params (.Subscript (.Subscript (.Name x p1) (.Constant (.int 0) j1 p2) p3) (.Constant (.int 1) j2 p4) p5) scope lpos,kp⟩] pos) (tSortK P lpos (X.env.qual++"<lambda>") ta)):=⟨pe_sortK LB hr hg hm ha.h hdef hcl hbind hloc hkind hco hgen hp hdb⟩
def tTryN (K:PySem.W.Frag) (D:Addr) (tb:(Addr→St→Hp→Prop)→TS) (ts:TS):TS:=fun Z σ H =>
 tb (fun C σ' H'=>ErrK K C∧PySem.W.mroIn K C (.ref D)=some true∧∀ ea oe,H' ea=none→ExcO C oe→ts Z σ' (upd H' ea (.frz oe (.own 0)))) Z σ H
theorem ps_tryN {D:Addr} {x:Str} {np hpos pos:Pos} {body:List Stmt} {b₀:Stmt} {suite:List Stmt} {tb:(Addr→St→Hp→Prop)→TS} {ts:TS} (hc:X.calm=true) (hex:X.ex=[]) (hstk:X.stack=X.env::X.outer∧X.env.frame=some X.env.locals)
  (OD:ErrK X.K D) (hg:Gl X x) (hm:X.mg x=some (.ref D))
  (hb:∀ pins Ex,PSs (cxTry X pins Ex) body (tb Ex)) (hs:∀ pins ea,PSs (cxSuite X pins ea) (b₀::suite) ts) (hdb:(x == ("__debug__" : Str))=false:=by decide) :
  PS X (.Try body [.ExceptHandler (some (.Name x np)) none (b₀::suite) hpos] [] [] pos) (tTryN X.K D tb ts):=by
 intro pins s σ H Z I h
 have hh:X.A.handled=none:=I.ok.hd hc
 refine wpAny_Try_except (wpAny_mono (hb pins _ [] s σ H Z (I.p.wish _) h) (fun f s1 q=>?_) fun e s1 q=>?_)
 ·cases f with
  | next =>
   obtain ⟨σ',H',J,q⟩:=q
   exact wpAny_execs_nil ⟨σ',H',Inv.unp I.ok J.unwish,q⟩
  | brk=>obtain ⟨σ',H',J,q⟩:=q; exact ⟨σ',H',Inv.unp I.ok J.unwish,q⟩
  | cont=>obtain ⟨σ',H',J,q⟩:=q; exact ⟨σ',H',Inv.unp I.ok J.unwish,q⟩
  | ret u=>obtain ⟨v,σ',H',J,r,q⟩:=q; exact ⟨v,σ',H',Inv.unp I.ok J.unwish,r,q⟩
 ·obtain ⟨ea,C,B,H',fl,σ',sI,rfl,J,y,os,bare,hB,up,OC,sub,want⟩:=q
  have fr:X.A.frames=some (X.env::X.outer):=by rw [I.ok.frames,hstk.1]
  rw [hstk.1] at y
  refine fly_note fr hstk.2 y fun h2 y2 u2=>fly_flight (s:={ s1 with heap:=h2 }) y2 fun h3 y3 u3=>?_
  have y3':FlyZ B X.stack ea (.ref C) .none h3:=by rw [hstk.1]; exact y3
  have up3:=(up.trans u2).trans u3
  obtain ⟨_,oe3,c3,g3,J3⟩:=land (s':={ s1 with heap:=h3 }) hex J y3' os bare hB up3
  obtain ⟨cdC,cC,eC⟩:=OC.obj J3.kIn
  obtain ⟨cdD,cD,eD⟩:=OD.obj J3.kIn
  have hsub:cdC.mro.contains (.ref D)=true:=by
   unfold PySem.W.mroIn at sub
   rw [cC] at sub
   simp only [Option.bind_some] at sub
   split at sub
   ·cases sub
   ·exact Option.some.inj sub
  refine wpAny_handleBy_cons (codeAny_handlers_test (ld_glob (X:=cxSuite X pins ea) J3 hg hm ?_ hdb)) (by intro q; cases q)
  refine exc_matches (h:=h3) (g:=s1.gens) (d:=s1.drawn) (t:=s1.toks) (os:=s1.os) eC eD g3 c3.1 hsub ?_
  refine codeAny_handlers_suite ?_
  refine fly_flight (s:={ s1 with heap:=h3 }) y3 fun h4 y4 u4=>?_
  have y4':FlyZ B X.stack ea (.ref C) .none h4:=by rw [hstk.1]; exact y4
  obtain ⟨hH4,oe4,c4,g4,J4⟩:=land (s':={ s1 with heap:=h4 }) hex J y4' os bare hB (up3.trans u4)
  refine wpAny_mono (hs pins ea [] _ _ _ _ J4 (want ea oe4 hH4 c4)) (fun f s6 q6=>?_) fun _ _ z=>z.elim
  cases f with
  | next=>obtain ⟨σ7,H7,J7,q7⟩:=q6; exact ⟨_,_,Inv.unsuite I.ok hh J7,q7⟩
  | brk=>obtain ⟨σ7,H7,J7,q7⟩:=q6; exact ⟨_,_,Inv.unsuite I.ok hh J7,q7⟩
  | cont=>obtain ⟨σ7,H7,J7,q7⟩:=q6; exact ⟨_,_,Inv.unsuite I.ok hh J7,q7⟩
  | ret u=>obtain ⟨v,σ7,H7,J7,r7,q7⟩:=q6; exact ⟨v,_,_,Inv.unsuite I.ok hh J7,r7,q7⟩
theorem w_ps_tryN {D:Addr} {x:Str} {np hpos pos:Pos} {body:List Stmt} {b₀:Stmt} {suite:List Stmt} {tb:(Addr→St→Hp→Prop)→TS} {ts:TS} (hc:X.calm=true) (hex:X.ex=[]) (hstk:X.stack=X.env::X.outer∧X.env.frame=some X.env.locals)
  (OD:ErrK X.K D) (hg:Gl X x) (hm:X.mg x=some (.ref D))
  (hb:∀ pins Ex,W (PSs (cxTry X pins Ex) body (tb Ex))) (hs:∀ pins ea,W (PSs (cxSuite X pins ea) (b₀::suite) ts)) (hdb:(x == ("__debug__" : Str))=false:=by decide) :
  W (PS X (.Try body [.ExceptHandler (some (.Name x np)) none (b₀::suite) hpos] [] [] pos) (tTryN X.K D tb ts)):=⟨ps_tryN hc hex hstk OD hg hm (fun pins Ex=>(hb pins Ex).h) (fun pins ea=>(hs pins ea).h) hdb⟩
theorem tTryN_eq {K:PySem.W.Frag} {D:Addr} {tb:(Addr→St→Hp→Prop)→TS} {ts:TS} {Z:Ends} {σ:St} {H:Hp}:tTryN K D tb ts Z σ H=tb (fun C σ' H'=>ErrK K C∧PySem.W.mroIn K C (.ref D)=some true∧∀ ea oe,H' ea=none→ExcO C oe→ts Z σ' (upd H' ea (.frz oe (.own 0)))) Z σ H:=rfl
def rEqN (neg:Bool):R2:=fun x y H Q=>∃ a b xs ys,x = .ref a∧y = .ref b∧H a=some (.lst xs)∧H b=some (.lst ys)∧(xs.length=0∨ys.length=0)∧Q (.bl (if neg then !decide (xs.length=ys.length) else decide (xs.length=ys.length))) H
theorem op_eqN0 (hu:X.A.units<cLine):OpR X (compareOp .Eq) (rEqN false):=by
 intro pins s σ H x y v u Q I rx ry h
 obtain ⟨a,b,xs,ys,rfl,rfl,ha,hb,h0,q⟩:=h
 cases rx
 cases ry
 by_cases hz:xs.length=ys.length
 ·have h1:xs=[]:=List.length_eq_zero_iff.mp (by omega)
  have h2:ys=[]:=List.length_eq_zero_iff.mp (by omega)
  subst h1 h2
  exact op_eqL hu pins s σ H (.ref a) (.ref b) (.ref a) (.ref b) Q I rfl rfl ⟨a,b,[],[],rfl,rfl,SqL.of ha,SqL.of hb,rfl,rfl,q⟩
 ·obtain ⟨is,r1,p1,_⟩:=I.list (SqL.of (K:=X.K) ha)
  obtain ⟨js,r2,p2,_⟩:=I.list (SqL.of (K:=X.K) hb)
  have l1:=r1.length
  have l2:=r2.length
  refine SeqAt.eq_list_lengthsAt p1.isList p2.isList (by simp; omega) hu ⟨.bl false,H,I,rfl,?_⟩
  have q':Q (.bl (decide (xs.length=ys.length))) H:=q
  rw [decide_eq_false hz] at q'
  exact q'
theorem op_neN0 (hu:X.A.units<cLine):OpR X (compareOp .NotEq) (rEqN true):=by
 intro pins s σ H x y v u Q I rx ry h
 obtain ⟨a,b,xs,ys,rfl,rfl,ha,hb,h0,q⟩:=h
 cases rx
 cases ry
 by_cases hz:xs.length=ys.length
 ·have h1:xs=[]:=List.length_eq_zero_iff.mp (by omega)
  have h2:ys=[]:=List.length_eq_zero_iff.mp (by omega)
  subst h1 h2
  exact op_neL hu pins s σ H (.ref a) (.ref b) (.ref a) (.ref b) Q I rfl rfl ⟨a,b,[],[],rfl,rfl,SqL.of ha,SqL.of hb,rfl,rfl,q⟩
 ·obtain ⟨is,r1,p1,_⟩:=I.list (SqL.of (K:=X.K) ha)
  obtain ⟨js,r2,p2,_⟩:=I.list (SqL.of (K:=X.K) hb)
  have l1:=r1.length
  have l2:=r2.length
  refine SeqAt.RcNeAt.lists_lengths p1.isList p2.isList (by simp; omega) hu _ _ _ _ ⟨.bl true,H,I,rfl,?_⟩
  have q':Q (.bl (!decide (xs.length=ys.length))) H:=q
  rw [decide_eq_false hz] at q'
  exact q'
theorem rEqN_rr {neg:Bool} {a b:Addr} {H:Hp} {Q:VK}:rEqN neg (.ref a) (.ref b) H Q = ∃ xs ys,H a=some (.lst xs)∧H b=some (.lst ys)∧(xs.length=0∨ys.length=0)∧Q (.bl (if neg then !decide (xs.length=ys.length) else decide (xs.length=ys.length))) H:=by
 apply propext; constructor
 ·rintro ⟨a',b',xs,ys,e1,e2,h⟩; cases e1; cases e2; exact ⟨xs,ys,h⟩
 ·rintro ⟨xs,ys,h⟩; exact ⟨a,b,xs,ys,rfl,rfl,h⟩
def uAbs:List V→Hp→VK→Prop:=fun xs H Q=>∃ i,xs=[.int i]∧Q (.int (if i<0 then -i else i)) H
theorem uAbs_i {i:Int} {H:Hp} {Q:VK}:uAbs [.int i] H Q=Q (.int (if i<0 then -i else i)) H:=by simp [uAbs]
theorem call_absU:CallR X (.builtin "abs") uAbs:=by
 intro pins s σ H xs us Q I r h
 obtain ⟨i,rfl,q⟩:=h
 obtain ⟨u,rfl,t,rfl⟩:=vals1 r
 exact call_abs_int fun u tk=>⟨.int _,H,I.tok tk,⟨_,rfl⟩,q⟩
def rIsiT (K:PySem.W.Frag):List V→Hp→VK→Prop:=fun xs H Q=>rIsi K xs H Q∨∃ x tp cs us t b,xs=[x,.ref tp]∧H tp=some (.tup cs)∧cs.map clsV=us.map some∧TyX K H x t∧PySem.W.kitAny K t us=some b∧Q (.bl b) H
theorem cls_vals:∀ {cs:List V} {us its:List Value},cs.map clsV=us.map some→Vals cs its→its=us
 | [],[],_,_,.nil=>rfl
 | [],_::_,_,h,_=>by cases h
 | c::cs,[],_,h,_=>by cases h
 | c::cs,u::us,_,h,.cons r rr=>by
  rw [List.map_cons,List.map_cons] at h
  injection h with h1 h2
  rw [cls_vals h2 rr]
  congr 1
  cases c with
  | ref a=>cases h1; exact r
  | ty n=>cases h1; exact r
  | _=>cases h1
theorem call_isiT:CallR X (.builtin "isinstance") (rIsiT X.K):=by
 intro pins s σ H xs us Q I r h
 rcases h with h|⟨x,tp,cs,ws,t,b,rfl,htp,hcs,ty,hk,q⟩
 ·exact call_isi pins s σ H xs us Q I r h
 ·cases r with
  | cons r1 rr =>
   cases rr with
   | cons r2 rr =>
    cases rr
    cases r2
    rename_i v1
    obtain ⟨_,its,rv,o,e,hc,n,hd⟩:=I.hok tp _ htp
    have hits:=cls_vals hcs rv
    subst hits
    obtain ⟨ocls,odct,odat,osl⟩:=o
    cases hc
    cases hd
    cases ty with
    | of ty =>
     cases ty with
     | non=>cases (show v1=Value.none from r1); exact PySem.W.kia_tup PySem.W.kitx_none I.kIn True.intro e hk (fun z=>nomatch z) fun tk=>⟨.bl b,H,I.tok tk,rfl,q⟩
     | bl y=>cases (show v1=Value.bool y from r1); exact PySem.W.kia_tup PySem.W.kitx_bool I.kIn True.intro e hk (fun z=>nomatch z) fun tk=>⟨.bl b,H,I.tok tk,rfl,q⟩
     | int i=>obtain ⟨t,z⟩:=(show ∃ t,v1=Value.int i t from r1); cases z; exact PySem.W.kia_tup PySem.W.kitx_int I.kIn True.intro e hk (fun z=>nomatch z) fun tk=>⟨.bl b,H,I.tok tk,rfl,q⟩
     | str y=>obtain ⟨t,z⟩:=(show ∃ t,v1=Value.str y t from r1); cases z; exact PySem.W.kia_tup PySem.W.kitx_str I.kIn True.intro e hk (fun z=>nomatch z) fun tk=>⟨.bl b,H,I.tok tk,rfl,q⟩
     | flt y=>obtain ⟨t,z⟩:=(show ∃ t,v1=Value.float y t from r1); cases z; exact PySem.W.kia_tup PySem.W.kitx_float I.kIn True.intro e hk (fun z=>nomatch z) fun tk=>⟨.bl b,H,I.tok tk,rfl,q⟩
     | @lst a xs ea =>
      cases (show v1=Value.ref a from r1)
      obtain ⟨_,_,n',_,h1⟩:=(show ObjOk X.prog X.w H s.heap a (.lst xs) from I.hok a _ ea)
      exact PySem.W.kia_tup PySem.W.kitx_list I.kIn ⟨_,h1,rfl⟩ e hk (fun z=>nomatch z) fun tk=>⟨.bl b,H,I.tok tk,rfl,q⟩
     | @frz a ob xs ea =>
      cases (show v1=Value.ref a from r1)
      obtain ⟨_,_,_,n',_,h1⟩:=(show ObjOk X.prog X.w H s.heap a (.frz ob (.lst xs)) from I.hok a _ ea)
      exact PySem.W.kia_tup PySem.W.kitx_list I.kIn ⟨_,h1,rfl⟩ e hk (fun z=>nomatch z) fun tk=>⟨.bl b,H,I.tok tk,rfl,q⟩
     | @tup a xs ea =>
      cases (show v1=Value.ref a from r1)
      obtain ⟨_,_,_,p⟩:=(show ObjOk X.prog X.w H s.heap a (.tup xs) from I.hok a _ ea)
      obtain ⟨o,h1,h2,_⟩:=p
      exact PySem.W.kia_tup PySem.W.kitx_tuple I.kIn ⟨o,h1,h2⟩ e hk (fun z=>nomatch z) fun tk=>⟨.bl b,H,I.tok tk,rfl,q⟩
     | @dK a kvs ea =>
      cases (show v1=Value.ref a from r1)
      obtain ⟨_,_,vs,_,p⟩:=(show ObjOk X.prog X.w H s.heap a (.dK kvs) from I.hok a _ ea)
      obtain ⟨o,es,ep,h1,h2,_⟩:=p
      exact PySem.W.kia_tup PySem.W.kitx_dict I.kIn ⟨o,h1,h2.1⟩ e hk (fun z=>nomatch z) fun tk=>⟨.bl b,H,I.tok tk,rfl,q⟩
     | @dT a kvs ea =>
      cases (show v1=Value.ref a from r1)
      obtain ⟨_,_,xs,_,o,es,ep,h1,h2,_⟩:=(show ObjOk X.prog X.w H s.heap a (.dT kvs) from I.hok a _ ea)
      exact PySem.W.kia_tup PySem.W.kitx_dict I.kIn ⟨o,h1,h2.1⟩ e hk (fun z=>nomatch z) fun tk=>⟨.bl b,H,I.tok tk,rfl,q⟩
     | @ins a C dx fs ea cl ha hn htk hm =>
      cases (show v1=Value.ref a from r1)
      obtain ⟨mA,O,_⟩:=ins_get I.hok ea
      obtain ⟨od,J,_⟩:=O.look
      exact PySem.W.kia_tup (PySem.W.kitx_own (cl.get _) cl.hd ha hn htk hm) I.kIn J e hk (fun z=>nomatch z) fun tk=>⟨.bl b,H,I.tok tk,rfl,q⟩
    | exc e0 ho O =>
     rename_i a C o
     obtain rfl:v1=Value.ref a:=r1
     obtain ⟨z,_⟩:=I.hok a _ e0
     obtain ⟨c1,c2,vs,c3⟩:=ho
     have J:PySem.W.InstAt s.heap a o C none:=⟨z,c1,by unfold PySem.W.notCls; rw [c3],by rw [c2]; trivial⟩
     exact PySem.W.kia_tup (kitx_exc O) I.kIn J e hk (fun w=>nomatch w) fun tk=>⟨.bl b,H,I.tok tk,rfl,q⟩
end
theorem call_isiTK {X:Cx} {K:PySem.W.Frag} (h:X.K=K):CallR X (.builtin "isinstance") (rIsiT K):=by subst h; exact call_isiT
section
variable {K:PySem.W.Frag} {g:TG} {tt:TT} {te:TE} {H:Hp} {Q:VK}
theorem CompJ.enum {a:Addr} {xs:List V} {τ:St} (Pv:Nat→St→List V→Hp→Prop) (hz:∀ i τ ys H,Pv i τ ys H→ys.length<sizeLine) (ha:∀ i τ ys H,Pv i τ ys H→SqL K H a xs) (h0:Pv 0 τ [] H)
  (hs:∀ (N:St→List V→Hp→Prop) i x p τ ys H,xs[i]?=some x→Pv i τ ys H→H p=none→(∀ τ ys H,Pv (i+1) τ ys H→N τ ys H)→g (.ref p) τ (upd H p (.tup [.int i,x])) fun τ1 H4=>tt τ1 H4 fun ok H5=>CompN N ys τ1 te ok H5) (hd:∀ τ ys H,Pv xs.length τ ys H→∀ D H',New H D (.lst ys) H'→D≠sysModules→Q (.ref D) H'):CompJ (Ite K a) g tt te τ H Q:=by
 refine ⟨fun i m τ ys H=>m=xs.length - i∧i≤xs.length∧Pv i τ ys H,⟨xs.length,by simp,Nat.zero_le _,h0⟩,?_⟩
 rintro i m τ ys H2 ⟨rfl,hi,p⟩
 refine ⟨hz i τ ys H2 p,?_⟩
 have q:=ha i τ ys H2 p
 by_cases hlt:i<xs.length
 ·refine .inr ⟨⟨xs,xs[i],q,by simp [hlt]⟩,fun x H' y=>?_⟩
  obtain ⟨T,z,hT,rfl,rfl,hz⟩:=y
  exact hs (fun τ1 ys H=>∃ m',m'<xs.length - i∧m'=xs.length - (i+1)∧i+1≤xs.length∧Pv (i+1) τ1 ys H) i z T τ ys _ (hz xs q) p hT fun τ1 zs H q=>⟨xs.length - (i+1),by omega,rfl,hlt,q⟩
 ·have e:i=xs.length:=by omega
  subst e
  exact .inl ⟨⟨xs,q,Nat.le_refl _⟩,fun D hD hs=>hd τ ys H2 p D _ (.mk' hD) hs⟩
theorem CompJ.rngS {lo:Int} {n:Nat} {τ:St} (Pv:Nat→St→List V→Hp→Prop) (hz:∀ i τ ys H,Pv i τ ys H→ys.length<sizeLine) (h0:Pv 0 τ [] H)
  (hs:∀ (N:St→List V→Hp→Prop) i τ ys H,i<n→Pv i τ ys H→(∀ τ ys H,Pv (i+1) τ ys H→N τ ys H)→g (.int (lo+i)) τ H fun τ1 H4=>tt τ1 H4 fun ok H5=>CompN N ys τ1 te ok H5) (hd:∀ τ ys H,Pv n τ ys H→∀ D H',New H D (.lst ys) H'→D≠sysModules→Q (.ref D) H'):CompJ (Itr lo n) g tt te τ H Q:=by
 refine ⟨fun i m τ ys H=>m=n - i∧i≤n∧Pv i τ ys H,⟨n,by simp,Nat.zero_le _,h0⟩,?_⟩
 rintro i m τ ys H2 ⟨rfl,hi,p⟩
 refine ⟨hz i τ ys H2 p,?_⟩
 by_cases hlt:i<n
 ·refine .inr ⟨hlt,fun x H' y=>?_⟩
  obtain ⟨rfl,rfl⟩:=y
  exact hs (fun τ1 ys H=>∃ m',m'<n - i∧m'=n - (i+1)∧i+1≤n∧Pv (i+1) τ1 ys H) i τ ys _ hlt p fun τ1 zs H q=>⟨n - (i+1),by omega,rfl,hlt,q⟩
 ·have e:i=n:=by omega
  subst e
  exact .inl ⟨Nat.le_refl _,fun D hD hs=>hd τ ys H2 p D _ (.mk' hD) hs⟩
end
theorem rInD_ir {c:Bool} {i:Int} {p:Addr} {H:Hp} {Q:VK}:rInD c (.int i) (.ref p) H Q = ∃ kvs,Rd H p (.dK kvs)∧Q (.bl (if c then !(valV kvs (.inl i)).isSome else (valV kvs (.inl i)).isSome)) H:=by
 apply propext; constructor
 ·rintro ⟨a,k,kvs,e1,e2,h,q⟩
  cases e1
  cases k with
  | inl i=>cases e2; exact ⟨kvs,h,q⟩
  | inr x=>cases e2
 ·rintro ⟨kvs,h,q⟩; exact ⟨p,.inl i,kvs,rfl,rfl,h,q⟩
theorem w_pt_truK {X:Cx} {K:PySem.W.Frag} (hK:X.K=K) {a:Expr} {ta:TE} (ha:W (PE X a ta)) (he:∀ whole,isTrue a X.env whole=(do let v←whole; standAt a.pos; holding [v] (truthy v)):=by intro _; rfl):W (PT X a (tTru K ta)):=by subst hK; exact ⟨pt_tru ha.h he⟩
end L2
set_option Elab.async false
set_option linter.all false
set_option maxRecDepth 100000
set_option maxHeartbeats 4000000
namespace K35
open PySem PySem.Spec PyProof.Rows L2
local macro_rules | `(tactic| simp_all only [$ls,*])=>`(tactic| simp only [tVar,tC,tAnd,tOr,tNot,tIf,tNext,tSeq,tBreak,tCont,tDrop,tRet,tRetN,tIfS,gName,gNil_n,gCons_c,tAsg,tAug,ipI,tOp,tUn,tNil,tCons,tTupA,tLstA,tDNewA,tCall,tMakeA,tCallX,tMakeXA,tCB,tRaise,uAdd_ii,uAdd_ss,uAdd_rr,uMul_ii,uMul_ri,uIx_r,uIx_s,uLen_r,uLen_s,rI_ii,rI0_ii,rU_i,uEq_ii,uEq_ss,uEq_bb,uEq_rr,uInt_i,uInt_b,uStr_i,uMax_ii,uMin_ii,uTru_b,uTru_n,uTru_i,tTru_eq,uB_b,tB_eq,tTest_eq,tAndV_eq,tOrV_eq,tNotV_eq,tChain_eq,uR_r,uFld_eq,uSetF_eq,tMeth_eq,tMethX_eq,uApp,tFor_eq,uI1_i,iRng1_eq,iList_eq,iTup_eq,uR2_r,iZip_eq,tLC_eq,CompN_t,CompN_f,pick,Option.bind_some,Option.bind_none,Option.join_some,tAll,and_assoc,exists_and_left,exists_and_right,exists_eq_left',exists_eq_left,exists_eq,exists_eq',exists_eq_right,exists_eq_right',and_true,true_and,and_false,false_and,or_false,false_or,exists_false,exists_const,Option.some.injEq,V.int.injEq,V.str.injEq,V.ref.injEq,V.bl.injEq,V.ty.injEq,HO.lst.injEq,HO.tup.injEq,HO.ins.injEq,List.cons.injEq,reduceCtorEq,reduceIte,Bool.false_eq_true,List.getElem?_cons_zero,List.getElem?_cons_succ,List.set_cons_zero,List.set_cons_succ,List.nil_append,List.cons_append,List.append_nil,List.length_cons,List.length_nil,L2.start,List.map_cons,List.map_nil,List.replicate,Nat.reduceSub,Nat.reduceAdd,Bool.not_true,Bool.not_false,uAugF,rAdd_ii,rSub_ii,uIsN_n,uIsN_i,uMulS_ii,uMulS_ri,uMulS_si,uSl_s,uSl_r,tSl,tNoPart,tPart_eq,uPart_i,rSetL_r,gSub,uListOf_r,uClear,uJoinE,uS_s,rJoin_sr,uRev,iEnum_eq,uR1_r,iRng2_eq,uI2_i,iStr_eq,iEnumS_eq,iRng3_eq,uI3_i,iZipT_eq,uEqT_ii,uEqT_ss,uEqT_bb,uEqT_rr,uIs_b,uIs_n,uIn_ss,uIn_r,uM1_eq,rRfind_s,rSplit_s,uFmt_eq,rFmt_s,rFmt_i,jNil,jCons,tJoined_eq,uIntT_i,uIntT_b,uIntT_s,uStrT_i,uStrT_s,uTupOf_r,uOrd_s,uAll_r,tGetK_eq,iSeq_eq,uIsN_r,uIsN_s,uNeT_rr,rFind_s,uStrB_i,uStrB_s,uStrB_b,uIxD_rs,uIxD_ri,uIxD_si,rIxD_rs,uInD_ss,uInD_sr,rInD_sr,uLenD_r,uLenD_s,uLenK_r,rSetD_rs,rSetD_ri,tDel_eq,uK_s,uK_i,tGetD_eq,tPopD_eq,uDictOf_r,uSortD_r,tVals_eq,uListV_r,uSlT_s,uSlT_r,uAddT_ii,uAddT_ss,uAddT_rr,rCatU_rr,uDivmod_ii,uLeT_ii,uLeT_ss,uExt_eq,iDict_eq,iVals_eq,tFz_eq,tFzE_eq,tDead,uNin_r,tSortK_eq,wSortK_r,tTryN_eq,rEqN_rr,uAbs_i,rInD_ir,$ls,*])
def top (i:Nat):Stmt:=PySem.Challenge.pw_cleanrows_k35_whole_rows_put_at_ends.main.body.getD i (.Pass ⟨0,0,0,0⟩)
structure ClsA where
 CleanError:Addr
 NoRow:Addr
 NoDisk:Addr
 Full:Addr
 Stopped:Addr
 NoFile:Addr
 NoPlace:Addr
 HeldAlready:Addr
 NotHeld:Addr
 NoFiles:Addr
 NoMark:Addr
 NoRoom:Addr
 Gone:Addr
 NotClosed:Addr
 NotBlank:Addr
 NoDeed:Addr
 NoHouse:Addr
 Disk:Addr
 t_whole_rows:Addr
 t__law_rows:Addr
 PARTS:Addr
 PARTS_put:Addr
 PARTS_cut:Addr
 PARTS_hold:Addr
 PARTS_free:Addr
 PARTS_carry:Addr
structure Txt (w:World) (K:PySem.W.Frag) (mg:Str→Option Value) (A:ClsA):Prop where
 mg_PARTS:mg "PARTS" = some (.ref A.PARTS)
 d_PARTS:DicK w K A.PARTS [("put",A.PARTS_put),("cut",A.PARTS_cut),("hold",A.PARTS_hold),("free",A.PARTS_free),("carry",A.PARTS_carry)]
 t_PARTS_put:∀ H:Hp,SqT K H A.PARTS_put [.str "number",.str "number",.str "end",.str "name",.str "number",.str "word"]
 t_PARTS_cut:∀ H:Hp,SqT K H A.PARTS_cut [.str "number",.str "name",.str "number"]
 t_PARTS_hold:∀ H:Hp,SqT K H A.PARTS_hold [.str "number",.str "name"]
 t_PARTS_free:∀ H:Hp,SqT K H A.PARTS_free [.str "number",.str "name"]
 t_PARTS_carry:∀ H:Hp,SqT K H A.PARTS_carry [.str "number",.str "number",.str "word"]
 n_ValueError:mg "ValueError" = none
 n_abs:mg "abs" = none
 n_all:mg "all" = none
 n_bool:mg "bool" = none
 n_divmod:mg "divmod" = none
 n_enumerate:mg "enumerate" = none
 n_int:mg "int" = none
 n_isinstance:mg "isinstance" = none
 n_len:mg "len" = none
 n_max:mg "max" = none
 n_min:mg "min" = none
 n_ord:mg "ord" = none
 n_range:mg "range" = none
 n_repr:mg "repr" = none
 n_sorted:mg "sorted" = none
 n_str:mg "str" = none
 n_tuple:mg "tuple" = none
 n_zip:mg "zip" = none
 c_FIGURES:∃ u,mg "FIGURES" = some u∧RelV (.str "0123456789") u
 c_LETTERS:∃ u,mg "LETTERS" = some u∧RelV (.str "abcdefghijklmnopqrstuvwxyz") u
 c_MOST_FIGURES:∃ u,mg "MOST_FIGURES" = some u∧RelV (.int 18) u
 c_MOST_LETTERS:∃ u,mg "MOST_LETTERS" = some u∧RelV (.int 6) u
 c_MOST_SIGNS:∃ u,mg "MOST_SIGNS" = some u∧RelV (.int 20) u
 c_MODULUS:∃ u,mg "MODULUS" = some u∧RelV (.int 65521) u
 c_COLD_KIND:∃ u,mg "COLD_KIND" = some u∧RelV (.str "carry") u
 c_LEAST_STRETCHES:∃ u,mg "LEAST_STRETCHES" = some u∧RelV (.int 3) u
 c_MOST_STRETCHES:∃ u,mg "MOST_STRETCHES" = some u∧RelV (.int 16) u
 c_LEAST_PLACES:∃ u,mg "LEAST_PLACES" = some u∧RelV (.int 2) u
 c_MOST_PLACES:∃ u,mg "MOST_PLACES" = some u∧RelV (.int 32) u
 mg_CleanError:mg "CleanError" = some (.ref A.CleanError)
 mg_NoRow:mg "NoRow" = some (.ref A.NoRow)
 mg_NoDisk:mg "NoDisk" = some (.ref A.NoDisk)
 mg_Full:mg "Full" = some (.ref A.Full)
 mg_Stopped:mg "Stopped" = some (.ref A.Stopped)
 mg_NoFile:mg "NoFile" = some (.ref A.NoFile)
 mg_NoPlace:mg "NoPlace" = some (.ref A.NoPlace)
 mg_HeldAlready:mg "HeldAlready" = some (.ref A.HeldAlready)
 mg_NotHeld:mg "NotHeld" = some (.ref A.NotHeld)
 mg_NoFiles:mg "NoFiles" = some (.ref A.NoFiles)
 mg_NoMark:mg "NoMark" = some (.ref A.NoMark)
 mg_NoRoom:mg "NoRoom" = some (.ref A.NoRoom)
 mg_Gone:mg "Gone" = some (.ref A.Gone)
 mg_NotClosed:mg "NotClosed" = some (.ref A.NotClosed)
 mg_NotBlank:mg "NotBlank" = some (.ref A.NotBlank)
 mg_NoDeed:mg "NoDeed" = some (.ref A.NoDeed)
 mg_NoHouse:mg "NoHouse" = some (.ref A.NoHouse)
 mg_Disk:mg "Disk" = some (.ref A.Disk)
 ek_CleanError:ErrK K A.CleanError
 ek_NoRow:ErrK K A.NoRow
 ek_NoDisk:ErrK K A.NoDisk
 ek_Full:ErrK K A.Full
 ek_Stopped:ErrK K A.Stopped
 ek_NoRoom:ErrK K A.NoRoom
 ms_NoRow:PySem.W.mroIn K A.NoRow (.ref A.NoRow)=some true
 ec_NoRoom:ErrC K A.NoRoom
 mro_NoRoom:PySem.W.mroIn K A.NoRoom (.ref A.CleanError)=some true
 k_NoRoom_ValueError:PySem.W.kitOne K (.ref A.NoRoom) (.type "ValueError")=some true
 k_NoRoom_NoRow:PySem.W.kitOne K (.ref A.NoRoom) (.ref A.NoRow)=some false
 k_NoRoom_NoDisk:PySem.W.kitOne K (.ref A.NoRoom) (.ref A.NoDisk)=some false
 k_NoRoom_Full:PySem.W.kitOne K (.ref A.NoRoom) (.ref A.Full)=some false
 k_NoRoom_Stopped:PySem.W.kitOne K (.ref A.NoRoom) (.ref A.Stopped)=some false
 k_NoRoom_NoFile:PySem.W.kitOne K (.ref A.NoRoom) (.ref A.NoFile)=some false
 k_NoRoom_NoPlace:PySem.W.kitOne K (.ref A.NoRoom) (.ref A.NoPlace)=some false
 k_NoRoom_HeldAlready:PySem.W.kitOne K (.ref A.NoRoom) (.ref A.HeldAlready)=some false
 k_NoRoom_NotHeld:PySem.W.kitOne K (.ref A.NoRoom) (.ref A.NotHeld)=some false
 k_NoRoom_NoFiles:PySem.W.kitOne K (.ref A.NoRoom) (.ref A.NoFiles)=some false
 k_NoRoom_NoMark:PySem.W.kitOne K (.ref A.NoRoom) (.ref A.NoMark)=some false
 k_NoRoom_NoRoom:PySem.W.kitOne K (.ref A.NoRoom) (.ref A.NoRoom)=some true
 k_NoRoom_Gone:PySem.W.kitOne K (.ref A.NoRoom) (.ref A.Gone)=some false
 k_NoRoom_NotClosed:PySem.W.kitOne K (.ref A.NoRoom) (.ref A.NotClosed)=some false
 k_NoRoom_NotBlank:PySem.W.kitOne K (.ref A.NoRoom) (.ref A.NotBlank)=some false
 k_NoRoom_NoDeed:PySem.W.kitOne K (.ref A.NoRoom) (.ref A.NoDeed)=some false
 k_NoRoom_NoHouse:PySem.W.kitOne K (.ref A.NoRoom) (.ref A.NoHouse)=some false
 cl_Disk:Cls K A.Disk
 na_Disk_at_sides:NoAttr K A.Disk "at_sides"
 na_Disk_counted:NoAttr K A.Disk "counted"
 na_Disk_has_stopped:NoAttr K A.Disk "has_stopped"
 na_Disk_left:NoAttr K A.Disk "left"
 na_Disk_width:NoAttr K A.Disk "width"
 na_Disk_written:NoAttr K A.Disk "written"
theorem Txt.c_NoRow {w:World} {K:PySem.W.Frag} {mg:Str→Option Value} {A:ClsA} (T:Txt w K mg A):∃ u,mg "NoRow" = some u∧RelV (.ref A.NoRow) u:=⟨_,T.mg_NoRow,rfl⟩
theorem Txt.c_NoDisk {w:World} {K:PySem.W.Frag} {mg:Str→Option Value} {A:ClsA} (T:Txt w K mg A):∃ u,mg "NoDisk" = some u∧RelV (.ref A.NoDisk) u:=⟨_,T.mg_NoDisk,rfl⟩
theorem Txt.c_Full {w:World} {K:PySem.W.Frag} {mg:Str→Option Value} {A:ClsA} (T:Txt w K mg A):∃ u,mg "Full" = some u∧RelV (.ref A.Full) u:=⟨_,T.mg_Full,rfl⟩
theorem Txt.c_Stopped {w:World} {K:PySem.W.Frag} {mg:Str→Option Value} {A:ClsA} (T:Txt w K mg A):∃ u,mg "Stopped" = some u∧RelV (.ref A.Stopped) u:=⟨_,T.mg_Stopped,rfl⟩
theorem Txt.c_NoFile {w:World} {K:PySem.W.Frag} {mg:Str→Option Value} {A:ClsA} (T:Txt w K mg A):∃ u,mg "NoFile" = some u∧RelV (.ref A.NoFile) u:=⟨_,T.mg_NoFile,rfl⟩
theorem Txt.c_NoPlace {w:World} {K:PySem.W.Frag} {mg:Str→Option Value} {A:ClsA} (T:Txt w K mg A):∃ u,mg "NoPlace" = some u∧RelV (.ref A.NoPlace) u:=⟨_,T.mg_NoPlace,rfl⟩
theorem Txt.c_HeldAlready {w:World} {K:PySem.W.Frag} {mg:Str→Option Value} {A:ClsA} (T:Txt w K mg A):∃ u,mg "HeldAlready" = some u∧RelV (.ref A.HeldAlready) u:=⟨_,T.mg_HeldAlready,rfl⟩
theorem Txt.c_NotHeld {w:World} {K:PySem.W.Frag} {mg:Str→Option Value} {A:ClsA} (T:Txt w K mg A):∃ u,mg "NotHeld" = some u∧RelV (.ref A.NotHeld) u:=⟨_,T.mg_NotHeld,rfl⟩
theorem Txt.c_NoFiles {w:World} {K:PySem.W.Frag} {mg:Str→Option Value} {A:ClsA} (T:Txt w K mg A):∃ u,mg "NoFiles" = some u∧RelV (.ref A.NoFiles) u:=⟨_,T.mg_NoFiles,rfl⟩
theorem Txt.c_NoMark {w:World} {K:PySem.W.Frag} {mg:Str→Option Value} {A:ClsA} (T:Txt w K mg A):∃ u,mg "NoMark" = some u∧RelV (.ref A.NoMark) u:=⟨_,T.mg_NoMark,rfl⟩
theorem Txt.c_NoRoom {w:World} {K:PySem.W.Frag} {mg:Str→Option Value} {A:ClsA} (T:Txt w K mg A):∃ u,mg "NoRoom" = some u∧RelV (.ref A.NoRoom) u:=⟨_,T.mg_NoRoom,rfl⟩
theorem Txt.c_Gone {w:World} {K:PySem.W.Frag} {mg:Str→Option Value} {A:ClsA} (T:Txt w K mg A):∃ u,mg "Gone" = some u∧RelV (.ref A.Gone) u:=⟨_,T.mg_Gone,rfl⟩
theorem Txt.c_NotClosed {w:World} {K:PySem.W.Frag} {mg:Str→Option Value} {A:ClsA} (T:Txt w K mg A):∃ u,mg "NotClosed" = some u∧RelV (.ref A.NotClosed) u:=⟨_,T.mg_NotClosed,rfl⟩
theorem Txt.c_NotBlank {w:World} {K:PySem.W.Frag} {mg:Str→Option Value} {A:ClsA} (T:Txt w K mg A):∃ u,mg "NotBlank" = some u∧RelV (.ref A.NotBlank) u:=⟨_,T.mg_NotBlank,rfl⟩
theorem Txt.c_NoDeed {w:World} {K:PySem.W.Frag} {mg:Str→Option Value} {A:ClsA} (T:Txt w K mg A):∃ u,mg "NoDeed" = some u∧RelV (.ref A.NoDeed) u:=⟨_,T.mg_NoDeed,rfl⟩
theorem Txt.c_NoHouse {w:World} {K:PySem.W.Frag} {mg:Str→Option Value} {A:ClsA} (T:Txt w K mg A):∃ u,mg "NoHouse" = some u∧RelV (.ref A.NoHouse) u:=⟨_,T.mg_NoHouse,rfl⟩
theorem nb_at_sides_counted:(("at_sides" : Str) == "counted")=false:=by decide +kernel
theorem nb_at_sides_has_stopped:(("at_sides" : Str) == "has_stopped")=false:=by decide +kernel
theorem nb_at_sides_left:(("at_sides" : Str) == "left")=false:=by decide +kernel
theorem nb_counted_at_sides:(("counted" : Str) == "at_sides")=false:=by decide +kernel
theorem nb_counted_has_stopped:(("counted" : Str) == "has_stopped")=false:=by decide +kernel
theorem nb_counted_left:(("counted" : Str) == "left")=false:=by decide +kernel
theorem nb_counted_width:(("counted" : Str) == "width")=false:=by decide +kernel
theorem nb_counted_written:(("counted" : Str) == "written")=false:=by decide +kernel
theorem nb_has_stopped_at_sides:(("has_stopped" : Str) == "at_sides")=false:=by decide +kernel
theorem nb_has_stopped_counted:(("has_stopped" : Str) == "counted")=false:=by decide +kernel
theorem nb_has_stopped_left:(("has_stopped" : Str) == "left")=false:=by decide +kernel
theorem nb_has_stopped_width:(("has_stopped" : Str) == "width")=false:=by decide +kernel
theorem nb_has_stopped_written:(("has_stopped" : Str) == "written")=false:=by decide +kernel
theorem nb_left_at_sides:(("left" : Str) == "at_sides")=false:=by decide +kernel
theorem nb_left_counted:(("left" : Str) == "counted")=false:=by decide +kernel
theorem nb_left_has_stopped:(("left" : Str) == "has_stopped")=false:=by decide +kernel
theorem nb_left_width:(("left" : Str) == "width")=false:=by decide +kernel
theorem nb_left_written:(("left" : Str) == "written")=false:=by decide +kernel
theorem nb_width_at_sides:(("width" : Str) == "at_sides")=false:=by decide +kernel
theorem nb_width_counted:(("width" : Str) == "counted")=false:=by decide +kernel
theorem nb_width_has_stopped:(("width" : Str) == "has_stopped")=false:=by decide +kernel
theorem nb_width_left:(("width" : Str) == "left")=false:=by decide +kernel
theorem nb_width_written:(("width" : Str) == "written")=false:=by decide +kernel
theorem nb_written_at_sides:(("written" : Str) == "at_sides")=false:=by decide +kernel
theorem nb_written_counted:(("written" : Str) == "counted")=false:=by decide +kernel
theorem nb_written_has_stopped:(("written" : Str) == "has_stopped")=false:=by decide +kernel
theorem nb_written_left:(("written" : Str) == "left")=false:=by decide +kernel
theorem nb_written_width:(("written" : Str) == "width")=false:=by decide +kernel
theorem nb_stretches_at_sides:(("stretches" : Str) == "at_sides")=false:=by decide +kernel
theorem nb_stretches_counted:(("stretches" : Str) == "counted")=false:=by decide +kernel
theorem nb_stretches_has_stopped:(("stretches" : Str) == "has_stopped")=false:=by decide +kernel
theorem nb_stretches_left:(("stretches" : Str) == "left")=false:=by decide +kernel
theorem nb_stretches_width:(("stretches" : Str) == "width")=false:=by decide +kernel
theorem nb_stretches_written:(("stretches" : Str) == "written")=false:=by decide +kernel
theorem nb_places_at_sides:(("places" : Str) == "at_sides")=false:=by decide +kernel
theorem nb_places_counted:(("places" : Str) == "counted")=false:=by decide +kernel
theorem nb_places_has_stopped:(("places" : Str) == "has_stopped")=false:=by decide +kernel
theorem nb_places_left:(("places" : Str) == "left")=false:=by decide +kernel
theorem nb_places_width:(("places" : Str) == "width")=false:=by decide +kernel
theorem nb_places_written:(("places" : Str) == "written")=false:=by decide +kernel
theorem nb_next_place_at_sides:(("next_place" : Str) == "at_sides")=false:=by decide +kernel
theorem nb_next_place_counted:(("next_place" : Str) == "counted")=false:=by decide +kernel
theorem nb_next_place_has_stopped:(("next_place" : Str) == "has_stopped")=false:=by decide +kernel
theorem nb_next_place_left:(("next_place" : Str) == "left")=false:=by decide +kernel
theorem nb_next_place_width:(("next_place" : Str) == "width")=false:=by decide +kernel
theorem nb_next_place_written:(("next_place" : Str) == "written")=false:=by decide +kernel
theorem nb_told_at_sides:(("told" : Str) == "at_sides")=false:=by decide +kernel
theorem nb_told_counted:(("told" : Str) == "counted")=false:=by decide +kernel
theorem nb_told_has_stopped:(("told" : Str) == "has_stopped")=false:=by decide +kernel
theorem nb_told_left:(("told" : Str) == "left")=false:=by decide +kernel
theorem nb_told_width:(("told" : Str) == "width")=false:=by decide +kernel
theorem nb_told_written:(("told" : Str) == "written")=false:=by decide +kernel
theorem nb_write_at_sides:(("write" : Str) == "at_sides")=false:=by decide +kernel
theorem nb_write_counted:(("write" : Str) == "counted")=false:=by decide +kernel
theorem nb_write_has_stopped:(("write" : Str) == "has_stopped")=false:=by decide +kernel
theorem nb_write_left:(("write" : Str) == "left")=false:=by decide +kernel
theorem nb_write_width:(("write" : Str) == "width")=false:=by decide +kernel
theorem nb_write_written:(("write" : Str) == "written")=false:=by decide +kernel
theorem nb_empty_at_sides:(("empty" : Str) == "at_sides")=false:=by decide +kernel
theorem nb_empty_counted:(("empty" : Str) == "counted")=false:=by decide +kernel
theorem nb_empty_has_stopped:(("empty" : Str) == "has_stopped")=false:=by decide +kernel
theorem nb_empty_left:(("empty" : Str) == "left")=false:=by decide +kernel
theorem nb_empty_width:(("empty" : Str) == "width")=false:=by decide +kernel
theorem nb_empty_written:(("empty" : Str) == "written")=false:=by decide +kernel
theorem nb_refuse_if_stopped_at_sides:(("refuse_if_stopped" : Str) == "at_sides")=false:=by decide +kernel
theorem nb_refuse_if_stopped_counted:(("refuse_if_stopped" : Str) == "counted")=false:=by decide +kernel
theorem nb_refuse_if_stopped_has_stopped:(("refuse_if_stopped" : Str) == "has_stopped")=false:=by decide +kernel
theorem nb_refuse_if_stopped_left:(("refuse_if_stopped" : Str) == "left")=false:=by decide +kernel
theorem nb_refuse_if_stopped_width:(("refuse_if_stopped" : Str) == "width")=false:=by decide +kernel
theorem nb_refuse_if_stopped_written:(("refuse_if_stopped" : Str) == "written")=false:=by decide +kernel
theorem nb_spend_at_sides:(("spend" : Str) == "at_sides")=false:=by decide +kernel
theorem nb_spend_counted:(("spend" : Str) == "counted")=false:=by decide +kernel
theorem nb_spend_has_stopped:(("spend" : Str) == "has_stopped")=false:=by decide +kernel
theorem nb_spend_left:(("spend" : Str) == "left")=false:=by decide +kernel
theorem nb_spend_width:(("spend" : Str) == "width")=false:=by decide +kernel
theorem nb_spend_written:(("spend" : Str) == "written")=false:=by decide +kernel
theorem nb_first_signs_at_sides:(("first_signs" : Str) == "at_sides")=false:=by decide +kernel
theorem nb_first_signs_counted:(("first_signs" : Str) == "counted")=false:=by decide +kernel
theorem nb_first_signs_has_stopped:(("first_signs" : Str) == "has_stopped")=false:=by decide +kernel
theorem nb_first_signs_left:(("first_signs" : Str) == "left")=false:=by decide +kernel
theorem nb_first_signs_width:(("first_signs" : Str) == "width")=false:=by decide +kernel
theorem nb_first_signs_written:(("first_signs" : Str) == "written")=false:=by decide +kernel
theorem np_at_sides_counted:(("at_sides" : Str) = "counted")=False:=by simpa using nb_at_sides_counted
theorem np_at_sides_has_stopped:(("at_sides" : Str) = "has_stopped")=False:=by simpa using nb_at_sides_has_stopped
theorem np_at_sides_left:(("at_sides" : Str) = "left")=False:=by simpa using nb_at_sides_left
theorem np_counted_has_stopped:(("counted" : Str) = "has_stopped")=False:=by simpa using nb_counted_has_stopped
theorem np_counted_left:(("counted" : Str) = "left")=False:=by simpa using nb_counted_left
theorem np_left_has_stopped:(("left" : Str) = "has_stopped")=False:=by simpa using nb_left_has_stopped
theorem np_width_at_sides:(("width" : Str) = "at_sides")=False:=by simpa using nb_width_at_sides
theorem np_width_counted:(("width" : Str) = "counted")=False:=by simpa using nb_width_counted
theorem np_width_has_stopped:(("width" : Str) = "has_stopped")=False:=by simpa using nb_width_has_stopped
theorem np_width_left:(("width" : Str) = "left")=False:=by simpa using nb_width_left
theorem np_width_written:(("width" : Str) = "written")=False:=by simpa using nb_width_written
theorem np_written_at_sides:(("written" : Str) = "at_sides")=False:=by simpa using nb_written_at_sides
theorem np_written_counted:(("written" : Str) = "counted")=False:=by simpa using nb_written_counted
theorem np_written_has_stopped:(("written" : Str) = "has_stopped")=False:=by simpa using nb_written_has_stopped
theorem np_written_left:(("written" : Str) = "left")=False:=by simpa using nb_written_left
def sumN:Nat→List Nat→Nat
 | _,[]=>0
 | k,c::l=>c*k+sumN (k+1) l
def sumS (z:Str):Int:=((sumN 1 (sg z) % 65521:Nat):Int)
def summedS (z:Str):Str:=z++(toString (sumS z):Str)++";"
def madeS (z y:Str) (m:Int):Bool:=decide (1≤(z.length:Int)) && decide ((z.length:Int)≤m) && (sg z).all fun c=>(sg y).contains c
def FIG:Str:="0123456789"
def LET:Str:="abcdefghijklmnopqrstuvwxyz"
def numS (z:Str):Bool:=madeS z FIG 18 && (decide (z = "0") || !decide (tx ((sg z).take 1) = "0"))
def nameS (z:Str):Bool:=madeS z LET 6
def wordS (z:Str):Bool:=madeS z (LET++FIG) 20
def readP (k z:Str):Option V :=
 if k = "number"∧numS z=true then some (.int ((PySem.intText? z).getD 0))
 else if k = "end"∧(z = "0"∨z = "1") then some (.bl (decide (z = "1")))
 else if k = "name"∧nameS z=true then some (.str z)
 else if k = "word"∧wordS z=true then some (.str z)
 else none
def kindsS (z:Str):Option (List Str) :=
 if z = "put" then some ["number","number","end","name","number","word"]
 else if z = "cut" then some ["number","name","number"]
 else if z = "hold" then some ["number","name"]
 else if z = "free" then some ["number","name"]
 else if z = "carry" then some ["number","number","word"]
 else none
def readPs:List Str→List Str→Option (List V)
 | k::ks,z::zs=>(readP k z).bind fun v=>(readPs ks zs).map (v::·)
 | _,_=>some []
def rowS (ws:List Str):Option (List V):=match ws with
 | []=>none
 | w::zs=>(kindsS w).bind fun ks=>if zs.length=ks.length then (readPs ks zs).map (.str w::·) else none
def bodyAt (z:Str):Str:=PySem.Txt.slice z none (some (PySem.Txt.rfind z (c1 32)+1))
def bodyS (z:Str):Option Str:=if z=summedS (bodyAt z) then some (bodyAt z) else none
def readS (z:Str):Option (List V):=(bodyS z).bind fun b=>rowS (PySem.Txt.split (PySem.Txt.slice b none (some (-1))) (c1 32))
def partT:V→Str
 | .bl b=>if b then "1" else "0"
 | .int i=>toString i
 | .str z=>z
 | _=>""
inductive Part:V→Prop
 | bl (b:Bool):Part (.bl b)
 | int (i:Int):0≤i→i<10 ^ 18→Part (.int i)
 | str (z:Str):asc z=true→z.length≤100→Part (.str z)
def aheadL (xs:List V):List Nat:=(xs.map fun v=>sg (partT v)++[32]).flatten
def rowT (xs:List V):Str:=summedS (tx (aheadL xs))
def spMade:Sp:=fun vs H Q _=>∃ z y m,vs=[.str z,.str y,.int m]∧asc z=true∧z.length≤100000∧∀ H',Same H H'→Q (.bl (madeS z y m)) H'
def spTest (p:Str→Bool):Sp:=fun vs H Q _=>∃ z,vs=[.str z]∧asc z=true∧z.length≤100000∧∀ H',Same H H'→Q (.bl (p z)) H'
def spSum:Sp:=fun vs H Q _=>∃ z,vs=[.str z]∧asc z=true∧z.length≤100000∧∀ H',Same H H'→Q (.int (sumS z)) H'
def spSummed:Sp:=fun vs H Q _=>∃ z,vs=[.str z]∧asc z=true∧z.length≤100000∧∀ H',Same H H'→Q (.str (summedS z)) H'
def optV (o:Option Str):V:=match o with|some b=>.str b|none=>.non
inductive Thing (H:Hp):V→Prop
 | non:Thing H .non
 | bl (b:Bool):Thing H (.bl b)
 | int (i:Int):Thing H (.int i)
 | lst {a:Addr} {xs:List V}:H a=some (.lst xs)→Thing H (.ref a)
 | tup {a:Addr} {xs:List V}:H a=some (.tup xs)→Thing H (.ref a)
 | dic {a:Addr} {kvs:List (Key×V)}:H a=some (.dK kvs)→Thing H (.ref a)
theorem isi_str {X:Cx} {H:Hp} {v:V} {Q:VK} (t:Thing H v) (q:Q (.bl false) H):rIsi X.K [v,.ty "str"] H Q:=by
 cases t with
 | non=>exact ⟨_,_,_,_,_,rfl,rfl,.of .non,rfl,q⟩
 | bl b=>exact ⟨_,_,_,_,_,rfl,rfl,.of (.bl b),rfl,q⟩
 | int i=>exact ⟨_,_,_,_,_,rfl,rfl,.of (.int i),rfl,q⟩
 | lst h=>exact ⟨_,_,_,_,_,rfl,rfl,.of (.lst h),rfl,q⟩
 | tup h=>exact ⟨_,_,_,_,_,rfl,rfl,.of (.tup h),rfl,q⟩
 | dic h=>exact ⟨_,_,_,_,_,rfl,rfl,.of (.dK h),rfl,q⟩
def spBody:Sp:=fun vs H Q _=>(∃ z,vs=[.str z]∧asc z=true∧z.length≤100000∧∀ H',Same H H'→Q (optV (bodyS z)) H')∨∃ v,vs=[v]∧Thing H v∧Q .non H
def spPartT:Sp:=fun vs H Q _=>∃ v,vs=[v]∧Part v∧Q (.str (partT v)) H
def spRowT:Sp:=fun vs H Q _=>∃ a xs,vs=[.ref a]∧(H a=some (.lst xs)∨H a=some (.tup xs))∧xs.length≤10∧(∀ v∈xs,Part v)∧∀ H',Same H H'→Q (.str (rowT xs)) H'
def spReadP (A:ClsA):Sp:=fun vs H Q E=>∃ k z,vs=[.str k,.str z]∧asc z=true∧z.length≤100000∧∀ H',Same H H'→(∀ v,readP k z=some v→Q v H')∧(readP k z=none→E (.ref A.NoRow) none H')
def spRowOf (A:ClsA):Sp:=fun vs H Q E=>∃ a ws,vs=[.ref a]∧H a=some (.lst (ws.map V.str))∧ws≠[]∧ws.length≤100001∧(∀ z∈ws,asc z=true∧z.length≤100000) ∧
 (∀ xs,rowS ws=some xs→∀ p H',Same H H'→H' p=some (.tup xs)→Q (.ref p) H')∧(rowS ws=none→∀ H',Same H H'→E (.ref A.NoRow) none H')
def spReadR (A:ClsA):Sp:=fun vs H Q E=>(∃ v,vs=[v]∧Thing H v∧E (.ref A.NoRow) none H)∨∃ z,vs=[.str z]∧asc z=true∧z.length≤100000 ∧
 (∀ xs,readS z=some xs→∀ p H',Same H H'→H' p=some (.tup xs)→Q (.ref p) H')∧(readS z=none→∀ H',Same H H'→E (.ref A.NoRow) none H')
theorem big5 {n:Nat} (h:n≤1000000):n≤sizeLine:=Nat.le_trans h (by decide)
theorem big5' {n:Nat} (h:n≤1000000):n<sizeLine:=Nat.lt_of_le_of_lt h (by decide)
abbrev s_is_made_of:Stmt:=top 27
abbrev s_is_number_text:Stmt:=top 28
abbrev s_is_name:Stmt:=top 29
abbrev s_is_word:Stmt:=top 30
section
variable {P:Program} {w:World} {K:PySem.W.Frag} {mg:Str→Option Value} {base:Heap} {A:ClsA}
structure MadeInv (H:Hp) (z y:Str) (i:Nat) (τ:L2.St) (ys:List V) (H':Hp):Prop where
 ex:∃ t,τ=[t,some (V.str y)]
 ys:ys=(((sg z).take i).map fun c=>(sg y).contains c).map V.bl
 same:H'=H
theorem sc_is_made_of:FnScope ["text","signs","most"] ["text","signs","most"] (defScope s_is_made_of):=⟨rfl,rfl,rfl,by decide +kernel,rfl,by decide +kernel,by decide +kernel⟩
theorem lc_is_made_of_0:lcStat { kind:=.function,names:=[(Str.ofString ".0",.local),(Str.ofString "sign",.local),(Str.ofString "signs",.free)],isGenerator:=false,isCoroutine:=false,more:=[] } (defScope s_is_made_of).names ["text","signs","most"] ["sign","signs"] [none,some 1]=true:=by decide +kernel
theorem lcn_is_made_of_0:(["sign","signs"]:List Str).Nodup:=by decide +kernel
theorem ok_is_made_of {f:Addr} {fd:FuncData} (F:Fun K "is_made_of" "is_made_of" s_is_made_of f fd) (T:Txt w K mg A):FnOk P w K mg base CX0 true 1 f fd ["text","signs","most"] spMade:=by
 refine F.ok sc_is_made_of (fun vs H Q E h=>?_) (fun cdv Ar outer s H vs Q E hr h=>?_)
 ·obtain ⟨z,y,m,rfl,_⟩:=h; rfl
 ·obtain ⟨z,y,m,rfl,ha,hz,q⟩:=h
  have hu:_<cLine:=Nat.lt_of_succ_lt (hu_of hr)
  refine ⟨_,(W.h (w_pss_one (w_ps_ret (w_pe_and (w_pe_chain op_le op_le w_pe_int (w_pe_callBp call_lenU rfl T.n_len PySem.boot_len (w_pa_p (w_pv 0) w_pa_nil)) (w_pv 2)) (w_pe_one (w_pe_callBp (call_allU rfl) rfl T.n_all boot_all (w_pa_p (w_pe_lc (fun _=>rfl) (LcOk.of lc_is_made_of_0) (w_pi_str (w_pv 0)) (fun _ _ _ _ _=>(w_pg_name (i:=0) lcn_is_made_of_0 rfl (Or.inl rfl))) (fun _ _ _ _ _=>w_pts_nil) (fun _ _ _ _ _=>(w_pe_cmpR (op_inU hu) (w_pv 0) (w_pv 1) rfl))) w_pa_nil))))))),?_⟩
  simp_all only [big5 (Nat.le_trans hz (by decide))]
  refine ite2 (fun h1=>ite2 (fun h2=>?_) fun h2=>?_) fun h1=>?_
  ·refine ⟨ha,CompJ.str (MadeInv H z y) (fun i τ ys H' I=>?_) ⟨⟨_,rfl⟩,by simp,rfl⟩ ?_ ?_⟩
   ·rw [I.ys,List.length_map,List.length_map,List.length_take]
    exact big5' (by rw [sg_len]; omega)
   ·intro N i c τ ys H' hc I hN
    obtain ⟨t,rfl⟩:=I.ex
    simp_all only []
    rw [in_one]
    have hc':(sg z)[i]?=some c:=by simpa [sg] using hc
    exact hN _ _ _ ⟨⟨_,rfl⟩,by rw [I.ys,List.take_add_one,hc']; simp,I.same⟩
   ·intro τ ys H' I p H2 n2
    simp_all only []
    refine ⟨_,by rw [n2.at_,I.ys],?_⟩
    have hs:Same H H2:=by have:=n2.same; rw [I.same] at this; exact this
    have e:madeS z y m=(((sg z).take z.cps.size).map fun c=>(sg y).contains c).all id:=by
     unfold madeS
     rw [h1,h2,List.take_of_length_le (by rw [sg_len]; exact Nat.le_refl _),List.all_map]
     rfl
    rw [← e]
    exact q H2 hs
  ·have e:madeS z y m=false:=by unfold madeS; rw [Bool.eq_false_iff.mpr h2]; simp
   rw [← e]; exact q H (Same.refl _)
  ·have e:madeS z y m=false:=by unfold madeS; rw [Bool.eq_false_iff.mpr h1]; simp
   rw [← e]; exact q H (Same.refl _)
theorem sc_is_name:FnScope ["text"] ["text"] (defScope s_is_name):=⟨rfl,rfl,rfl,by decide +kernel,rfl,by decide +kernel,by decide +kernel⟩
theorem ok_is_name {f:Addr} {fd:FuncData} (F:Fun K "is_name" "is_name" s_is_name f fd) (T:Txt w K mg A) (G_is_made_of:GF P w K mg base true 1 "is_made_of" ["text","signs","most"] spMade):FnOk P w K mg base CX0 true 2 f fd ["text"] (spTest nameS):=by
 refine F.ok sc_is_name (fun vs H Q E h=>?_) (fun cdv Ar outer s H vs Q E hr h=>?_)
 ·obtain ⟨z,rfl,_⟩:=h; rfl
 ·obtain ⟨z,rfl,ha,hz,q⟩:=h
  refine ⟨_,(W.h (w_pss_one (w_ps_ret (w_pe_g G_is_made_of hr rfl (w_pa_p (w_pv 0) (w_pa_p (w_pe_gv rfl T.c_LETTERS) (w_pa_p (w_pe_gv rfl T.c_MOST_LETTERS) w_pa_nil))))))),?_⟩
  simp_all only []
  exact ⟨z,_,_,rfl,ha,hz,q⟩
theorem sc_is_word:FnScope ["text"] ["text"] (defScope s_is_word):=⟨rfl,rfl,rfl,by decide +kernel,rfl,by decide +kernel,by decide +kernel⟩
theorem ok_is_word {f:Addr} {fd:FuncData} (F:Fun K "is_word" "is_word" s_is_word f fd) (T:Txt w K mg A) (G_is_made_of:GF P w K mg base true 1 "is_made_of" ["text","signs","most"] spMade):FnOk P w K mg base CX0 true 2 f fd ["text"] (spTest wordS):=by
 refine F.ok sc_is_word (fun vs H Q E h=>?_) (fun cdv Ar outer s H vs Q E hr h=>?_)
 ·obtain ⟨z,rfl,_⟩:=h; rfl
 ·obtain ⟨z,rfl,ha,hz,q⟩:=h
  refine ⟨_,(W.h (w_pss_one (w_ps_ret (w_pe_g G_is_made_of hr rfl (w_pa_p (w_pv 0) (w_pa_p (w_pe_op op_addU (w_pe_gv rfl T.c_LETTERS) (w_pe_gv rfl T.c_FIGURES)) (w_pa_p (w_pe_gv rfl T.c_MOST_SIGNS) w_pa_nil))))))),?_⟩
  simp_all only []
  exact ⟨by decide,z,_,_,rfl,ha,hz,q⟩
theorem sc_is_number_text:FnScope ["text"] ["text"] (defScope s_is_number_text):=⟨rfl,rfl,rfl,by decide +kernel,rfl,by decide +kernel,by decide +kernel⟩
theorem ok_is_number_text {f:Addr} {fd:FuncData} (F:Fun K "is_number_text" "is_number_text" s_is_number_text f fd) (T:Txt w K mg A) (G_is_made_of:GF P w K mg base true 1 "is_made_of" ["text","signs","most"] spMade):FnOk P w K mg base CX0 true 2 f fd ["text"] (spTest numS):=by
 refine F.ok sc_is_number_text (fun vs H Q E h=>?_) (fun cdv Ar outer s H vs Q E hr h=>?_)
 ·obtain ⟨z,rfl,_⟩:=h; rfl
 ·obtain ⟨z,rfl,ha,hz,q⟩:=h
  have hu:_<cLine:=Nat.lt_of_succ_lt (hu_of hr)
  refine ⟨_,(W.h (w_pss_cons (w_ps_if (w_pt_not (w_pt_tru (w_pe_g G_is_made_of hr rfl (w_pa_p (w_pv 0) (w_pa_p (w_pe_gv rfl T.c_FIGURES) (w_pa_p (w_pe_gv rfl T.c_MOST_FIGURES) w_pa_nil))))))
   (w_pss_one (w_ps_ret w_pe_bl))
   w_pss_nil)
   (w_pss_one (w_ps_ret (w_pe_or (w_pe_cmpR (op_eqU hu) (w_pv 0) w_pe_str (nomark _)) (w_pe_one (w_pe_cmpR (op_neU hu) (w_pe_ix ix_U (w_pv 0) w_pe_int (fun _ _=>rfl)) w_pe_str (nomark _)))))))),?_⟩
  simp_all only []
  refine ⟨z,_,_,rfl,ha,hz,fun H1 s1=>?_⟩
  simp_all only [big5 (Nat.le_trans hz (by decide))]
  refine ite2 (fun h1=>?_) fun h1=>?_
  ·have e:numS z=false:=by
    unfold numS FIG
    rw [show madeS z "0123456789" 18=false by simpa using h1]; rfl
   rw [← e]; exact q H1 s1
  ·have h1:madeS z "0123456789" 18=true:=by simpa using h1
   refine ite2 (fun h2=>?_) fun h2=>?_
   ·have e:numS z=true:=by
     unfold numS FIG
     rw [h1,h2]; rfl
    rw [← e]; exact q H1 s1
   ·have hl:0<(sg z).length:=by
     rw [sg_len]
     unfold madeS at h1
     rw [Bool.and_eq_true,Bool.and_eq_true,decide_eq_true_eq] at h1
     omega
    have e0:(sg z).take 1=[(sg z)[0]]:=by
     generalize sg z=l at hl
     cases l with
     | nil=>cases hl
     | cons x l=>rfl
    refine ⟨(sg z)[0],atI_nat (xs:=sg z) (j:=0) (List.getElem?_eq_getElem hl),?_⟩
    have e:numS z = !decide (({ cps:=#[(sg z)[0]] }:Str) = "0"):=by
     unfold numS FIG
     rw [h1,Bool.eq_false_iff.mpr h2,e0]
     rfl
    rw [← e]; exact q H1 s1
end
abbrev s_part_text:Stmt:=top 38
abbrev s_row_text:Stmt:=top 37
abbrev s_sum_of:Stmt:=top 34
abbrev s_summed:Stmt:=top 35
abbrev s_body_of:Stmt:=top 36
section
variable {P:Program} {w:World} {K:PySem.W.Frag} {mg:Str→Option Value} {base:Heap} {A:ClsA}
theorem sumN_append:∀ (k:Nat) (a b:List Nat),sumN k (a++b)=sumN k a+sumN (k+a.length) b
 | k,[],b=>by simp [sumN]
 | k,c::a,b=>by
  show c*k+sumN (k+1) (a++b)=c*k+sumN (k+1) a+_
  rw [sumN_append (k+1) a b,List.length_cons,show k+1+a.length=k+(a.length+1) by omega]
  omega
structure SumInv (H:Hp) (z:Str) (i:Nat) (σ:L2.St) (H':Hp):Prop where
 ex:∃ a b,σ=[some (V.str z),some (.int (sumN 1 ((sg z).take i):Nat)),a,b]
 same:Same H H'
theorem sc_sum_of:FnScope ["text","total","place","sign"] ["text"] (defScope s_sum_of):=⟨rfl,rfl,rfl,by decide +kernel,rfl,by decide +kernel,by decide +kernel⟩
theorem ok_sum_of {f:Addr} {fd:FuncData} (F:Fun K "sum_of" "sum_of" s_sum_of f fd) (T:Txt w K mg A):FnOk P w K mg base CX0 true 1 f fd ["text"] spSum:=by
 refine F.ok sc_sum_of (fun vs H Q E h=>?_) (fun cdv Ar outer s H vs Q E hr h=>?_)
 ·obtain ⟨z,rfl,_⟩:=h; rfl
 ·obtain ⟨z,rfl,ha,hz,q⟩:=h
  refine ⟨_,(W.h (w_pss_cons (w_ps_set (i:=1) sc_sum_of.nd rfl (Or.inl rfl) w_pe_int)
   (w_pss_cons (w_ps_for PassesOwn.never (fun _=>rfl) (w_pi_enumK rfl T.n_enumerate (w_pv 0)) (w_pg_tupA (n:=2) (w_pgs_cons (w_pg_name (i:=2) sc_sum_of.nd rfl (Or.inl rfl)) (w_pgs_cons (w_pg_name (i:=3) sc_sum_of.nd rfl (Or.inl rfl)) w_pgs_nil)))
   (w_pss_one (w_ps_aug (i:=1) sc_sum_of.nd rfl (Or.inl rfl) (w_pe_op op_mulS (w_pe_callBp call_ordU rfl T.n_ord boot_ord (w_pa_p (w_pv 3) w_pa_nil)) (w_pv 2)) ip_add)))
   (w_pss_one (w_ps_ret (w_pe_op op_mod (w_pv 1) (w_pe_gv rfl T.c_MODULUS))))))),?_⟩
  simp_all only []
  refine ⟨ha,ForJ.enumS (SumInv H z) ⟨⟨_,_,rfl⟩,Same.refl _⟩ ?_ ?_⟩
  ·rintro i c p σ H' hc ⟨⟨a,b,rfl⟩,sm⟩ hp
   have hc':(sg z)[i]?=some c:=by simpa [sg] using hc
   simp_all only []
   refine ⟨p,_,rfl,SqT.of upd_same,rfl,?_⟩
   simp_all only []
   refine ⟨rfl,.inl ⟨by simp; omega,?_⟩,⟨⟨some (.int ((i+1:Nat):Int)),some (.str ⟨#[c]⟩),?_⟩,?_⟩⟩
   ·have hc2:c<128:=by
     have h3:=List.mem_of_getElem? hc'
     rw [asc_sg] at ha
     simpa using List.all_eq_true.mp ha c h3
    simp
    omega
   ·rw [List.take_add_one,hc',sumN_append]
    have hi:i<(sg z).length:=(List.getElem?_eq_some_iff.mp hc').1
    rw [List.length_take,Nat.min_eq_left (by omega)]
    simp [sumN]
    rw [Int.add_comm 1 (i:Int)]
   ·exact sm.trans fun b o e=>by rw [upd_ne (ne_of_none e hp)]; exact e
  ·rintro σ H' ⟨⟨a,b,rfl⟩,sm⟩
   simp_all only []
   refine ⟨by decide,?_⟩
   have e:sumS z=((sumN 1 ((sg z).take z.cps.size):Nat):Int) % 65521:=by
    unfold sumS
    rw [List.take_of_length_le (by rw [sg_len]; exact Nat.le_refl _)]
    omega
   rw [← e]
   exact q H' sm
theorem sp32:(" " : Str)=c1 32:=by decide +kernel
theorem log_small {n:Nat} (h:n<2 ^ 64):n.log2<1920:=by
 by_cases h0:n=0
 ·subst h0; decide
 ·exact Nat.lt_trans ((Nat.log2_lt h0).mpr h) (by decide)
theorem sumS_lt (z:Str):0≤sumS z∧sumS z<65521:=by unfold sumS; omega
theorem num_head (m:Nat) (h:0<m):∃ c r,(Nat.toDigits 10 m).map Char.toNat=c::r∧49≤c:=by
 induction m using Nat.strongRecOn with
 | _ m ih =>
  by_cases h1:m<10
  ·rw [Nat.toDigits_of_lt_base h1]
   refine ⟨_,[],rfl,?_⟩
   have:∀ d:Nat,d<10→0<d→49≤(Nat.digitChar d).toNat:=by decide
   exact this m h1 h
  ·have hm:m % 10<10:=Nat.mod_lt m (by decide)
   have t:Nat.toDigits 10 (m / 10)++Nat.toDigits 10 (m % 10)=Nat.toDigits 10 (10*(m / 10)+m % 10):=Nat.toDigits_append_toDigits (by decide) (by omega) hm
   rw [Nat.div_add_mod] at t
   obtain ⟨c,r,e,hc⟩:=ih (m / 10) (by omega) (by omega)
   rw [← t,List.map_append,e]
   exact ⟨c,_,rfl,hc⟩
structure NumF (i:Int):Prop where
 dig:∀ c∈sg (toString i:Str),48≤c∧c≤57
 one:1≤(sg (toString i:Str)).length
 most:(sg (toString i:Str)).length≤18
 back:PySem.intText? (toString i:Str)=some i
 head:(toString i:Str) = "0"∨∃ c r,sg (toString i:Str)=c::r∧49≤c
theorem numF {i:Int} (h0:0≤i) (h1:i<10 ^ 18):NumF i:=by
 obtain ⟨m,rfl⟩:=Int.eq_ofNat_of_zero_le h0
 have hd:∀ c∈sg (toString ((m:Nat):Int):Str),48≤c∧c≤57:=by
  intro c hc
  rw [sg_num] at hc
  obtain ⟨ch,hch,e⟩:=List.mem_map.mp hc
  have r:=Nat.isDigit_of_mem_toDigits (by decide) (by decide) hch
  rw [← e]
  exact PyProof.Rows.digit_range r
 have hn:1≤(sg (toString ((m:Nat):Int):Str)).length:=by
  rcases Nat.eq_zero_or_pos m with h|h
  ·rw [h,sg_num]; decide
  ·obtain ⟨c,r,e,_⟩:=num_head m h
   rw [sg_num,e]; simp
 have hl:(sg (toString ((m:Nat):Int):Str)).length≤18:=by
  have e:(Nat.repr m).length≤18:=(Nat.length_repr_le_iff (by decide)).mpr (by omega)
  rw [sg_len]
  show (Str.ofString (toString ((m:Nat):Int))).length≤18
  rw [PySem.ofString_length]
  exact e
 refine ⟨hd,hn,hl,?_,?_⟩
 ·have e:=intText_digits (x:=(toString ((m:Nat):Int):Str)) hd (fun z=>by rw [show sg (toString ((m:Nat):Int):Str)=[] from z] at hn; cases hn) (by rw [← sg_len]; omega)
  have e2:(toString ((m:Nat):Int):Str).cps.toList=(Nat.toDigits 10 m).map Char.toNat:=sg_num m
  rw [e2,PySem.W.KIN.val_back] at e
  exact e
 ·rcases Nat.eq_zero_or_pos m with h|h
  ·left; rw [h]; rfl
  ·obtain ⟨c,r,e,hc⟩:=num_head m h
   exact .inr ⟨c,r,by rw [sg_num,e],hc⟩
theorem num_len {i:Int} (h0:0≤i) (h1:i<10 ^ 18):(toString i:Str).length≤19:=by
 have e:=int_text_length_le10 (a:=i) (k:=18) (by decide) (by omega)
 show (Str.ofString (toString i)).length≤19
 rw [PySem.ofString_length]
 exact e
theorem sc_summed:FnScope ["body"] ["body"] (defScope s_summed):=⟨rfl,rfl,rfl,by decide +kernel,rfl,by decide +kernel,by decide +kernel⟩
theorem ok_summed {f:Addr} {fd:FuncData} (F:Fun K "summed" "summed" s_summed f fd) (T:Txt w K mg A) (G_sum_of:GF P w K mg base true 1 "sum_of" ["text"] spSum):FnOk P w K mg base CX0 true 2 f fd ["body"] spSummed:=by
 refine F.ok sc_summed (fun vs H Q E h=>?_) (fun cdv Ar outer s H vs Q E hr h=>?_)
 ·obtain ⟨z,rfl,_⟩:=h; rfl
 ·obtain ⟨z,rfl,ha,hz,q⟩:=h
  refine ⟨_,(W.h (w_pss_one (w_ps_ret (w_pe_fstr (w_pj_cons (w_pe_fmt (w_pv 0)) (w_pj_cons (w_pe_fmt (w_pe_g G_sum_of hr rfl (w_pa_p (w_pv 0) w_pa_nil))) (w_pj_cons w_pe_str w_pj_nil))))))),?_⟩
  simp_all only []
  have hs:=sumS_lt z
  have hn:=num_len hs.1 (by omega)
  refine ⟨big5 (by omega),by rw [Str.empty_append]; exact big5 (by omega),z,rfl,ha,hz,fun H' s1=>?_⟩
  simp_all only []
  rw [Str.empty_append]
  have l1:(z++(toString (sumS z):Str)).length≤1000000:=by rw [Str.length_append]; omega
  have l2:(z++(toString (sumS z):Str)++";").length≤1000000:=by
   rw [Str.length_append,Str.length_append]
   have:(";" : Str).length=1:=by decide
   omega
  exact ⟨log_small (by omega),big5 l1,big5 l2,big5 l2,q H' s1⟩
theorem asc_tx (l:List Nat):asc (tx l)=l.all (· < 128):=by rw [asc_sg,sg_tx]
theorem asc_sub {z:Str} (h:asc z=true) {l:List Nat} (hl:∀ c∈l,c∈sg z):asc (tx l)=true:=by
 rw [asc_tx,List.all_eq_true]
 rw [asc_sg,List.all_eq_true] at h
 exact fun c hc=>h c (hl c hc)
theorem last_cut (c:Nat):∀ l:List Nat,c∈l→∃ a b,l=a++c::b∧c∉b
 | [],h=>by cases h
 | x::l,h=>by
  by_cases hm:c∈l
  ·obtain ⟨a,b,e,hb⟩:=last_cut c l hm
   exact ⟨x::a,b,by rw [e]; rfl,hb⟩
  ·rcases List.mem_cons.mp h with e|e
   ·exact ⟨[],l,by rw [e]; rfl,hm⟩
   ·exact absurd e hm
theorem bodyAt_of {z:Str} {a b:List Nat} (h:sg z=a++32::b) (hb:32∉b):bodyAt z=tx (a++[32]):=by
 unfold bodyAt
 rw [rfind_at h hb]
 have e:((a.length:Int)+1)=((a.length+1:Nat):Int):=by omega
 rw [e,slice_to (by rw [h]; simp),h]
 congr 1
 rw [show a++32::b=(a++[32])++b by simp,List.take_left' (by simp)]
theorem bodyAt_no {z:Str} (h:32∉sg z):bodyAt z=tx []:=by
 unfold bodyAt
 rw [rfind_no h]
 exact slice_to (j:=0) (Nat.zero_le _)
theorem bodyAt_ok {z:Str} (h:asc z=true):asc (bodyAt z)=true∧(bodyAt z).length≤z.length:=by
 refine ⟨?_,PySem.Txt.slice_le _ _ _⟩
 by_cases hm:32∈sg z
 ·obtain ⟨a,b,e,hb⟩:=last_cut 32 _ hm
  rw [bodyAt_of e hb]
  refine asc_sub h fun c hc=>?_
  rw [e,show a++32::b=(a++[32])++b by simp]
  exact List.mem_append_left _ hc
 ·rw [bodyAt_no hm,asc_tx]; rfl
theorem sc_body_of:FnScope ["text","body"] ["text"] (defScope s_body_of):=⟨rfl,rfl,rfl,by decide +kernel,rfl,by decide +kernel,by decide +kernel⟩
theorem ok_body_of {f:Addr} {fd:FuncData} (F:Fun K "body_of" "body_of" s_body_of f fd) (T:Txt w K mg A) (G_summed:GF P w K mg base true 2 "summed" ["body"] spSummed):FnOk P w K mg base CX0 true 3 f fd ["text"] spBody:=by
 refine F.ok sc_body_of (fun vs H Q E h=>?_) (fun cdv Ar outer s H vs Q E hr h=>?_)
 ·rcases h with ⟨z,rfl,_⟩|⟨v,rfl,_⟩ <;> rfl
 ·have hu:_<cLine:=Nat.lt_of_succ_lt (hu_of hr)
  refine ⟨_,(W.h (w_pss_cons (w_ps_if (w_pt_not (w_pt_tru (w_pe_callBp call_isi rfl T.n_isinstance boot_isinstance (w_pa_p (w_pv 0) (w_pa_p (w_pe_bltn rfl T.n_str boot_str (v:=.ty "str") rfl) w_pa_nil)))))
   (w_pss_one (w_ps_ret w_pe_non))
   w_pss_nil)
   (w_pss_cons (w_ps_set (i:=1) sc_body_of.nd rfl (Or.inl rfl) (w_pe_slice sl_U (w_pv 0) w_po_none (w_po_some (w_pe_op op_addU (w_pe_b_rfind (w_pv 0) w_pe_str) w_pe_int))))
   (w_pss_one (w_ps_ret (w_pe_ifExp (w_pt_cmpR (op_eqU hu) (w_pv 0) (w_pe_g G_summed hr rfl (w_pa_p (w_pv 1) w_pa_nil)) (nomark _)) (w_pv 1) w_pe_non)))))),?_⟩
  rcases h with ⟨z,rfl,ha,hz,q⟩|⟨v,rfl,tv,q⟩
  case inr =>
   simp_all only []
   refine isi_str tv ?_
   simp_all only []
   exact q
  simp_all only []
  refine ⟨_,_,_,_,_,rfl,rfl,.of (.str z),rfl,?_⟩
  simp_all only [big5 (Nat.le_trans hz (by decide)),sp32]
  obtain ⟨b1,b2⟩:=bodyAt_ok ha
  refine ⟨bodyAt z,rfl,b1,by omega,fun H' s1=>?_⟩
  simp_all only []
  have q':=q H' s1
  refine ite2 (fun h=>?_) fun h=>?_
  ·have e:bodyS z=some (bodyAt z):=if_pos (of_decide_eq_true h)
   rw [e] at q'
   exact q'
  ·have e:bodyS z=none:=if_neg fun x=>h (decide_eq_true x)
   rw [e] at q'
   exact q'
theorem join_nil:∀ ys:List Str,sg (PySem.Txt.join "" ys)=(ys.map sg).flatten:=by
 intro ys
 have e:PySem.Txt.join "" ys=Str.join "" ys:=StrLaws.glued_eq_join "" ys
 rw [e]
 induction ys with
 | nil=>rfl
 | cons y ys ih =>
  cases ys with
  | nil=>show sg y=_; simp
  | cons x ys =>
   have ih:=ih (StrLaws.glued_eq_join "" _)
   show sg (y++""++Str.join "" (x::ys))=_
   rw [sg_append,sg_append,ih]
   have:sg ("" : Str)=[]:=by decide
   rw [this]
   simp
theorem part_len {v:V} (h:Part v):(partT v).length≤100∧asc (partT v)=true:=by
 cases h with
 | bl b=>cases b <;> exact ⟨by decide,by rw [asc_sg]; decide⟩
 | int i h0 h1 =>
  have F:=numF h0 h1
  refine ⟨by show (toString i:Str).length≤100; rw [← sg_len]; have:=F.most; omega,?_⟩
  show asc (toString i:Str)=true
  rw [asc_sg,List.all_eq_true]
  exact fun c hc=>decide_eq_true (by have:=F.dig c hc; omega)
 | str z ha hz=>exact ⟨hz,ha⟩
theorem ahead_len:∀ {xs:List V},(∀ v∈xs,Part v)→(aheadL xs).length≤101*xs.length∧(aheadL xs).all (· < 128)=true
 | [],_=>⟨by simp [aheadL],rfl⟩
 | v::xs,h=>by
  obtain ⟨h1,h2⟩:=ahead_len (xs:=xs) fun u hu=>h u (List.mem_cons_of_mem _ hu)
  obtain ⟨p1,p2⟩:=part_len (h v (List.mem_cons_self ..))
  have e:aheadL (v::xs)=sg (partT v)++[32]++aheadL xs:=by simp [aheadL]
  rw [e]
  rw [← sg_len] at p1
  rw [asc_sg] at p2
  refine ⟨by simp; omega,?_⟩
  rw [List.all_append,List.all_append,p2,h2]
  rfl
theorem sc_part_text:FnScope ["part"] ["part"] (defScope s_part_text):=⟨rfl,rfl,rfl,by decide +kernel,rfl,by decide +kernel,by decide +kernel⟩
theorem ok_part_text {f:Addr} {fd:FuncData} {cm:Bool} (F:Fun K "part_text" "part_text" s_part_text f fd) (T:Txt w K mg A):FnOk P w K mg base CX0 cm 1 f fd ["part"] spPartT:=by
 refine F.ok sc_part_text (fun vs H Q E h=>?_) (fun cdv Ar outer s H vs Q E hr h=>?_)
 ·obtain ⟨v,rfl,_⟩:=h; rfl
 ·obtain ⟨v,rfl,hv,q⟩:=h
  refine ⟨_,(W.h (w_pss_cons (w_ps_if (w_pt_tru (w_pe_callBp call_isi rfl T.n_isinstance boot_isinstance (w_pa_p (w_pv 0) (w_pa_p (w_pe_bltn rfl T.n_bool boot_bool (v:=.ty "bool") rfl) w_pa_nil))))
   (w_pss_one (w_ps_ret (w_pe_ifExp (w_pt_tru (w_pv 0)) w_pe_str w_pe_str)))
   w_pss_nil)
   (w_pss_one (w_ps_ret (w_pe_callTyp call_strB rfl T.n_str boot_str (w_pa_p (w_pv 0) w_pa_nil)))))),?_⟩
  simp_all only []
  cases hv with
  | bl b =>
   refine ⟨_,_,_,_,_,rfl,rfl,.of (.bl b),rfl,?_⟩
   simp_all only []
   cases b with
   | true=>exact iteT q
   | false=>exact iteF q
  | int i h0 h1 =>
   refine ⟨_,_,_,_,_,rfl,rfl,.of (.int i),rfl,?_⟩
   simp_all only []
   exact ⟨log_small (by omega),q⟩
  | str z ha hz =>
   refine ⟨_,_,_,_,_,rfl,rfl,.of (.str z),rfl,?_⟩
   simp_all only []
   exact q
structure RowTInv (H:Hp) (xs:List V) (i:Nat) (τ:L2.St) (ys:List V) (H':Hp):Prop where
 ex:∃ t,τ=[t]
 ys:ys=((xs.take i).map fun v=>partT v++" ").map V.str
 same:H'=H
theorem sc_row_text:FnScope ["row"] ["row"] (defScope s_row_text):=⟨rfl,rfl,rfl,by decide +kernel,rfl,by decide +kernel,by decide +kernel⟩
theorem lc_row_text_0:lcStat { kind:=.function,names:=[(Str.ofString ".0",.local),(Str.ofString "part",.local),(Str.ofString "part_text",.globalImplicit)],isGenerator:=false,isCoroutine:=false,more:=[] } (defScope s_row_text).names ["row"] ["part"] [none]=true:=by decide +kernel
theorem lcn_row_text_0:(["part"]:List Str).Nodup:=by decide +kernel
theorem ok_row_text {f:Addr} {fd:FuncData} (F:Fun K "row_text" "row_text" s_row_text f fd) (T:Txt w K mg A) (G_summed:GF P w K mg base true 2 "summed" ["body"] spSummed) (G_part_text:GF P w K mg base true 1 "part_text" ["part"] spPartT):FnOk P w K mg base CX0 true 3 f fd ["row"] spRowT:=by
 refine F.ok sc_row_text (fun vs H Q E h=>?_) (fun cdv Ar outer s H vs Q E hr h=>?_)
 ·obtain ⟨a,xs,rfl,_⟩:=h; rfl
 ·obtain ⟨a,xs,rfl,hH,hx,hp,q⟩:=h
  refine ⟨_,(W.h (w_pss_one (w_ps_ret (w_pe_g G_summed hr rfl (w_pa_p (w_pe_b_join w_pe_str (w_pe_lc (fun _=>rfl) (LcOk.of lc_row_text_0) (w_pi_seq (w_pv 0)) (fun _ _ _ _ _=>(w_pg_name (i:=0) lcn_row_text_0 rfl (Or.inl rfl))) (fun _ _ _ _ _=>w_pts_nil) (fun _ _ _ _ _=>(w_pe_op op_addU (w_pe_g G_part_text hr rfl (w_pa_p (w_pv 0) w_pa_nil)) w_pe_str)))) w_pa_nil))))),?_⟩
  simp_all only []
  have sp1:(" " : Str).length=1:=by decide
  have step:∀ (N:L2.St→List V→Hp→Prop) (i:Nat) (x:V) (τ:L2.St) (ys:List V) (H':Hp),xs[i]?=some x→RowTInv H xs i τ ys H'→(∀ τ ys H3,RowTInv H xs (i+1) τ ys H3→N τ ys H3)→gName 0 x τ H' fun τ1 H4=>tAll τ1 H4 fun ok H5=>CompN N ys τ1 (tOp uAdd (tCall spPartT [] E0 (tCons (tVar 0) tNil)) (tC (V.str " "))) ok H5:=by
   intro N i x τ ys H' hx' I hN
   obtain ⟨t,rfl⟩:=I.ex
   have hv:=hp x (List.mem_of_getElem? hx')
   simp_all only []
   refine ⟨x,rfl,hv,?_⟩
   simp_all only []
   refine ⟨?_,hN _ _ _ ⟨⟨_,rfl⟩,by rw [I.ys,List.take_add_one,hx']; simp,I.same⟩⟩
   rw [sp1]
   exact big5 (by have:=(part_len hv).1; omega)
  have done:∀ (τ:L2.St) (ys:List V) (H':Hp),RowTInv H xs xs.length τ ys H'→∀ D H2,New H' D (.lst ys) H2→rJoin (V.str "") [.ref D] H2 fun x H1=>spSummed [x] H1 Q E0:=by
   intro τ ys H' I D H2 n2
   rw [rJoin_sr]
   have hall:xs.take xs.length=xs:=List.take_of_length_le (Nat.le_refl _)
   have e:PySem.Txt.join "" (xs.map fun v=>partT v++" ")=tx (aheadL xs):=by
    refine sg_inj ?_
    rw [join_nil,sg_tx,List.map_map]
    unfold aheadL
    congr 1
    refine List.map_congr_left fun v _=>?_
    show sg (partT v++" ")=_
    rw [sg_append]
    rfl
   obtain ⟨l1,l2⟩:=ahead_len hp
   refine ⟨xs.map fun v=>partT v++" ",by rw [n2.at_,I.ys,hall],?_,tx (aheadL xs),by rw [e],by rw [asc_tx]; exact l2,by rw [tx_len]; omega,fun H3 s3=>q H3 ?_⟩
   ·have es:((xs.map fun v=>partT v++" ").map (·.length)).sum=(aheadL xs).length:=by
     unfold aheadL
     rw [List.length_flatten,List.map_map,List.map_map]
     congr 1
     refine List.map_congr_left fun v _=>?_
     show (partT v++" ").length=(sg (partT v)++[32]).length
     rw [Str.length_append,List.length_append,sg_len]
     rfl
    rw [es,show ("" : Str).length=0 by decide]
    omega
   ·have:=n2.same
    rw [I.same] at this
    exact this.trans s3
  have sml:∀ i τ ys H',RowTInv H xs i τ ys H'→ys.length<sizeLine:=fun i τ ys H' I=>by
   rw [I.ys,List.length_map,List.length_map,List.length_take]
   exact big5' (by omega)
  rcases hH with hH|hH
  ·exact .inl ⟨⟨_,SqL.of hH⟩,CompJ.lst (xs:=xs) (RowTInv H xs) sml (fun i τ ys H' I=>SqL.of (by rw [I.same]; exact hH)) ⟨⟨_,rfl⟩,by simp,rfl⟩ step done⟩
  ·exact .inr ⟨⟨_,SqT.of hH⟩,CompJ.tup (xs:=xs) (RowTInv H xs) sml (fun i τ ys H' I=>SqT.of (by rw [I.same]; exact hH)) ⟨⟨_,rfl⟩,by simp,rfl⟩ step done⟩
end
abbrev s_read_part:Stmt:=top 41
abbrev s_row_of:Stmt:=top 40
abbrev s_read_row:Stmt:=top 39
section
variable {P:Program} {w:World} {K:PySem.W.Frag} {mg:Str→Option Value} {base:Heap} {A:ClsA}
theorem num_reads {z:Str} (h:numS z=true):∃ n,PySem.intText? z=some n∧z.length≤640:=by
 unfold numS madeS at h
 rw [Bool.and_eq_true,Bool.and_eq_true,Bool.and_eq_true,decide_eq_true_eq,decide_eq_true_eq] at h
 obtain ⟨⟨⟨h1,h2⟩,h3⟩,_⟩:=h
 have hl:z.length≤18:=by omega
 have hd:∀ c∈sg z,48≤c∧c≤57:=by
  intro c hc
  have:=List.all_eq_true.mp h3 c hc
  have hf:sg FIG=[48,49,50,51,52,53,54,55,56,57]:=by decide
  rw [hf] at this
  have:=List.contains_iff_mem.mp this
  simp only [List.mem_cons,List.not_mem_nil,or_false] at this
  omega
 refine ⟨_,intText_digits (x:=z) hd (fun e=>?_) (by omega),by omega⟩
 have:z.length=0:=by rw [← sg_len]; rw [show sg z=[] from e]; rfl
 omega
theorem sc_read_part:FnScope ["kind","word"] ["kind","word"] (defScope s_read_part):=⟨rfl,rfl,rfl,by decide +kernel,rfl,by decide +kernel,by decide +kernel⟩
theorem ok_read_part {f:Addr} {fd:FuncData} (F:Fun K "read_part" "read_part" s_read_part f fd) (T:Txt w K mg A) (G_is_number_text:GF P w K mg base true 2 "is_number_text" ["text"] (spTest numS)) (G_is_name:GF P w K mg base true 2 "is_name" ["text"] (spTest nameS)) (G_is_word:GF P w K mg base true 2 "is_word" ["text"] (spTest wordS)) :
  FnOk P w K mg base (CXW P w) true 3 f fd ["kind","word"] (spReadP A):=by
 refine F.okW sc_read_part (fun vs H Q E h=>?_) (fun cdv Ar outer s H vs Q E hr h=>?_)
 ·obtain ⟨k,z,rfl,_⟩:=h; rfl
 ·obtain ⟨k,z,rfl,ha,hz,q⟩:=h
  have hu:_<cLine:=Nat.lt_of_succ_lt (hu_of hr)
  have Th:=throws_def (cm:=true) (P:=P) (w:=w) (K:=K) (mg:=mg) (base:=base) (N:=["kind","word"]) (qual:="read_part") (scope:=defScope s_read_part) (f:=f) (cd:=cdv) (A:=Ar) (outer:=outer) (s:=s) (H:=H) (E:=E)
  refine ⟨_,(W.h (w_pss_cons (w_ps_cut (w_ps_if (w_pt (w_pw_and (w_pt_cmpR (op_eqU hu) (w_pv 0) w_pe_str (nomark _)) (w_pw_and1 (w_pt_tru (w_pe_g G_is_number_text hr rfl (w_pa_p (w_pv 1) w_pa_nil))))))
   (w_pss_one (w_ps_ret (w_pe_callTyp call_intT rfl T.n_int boot_int (w_pa_p (w_pv 1) w_pa_nil))))
   w_pss_nil))
   (w_pss_cons (w_ps_cut (w_ps_if (w_pt (w_pw_and (w_pt_cmpR (op_eqU hu) (w_pv 0) w_pe_str (nomark _)) (w_pw_and1 (w_pt_cmpR (op_inU hu) (w_pv 1) (w_pe_tupA (w_pa_p w_pe_str (w_pa_p w_pe_str w_pa_nil))) rfl))))
   (w_pss_one (w_ps_ret (w_pe_cmpR (op_eqU hu) (w_pv 1) w_pe_str (nomark _))))
   w_pss_nil))
   (w_pss_cons (w_ps_cut (w_ps_if (w_pt (w_pw_and (w_pt_cmpR (op_eqU hu) (w_pv 0) w_pe_str (nomark _)) (w_pw_and1 (w_pt_tru (w_pe_g G_is_name hr rfl (w_pa_p (w_pv 1) w_pa_nil))))))
   (w_pss_one (w_ps_ret (w_pv 1)))
   w_pss_nil))
   (w_pss_cons (w_ps_if (w_pt (w_pw_and (w_pt_cmpR (op_eqU hu) (w_pv 0) w_pe_str (nomark _)) (w_pw_and1 (w_pt_tru (w_pe_g G_is_word hr rfl (w_pa_p (w_pv 1) w_pa_nil))))))
   (w_pss_one (w_ps_ret (w_pv 1)))
   w_pss_nil)
   (w_pss_one (w_ps_raisep rfl Th T.ek_NoRow rfl T.mg_NoRow (w_pa_p w_pe_str w_pa_nil)))))))),?_⟩
  simp_all only [tCut_eq]
  refine ⟨fun σ' H'=>σ'=[some (.str k),some (.str z)]∧Same H H'∧¬ (k = "number"∧numS z=true),?_,?_⟩
  ·refine ite2 (fun h1=>?_) fun h1=>⟨rfl,Same.refl _,fun x=>h1 (decide_eq_true x.1)⟩
   refine ⟨z,rfl,ha,hz,fun H1 s1=>?_⟩
   simp_all only []
   refine ite2 (fun h2=>?_) fun h2=>⟨s1,fun x=>h2 x.2⟩
   obtain ⟨n,hn,hl⟩:=num_reads h2
   refine ⟨hl,n,hn,(q H1 s1).1 _ ?_⟩
   unfold readP
   rw [if_pos ⟨of_decide_eq_true h1,h2⟩,hn]
   rfl
  rintro σ' H1 ⟨rfl,s1,n1⟩
  simp_all only [tCut_eq]
  refine ⟨fun σ' H'=>σ'=[some (.str k),some (.str z)]∧Same H H'∧¬ (k = "end"∧(z = "0"∨z = "1")),?_,?_⟩
  ·refine ite2 (fun h1=>?_) fun h1=>⟨rfl,s1,fun x=>h1 (decide_eq_true x.1)⟩
   refine ⟨by decide,fun p H2 n2=>⟨_,.inr n2.at_,rfl,rfl,?_⟩⟩
   have e:inV (V.str z) [V.str "0",V.str "1"]=true↔(z = "0"∨z = "1"):=by
    unfold inV
    rw [List.any_cons,List.any_cons,List.any_nil,Bool.or_false,Bool.or_eq_true]
    have e3:∀ a:Str,eqV (V.str a) (V.str z)=true↔z=a:=fun a=>by
     show (a == z)=true↔_
     rw [beq_iff_eq]
     exact eq_comm
    rw [e3,e3]
   refine ite2 (fun h2=>?_) fun h2=>⟨rfl,s1.trans n2.same,fun x=>h2 (e.mpr x.2)⟩
   refine (q H2 (s1.trans n2.same)).1 _ ?_
   unfold readP
   rw [if_neg n1,if_pos ⟨of_decide_eq_true h1,e.mp h2⟩]
  rintro σ' H2 ⟨rfl,s2,n2⟩
  simp_all only [tCut_eq]
  refine ⟨fun σ' H'=>σ'=[some (.str k),some (.str z)]∧Same H H'∧¬ (k = "name"∧nameS z=true),?_,?_⟩
  ·refine ite2 (fun h1=>?_) fun h1=>⟨rfl,s2,fun x=>h1 (decide_eq_true x.1)⟩
   refine ⟨z,rfl,ha,hz,fun H3 s3=>?_⟩
   simp_all only []
   refine ite2 (fun h2=>?_) fun h2=>⟨s2.trans s3,fun x=>h2 x.2⟩
   refine (q H3 (s2.trans s3)).1 _ ?_
   unfold readP
   rw [if_neg n1,if_neg n2,if_pos ⟨of_decide_eq_true h1,h2⟩]
  rintro σ' H3 ⟨rfl,s3,n3⟩
  simp_all only []
  refine ite2 (fun h1=>?_) fun h1=>?_
  ·refine ⟨z,rfl,ha,hz,fun H4 s4=>?_⟩
   simp_all only []
   refine ite2 (fun h2=>?_) fun h2=>?_
   ·refine (q H4 (s3.trans s4)).1 _ ?_
    unfold readP
    rw [if_neg n1,if_neg n2,if_neg n3,if_pos ⟨of_decide_eq_true h1,h2⟩]
   ·refine ⟨by decide,(q H4 (s3.trans s4)).2 ?_⟩
    unfold readP
    rw [if_neg n1,if_neg n2,if_neg n3,if_neg fun x=>h2 x.2]
  ·refine ⟨by decide,(q H3 s3).2 ?_⟩
   unfold readP
   rw [if_neg n1,if_neg n2,if_neg n3,if_neg fun x=>h1 (decide_eq_true x.1)]
theorem parts_kinds (T:Txt w K mg A) (z:Str):(getK [("put",A.PARTS_put),("cut",A.PARTS_cut),("hold",A.PARTS_hold),("free",A.PARTS_free),("carry",A.PARTS_carry)] z = .non∧kindsS z=none) ∨
  ∃ p ks,getK [("put",A.PARTS_put),("cut",A.PARTS_cut),("hold",A.PARTS_hold),("free",A.PARTS_free),("carry",A.PARTS_carry)] z = .ref p∧kindsS z=some ks∧ks.length≤10∧∀ H:Hp,SqT K H p (ks.map V.str):=by
 unfold getK kindsS
 simp only [List.find?_cons,List.find?_nil]
 by_cases h1:z = "put"
 ·rw [if_pos h1,decide_eq_true h1.symm]
  exact .inr ⟨_,_,rfl,rfl,by decide,T.t_PARTS_put⟩
 rw [if_neg h1,decide_eq_false (Ne.symm h1)]
 by_cases h2:z = "cut"
 ·rw [if_pos h2,decide_eq_true h2.symm]
  exact .inr ⟨_,_,rfl,rfl,by decide,T.t_PARTS_cut⟩
 rw [if_neg h2,decide_eq_false (Ne.symm h2)]
 by_cases h3:z = "hold"
 ·rw [if_pos h3,decide_eq_true h3.symm]
  exact .inr ⟨_,_,rfl,rfl,by decide,T.t_PARTS_hold⟩
 rw [if_neg h3,decide_eq_false (Ne.symm h3)]
 by_cases h4:z = "free"
 ·rw [if_pos h4,decide_eq_true h4.symm]
  exact .inr ⟨_,_,rfl,rfl,by decide,T.t_PARTS_free⟩
 rw [if_neg h4,decide_eq_false (Ne.symm h4)]
 by_cases h5:z = "carry"
 ·rw [if_pos h5,decide_eq_true h5.symm]
  exact .inr ⟨_,_,rfl,rfl,by decide,T.t_PARTS_carry⟩
 rw [if_neg h5,decide_eq_false (Ne.symm h5)]
 exact .inl ⟨rfl,rfl⟩
theorem readPs_append:∀ {ks zs:List Str} (ks' zs':List Str),ks.length=zs.length→readPs (ks++ks') (zs++zs')=(readPs ks zs).bind fun vs=>(readPs ks' zs').map (vs++·)
 | [],[],ks',zs',_=>by simp [readPs]
 | k::ks,z::zs,ks',zs',h=>by
  have ih:=readPs_append (ks:=ks) (zs:=zs) ks' zs' (by simpa using h)
  show (readP k z).bind (fun v=>(readPs (ks++ks') (zs++zs')).map (v::·))=((readP k z).bind fun v=>(readPs ks zs).map (v::·)).bind _
  rw [ih]
  cases readP k z with
  | none=>rfl
  | some v =>
   cases readPs ks zs with
   | none=>rfl
   | some vs =>
    show ((readPs ks' zs').map (vs++·)).map (v::·)=(readPs ks' zs').map ((v::vs)++·)
    rw [Option.map_map]
    rfl
 | [],z::zs,_,_,h=>by cases h
 | k::ks,[],_,_,h=>by cases h
theorem rowS_cons (z:Str) (zs:List Str):rowS (z::zs)=(kindsS z).bind fun ks=>if zs.length=ks.length then (readPs ks zs).map (.str z::·) else none:=rfl
theorem cutV_tail {x:V} {l:List V}:cutV (x::l) (some 1) none=l:=by
 have e1:HT.sIx (x::l).length 0 (some 1)=1:=by simp [HT.sIx]
 have e2:HT.sIx (x::l).length (x::l).length none=l.length+1:=by simp [HT.sIx]
 unfold cutV
 rw [e1,e2]
 simp
structure RowOfInv (H:Hp) (a p r b:Addr) (z:Str) (ks zs:List Str) (i:Nat) (σ:L2.St) (H':Hp):Prop where
 ex:∃ k' z',σ=[some (V.ref a),some (.ref p),some (.ref r),k',z']
 same:Same H H'
 row:∃ vs,H' r=some (.lst (.str z::vs))∧readPs (ks.take i) (zs.take i)=some vs∧vs.length=i
 words:H' b=some (.lst (zs.map V.str))
 ne:H r=none∧H b=none∧r≠b
theorem sc_row_of:FnScope ["words","kinds","row","kind","word"] ["words"] (defScope s_row_of):=⟨rfl,rfl,rfl,by decide +kernel,rfl,by decide +kernel,by decide +kernel⟩
theorem ok_row_of {f:Addr} {fd:FuncData} (F:Fun K "row_of" "row_of" s_row_of f fd) (T:Txt w K mg A) (G_read_part:GX P w K mg base true 3 "read_part" ["kind","word"] (spReadP A)):FnOk P w K mg base (CXW P w) true 4 f fd ["words"] (spRowOf A):=by
 refine F.okW sc_row_of (fun vs H Q E h=>?_) (fun cdv Ar outer s H vs Q E hr h=>?_)
 ·obtain ⟨a,ws,rfl,_⟩:=h; rfl
 ·obtain ⟨a,ws,rfl,hH,hne,hl,hw,q,qn⟩:=h
  have hu:_<cLine:=Nat.lt_of_succ_lt (hu_of hr)
  have Th:=throws_def (cm:=true) (P:=P) (w:=w) (K:=K) (mg:=mg) (base:=base) (N:=["words","kinds","row","kind","word"]) (qual:="row_of") (scope:=defScope s_row_of) (f:=f) (cd:=cdv) (A:=Ar) (outer:=outer) (s:=s) (H:=H) (E:=E)
  obtain ⟨z,zs,rfl⟩:=List.exists_cons_of_ne_nil hne
  have e0:atI (V.str z::List.map V.str zs) 0=some (.str z):=atI_nat (j:=0) rfl
  refine ⟨_,(W.h (w_pss_cons (w_ps_set (i:=1) sc_row_of.nd rfl (Or.inl rfl) (w_pe_getK rfl T.mg_PARTS T.d_PARTS (w_pe_ix ix_U (w_pv 0) w_pe_int (fun _ _=>rfl))))
   (w_pss_cons (w_ps_if (w_pt (w_pw_or (w_pt_cmpR op_isU (w_pv 1) w_pe_non (nomark _)) (w_pw_or1 (w_pt_cmpR (op_neU hu) (w_pe_callBp call_lenU rfl T.n_len PySem.boot_len (w_pa_p (w_pv 0) w_pa_nil)) (w_pe_op op_addU (w_pe_callBp call_len_seq rfl T.n_len PySem.boot_len (w_pa_p (w_pv 1) w_pa_nil)) w_pe_int) (nomark _)))))
   (w_pss_one (w_ps_raisep rfl Th T.ek_NoRow rfl T.mg_NoRow (w_pa_p w_pe_str w_pa_nil)))
   w_pss_nil)
   (w_pss_cons (w_ps_set (i:=2) sc_row_of.nd rfl (Or.inl rfl) (w_pe_lstA (w_pa_p (w_pe_ix ix_U (w_pv 0) w_pe_int (fun _ _=>rfl)) w_pa_nil)))
   (w_pss_cons (w_ps_thr Th (w_ps_for (passes_F rfl (fun ok=>ok.frames) rfl) (by intro h; exact nomatch h) (w_pi_zipT rfl T.n_zip (w_pa_p (w_pv 1) (w_pa_p (w_pe_slice sl_U (w_pv 0) (w_po_some w_pe_int) w_po_none) w_pa_nil))) (w_pg_tupA (n:=2) (w_pgs_cons (w_pg_name (i:=3) sc_row_of.nd rfl (Or.inl rfl)) (w_pgs_cons (w_pg_name (i:=4) sc_row_of.nd rfl (Or.inl rfl)) w_pgs_nil)))
   (w_pss_one (w_ps_expr (w_pe_append (w_pv 2) (w_pe_gX throws_F G_read_part hr rfl (w_pa_p (w_pv 3) (w_pa_p (w_pv 4) w_pa_nil))))))))
   (w_pss_one (w_ps_ret (w_pe_callTyp call_tupU rfl T.n_tuple boot_tuple (w_pa_p (w_pv 2) w_pa_nil))))))))),?_⟩
  simp_all only [hH,e0]
  rcases parts_kinds T z with ⟨g1,g2⟩|⟨p,ks,g1,g2,g4,g3⟩
  ·simp_all only [g1]
   exact ⟨by decide,qn (by rw [rowS_cons,g2]; rfl) H (Same.refl _)⟩
  simp_all only [g1,hH]
  refine ⟨_,.inr (g3 H),?_⟩
  have hl2:(!decide ((((List.map V.str zs).length+1:Nat):Int)=((List.map V.str ks).length:Int)+1))=true↔zs.length≠ks.length:=by
   rw [List.length_map,List.length_map]
   simp
   omega
  refine ite2 (fun h=>?_) fun h=>?_
  ·refine ⟨by decide,qn ?_ H (Same.refl _)⟩
   rw [rowS_cons,g2]
   show (if zs.length=ks.length then _ else _)=_
   rw [if_neg (hl2.mp h)]
  have hlen:ks.length=zs.length:=by
   refine Classical.byContradiction fun hx=>h (hl2.mpr fun x=>hx x.symm)
  have hrow:rowS (z::zs)=(readPs ks zs).map (.str z::·):=by
   rw [rowS_cons,g2]
   show (if zs.length=ks.length then _ else _)=_
   rw [if_pos hlen.symm]
  refine ⟨_,e0,by decide,fun r H1 n1 _=>⟨_,n1.same _ _ hH,fun b H2 n2=>?_⟩⟩
  have s2:Same H H2:=n1.same.trans n2.same
  have er:=n2.same _ _ n1.at_
  have eb:=n2.at_
  rw [List.map_cons,cutV_tail] at eb
  have hrb:r≠b:=fun x=>by rw [x] at n1; have:=n1.at_; rw [n2.no] at this; cases this
  refine ⟨⟨_,g3 H2⟩,⟨_,SqL.of eb⟩,ForJ.zipT (xs:=ks.map V.str) (ys:=zs.map V.str) (by rw [List.length_map,List.length_map]; exact hlen) (RowOfInv H a p r b z ks zs) ⟨⟨_,_,rfl⟩,s2,⟨[],er,by simp [readPs],rfl⟩,eb,n1.no,n1.same.free n2.no,hrb⟩ (fun i σ H' _ I=>⟨g3 H',SqL.of I.words⟩) ?_ ?_⟩
  ·intro i x y t σ H' hx hy I ht
   obtain ⟨k',z',rfl⟩:=I.ex
   rw [List.getElem?_map] at hx hy
   obtain ⟨k,hk,rfl⟩:=Option.map_eq_some_iff.mp hx
   obtain ⟨u,hu',rfl⟩:=Option.map_eq_some_iff.mp hy
   obtain ⟨vs,hv,hp,hvl⟩:=I.row
   have hm:=hw u (List.mem_cons_of_mem _ (List.mem_of_getElem? hu'))
   simp_all only []
   refine ⟨t,_,rfl,SqT.of upd_same,rfl,?_⟩
   have hrt:r≠t:=fun x=>by rw [x] at hv; rw [ht] at hv; cases hv
   have hbt:b≠t:=fun x=>by have:=I.words; rw [x,ht] at this; cases this
   have hv2:upd H' t (.tup [.str k,.str u]) r=some (.lst (.str z::vs)):=by rw [upd_ne hrt]; exact hv
   simp_all only [hv2]
   have st:Same H (upd H' t (.tup [.str k,.str u])):=fun c o e=>by
    have:=I.same c o e
    rw [upd_ne (ne_of_none this ht)]; exact this
   have hi:i<ks.length:=(List.getElem?_eq_some_iff.mp hk).1
   have ta:(ks.take i).length=(zs.take i).length:=by rw [List.length_take,List.length_take,hlen]
   have tk:ks.take (i+1)=ks.take i++[k]:=by rw [List.take_add_one,hk]; rfl
   have tz:zs.take (i+1)=zs.take i++[u]:=by rw [List.take_add_one,hu']; rfl
   refine ⟨k,u,rfl,hm.1,hm.2,fun H3 s3=>⟨fun v hr'=>?_,fun hr'=>?_⟩⟩
   ·have h3r:H3 r=some (.lst (.str z::vs)):=s3 _ _ hv2
    have h3b:H3 b=some (.lst (zs.map V.str)):=s3 _ _ (by rw [upd_ne hbt]; exact I.words)
    refine ⟨_,h3r,by simp; exact big5' (by omega),⟨⟨_,_,rfl⟩,fun c o e=>?_,⟨vs++[v],by rw [upd_same]; rfl,?_,by simp [hvl]⟩,by rw [upd_ne (Ne.symm hrb)]; exact h3b,I.ne⟩⟩
    ·rw [upd_ne (ne_of_none e I.ne.1)]
     exact s3 _ _ (st c o e)
    ·rw [tk,tz,readPs_append _ _ ta,hp]
     show (readPs [k] [u]).map (vs++·)=_
     simp [readPs,hr']
   ·refine ⟨_,rfl,qn ?_ H3 (st.trans s3)⟩
    have e1:readPs ks zs=none:=by
     have k1:ks=ks.take (i+1)++ks.drop (i+1):=(List.take_append_drop _ _).symm
     have z1:zs=zs.take (i+1)++zs.drop (i+1):=(List.take_append_drop _ _).symm
     rw [k1,z1,readPs_append _ _ (by rw [List.length_take,List.length_take,hlen]),tk,tz,readPs_append _ _ ta,hp]
     simp [readPs,hr']
    rw [hrow,e1]
    rfl
  ·rintro σ H' I
   obtain ⟨k',z',rfl⟩:=I.ex
   obtain ⟨vs,hv,hp,hvl⟩:=I.row
   simp_all only [hv]
   intro l H2 n2
   rw [List.length_map,List.take_of_length_le (Nat.le_refl _),List.take_of_length_le (by omega)] at hp
   exact q _ (by rw [hrow,hp]; rfl) l H2 (I.same.trans n2.same) n2.at_
theorem splitL_mem {c:Nat}:∀ {l:List Nat} {w:List Nat},w∈splitL c l→∀ x∈w,x∈l
 | [],w,h,x,hx=>by
  rw [show splitL c []=[[]] from rfl,List.mem_singleton] at h
  rw [h] at hx; cases hx
 | y::l,w,h,x,hx=>by
  by_cases hc:y=c
  ·rw [show splitL c (y::l)=[]::splitL c l from if_pos hc] at h
   rcases List.mem_cons.mp h with e|h
   ·rw [e] at hx; cases hx
   ·exact List.mem_cons_of_mem _ (splitL_mem h x hx)
  ·rw [splitL_cons c y l hc] at h
   obtain ⟨a,r,e⟩:=splitL_ne c l
   rw [e] at h
   rcases List.mem_cons.mp h with e2|h
   ·rw [e2] at hx
    rcases List.mem_cons.mp hx with e3|hx
    ·rw [e3]; exact List.mem_cons_self ..
    ·exact List.mem_cons_of_mem _ (splitL_mem (l:=l) (w:=a) (by rw [e]; exact List.mem_cons_self ..) x hx)
   ·exact List.mem_cons_of_mem _ (splitL_mem (l:=l) (by rw [e]; exact List.mem_cons_of_mem _ h) x hx)
theorem splitL_len (c:Nat):∀ l:List Nat,(splitL c l).length≤l.length+1∧∀ w∈splitL c l,w.length≤l.length
 | []=>⟨by simp [splitL],by simp [splitL]⟩
 | y::l=>by
  obtain ⟨h1,h2⟩:=splitL_len c l
  by_cases hc:y=c
  ·rw [show splitL c (y::l)=[]::splitL c l from if_pos hc]
   refine ⟨by simp; omega,fun w hw=>?_⟩
   rcases List.mem_cons.mp hw with e|hw
   ·rw [e]; simp
   ·have:=h2 w hw; simp; omega
  ·rw [splitL_cons c y l hc]
   obtain ⟨a,r,e⟩:=splitL_ne c l
   rw [e] at h1 h2 ⊢
   refine ⟨by simpa [preH] using Nat.le_succ_of_le h1,fun w hw=>?_⟩
   rcases List.mem_cons.mp hw with e2|hw
   ·have:=h2 a (List.mem_cons_self ..); rw [e2]; simp; omega
   ·have:=h2 w (List.mem_cons_of_mem _ hw); simp; omega
theorem asc_mem {z:Str} (h:asc z=true) {c:Nat} (hc:c∈sg z):c<128:=by
 rw [asc_sg] at h
 simpa using List.all_eq_true.mp h c hc
theorem sc_read_row:FnScope ["text","body"] ["text"] (defScope s_read_row):=⟨rfl,rfl,rfl,by decide +kernel,rfl,by decide +kernel,by decide +kernel⟩
theorem ok_read_row {f:Addr} {fd:FuncData} (F:Fun K "read_row" "read_row" s_read_row f fd) (T:Txt w K mg A) (G_body_of:GF P w K mg base true 3 "body_of" ["text"] spBody) (G_row_of:GX P w K mg base true 4 "row_of" ["words"] (spRowOf A)):FnOk P w K mg base (CXW P w) true 5 f fd ["text"] (spReadR A):=by
 refine F.okW sc_read_row (fun vs H Q E h=>?_) (fun cdv Ar outer s H vs Q E hr h=>?_)
 ·rcases h with ⟨v,rfl,_⟩|⟨z,rfl,_⟩ <;> rfl
 ·have Th:=throws_def (cm:=true) (P:=P) (w:=w) (K:=K) (mg:=mg) (base:=base) (N:=["text","body"]) (qual:="read_row") (scope:=defScope s_read_row) (f:=f) (cd:=cdv) (A:=Ar) (outer:=outer) (s:=s) (H:=H) (E:=E)
  refine ⟨_,(W.h (w_pss_cons (w_ps_set (i:=1) sc_read_row.nd rfl (Or.inl rfl) (w_pe_g G_body_of hr rfl (w_pa_p (w_pv 0) w_pa_nil)))
   (w_pss_cons (w_ps_if (w_pt_cmpR op_isU (w_pv 1) w_pe_non (nomark _))
   (w_pss_one (w_ps_raisep rfl Th T.ek_NoRow rfl T.mg_NoRow (w_pa_p w_pe_str w_pa_nil)))
   w_pss_nil)
   (w_pss_one (w_ps_ret (w_pe_gX Th G_row_of hr rfl (w_pa_p (w_pe_b_split (w_pe_slice sl_U (w_pv 1) w_po_none (w_po_some (w_pe_un un_neg w_pe_int))) w_pe_str) w_pa_nil))))))),?_⟩
  rcases h with ⟨v,rfl,tv,q⟩|⟨z,rfl,ha,hz,q,qn⟩
  case inl =>
   simp_all only []
   refine .inr ⟨v,rfl,tv,?_⟩
   simp_all only []
   exact ⟨by decide,q⟩
  simp_all only []
  refine .inl ⟨z,rfl,ha,hz,fun H1 s1=>?_⟩
  cases hb:bodyS z with
  | none =>
   simp_all only [optV]
   exact ⟨by decide,qn (by unfold readS; rw [hb]; rfl) H1 s1⟩
  | some b =>
   have eb:b=bodyAt z:=by
    unfold bodyS at hb
    split at hb
    ·exact (Option.some.inj hb).symm
    ·cases hb
   obtain ⟨b1,b2⟩:=bodyAt_ok ha
   rw [← eb] at b1 b2
   have hs:readS z=rowS (PySem.Txt.split (PySem.Txt.slice b none (some (-1))) (c1 32)):=by unfold readS; rw [hb]; rfl
   have b3:(PySem.Txt.slice b none (some (-1))).length≤b.length:=PySem.Txt.slice_le _ _ _
   simp_all only [optV,sp32,big5 (Nat.le_trans (Nat.le_trans b2 hz) (by decide))]
   generalize hy:PySem.Txt.slice b none (some (-1))=y at *
   have ya:asc y=true:=by
    by_cases h0:0<(sg b).length
    ·rw [slice_but_last h0] at hy
     rw [← hy]
     exact asc_sub b1 fun c hc=>(List.dropLast_sublist _).subset hc
    ·rw [sg_len] at h0
     have:sg y=[]:=List.eq_nil_of_length_eq_zero (by rw [sg_len]; omega)
     rw [asc_sg,this]; rfl
   have es:=split_one y (c:=32) (by decide)
   obtain ⟨l1,l2⟩:=splitL_len 32 (sg y)
   rw [sg_len] at l1
   refine ⟨by decide,big5' (by omega),by rw [es,List.length_map]; exact big5 (by omega),fun p H2 n2=>?_⟩
   refine ⟨p,PySem.Txt.split y (c1 32),rfl,n2.at_,?_,by rw [es,List.length_map]; omega,fun u hu=>?_,fun xs hx p3 H3 s3 h3=>q xs (by rw [hs]; exact hx) p3 H3 ((s1.trans n2.same).trans s3) h3,fun hx H3 s3=>⟨_,rfl,qn (by rw [hs]; exact hx) H3 ((s1.trans n2.same).trans s3)⟩⟩
   ·rw [es]
    obtain ⟨a,r,e⟩:=splitL_ne 32 (sg y)
    rw [e]; simp
   ·rw [es] at hu
    obtain ⟨v,hv,rfl⟩:=List.mem_map.mp hu
    refine ⟨asc_sub ya (splitL_mem hv),?_⟩
    rw [tx_len]
    have:=l2 v hv
    rw [sg_len] at this
    omega
end
def numI (i:Int):Prop:=0≤i∧i<10 ^ 18
inductive RowOk:List V→Prop
 | put (n g:Int) (b:Bool) (nm:Str) (pl:Int) (wd:Str):numI n→numI g→numI pl→nameS nm=true→wordS wd=true→RowOk [.str "put",.int n,.int g,.bl b,.str nm,.int pl,.str wd]
 | cut (n:Int) (nm:Str) (pl:Int):numI n→numI pl→nameS nm=true→RowOk [.str "cut",.int n,.str nm,.int pl]
 | hold (n:Int) (nm:Str):numI n→nameS nm=true→RowOk [.str "hold",.int n,.str nm]
 | free (n:Int) (nm:Str):numI n→nameS nm=true→RowOk [.str "free",.int n,.str nm]
 | carry (n g:Int) (wd:Str):numI n→numI g→wordS wd=true→RowOk [.str "carry",.int n,.int g,.str wd]
theorem made_of {z y:Str} {m:Int} (h:∀ c∈sg z,c∈sg y) (h1:1≤z.length) (h2:(z.length:Int)≤m):madeS z y m=true:=by
 unfold madeS
 rw [decide_eq_true (show (1:Int)≤z.length by omega),decide_eq_true h2]
 rw [Bool.true_and,Bool.true_and,List.all_eq_true]
 exact fun c hc=>List.contains_iff_mem.mpr (h c hc)
theorem summed_body {l:List Nat} (hl:∃ a,l=a++[32]):bodyAt (summedS (tx l))=tx l:=by
 obtain ⟨a,rfl⟩:=hl
 have F:=numF (sumS_lt (tx (a++[32]))).1 (by have:=(sumS_lt (tx (a++[32]))).2; omega)
 have e:sg (summedS (tx (a++[32])))=a++32::(sg (toString (sumS (tx (a++[32]))):Str)++[59]):=by
  unfold summedS
  rw [sg_append,sg_append,sg_tx]
  simp
  decide +kernel
 refine bodyAt_of e fun h=>?_
 rcases List.mem_append.mp h with h|h
 ·have:=F.dig 32 h; omega
 ·simp at h
theorem made_no {z y:Str} {m:Int} (h:madeS z y m=true) (hy:32∉sg y):32∉sg z:=by
 unfold madeS at h
 rw [Bool.and_eq_true] at h
 intro hz
 exact hy (List.contains_iff_mem.mp (List.all_eq_true.mp h.2 32 hz))
theorem name_no {z:Str} (h:nameS z=true):32∉sg z:=made_no h (by decide +kernel)
theorem word_no {z:Str} (h:wordS z=true):32∉sg z:=made_no h (by decide +kernel)
theorem num_no {i:Int} (h:numI i):32∉sg (toString i:Str):=fun hz=>by
 have:=(numF h.1 h.2).dig 32 hz
 omega
theorem made_asc {z y:Str} {m:Int} (h:madeS z y m=true) (hy:∀ c∈sg y,c<128) (hm:m≤100):asc z=true∧z.length≤100:=by
 unfold madeS at h
 rw [Bool.and_eq_true,Bool.and_eq_true,decide_eq_true_eq,decide_eq_true_eq] at h
 refine ⟨?_,by omega⟩
 rw [asc_sg,List.all_eq_true]
 exact fun c hc=>decide_eq_true (hy c (List.contains_iff_mem.mp (List.all_eq_true.mp h.2 c hc)))
theorem name_part {z:Str} (h:nameS z=true):Part (.str z):=by
 obtain ⟨a,b⟩:=made_asc h (by decide +kernel) (by decide)
 exact .str z a b
theorem word_part {z:Str} (h:wordS z=true):Part (.str z):=by
 obtain ⟨a,b⟩:=made_asc h (by decide +kernel) (by decide)
 exact .str z a b
theorem num_part {i:Int} (h:numI i):Part (.int i):=.int i h.1 h.2
theorem num_num {i:Int} (h:numI i):numS (toString i:Str)=true:=by
 have F:=numF h.1 h.2
 unfold numS
 rw [Bool.and_eq_true]
 constructor
 ·refine made_of (fun c hc=>?_) (by rw [← sg_len]; exact F.one) (by rw [← sg_len]; have:=F.most; omega)
  have hf:sg FIG=[48,49,50,51,52,53,54,55,56,57]:=by decide
  rw [hf]
  have:=F.dig c hc
  simp
  omega
 ·rcases F.head with h|⟨c,r,e,hc⟩
  ·rw [decide_eq_true h]; rfl
  ·rw [e]
   have : ¬ tx (List.take 1 (c::r))=("0" : Str):=fun x=>by
    have:=congrArg sg x
    rw [sg_tx] at this
    have h0:sg ("0" : Str)=[48]:=by decide
    rw [h0] at this
    injection this with h1 _
    omega
   rw [decide_eq_false this]
   simp
theorem read_num {i:Int} (h:numI i):readP "number" (toString i:Str)=some (.int i):=by
 unfold readP
 rw [if_pos ⟨rfl,num_num h⟩,(numF h.1 h.2).back]
 rfl
theorem read_name {z:Str} (h:nameS z=true):readP "name" z=some (.str z):=by
 unfold readP
 rw [if_neg (fun x=>absurd x.1 (by decide +kernel)),if_neg (fun x=>absurd x.1 (by decide +kernel)),if_pos ⟨rfl,h⟩]
theorem read_word {z:Str} (h:wordS z=true):readP "word" z=some (.str z):=by
 unfold readP
 rw [if_neg (fun x=>absurd x.1 (by decide +kernel)),if_neg (fun x=>absurd x.1 (by decide +kernel)),if_neg (fun x=>absurd x.1 (by decide +kernel)),if_pos ⟨rfl,h⟩]
theorem read_end (b:Bool):readP "end" (partT (.bl b))=some (.bl b):=by cases b <;> decide +kernel
theorem read_words {xs:List V} {v:V} (hn:∀ u∈v::xs,32∉sg (partT u)):readS (rowT (v::xs))=rowS ((v::xs).map partT):=by
 have flat:∀ l:List V,aheadL l=(l.map fun u=>sg (partT u)++[32]).flatten:=fun l=>rfl
 have ap:∀ (u:V) (l:List V),aheadL (u::l)=sg (partT u)++32::aheadL l:=fun u l=>by simp [aheadL]
 have key:∀ (u:V) (l:List V),aheadL (u::l)=sg (partT u)++((l.map fun t=>sg (partT t)).map (32::·)).flatten++[32]:=by
  intro u l
  induction l generalizing u with
  | nil=>simp [aheadL]
  | cons t l ih =>
   rw [ap u (t::l),ih t]
   simp
 have hb:bodyAt (rowT (v::xs))=tx (aheadL (v::xs)):=summed_body ⟨_,key v xs⟩
 have hs:bodyS (rowT (v::xs))=some (tx (aheadL (v::xs))):=by
  unfold bodyS
  rw [hb]
  exact if_pos rfl
 unfold readS
 rw [hs]
 show rowS (PySem.Txt.split (PySem.Txt.slice (tx (aheadL (v::xs))) none (some (-1))) (c1 32))=_
 rw [slice_but_last (by rw [sg_tx,key,List.length_append]; exact Nat.lt_of_lt_of_le (by decide) (Nat.le_add_left _ _)),sg_tx,key,List.dropLast_concat,split_one _ (by decide),sg_tx,splitL_words]
 ·congr 1
  rw [List.map_cons,List.map_map,List.map_cons,tx_sg]
  congr 1
 ·intro u hu
  rcases List.mem_cons.mp hu with rfl|hu
  ·exact hn v (List.mem_cons_self ..)
  ·obtain ⟨t,ht,rfl⟩:=List.mem_map.mp hu
   exact hn t (List.mem_cons_of_mem _ ht)
theorem RowOk.read {xs:List V} (h:RowOk xs):readS (rowT xs)=some xs:=by
 have bno:∀ b:Bool,32∉sg (partT (.bl b)):=fun b=>by cases b <;> decide
 cases h with
 | put n g b nm pl wd h1 h2 h3 h4 h5 =>
  rw [read_words (by
   simp only [List.mem_cons,List.not_mem_nil,or_false]
   rintro u (rfl|rfl|rfl|rfl|rfl|rfl|rfl)
   ·decide +kernel
   ·exact num_no h1
   ·exact num_no h2
   ·exact bno b
   ·exact name_no h4
   ·exact num_no h3
   ·exact word_no h5)]
  have ek:kindsS "put" = some (["number","number","end","name","number","word"]:List Str):=by decide +kernel
  show rowS [("put" : Str),(toString n:Str),(toString g:Str),partT (.bl b),nm,(toString pl:Str),wd]=_
  rw [rowS_cons,ek]
  simp only [Option.bind_some,List.length_cons,List.length_nil,if_true,readPs,read_num h1,read_num h2,read_end,read_name h4,read_num h3,read_word h5,Option.map_some]
 | cut n nm pl h1 h2 h3 =>
  rw [read_words (by
   simp only [List.mem_cons,List.not_mem_nil,or_false]
   rintro u (rfl|rfl|rfl|rfl)
   ·decide +kernel
   ·exact num_no h1
   ·exact name_no h3
   ·exact num_no h2)]
  have ek:kindsS "cut" = some (["number","name","number"]:List Str):=by decide +kernel
  show rowS [("cut" : Str),(toString n:Str),nm,(toString pl:Str)]=_
  rw [rowS_cons,ek]
  simp only [Option.bind_some,List.length_cons,List.length_nil,if_true,readPs,read_num h1,read_name h3,read_num h2,Option.map_some]
 | hold n nm h1 h2 =>
  rw [read_words (by
   simp only [List.mem_cons,List.not_mem_nil,or_false]
   rintro u (rfl|rfl|rfl)
   ·decide +kernel
   ·exact num_no h1
   ·exact name_no h2)]
  have ek:kindsS "hold" = some (["number","name"]:List Str):=by decide +kernel
  show rowS [("hold" : Str),(toString n:Str),nm]=_
  rw [rowS_cons,ek]
  simp only [Option.bind_some,List.length_cons,List.length_nil,if_true,readPs,read_num h1,read_name h2,Option.map_some]
 | free n nm h1 h2 =>
  rw [read_words (by
   simp only [List.mem_cons,List.not_mem_nil,or_false]
   rintro u (rfl|rfl|rfl)
   ·decide +kernel
   ·exact num_no h1
   ·exact name_no h2)]
  have ek:kindsS "free" = some (["number","name"]:List Str):=by decide +kernel
  show rowS [("free" : Str),(toString n:Str),nm]=_
  rw [rowS_cons,ek]
  simp only [Option.bind_some,List.length_cons,List.length_nil,if_true,readPs,read_num h1,read_name h2,Option.map_some]
 | carry n g wd h1 h2 h3 =>
  rw [read_words (by
   simp only [List.mem_cons,List.not_mem_nil,or_false]
   rintro u (rfl|rfl|rfl|rfl)
   ·decide +kernel
   ·exact num_no h1
   ·exact num_no h2
   ·exact word_no h3)]
  have ek:kindsS "carry" = some (["number","number","word"]:List Str):=by decide +kernel
  show rowS [("carry" : Str),(toString n:Str),(toString g:Str),wd]=_
  rw [rowS_cons,ek]
  simp only [Option.bind_some,List.length_cons,List.length_nil,if_true,readPs,read_num h1,read_num h2,read_word h3,Option.map_some]
theorem RowOk.parts {xs:List V} (h:RowOk xs):xs.length≤10∧xs.all flatV=true∧(∀ v∈xs,∀ b,v≠.byt b)∧∀ v∈xs,Part v:=by
 have kp:∀ z:Str,asc z=true→z.length≤100→Part (.str z):=fun z a b=>.str z a b
 cases h with
 | put n g b nm pl wd h1 h2 h3 h4 h5 =>
  refine ⟨by simp,rfl,by simp,?_⟩
  simp only [List.mem_cons,List.not_mem_nil,or_false]
  rintro u (rfl|rfl|rfl|rfl|rfl|rfl|rfl)
  ·exact kp _ (by rw [asc_sg]; decide +kernel) (by decide)
  ·exact num_part h1
  ·exact num_part h2
  ·exact .bl b
  ·exact name_part h4
  ·exact num_part h3
  ·exact word_part h5
 | cut n nm pl h1 h2 h3 =>
  refine ⟨by simp,rfl,by simp,?_⟩
  simp only [List.mem_cons,List.not_mem_nil,or_false]
  rintro u (rfl|rfl|rfl|rfl)
  ·exact kp _ (by rw [asc_sg]; decide +kernel) (by decide)
  ·exact num_part h1
  ·exact name_part h3
  ·exact num_part h2
 | hold n nm h1 h2 =>
  refine ⟨by simp,rfl,by simp,?_⟩
  simp only [List.mem_cons,List.not_mem_nil,or_false]
  rintro u (rfl|rfl|rfl)
  ·exact kp _ (by rw [asc_sg]; decide +kernel) (by decide)
  ·exact num_part h1
  ·exact name_part h2
 | free n nm h1 h2 =>
  refine ⟨by simp,rfl,by simp,?_⟩
  simp only [List.mem_cons,List.not_mem_nil,or_false]
  rintro u (rfl|rfl|rfl)
  ·exact kp _ (by rw [asc_sg]; decide +kernel) (by decide)
  ·exact num_part h1
  ·exact name_part h2
 | carry n g wd h1 h2 h3 =>
  refine ⟨by simp,rfl,by simp,?_⟩
  simp only [List.mem_cons,List.not_mem_nil,or_false]
  rintro u (rfl|rfl|rfl|rfl)
  ·exact kp _ (by rw [asc_sg]; decide +kernel) (by decide)
  ·exact num_part h1
  ·exact num_part h2
  ·exact word_part h3
abbrev Tx:=Option Str
def tv:Tx→V|none=>.non|some z=>.str z
def lv:Option Int→V|none=>.non|some i=>.int i
structure DM where
 rows:List (List Tx)
 sides:List Tx
 cnt:Int
 left:Option Int
 st:Bool
def dn (left:Option Int) (many:Int):Int:=match left with|none=>many|some l=>if l<many then l else many
def DM.spend (d:DM) (many:Int):DM:={ d with cnt:=d.cnt+dn d.left many,left:=d.left.map (· - dn d.left many),st:=decide (dn d.left many<many) }
inductive Res where|val (v:V)|full|stop
def cutT (t:Str) (n:Int):Tx:=some (Txt.slice t none (some n))
def DM.write (m:Int) (d:DM) (k:Nat) (t:Str):Res×DM :=
 if d.st=true then (.stop,d) else if ((d.rows.getD k []).length:Int)=m then (.full,d) else
 if dn d.left t.length=0∧(d.spend t.length).st=true then (.stop,d.spend t.length) else
 ((if (d.spend t.length).st=true then .stop else .val (.int (d.rows.getD k []).length)),{ d.spend t.length with rows:=d.rows.set k (d.rows.getD k []++[cutT t (dn d.left t.length)]) })
def DM.empty (d:DM) (k:Nat):Res×DM :=
 if d.st=true then (.stop,d) else
 if (d.spend (d.rows.getD k []).length).st=true then (.stop,{ d.spend (d.rows.getD k []).length with rows:=d.rows.set k (List.replicate (dn d.left (d.rows.getD k []).length).toNat none++(d.rows.getD k []).drop (dn d.left (d.rows.getD k []).length).toNat) }) else
 (.val .non,{ d.spend (d.rows.getD k []).length with rows:=d.rows.set k [] })
structure Rows (H:Hp) (wl:Addr) (cells:List Addr) (rows:List (List Tx)):Prop where
 w:H wl=some (.lst (cells.map V.ref))
 len:cells.length=rows.length
 at_:∀ i c,cells[i]?=some c→H c=some (.lst ((rows.getD i []).map tv))
def flds (m:Int) (wl sl:Addr) (d:DM):List (Str×V):=[("width",.int m),("written",.ref wl),("at_sides",.ref sl),("counted",.int d.cnt),("left",lv d.left),("has_stopped",.bl d.st)]
structure DiskAt (A:ClsA) (H:Hp) (p wl sl:Addr) (cells:List Addr) (m:Int) (d:DM):Prop where
 ob:∃ dx,H p=some (.ins A.Disk dx (flds m wl sl d))
 rows:Rows H wl cells d.rows
 sides:H sl=some (.lst (d.sides.map tv))
 nd:(p::wl::sl::cells).Nodup
def Keeps (F:List Addr) (H H':Hp):Prop:=∀ b o,H b=some o→b∉F→H' b=some o
theorem Keeps.refl {F:List Addr} {H:Hp}:Keeps F H H:=fun _ _ h _=>h
theorem Keeps.trans {F:List Addr} {H H1 H2:Hp} (a:Keeps F H H1) (b:Keeps F H1 H2):Keeps F H H2:=fun c o h hc=>b c o (a c o h hc) hc
theorem Keeps.mono {F G:List Addr} {H H':Hp} (a:Keeps F H H') (s:∀ x∈F,x∈G):Keeps G H H':=fun c o h hc=>a c o h fun z=>hc (s c z)
theorem Keeps.upd {F:List Addr} {H:Hp} {x:Addr} {o:HO} (hx:x∈F):Keeps F H (L2.upd H x o):=fun c u h hc=>by
 have hne:c≠x:=fun z=>hc (by rw [z]; exact hx)
 rw [upd_ne hne]; exact h
theorem Rows.keep {H H':Hp} {wl:Addr} {cells:List Addr} {rows:List (List Tx)} (r:Rows H wl cells rows) (k:∀ b o,H b=some o→b=wl∨b∈cells→H' b=some o):Rows H' wl cells rows :=
 ⟨k _ _ r.w (.inl rfl),r.len,fun i c hc=>k _ _ (r.at_ i c hc) (.inr (List.mem_of_getElem? hc))⟩
theorem DiskAt.keep {A:ClsA} {H H':Hp} {p wl sl:Addr} {cells:List Addr} {m:Int} {d:DM} {F:List Addr} (D:DiskAt A H p wl sl cells m d) (k:Keeps F H H') (hF:∀ x∈p::wl::sl::cells,x∉F):DiskAt A H' p wl sl cells m d:=by
 obtain ⟨dx,h⟩:=D.ob
 refine ⟨⟨dx,k _ _ h (hF _ (by simp))⟩,D.rows.keep fun b o e hb=>k b o e (hF b ?_),k _ _ D.sides (hF _ (by simp)),D.nd⟩
 rcases hb with rfl|hb
 ·simp
 ·simp [hb]
theorem ix_inj {l:List Addr} (nd:l.Nodup) {i j:Nat} {a:Addr} (h1:l[i]?=some a) (h2:l[j]?=some a):i=j:=by
 obtain ⟨hi,e1⟩:=List.getElem?_eq_some_iff.mp h1
 obtain ⟨hj,e2⟩:=List.getElem?_eq_some_iff.mp h2
 exact (List.getElem_inj nd).mp (e1.trans e2.symm)
theorem Rows.set {H:Hp} {wl:Addr} {cells:List Addr} {rows:List (List Tx)} {k:Nat} {c:Addr} {r:List Tx} (R:Rows H wl cells rows) (nd:(wl::cells).Nodup) (hc:cells[k]?=some c):Rows (upd H c (.lst (r.map tv))) wl cells (rows.set k r):=by
 have hn:=List.nodup_cons.mp nd
 have hk:k<rows.length:=by rw [← R.len]; exact (List.getElem?_eq_some_iff.mp hc).1
 have hwc:wl≠c:=fun z=>hn.1 (by rw [z]; exact List.mem_of_getElem? hc)
 refine ⟨by rw [upd_ne hwc]; exact R.w,by rw [List.length_set]; exact R.len,fun i b hb=>?_⟩
 by_cases hi:i=k
 ·subst hi
  rw [hc] at hb
  cases hb
  rw [upd_same]
  simp [List.getD_eq_getElem?_getD,hk]
 ·have hbc:b≠c:=fun z=>by
   subst z
   exact hi (ix_inj hn.2 hb hc)
  rw [upd_ne hbc,R.at_ i b hb]
  simp [List.getD_eq_getElem?_getD,List.getElem?_set_ne (Ne.symm hi)]
abbrev s_Disk_stretches:Stmt:=inClass (top 56) 1
abbrev s_Disk_places:Stmt:=inClass (top 56) 2
abbrev s_Disk_next_place:Stmt:=inClass (top 56) 3
abbrev s_Disk_told:Stmt:=inClass (top 56) 4
abbrev s_Disk_signs:Stmt:=inClass (top 56) 6
abbrev s_Disk_refuse_if_stopped:Stmt:=inClass (top 56) 12
abbrev s_Disk_spend:Stmt:=inClass (top 56) 13
abbrev s_Disk_first_signs:Stmt:=inClass (top 56) 14
section
variable {P:Program} {w:World} {K:PySem.W.Frag} {mg:Str→Option Value} {base:Heap} {A:ClsA}
section
variable {m:Int} {wl sl:Addr} {d:DM}
theorem fl_width:(flds m wl sl d).lookup ("width" : Str)=some (.int m):=by simp only [flds,List.lookup,beq_self_eq_true]
theorem fl_written:(flds m wl sl d).lookup ("written" : Str)=some (.ref wl):=by simp only [flds,List.lookup,beq_self_eq_true,nb_written_width]
theorem fl_counted:(flds m wl sl d).lookup ("counted" : Str)=some (.int d.cnt):=by simp only [flds,List.lookup,beq_self_eq_true,nb_counted_width,nb_counted_written,nb_counted_at_sides]
theorem fl_left:(flds m wl sl d).lookup ("left" : Str)=some (lv d.left):=by simp only [flds,List.lookup,beq_self_eq_true,nb_left_width,nb_left_written,nb_left_at_sides,nb_left_counted]
theorem fl_has_stopped:(flds m wl sl d).lookup ("has_stopped" : Str)=some (.bl d.st):=by simp only [flds,List.lookup,beq_self_eq_true,nb_has_stopped_width,nb_has_stopped_written,nb_has_stopped_at_sides,nb_has_stopped_counted,nb_has_stopped_left]
theorem fl_stretches:(flds m wl sl d).lookup ("stretches" : Str)=none:=by simp only [flds,List.lookup,nb_stretches_width,nb_stretches_written,nb_stretches_at_sides,nb_stretches_counted,nb_stretches_left,nb_stretches_has_stopped]
theorem fl_places:(flds m wl sl d).lookup ("places" : Str)=none:=by simp only [flds,List.lookup,nb_places_width,nb_places_written,nb_places_at_sides,nb_places_counted,nb_places_left,nb_places_has_stopped]
theorem fl_next_place:(flds m wl sl d).lookup ("next_place" : Str)=none:=by simp only [flds,List.lookup,nb_next_place_width,nb_next_place_written,nb_next_place_at_sides,nb_next_place_counted,nb_next_place_left,nb_next_place_has_stopped]
theorem fl_told:(flds m wl sl d).lookup ("told" : Str)=none:=by simp only [flds,List.lookup,nb_told_width,nb_told_written,nb_told_at_sides,nb_told_counted,nb_told_left,nb_told_has_stopped]
theorem fl_write:(flds m wl sl d).lookup ("write" : Str)=none:=by simp only [flds,List.lookup,nb_write_width,nb_write_written,nb_write_at_sides,nb_write_counted,nb_write_left,nb_write_has_stopped]
theorem fl_empty:(flds m wl sl d).lookup ("empty" : Str)=none:=by simp only [flds,List.lookup,nb_empty_width,nb_empty_written,nb_empty_at_sides,nb_empty_counted,nb_empty_left,nb_empty_has_stopped]
theorem fl_refuse_if_stopped:(flds m wl sl d).lookup ("refuse_if_stopped" : Str)=none:=by simp only [flds,List.lookup,nb_refuse_if_stopped_width,nb_refuse_if_stopped_written,nb_refuse_if_stopped_at_sides,nb_refuse_if_stopped_counted,nb_refuse_if_stopped_left,nb_refuse_if_stopped_has_stopped]
theorem fl_spend:(flds m wl sl d).lookup ("spend" : Str)=none:=by simp only [flds,List.lookup,nb_spend_width,nb_spend_written,nb_spend_at_sides,nb_spend_counted,nb_spend_left,nb_spend_has_stopped]
theorem fl_first_signs:(flds m wl sl d).lookup ("first_signs" : Str)=none:=by simp only [flds,List.lookup,nb_first_signs_width,nb_first_signs_written,nb_first_signs_at_sides,nb_first_signs_counted,nb_first_signs_left,nb_first_signs_has_stopped]
theorem pf_left {x:Option Int}:putF "left" (lv x) (flds m wl sl d)=flds m wl sl { d with left:=x }:=by simp only [flds,putF,np_width_left,np_written_left,np_at_sides_left,np_counted_left,if_false,if_true]
theorem pf_left_i {x:Int}:putF "left" (.int x) (flds m wl sl d)=flds m wl sl { d with left:=some x }:=pf_left (x:=some x)
theorem pf_counted {x:Int}:putF "counted" (.int x) (flds m wl sl d)=flds m wl sl { d with cnt:=x }:=by simp only [flds,putF,np_width_counted,np_written_counted,np_at_sides_counted,if_false,if_true]
theorem pf_has_stopped {x:Bool}:putF "has_stopped" (.bl x) (flds m wl sl d)=flds m wl sl { d with st:=x }:=by simp only [flds,putF,np_width_has_stopped,np_written_has_stopped,np_at_sides_has_stopped,np_counted_has_stopped,np_left_has_stopped,if_false,if_true]
theorem fl_len:(flds m wl sl d).length<1000:=by show 6<1000; decide
end
def spRd (A:ClsA) (r:Int→DM→V):Sp:=fun vs H Q _=>∃ (p wl sl:Addr) (cells:List Addr) (m:Int) (d:DM),vs=[.ref p]∧DiskAt A H p wl sl cells m d∧Q (r m d) H
def spNext (A:ClsA):Sp:=fun vs H Q _=>∃ (p wl sl:Addr) (cells:List Addr) (m:Int) (d:DM) (k:Nat),vs=[.ref p,.int k]∧DiskAt A H p wl sl cells m d∧k<d.rows.length∧Q (.int (d.rows.getD k []).length) H
def toldV (d:DM) (k j:Nat):V:=tv ((d.rows.getD k []).getD j none)
def spTold (A:ClsA):Sp:=fun vs H Q _=>∃ (p wl sl:Addr) (cells:List Addr) (m:Int) (d:DM) (k j:Nat),vs=[.ref p,.int k,.int j]∧DiskAt A H p wl sl cells m d∧k<d.rows.length∧Q (toldV d k j) H
def spRefuse (A:ClsA):Sp:=fun vs H Q E=>∃ (p wl sl:Addr) (cells:List Addr) (m:Int) (d:DM),vs=[.ref p]∧DiskAt A H p wl sl cells m d∧(d.st=true→E (.ref A.Stopped) none H)∧(d.st=false→Q .non H)
def spSpend (A:ClsA):Sp:=fun vs H Q _=>∃ (p wl sl:Addr) (cells:List Addr) (m:Int) (d:DM) (n:Int),vs=[.ref p,.int n]∧DiskAt A H p wl sl cells m d∧∀ H',DiskAt A H' p wl sl cells m (d.spend n)→Keeps [p] H H'→Q (.int (dn d.left n)) H'
def spFirst (A:ClsA):Sp:=fun vs H Q E=>∃ (p wl sl:Addr) (cells:List Addr) (m:Int) (d:DM) (t:Str),vs=[.ref p,.str t]∧DiskAt A H p wl sl cells m d∧t.length≤1000 ∧
 ∀ H',DiskAt A H' p wl sl cells m (d.spend t.length)→Keeps [p] H H'→((dn d.left t.length=0∧(d.spend t.length).st=true→E (.ref A.Stopped) none H')∧(¬ (dn d.left t.length=0∧(d.spend t.length).st=true)→Q (.str (Txt.slice t none (some (dn d.left t.length)))) H'))
theorem Rows.cell {H:Hp} {wl:Addr} {cells:List Addr} {rows:List (List Tx)} (R:Rows H wl cells rows) {k:Nat} (hk:k<rows.length):∃ c,cells[k]?=some c∧atI (cells.map V.ref) (k:Int)=some (.ref c)∧H c=some (.lst ((rows.getD k []).map tv)):=by
 have hk':k<cells.length:=by rw [R.len]; exact hk
 refine ⟨cells[k],List.getElem?_eq_getElem hk',atI_nat (by rw [List.getElem?_map,List.getElem?_eq_getElem hk']; rfl),R.at_ k _ (List.getElem?_eq_getElem hk')⟩
theorem DiskAt.obj {H:Hp} {p wl sl dx:Addr} {cells:List Addr} {m:Int} {d d':DM} (D:DiskAt A H p wl sl cells m d) (h1:d'.rows=d.rows) (h2:d'.sides=d.sides):DiskAt A (upd H p (.ins A.Disk dx (flds m wl sl d'))) p wl sl cells m d':=by
 have hn:=List.nodup_cons.mp D.nd
 have ne:∀ b∈wl::sl::cells,b≠p:=fun b hb z=>hn.1 (by rw [← z]; exact hb)
 refine ⟨⟨dx,upd_same⟩,?_,?_,D.nd⟩
 ·rw [h1]
  refine D.rows.keep fun b o e hb=>?_
  rw [upd_ne (ne b (by rcases hb with rfl|hb <;> simp_all))]; exact e
 ·rw [h2,upd_ne (ne sl (by simp))]; exact D.sides
theorem sc_Disk_stretches:FnScope ["self"] ["self"] (defScope s_Disk_stretches):=⟨rfl,rfl,rfl,by decide +kernel,rfl,by decide +kernel,by decide +kernel⟩
theorem ok_Disk_stretches {f:Addr} {fd:FuncData} {cm:Bool} (F:Fun K "stretches" "Disk.stretches" s_Disk_stretches f fd) (T:Txt w K mg A):FnOk P w K mg base CX0 cm 1 f fd ["self"] (spRd A fun _ d=>.int d.rows.length):=by
 refine F.ok sc_Disk_stretches (fun vs H Q E h=>?_) (fun cdv Ar outer s H vs Q E hr h=>?_)
 ·obtain ⟨p,wl,sl,cells,m,d,rfl,_⟩:=h; rfl
 ·obtain ⟨p,wl,sl,cells,m,d,rfl,D,q⟩:=h
  obtain ⟨dx,h1⟩:=D.ob
  refine ⟨_,(W.h (w_pss_one (w_ps_ret (w_pe_callBp call_lenU rfl T.n_len PySem.boot_len (w_pa_p (w_pe_fldU T.cl_Disk T.na_Disk_written (w_pv 0)) w_pa_nil))))),?_⟩
  simp_all only [h1,D.rows.w,fl_written,List.length_map,D.rows.len]
  exact q
theorem sc_Disk_places:FnScope ["self"] ["self"] (defScope s_Disk_places):=⟨rfl,rfl,rfl,by decide +kernel,rfl,by decide +kernel,by decide +kernel⟩
theorem ok_Disk_places {f:Addr} {fd:FuncData} {cm:Bool} (F:Fun K "places" "Disk.places" s_Disk_places f fd) (T:Txt w K mg A):FnOk P w K mg base CX0 cm 1 f fd ["self"] (spRd A fun m _=>.int m):=by
 refine F.ok sc_Disk_places (fun vs H Q E h=>?_) (fun cdv Ar outer s H vs Q E hr h=>?_)
 ·obtain ⟨p,wl,sl,cells,m,d,rfl,_⟩:=h; rfl
 ·obtain ⟨p,wl,sl,cells,m,d,rfl,D,q⟩:=h
  obtain ⟨dx,h1⟩:=D.ob
  refine ⟨_,(W.h (w_pss_one (w_ps_ret (w_pe_fldU T.cl_Disk T.na_Disk_width (w_pv 0))))),?_⟩
  simp_all only [h1,fl_width]
  exact q
theorem sc_Disk_next_place:FnScope ["self","stretch"] ["self","stretch"] (defScope s_Disk_next_place):=⟨rfl,rfl,rfl,by decide +kernel,rfl,by decide +kernel,by decide +kernel⟩
theorem ok_Disk_next_place {f:Addr} {fd:FuncData} {cm:Bool} (F:Fun K "next_place" "Disk.next_place" s_Disk_next_place f fd) (T:Txt w K mg A):FnOk P w K mg base CX0 cm 1 f fd ["self","stretch"] (spNext A):=by
 refine F.ok sc_Disk_next_place (fun vs H Q E h=>?_) (fun cdv Ar outer s H vs Q E hr h=>?_)
 ·obtain ⟨p,wl,sl,cells,m,d,k,rfl,_⟩:=h; rfl
 ·obtain ⟨p,wl,sl,cells,m,d,k,rfl,D,hk,q⟩:=h
  obtain ⟨dx,h1⟩:=D.ob
  obtain ⟨c,hc,ha,hH⟩:=D.rows.cell hk
  refine ⟨_,(W.h (w_pss_one (w_ps_ret (w_pe_callBp call_lenU rfl T.n_len PySem.boot_len (w_pa_p (w_pe_ix ix_U (w_pe_fldU T.cl_Disk T.na_Disk_written (w_pv 0)) (w_pv 1) (fun _ _=>rfl)) w_pa_nil))))),?_⟩
  simp_all only [h1,D.rows.w,fl_written,ha,hH,List.length_map]
  exact q
theorem sc_Disk_told:FnScope ["self","stretch","place","texts"] ["self","stretch","place"] (defScope s_Disk_told):=⟨rfl,rfl,rfl,by decide +kernel,rfl,by decide +kernel,by decide +kernel⟩
theorem ok_Disk_told {f:Addr} {fd:FuncData} {cm:Bool} (F:Fun K "told" "Disk.told" s_Disk_told f fd) (T:Txt w K mg A):FnOk P w K mg base CX0 cm 1 f fd ["self","stretch","place"] (spTold A):=by
 refine F.ok sc_Disk_told (fun vs H Q E h=>?_) (fun cdv Ar outer s H vs Q E hr h=>?_)
 ·obtain ⟨p,wl,sl,cells,m,d,k,j,rfl,_⟩:=h; rfl
 ·obtain ⟨p,wl,sl,cells,m,d,k,j,rfl,D,hk,q⟩:=h
  obtain ⟨dx,h1⟩:=D.ob
  obtain ⟨c,hc,ha,hH⟩:=D.rows.cell hk
  refine ⟨_,(W.h (w_pss_cons (w_ps_set (i:=3) sc_Disk_told.nd rfl (Or.inl rfl) (w_pe_ix ix_U (w_pe_fldU T.cl_Disk T.na_Disk_written (w_pv 0)) (w_pv 1) (fun _ _=>rfl)))
   (w_pss_one (w_ps_ret (w_pe_ifExp (w_pt_cmpR op_lt (w_pv 2) (w_pe_callBp call_lenU rfl T.n_len PySem.boot_len (w_pa_p (w_pv 3) w_pa_nil)) (nomark _)) (w_pe_ix ix_U (w_pv 3) (w_pv 2) (fun _ _=>rfl)) w_pe_non))))),?_⟩
  simp_all only [h1,D.rows.w,fl_written,ha,hH,List.length_map]
  refine ite2 (fun h=>?_) (fun h=>?_)
  ·have hj:j<(d.rows.getD k []).length:=by have:=of_decide_eq_true h; omega
   refine ⟨_,atI_nat (by rw [List.getElem?_map,List.getElem?_eq_getElem hj]; rfl),?_⟩
   unfold toldV at q
   rw [List.getD_eq_getElem?_getD,List.getElem?_eq_getElem hj] at q
   exact q
  ·have hj : ¬ j<(d.rows.getD k []).length:=fun z=>h (decide_eq_true (by omega))
   unfold toldV at q
   rw [List.getD_eq_getElem?_getD,List.getElem?_eq_none (by omega)] at q
   exact q
theorem sc_Disk_refuse_if_stopped:FnScope ["self"] ["self"] (defScope s_Disk_refuse_if_stopped):=⟨rfl,rfl,rfl,by decide +kernel,rfl,by decide +kernel,by decide +kernel⟩
theorem ok_Disk_refuse_if_stopped {f:Addr} {fd:FuncData} (F:Fun K "refuse_if_stopped" "Disk.refuse_if_stopped" s_Disk_refuse_if_stopped f fd) (T:Txt w K mg A):FnOk P w K mg base (CXW P w) true 1 f fd ["self"] (spRefuse A):=by
 refine F.okW sc_Disk_refuse_if_stopped (fun vs H Q E h=>?_) (fun cdv Ar outer s H vs Q E hr h=>?_)
 ·obtain ⟨p,wl,sl,cells,m,d,rfl,_⟩:=h; rfl
 ·obtain ⟨p,wl,sl,cells,m,d,rfl,D,q1,q2⟩:=h
  obtain ⟨dx,h1⟩:=D.ob
  have Th:=throws_def (cm:=true) (P:=P) (w:=w) (K:=K) (mg:=mg) (base:=base) (N:=["self"]) (qual:="Disk.refuse_if_stopped") (scope:=defScope s_Disk_refuse_if_stopped) (f:=f) (cd:=cdv) (A:=Ar) (outer:=outer) (s:=s) (H:=H) (E:=E)
  refine ⟨_,(W.h (w_pss_one (w_ps_if (w_pt_tru (w_pe_fldU T.cl_Disk T.na_Disk_has_stopped (w_pv 0)))
   (w_pss_one (w_ps_raisep rfl Th T.ek_Stopped rfl T.mg_Stopped (w_pa_p w_pe_str w_pa_nil)))
   w_pss_nil))),?_⟩
  simp_all only [h1,fl_has_stopped]
  refine ite2 (fun h=>⟨by decide,q1 h⟩) (fun h=>q2 (Bool.eq_false_iff.mpr h))
theorem sc_Disk_spend:FnScope ["self","many","done"] ["self","many"] (defScope s_Disk_spend):=⟨rfl,rfl,rfl,by decide +kernel,rfl,by decide +kernel,by decide +kernel⟩
theorem ok_Disk_spend {f:Addr} {fd:FuncData} (F:Fun K "spend" "Disk.spend" s_Disk_spend f fd) (T:Txt w K mg A):FnOk P w K mg base CX0 true 1 f fd ["self","many"] (spSpend A):=by
 refine F.ok sc_Disk_spend (fun vs H Q E h=>?_) (fun cdv Ar outer s H vs Q E hr h=>?_)
 ·obtain ⟨p,wl,sl,cells,m,d,n,rfl,_⟩:=h; rfl
 ·obtain ⟨p,wl,sl,cells,m,d,n,rfl,D,q⟩:=h
  obtain ⟨dx,h1⟩:=D.ob
  refine ⟨_,(W.h (w_pss_cons (w_ps_set (i:=2) sc_Disk_spend.nd rfl (Or.inl rfl) (w_pv 1))
   (w_pss_cons (w_ps_if (w_pt_cmpR op_isnU (w_pe_fldU T.cl_Disk T.na_Disk_left (w_pv 0)) w_pe_non (nomark _))
   (w_pss_cons (w_ps_set (i:=2) sc_Disk_spend.nd rfl (Or.inl rfl) (w_pe_callBp (call_minU rfl) rfl T.n_min boot_min (w_pa_p (w_pv 1) (w_pa_p (w_pe_fldU T.cl_Disk T.na_Disk_left (w_pv 0)) w_pa_nil))))
   (w_pss_one (w_ps_augFU T.cl_Disk T.na_Disk_left (w_pv 0) (w_pv 2) in_sub)))
   w_pss_nil)
   (w_pss_cons (w_ps_augFU T.cl_Disk T.na_Disk_counted (w_pv 0) (w_pv 2) in_add)
   (w_pss_cons (w_ps_fldU T.cl_Disk T.na_Disk_has_stopped (w_pv 0) (w_pe_cmpR op_lt (w_pv 2) (w_pv 1) (nomark _)))
   (w_pss_one (w_ps_ret (w_pv 2)))))))),?_⟩
  cases hl:d.left with
  | none =>
   simp_all only [h1,fl_left,hl,lv,upd_same,fl_counted,pf_counted,pf_has_stopped,pf_left_i,fl_len,upd_upd]
   have e:d.spend n={ d with cnt:=d.cnt+n,left:=none,st:=decide (n<n) }:=by unfold DM.spend; rw [hl]; rfl
   have e2:dn d.left n=n:=by rw [hl]; rfl
   rw [e,e2] at q
   exact q _ (D.obj rfl rfl) (Keeps.upd (by simp))
  | some l =>
   simp_all only [h1,fl_left,hl,lv,upd_same,fl_counted,pf_counted,pf_has_stopped,pf_left_i,fl_len,upd_upd]
   have e2:dn d.left n=if l<n then l else n:=by rw [hl]; rfl
   have e:d.spend n={ d with cnt:=d.cnt+(if l<n then l else n),left:=some (l - if l<n then l else n),st:=decide ((if l<n then l else n)<n) }:=by unfold DM.spend; rw [e2,hl]; rfl
   rw [e,e2] at q
   exact q _ (D.obj rfl rfl) (Keeps.upd (by simp))
theorem sc_Disk_first_signs:FnScope ["self","text","done"] ["self","text"] (defScope s_Disk_first_signs):=⟨rfl,rfl,rfl,by decide +kernel,rfl,by decide +kernel,by decide +kernel⟩
theorem ok_Disk_first_signs {f:Addr} {fd:FuncData} (F:Fun K "first_signs" "Disk.first_signs" s_Disk_first_signs f fd) (T:Txt w K mg A) (M_Disk_spend:GM P w K mg base true 1 A.Disk "spend" ["self","many"] (spSpend A)) (M_Disk_refuse_if_stopped:GMX P w K mg base true 1 A.Disk "refuse_if_stopped" ["self"] (spRefuse A)):FnOk P w K mg base (CXW P w) true 2 f fd ["self","text"] (spFirst A):=by
 refine F.okW sc_Disk_first_signs (fun vs H Q E h=>?_) (fun cdv Ar outer s H vs Q E hr h=>?_)
 ·obtain ⟨p,wl,sl,cells,m,d,t,rfl,_⟩:=h; rfl
 ·obtain ⟨p,wl,sl,cells,m,d,t,rfl,D,ht,q⟩:=h
  obtain ⟨dx,h1⟩:=D.ob
  have hu:_<cLine:=Nat.lt_of_succ_lt (hu_of hr)
  have Th:=throws_def (cm:=true) (P:=P) (w:=w) (K:=K) (mg:=mg) (base:=base) (N:=["self","text","done"]) (qual:="Disk.first_signs") (scope:=defScope s_Disk_first_signs) (f:=f) (cd:=cdv) (A:=Ar) (outer:=outer) (s:=s) (H:=H) (E:=E)
  refine ⟨_,(W.h (w_pss_cons (w_ps_set (i:=2) sc_Disk_first_signs.nd rfl (Or.inl rfl) (w_pe_m (w_pv 0) T.cl_Disk M_Disk_spend hr (w_pa_p (w_pe_callBp call_lenU rfl T.n_len PySem.boot_len (w_pa_p (w_pv 1) w_pa_nil)) w_pa_nil)))
   (w_pss_cons (w_ps_if (w_pt_cmpR (op_eqU hu) (w_pv 2) w_pe_int (nomark _))
   (w_pss_one (w_ps_expr (w_pe_mX0 (w_pv 0) T.cl_Disk Th M_Disk_refuse_if_stopped hr)))
   w_pss_nil)
   (w_pss_one (w_ps_ret (w_pe_slice sl_U (w_pv 1) w_po_none (w_po_some (w_pv 2)))))))),?_⟩
  have ht':t.length≤sizeLine:=Nat.le_trans ht (by decide)
  simp_all only [h1,fl_spend,ht']
  refine ⟨p,wl,sl,cells,m,d,_,rfl,D,fun H1 D1 k1=>?_⟩
  obtain ⟨q1,q2⟩:=q H1 D1 k1
  obtain ⟨dx1,g1⟩:=D1.ob
  simp_all only [g1,fl_refuse_if_stopped,ht']
  refine ite2 (fun h=>?_) (fun h=>?_)
  ·have h0:=of_decide_eq_true h
   refine ⟨p,wl,sl,cells,m,_,rfl,D1,fun hs=>?_,fun hs=>?_⟩
   ·exact ⟨_,rfl,q1 ⟨h0,hs⟩⟩
   ·simp_all only [ht']
    exact q2 fun z=>by rw [z.2] at hs; cases hs
  ·exact q2 fun z=>h (decide_eq_true z.1)
end
abbrev s_Disk_write:Stmt:=inClass (top 56) 7
abbrev s_Disk_empty:Stmt:=inClass (top 56) 9
section
variable {P:Program} {w:World} {K:PySem.W.Frag} {mg:Str→Option Value} {base:Heap} {A:ClsA}
theorem DiskAt.setRow {H:Hp} {p wl sl c:Addr} {cells:List Addr} {m:Int} {d:DM} {k:Nat} {r:List Tx} (D:DiskAt A H p wl sl cells m d) (hc:cells[k]?=some c):DiskAt A (upd H c (.lst (r.map tv))) p wl sl cells m { d with rows:=d.rows.set k r }:=by
 have hm:=List.mem_of_getElem? hc
 have nd:=D.nd
 simp only [List.nodup_cons,List.mem_cons,not_or] at nd
 obtain ⟨⟨n1,n2,n3⟩,⟨n4,n5⟩,n6,n7⟩:=nd
 obtain ⟨dx,h⟩:=D.ob
 have e1:p≠c:=fun z=>n3 (by rw [z]; exact hm)
 have e2:sl≠c:=fun z=>n6 (by rw [z]; exact hm)
 exact ⟨⟨dx,by rw [upd_ne e1]; exact h⟩,D.rows.set (List.nodup_cons.mpr ⟨n5,n7⟩) hc,by rw [upd_ne e2]; exact D.sides,D.nd⟩
def Out (A:ClsA) (r:Res) (Q:VK) (E:XK) (H:Hp):Prop:=match r with | .val v=>Q v H | .full=>E (.ref A.Full) none H | .stop=>E (.ref A.Stopped) none H
def small (d:DM):Prop:=∀ k,(d.rows.getD k []).length≤1000
def spWrite (A:ClsA):Sp:=fun vs H Q E=>∃ (p wl sl:Addr) (cells:List Addr) (m:Int) (d:DM) (k:Nat) (t:Str),vs=[.ref p,.int k,.str t]∧DiskAt A H p wl sl cells m d∧k<d.rows.length∧t.length≤1000∧small d ∧
 ∀ H',DiskAt A H' p wl sl cells m (d.write m k t).2→Keeps (p::wl::sl::cells) H H'→Out A (d.write m k t).1 Q E H'
def spEmpty (A:ClsA):Sp:=fun vs H Q E=>∃ (p wl sl:Addr) (cells:List Addr) (m:Int) (d:DM) (k:Nat),vs=[.ref p,.int k]∧DiskAt A H p wl sl cells m d∧k<d.rows.length∧small d∧(∀ l,d.left=some l→0≤l) ∧
 ∀ H',DiskAt A H' p wl sl cells m (d.empty k).2→Keeps (p::wl::sl::cells) H H'→Out A (d.empty k).1 Q E H'
theorem spend_rows {d:DM} {n:Int}:(d.spend n).rows=d.rows:=rfl
theorem map_app {r:List Tx} {t:Str} {n:Int}:r.map tv++[V.str (Txt.slice t none (some n))]=(r++[cutT t n]).map tv:=by rw [List.map_append]; rfl
theorem sc_Disk_write:FnScope ["self","stretch","text","texts","place"] ["self","stretch","text"] (defScope s_Disk_write):=⟨rfl,rfl,rfl,by decide +kernel,rfl,by decide +kernel,by decide +kernel⟩
theorem ok_Disk_write {f:Addr} {fd:FuncData} (F:Fun K "write" "Disk.write" s_Disk_write f fd) (T:Txt w K mg A) (M_Disk_first_signs:GMX P w K mg base true 2 A.Disk "first_signs" ["self","text"] (spFirst A)) (M_Disk_refuse_if_stopped:GMX P w K mg base true 1 A.Disk "refuse_if_stopped" ["self"] (spRefuse A)):FnOk P w K mg base (CXW P w) true 3 f fd ["self","stretch","text"] (spWrite A):=by
 refine F.okW sc_Disk_write (fun vs H Q E h=>?_) (fun cdv Ar outer s H vs Q E hr h=>?_)
 ·obtain ⟨p,wl,sl,cells,m,d,k,t,rfl,_⟩:=h; rfl
 ·obtain ⟨p,wl,sl,cells,m,d,k,t,rfl,D,hk,ht,hsm,q⟩:=h
  obtain ⟨dx,h1⟩:=D.ob
  have hu:_<cLine:=Nat.lt_of_succ_lt (hu_of hr)
  obtain ⟨c,hc,ha,hH⟩:=D.rows.cell hk
  have Th:=throws_def (cm:=true) (P:=P) (w:=w) (K:=K) (mg:=mg) (base:=base) (N:=["self","stretch","text","texts","place"]) (qual:="Disk.write") (scope:=defScope s_Disk_write) (f:=f) (cd:=cdv) (A:=Ar) (outer:=outer) (s:=s) (H:=H) (E:=E)
  refine ⟨_,(W.h (w_pss_cons (w_ps_expr (w_pe_mX0 (w_pv 0) T.cl_Disk Th M_Disk_refuse_if_stopped hr))
   (w_pss_cons (w_ps_set (i:=3) sc_Disk_write.nd rfl (Or.inl rfl) (w_pe_ix ix_U (w_pe_fldU T.cl_Disk T.na_Disk_written (w_pv 0)) (w_pv 1) (fun _ _=>rfl)))
   (w_pss_cons (w_ps_set (i:=4) sc_Disk_write.nd rfl (Or.inl rfl) (w_pe_callBp call_lenU rfl T.n_len PySem.boot_len (w_pa_p (w_pv 3) w_pa_nil)))
   (w_pss_cons (w_ps_if (w_pt_cmpR (op_eqU hu) (w_pv 4) (w_pe_fldU T.cl_Disk T.na_Disk_width (w_pv 0)) (nomark _))
   (w_pss_one (w_ps_raisep rfl Th T.ek_Full rfl T.mg_Full (w_pa_p w_pe_str w_pa_nil)))
   w_pss_nil)
   (w_pss_cons (w_ps_expr (w_pe_append (w_pv 3) (w_pe_mX (w_pv 0) T.cl_Disk Th M_Disk_first_signs hr (w_pa_p (w_pv 2) w_pa_nil))))
   (w_pss_cons (w_ps_expr (w_pe_mX0 (w_pv 0) T.cl_Disk Th M_Disk_refuse_if_stopped hr))
   (w_pss_one (w_ps_ret (w_pv 4)))))))))),?_⟩
  simp_all only [h1,fl_refuse_if_stopped]
  unfold DM.write at q
  refine ⟨p,wl,sl,cells,m,d,rfl,D,fun hs=>?_,fun hs=>?_⟩
  ·rw [if_pos hs] at q
   exact ⟨_,rfl,q H D Keeps.refl⟩
  rw [if_neg (by rw [hs]; exact Bool.false_ne_true)] at q
  simp_all only [h1,D.rows.w,fl_written,fl_width,ha,hH,List.length_map]
  refine ite2 (fun h=>?_) (fun h=>?_)
  ·rw [if_pos (of_decide_eq_true h)] at q
   exact ⟨by decide,q H D Keeps.refl⟩
  rw [if_neg (fun z=>h (decide_eq_true z))] at q
  simp_all only [h1,hH,fl_first_signs]
  refine ⟨p,wl,sl,cells,m,d,t,rfl,D,ht,fun H1 D1 k1=>⟨fun hz=>?_,fun hz=>?_⟩⟩
  ·rw [if_pos hz] at q
   exact ⟨_,rfl,q H1 D1 (k1.mono (by simp))⟩
  rw [if_neg hz] at q
  obtain ⟨dx1,g1⟩:=D1.ob
  have gc:=D1.rows.at_ k c hc
  rw [spend_rows] at gc
  have D2:=D1.setRow (r:=d.rows.getD k []++[cutT t (dn d.left t.length)]) hc
  obtain ⟨dx2,g2⟩:=D2.ob
  simp_all only [gc,map_app,g2,fl_refuse_if_stopped]
  refine ⟨by rw [List.length_map]; exact small1000 (hsm k),p,wl,sl,cells,m,_,rfl,D2,fun hs2=>⟨_,rfl,?_⟩,fun hs2=>?_⟩
  ·have hs2':(d.spend t.length).st=true:=hs2
   have q2:=q _ D2 ((k1.mono (by simp)).trans (Keeps.upd (by simp [List.mem_of_getElem? hc])))
   rw [if_pos hs2'] at q2
   exact q2
  ·have hs2':(d.spend t.length).st=false:=hs2
   simp_all only []
   have q2:=q _ D2 ((k1.mono (by simp)).trans (Keeps.upd (by simp [List.mem_of_getElem? hc])))
   rw [if_neg (by rw [hs2']; exact Bool.false_ne_true)] at q2
   exact q2
end
abbrev s_is_whole:Stmt:=top 25
abbrev s_is_within:Stmt:=top 26
abbrev s_Disk___init__:Stmt:=inClass (top 56) 0
inductive Thg (H:Hp):V→Prop
 | non:Thg H .non
 | bl (b:Bool):Thg H (.bl b)
 | int (i:Int):Thg H (.int i)
 | str (x:Str):Thg H (.str x)
 | lst {a:Addr} {xs:List V}:H a=some (.lst xs)→Thg H (.ref a)
 | tup {a:Addr} {xs:List V}:H a=some (.tup xs)→Thg H (.ref a)
 | dic {a:Addr} {kvs:List (Key×V)}:H a=some (.dK kvs)→Thg H (.ref a)
def wholeV:V→Bool | .int _=>true|_=>false
def withinV (v:V) (a b:Int):Bool:=match v with | .int i=>decide (a≤i) && decide (i≤b)|_=>false
def spWhole:Sp:=fun vs H Q _=>∃ v,vs=[v]∧Thg H v∧Q (.bl (wholeV v)) H
def spWithin:Sp:=fun vs H Q _=>∃ v a b,vs=[v,.int a,.int b]∧Thg H v∧Q (.bl (withinV v a b)) H
section
variable {P:Program} {w:World} {K:PySem.W.Frag} {mg:Str→Option Value} {base:Heap} {A:ClsA}
theorem isi_int {X:Cx} {H:Hp} {v:V} {Q:VK} (t:Thg H v) (q:Q (.bl (match v with | .int _=>true | .bl _=>true|_=>false)) H):rIsi X.K [v,.ty "int"] H Q:=by
 cases t with
 | non=>exact ⟨_,_,_,_,_,rfl,rfl,.of .non,rfl,q⟩
 | bl b=>exact ⟨_,_,_,_,_,rfl,rfl,.of (.bl b),rfl,q⟩
 | int i=>exact ⟨_,_,_,_,_,rfl,rfl,.of (.int i),rfl,q⟩
 | str x=>exact ⟨_,_,_,_,_,rfl,rfl,.of (.str x),rfl,q⟩
 | lst h=>exact ⟨_,_,_,_,_,rfl,rfl,.of (.lst h),rfl,q⟩
 | tup h=>exact ⟨_,_,_,_,_,rfl,rfl,.of (.tup h),rfl,q⟩
 | dic h=>exact ⟨_,_,_,_,_,rfl,rfl,.of (.dK h),rfl,q⟩
theorem isi_bool {X:Cx} {H:Hp} {v:V} {Q:VK} (t:Thg H v) (q:Q (.bl (match v with | .bl _=>true|_=>false)) H):rIsi X.K [v,.ty "bool"] H Q:=by
 cases t with
 | non=>exact ⟨_,_,_,_,_,rfl,rfl,.of .non,rfl,q⟩
 | bl b=>exact ⟨_,_,_,_,_,rfl,rfl,.of (.bl b),rfl,q⟩
 | int i=>exact ⟨_,_,_,_,_,rfl,rfl,.of (.int i),rfl,q⟩
 | str x=>exact ⟨_,_,_,_,_,rfl,rfl,.of (.str x),rfl,q⟩
 | lst h=>exact ⟨_,_,_,_,_,rfl,rfl,.of (.lst h),rfl,q⟩
 | tup h=>exact ⟨_,_,_,_,_,rfl,rfl,.of (.tup h),rfl,q⟩
 | dic h=>exact ⟨_,_,_,_,_,rfl,rfl,.of (.dK h),rfl,q⟩
theorem sc_is_whole:FnScope ["value"] ["value"] (defScope s_is_whole):=⟨rfl,rfl,rfl,by decide +kernel,rfl,by decide +kernel,by decide +kernel⟩
theorem ok_is_whole {f:Addr} {fd:FuncData} {cm:Bool} (F:Fun K "is_whole" "is_whole" s_is_whole f fd) (T:Txt w K mg A):FnOk P w K mg base CX0 cm 1 f fd ["value"] spWhole:=by
 refine F.ok sc_is_whole (fun vs H Q E h=>?_) (fun cdv Ar outer s H vs Q E hr h=>?_)
 ·obtain ⟨v,rfl,_⟩:=h; rfl
 ·obtain ⟨v,rfl,th,q⟩:=h
  refine ⟨_,(W.h (w_pss_one (w_ps_ret (w_pe_and (w_pe_callBp call_isi rfl T.n_isinstance boot_isinstance (w_pa_p (w_pv 0) (w_pa_p (w_pe_bltn rfl T.n_int boot_int (v:=.ty "int") rfl) w_pa_nil))) (w_pe_one (w_pe_not (w_pe_callBp call_isi rfl T.n_isinstance boot_isinstance (w_pa_p (w_pv 0) (w_pa_p (w_pe_bltn rfl T.n_bool boot_bool (v:=.ty "bool") rfl) w_pa_nil))))))))),?_⟩
  simp_all only []
  refine isi_int th ?_
  cases th with
  | int i=>exact ⟨true,rfl,iteT (isi_bool (.int i) ⟨false,rfl,q⟩)⟩
  | bl i=>exact ⟨true,rfl,iteT (isi_bool (.bl i) ⟨true,rfl,q⟩)⟩
  | _=>exact ⟨false,rfl,iteF q⟩
theorem sc_is_within:FnScope ["value","least","most"] ["value","least","most"] (defScope s_is_within):=⟨rfl,rfl,rfl,by decide +kernel,rfl,by decide +kernel,by decide +kernel⟩
theorem ok_is_within {f:Addr} {fd:FuncData} {cm:Bool} (F:Fun K "is_within" "is_within" s_is_within f fd) (T:Txt w K mg A) (G_is_whole:GF P w K mg base cm 1 "is_whole" ["value"] spWhole):FnOk P w K mg base CX0 cm 2 f fd ["value","least","most"] spWithin:=by
 refine F.ok sc_is_within (fun vs H Q E h=>?_) (fun cdv Ar outer s H vs Q E hr h=>?_)
 ·obtain ⟨v,a,b,rfl,_⟩:=h; rfl
 ·obtain ⟨v,a,b,rfl,th,q⟩:=h
  refine ⟨_,(W.h (w_pss_one (w_ps_ret (w_pe_and (w_pe_g G_is_whole hr rfl (w_pa_p (w_pv 0) w_pa_nil)) (w_pe_one (w_pe_chain op_le op_le (w_pv 1) (w_pv 0) (w_pv 2))))))),?_⟩
  simp_all only []
  refine ⟨_,rfl,th,?_⟩
  cases th with
  | int i =>
   refine ⟨true,rfl,iteT ?_⟩
   simp_all only []
   refine ite2 (fun h=>?_) (fun h=>?_)
   ·have e:withinV (.int i) a b=decide (i≤b):=by show (decide (a≤i) && _)=_; rw [h]; rfl
    rw [← e]; exact q
   ·have e:withinV (.int i) a b=false:=by show (decide (a≤i) && _)=_; rw [Bool.eq_false_iff.mpr h]; rfl
    rw [← e]; exact q
  | _=>exact ⟨false,rfl,iteF q⟩
def DM.new (n:Nat):DM:=⟨List.replicate n [],[none,none],0,none,false⟩
def spInit (A:ClsA):Sp:=fun vs H Q _=>∃ (p dx:Addr) (n m:Int),vs=[.ref p,.int n,.int m]∧H p=some (.ins A.Disk dx [])∧3≤n∧n≤16∧2≤m∧m≤32 ∧
 ∀ (wl sl:Addr) (cells:List Addr) (H':Hp),DiskAt A H' p wl sl cells m (DM.new n.toNat)→(∀ b o,H b=some o→b≠p→H' b=some o)→(∀ x∈wl::sl::cells,H x=none)→Q .non H'
structure CellInv (H:Hp) (i:Nat) (τ:L2.St) (ys:List V) (H':Hp):Prop where
 τ:∃ t,τ=[t]
 ex:∃ cells:List Addr,ys=cells.map V.ref∧cells.length=i∧(∀ c∈cells,H' c=some (.lst [])∧H c=none)∧cells.Nodup
 same:Same H H'
 le:i≤16
theorem sc_Disk___init__:FnScope ["self","stretches","places"] ["self","stretches","places"] (defScope s_Disk___init__):=⟨rfl,rfl,rfl,by decide +kernel,rfl,by decide +kernel,by decide +kernel⟩
theorem lc_Disk___init___0:lcStat { kind:=.function,names:=[(Str.ofString ".0",.local),(Str.ofString "number",.local)],isGenerator:=false,isCoroutine:=false,more:=[] } (defScope s_Disk___init__).names ["self","stretches","places"] ["number"] [none]=true:=by decide +kernel
theorem lcn_Disk___init___0:(["number"]:List Str).Nodup:=by decide +kernel
theorem ok_Disk_init {f:Addr} {fd:FuncData} (F:Fun K "__init__" "Disk.__init__" s_Disk___init__ f fd) (T:Txt w K mg A) (G_is_within:GF P w K mg base true 2 "is_within" ["value","least","most"] spWithin):FnOk P w K mg base (CXW P w) true 3 f fd ["self","stretches","places"] (spInit A):=by
 refine F.okW sc_Disk___init__ (fun vs H Q E h=>?_) (fun cdv Ar outer s H vs Q E hr h=>?_)
 ·obtain ⟨p,dx,n,m,rfl,_⟩:=h; rfl
 ·obtain ⟨p,dx,n,m,rfl,hp,n0,n1,m0,m1,q⟩:=h
  have Th:=throws_def (cm:=true) (P:=P) (w:=w) (K:=K) (mg:=mg) (base:=base) (N:=["self","stretches","places"]) (qual:="Disk.__init__") (scope:=defScope s_Disk___init__) (f:=f) (cd:=cdv) (A:=Ar) (outer:=outer) (s:=s) (H:=H) (E:=E)
  have h1:withinV (.int n) 3 16=true:=by show (decide _ && decide _)=true; rw [decide_eq_true n0,decide_eq_true n1]; rfl
  have h2:withinV (.int m) 2 32=true:=by show (decide _ && decide _)=true; rw [decide_eq_true m0,decide_eq_true m1]; rfl
  refine ⟨_,(W.h (w_pss_cons (w_ps_if (w_pt_not (w_pt_tru (w_pe_g G_is_within hr rfl (w_pa_p (w_pv 1) (w_pa_p (w_pe_gv rfl T.c_LEAST_STRETCHES) (w_pa_p (w_pe_gv rfl T.c_MOST_STRETCHES) w_pa_nil))))))
   (w_pss_one (w_ps_raisep rfl throws_none T.ek_NoDisk rfl T.mg_NoDisk (w_pa_p w_pe_str w_pa_nil)))
   w_pss_nil)
   (w_pss_cons (w_ps_if (w_pt_not (w_pt_tru (w_pe_g G_is_within hr rfl (w_pa_p (w_pv 2) (w_pa_p (w_pe_gv rfl T.c_LEAST_PLACES) (w_pa_p (w_pe_gv rfl T.c_MOST_PLACES) w_pa_nil))))))
   (w_pss_one (w_ps_raisep rfl throws_none T.ek_NoDisk rfl T.mg_NoDisk (w_pa_p w_pe_str w_pa_nil)))
   w_pss_nil)
   (w_pss_cons (w_ps_fldU T.cl_Disk T.na_Disk_width (w_pv 0) (w_pv 2))
   (w_pss_cons (w_ps_fldU T.cl_Disk T.na_Disk_written (w_pv 0) (w_pe_lc (fun _=>rfl) (LcOk.of lc_Disk___init___0) (w_pi_range1p rfl T.n_range (w_pa_p (w_pv 1) w_pa_nil)) (fun _ _ _ _ _=>(w_pg_name (i:=0) lcn_Disk___init___0 rfl (Or.inl rfl))) (fun _ _ _ _ _=>w_pts_nil) (fun _ _ _ _ _=>(w_pe_lstA w_pa_nil))))
   (w_pss_cons (w_ps_fldU T.cl_Disk T.na_Disk_at_sides (w_pv 0) (w_pe_lstA (w_pa_p w_pe_non (w_pa_p w_pe_non w_pa_nil))))
   (w_pss_cons (w_ps_fldU T.cl_Disk T.na_Disk_counted (w_pv 0) w_pe_int)
   (w_pss_cons (w_ps_fldU T.cl_Disk T.na_Disk_left (w_pv 0) w_pe_non)
   (w_pss_one (w_ps_fldU T.cl_Disk T.na_Disk_has_stopped (w_pv 0) w_pe_bl)))))))))),?_⟩
  simp_all only []
  refine ⟨.int n,3,16,rfl,.int n,?_⟩
  simp_all only [h1]
  refine ⟨.int m,2,32,rfl,.int m,?_⟩
  simp_all only [h2,hp,upd_same,putF,pick]
  refine ⟨by decide,by omega,by omega,CompJ.rng (CellInv (upd H p (.ins A.Disk dx [("width",.int m)]))) (fun i τ ys H' I=>?_) ⟨⟨_,rfl⟩,⟨[],rfl,rfl,by simp,List.nodup_nil⟩,Same.refl _,by decide⟩ ?_ ?_⟩
  ·obtain ⟨cells,e,l,_⟩:=I.ex
   rw [e,List.length_map,l]
   exact small1000 (Nat.le_trans I.le (by decide))
  ·intro N i τ ys H' hi I hN
   obtain ⟨t,rfl⟩:=I.τ
   obtain ⟨cells,e,l,hc,hcn⟩:=I.ex
   simp_all only []
   refine ⟨by decide,fun c H2 n2 _=>hN _ _ _ ⟨⟨_,rfl⟩,⟨cells++[c],by rw [e,List.map_append]; rfl,by simp [l],fun b hb=>?_,?_⟩,I.same.trans n2.same,by omega⟩⟩
   ·rcases List.mem_append.mp hb with hb|hb
    ·exact ⟨n2.same _ _ (hc b hb).1,(hc b hb).2⟩
    ·rw [List.mem_singleton] at hb; subst hb; exact ⟨n2.at_,I.same.free n2.no⟩
   ·refine List.nodup_append.mpr ⟨hcn,by simp,fun a ha b hb=>?_⟩
    rw [List.mem_singleton] at hb
    subst hb
    exact ne_of_none (hc a ha).1 n2.no
  ·intro τ ys H1 I D H2 nD
   obtain ⟨cells,e,l,hc,hcn⟩:=I.ex
   have e1:H2 p=some (.ins A.Disk dx [("width",.int m)]):=nD.same _ _ (I.same _ _ upd_same)
   have w1:putF "written" (.ref D) [(("width" : Str),V.int m)]=[(("width" : Str),V.int m),("written",.ref D)]:=by simp only [putF,np_width_written,if_false]
   refine ⟨dx,_,e1,by show 1<1000; decide,by decide,fun s1 H3 n3 _=>?_⟩
   rw [w1] at n3
   have e3:H3 p=some (.ins A.Disk dx [("width",.int m),("written",.ref D)]):=n3.same _ _ upd_same
   have w2:putF "at_sides" (.ref s1) [(("width" : Str),V.int m),("written",.ref D)]=[(("width" : Str),V.int m),("written",.ref D),("at_sides",.ref s1)]:=by simp only [putF,np_width_at_sides,np_written_at_sides,if_false]
   have w3:putF "counted" (.int 0) [(("width" : Str),V.int m),("written",.ref D),("at_sides",.ref s1)]=[(("width" : Str),V.int m),("written",.ref D),("at_sides",.ref s1),("counted",.int 0)]:=by simp only [putF,np_width_counted,np_written_counted,np_at_sides_counted,if_false]
   have w4:putF "left" .non [(("width" : Str),V.int m),("written",.ref D),("at_sides",.ref s1),("counted",.int 0)]=[(("width" : Str),V.int m),("written",.ref D),("at_sides",.ref s1),("counted",.int 0),("left",.non)]:=by simp only [putF,np_width_left,np_written_left,np_at_sides_left,np_counted_left,if_false]
   have w5:putF "has_stopped" (.bl false) [(("width" : Str),V.int m),("written",.ref D),("at_sides",.ref s1),("counted",.int 0),("left",.non)]=flds m D s1 (DM.new n.toNat):=by simp only [putF,np_width_has_stopped,np_written_has_stopped,np_at_sides_has_stopped,np_counted_has_stopped,np_left_has_stopped,if_false,flds,DM.new,lv]
   refine ⟨dx,_,e3,?_⟩
   rw [w2,w3,w4,w5,upd_upd,upd_upd,upd_upd]
   refine ⟨by show 2<1000; decide,by show 3<1000; decide,by show 4<1000; decide,by show 5<1000; decide,?_⟩
   have pD:p≠D:=ne_of_none (I.same _ _ upd_same) nD.no
   have ps:p≠s1:=ne_of_none upd_same n3.no
   have H3of:∀ b o,b≠p→H2 b=some o→H3 b=some o:=fun b o hb h=>n3.same _ _ (by rw [upd_ne hb]; exact h)
   have hDat:=nD.at_
   rw [e] at hDat
   have cp:∀ c∈cells,c≠p:=fun c hcm z=>by have:=(hc c hcm).2; rw [z,upd_same] at this; cases this
   have cD:∀ c∈cells,c≠D:=fun c hcm=>ne_of_none (hc c hcm).1 nD.no
   have cs:∀ c∈cells,c≠s1:=fun c hcm=>ne_of_none (show (upd H2 p (.ins A.Disk dx [("width",.int m),("written",.ref D)])) c=some _ by rw [upd_ne (cp c hcm)]; exact nD.same _ _ (hc c hcm).1) n3.no
   have Ds:D≠s1:=ne_of_none (show (upd H2 p (.ins A.Disk dx [("width",.int m),("written",.ref D)])) D=some _ by rw [upd_ne (Ne.symm pD)]; exact hDat) n3.no
   have Hn:∀ b,b≠p→(upd H p (.ins A.Disk dx [("width",V.int m)])) b=none→H b=none:=fun b hb h=>by rw [upd_ne hb] at h; exact h
   refine q D s1 cells _ ⟨⟨dx,upd_same⟩,⟨?_,?_,fun i c hi=>?_⟩,?_,?_⟩ (fun b o hb hne=>?_) (fun x hx=>?_)
   ·rw [upd_ne (Ne.symm pD)]
    exact H3of D _ (Ne.symm pD) hDat
   ·simp [DM.new,l]
   ·have hcm:=List.mem_of_getElem? hi
    rw [upd_ne (cp c hcm),H3of c _ (cp c hcm) (nD.same _ _ (hc c hcm).1)]
    have:((DM.new n.toNat).rows.getD i [])=[]:=by
     unfold DM.new
     rw [List.getD_eq_getElem?_getD,List.getElem?_replicate]
     split <;> rfl
    rw [this]; rfl
   ·rw [upd_ne (Ne.symm ps)]
    exact n3.at_
   ·simp only [List.nodup_cons,List.mem_cons,not_or]
    exact ⟨⟨pD,ps,fun z=>cp p z rfl⟩,⟨Ds,fun z=>cD D z rfl⟩,fun z=>cs s1 z rfl,hcn⟩
   ·rw [upd_ne hne]
    exact H3of b _ hne (nD.same _ _ (I.same _ _ (by rw [upd_ne hne]; exact hb)))
   ·simp only [List.mem_cons] at hx
    rcases hx with rfl|rfl|hx
    ·exact Hn _ (Ne.symm pD) (I.same.free nD.no)
    ·have z:=n3.no
     rw [upd_ne (Ne.symm ps)] at z
     exact Hn _ (Ne.symm ps) (I.same.free (nD.same.free z))
    ·exact Hn _ (cp x hx) (hc x hx).2
end
section
variable {P:Program} {w:World} {K:PySem.W.Frag} {mg:Str→Option Value} {base:Heap} {A:ClsA}
theorem upd_self {H:Hp} {a:Addr} {o:HO} (h:H a=some o):upd H a o=H:=by
 funext b
 by_cases hb:b=a
 ·rw [hb,upd_same,h]
 ·rw [upd_ne hb]
def nulls (i:Nat) (r:List Tx):List Tx:=List.replicate i none++r.drop i
theorem nulls_len {i:Nat} {r:List Tx} (h:i≤r.length):(nulls i r).length=r.length:=by simp [nulls]; omega
theorem nulls_set {i:Nat} {r:List Tx} (h:i<r.length):((nulls i r).map tv).set i .non=(nulls (i+1) r).map tv:=by
 have e:V.non=tv none:=rfl
 rw [e,← List.map_set]
 congr 1
 unfold nulls
 rw [List.set_append_right _ _ (by simp)]
 have h2:r.drop i=r[i]::r.drop (i+1):=List.drop_eq_getElem_cons h
 rw [h2,List.length_replicate,Nat.sub_self,List.set_cons_zero,List.replicate_succ',List.append_assoc]
 rfl
structure EmInv (H1:Hp) (p c:Addr) (k:Nat) (n:Int) (r:List Tx) (i:Nat) (σ:L2.St) (H':Hp):Prop where
 ex:∃ x,σ=[some (V.ref p),some (.int k),some (.ref c),some (.int n),x]
 at_:H'=upd H1 c (.lst ((nulls i r).map tv))
 le:i≤r.length
theorem sc_Disk_empty:FnScope ["self","stretch","texts","done","place"] ["self","stretch"] (defScope s_Disk_empty):=⟨rfl,rfl,rfl,by decide +kernel,rfl,by decide +kernel,by decide +kernel⟩
theorem ok_Disk_empty {f:Addr} {fd:FuncData} (F:Fun K "empty" "Disk.empty" s_Disk_empty f fd) (T:Txt w K mg A) (M_Disk_spend:GM P w K mg base true 1 A.Disk "spend" ["self","many"] (spSpend A)) (M_Disk_refuse_if_stopped:GMX P w K mg base true 1 A.Disk "refuse_if_stopped" ["self"] (spRefuse A)):FnOk P w K mg base (CXW P w) true 2 f fd ["self","stretch"] (spEmpty A):=by
 refine F.okW sc_Disk_empty (fun vs H Q E h=>?_) (fun cdv Ar outer s H vs Q E hr h=>?_)
 ·obtain ⟨p,wl,sl,cells,m,d,k,rfl,_⟩:=h; rfl
 ·obtain ⟨p,wl,sl,cells,m,d,k,rfl,D,hk,hsm,hl,q⟩:=h
  obtain ⟨dx,h1⟩:=D.ob
  obtain ⟨c,hc,ha,hH⟩:=D.rows.cell hk
  have Th:=throws_def (cm:=true) (P:=P) (w:=w) (K:=K) (mg:=mg) (base:=base) (N:=["self","stretch","texts","done","place"]) (qual:="Disk.empty") (scope:=defScope s_Disk_empty) (f:=f) (cd:=cdv) (A:=Ar) (outer:=outer) (s:=s) (H:=H) (E:=E)
  refine ⟨_,(W.h (w_pss_cons (w_ps_expr (w_pe_mX0 (w_pv 0) T.cl_Disk Th M_Disk_refuse_if_stopped hr))
   (w_pss_cons (w_ps_set (i:=2) sc_Disk_empty.nd rfl (Or.inl rfl) (w_pe_ix ix_U (w_pe_fldU T.cl_Disk T.na_Disk_written (w_pv 0)) (w_pv 1) (fun _ _=>rfl)))
   (w_pss_cons (w_ps_set (i:=3) sc_Disk_empty.nd rfl (Or.inl rfl) (w_pe_m (w_pv 0) T.cl_Disk M_Disk_spend hr (w_pa_p (w_pe_callBp call_lenU rfl T.n_len PySem.boot_len (w_pa_p (w_pv 2) w_pa_nil)) w_pa_nil)))
   (w_pss_cons (w_ps_if (w_pt_tru (w_pe_fldU T.cl_Disk T.na_Disk_has_stopped (w_pv 0)))
   (w_pss_one (w_ps_nox (w_ps_for PassesOwn.never (fun _=>rfl) (w_pi_range1p rfl T.n_range (w_pa_p (w_pv 3) w_pa_nil)) (w_pg_name (i:=4) sc_Disk_empty.nd rfl (Or.inl rfl))
   (w_pss_one (w_ps_asg w_pe_non (w_pg_sub (w_pv 2) (w_pv 4) set_list))))))
   (w_pss_one (w_ps_expr (w_pe_clear (w_pv 2)))))
   (w_pss_one (w_ps_expr (w_pe_mX0 (w_pv 0) T.cl_Disk Th M_Disk_refuse_if_stopped hr)))))))),?_⟩
  simp_all only [h1,fl_refuse_if_stopped]
  unfold DM.empty at q
  refine ⟨p,wl,sl,cells,m,d,rfl,D,fun hs=>?_,fun hs=>?_⟩
  ·rw [if_pos hs] at q
   exact ⟨_,rfl,q H D Keeps.refl⟩
  rw [if_neg (by rw [hs]; exact Bool.false_ne_true)] at q
  simp_all only [h1,D.rows.w,fl_written,ha,hH,List.length_map,fl_spend]
  generalize hr0:d.rows.getD k []=r at q hH ⊢
  have hrl:r.length≤1000:=by rw [← hr0]; exact hsm k
  refine ⟨p,wl,sl,cells,m,d,_,rfl,D,fun H1 D1 k1=>?_⟩
  obtain ⟨dx1,g1⟩:=D1.ob
  have gc:=D1.rows.at_ k c hc
  rw [spend_rows,hr0] at gc
  have hn0:0≤dn d.left r.length:=by
   unfold dn
   split
   ·omega
   ·rename_i l e
    have:=hl l e
    split <;> omega
  have hn1:dn d.left r.length≤r.length:=by
   unfold dn
   split
   ·omega
   ·split <;> omega
  have kF:∀ o,Keeps (p::wl::sl::cells) H (upd H1 c o):=fun o=>(k1.mono (by simp)).trans (Keeps.upd (by simp [List.mem_of_getElem? hc]))
  simp_all only [g1,fl_has_stopped]
  refine ite2 (fun hst=>?_) (fun hst=>?_)
  ·rw [if_pos hst] at q
   refine ⟨by omega,by omega,ForJ.rng (EmInv H1 p c k (dn d.left r.length) r) ⟨⟨_,rfl⟩,(upd_self gc).symm,Nat.zero_le _⟩ ?_ ?_⟩
   ·rintro i σ H' hi ⟨⟨x,rfl⟩,rfl,hle⟩
    have ix:ixN ((nulls i r).map tv).length (0+(i:Int))=some i:=by
     unfold ixN
     rw [if_pos (by omega),if_pos (by rw [List.length_map,nulls_len hle]; omega)]
     simp
    simp_all only [upd_same,ix,upd_upd,nulls_set (show i<r.length by omega)]
    exact ⟨⟨_,rfl⟩,rfl,by omega⟩
   ·rintro σ H' ⟨⟨x,rfl⟩,rfl,hle⟩
    have D2:=D1.setRow (r:=nulls (dn d.left r.length).toNat r) hc
    obtain ⟨dx2,g2⟩:=D2.ob
    simp_all only [g2,fl_refuse_if_stopped]
    refine ⟨p,wl,sl,cells,m,_,rfl,D2,fun hs2=>⟨_,rfl,q _ D2 (kF _)⟩,fun hs2=>?_⟩
    have hs2':(d.spend r.length).st=false:=hs2
    rw [hs2'] at hst; cases hst
  ·rw [if_neg hst] at q
   have D2:=D1.setRow (r:=[]) hc
   obtain ⟨dx2,g2⟩:=D2.ob
   have g2':upd H1 c (.lst []) p=some (.ins A.Disk dx2 (flds m wl sl { d.spend r.length with rows:=(d.spend r.length).rows.set k [] })):=g2
   simp_all only [gc,g2',fl_refuse_if_stopped]
   refine ⟨p,wl,sl,cells,m,_,rfl,D2,fun hs2=>absurd hs2 hst,fun hs2=>?_⟩
   simp_all only []
   exact q _ D2 (kF _)
end
abbrev s_row_at:Stmt:=top 44
abbrev s_rows_in:Stmt:=top 45
abbrev s_whole_rows:Stmt:=top 46
def rdT:Tx→Option (List V)|none=>none|some z=>readS z
structure TxOk (d:DM):Prop where
 ok:∀ r∈d.rows,r.length≤32∧∀ t∈r,∀ z,t=some z→asc z=true∧z.length≤1000
 len:d.rows.length≤16
abbrev Tri:=List V×Nat×Nat
def keyR:List V→Int|_::.int k::_=>k|_=>0
def one (o:Option (List V)) (k j:Nat):List Tri:=match o with|some row=>[(row,k,j)]|none=>[]
theorem one_len (o:Option (List V)) (k j:Nat):(one o k j).length≤1:=by cases o <;> simp [one]
def rIn (l:List Tx) (k:Nat):Nat→List Tri
 | 0=>[]
 | j+1=>rIn l k j++one (rdT (l.getD j none)) k j
def wU (rows:List (List Tx)):Nat→List Tri
 | 0=>[]
 | i+1=>wU rows i++rIn (rows.getD i []) i (rows.getD i []).length
def TriAt (H:Hp) (a:Addr) (t:Tri):Prop:=∃ r,H a=some (.tup [.ref r,.int t.2.1,.int t.2.2])∧H r=some (.tup t.1)
def TriL (H:Hp) (as:List Addr) (ts:List Tri):Prop:=Paired (TriAt H) as ts
def SameT (H H':Hp):Prop:=∀ a o,(∀ ps,o≠.tbl ps)→H a=some o→H' a=some o
theorem SameT.of {H H':Hp} (s:Same H H'):SameT H H':=fun a o _ e=>s a o e
theorem SameT.trans {H H1 H2:Hp} (x:SameT H H1) (y:SameT H1 H2):SameT H H2:=fun a o n e=>y a o n (x a o n e)
theorem SameT.lams {H H':Hp} {P:Addr} {ps:Array Value} (x:Lams H H' P) (h:H P=some (.tbl ps)):SameT H H':=fun a o n e=>x a o (fun z=>by subst z; rw [h] at e; cases e; exact n _ rfl) e
theorem SameT.lam {H H':Hp} {P:Addr} {pos:Pos} {q:Str} (x:Lams H H' P) (h:LamT pos q H P):SameT H H':=by
 rcases h with h|⟨_,_,_,_,h,_⟩
 ·exact SameT.lams x h
 ·exact SameT.lams x h
theorem SameT.list {H H':Hp} (s:SameT H H') {a:Addr} {xs:List V} (h:H a=some (.lst xs)):H' a=some (.lst xs):=s _ _ (fun _=>nofun) h
theorem SameT.tup {H H':Hp} (s:SameT H H') {a:Addr} {xs:List V} (h:H a=some (.tup xs)):H' a=some (.tup xs):=s _ _ (fun _=>nofun) h
theorem DiskAt.sameT {A:ClsA} {H H':Hp} {p wl sl:Addr} {cells:List Addr} {m:Int} {d:DM} (D:DiskAt A H p wl sl cells m d) (s:SameT H H'):DiskAt A H' p wl sl cells m d:=by
 obtain ⟨dx,e⟩:=D.ob
 exact ⟨⟨dx,s _ _ (fun _=>nofun) e⟩,⟨s.list D.rows.w,D.rows.len,fun i c h=>s.list (D.rows.at_ i c h)⟩,s.list D.sides,D.nd⟩
theorem TriAt.sameT {H H':Hp} {a:Addr} {t:Tri} (h:TriAt H a t) (s:SameT H H'):TriAt H' a t:=let ⟨r,e1,e2⟩:=h; ⟨r,s.tup e1,s.tup e2⟩
theorem TriL.sameT {H H':Hp} {as:List Addr} {ts:List Tri} (h:TriL H as ts) (s:SameT H H'):TriL H' as ts:=Paired.mapP h fun _ _ r=>r.sameT s
theorem TriL.same {H H':Hp} {as:List Addr} {ts:List Tri} (h:TriL H as ts) (s:Same H H'):TriL H' as ts:=h.sameT (.of s)
theorem paired_app {α β:Type} {R:α→β→Prop} {l1 l2:List α} {m1 m2:List β} (h1:Paired R l1 m1) (h2:Paired R l2 m2):Paired R (l1++l2) (m1++m2):=by
 induction h1 with
 | nil=>exact h2
 | cons r _ ih=>exact .cons r ih
theorem row_key {z:Str} {row:List V} (h:readS z=some row):∃ y k ys,row = .str y::.int k::ys:=by
 unfold readS at h
 obtain ⟨b,_,h⟩:=Option.bind_eq_some_iff.mp h
 cases e:PySem.Txt.split (PySem.Txt.slice b none (some (-1))) (c1 32) with
 | nil=>rw [e] at h; cases h
 | cons w ws =>
  rw [e,rowS_cons] at h
  obtain ⟨ks,hk,h⟩:=Option.bind_eq_some_iff.mp h
  split at h
  ·obtain ⟨vs,hv,rfl⟩:=Option.map_eq_some_iff.mp h
   have:∃ ks',ks=("number" : Str)::ks':=by
    unfold kindsS at hk
    split at hk
    ·cases hk; exact ⟨_,rfl⟩
    ·split at hk
     ·cases hk; exact ⟨_,rfl⟩
     ·split at hk
      ·cases hk; exact ⟨_,rfl⟩
      ·split at hk
       ·cases hk; exact ⟨_,rfl⟩
       ·split at hk
        ·cases hk; exact ⟨_,rfl⟩
        ·cases hk
   obtain ⟨ks',rfl⟩:=this
   cases ws with
   | nil=>rename_i hl; cases hl
   | cons z zs =>
    have hv':(readP "number" z).bind (fun v=>(readPs ks' zs).map (v::·))=some vs:=hv
    obtain ⟨v,h1,h2⟩:=Option.bind_eq_some_iff.mp hv'
    obtain ⟨vs',_,rfl⟩:=Option.map_eq_some_iff.mp h2
    have:∃ k,v = .int k:=by
     unfold readP at h1
     by_cases hz:numS z=true
     ·rw [if_pos ⟨rfl,hz⟩] at h1
      cases h1
      exact ⟨_,rfl⟩
     ·rw [if_neg (fun q=>hz q.2),if_neg (fun q=>absurd q.1 (by decide)),if_neg (fun q=>absurd q.1 (by decide)),if_neg (fun q=>absurd q.1 (by decide))] at h1
      cases h1
    obtain ⟨k,rfl⟩:=this
    exact ⟨w,k,vs',rfl⟩
  ·cases h
theorem getD_mem {α:Type} {l:List α} {j:Nat} {x:α} (h:j<l.length):l.getD j x∈l:=by
 rw [List.getD_eq_getElem?_getD,List.getElem?_eq_getElem h]; exact List.getElem_mem h
section
variable {P:Program} {w:World} {K:PySem.W.Frag} {mg:Str→Option Value} {base:Heap} {A:ClsA}
def spRowAt (A:ClsA):Sp:=fun vs H Q _=>∃ (p wl sl:Addr) (cells:List Addr) (m:Int) (d:DM) (k j:Nat),vs=[.ref p,.int k,.int j]∧DiskAt A H p wl sl cells m d∧TxOk d∧k<d.rows.length ∧
 (∀ row,rdT ((d.rows.getD k []).getD j none)=some row→∀ r H',Same H H'→H' r=some (.tup row)→Q (.ref r) H')∧(rdT ((d.rows.getD k []).getD j none)=none→∀ H',Same H H'→Q .non H')
theorem sc_row_at:FnScope ["disk","stretch","place"] ["disk","stretch","place"] (defScope s_row_at):=⟨rfl,rfl,rfl,by decide +kernel,rfl,by decide +kernel,by decide +kernel⟩
theorem ok_row_at {f:Addr} {fd:FuncData} (F:Fun K "row_at" "row_at" s_row_at f fd) (T:Txt w K mg A) (M_Disk_told:GM P w K mg base true 1 A.Disk "told" ["self","stretch","place"] (spTold A)) (G_read_row:GX P w K mg base true 5 "read_row" ["text"] (spReadR A)):FnOk P w K mg base CX0 true 7 f fd ["disk","stretch","place"] (spRowAt A):=by
 refine F.ok sc_row_at (fun vs H Q E h=>?_) (fun cdv Ar outer s H vs Q E hr h=>?_)
 ·obtain ⟨p,wl,sl,cells,m,d,k,j,rfl,_⟩:=h; rfl
 ·obtain ⟨p,wl,sl,cells,m,d,k,j,rfl,D,tx,hk,q1,q2⟩:=h
  refine ⟨_,(W.h (w_pss_one (w_ps_tryN rfl rfl ⟨rfl,rfl⟩ T.ek_NoRow rfl T.mg_NoRow (fun pins Ex=>(w_pss_one (w_ps_ret (w_pe_gX throws_try G_read_row hr rfl (w_pa_p (w_pe_m (w_pv 0) T.cl_Disk M_Disk_told hr (w_pa_p (w_pv 1) (w_pa_p (w_pv 2) w_pa_nil))) w_pa_nil))))) (fun pins ea=>by
   have hr:=hr.mark (v:=some (.ref ea))
   exact (w_pss_one (w_ps_ret w_pe_non)))))),?_⟩
  obtain ⟨dx,h1⟩:=D.ob
  simp_all only [h1,fl_told]
  refine ⟨p,wl,sl,cells,m,d,k,j,rfl,D,hk,?_⟩
  unfold toldV
  have hin:∀ z,(d.rows.getD k []).getD j none=some z→asc z=true∧z.length≤1000:=fun z e=>by
   have hr:d.rows.getD k []∈d.rows:=getD_mem hk
   by_cases hj:j<(d.rows.getD k []).length
   ·exact (tx.ok _ hr).2 _ (getD_mem hj) z e
   ·rw [List.getD_eq_getElem?_getD,List.getElem?_eq_none (by omega)] at e; cases e
  have exc:∀ H1,Same H H1→rdT ((d.rows.getD k []).getD j none)=none→ErrK K A.NoRow∧PySem.W.mroIn K A.NoRow (.ref A.NoRow)=some true∧∀ (ea:Addr) (oe:Obj),H1 ea=none→ExcO A.NoRow oe→Q V.non (upd H1 ea (HO.frz oe (HO.own 0))):=fun H1 s1 hn=>⟨T.ek_NoRow,T.ms_NoRow,fun ea oe he _=>q2 hn _ fun a o e=>by rw [upd_ne (ne_of_none (s1 _ _ e) he)]; exact s1 _ _ e⟩
  generalize (d.rows.getD k []).getD j none=t at hin exc q1
  cases t with
  | none=>exact .inl ⟨_,rfl,.non,_,rfl,exc H (Same.refl _) rfl⟩
  | some z =>
   obtain ⟨a1,a2⟩:=hin z rfl
   exact .inr ⟨z,rfl,a1,by omega,fun xs hx p' H' s' h'=>q1 xs hx p' H' s' h',fun hn H' s'=>⟨_,rfl,exc H' s' hn⟩⟩
def spRowsIn (A:ClsA):Sp:=fun vs H Q _=>∃ (p wl sl:Addr) (cells:List Addr) (m:Int) (d:DM) (k:Nat),vs=[.ref p,.int k]∧DiskAt A H p wl sl cells m d∧TxOk d∧k<d.rows.length ∧
 ∀ l as H',Same H H'→H l=none→H' l=some (.lst (as.map V.ref))→TriL H' as (rIn (d.rows.getD k []) k (d.rows.getD k []).length)→Q (.ref l) H'
structure RInv (H:Hp) (p l:Addr) (k:Nat) (r:List Tx) (j:Nat) (σ:L2.St) (H':Hp):Prop where
 ex:∃ t1 t2,σ=[some (V.ref p),some (.int k),some (.ref l),t1,t2]
 same:Same H H'
 no:H l=none
 ls:∃ as:List Addr,H' l=some (.lst (as.map V.ref))∧TriL H' as (rIn r k j)∧as.length≤j
theorem sc_rows_in:FnScope ["disk","stretch","found","place","row"] ["disk","stretch"] (defScope s_rows_in):=⟨rfl,rfl,rfl,by decide +kernel,rfl,by decide +kernel,by decide +kernel⟩
theorem ok_rows_in {f:Addr} {fd:FuncData} (F:Fun K "rows_in" "rows_in" s_rows_in f fd) (T:Txt w K mg A) (M_Disk_next_place:GM P w K mg base true 1 A.Disk "next_place" ["self","stretch"] (spNext A)) (G_row_at:GF P w K mg base true 7 "row_at" ["disk","stretch","place"] (spRowAt A)):FnOk P w K mg base CX0 true 8 f fd ["disk","stretch"] (spRowsIn A):=by
 refine F.ok sc_rows_in (fun vs H Q E h=>?_) (fun cdv Ar outer s H vs Q E hr h=>?_)
 ·obtain ⟨p,wl,sl,cells,m,d,k,rfl,_⟩:=h; rfl
 ·obtain ⟨p,wl,sl,cells,m,d,k,rfl,D,tx,hk,q⟩:=h
  refine ⟨_,(W.h (w_pss_cons (w_ps_set (i:=2) sc_rows_in.nd rfl (Or.inl rfl) (w_pe_lstA w_pa_nil))
   (w_pss_cons (w_ps_for PassesOwn.never (fun _=>rfl) (w_pi_range1p rfl T.n_range (w_pa_p (w_pe_m (w_pv 0) T.cl_Disk M_Disk_next_place hr (w_pa_p (w_pv 1) w_pa_nil)) w_pa_nil)) (w_pg_name (i:=3) sc_rows_in.nd rfl (Or.inl rfl))
   (w_pss_cons (w_ps_set (i:=4) sc_rows_in.nd rfl (Or.inl rfl) (w_pe_g G_row_at hr rfl (w_pa_p (w_pv 0) (w_pa_p (w_pv 1) (w_pa_p (w_pv 3) w_pa_nil)))))
   (w_pss_one (w_ps_if (w_pt_cmpR op_isnU (w_pv 4) w_pe_non (nomark _))
   (w_pss_one (w_ps_expr (w_pe_append (w_pv 2) (w_pe_tupA (w_pa_p (w_pv 4) (w_pa_p (w_pv 1) (w_pa_p (w_pv 3) w_pa_nil)))))))
   w_pss_nil))))
   (w_pss_one (w_ps_ret (w_pv 2)))))),?_⟩
  have hr0:d.rows.getD k []∈d.rows:=by rw [List.getD_eq_getElem?_getD,List.getElem?_eq_getElem hk]; exact List.getElem_mem hk
  have hl32:=(tx.ok _ hr0).1
  simp_all only []
  refine ⟨by decide,fun l H1 n1 _=>?_⟩
  have D1:=D.sameT (.of n1.same)
  obtain ⟨dx,h1⟩:=D1.ob
  simp_all only [h1,fl_next_place]
  refine ⟨p,wl,sl,cells,m,d,k,rfl,D1,hk,?_⟩
  simp_all only []
  have er:(((d.rows.getD k []).length:Nat):Int).toNat=(d.rows.getD k []).length:=by omega
  rw [er]
  refine ⟨by omega,by omega,ForJ.rng (RInv H p l k (d.rows.getD k [])) ⟨⟨_,_,rfl⟩,n1.same,n1.no,[],n1.at_,.nil,Nat.le_refl _⟩ ?_ ?_⟩
  ·rintro j σ H2 hj ⟨⟨t1,t2,rfl⟩,sm,ln,as,hl,ht,ha⟩
   have ej:(0+(j:Int))=((j:Nat):Int):=by omega
   simp_all only [ej]
   refine ⟨p,wl,sl,cells,m,d,k,j,rfl,D.sameT (.of sm),tx,hk,fun row hrow r H3 s3 h3=>?_,fun hn H3 s3=>?_⟩
   ·have hl3:=s3 _ _ hl
    simp_all only [hl3]
    refine ⟨by decide,fun a H4 n4=>?_⟩
    have hl4:=n4.same _ _ hl3
    simp_all only [hl4]
    have al:a≠l:=fun z=>by have:=n4.no; rw [z,hl3] at this; cases this
    have rl:r≠l:=fun z=>by rw [z,hl3] at h3; cases h3
    refine ⟨by rw [List.length_map]; exact big5' (by omega),⟨_,_,rfl⟩,fun c o e=>?_,ln,as++[a],by rw [upd_same]; simp,?_,by simp; omega⟩
    ·rw [upd_ne (ne_of_none e ln)]; exact n4.same _ _ (s3 _ _ (sm _ _ e))
    ·have e1:rIn (d.rows.getD k []) k (j+1)=rIn (d.rows.getD k []) k j++[(row,k,j)]:=by
      show rIn _ k j++_=_
      rw [hrow]; rfl
     rw [e1]
     refine paired_app (Paired.mapP ht fun x t ⟨r',g1,g2⟩=>?_) (.cons ⟨r,?_,?_⟩ .nil)
     ·refine ⟨r',?_,?_⟩
      ·rw [upd_ne (fun z=>by rw [z,hl] at g1; cases g1)]; exact n4.same _ _ (s3 _ _ g1)
      ·rw [upd_ne (fun z=>by rw [z,hl] at g2; cases g2)]; exact n4.same _ _ (s3 _ _ g2)
     ·rw [upd_ne al]; exact n4.at_
     ·rw [upd_ne rl]; exact n4.same _ _ h3
   ·simp_all only []
    refine ⟨⟨_,_,rfl⟩,sm.trans s3,ln,as,s3 _ _ hl,?_,by omega⟩
    have e1:rIn (d.rows.getD k []) k (j+1)=rIn (d.rows.getD k []) k j:=by
     show rIn _ k j++_=_
     rw [hn]; exact List.append_nil _
    rw [e1]
    exact TriL.same ht s3
  ·rintro σ H2 ⟨⟨t1,t2,rfl⟩,sm,ln,as,hl,ht,ha⟩
   simp_all only []
   exact q l as H2 sm ln hl ht
end
abbrev s_end_of:Stmt:=top 47
abbrev s_empties:Stmt:=top 48
abbrev s_free_in:Stmt:=top 49
abbrev s_next_stretch:Stmt:=top 50
def keyT (t:Tri):Int:=keyR t.1
theorem perm_map_ex {α β:Type} {f:α→β} {zs m:List β} (h:zs.Perm m):∀ {L:List α},m=L.map f→∃ L':List α,L'.Perm L∧zs=L'.map f:=by
 induction h with
 | nil=>intro L e; cases L with
  | nil=>exact ⟨[],.nil,rfl⟩
  | cons a L=>cases e
 | cons x _ ih =>
  intro L e
  cases L with
  | nil=>cases e
  | cons a L =>
   rw [List.map_cons] at e
   injection e with e1 e2
   obtain ⟨L',p,rfl⟩:=ih e2
   exact ⟨a::L',p.cons a,by rw [List.map_cons,e1]⟩
 | swap x y l =>
  intro L e
  cases L with
  | nil=>cases e
  | cons a L =>
   cases L with
   | nil=>rw [List.map_cons] at e; injection e with _ e2; cases e2
   | cons b L =>
    rw [List.map_cons,List.map_cons] at e
    injection e with e1 e2
    injection e2 with e2 e3
    exact ⟨b::a::L,.swap ..,by rw [List.map_cons,List.map_cons,e1,e2,e3]⟩
 | trans _ _ ih1 ih2 =>
  intro L e
  obtain ⟨L1,p1,e1⟩:=ih2 e
  obtain ⟨L2,p2,e2⟩:=ih1 e1
  exact ⟨L2,p2.trans p1,e2⟩
theorem sorted_eq:∀ {l m:List Tri},l.Perm m→l.Pairwise (fun a b=>keyT a<keyT b)→m.Pairwise (fun a b=>keyT a<keyT b)→l=m
 | [],m,p,_,_=>(List.Perm.nil_eq p)
 | a::l,[],p,_,_=>by have:=p.length_eq; cases this
 | a::l,b::m,p,h1,h2=>by
  obtain ⟨g1,g2⟩:=List.pairwise_cons.mp h1
  obtain ⟨k1,k2⟩:=List.pairwise_cons.mp h2
  have e:a=b:=by
   refine Classical.byContradiction fun ne=>?_
   have ha:a∈b::m:=p.mem_iff.mp (List.mem_cons_self ..)
   have hb:b∈a::l:=p.mem_iff.mpr (List.mem_cons_self ..)
   rcases List.mem_cons.mp ha with z|ha
   ·exact ne z
   ·rcases List.mem_cons.mp hb with z|hb
    ·exact ne z.symm
    ·have:=k1 a ha
     have:=g1 b hb
     omega
  subst e
  rw [sorted_eq (List.Perm.cons_inv p) g2 k2]
theorem strict {l:List Tri} (nd:(l.map keyT).Nodup) (h:l.Pairwise (fun a b=>keyT a≤keyT b)):l.Pairwise (fun a b=>keyT a<keyT b) :=
 (h.and (List.pairwise_map.mp nd)).imp fun ⟨h1,h2⟩=>by omega
open Classical in
noncomputable def srtK (U:List Tri):List Tri:=if h:∃ ts:List Tri,ts.Perm U∧ts.Pairwise (fun a b=>keyT a≤keyT b) then h.choose else U
theorem srt_is {U ts:List Tri} (nd:(U.map keyT).Nodup) (p:ts.Perm U) (h:ts.Pairwise (fun a b=>keyT a≤keyT b)):ts=srtK U:=by
 have ex:∃ ts:List Tri,ts.Perm U∧ts.Pairwise (fun a b=>keyT a≤keyT b):=⟨ts,p,h⟩
 unfold srtK
 rw [dif_pos ex]
 have n1:(ts.map keyT).Nodup:=(p.map keyT).nodup_iff.mpr nd
 have n2:(ex.choose.map keyT).Nodup:=(ex.choose_spec.1.map keyT).nodup_iff.mpr nd
 exact sorted_eq (p.trans ex.choose_spec.1.symm) (strict n1 h) (strict n2 ex.choose_spec.2)
def lpW:Pos:=⟨121,29,121,50⟩
def lpL:Pos:=⟨246,34,246,65⟩
def qW:Str:=(envOfC "whole_rows" (defScope s_whole_rows) 0 0 .none).qual++"<lambda>"
abbrev s__law_rows:Stmt:=top 62
def qL:Str:=(envOfC "_law_rows" (defScope s__law_rows) 0 0 .none).qual++"<lambda>"
structure TB (A:ClsA) (H:Hp):Prop where
 w:LamT lpW qW H A.t_whole_rows
 l:LamT lpL qL H A.t__law_rows
 ne:A.t_whole_rows≠A.t__law_rows
theorem lamT_tbl {pos:Pos} {q:Str} {H:Hp} {P:Addr} (h:LamT pos q H P):∃ ps,H P=some (.tbl ps):=by
 rcases h with h|⟨_,_,_,_,h,_⟩ <;> exact ⟨_,h⟩
theorem lamT_keep {pos:Pos} {q:Str} {H H':Hp} {P:Addr} (h:LamT pos q H P) (k:∀ a o,H a=some o→(a=P∨∀ ps,o≠.tbl ps)→H' a=some o):LamT pos q H' P:=by
 rcases h with h|⟨c,oc,vs,t,h1,h2,h3⟩
 ·exact .inl (k _ _ h (.inl rfl))
 ·exact .inr ⟨c,oc,vs,t,k _ _ h1 (.inl rfl),k _ _ h2 (.inr fun ps z=>by cases z),h3⟩
theorem TB.same {A:ClsA} {H H':Hp} (h:TB A H) (s:Same H H'):TB A H':=⟨lamT_keep h.w fun a o e _=>s a o e,lamT_keep h.l fun a o e _=>s a o e,h.ne⟩
theorem TB.keep {A:ClsA} {H H':Hp} {F:List Addr} (h:TB A H) (k:Keeps F H H') (hF:∀ x∈F,∀ o,H x=some o→(∀ ps,o≠.tbl ps)∧∀ oc,o≠.frz oc (.own 0)):TB A H':=by
 have go:∀ {pos q P},LamT pos q H P→LamT pos q H' P:=fun {pos q P} h=>by
  rcases h with h|⟨c,oc,vs,t,h1,h2,h3⟩
  ·exact .inl (k _ _ h fun z=>(hF _ z _ h).1 _ rfl)
  ·exact .inr ⟨c,oc,vs,t,k _ _ h1 fun z=>(hF _ z _ h1).1 _ rfl,k _ _ h2 fun z=>(hF _ z _ h2).2 _ rfl,h3⟩
 exact ⟨go h.w,go h.l,h.ne⟩
section
variable {P:Program} {w:World} {K:PySem.W.Frag} {mg:Str→Option Value} {base:Heap} {A:ClsA}
def nU (d:DM):List Tri:=wU d.rows d.rows.length
structure WInv (H:Hp) (p l:Addr) (d:DM) (i:Nat) (σ:L2.St) (H':Hp):Prop where
 ex:∃ t1,σ=[some (V.ref p),some (.ref l),t1]
 same:Same H H'
 no:H l=none
 ls:∃ as:List Addr,H' l=some (.lst (as.map V.ref))∧TriL H' as (wU d.rows i)∧as.length≤32*i
theorem rIn_key {l:List Tx} {k:Nat}:∀ {j:Nat} {t:Tri},t∈rIn l k j→∃ y n ys,t.1 = .str y::.int n::ys
 | 0,t,h=>by cases h
 | j+1,t,h=>by
  rcases List.mem_append.mp h with h|h
  ·exact rIn_key h
  ·cases e:l.getD j none with
   | none=>rw [e] at h; cases h
   | some z =>
    rw [e] at h
    cases e2:readS z with
    | none=>rw [show rdT (some z)=readS z from rfl,e2] at h; cases h
    | some row =>
     rw [show rdT (some z)=readS z from rfl,e2] at h
     have h:t=(row,k,j):=List.mem_singleton.mp h
     rw [h]
     exact row_key e2
theorem wU_key {rows:List (List Tx)}:∀ {i:Nat} {t:Tri},t∈wU rows i→∃ y n ys,t.1 = .str y::.int n::ys
 | 0,t,h=>by cases h
 | i+1,t,h=>by
  rcases List.mem_append.mp h with h|h
  ·exact wU_key h
  ·exact rIn_key h
theorem tri_keys {H:Hp} {as:List Addr} {ts:List Tri} (h:TriL H as ts) (hk:∀ t∈ts,∃ y n ys,t.1 = .str y::.int n::ys):Paired (KeyAt H) as (ts.map keyT):=by
 induction h with
 | nil=>exact .nil
 | @cons a t _ _ r _ ih =>
  refine .cons ?_ (ih fun t h=>hk t (List.mem_cons_of_mem _ h))
  obtain ⟨y,n,ys,e⟩:=hk t (List.mem_cons_self ..)
  obtain ⟨rr,e1,e2⟩:=r
  rw [e] at e2
  have ek:keyT t=n:=by unfold keyT; rw [e]; rfl
  rw [ek]
  exact ⟨rr,_,_,_,e1,e2⟩
theorem tri_sorted {H:Hp} {as:List Addr} {ts:List Tri} {zs:List (Int×Addr)} (h:TriL H as ts) (p:zs.Perm ((ts.map keyT).zip as)) (hs:zs.Pairwise (fun p q=>p.1≤q.1)) (nd:(ts.map keyT).Nodup):TriL H (zs.map (·.2)) (srtK ts):=by
 have hl:=paired_len h
 have e1:(ts.map keyT).zip as=(as.zip ts).map fun q=>(keyT q.2,q.1):=by
  clear p nd
  induction h with
  | nil=>rfl
  | cons r _ ih=>rw [List.map_cons,List.zip_cons_cons,List.zip_cons_cons,List.map_cons,ih (Paired.length ‹_›)]
 obtain ⟨L,pL,rfl⟩:=perm_map_ex p e1
 have e2:(as.zip ts).map (·.2)=ts:=List.map_snd_zip (by omega)
 have hm:∀ q∈as.zip ts,TriAt H q.1 q.2:=by
  clear p pL e1 e2 hs nd hl
  induction h with
  | nil=>intro q hq; cases hq
  | cons r _ ih =>
   intro q hq
   rw [List.zip_cons_cons] at hq
   rcases List.mem_cons.mp hq with rfl|hq
   ·exact r
   ·exact ih q hq
 have e3:L.map (·.2)=srtK ts:=srt_is nd (by have:=pL.map (·.2); rw [e2] at this; exact this) (by
  have:=List.pairwise_map.mp hs
  exact List.pairwise_map.mpr this)
 rw [← e3,List.map_map]
 have:∀ M:List (Addr×Tri),(∀ q∈M,TriAt H q.1 q.2)→TriL H (M.map ((·.2)∘fun q=>(keyT q.2,q.1))) (M.map (·.2)):=fun M=>by
  induction M with
  | nil=>exact fun _=>.nil
  | cons q M ih=>exact fun h=>.cons (h q (List.mem_cons_self ..)) (ih fun r hr=>h r (List.mem_cons_of_mem _ hr))
 exact this L fun q hq=>hm q (pL.mem_iff.mp hq)
def spWR (A:ClsA):Sp:=fun vs H Q _=>∃ (p wl sl:Addr) (cells:List Addr) (m:Int) (d:DM),vs=[.ref p]∧DiskAt A H p wl sl cells m d∧TxOk d∧((nU d).map keyT).Nodup∧(nU d).length<64∧TB A H ∧
 ∀ l as H',SameT H H'→TB A H'→H l=none→l≠sysModules→H' l=some (.lst (as.map V.ref))→TriL H' as (srtK (nU d))→Q (.ref l) H'
theorem sc_whole_rows:FnScope ["disk","found","stretch"] ["disk"] (defScope s_whole_rows):=⟨rfl,rfl,rfl,by decide +kernel,rfl,by decide +kernel,by decide +kernel⟩
theorem ok_whole_rows {f c:Addr} {fd:FuncData} (F:Fun K "whole_rows" "whole_rows" s_whole_rows f fd) (hc:fd.code = .ref c) (LB:LamB mg base (.ref c) A.t_whole_rows) (T:Txt w K mg A) (M_Disk_stretches:GM P w K mg base true 1 A.Disk "stretches" ["self"] (spRd A fun _ d=>.int d.rows.length)) (G_rows_in:GF P w K mg base true 8 "rows_in" ["disk","stretch"] (spRowsIn A)):FnOk P w K mg base CX0 true 9 f fd ["disk"] (spWR A):=by
 refine F.okC hc sc_whole_rows (fun vs H Q E h=>?_) (fun Ar outer s H vs Q E hr h=>?_)
 ·obtain ⟨p,wl,sl,cells,m,d,rfl,_⟩:=h; rfl
 ·obtain ⟨p,wl,sl,cells,m,d,rfl,D,tx,nd,h64,tb,q⟩:=h
  refine ⟨_,(W.h (w_pss_cons (w_ps_set (i:=1) sc_whole_rows.nd rfl (Or.inl rfl) (w_pe_lstA w_pa_nil))
   (w_pss_cons (w_ps_for PassesOwn.never (fun _=>rfl) (w_pi_range1p rfl T.n_range (w_pa_p (w_pe_m0 (w_pv 0) T.cl_Disk M_Disk_stretches hr) w_pa_nil)) (w_pg_name (i:=2) sc_whole_rows.nd rfl (Or.inl rfl))
   (w_pss_one (w_ps_expr (w_pe_extend (w_pv 1) (w_pe_g G_rows_in hr rfl (w_pa_p (w_pv 0) (w_pa_p (w_pv 2) w_pa_nil)))))))
   (w_pss_one (w_ps_ret (w_pe_sortK LB hr rfl T.n_sorted (w_pv 1) rfl rfl (fun _ _ _ _ _=>rfl) rfl rfl rfl rfl)))))),?_⟩
  have hl16:=tx.len
  simp_all only []
  refine ⟨by decide,fun l H1 n1 _=>?_⟩
  have D1:=D.sameT (.of n1.same)
  obtain ⟨dx,h1⟩:=D1.ob
  simp_all only [h1,fl_stretches]
  refine ⟨p,wl,sl,cells,m,d,rfl,D1,?_⟩
  simp_all only []
  have er:((d.rows.length:Nat):Int).toNat=d.rows.length:=by omega
  rw [er]
  refine ⟨by omega,by omega,ForJ.rng (WInv H p l d) ⟨⟨_,rfl⟩,n1.same,n1.no,[],n1.at_,.nil,Nat.le_refl _⟩ ?_ ?_⟩
  ·rintro i σ H2 hi ⟨⟨t1,rfl⟩,sm,ln,as,hl,ht,ha⟩
   have ej:(0+(i:Int))=((i:Nat):Int):=by omega
   simp_all only [hl,ej]
   refine ⟨p,wl,sl,cells,m,d,i,rfl,D.sameT (.of sm),tx,hi,fun l2 bs H3 s3 n3 h3 t3=>?_⟩
   have hl3:=s3 _ _ hl
   have hb:bs.length≤32:=by
    have e1:=paired_len t3
    have e2:∀ (r:List Tx) k j,(rIn r k j).length≤j:=fun r k j=>by
     induction j with
     | zero=>exact Nat.le_refl _
     | succ j ih=>show (rIn r k j++_).length≤_; rw [List.length_append]; have:=one_len (rdT (r.getD j none)) k j; omega
    have:=e2 (d.rows.getD i []) i (d.rows.getD i []).length
    have:=(tx.ok _ (getD_mem (x:=[]) hi)).1
    omega
   simp_all only [hl3,h3]
   refine ⟨by rw [List.length_map,List.length_map]; exact big5 (by omega),⟨_,rfl⟩,fun c o e=>?_,ln,as++bs,by rw [upd_same]; simp,?_,by simp; omega⟩
   ·rw [upd_ne (ne_of_none e ln)]; exact s3 _ _ (sm _ _ e)
   ·have up:∀ {b xs},H3 b=some (.tup xs)→upd H3 l (.lst (List.map V.ref as++List.map V.ref bs)) b=some (.tup xs):=fun {b xs} e=>by rw [upd_ne (fun z=>by rw [z,hl3] at e; cases e)]; exact e
    exact paired_app (Paired.mapP ht fun x t ⟨r',g1,g2⟩=>⟨r',up (s3 _ _ g1),up (s3 _ _ g2)⟩) (Paired.mapP t3 fun x t ⟨r',g1,g2⟩=>⟨r',up g1,up g2⟩)
  ·rintro σ H2 ⟨⟨t1,rfl⟩,sm,ln,as,hl,ht,ha⟩
   simp_all only []
   have hlen:=paired_len ht
   have tb2:=tb.same sm
   refine ⟨as,hl,tb2.w,by rw [hlen]; exact h64,(nU d).map keyT,tri_keys ht fun t h=>wU_key h,fun D2 zs H3 L3 T3 f3 ne3 ns3 e3 pz sz=>?_⟩
   have s3:SameT H2 H3:=SameT.lam L3 tb2.w
   have tb3:TB A H3:=⟨T3,lamT_keep tb2.l fun a o e h=>L3 a o (fun z=>?_) e,tb2.ne⟩
   ·refine q D2 (zs.map (·.2)) H3 ((SameT.of sm).trans s3) tb3 (sm.free f3) ns3 (by rw [e3,List.map_map]; rfl) ((tri_sorted ht pz sz nd).sameT s3)
   ·obtain ⟨ps,hps⟩:=lamT_tbl tb2.w
    rcases h with h|h
    ·exact tb2.ne (z.symm.trans h)
    ·rw [z,hps] at e
     cases e
     exact h _ rfl
end
theorem srt_perm (U:List Tri):(srtK U).Perm U:=by
 unfold srtK
 split
 ·rename_i h; exact h.choose_spec.1
 ·exact .refl _
def hotT (t:Tri):Bool:=match t.1 with | .str y::_=>!decide (y=("carry" : Str))|_=>true
def endP (ts:List Tri) (hot:Bool):Nat→Option Nat
 | 0=>none
 | i+1=>match ts[i]? with|some t=>if hotT t=hot then some t.2.1 else endP ts hot i|none=>endP ts hot i
def ov:Option Nat→V|none=>.non|some n=>.int n
noncomputable def endS (d:DM) (hot:Bool):Option Nat:=endP (srtK (nU d)) hot (srtK (nU d)).length
theorem rIn_at {l:List Tx} {k:Nat}:∀ {j:Nat} {t:Tri},t∈rIn l k j→t.2.1=k
 | 0,t,h=>by cases h
 | j+1,t,h=>by
  rcases List.mem_append.mp h with h|h
  ·exact rIn_at h
  ·unfold one at h
   split at h
   ·rw [List.mem_singleton] at h; rw [h]
   ·cases h
theorem wU_lt {rows:List (List Tx)}:∀ {i:Nat} {t:Tri},t∈wU rows i→t.2.1<i
 | 0,t,h=>by cases h
 | i+1,t,h=>by
  rcases List.mem_append.mp h with h|h
  ·have:=wU_lt h; omega
  ·have:=rIn_at h; omega
theorem endP_mem {ts:List Tri} {hot:Bool}:∀ {i n:Nat},endP ts hot i=some n→∃ t∈ts,t.2.1=n
 | 0,n,h=>by cases h
 | i+1,n,h=>by
  unfold endP at h
  split at h
  ·rename_i t ht
   split at h
   ·cases h; exact ⟨t,List.mem_of_getElem? ht,rfl⟩
   ·exact endP_mem h
  ·exact endP_mem h
theorem endS_lt {d:DM} {hot:Bool} {n:Nat} (h:endS d hot=some n):n<d.rows.length:=by
 obtain ⟨t,ht,rfl⟩:=endP_mem h
 exact wU_lt ((srt_perm _).mem_iff.mp ht)
def emp (rows:List (List Tx)):Nat→List Nat
 | 0=>[]
 | i+1=>emp rows i++if (rows.getD i []).length=0 then [i] else []
def iv (n:Nat):V:=.int n
theorem emp_len (rows:List (List Tx)):∀ i,(emp rows i).length≤i
 | 0=>Nat.le_refl _
 | i+1=>by show (emp rows i++_).length≤_; have:=emp_len rows i; rw [List.length_append]; split <;> simp <;> omega
def freeI (d:DM) (m:Int):Option Nat→Int|none=>0|some k=>m - (d.rows.getD k []).length
noncomputable def nextS (d:DM) (m:Int) (hot:Bool):Option Nat:=if freeI d m (endS d hot)>0 then endS d hot else (emp d.rows d.rows.length).head?
section
variable {P:Program} {w:World} {K:PySem.W.Frag} {mg:Str→Option Value} {base:Heap} {A:ClsA}
structure EInv (H1:Hp) (p:Addr) (hot:Bool) (ts:List Tri) (i:Nat) (σ:L2.St) (H':Hp):Prop where
 ex:∃ t1 t2 t3,σ=[some (V.ref p),some (.bl hot),some (ov (endP ts hot i)),t1,t2,t3]
 same:H'=H1
def spEnd (A:ClsA):Sp:=fun vs H Q _=>∃ (p wl sl:Addr) (cells:List Addr) (m:Int) (d:DM) (hot:Bool),vs=[.ref p,.bl hot]∧DiskAt A H p wl sl cells m d∧TxOk d∧((nU d).map keyT).Nodup∧(nU d).length<64∧TB A H ∧
 ∀ H',SameT H H'→TB A H'→Q (ov (endS d hot)) H'
theorem sc_end_of:FnScope ["disk","is_hot","end","row","stretch","place"] ["disk","is_hot"] (defScope s_end_of):=⟨rfl,rfl,rfl,by decide +kernel,rfl,by decide +kernel,by decide +kernel⟩
theorem ok_end_of {f:Addr} {fd:FuncData} (F:Fun K "end_of" "end_of" s_end_of f fd) (T:Txt w K mg A) (G_whole_rows:GF P w K mg base true 9 "whole_rows" ["disk"] (spWR A)):FnOk P w K mg base CX0 true 10 f fd ["disk","is_hot"] (spEnd A):=by
 refine F.ok sc_end_of (fun vs H Q E h=>?_) (fun cdv Ar outer s H vs Q E hr h=>?_)
 ·obtain ⟨p,wl,sl,cells,m,d,hot,rfl,_⟩:=h; rfl
 ·obtain ⟨p,wl,sl,cells,m,d,hot,rfl,D,tx,nd,h64,tb,q⟩:=h
  have hu:_<cLine:=Nat.lt_of_succ_lt (hu_of hr)
  refine ⟨_,(W.h (w_pss_cons (w_ps_set (i:=2) sc_end_of.nd rfl (Or.inl rfl) w_pe_non)
   (w_pss_cons (w_ps_for PassesOwn.never (fun _=>rfl) (w_pi_list (w_pe_g G_whole_rows hr rfl (w_pa_p (w_pv 0) w_pa_nil))) (w_pg_tupA (n:=3) (w_pgs_cons (w_pg_name (i:=3) sc_end_of.nd rfl (Or.inl rfl)) (w_pgs_cons (w_pg_name (i:=4) sc_end_of.nd rfl (Or.inl rfl)) (w_pgs_cons (w_pg_name (i:=5) sc_end_of.nd rfl (Or.inl rfl)) w_pgs_nil))))
   (w_pss_one (w_ps_if (w_pt_cmpR (op_eqU hu) (w_pe_cmpR (op_neU hu) (w_pe_ix ix_U (w_pv 3) w_pe_int (fun _ _=>rfl)) (w_pe_gv rfl T.c_COLD_KIND) (nomark _)) (w_pv 1) (nomark _))
   (w_pss_one (w_ps_set (i:=2) sc_end_of.nd rfl (Or.inl rfl) (w_pv 4)))
   w_pss_nil)))
   (w_pss_one (w_ps_ret (w_pv 2)))))),?_⟩
  simp_all only []
  refine ⟨p,wl,sl,cells,m,d,rfl,D,tx,nd,h64,tb,fun l as H1 s1 tb1 ln _ hl ht=>?_⟩
  have hlen:=paired_len ht
  simp_all only []
  refine ⟨⟨_,SqL.of hl⟩,ForJ.lst (xs:=as.map V.ref) (EInv H1 p hot (srtK (nU d))) ⟨⟨_,_,_,rfl⟩,rfl⟩ (fun i σ H' _ I=>by rw [I.same]; exact SqL.of hl) ?_ ?_⟩
  ·rintro i x σ H' hx ⟨⟨t1,t2,t3,rfl⟩,rfl⟩
   rw [List.getElem?_map] at hx
   obtain ⟨a,ha,rfl⟩:=Option.map_eq_some_iff.mp hx
   have hi:i<(srtK (nU d)).length:=by rw [← hlen]; exact (List.getElem?_eq_some_iff.mp ha).1
   have hti:(srtK (nU d))[i]?=some (srtK (nU d))[i]:=List.getElem?_eq_getElem hi
   generalize (srtK (nU d))[i]=t at hti
   obtain ⟨r,e1,e2⟩:=paired_at ht ha hti
   obtain ⟨y,n,ys,et⟩:=wU_key ((srt_perm _).mem_iff.mp (List.mem_of_getElem? hti))
   rw [et] at e2
   refine ⟨a,_,rfl,SqT.of e1,rfl,?_⟩
   have ix:atI (V.str y::V.int n::ys) 0=some (V.str y):=atI_nat (j:=0) (by simp)
   have eh:hotT t = !decide (y=("carry" : Str)):=by unfold hotT; rw [et]
   simp_all only [e2,ix]
   have ep:endP (srtK (nU d)) hot (i+1)=if hotT t=hot then some t.2.1 else endP (srtK (nU d)) hot i:=by
    show (match (srtK (nU d))[i]? with|some t=>_|none=>_)=_
    rw [hti]
   refine ite2 (fun h=>?_) (fun h=>?_)
   ·exact ⟨⟨_,_,_,by rw [ep,if_pos (by rw [eh]; exact of_decide_eq_true h)]; rfl⟩,rfl⟩
   ·exact ⟨⟨_,_,_,by rw [ep,if_neg (by rw [eh]; exact fun z=>h (decide_eq_true z))]⟩,rfl⟩
  ·rintro σ H' ⟨⟨t1,t2,t3,rfl⟩,rfl⟩
   simp_all only []
   have:=q _ s1 tb1
   unfold endS at this
   rw [List.length_map,hlen]
   exact this
structure EmpInv (H:Hp) (p:Addr) (rows:List (List Tx)) (i:Nat) (τ:L2.St) (ys:List V) (H':Hp):Prop where
 ex:∃ t,τ=[t,some (V.ref p)]
 ys:ys=(emp rows i).map iv
 same:H'=H
 le:i≤16
def spEmpties (A:ClsA):Sp:=fun vs H Q _=>∃ (p wl sl:Addr) (cells:List Addr) (m:Int) (d:DM),vs=[.ref p]∧DiskAt A H p wl sl cells m d∧d.rows.length≤16 ∧
 ∀ l H',New H l (.lst ((emp d.rows d.rows.length).map iv)) H'→l≠sysModules→Q (.ref l) H'
theorem sc_empties:FnScope ["disk"] ["disk"] (defScope s_empties):=⟨rfl,rfl,rfl,by decide +kernel,rfl,by decide +kernel,by decide +kernel⟩
theorem lc_empties_0:lcStat { kind:=.function,names:=[(Str.ofString ".0",.local),(Str.ofString "stretch",.local),(Str.ofString "disk",.free)],isGenerator:=false,isCoroutine:=false,more:=[] } (defScope s_empties).names ["disk"] ["stretch","disk"] [none,some 0]=true:=by decide +kernel
theorem lcn_empties_0:(["stretch","disk"]:List Str).Nodup:=by decide +kernel
theorem ok_empties {f:Addr} {fd:FuncData} (F:Fun K "empties" "empties" s_empties f fd) (T:Txt w K mg A) (M_Disk_stretches:GM P w K mg base true 1 A.Disk "stretches" ["self"] (spRd A fun _ d=>.int d.rows.length)) (M_Disk_next_place:GM P w K mg base true 1 A.Disk "next_place" ["self","stretch"] (spNext A)):FnOk P w K mg base CX0 true 2 f fd ["disk"] (spEmpties A):=by
 refine F.ok sc_empties (fun vs H Q E h=>?_) (fun cdv Ar outer s H vs Q E hr h=>?_)
 ·obtain ⟨p,wl,sl,cells,m,d,rfl,_⟩:=h; rfl
 ·obtain ⟨p,wl,sl,cells,m,d,rfl,D,hl,q⟩:=h
  have hu:_<cLine:=Nat.lt_of_succ_lt (hu_of hr)
  refine ⟨_,(W.h (w_pss_one (w_ps_ret (w_pe_lc (fun _=>rfl) (LcOk.of lc_empties_0) (w_pi_range1p rfl T.n_range (w_pa_p (w_pe_m0 (w_pv 0) T.cl_Disk M_Disk_stretches hr) w_pa_nil)) (fun _ _ _ _ _=>(w_pg_name (i:=0) lcn_empties_0 rfl (Or.inl rfl))) (fun _ _ _ _ _=>(w_pts_one (w_pt_cmpR (op_eqU hu) (w_pe_m (w_pv 1) T.cl_Disk M_Disk_next_place hr (w_pa_p (w_pv 0) w_pa_nil)) w_pe_int (nomark _)))) (fun _ _ _ _ _=>(w_pv 0)))))),?_⟩
  obtain ⟨dx,h1⟩:=D.ob
  simp_all only [h1,fl_stretches]
  refine ⟨p,wl,sl,cells,m,d,rfl,D,?_⟩
  simp_all only []
  have er:((d.rows.length:Nat):Int).toNat=d.rows.length:=by omega
  rw [er]
  refine ⟨by omega,by omega,CompJ.rngS (EmpInv H p d.rows) (fun i τ ys H' I=>?_) ⟨⟨_,rfl⟩,rfl,rfl,by omega⟩ ?_ ?_⟩
  ·rw [I.ys,List.length_map]
   exact big5' (by have:=emp_len d.rows i; have:=I.le; omega)
  ·intro N i τ ys H' hi I hN
   obtain ⟨t,rfl⟩:=I.ex
   have e:=I.same
   subst e
   have ej:(0+(i:Int))=((i:Nat):Int):=by omega
   simp_all only [h1,fl_next_place,ej]
   refine ⟨p,wl,sl,cells,m,d,i,rfl,D,hi,?_⟩
   simp_all only []
   have ee:emp d.rows (i+1)=emp d.rows i++if (d.rows.getD i []).length=0 then [i] else []:=rfl
   by_cases h0:(d.rows.getD i []).length=0
   ·rw [decide_eq_true (by omega)]
    simp_all only []
    exact hN _ _ _ ⟨⟨_,rfl⟩,by rw [I.ys,ee,if_pos h0,List.map_append]; rfl,rfl,by omega⟩
   ·rw [decide_eq_false (by omega)]
    simp_all only []
    exact hN _ _ _ ⟨⟨_,rfl⟩,by rw [I.ys,ee,if_neg h0,List.append_nil],rfl,by omega⟩
  ·intro τ ys H' I D2 H2 n2 ns
   have e:=I.same
   subst e
   rw [I.ys] at n2
   exact q D2 H2 n2 ns
def spFreeIn (A:ClsA):Sp:=fun vs H Q _=>∃ (p wl sl:Addr) (cells:List Addr) (m:Int) (d:DM) (e:Option Nat),vs=[.ref p,ov e]∧DiskAt A H p wl sl cells m d∧(∀ k,e=some k→k<d.rows.length)∧Q (.int (freeI d m e)) H
theorem sc_free_in:FnScope ["disk","end"] ["disk","end"] (defScope s_free_in):=⟨rfl,rfl,rfl,by decide +kernel,rfl,by decide +kernel,by decide +kernel⟩
theorem ok_free_in {f:Addr} {fd:FuncData} (F:Fun K "free_in" "free_in" s_free_in f fd) (T:Txt w K mg A) (M_Disk_places:GM P w K mg base true 1 A.Disk "places" ["self"] (spRd A fun m _=>.int m)) (M_Disk_next_place:GM P w K mg base true 1 A.Disk "next_place" ["self","stretch"] (spNext A)):FnOk P w K mg base CX0 true 2 f fd ["disk","end"] (spFreeIn A):=by
 refine F.ok sc_free_in (fun vs H Q E h=>?_) (fun cdv Ar outer s H vs Q E hr h=>?_)
 ·obtain ⟨p,wl,sl,cells,m,d,e,rfl,_⟩:=h; rfl
 ·obtain ⟨p,wl,sl,cells,m,d,e,rfl,D,he,q⟩:=h
  refine ⟨_,(W.h (w_pss_one (w_ps_ret (w_pe_ifExp (w_pt_cmpR op_isU (w_pv 1) w_pe_non (nomark _)) w_pe_int (w_pe_op op_sub (w_pe_m0 (w_pv 0) T.cl_Disk M_Disk_places hr) (w_pe_m (w_pv 0) T.cl_Disk M_Disk_next_place hr (w_pa_p (w_pv 1) w_pa_nil))))))),?_⟩
  obtain ⟨dx,h1⟩:=D.ob
  cases e with
  | none =>
   show _
   unfold ov
   simp_all only []
   exact q
  | some k =>
   unfold ov
   simp_all only [h1,fl_places,fl_next_place]
   refine ⟨p,wl,sl,cells,m,d,rfl,D,?_⟩
   simp_all only [h1,fl_places,fl_next_place]
   refine ⟨p,wl,sl,cells,m,d,k,rfl,D,he k rfl,?_⟩
   simp_all only []
   exact q
def spNS (A:ClsA):Sp:=fun vs H Q E=>∃ (p wl sl:Addr) (cells:List Addr) (m:Int) (d:DM) (hot:Bool),vs=[.ref p,.bl hot]∧DiskAt A H p wl sl cells m d∧TxOk d∧((nU d).map keyT).Nodup∧(nU d).length<64∧TB A H ∧
 ∀ H',SameT H H'→TB A H'→(∀ k,nextS d m hot=some k→Q (.int k) H')∧(nextS d m hot=none→E (.ref A.NoRoom) none H')
theorem sc_next_stretch:FnScope ["disk","is_hot","end","unwritten"] ["disk","is_hot"] (defScope s_next_stretch):=⟨rfl,rfl,rfl,by decide +kernel,rfl,by decide +kernel,by decide +kernel⟩
theorem ok_next_stretch {f:Addr} {fd:FuncData} (F:Fun K "next_stretch" "next_stretch" s_next_stretch f fd) (T:Txt w K mg A) (G_end_of:GF P w K mg base true 10 "end_of" ["disk","is_hot"] (spEnd A)) (G_free_in:GF P w K mg base true 2 "free_in" ["disk","end"] (spFreeIn A)) (G_empties:GF P w K mg base true 2 "empties" ["disk"] (spEmpties A)):FnOk P w K mg base (CXW P w) true 11 f fd ["disk","is_hot"] (spNS A):=by
 refine F.okW sc_next_stretch (fun vs H Q E h=>?_) (fun cdv Ar outer s H vs Q E hr h=>?_)
 ·obtain ⟨p,wl,sl,cells,m,d,hot,rfl,_⟩:=h; rfl
 ·obtain ⟨p,wl,sl,cells,m,d,hot,rfl,D,tx,nd,h64,tb,q⟩:=h
  have hu:_<cLine:=Nat.lt_of_succ_lt (hu_of hr)
  have Th:=throws_def (cm:=true) (P:=P) (w:=w) (K:=K) (mg:=mg) (base:=base) (N:=["disk","is_hot","end","unwritten"]) (qual:="next_stretch") (scope:=defScope s_next_stretch) (f:=f) (cd:=cdv) (A:=Ar) (outer:=outer) (s:=s) (H:=H) (E:=E)
  refine ⟨_,(W.h (w_pss_cons (w_ps_set (i:=2) sc_next_stretch.nd rfl (Or.inl rfl) (w_pe_g G_end_of hr rfl (w_pa_p (w_pv 0) (w_pa_p (w_pv 1) w_pa_nil))))
   (w_pss_cons (w_ps_if (w_pt_cmpR op_gt (w_pe_g G_free_in hr rfl (w_pa_p (w_pv 0) (w_pa_p (w_pv 2) w_pa_nil))) w_pe_int (nomark _))
   (w_pss_one (w_ps_ret (w_pv 2)))
   w_pss_nil)
   (w_pss_cons (w_ps_set (i:=3) sc_next_stretch.nd rfl (Or.inl rfl) (w_pe_g G_empties hr rfl (w_pa_p (w_pv 0) w_pa_nil)))
   (w_pss_cons (w_ps_if (w_pt_not (w_pt_tru (w_pv 3)))
   (w_pss_one (w_ps_raisep rfl Th T.ek_NoRoom rfl T.mg_NoRoom (w_pa_p w_pe_str w_pa_nil)))
   w_pss_nil)
   (w_pss_one (w_ps_ret (w_pe_ix ix_U (w_pv 3) w_pe_int (fun _ _=>rfl))))))))),?_⟩
  simp_all only []
  refine ⟨p,wl,sl,cells,m,d,hot,rfl,D,tx,nd,h64,tb,fun H1 s1 tb1=>?_⟩
  have D1:=D.sameT s1
  simp_all only []
  refine ⟨p,wl,sl,cells,m,d,endS d hot,rfl,D1,fun k hk=>endS_lt hk,?_⟩
  simp_all only []
  refine ite2 (fun h=>?_) (fun h=>?_)
  ·have h':freeI d m (endS d hot)>0:=of_decide_eq_true h
   have en:nextS d m hot=endS d hot:=by unfold nextS; rw [if_pos h']
   cases e:endS d hot with
   | none=>rw [e] at h'; exact absurd h' (by show ¬ (0:Int)>0; omega)
   | some k=>exact (q H1 s1 tb1).1 k (by rw [en,e])
  ·have h' : ¬ freeI d m (endS d hot)>0:=fun z=>h (decide_eq_true z)
   have en:nextS d m hot=(emp d.rows d.rows.length).head?:=by unfold nextS; rw [if_neg h']
   refine ⟨p,wl,sl,cells,m,d,rfl,D1,tx.len,fun l H2 n2 _=>?_⟩
   have s2:SameT H H2:=s1.trans (.of n2.same)
   have tb2:=tb1.same n2.same
   refine uTru_r n2.at_ ?_
   cases e:emp d.rows d.rows.length with
   | nil =>
    rw [e] at en
    show if (!(!true))=true then _ else _
    simp_all only []
    exact ⟨by decide,(q H2 s2 tb2).2 en⟩
   | cons k ks =>
    rw [e] at en n2
    have ix:atI (iv k::ks.map iv) 0=some (.int k):=atI_nat (j:=0) (by simp [iv])
    have hat:=n2.at_
    rw [List.map_cons] at hat
    show if (!(!false))=true then _ else _
    simp_all only [hat,ix]
    exact (q H2 s2 tb2).1 k en
end
abbrev s__law_cell:Stmt:=top 58
abbrev s__law_pot:Stmt:=top 59
abbrev s__law_draw:Stmt:=top 60
abbrev s__law_drawn:Stmt:=top 61
def But (b:Addr) (H H':Hp):Prop:=∀ a o,a≠b→H a=some o→H' a=some o
theorem But.of {b:Addr} {H H':Hp} (s:Same H H'):But b H H':=fun a o _ e=>s a o e
theorem But.trans {b:Addr} {H H1 H2:Hp} (x:But b H H1) (y:But b H1 H2):But b H H2:=fun a o n e=>y a o n (x a o n e)
theorem atI_mem {α:Type} {xs:List α} {i:Int} (h0:0≤i) (h1:i<xs.length):∃ v,atI xs i=some v∧v∈xs:=by
 have hn:i.toNat<xs.length:=by omega
 have z:atI xs ((i.toNat:Nat):Int)=some xs[i.toNat]:=atI_nat (List.getElem?_eq_getElem hn)
 rw [show ((i.toNat:Nat):Int)=i by omega] at z
 exact ⟨_,z,List.getElem_mem hn⟩
section
variable {P:Program} {w:World} {K:PySem.W.Frag} {mg:Str→Option Value} {base:Heap} {A:ClsA}
def atD (ns:List Int) (k:Int):Int:=if k<ns.length then ns.getD k.toNat 0 else 0
def spAt (K:PySem.W.Frag):Sp:=fun vs H Q _=>∃ (a:Addr) (ns:List Int) (k:Int),vs=[.ref a,.int k]∧SqL K H a (ns.map V.int)∧0≤k∧Q (.int (atD ns k)) H
theorem sc__law_cell:FnScope ["_law_script","_law_k"] ["_law_script","_law_k"] (defScope s__law_cell):=⟨rfl,rfl,rfl,by decide +kernel,rfl,by decide +kernel,by decide +kernel⟩
theorem ok__law_cell {f:Addr} {fd:FuncData} (F:Fun K "_law_cell" "_law_cell" s__law_cell f fd) (T:Txt w K mg A):FnOk P w K mg base CX0 true 1 f fd ["_law_script","_law_k"] (spAt K):=by
 refine F.ok sc__law_cell (fun vs H Q E h=>?_) (fun cdv Ar outer s H vs Q E hr h=>?_)
 ·obtain ⟨a,ns,k,rfl,_⟩:=h; rfl
 ·obtain ⟨a,ns,k,rfl,hS,hk,q⟩:=h
  refine ⟨_,pss_cons (ps_if (pt_cmpR op_lt (pv 1) (pe_callB call_len_seq rfl T.n_len PySem.boot_len (pa_cons (pv 0) pa_nil)) (nomark _))
   (pss_one (ps_ret (pe_ix ix_list (pv 0) (pv 1) (fun _ _=>rfl)))) pss_nil) (pss_one (ps_ret pe_int)),?_⟩
  simp_all only []
  refine ⟨_,.inl hS,?_⟩
  rw [List.length_map]
  refine ite2 (fun h=>?_) (fun h=>?_)
  ·have h':k<(ns.length:Int):=of_decide_eq_true h
   have hn:k.toNat<ns.length:=by omega
   have e:atD ns k=ns[k.toNat]:=by unfold atD; rw [if_pos h',List.getD_eq_getElem?_getD,List.getElem?_eq_getElem hn]; rfl
   refine ⟨a,ns.map V.int,k,.int (ns[k.toNat]),rfl,rfl,hS,?_,by rw [← e]; exact q⟩
   have z:atI (ns.map V.int) ((k.toNat:Nat):Int)=some (.int (ns[k.toNat])):=atI_nat (by rw [List.getElem?_map,List.getElem?_eq_getElem hn]; rfl)
   have kz:((k.toNat:Nat):Int)=k:=by omega
   rw [kz] at z; exact z
  ·have h' : ¬ k<(ns.length:Int):=fun z=>h (decide_eq_true z)
   have e:atD ns k=0:=by unfold atD; rw [if_neg h']
   rw [← e]; exact q
theorem at2_0 {a b:V}:atI [a,b] 0=some a:=rfl
theorem at2_1 {a b:V}:atI [a,b] 1=some b:=rfl
theorem ix2_0:ixN 2 0=some 0:=rfl
theorem ix2_1:ixN 2 1=some 1:=rfl
structure Pot (H:Hp) (a:Addr):Prop where
 ex:∃ x y:Int,H a=some (.lst [.int x,.int y])∧0≤x∧0≤y∧y<2147483647
theorem Pot.same {H H':Hp} {a:Addr} (h:Pot H a) (s:Same H H'):Pot H' a:=let ⟨x,y,e,r⟩:=h.ex; ⟨⟨x,y,s _ _ e,r⟩⟩
theorem Pot.ne {H:Hp} {a l:Addr} (h:Pot H a) (n:H l=none):l≠a:=fun z=>by
 obtain ⟨x,y,e,_⟩:=h.ex
 rw [z,e] at n; cases n
def spPot (K:PySem.W.Frag):Sp:=fun vs H Q _=>∃ (a:Addr) (ns:List Int) (k:Int),vs=[.ref a,.int k]∧SqL K H a (ns.map V.int)∧0≤k∧∀ l H',Same H H'→H l=none→Pot H' l→Q (.ref l) H'
theorem sc__law_pot:FnScope ["_law_script","_law_k","_law_cell_here"] ["_law_script","_law_k"] (defScope s__law_pot):=⟨rfl,rfl,rfl,by decide +kernel,rfl,by decide +kernel,by decide +kernel⟩
theorem ok__law_pot {f:Addr} {fd:FuncData} (F:Fun K "_law_pot" "_law_pot" s__law_pot f fd) (T:Txt w K mg A) (G__law_cell:GF P w K mg base true 1 "_law_cell" ["_law_script","_law_k"] (spAt K)):FnOk P w K mg base CX0 true 2 f fd ["_law_script","_law_k"] (spPot K):=by
 refine F.ok sc__law_pot (fun vs H Q E h=>?_) (fun cdv Ar outer s H vs Q E hr h=>?_)
 ·obtain ⟨a,ns,k,rfl,_⟩:=h; rfl
 ·obtain ⟨a,ns,k,rfl,hS,hk,q⟩:=h
  refine ⟨_,(W.h (w_pss_cons (w_ps_set (i:=2) sc__law_pot.nd rfl (Or.inl rfl) (w_pe_g G__law_cell hr rfl (w_pa_p (w_pv 0) (w_pa_p (w_pv 1) w_pa_nil))))
   (w_pss_one (w_ps_ret (w_pe_lstA (w_pa_p (w_pe_callBp (call_maxU rfl) rfl T.n_max boot_max (w_pa_p w_pe_int (w_pa_p (w_pe_op op_sub (w_pv 2) (w_pe_op op_pow w_pe_int w_pe_int)) w_pa_nil))) (w_pa_p (w_pe_op op_mod (w_pe_op op_addU (w_pe_op op_mod (w_pe_callBp call_absU rfl T.n_abs PyProof.Rows.boot_abs (w_pa_p (w_pv 2) w_pa_nil)) w_pe_int) (w_pe_op op_mulS w_pe_int (w_pe_op op_addU (w_pv 1) w_pe_int))) w_pe_int) w_pa_nil))))))),?_⟩
  simp_all only []
  refine ⟨a,ns,k,rfl,hS,hk,?_⟩
  simp_all only []
  refine ⟨⟨by decide,by decide,by decide⟩,by decide,.inl ⟨by decide,by decide⟩,by decide,by decide,fun l H1 n1 _=>q l H1 n1.same n1.no ⟨⟨_,_,n1.at_,?_,?_,?_⟩⟩⟩
  ·split <;> omega
  ·omega
  ·omega
def spDraw:Sp:=fun vs H Q _=>∃ (a:Addr) (m:Int),vs=[.ref a,.int m]∧Pot H a∧0<m∧m<2 ^ 64∧∀ (r:Int) H',But a H H'→Pot H' a→0≤r→r<m→Q (.int r) H'
theorem sc__law_draw:FnScope ["_law_pot_here","_law_many","_law_digit"] ["_law_pot_here","_law_many"] (defScope s__law_draw):=⟨rfl,rfl,rfl,by decide +kernel,rfl,by decide +kernel,by decide +kernel⟩
theorem ok__law_draw {f:Addr} {fd:FuncData} (F:Fun K "_law_draw" "_law_draw" s__law_draw f fd) (T:Txt w K mg A):FnOk P w K mg base CX0 true 1 f fd ["_law_pot_here","_law_many"] spDraw:=by
 refine F.ok sc__law_draw (fun vs H Q E h=>?_) (fun cdv Ar outer s H vs Q E hr h=>?_)
 ·obtain ⟨a,m,rfl,_⟩:=h; rfl
 ·obtain ⟨a,m,rfl,⟨x,y,e,x0,y0,y1⟩,m0,m1,q⟩:=h
  refine ⟨_,(W.h (w_pss_cons (w_ps_if (w_pt_cmpR op_gt (w_pe_ix ix_U (w_pv 0) w_pe_int (fun _ _=>rfl)) w_pe_int (nomark _))
   (w_pss_cons (w_ps_asg (w_pe_callBp call_divmodU rfl T.n_divmod boot_divmod (w_pa_p (w_pe_ix ix_U (w_pv 0) w_pe_int (fun _ _=>rfl)) (w_pa_p (w_pv 1) w_pa_nil))) (w_pg_tupA (n:=2) (w_pgs_cons (w_pg_sub (w_pv 0) w_pe_int set_list) (w_pgs_cons (w_pg_name (i:=2) sc__law_draw.nd rfl (Or.inl rfl)) w_pgs_nil))))
   (w_pss_one (w_ps_ret (w_pv 2))))
   w_pss_nil)
   (w_pss_cons (w_ps_asg (w_pe_op op_mod (w_pe_op op_addU (w_pe_op op_mulS (w_pe_ix ix_U (w_pv 0) w_pe_int (fun _ _=>rfl)) w_pe_int) w_pe_int) w_pe_int) (w_pg_sub (w_pv 0) w_pe_int set_list))
   (w_pss_one (w_ps_ret (w_pe_op op_mod (w_pe_op op_fdiv (w_pe_op op_mod (w_pe_op op_mulS (w_pe_ix ix_U (w_pv 0) w_pe_int (fun _ _=>rfl)) (w_pe_ix ix_U (w_pv 0) w_pe_int (fun _ _=>rfl))) w_pe_int) w_pe_int) (w_pv 1))))))),?_⟩
  simp_all only [e,at2_0,at2_1]
  refine ite2 (fun h=>?_) (fun h=>?_)
  ·refine ⟨m0,m1,fun p H2 n2=>⟨p,_,rfl,SqT.of n2.at_,rfl,?_⟩⟩
   have e2:=n2.same _ _ e
   simp_all only [e2,ix2_0,at2_0]
   refine q _ _ (fun c o nc ec=>by rw [upd_ne nc]; exact n2.same _ _ ec) ⟨⟨_,_,upd_same,Int.ediv_nonneg x0 (by omega),y0,y1⟩⟩ (Int.emod_nonneg _ (by omega)) (Int.emod_lt_of_pos _ m0)
  ·simp_all only [ix2_1,upd_same,at2_1]
   refine ⟨.inr ⟨by decide,by decide⟩,by decide,.inl ⟨by omega,by omega⟩,by decide,⟨by decide,by decide⟩,m0,q _ _ (fun c o nc ec=>by rw [upd_ne nc]; exact ec) ⟨⟨_,_,upd_same,x0,by omega,by omega⟩⟩ (Int.emod_nonneg _ (by omega)) (Int.emod_lt_of_pos _ m0)⟩
def spDrawn:Sp:=fun vs H Q _=>∃ (a:Addr),Pot H a∧((∃ (l:Addr) (xs:List V),vs=[.ref a,.ref l]∧l≠a∧(H l=some (.lst xs)∨H l=some (.tup xs))∧0<xs.length∧xs.length≤1000∧∀ v H',v∈xs→But a H H'→Pot H' a→Q v H') ∨
 ∃ z:Str,vs=[.ref a,.str z]∧0<z.length∧z.length≤1000∧∀ c H',c∈sg z→But a H H'→Pot H' a→Q (.str (c1 c)) H')
theorem sc__law_drawn:FnScope ["_law_pot_here","_law_some"] ["_law_pot_here","_law_some"] (defScope s__law_drawn):=⟨rfl,rfl,rfl,by decide +kernel,rfl,by decide +kernel,by decide +kernel⟩
theorem ok__law_drawn {f:Addr} {fd:FuncData} (F:Fun K "_law_drawn" "_law_drawn" s__law_drawn f fd) (T:Txt w K mg A) (G__law_draw:GF P w K mg base true 1 "_law_draw" ["_law_pot_here","_law_many"] spDraw):FnOk P w K mg base CX0 true 2 f fd ["_law_pot_here","_law_some"] spDrawn:=by
 refine F.ok sc__law_drawn (fun vs H Q E h=>?_) (fun cdv Ar outer s H vs Q E hr h=>?_)
 ·obtain ⟨a,_,⟨l,xs,rfl,_⟩|⟨z,rfl,_⟩⟩:=h <;> rfl
 ·refine ⟨_,(W.h (w_pss_one (w_ps_ret (w_pe_ix ix_U (w_pv 1) (w_pe_g G__law_draw hr rfl (w_pa_p (w_pv 0) (w_pa_p (w_pe_callBp call_lenU rfl T.n_len PySem.boot_len (w_pa_p (w_pv 1) w_pa_nil)) w_pa_nil))) (fun _ _=>rfl))))),?_⟩
  obtain ⟨a,hP,⟨l,xs,rfl,ne,hl,x0,x1,q⟩|⟨z,rfl,z0,z1,q⟩⟩:=h
  ·simp_all only []
   refine ⟨xs,hl,a,_,rfl,hP,by omega,Int.lt_of_le_of_lt (show (xs.length:Int)≤1000 by omega) (by decide),fun r H' bt hP' r0 r1=>?_⟩
   obtain ⟨v,ev,hv⟩:=atI_mem (xs:=xs) r0 r1
   rw [uIx_r]
   exact ⟨xs,hl.imp (bt _ _ ne) (bt _ _ ne),v,ev,q v H' hv bt hP'⟩
  ·simp_all only []
   refine ⟨big5 (by omega),a,_,rfl,hP,by omega,Int.lt_of_le_of_lt (show (z.length:Int)≤1000 by omega) (by decide),fun r H' bt hP' r0 r1=>?_⟩
   obtain ⟨c,ec,hc⟩:=atI_mem (xs:=sg z) r0 (by rw [sg_len]; exact r1)
   rw [uIx_s]
   exact ⟨big5 (by omega),c,ec,q c H' hc bt hP'⟩
end
abbrev s__law_due:Stmt:=top 64
abbrev s__law_row:Stmt:=top 66
abbrev OR:=Option (List V)
def CellR (H:Hp) (v:V) (o:OR):Prop:=match o with|none=>v = .non|some xs=>∃ r,v = .ref r∧H r=some (.tup xs)
structure ShelfAt (H:Hp) (sh:Addr) (shc:List Addr) (rs:List (List OR)):Prop where
 w:H sh=some (.lst (shc.map V.ref))
 len:shc.length=rs.length
 at_:∀ i c,shc[i]?=some c→∃ vs,H c=some (.lst vs)∧Paired (CellR H) vs (rs.getD i [])
 nd:(sh::shc).Nodup
theorem CellR.keep {H H':Hp} {v:V} {o:OR} (h:CellR H v o) (k:∀ r xs,H r=some (.tup xs)→H' r=some (.tup xs)):CellR H' v o:=by
 cases o with
 | none=>exact h
 | some xs=>obtain ⟨r,e,h⟩:=h; exact ⟨r,e,k _ _ h⟩
theorem ShelfAt.keep {H H':Hp} {sh:Addr} {shc:List Addr} {rs:List (List OR)} (h:ShelfAt H sh shc rs) (k1:∀ r xs,H r=some (.tup xs)→H' r=some (.tup xs)) (k2:∀ b xs,b=sh∨b∈shc→H b=some (.lst xs)→H' b=some (.lst xs)):ShelfAt H' sh shc rs :=
 ⟨k2 _ _ (.inl rfl) h.w,h.len,fun i c hc=>let ⟨vs,e,p⟩:=h.at_ i c hc; ⟨vs,k2 _ _ (.inr (List.mem_of_getElem? hc)) e,Paired.mapP p fun v o r=>r.keep k1⟩,h.nd⟩
theorem ShelfAt.sameT {H H':Hp} {sh:Addr} {shc:List Addr} {rs:List (List OR)} (h:ShelfAt H sh shc rs) (s:SameT H H'):ShelfAt H' sh shc rs:=h.keep (fun _ _ e=>s.tup e) fun _ _ _ e=>s.list e
theorem ShelfAt.same {H H':Hp} {sh:Addr} {shc:List Addr} {rs:List (List OR)} (h:ShelfAt H sh shc rs) (s:Same H H'):ShelfAt H' sh shc rs:=h.sameT (.of s)
theorem ShelfAt.cell {H:Hp} {sh:Addr} {shc:List Addr} {rs:List (List OR)} (h:ShelfAt H sh shc rs) {k:Nat} (hk:k<rs.length):∃ c vs,shc[k]?=some c∧atI (shc.map V.ref) (k:Int)=some (.ref c)∧H c=some (.lst vs)∧Paired (CellR H) vs (rs.getD k [])∧vs.length=(rs.getD k []).length:=by
 have hk':k<shc.length:=by rw [h.len]; exact hk
 obtain ⟨vs,e,p⟩:=h.at_ k _ (List.getElem?_eq_getElem hk')
 exact ⟨_,vs,List.getElem?_eq_getElem hk',atI_nat (by rw [List.getElem?_map,List.getElem?_eq_getElem hk']; rfl),e,p,paired_len p⟩
def empO (rs:List (List OR)):Nat→List Nat
 | 0=>[]
 | i+1=>empO rs i++if (rs.getD i []).length=0 then [i] else []
theorem empO_len (rows:List (List OR)):∀ i,(empO rows i).length≤i
 | 0=>Nat.le_refl _
 | i+1=>by show (empO rows i++_).length≤_; have:=empO_len rows i; rw [List.length_append]; split <;> simp <;> omega
def dueS (rs:List (List OR)) (m:Int) (e:Option Nat):Option Nat:=match e with
 | some k=>if ((rs.getD k []).length:Int)<m then some k else (empO rs rs.length).head?
 | none=>(empO rs rs.length).head?
section
variable {P:Program} {w:World} {K:PySem.W.Frag} {mg:Str→Option Value} {base:Heap} {A:ClsA}
structure DuInv (H:Hp) (shc:List Addr) (rs:List (List OR)) (i:Nat) (τ:L2.St) (ys:List V) (H':Hp):Prop where
 ex:∃ t1 t2,τ=[t1,t2]
 ys:ys=(empO rs i).map iv
 same:Same H H'
 le:i≤16
theorem due_comp {H:Hp} {sh:Addr} {shc:List Addr} {rs:List (List OR)} {Q':VK} (S:ShelfAt H sh shc rs) (hl:rs.length≤16) (q:∀ l H',Same H H'→H l=none→l≠sysModules→H' l=some (.lst ((empO rs rs.length).map iv))→Q' (.ref l) H') :
  CompJ (Ite K sh) (gTup K 2 (gCons (gName 0) (gCons (gName 1) gNil))) (tTest (tOp (rEqN false) (tVar 1) (tLstA tNil))) (tVar 0) [none,none] H Q':=by
 refine CompJ.enum (xs:=shc.map V.ref) (DuInv H shc rs) (fun i τ ys H' I=>?_) (fun i τ ys H' I=>SqL.of (I.same _ _ S.w)) ⟨⟨_,_,rfl⟩,rfl,Same.refl _,by omega⟩ ?_ ?_
 ·rw [I.ys,List.length_map]
  exact big5' (by have:=empO_len rs i; have:=I.le; omega)
 ·intro N i x p τ ys H' hx I hp hN
  obtain ⟨t1,t2,rfl⟩:=I.ex
  rw [List.getElem?_map] at hx
  obtain ⟨c,hc,rfl⟩:=Option.map_eq_some_iff.mp hx
  have hi:i<rs.length:=by rw [← S.len]; exact (List.getElem?_eq_some_iff.mp hc).1
  obtain ⟨vs,hv,pv⟩:=S.at_ i c hc
  have lv:=paired_len pv
  refine ⟨p,_,rfl,SqT.of upd_same,rfl,?_⟩
  have nw:New H' p (.tup [.int i,.ref c]) (upd H' p (.tup [.int i,.ref c])):=.mk' hp
  generalize upd H' p (.tup [.int i,.ref c])=H0 at nw ⊢
  simp_all only []
  refine ⟨Nat.zero_le _,fun pl H2 n2 _=>⟨_,n2.same _ _ (nw.same _ _ (I.same _ _ hv)),_,n2.at_,.inr rfl,?_⟩⟩
  have ee:empO rs (i+1)=empO rs i++if (rs.getD i []).length=0 then [i] else []:=rfl
  have sm:=(I.same.trans nw.same).trans n2.same
  by_cases h0:(rs.getD i []).length=0
  ·rw [decide_eq_true (by rw [lv]; exact h0)]
   simp_all only []
   exact hN _ _ _ ⟨⟨_,_,rfl⟩,by rw [I.ys,ee,if_pos h0,List.map_append]; rfl,sm,by omega⟩
  ·rw [decide_eq_false (by rw [lv]; exact h0)]
   simp_all only []
   exact hN _ _ _ ⟨⟨_,_,rfl⟩,by rw [I.ys,ee,if_neg h0,List.append_nil],sm,by omega⟩
 ·intro τ ys H' I D2 H2 n2 ns
  rw [List.length_map,S.len] at I
  rw [I.ys] at n2
  exact q D2 H2 (I.same.trans n2.same) (I.same.free n2.no) ns n2.at_
def eo (e0 e1:Option Nat) (hot:Bool):Option Nat:=if hot then e1 else e0
def spDue:Sp:=fun vs H Q _=>∃ (el sh:Addr) (shc:List Addr) (rs:List (List OR)) (m:Int) (e0 e1:Option Nat) (hot:Bool),vs=[.ref el,.ref sh,.int m,.bl hot]∧H el=some (.lst [ov e0,ov e1])∧ShelfAt H sh shc rs∧rs.length≤16∧(∀ k,eo e0 e1 hot=some k→k<rs.length) ∧
 ∀ H',Same H H'→Q (ov (dueS rs m (eo e0 e1 hot))) H'
theorem due_tail {rs:List (List OR)} {l:List Nat}:∃ v,atI (l.map iv++[V.non]) 0=some v∧v=ov l.head?:=by
 cases l with
 | nil=>exact ⟨.non,atI_nat (j:=0) (by simp),rfl⟩
 | cons k ks=>exact ⟨.int k,atI_nat (j:=0) (by simp [iv]),rfl⟩
theorem sc__law_due:FnScope ["_law_ends","_law_shelf","_law_places","_law_is_hot","_law_end"] ["_law_ends","_law_shelf","_law_places","_law_is_hot"] (defScope s__law_due):=⟨rfl,rfl,rfl,by decide +kernel,rfl,by decide +kernel,by decide +kernel⟩
theorem lc__law_due_0:lcStat { kind:=.function,names:=[(Str.ofString ".0",.local),(Str.ofString "_law_k",.local),(Str.ofString "_law_rows_here",.local)],isGenerator:=false,isCoroutine:=false,more:=[] } (defScope s__law_due).names ["_law_ends","_law_shelf","_law_places","_law_is_hot","_law_end"] ["_law_k","_law_rows_here"] [none,none]=true:=by decide +kernel
theorem lcn__law_due_0:(["_law_k","_law_rows_here"]:List Str).Nodup:=by decide +kernel
theorem ok__law_due {f:Addr} {fd:FuncData} (F:Fun K "_law_due" "_law_due" s__law_due f fd) (T:Txt w K mg A):FnOk P w K mg base CX0 true 1 f fd ["_law_ends","_law_shelf","_law_places","_law_is_hot"] spDue:=by
 refine F.ok sc__law_due (fun vs H Q E h=>?_) (fun cdv Ar outer s H vs Q E hr h=>?_)
 ·obtain ⟨el,sh,shc,rs,m,e0,e1,hot,rfl,_⟩:=h; rfl
 ·obtain ⟨el,sh,shc,rs,m,e0,e1,hot,rfl,hel,S,hl,hk,q⟩:=h
  have hu:_<cLine:=Nat.lt_of_succ_lt (hu_of hr)
  refine ⟨_,(W.h (w_pss_cons (w_ps_set (i:=4) sc__law_due.nd rfl (Or.inl rfl) (w_pe_ix ix_U (w_pv 0) (w_pe_callTyp call_intT rfl T.n_int boot_int (w_pa_p (w_pv 3) w_pa_nil)) (fun _ _=>rfl)))
   (w_pss_cons (w_ps_if (w_pt (w_pw_and (w_pt_cmpR op_isnU (w_pv 4) w_pe_non (nomark _)) (w_pw_and1 (w_pt_cmpR op_lt (w_pe_callBp call_lenU rfl T.n_len PySem.boot_len (w_pa_p (w_pe_ix ix_U (w_pv 1) (w_pv 4) (fun _ _=>rfl)) w_pa_nil)) (w_pv 2) (nomark _)))))
   (w_pss_one (w_ps_ret (w_pv 4)))
   w_pss_nil)
   (w_pss_one (w_ps_ret (w_pe_ix ix_U (w_pe_op op_addU (w_pe_lc (fun _=>rfl) (LcOk.of lc__law_due_0) (w_pi_enumL rfl T.n_enumerate (w_pa_p (w_pv 1) w_pa_nil)) (fun _ _ _ _ _=>(w_pg_tupL (n:=2) (w_pgs_cons (w_pg_name (i:=0) lcn__law_due_0 rfl (Or.inl rfl)) (w_pgs_cons (w_pg_name (i:=1) lcn__law_due_0 rfl (Or.inl rfl)) w_pgs_nil)))) (fun _ _ _ _ _=>(w_pts_one (w_pt_cmpR (op_eqN0 hu) (w_pv 1) (w_pe_lstA w_pa_nil) (nomark _)))) (fun _ _ _ _ _=>(w_pv 0))) (w_pe_lstA (w_pa_p w_pe_non w_pa_nil))) w_pe_int (fun _ _=>rfl))))))),?_⟩
  have hix:atI [ov e0,ov e1] (if hot=true then 1 else 0)=some (ov (eo e0 e1 hot)):=by cases hot <;> rfl
  have fin:dueS rs m (eo e0 e1 hot)=(empO rs rs.length).head?→∀ l H1,Same H H1→H1 l=some (.lst ((empO rs rs.length).map iv))→1≤sizeLine∧∀ (p:Addr) (H2:Hp),New H1 p (HO.lst [V.non]) H2→p≠sysModules→uAdd (.ref l) (V.ref p) H2 fun x H1=>uIx x (V.int 0) H1 Q:=fun hd l H1 s1 h1=>⟨by decide,fun p2 H2 n2 _=>by
   rw [uAdd_rr]
   refine ⟨_,_,n2.same _ _ h1,n2.at_,big5 (by have:=empO_len rs rs.length; simp; omega),fun p3 H3 n3=>?_⟩
   rw [uIx_r]
   obtain ⟨v,hv,ev⟩:=due_tail (rs:=rs) (l:=empO rs rs.length)
   refine ⟨_,.inl n3.at_,v,hv,?_⟩
   rw [ev,← hd]
   exact q H3 ((s1.trans n2.same).trans n3.same)⟩
  simp_all only [hel,hix]
  cases he:eo e0 e1 hot with
  | none =>
   have hd:dueS rs m (eo e0 e1 hot)=(empO rs rs.length).head?:=by rw [he]; rfl
   unfold ov
   simp_all only []
   exact ⟨⟨_,SqL.of S.w⟩,due_comp S hl fun l H' s' _ _ h'=>fin hd l H' s' h'⟩
  | some k =>
   obtain ⟨c,vs,hc,ha,hv,pv,lv⟩:=S.cell (hk k he)
   have hw:=S.w
   unfold ov
   simp_all only [hw,ha,hv]
   rw [lv]
   refine ite2 (fun h=>?_) (fun h=>?_)
   ·have:=q H (Same.refl _)
    have hd:dueS rs m (some k)=some k:=if_pos (of_decide_eq_true h)
    rw [he,hd] at this
    exact this
   ·have hd:dueS rs m (eo e0 e1 hot)=(empO rs rs.length).head?:=by
     rw [he]; unfold dueS
     exact if_neg fun z=>h (decide_eq_true z)
    exact ⟨⟨_,SqL.of S.w⟩,due_comp S hl fun l H' s' _ _ h'=>fin hd l H' s' h'⟩
inductive LRow (n:Int):Bool→List V→Prop
 | hold:LRow n true [.str "hold",.int n,.str "a"]
 | put:LRow n true [.str "put",.int n,.int n,.bl true,.str "carry",.int 3,.str "carry"]
 | cut:LRow n true [.str "cut",.int n,.str "a",.int 1]
 | carry (g:Int):0≤g→g<n→LRow n false [.str "carry",.int n,.int g,.str "w"]
def spRowL:Sp:=fun vs H Q _=>∃ (a:Addr) (n:Int) (hot:Bool),vs=[.ref a,.int n,.bl hot]∧Pot H a∧1≤n∧n<10 ^ 17∧∀ r xs H',But a H H'→Pot H' a→LRow n hot xs→H' r=some (.tup xs)→Q (.ref r) H'
theorem sc__law_row:FnScope ["_law_pot_here","_law_number","_law_is_hot","_law_some"] ["_law_pot_here","_law_number","_law_is_hot"] (defScope s__law_row):=⟨rfl,rfl,rfl,by decide +kernel,rfl,by decide +kernel,by decide +kernel⟩
theorem ok__law_row {f:Addr} {fd:FuncData} (F:Fun K "_law_row" "_law_row" s__law_row f fd) (T:Txt w K mg A) (G__law_draw:GF P w K mg base true 1 "_law_draw" ["_law_pot_here","_law_many"] spDraw) (G__law_drawn:GF P w K mg base true 2 "_law_drawn" ["_law_pot_here","_law_some"] spDrawn):FnOk P w K mg base CX0 true 3 f fd ["_law_pot_here","_law_number","_law_is_hot"] spRowL:=by
 refine F.ok sc__law_row (fun vs H Q E h=>?_) (fun cdv Ar outer s H vs Q E hr h=>?_)
 ·obtain ⟨a,n,hot,rfl,_⟩:=h; rfl
 ·obtain ⟨a,n,hot,rfl,hP,n1,n2,q⟩:=h
  refine ⟨_,(W.h (w_pss_cons (w_ps_if (w_pt_tru (w_pv 2))
   (w_pss_cons (w_ps_set (i:=3) sc__law_row.nd rfl (Or.inl rfl) (w_pe_lstA (w_pa_p (w_pe_tupA (w_pa_p w_pe_str (w_pa_p (w_pv 1) (w_pa_p w_pe_str w_pa_nil)))) (w_pa_p (w_pe_tupA (w_pa_p w_pe_str (w_pa_p (w_pv 1) (w_pa_p (w_pv 1) (w_pa_p w_pe_bl (w_pa_p w_pe_str (w_pa_p w_pe_int (w_pa_p w_pe_str w_pa_nil)))))))) (w_pa_p (w_pe_tupA (w_pa_p w_pe_str (w_pa_p (w_pv 1) (w_pa_p w_pe_str (w_pa_p w_pe_int w_pa_nil))))) w_pa_nil)))))
   (w_pss_one (w_ps_ret (w_pe_g G__law_drawn hr rfl (w_pa_p (w_pv 0) (w_pa_p (w_pv 3) w_pa_nil))))))
   w_pss_nil)
   (w_pss_one (w_ps_ret (w_pe_tupA (w_pa_p w_pe_str (w_pa_p (w_pv 1) (w_pa_p (w_pe_g G__law_draw hr rfl (w_pa_p (w_pv 0) (w_pa_p (w_pv 1) w_pa_nil))) (w_pa_p w_pe_str w_pa_nil))))))))),?_⟩
  simp_all only []
  cases hot with
  | true =>
   simp_all only []
   refine ⟨by decide,fun p1 H1 m1=>⟨by decide,fun p2 H2 m2=>⟨by decide,fun p3 H3 m3=>⟨by decide,fun l H4 m4 _=>?_⟩⟩⟩⟩
   have sm:Same H H4:=((m1.same.trans m2.same).trans m3.same).trans m4.same
   refine ⟨a,hP.same sm,.inl ⟨l,_,rfl,(((hP.same m1.same).same m2.same).same m3.same).ne m4.no,.inl m4.at_,by simp,by simp,fun v H5 hv b5 hP5=>?_⟩⟩
   have ne:∀ {b:Addr} {xs:List V},H4 b=some (.tup xs)→b≠a:=fun {b xs} e z=>by
    obtain ⟨x,y,ea,_⟩:=(hP.same sm).ex
    rw [z,ea] at e; cases e
   have e1:=m4.same _ _ (m3.same _ _ (m2.same _ _ m1.at_))
   have e2:=m4.same _ _ (m3.same _ _ m2.at_)
   have e3:=m4.same _ _ m3.at_
   have bA:=(But.of sm).trans b5
   simp only [List.mem_cons,List.not_mem_nil,or_false] at hv
   rcases hv with rfl|rfl|rfl
   ·exact q _ _ H5 bA hP5 .hold (b5 _ _ (ne e1) e1)
   ·exact q _ _ H5 bA hP5 .put (b5 _ _ (ne e2) e2)
   ·exact q _ _ H5 bA hP5 .cut (b5 _ _ (ne e3) e3)
  | false =>
   simp_all only []
   refine ⟨a,n,rfl,hP,by omega,Int.lt_of_lt_of_le n2 (by decide),fun g H1 b1 hP1 g0 g1=>?_⟩
   simp_all only []
   refine ⟨by decide,fun p2 H2 m2=>q _ _ H2 (b1.trans (But.of m2.same)) (hP1.same m2.same) (.carry g g0 g1) m2.at_⟩
end
abbrev s__law_asked:Stmt:=top 63
def rO (l:List OR) (k:Nat):Nat→List Tri
 | 0=>[]
 | j+1=>rO l k j++one (l.getD j none) k j
def wO (rs:List (List OR)):Nat→List Tri
 | 0=>[]
 | i+1=>wO rs i++rO (rs.getD i []) i (rs.getD i []).length
theorem rIn_rO (l:List Tx) (k:Nat):∀ j,rIn l k j=rO (l.map rdT) k j
 | 0=>rfl
 | j+1=>by
  show rIn l k j++_=rO _ k j++_
  rw [rIn_rO l k j]
  have:(l.map rdT).getD j none=rdT (l.getD j none):=by
   rw [List.getD_eq_getElem?_getD,List.getElem?_map,List.getD_eq_getElem?_getD]
   cases l[j]? <;> rfl
  rw [this]
def rdR (rows:List (List Tx)):List (List OR):=rows.map fun r=>r.map rdT
theorem rdR_getD (rows:List (List Tx)) (i:Nat):(rdR rows).getD i []=(rows.getD i []).map rdT:=by
 unfold rdR
 rw [List.getD_eq_getElem?_getD,List.getElem?_map,List.getD_eq_getElem?_getD]
 cases rows[i]? <;> rfl
theorem wU_wO (rows:List (List Tx)):∀ i,wU rows i=wO (rdR rows) i
 | 0=>rfl
 | i+1=>by
  show wU rows i++_=wO _ i++_
  rw [wU_wO rows i,rdR_getD,List.length_map,rIn_rO]
theorem rO_len (l:List OR) (k:Nat):∀ j,(rO l k j).length≤j
 | 0=>Nat.le_refl _
 | j+1=>by show (rO l k j++_).length≤_; have:=rO_len l k j; rw [List.length_append]; have:=one_len (l.getD j none) k j; omega
theorem boot_ValueError:bootBuiltins "ValueError" = some (.type "ValueError"):=by decide +kernel
section
variable {P:Program} {w:World} {K:PySem.W.Frag} {mg:Str→Option Value} {base:Heap} {A:ClsA}
structure LRc (H:Hp) (k:Nat) (l:List OR) (j:Nat) (τ:L2.St) (ys:List V) (H':Hp):Prop where
 ex:∃ t1 t2,τ=[t1,t2,some (.int (k:Nat))]
 ys:∃ as:List Addr,ys=as.map V.ref∧TriL H' as (rO l k j)
 same:Same H H'
 le:j≤32
structure LRInv (H:Hp) (sh:Addr) (rs:List (List OR)) (i:Nat) (σ:L2.St) (H':Hp):Prop where
 ex:∃ fl t1 t2,σ=[some (V.ref sh),some (.ref fl),t1,t2]∧H fl=none∧∃ as:List Addr,H' fl=some (.lst (as.map V.ref))∧TriL H' as (wO rs i)
 same:Same H H'
 le:i≤16
def ShKeys (rs:List (List OR)):Prop:=∀ t∈wO rs rs.length,∃ y n ys,t.1 = .str y::.int n::ys
def spLRows (A:ClsA):Sp:=fun vs H Q _=>∃ (sh:Addr) (shc:List Addr) (rs:List (List OR)),vs=[.ref sh]∧ShelfAt H sh shc rs∧rs.length≤16∧(∀ i,(rs.getD i []).length≤32)∧ShKeys rs∧((wO rs rs.length).map keyT).Nodup∧(wO rs rs.length).length<64∧TB A H ∧
 ∀ l as H',SameT H H'→TB A H'→H l=none→l≠sysModules→H' l=some (.lst (as.map V.ref))→TriL H' as (srtK (wO rs rs.length))→Q (.ref l) H'
theorem sc__law_rows:FnScope ["_law_shelf","_law_found","_law_stretch","_law_rows_here"] ["_law_shelf"] (defScope s__law_rows):=⟨rfl,rfl,rfl,by decide +kernel,rfl,by decide +kernel,by decide +kernel⟩
theorem lc__law_rows_0:lcStat { kind:=.function,names:=[(Str.ofString ".0",.local),(Str.ofString "_law_place",.local),(Str.ofString "_law_row_here",.local),(Str.ofString "_law_stretch",.free)],isGenerator:=false,isCoroutine:=false,more:=[] } (defScope s__law_rows).names ["_law_shelf","_law_found","_law_stretch","_law_rows_here"] ["_law_place","_law_row_here","_law_stretch"] [none,none,some 2]=true:=by decide +kernel
theorem lcn__law_rows_0:(["_law_place","_law_row_here","_law_stretch"]:List Str).Nodup:=by decide +kernel
theorem ok__law_rows {f c:Addr} {fd:FuncData} (F:Fun K "_law_rows" "_law_rows" s__law_rows f fd) (hc:fd.code = .ref c) (LB:LamB mg base (.ref c) A.t__law_rows) (T:Txt w K mg A):FnOk P w K mg base CX0 true 1 f fd ["_law_shelf"] (spLRows A):=by
 refine F.okC hc sc__law_rows (fun vs H Q E h=>?_) (fun Ar outer s H vs Q E hr h=>?_)
 ·obtain ⟨sh,shc,rs,rfl,_⟩:=h; rfl
 ·obtain ⟨sh,shc,rs,rfl,S,hl,h32,hkk,nd,h64,tb,q⟩:=h
  have hu:_<cLine:=Nat.lt_of_succ_lt (hu_of hr)
  refine ⟨_,(W.h (w_pss_cons (w_ps_set (i:=1) sc__law_rows.nd rfl (Or.inl rfl) (w_pe_lstA w_pa_nil))
   (w_pss_cons (w_ps_for PassesOwn.never (fun _=>rfl) (w_pi_enumL rfl T.n_enumerate (w_pa_p (w_pv 0) w_pa_nil)) (w_pg_tupA (n:=2) (w_pgs_cons (w_pg_name (i:=2) sc__law_rows.nd rfl (Or.inr rfl)) (w_pgs_cons (w_pg_name (i:=3) sc__law_rows.nd rfl (Or.inl rfl)) w_pgs_nil)))
   (w_pss_one (w_ps_set (i:=1) sc__law_rows.nd rfl (Or.inl rfl) (w_pe_op op_addU (w_pv 1) (w_pe_lc (fun _=>rfl) (LcOk.of lc__law_rows_0) (w_pi_enumL rfl T.n_enumerate (w_pa_p (w_pv 3) w_pa_nil)) (fun _ _ _ _ _=>(w_pg_tupL (n:=2) (w_pgs_cons (w_pg_name (i:=0) lcn__law_rows_0 rfl (Or.inl rfl)) (w_pgs_cons (w_pg_name (i:=1) lcn__law_rows_0 rfl (Or.inl rfl)) w_pgs_nil)))) (fun _ _ _ _ _=>(w_pts_one (w_pt_cmpR op_isnU (w_pv 1) w_pe_non (nomark _)))) (fun _ _ _ _ _=>(w_pe_tupA (w_pa_p (w_pv 1) (w_pa_p (w_pv 2) (w_pa_p (w_pv 0) w_pa_nil))))))))))
   (w_pss_one (w_ps_ret (w_pe_sortK LB hr rfl T.n_sorted (w_pv 1) rfl rfl (fun _ _ _ _ _=>rfl) rfl rfl rfl rfl)))))),?_⟩
  simp_all only []
  refine ⟨by decide,fun fl H1 n1 _=>⟨⟨_,SqL.of (n1.same _ _ S.w)⟩,ForJ.enum (xs:=shc.map V.ref) (LRInv H sh rs) ⟨⟨fl,_,_,rfl,n1.no,[],n1.at_,.nil⟩,n1.same,by omega⟩ (fun i σ H' _ I=>SqL.of (I.same _ _ S.w)) ?_ ?_⟩⟩
  ·rintro i x p σ H2 hx ⟨⟨fl2,t1,t2,rfl,f0,as,hf,ht⟩,sm,le⟩ hp
   rw [List.getElem?_map] at hx
   obtain ⟨cc,hcc,rfl⟩:=Option.map_eq_some_iff.mp hx
   have hi:i<rs.length:=by rw [← S.len]; exact (List.getElem?_eq_some_iff.mp hcc).1
   refine ⟨p,_,rfl,SqT.of upd_same,rfl,?_⟩
   have nw:New H2 p (.tup [.int i,.ref cc]) (upd H2 p (.tup [.int i,.ref cc])):=.mk' hp
   generalize upd H2 p (.tup [.int i,.ref cc])=H3 at nw ⊢
   have S3:=S.same (sm.trans nw.same)
   obtain ⟨vs,hv,pv⟩:=S3.at_ i cc hcc
   have lv:=paired_len pv
   have lv32:=h32 i
   have hf3:=nw.same _ _ hf
   simp_all only [hf3]
   refine ⟨⟨_,SqL.of hv⟩,CompJ.enum (xs:=vs) (LRc H3 i (rs.getD i [])) (fun j τ ys H' I=>?_) (fun j τ ys H' I=>SqL.of (I.same _ _ hv)) ⟨⟨_,_,rfl⟩,⟨[],rfl,.nil⟩,Same.refl _,by omega⟩ ?_ ?_⟩
   ·obtain ⟨bs,e,tl⟩:=I.ys
    have:=paired_len tl
    have:=rO_len (rs.getD i []) i j
    have:=I.le
    rw [e,List.length_map]
    exact big5' (by omega)
   ·intro N j x p2 τ ys H4 hx I hp2 hN
    obtain ⟨t1,t2,rfl⟩:=I.ex
    obtain ⟨bs,e,tl⟩:=I.ys
    have hj:j<(rs.getD i []).length:=by rw [← lv]; exact (List.getElem?_eq_some_iff.mp hx).1
    have ho:(rs.getD i [])[j]?=some (rs.getD i [])[j]:=List.getElem?_eq_getElem hj
    have hr:=paired_at pv hx ho
    have eg:(rs.getD i []).getD j none=(rs.getD i [])[j]:=by rw [List.getD_eq_getElem?_getD,ho]; rfl
    generalize (rs.getD i [])[j]=o at hr eg
    refine ⟨p2,_,rfl,SqT.of upd_same,rfl,?_⟩
    have nw2:New H4 p2 (.tup [.int j,x]) (upd H4 p2 (.tup [.int j,x])):=.mk' hp2
    generalize upd H4 p2 (.tup [.int j,x])=H5 at nw2 ⊢
    have er:rO (rs.getD i []) i (j+1)=rO (rs.getD i []) i j++one o i j:=by
     show rO _ i j++_=_
     rw [eg]
    cases o with
    | none =>
     cases (show x=V.non from hr)
     simp_all only []
     exact hN _ _ _ ⟨⟨_,_,rfl⟩,⟨bs,e,by rw [er]; exact (List.append_nil (rO (rs.getD i []) i j)).symm ▸ tl.same nw2.same⟩,I.same.trans nw2.same,by omega⟩
    | some row =>
     obtain ⟨r,rfl,hrr⟩:=hr
     simp_all only []
     refine ⟨by decide,fun p6 H6 n6=>hN _ _ _ ⟨⟨_,_,rfl⟩,⟨bs++[p6],by rw [e]; simp,?_⟩,(I.same.trans nw2.same).trans n6.same,by omega⟩⟩
     rw [er]
     exact paired_app (tl.same (nw2.same.trans n6.same)) (.cons ⟨r,n6.at_,n6.same _ _ (nw2.same _ _ (I.same _ _ hrr))⟩ .nil)
   ·intro τ ys H4 I D H5 n5 _
    obtain ⟨bs,e,tl⟩:=I.ys
    rw [lv] at tl
    have l1:=paired_len tl
    have l2:=rO_len (rs.getD i []) i (rs.getD i []).length
    have l3:=paired_len ht
    have s5:Same H3 H5:=I.same.trans n5.same
    have l4:(wO rs i).length≤32*i:=by
     clear ht hf hf3 l3
     have:∀ n,n≤16→(wO rs n).length≤32*n:=fun n=>by
      induction n with
      | zero=>exact fun _=>Nat.le_refl _
      | succ n ih =>
       intro hn
       show (wO rs n++_).length≤_
       have:=ih (by omega)
       have:=rO_len (rs.getD n []) n (rs.getD n []).length
       have:=h32 n
       rw [List.length_append]; omega
     exact this i le
    rw [uAdd_rr]
    refine ⟨_,_,s5 _ _ hf3,n5.at_,big5 (by rw [e]; simp; omega),fun p6 H6 n6=>?_⟩
    refine ⟨⟨p6,_,_,rfl,?_,as++bs,by rw [n6.at_,e]; simp,?_⟩,(sm.trans nw.same).trans (s5.trans n6.same),by omega⟩
    ·exact ((sm.trans nw.same).trans s5).free n6.no
    ·exact paired_app (ht.same ((nw.same.trans s5).trans n6.same)) (tl.same (n5.same.trans n6.same))
  ·rintro σ H2 ⟨⟨fl2,t1,t2,rfl,f0,as,hf,ht⟩,sm,le⟩
   rw [List.length_map,S.len] at ht
   have hlen:=paired_len ht
   have tb2:=tb.same sm
   simp_all only []
   refine ⟨as,hf,tb2.l,by rw [hlen]; exact h64,(wO rs rs.length).map keyT,tri_keys ht hkk,fun D2 zs H3 L3 T3 f3 ne3 ns3 e3 pz sz=>?_⟩
   have s3:SameT H2 H3:=SameT.lam L3 tb2.l
   have tb3:TB A H3:=⟨lamT_keep tb2.w fun a o e h=>L3 a o (fun z=>?_) e,T3,tb2.ne⟩
   ·refine q D2 (zs.map (·.2)) H3 ((SameT.of sm).trans s3) tb3 (sm.free f3) ns3 (by rw [e3,List.map_map]; rfl) ((tri_sorted ht pz sz nd).sameT s3)
   ·obtain ⟨ps,hps⟩:=lamT_tbl tb2.l
    rcases h with h|h
    ·exact tb2.ne (h.symm.trans z)
    ·rw [z,hps] at e
     cases e
     exact h _ rfl
def spAsked (A:ClsA):Sp:=fun vs H Q _=>∃ (p wl sl:Addr) (cells:List Addr) (m:Int) (d:DM) (hot:Bool),vs=[.ref p,.bl hot]∧DiskAt A H p wl sl cells m d∧TxOk d∧((nU d).map keyT).Nodup∧(nU d).length<64∧TB A H ∧
 ∀ H',SameT H H'→TB A H'→Q (ov (nextS d m hot)) H'
theorem sc__law_asked:FnScope ["_law_disk","_law_is_hot","_law_told","e","_law_others","_law_more"] ["_law_disk","_law_is_hot"] (defScope s__law_asked):=⟨rfl,rfl,rfl,by decide +kernel,rfl,by decide +kernel,by decide +kernel⟩
theorem ok__law_asked {f:Addr} {fd:FuncData} (F:Fun K "_law_asked" "_law_asked" s__law_asked f fd) (T:Txt w K mg A) (G_next_stretch:GX P w K mg base true 11 "next_stretch" ["disk","is_hot"] (spNS A)):FnOk P w K mg base CX0 true 12 f fd ["_law_disk","_law_is_hot"] (spAsked A):=by
 refine F.ok sc__law_asked (fun vs H Q E h=>?_) (fun cdv Ar outer s H vs Q E hr h=>?_)
 ·obtain ⟨p,wl,sl,cells,m,d,hot,rfl,_⟩:=h; rfl
 ·obtain ⟨p,wl,sl,cells,m,d,hot,rfl,D,tx,nd,h64,tb,q⟩:=h
  refine ⟨_,(W.h (w_pss_cons (w_ps_set (i:=2) sc__law_asked.nd rfl (Or.inl rfl) w_pe_str)
   (w_pss_cons (w_ps_try (i:=3) rfl rfl ⟨rfl,rfl⟩ sc__law_asked.nd rfl rfl T.ek_CleanError rfl T.mg_CleanError (fun pins Ex=>(w_pss_one (w_ps_set (i:=2) sc__law_asked.nd rfl (Or.inl rfl) (w_pe_gX throws_try G_next_stretch hr rfl (w_pa_p (w_pv 0) (w_pa_p (w_pv 1) w_pa_nil)))))) (fun pins ea=>by
   have hr:=hr.mark (v:=some (.ref ea))
   exact (w_pss_cons (w_ps_set (i:=4) sc__law_asked.nd rfl (Or.inl rfl) (w_pe_callBp (call_isiTK (K:=K) rfl) rfl T.n_isinstance boot_isinstance (w_pa_p (w_pv 3) (w_pa_p (w_pe_tupA (w_pa_p (w_pe_gv rfl T.c_Full) (w_pa_p (w_pe_gv rfl T.c_Gone) (w_pa_p (w_pe_gv rfl T.c_HeldAlready) (w_pa_p (w_pe_gv rfl T.c_NoDeed) (w_pa_p (w_pe_gv rfl T.c_NoDisk) (w_pa_p (w_pe_gv rfl T.c_NoFile) (w_pa_p (w_pe_gv rfl T.c_NoFiles) (w_pa_p (w_pe_gv rfl T.c_NoHouse) (w_pa_p (w_pe_gv rfl T.c_NoMark) w_pa_nil)))))))))) w_pa_nil))))
   (w_pss_cons (w_ps_set (i:=5) sc__law_asked.nd rfl (Or.inl rfl) (w_pe_callBp (call_isiTK (K:=K) rfl) rfl T.n_isinstance boot_isinstance (w_pa_p (w_pv 3) (w_pa_p (w_pe_tupA (w_pa_p (w_pe_gv rfl T.c_NoPlace) (w_pa_p (w_pe_gv rfl T.c_NoRow) (w_pa_p (w_pe_gv rfl T.c_NotBlank) (w_pa_p (w_pe_gv rfl T.c_NotClosed) (w_pa_p (w_pe_gv rfl T.c_NotHeld) (w_pa_p (w_pe_gv rfl T.c_Stopped) w_pa_nil))))))) w_pa_nil))))
   (w_pss_one (w_ps_if (w_pt (w_pw_and (w_pt_truK (K:=K) rfl (w_pe_callBp (call_isiK (K:=K) rfl) rfl T.n_isinstance boot_isinstance (w_pa_p (w_pv 3) (w_pa_p (w_pe_gv rfl T.c_NoRoom) w_pa_nil)))) (w_pw_and (w_pt_truK (K:=K) rfl (w_pe_callBp (call_isiK (K:=K) rfl) rfl T.n_isinstance boot_isinstance (w_pa_p (w_pv 3) (w_pa_p (w_pe_bltn rfl T.n_ValueError boot_ValueError (v:=.ty "ValueError") rfl) w_pa_nil)))) (w_pw_and (w_pt_not (w_pt_truK (K:=K) rfl (w_pv 4))) (w_pw_and1 (w_pt_not (w_pt_truK (K:=K) rfl (w_pv 5))))))))
   (w_pss_one (w_ps_set (i:=2) sc__law_asked.nd rfl (Or.inl rfl) w_pe_non))
   w_pss_nil))))))
   (w_pss_one (w_ps_ret (w_pv 2)))))),?_⟩
  unfold tTry
  simp_all only []
  refine ⟨p,wl,sl,cells,m,d,hot,rfl,D,tx,nd,h64,tb,fun H1 s1 tb1=>⟨fun k hk=>?_,fun hn=>⟨_,rfl,T.ek_NoRoom,T.mro_NoRoom,fun ea oe he ho=>⟨_,rfl,by decide,fun tp H2 n2=>?_⟩⟩⟩⟩
  ·have:=q H1 s1 tb1
   rw [hk] at this
   exact this
  have he2:H2 ea=some (.frz oe (.own 0)):=n2.same _ _ upd_same
  refine .inr ⟨.ref ea,tp,_,[.ref A.Full,.ref A.Gone,.ref A.HeldAlready,.ref A.NoDeed,.ref A.NoDisk,.ref A.NoFile,.ref A.NoFiles,.ref A.NoHouse,.ref A.NoMark],.ref A.NoRoom,false,rfl,n2.at_,rfl,.exc he2 ho T.ec_NoRoom,?_,?_⟩
  ·simp only [PySem.W.kitAny,T.k_NoRoom_Full,T.k_NoRoom_Gone,T.k_NoRoom_HeldAlready,T.k_NoRoom_NoDeed,T.k_NoRoom_NoDisk,T.k_NoRoom_NoFile,T.k_NoRoom_NoFiles,T.k_NoRoom_NoHouse,T.k_NoRoom_NoMark]
  simp_all only []
  refine ⟨by decide,fun tp2 H3 n3=>?_⟩
  have he3:=n3.same _ _ he2
  refine .inr ⟨.ref ea,tp2,_,[.ref A.NoPlace,.ref A.NoRow,.ref A.NotBlank,.ref A.NotClosed,.ref A.NotHeld,.ref A.Stopped],.ref A.NoRoom,false,rfl,n3.at_,rfl,.exc he3 ho T.ec_NoRoom,?_,?_⟩
  ·simp only [PySem.W.kitAny,T.k_NoRoom_NoPlace,T.k_NoRoom_NoRow,T.k_NoRoom_NotBlank,T.k_NoRoom_NotClosed,T.k_NoRoom_NotHeld,T.k_NoRoom_Stopped]
  simp_all only []
  refine ⟨_,_,_,_,_,rfl,rfl,.exc he3 ho T.ec_NoRoom,T.k_NoRoom_NoRoom,?_⟩
  simp_all only []
  refine ⟨_,_,_,_,_,rfl,rfl,.exc he3 ho T.ec_NoRoom,T.k_NoRoom_ValueError,?_⟩
  simp_all only []
  have sm:Same H1 H3:=fun a o e=>n3.same _ _ (n2.same _ _ (by rw [upd_ne (ne_of_none e he)]; exact e))
  have:=q H3 (s1.trans (.of sm)) (tb1.same sm)
  rw [hn] at this
  exact this
end
def IsEnd (U:List Tri) (hot:Bool) (o:Option Nat):Prop:=match o with
 | none=>∀ t∈U,hotT t≠hot
 | some e=>∃ t∈U,hotT t=hot∧t.2.1=e∧∀ t'∈U,hotT t'=hot→keyT t'≤keyT t
theorem srt_exists (U:List Tri):∃ ts:List Tri,ts.Perm U∧ts.Pairwise (fun a b=>keyT a≤keyT b):=by
 induction U with
 | nil=>exact ⟨[],.refl _,.nil⟩
 | cons x U ih =>
  obtain ⟨ts,p,h⟩:=ih
  have ins:∀ l:List Tri,l.Pairwise (fun a b=>keyT a≤keyT b)→∃ m:List Tri,m.Perm (x::l)∧m.Pairwise (fun a b=>keyT a≤keyT b):=fun l=>by
   induction l with
   | nil=>exact fun _=>⟨[x],.refl _,by simp⟩
   | cons y l ih =>
    intro h
    obtain ⟨h1,h2⟩:=List.pairwise_cons.mp h
    by_cases hx:keyT x≤keyT y
    ·refine ⟨x::y::l,.refl _,List.pairwise_cons.mpr ⟨fun z hz=>?_,h⟩⟩
     rcases List.mem_cons.mp hz with rfl|hz
     ·exact hx
     ·have:=h1 z hz; omega
    ·obtain ⟨m,p,hm⟩:=ih h2
     refine ⟨y::m,(p.cons y).trans (.swap x y l),List.pairwise_cons.mpr ⟨fun z hz=>?_,hm⟩⟩
     rcases List.mem_cons.mp (p.mem_iff.mp hz) with rfl|hz
     ·omega
     ·exact h1 z hz
  obtain ⟨m,p2,hm⟩:=ins ts h
  exact ⟨m,p2.trans (p.cons x),hm⟩
theorem srt_sorted (U:List Tri):(srtK U).Pairwise (fun a b=>keyT a≤keyT b):=by
 have ex:=srt_exists U
 unfold srtK
 rw [dif_pos ex]
 exact ex.choose_spec.2
theorem endP_is {ts:List Tri} (h:ts.Pairwise (fun a b=>keyT a≤keyT b)) (hot:Bool):∀ i,i≤ts.length→IsEnd (ts.take i) hot (endP ts hot i)
 | 0,_=>fun t ht=>by simp at ht
 | i+1,hi=>by
  have hlt:i<ts.length:=by omega
  have e:ts[i]?=some ts[i]:=List.getElem?_eq_getElem hlt
  have ih:=endP_is h hot i (by omega)
  have et:ts.take (i+1)=ts.take i++[ts[i]]:=by rw [List.take_add_one,e]; rfl
  have ep:endP ts hot (i+1)=if hotT ts[i]=hot then some ts[i].2.1 else endP ts hot i:=by
   show (match ts[i]? with|some t=>_|none=>_)=_
   rw [e]
  rw [ep,et]
  by_cases hh:hotT ts[i]=hot
  ·rw [if_pos hh]
   refine ⟨ts[i],List.mem_append_right _ (List.mem_singleton.mpr rfl),hh,rfl,fun t' ht' _=>?_⟩
   rcases List.mem_append.mp ht' with ht'|ht'
   ·obtain ⟨j,hj,rfl⟩:=List.getElem_of_mem ht'
    rw [List.length_take] at hj
    rw [List.getElem_take]
    exact List.pairwise_iff_getElem.mp h j i (by omega) hlt (by omega)
   ·rw [List.mem_singleton.mp ht']; exact Int.le_refl _
  ·rw [if_neg hh]
   cases ee:endP ts hot i with
   | none =>
    rw [ee] at ih
    intro t ht
    rcases List.mem_append.mp ht with ht|ht
    ·exact ih t ht
    ·rw [List.mem_singleton.mp ht]; exact hh
   | some n =>
    rw [ee] at ih
    obtain ⟨t,h1,h2,h3,h4⟩:=ih
    refine ⟨t,List.mem_append_left _ h1,h2,h3,fun t' ht' hh'=>?_⟩
    rcases List.mem_append.mp ht' with ht'|ht'
    ·exact h4 t' ht' hh'
    ·rw [List.mem_singleton.mp ht'] at hh'; exact absurd hh' hh
theorem endS_is (d:DM) (hot:Bool):IsEnd (nU d) hot (endS d hot):=by
 have h:=endP_is (srt_sorted (nU d)) hot (srtK (nU d)).length (Nat.le_refl _)
 rw [List.take_of_length_le (Nat.le_refl _)] at h
 unfold endS
 cases e:endP (srtK (nU d)) hot (srtK (nU d)).length with
 | none=>rw [e] at h; exact fun t ht=>h t ((srt_perm _).mem_iff.mpr ht)
 | some n =>
  rw [e] at h
  obtain ⟨t,h1,h2,h3,h4⟩:=h
  exact ⟨t,(srt_perm _).mem_iff.mp h1,h2,h3,fun t' ht'=>h4 t' ((srt_perm _).mem_iff.mpr ht')⟩
theorem key_inj {U:List Tri} (nd:(U.map keyT).Nodup) {s t:Tri} (hs:s∈U) (ht:t∈U) (h:keyT s=keyT t):s=t:=by
 obtain ⟨i,hi,rfl⟩:=List.getElem_of_mem hs
 obtain ⟨j,hj,rfl⟩:=List.getElem_of_mem ht
 have:i=j:=by
  have h1:(U.map keyT)[i]?=(U.map keyT)[j]?:=by rw [List.getElem?_map,List.getElem?_map,List.getElem?_eq_getElem hi,List.getElem?_eq_getElem hj]; simpa using h
  exact (List.getElem?_inj (by simpa using hi) nd).mp h1
 subst this; rfl
theorem isEnd_eq {U:List Tri} (nd:(U.map keyT).Nodup) {hot:Bool} {o o':Option Nat} (h:IsEnd U hot o) (h':IsEnd U hot o'):o=o':=by
 cases o with
 | none =>
  cases o' with
  | none=>rfl
  | some e=>obtain ⟨t,h1,h2,_⟩:=h'; exact absurd h2 (h t h1)
 | some e =>
  obtain ⟨t,h1,h2,h3,h4⟩:=h
  cases o' with
  | none=>exact absurd h2 (h' t h1)
  | some e' =>
   obtain ⟨s,g1,g2,g3,g4⟩:=h'
   have:=h4 s g1 g2
   have:=g4 t h1 h2
   have es:=key_inj nd h1 g1 (by omega)
   rw [← h3,← g3,es]
theorem rO_mem {l:List OR} {k:Nat} {t:Tri}:∀ {j:Nat},t∈rO l k j↔∃ i,i<j∧l.getD i none=some t.1∧t.2=(k,i)
 | 0=>by simp [rO]
 | j+1=>by
  show t∈rO l k j++one (l.getD j none) k j↔_
  rw [List.mem_append,rO_mem (j:=j)]
  constructor
  ·rintro (⟨i,h1,h2,h3⟩|h)
   ·exact ⟨i,by omega,h2,h3⟩
   ·cases e:l.getD j none with
    | none=>rw [e] at h; cases h
    | some row =>
     rw [e] at h
     have h:t=(row,k,j):=List.mem_singleton.mp h
     exact ⟨j,by omega,by rw [h]; exact e,by rw [h]⟩
  ·rintro ⟨i,h1,h2,h3⟩
   by_cases hi:i<j
   ·exact .inl ⟨i,hi,h2,h3⟩
   ·have:i=j:=by omega
    subst this
    refine .inr ?_
    rw [h2]
    refine List.mem_singleton.mpr ?_
    rw [← h3]
theorem wO_mem {rs:List (List OR)} {t:Tri}:∀ {n:Nat},t∈wO rs n↔t.2.1<n∧t.2.2<(rs.getD t.2.1 []).length∧(rs.getD t.2.1 []).getD t.2.2 none=some t.1
 | 0=>by simp [wO]
 | n+1=>by
  show t∈wO rs n++rO (rs.getD n []) n (rs.getD n []).length↔_
  rw [List.mem_append,wO_mem (n:=n),rO_mem]
  constructor
  ·rintro (⟨h1,h2⟩|⟨i,h1,h2,h3⟩)
   ·exact ⟨by omega,h2⟩
   ·rw [h3]; exact ⟨by simp,h1,h2⟩
  ·rintro ⟨h1,h2,h3⟩
   by_cases hn:t.2.1<n
   ·exact .inl ⟨hn,h2,h3⟩
   ·have:t.2.1=n:=by omega
    exact .inr ⟨t.2.2,by rw [← this]; exact h2,by rw [← this]; exact h3,by rw [← this]⟩
theorem rO_nd {l:List OR} {k:Nat}:∀ j,(rO l k j).Nodup
 | 0=>.nil
 | j+1=>by
  show (rO l k j++one (l.getD j none) k j).Nodup
  rw [List.nodup_append]
  refine ⟨rO_nd j,by cases l.getD j none <;> simp [one],fun a ha b hb e=>?_⟩
  subst e
  obtain ⟨i,h1,_,h3⟩:=rO_mem.mp ha
  cases eo:l.getD j none with
  | none=>rw [eo] at hb; cases hb
  | some row =>
   rw [eo] at hb
   have hb:a=(row,k,j):=List.mem_singleton.mp hb
   rw [hb] at h3
   have:j=i:=congrArg Prod.snd h3
   omega
theorem wO_nd {rs:List (List OR)}:∀ n,(wO rs n).Nodup
 | 0=>.nil
 | n+1=>by
  show (wO rs n++rO (rs.getD n []) n (rs.getD n []).length).Nodup
  rw [List.nodup_append]
  refine ⟨wO_nd n,rO_nd _,fun a ha b hb e=>?_⟩
  subst e
  have h1:=(wO_mem.mp ha).1
  obtain ⟨i,_,_,h3⟩:=rO_mem.mp hb
  have:a.2.1=n:=by rw [h3]
  omega
theorem keys_nd {rs:List (List OR)} (inj:∀ s t:Tri,s∈wO rs rs.length→t∈wO rs rs.length→keyT s=keyT t→s=t):((wO rs rs.length).map keyT).Nodup:=by
 refine List.pairwise_map.mpr (List.Pairwise.imp_of_mem (fun {a b} ha hb h e=>h (inj a b ha hb e)) (wO_nd rs.length))
theorem getD_set {α:Type} {l:List α} {k i:Nat} {x d:α} (hk:k<l.length):(l.set k x).getD i d=if i=k then x else l.getD i d:=by
 rw [List.getD_eq_getElem?_getD,List.getD_eq_getElem?_getD]
 by_cases h:i=k
 ·rw [if_pos h,h,List.getElem?_set_self hk]; rfl
 ·rw [if_neg h,List.getElem?_set_ne (Ne.symm h)]
theorem getD_left {α:Type} {l m:List α} {b:Nat} {d:α} (h:b<l.length):(l++m).getD b d=l.getD b d:=by
 rw [List.getD_eq_getElem?_getD,List.getD_eq_getElem?_getD,List.getElem?_append_left h]
theorem getD_last {α:Type} {l:List α} {x d:α}:(l++[x]).getD l.length d=x:=by
 rw [List.getD_eq_getElem?_getD,List.getElem?_append_right (Nat.le_refl _)]; simp
theorem mem_app {rs:List (List OR)} {k:Nat} {xs:List V} (hk:k<rs.length) {t:Tri}:t∈wO (rs.set k (rs.getD k []++[some xs])) (rs.set k (rs.getD k []++[some xs])).length↔t∈wO rs rs.length∨t=(xs,k,(rs.getD k []).length):=by
 obtain ⟨row,a,b⟩:=t
 rw [wO_mem,wO_mem,List.length_set,getD_set hk]
 show a<rs.length∧b<List.length (if a=k then rs.getD k []++[some xs] else rs.getD a [])∧List.getD (if a=k then rs.getD k []++[some xs] else rs.getD a []) b none=some row↔_
 by_cases ha:a=k
 ·rw [if_pos ha]
  subst ha
  rw [List.length_append,List.length_singleton]
  by_cases hb:b<(rs.getD a []).length
  ·have e:(rs.getD a []++[some xs]).getD b none=(rs.getD a []).getD b none:=getD_left hb
   rw [e]
   constructor
   ·rintro ⟨h1,_,h3⟩; exact .inl ⟨h1,hb,h3⟩
   ·rintro (⟨h1,_,h3⟩|h)
    ·exact ⟨h1,by omega,h3⟩
    ·injection h with _ h; injection h with _ h; omega
  ·constructor
   ·rintro ⟨h1,h2,h3⟩
    have hb2:b=(rs.getD a []).length:=by omega
    rw [hb2,getD_last] at h3
    injection h3 with h3
    exact .inr (by rw [hb2,h3])
   ·rintro (⟨_,h2,_⟩|h)
    ·exact absurd h2 hb
    ·injection h with h1 h; injection h with _ h
     refine ⟨hk,by omega,?_⟩
     rw [h,getD_last,h1]
 ·rw [if_neg ha]
  constructor
  ·exact fun h=>.inl h
  ·rintro (h|h)
   ·exact h
   ·injection h with _ h; injection h with h _; exact absurd h ha
theorem mem_clr {rs:List (List OR)} {k:Nat} (hk:k<rs.length) {t:Tri}:t∈wO (rs.set k []) (rs.set k []).length↔t∈wO rs rs.length∧t.2.1≠k:=by
 rw [wO_mem,wO_mem,List.length_set,getD_set hk]
 by_cases ha:t.2.1=k
 ·rw [if_pos ha]
  constructor
  ·rintro ⟨_,h,_⟩; simp at h
  ·rintro ⟨_,h⟩; exact absurd ha h
 ·rw [if_neg ha]
  exact ⟨fun h=>⟨h,ha⟩,fun h=>h.1⟩
theorem LRow.key {n:Int} {hot:Bool} {xs:List V} (h:LRow n hot xs):keyR xs=n:=by cases h <;> rfl
theorem LRow.hot {n:Int} {hot:Bool} {xs:List V} {k j:Nat} (h:LRow n hot xs):hotT (xs,k,j)=hot:=by
 cases h with
 | hold=>exact (by decide:(!decide (("hold" : Str) = "carry"))=true)
 | put=>exact (by decide:(!decide (("put" : Str) = "carry"))=true)
 | cut=>exact (by decide:(!decide (("cut" : Str) = "carry"))=true)
 | carry g _ _=>exact (by decide:(!decide (("carry" : Str) = "carry"))=false)
theorem LRow.ok {n:Int} {hot:Bool} {xs:List V} (h:LRow n hot xs) (h1:1≤n) (h2:n<10 ^ 17):RowOk xs:=by
 have hn:numI n:=⟨by omega,by omega⟩
 cases h with
 | hold=>exact .hold n _ hn (by decide +kernel)
 | put=>exact .put n n true _ 3 _ hn hn ⟨by decide,by decide⟩ (by decide +kernel) (by decide +kernel)
 | cut=>exact .cut n _ 1 hn ⟨by decide,by decide⟩ (by decide +kernel)
 | carry g g0 g1=>exact .carry n g _ hn ⟨g0,by omega⟩ (by decide +kernel)
theorem LRow.len {n:Int} {hot:Bool} {xs:List V} (h:LRow n hot xs):xs.length≤7:=by cases h <;> simp
theorem LRow.hd {n:Int} {hot:Bool} {xs:List V} (h:LRow n hot xs):∃ y ys,xs = .str y::.int n::ys:=by cases h <;> exact ⟨_,_,rfl⟩
structure SOk (rs:List (List OR)) (m:Int) (e0 e1:Option Nat) (num:Int):Prop where
 rows:∀ t∈wO rs rs.length,∃ n hot,LRow n hot t.1∧1≤n∧n<num
 all:∀ i j,j<(rs.getD i []).length→∃ xs,(rs.getD i []).getD j none=some xs
 len:3≤rs.length∧rs.length≤6
 mm:2≤m∧m≤5
 wide:∀ i,((rs.getD i []).length:Int)≤m
 inj:∀ s t:Tri,s∈wO rs rs.length→t∈wO rs rs.length→keyT s=keyT t→s=t
 end0:IsEnd (wO rs rs.length) false e0
 end1:IsEnd (wO rs rs.length) true e1
 heat:∀ s t:Tri,s∈wO rs rs.length→t∈wO rs rs.length→s.2.1=t.2.1→hotT s=hotT t
 num1:1≤num∧num≤10 ^ 16
theorem empO_mem {rs:List (List OR)} {k:Nat}:∀ {n:Nat},k∈empO rs n→k<n∧(rs.getD k []).length=0
 | 0,h=>by cases h
 | n+1,h=>by
  rcases List.mem_append.mp h with h|h
  ·obtain ⟨h1,h2⟩:=empO_mem h; exact ⟨by omega,h2⟩
  ·split at h
   ·rw [List.mem_singleton] at h; subst h; exact ⟨by omega,by assumption⟩
   ·cases h
theorem isEnd_lt {rs:List (List OR)} {hot:Bool} {k:Nat} (h:IsEnd (wO rs rs.length) hot (some k)):k<rs.length:=by
 obtain ⟨t,h1,_,h3,_⟩:=h
 have:=(wO_mem.mp h1).1
 omega
theorem SOk.endE {rs:List (List OR)} {m:Int} {e0 e1:Option Nat} {num:Int} (h:SOk rs m e0 e1 num) (hot:Bool):IsEnd (wO rs rs.length) hot (eo e0 e1 hot):=by
 cases hot
 ·exact h.end0
 ·exact h.end1
theorem SOk.due {rs:List (List OR)} {m:Int} {e0 e1:Option Nat} {num:Int} (h:SOk rs m e0 e1 num) {hot:Bool} {k:Nat} (hd:dueS rs m (eo e0 e1 hot)=some k):k<rs.length∧((rs.getD k []).length:Int)<m∧∀ t∈wO rs rs.length,t.2.1=k→hotT t=hot:=by
 have he:=h.endE hot
 have mt:∀ l:List Nat,(∀ x∈l,x∈empO rs rs.length)→l.head?=some k→k<rs.length∧((rs.getD k []).length:Int)<m∧∀ t∈wO rs rs.length,t.2.1=k→hotT t=hot:=fun l hl hh=>by
  have hm:k∈l:=List.mem_of_head? hh
  obtain ⟨h1,h2⟩:=empO_mem (hl k hm)
  refine ⟨h1,by have:=h.mm; omega,fun t ht e=>?_⟩
  have:=(wO_mem.mp ht).2.1
  rw [e,h2] at this
  omega
 cases ee:eo e0 e1 hot with
 | none=>rw [ee] at hd; exact mt _ (fun _ z=>z) hd
 | some e =>
  rw [ee] at hd he
  unfold dueS at hd
  simp only at hd
  split at hd
  ·cases hd
   refine ⟨isEnd_lt he,by assumption,fun t ht et=>?_⟩
   obtain ⟨s,g1,g2,g3,_⟩:=he
   rw [h.heat t s ht g1 (by rw [et,g3])]; exact g2
  ·exact mt _ (fun _ z=>z) hd
def nx (e0 e1:Option Nat) (hot:Bool) (k:Nat):Option Nat×Option Nat:=if hot then (e0,some k) else (some k,e1)
theorem SOk.write {rs:List (List OR)} {m:Int} {e0 e1:Option Nat} {num num':Int} (h:SOk rs m e0 e1 num) {hot:Bool} {k:Nat} (hd:dueS rs m (eo e0 e1 hot)=some k) {xs:List V} (hx:LRow num hot xs) (hn:num<num') (hn2:num'≤10 ^ 16) :
  SOk (rs.set k (rs.getD k []++[some xs])) m (nx e0 e1 hot k).1 (nx e0 e1 hot k).2 num':=by
 obtain ⟨hk,hw,hh⟩:=h.due hd
 have hkey:∀ t∈wO rs rs.length,keyT t<num:=fun t ht=>by
  obtain ⟨n,ht',l,_,ln⟩:=h.rows t ht
  have:keyT t=n:=l.key
  omega
 have hnew:keyT (xs,k,(rs.getD k []).length)=num:=hx.key
 have hhot:hotT (xs,k,(rs.getD k []).length)=hot:=hx.hot
 have endNew:IsEnd (wO (rs.set k (rs.getD k []++[some xs])) (rs.set k (rs.getD k []++[some xs])).length) hot (some k):=by
  refine ⟨(xs,k,(rs.getD k []).length),(mem_app hk).mpr (.inr rfl),hhot,rfl,fun t ht _=>?_⟩
  rcases (mem_app hk).mp ht with ht|ht
  ·have:=hkey t ht; omega
  ·rw [ht]; exact Int.le_refl _
 have endOld:∀ b,b≠hot→∀ o,IsEnd (wO rs rs.length) b o→IsEnd (wO (rs.set k (rs.getD k []++[some xs])) (rs.set k (rs.getD k []++[some xs])).length) b o:=fun b hb o ho=>by
  cases o with
  | none =>
   intro t ht
   rcases (mem_app hk).mp ht with ht|ht
   ·exact ho t ht
   ·rw [ht,hhot]; exact Ne.symm hb
  | some e =>
   obtain ⟨t,g1,g2,g3,g4⟩:=ho
   refine ⟨t,(mem_app hk).mpr (.inl g1),g2,g3,fun t' ht' hb'=>?_⟩
   rcases (mem_app hk).mp ht' with ht'|ht'
   ·exact g4 t' ht' hb'
   ·rw [ht',hhot] at hb'; exact absurd hb'.symm hb
 refine ⟨fun t ht=>?_,fun i j hj=>?_,by rw [List.length_set]; exact h.len,h.mm,fun i=>?_,fun s t hs ht e=>?_,?_,?_,fun s t hs ht e=>?_,by have:=h.num1; omega⟩
 ·rcases (mem_app hk).mp ht with ht|ht
  ·obtain ⟨n,b,l,l1,l2⟩:=h.rows t ht
   exact ⟨n,b,l,l1,by omega⟩
  ·rw [ht]; exact ⟨num,hot,hx,h.num1.1,hn⟩
 ·rw [getD_set hk] at hj ⊢
  by_cases hi:i=k
  ·rw [if_pos hi] at hj ⊢
   rw [List.length_append,List.length_singleton] at hj
   by_cases hj2:j<(rs.getD k []).length
   ·obtain ⟨ys,hy⟩:=h.all k j hj2
    exact ⟨ys,by rw [getD_left hj2]; exact hy⟩
   ·have:j=(rs.getD k []).length:=by omega
    exact ⟨xs,by rw [this,getD_last]⟩
  ·rw [if_neg hi] at hj ⊢; exact h.all i j hj
 ·rw [getD_set hk]
  by_cases hi:i=k
  ·rw [if_pos hi,List.length_append,List.length_singleton]; omega
  ·rw [if_neg hi]; exact h.wide i
 ·rcases (mem_app hk).mp hs with hs|hs
  ·rcases (mem_app hk).mp ht with ht|ht
   ·exact h.inj s t hs ht e
   ·have:=hkey s hs; rw [ht,hnew] at e; omega
  ·rcases (mem_app hk).mp ht with ht|ht
   ·have:=hkey t ht; rw [hs,hnew] at e; omega
   ·rw [hs,ht]
 ·cases hot
  ·exact endNew
  ·exact endOld false (by decide) e0 h.end0
 ·cases hot
  ·exact endOld true (by decide) e1 h.end1
  ·exact endNew
 ·rcases (mem_app hk).mp hs with hs|hs
  ·rcases (mem_app hk).mp ht with ht|ht
   ·exact h.heat s t hs ht e
   ·rw [ht] at e ⊢; rw [hhot]; exact hh s hs e
  ·rcases (mem_app hk).mp ht with ht|ht
   ·rw [hs] at e ⊢; rw [hhot]; exact (hh t ht e.symm).symm
   ·rw [hs,ht]
theorem SOk.clear {rs:List (List OR)} {m:Int} {e0 e1:Option Nat} {num:Int} (h:SOk rs m e0 e1 num) {k:Nat} (hk:k<rs.length) (h0:e0≠some k) (h1:e1≠some k):SOk (rs.set k []) m e0 e1 num:=by
 have ends:∀ b o,o≠some k→IsEnd (wO rs rs.length) b o→IsEnd (wO (rs.set k []) (rs.set k []).length) b o:=fun b o ho hE=>by
  cases o with
  | none=>exact fun t ht=>hE t ((mem_clr hk).mp ht).1
  | some e =>
   obtain ⟨t,g1,g2,g3,g4⟩:=hE
   exact ⟨t,(mem_clr hk).mpr ⟨g1,fun z=>ho (by rw [← g3,z])⟩,g2,g3,fun t' ht'=>g4 t' ((mem_clr hk).mp ht').1⟩
 refine ⟨fun t ht=>h.rows t ((mem_clr hk).mp ht).1,fun i j hj=>?_,by rw [List.length_set]; exact h.len,h.mm,fun i=>?_,fun s t hs ht=>h.inj s t ((mem_clr hk).mp hs).1 ((mem_clr hk).mp ht).1,ends _ _ h0 h.end0,ends _ _ h1 h.end1,fun s t hs ht=>h.heat s t ((mem_clr hk).mp hs).1 ((mem_clr hk).mp ht).1,h.num1⟩
 ·rw [getD_set hk] at hj ⊢
  by_cases hi:i=k
  ·rw [if_pos hi] at hj; simp at hj
  ·rw [if_neg hi] at hj ⊢; exact h.all i j hj
 ·rw [getD_set hk]
  by_cases hi:i=k
  ·rw [if_pos hi]; have:=h.mm; simp; omega
  ·rw [if_neg hi]; exact h.wide i
theorem SOk.later {rs:List (List OR)} {m:Int} {e0 e1:Option Nat} {num num':Int} (h:SOk rs m e0 e1 num) (hn:num≤num') (hn2:num'≤10 ^ 16):SOk rs m e0 e1 num' :=
 { h with rows:=fun t ht=>let ⟨n,b,l,l1,l2⟩:=h.rows t ht; ⟨n,b,l,l1,by omega⟩,num1:=⟨by have:=h.num1; omega,hn2⟩ }
theorem wO_len {rs:List (List OR)} {b:Nat} (h:∀ i,(rs.getD i []).length≤b):∀ n,(wO rs n).length≤b*n
 | 0=>Nat.le_refl _
 | n+1=>by
  show (wO rs n++_).length≤_
  have:=wO_len h n
  have:=rO_len (rs.getD n []) n (rs.getD n []).length
  have:=h n
  rw [List.length_append,Nat.mul_add]; omega
theorem SOk.few {rs:List (List OR)} {m:Int} {e0 e1:Option Nat} {num:Int} (h:SOk rs m e0 e1 num):(wO rs rs.length).length≤30:=by
 have:=wO_len (b:=5) (rs:=rs) (fun i=>by have:=h.wide i; have:=h.mm; omega) rs.length
 have:=h.len
 omega
abbrev s__law_made_room:Stmt:=top 65
def txO (o:OR):Tx:=o.map rowT
def DS (rs:List (List OR)) (cnt:Int):DM:=⟨rs.map fun r=>r.map txO,[none,none],cnt,none,false⟩
theorem DS_getD (rs:List (List OR)) (cnt:Int) (i:Nat):(DS rs cnt).rows.getD i []=(rs.getD i []).map txO:=by
 show (rs.map _).getD i []=_
 rw [List.getD_eq_getElem?_getD,List.getElem?_map,List.getD_eq_getElem?_getD]
 cases rs[i]? <;> rfl
theorem rowT_ok {n:Int} {hot:Bool} {xs:List V} (h:LRow n hot xs) (h1:1≤n) (h2:n<10 ^ 17):asc (rowT xs)=true∧(rowT xs).length≤1000∧readS (rowT xs)=some xs:=by
 have ok:=h.ok h1 h2
 obtain ⟨_,_,_,hp⟩:=ok.parts
 obtain ⟨l1,l2⟩:=ahead_len hp
 have hl:=h.len
 have F:=numF (sumS_lt (tx (aheadL xs))).1 (by have:=(sumS_lt (tx (aheadL xs))).2; omega)
 have nl:=num_len (sumS_lt (tx (aheadL xs))).1 (by have:=(sumS_lt (tx (aheadL xs))).2; omega)
 refine ⟨?_,?_,ok.read⟩
 ·unfold rowT summedS
  rw [asc_sg,sg_append,sg_append,sg_tx,List.all_append,List.all_append,l2]
  have:(sg (toString (sumS (tx (aheadL xs))):Str)).all (fun c=>decide (c<128))=true:=List.all_eq_true.mpr fun c hc=>decide_eq_true (by have:=F.dig c hc; omega)
  rw [this]
  decide +kernel
 ·unfold rowT summedS
  rw [← sg_len,sg_append,sg_append,sg_tx,List.length_append,List.length_append,sg_len]
  have:(sg (";" : Str)).length=1:=by decide +kernel
  rw [this]
  omega
section
variable {rs:List (List OR)} {m:Int} {e0 e1:Option Nat} {num cnt:Int}
theorem SOk.cell (h:SOk rs m e0 e1 num) {r:List OR} (hr:r∈rs) {o:OR} (ho:o∈r):∃ xs n hot,o=some xs∧LRow n hot xs∧1≤n∧n<num:=by
 obtain ⟨i,hi,rfl⟩:=List.getElem_of_mem hr
 obtain ⟨j,hj,rfl⟩:=List.getElem_of_mem ho
 have e:rs.getD i []=rs[i]:=by rw [List.getD_eq_getElem?_getD,List.getElem?_eq_getElem hi]; rfl
 have hj':j<(rs.getD i []).length:=by rw [e]; exact hj
 obtain ⟨xs,hx⟩:=h.all i j hj'
 obtain ⟨n,hot,l,l1,l2⟩:=h.rows (xs,i,j) (wO_mem.mpr ⟨hi,hj',hx⟩)
 refine ⟨xs,n,hot,?_,l,l1,l2⟩
 rw [e,List.getD_eq_getElem?_getD,List.getElem?_eq_getElem hj] at hx
 exact hx
theorem SOk.rd (h:SOk rs m e0 e1 num):rdR (DS rs cnt).rows=rs:=by
 show (rs.map _).map _=rs
 rw [List.map_map]
 refine (List.map_congr_left fun r hr=>?_).trans (List.map_id rs)
 show (r.map txO).map rdT=r
 rw [List.map_map]
 refine (List.map_congr_left fun o ho=>?_).trans (List.map_id r)
 obtain ⟨xs,n,hot,rfl,l,l1,l2⟩:=h.cell hr ho
 exact (rowT_ok l l1 (by have:=h.num1; omega)).2.2
theorem SOk.nU (h:SOk rs m e0 e1 num):K35.nU (DS rs cnt)=wO rs rs.length:=by
 show wU _ _=_
 rw [wU_wO,h.rd]
 show wO rs (rs.map _).length=_
 rw [List.length_map]
theorem SOk.tx (h:SOk rs m e0 e1 num):TxOk (DS rs cnt):=by
 refine ⟨fun r hr=>?_,by show (rs.map _).length≤16; rw [List.length_map]; have:=h.len; omega⟩
 obtain ⟨q,hq,rfl⟩:=List.mem_map.mp hr
 obtain ⟨i,hi,rfl⟩:=List.getElem_of_mem hq
 have hw:=h.wide i
 rw [List.getD_eq_getElem?_getD,List.getElem?_eq_getElem hi] at hw
 have hw:((rs[i]).length:Int)≤m:=hw
 refine ⟨by rw [List.length_map]; have:=h.mm; omega,fun t ht z hz=>?_⟩
 obtain ⟨o,ho,rfl⟩:=List.mem_map.mp ht
 obtain ⟨xs,n,hot,rfl,l,l1,l2⟩:=h.cell hq ho
 cases hz
 obtain ⟨a1,a2,_⟩:=rowT_ok l l1 (by have:=h.num1; omega)
 exact ⟨a1,a2⟩
theorem SOk.nd (h:SOk rs m e0 e1 num):((K35.nU (DS rs cnt)).map keyT).Nodup:=by rw [h.nU]; exact keys_nd h.inj
theorem SOk.lt64 (h:SOk rs m e0 e1 num):(K35.nU (DS rs cnt)).length<64:=by rw [h.nU]; have:=h.few; omega
theorem SOk.ends (h:SOk rs m e0 e1 num) (hot:Bool):endS (DS rs cnt) hot=eo e0 e1 hot:=by
 have h1:=endS_is (DS rs cnt) hot
 rw [h.nU] at h1
 exact isEnd_eq (keys_nd h.inj) h1 (h.endE hot)
theorem emp_DS (rs:List (List OR)) (cnt:Int):∀ n,emp (DS rs cnt).rows n=empO rs n
 | 0=>rfl
 | n+1=>by
  show emp _ n++_=empO rs n++_
  rw [emp_DS rs cnt n,DS_getD,List.length_map]
theorem SOk.next (h:SOk rs m e0 e1 num) (hot:Bool):nextS (DS rs cnt) m hot=dueS rs m (eo e0 e1 hot):=by
 unfold nextS
 rw [h.ends,emp_DS]
 have el:(DS rs cnt).rows.length=rs.length:=List.length_map ..
 rw [el]
 cases e:eo e0 e1 hot with
 | none=>exact if_neg (by show ¬ (0:Int)>0; omega)
 | some k =>
  have ef:freeI (DS rs cnt) m (some k)=m - (rs.getD k []).length:=by
   show m - ((DS rs cnt).rows.getD k []).length=_
   rw [DS_getD,List.length_map]
  rw [ef]
  by_cases hk:((rs.getD k []).length:Int)<m
  ·rw [if_pos (by omega)]
   exact (if_pos hk).symm
  ·rw [if_neg (by omega)]
   exact (if_neg hk).symm
theorem empty_DS {k:Nat}:DM.empty (DS rs cnt) k=(.val .non,DS (rs.set k []) (cnt+(rs.getD k []).length)):=by
 have el:((DS rs cnt).rows.getD k []).length=(rs.getD k []).length:=by rw [DS_getD,List.length_map]
 have es:((DS rs cnt).spend ((DS rs cnt).rows.getD k []).length).st=false:=decide_eq_false (Int.lt_irrefl _)
 unfold DM.empty
 rw [if_neg (show ¬ (DS rs cnt).st=true from Bool.false_ne_true),if_neg (by rw [es]; exact Bool.false_ne_true)]
 have er:(DS rs cnt).rows.set k []=(DS (rs.set k []) cnt).rows:=by
  show (rs.map _).set k []=(rs.set k []).map _
  rw [List.map_set]; rfl
 rw [er]
 show (Res.val V.non,(⟨_,_,cnt+((DS rs cnt).rows.getD k []).length,none,decide _⟩:DM))=_
 rw [el,decide_eq_false (show ¬ dn (DS rs cnt).left ((rs.getD k []).length:Nat)<((rs.getD k []).length:Nat) from Int.lt_irrefl _)]
 rfl
theorem write_DS {k:Nat} {xs:List V} (hk:k<rs.length) (hw:((rs.getD k []).length:Int)<m) (hl:(rowT xs).length≤1000):DM.write m (DS rs cnt) k (rowT xs)=(.val (.int (rs.getD k []).length),DS (rs.set k (rs.getD k []++[some xs])) (cnt+(rowT xs).length)):=by
 have el:((DS rs cnt).rows.getD k []).length=(rs.getD k []).length:=by rw [DS_getD,List.length_map]
 have es:((DS rs cnt).spend (rowT xs).length).st=false:=decide_eq_false (Int.lt_irrefl _)
 unfold DM.write
 rw [if_neg (show ¬ (DS rs cnt).st=true from Bool.false_ne_true),if_neg (by rw [el]; omega),if_neg (by rw [es]; exact fun z=>Bool.false_ne_true z.2),if_neg (by rw [es]; exact Bool.false_ne_true),el]
 have ec:cutT (rowT xs) (dn (DS rs cnt).left (rowT xs).length)=some (rowT xs):=by
  show some (Txt.slice (rowT xs) none (some ((rowT xs).length:Int)))=_
  rw [slice_to (by rw [sg_len]; exact Nat.le_refl _),← sg_len,List.take_of_length_le (Nat.le_refl _),tx_sg]
 have er:(DS rs cnt).rows.set k ((DS rs cnt).rows.getD k []++[cutT (rowT xs) (dn (DS rs cnt).left (rowT xs).length)])=(DS (rs.set k (rs.getD k []++[some xs])) cnt).rows:=by
  rw [ec,DS_getD]
  show (rs.map _).set k _=(rs.set k _).map _
  rw [List.map_set,List.map_append]; rfl
 rw [er]
 show (_,(⟨_,_,cnt+(rowT xs).length,none,decide _⟩:DM))=_
 rw [decide_eq_false (show ¬ dn (DS rs cnt).left ((rowT xs).length:Nat)<((rowT xs).length:Nat) from Int.lt_irrefl _)]
 rfl
end
structure WS (A:ClsA) (H:Hp) (a el p wl sl sh:Addr) (cells shc:List Addr) (rs:List (List OR)) (m:Int) (e0 e1:Option Nat) (num:Int):Prop where
 pot:Pot H a
 ends:H el=some (.lst [ov e0,ov e1])
 disk:∃ cnt,DiskAt A H p wl sl cells m (DS rs cnt)
 shelf:ShelfAt H sh shc rs
 ap:∀ x∈wl::sl::cells,x≠a∧x≠el∧x≠sh∧x∉shc
 ap2:a≠el∧a≠sh∧a∉shc∧el≠sh∧el∉shc
 tb:TB A H
 ok:SOk rs m e0 e1 num
section
variable {A:ClsA} {H H':Hp} {a el p wl sl sh:Addr} {cells shc:List Addr} {rs rs':List (List OR)} {m:Int} {e0 e1:Option Nat} {num:Int}
theorem Pot.lst (h:Pot H a):∃ xs,H a=some (.lst xs):=let ⟨x,y,e,_⟩:=h.ex; ⟨_,e⟩
theorem ne_ins {b c:Addr} {xs:List V} {C dx:Addr} {fs:List (Str×V)} (h:H b=some (.lst xs)) (h':H c=some (.ins C dx fs)):b≠c:=fun z=>by rw [z,h'] at h; cases h
theorem WS.sameT (h:WS A H a el p wl sl sh cells shc rs m e0 e1 num) (s:SameT H H') (tb:TB A H'):WS A H' a el p wl sl sh cells shc rs m e0 e1 num:=by
 obtain ⟨x,y,e,r⟩:=h.pot.ex
 obtain ⟨cnt,D⟩:=h.disk
 exact ⟨⟨⟨x,y,s.list e,r⟩⟩,s.list h.ends,⟨cnt,D.sameT s⟩,h.shelf.sameT s,h.ap,h.ap2,tb,h.ok⟩
theorem WS.same (h:WS A H a el p wl sl sh cells shc rs m e0 e1 num) (s:Same H H'):WS A H' a el p wl sl sh cells shc rs m e0 e1 num:=h.sameT (.of s) (h.tb.same s)
theorem TB.lists (h:TB A H) {F:List Addr} (k:Keeps F H H') (hF:∀ x∈F,(∃ xs,H x=some (.lst xs))∨∃ C dx fs,H x=some (.ins C dx fs)):TB A H':=h.keep k fun x hx o e=>by
 rcases hF x hx with ⟨xs,z⟩|⟨C,dx,fs,z⟩ <;> · rw [z] at e; cases e; exact ⟨fun _ q=>(by cases q),fun _ q=>(by cases q)⟩
theorem ShelfAt.keepF (h:ShelfAt H sh shc rs) {F:List Addr} (k:Keeps F H H') (hF:∀ x∈F,(∃ xs,H x=some (.lst xs))∨∃ C dx fs,H x=some (.ins C dx fs)) (h1:sh∉F) (h2:∀ c∈shc,c∉F):ShelfAt H' sh shc rs :=
 h.keep (fun r xs e=>k _ _ e fun z=>by rcases hF r z with ⟨xs,q⟩|⟨C,dx,fs,q⟩ <;> · rw [q] at e; cases e) fun b xs hb e=>k _ _ e (by
  rcases hb with rfl|hb
  ·exact h1
  ·exact h2 b hb)
theorem WS.potB (h:WS A H a el p wl sl sh cells shc rs m e0 e1 num) (b:But a H H') (hP:Pot H' a):WS A H' a el p wl sl sh cells shc rs m e0 e1 num:=by
 obtain ⟨xs,ea⟩:=h.pot.lst
 have k:Keeps [a] H H':=fun c o e n=>b c o (fun z=>n (by simp [z])) e
 have hF:∀ x∈[a],(∃ xs,H x=some (.lst xs))∨∃ C dx fs,H x=some (.ins C dx fs):=fun x hx=>by rw [List.mem_singleton] at hx; subst hx; exact .inl ⟨_,ea⟩
 obtain ⟨cnt,D⟩:=h.disk
 obtain ⟨dx,hp⟩:=D.ob
 refine ⟨hP,b _ _ (Ne.symm h.ap2.1) h.ends,⟨cnt,D.keep k fun x hx z=>?_⟩,h.shelf.keepF k hF (by simpa using fun z=>h.ap2.2.1 z.symm) (fun c hc z=>by rw [List.mem_singleton] at z; exact h.ap2.2.2.1 (z ▸ hc)),h.ap,h.ap2,h.tb.lists k hF,h.ok⟩
 rw [List.mem_singleton] at z
 rcases List.mem_cons.mp hx with rfl|hx
 ·exact ne_ins ea hp z.symm
 ·exact (h.ap x hx).1 z
theorem WS.diskB {cnt:Int} {k:Nat} {vs:List V} (h:WS A H a el p wl sl sh cells shc rs m e0 e1 num) (b:Keeps (p::wl::sl::cells) H H') (D':DiskAt A H' p wl sl cells m (DS rs' cnt)):Pot H' a∧H' el=some (.lst [ov e0,ov e1])∧ShelfAt H' sh shc rs∧TB A H':=by
 obtain ⟨xs,ea⟩:=h.pot.lst
 obtain ⟨cn,D⟩:=h.disk
 obtain ⟨dx,hp⟩:=D.ob
 have hF:∀ x∈p::wl::sl::cells,(∃ xs,H x=some (.lst xs))∨∃ C dx fs,H x=some (.ins C dx fs):=fun x hx=>by
  rcases List.mem_cons.mp hx with rfl|hx
  ·exact .inr ⟨_,_,_,hp⟩
  ·rcases List.mem_cons.mp hx with rfl|hx
   ·exact .inl ⟨_,D.rows.w⟩
   ·rcases List.mem_cons.mp hx with rfl|hx
    ·exact .inl ⟨_,D.sides⟩
    ·obtain ⟨i,hi,rfl⟩:=List.getElem_of_mem hx
     exact .inl ⟨_,D.rows.at_ i _ (List.getElem?_eq_getElem hi)⟩
 have out:∀ {c:Addr} {zs:List V},H c=some (.lst zs)→(∀ x∈wl::sl::cells,x≠c)→c∉p::wl::sl::cells:=fun {c zs} e hn z=>by
  rcases List.mem_cons.mp z with z|z
  ·exact ne_ins e hp z
  ·exact hn c z rfl
 refine ⟨?_,b _ _ h.ends (out h.ends fun x hx=>(h.ap x hx).2.1),h.shelf.keepF b hF (out h.shelf.w fun x hx=>(h.ap x hx).2.2.1) (fun c hc=>?_),h.tb.lists b hF⟩
 ·obtain ⟨x,y,e,r⟩:=h.pot.ex
  exact ⟨⟨x,y,b _ _ e (out e fun x hx=>(h.ap x hx).1),r⟩⟩
 ·obtain ⟨i,hi,rfl⟩:=List.getElem_of_mem hc
  obtain ⟨vs,e,_⟩:=h.shelf.at_ i _ (List.getElem?_eq_getElem hi)
  exact out e fun x hx z=>(h.ap x hx).2.2.2 (z ▸ hc)
end
section
variable {P:Program} {w:World} {K:PySem.W.Frag} {mg:Str→Option Value} {base:Heap} {A:ClsA}
theorem ShelfAt.set {H:Hp} {sh:Addr} {shc:List Addr} {rs:List (List OR)} (S:ShelfAt H sh shc rs) {k:Nat} {c:Addr} {vs':List V} {r':List OR} (hk:k<rs.length) (hc:shc[k]?=some c) (hp:Paired (CellR H) vs' r'):ShelfAt (upd H c (.lst vs')) sh shc (rs.set k r'):=by
 have hm:=List.mem_of_getElem? hc
 obtain ⟨n1,n2⟩:=List.nodup_cons.mp S.nd
 obtain ⟨vs0,hv0,_⟩:=S.at_ k c hc
 have kt:∀ r xs,H r=some (.tup xs)→upd H c (.lst vs') r=some (.tup xs):=fun r xs e=>by rw [upd_ne (fun z=>by rw [z,hv0] at e; cases e)]; exact e
 refine ⟨by rw [upd_ne (fun z:sh=c=>n1 (by rw [z]; exact hm))]; exact S.w,by rw [List.length_set]; exact S.len,fun i ci hi=>?_,S.nd⟩
 rw [getD_set hk]
 by_cases h:i=k
 ·subst h
  rw [hc] at hi
  cases hi
  rw [if_pos rfl]
  exact ⟨vs',upd_same,Paired.mapP hp fun v o r=>r.keep kt⟩
 ·rw [if_neg h]
  obtain ⟨vs,hv,pv⟩:=S.at_ i ci hi
  refine ⟨vs,?_,Paired.mapP pv fun v o r=>r.keep kt⟩
  rw [upd_ne (fun z:ci=c=>h (ix_inj n2 hi (by rw [z]; exact hc)))]
  exact hv
theorem WS.done {H H':Hp} {a el p wl sl sh:Addr} {cells shc:List Addr} {rs:List (List OR)} {m:Int} {e0 e1:Option Nat} {num num' cnt:Int} {k:Nat} {c:Addr} {vs':List V} {r':List OR} (h:WS A H a el p wl sl sh cells shc rs m e0 e1 num) (b:Keeps (p::wl::sl::cells) H H') (hk:k<rs.length) (D':DiskAt A H' p wl sl cells m (DS (rs.set k r') cnt)) (hc:shc[k]?=some c) (hp:Paired (CellR H') vs' r') (ok:SOk (rs.set k r') m e0 e1 num') :
  WS A (upd H' c (.lst vs')) a el p wl sl sh cells shc (rs.set k r') m e0 e1 num':=by
 obtain ⟨hP,hE,hS,hT⟩:=h.diskB (k:=0) (vs:=[]) b D'
 have hm:=List.mem_of_getElem? hc
 obtain ⟨vs0,hv0,_⟩:=hS.at_ k c hc
 obtain ⟨x,y,e,r⟩:=hP.ex
 obtain ⟨dx,hob⟩:=D'.ob
 have kk:Keeps [c] H' (upd H' c (.lst vs')):=Keeps.upd (by simp)
 refine ⟨⟨⟨x,y,by rw [upd_ne (fun z:a=c=>h.ap2.2.2.1 (by rw [z]; exact hm))]; exact e,r⟩⟩,by rw [upd_ne (fun z:el=c=>h.ap2.2.2.2.2 (by rw [z]; exact hm))]; exact hE,⟨cnt,D'.keep kk fun x hx z=>?_⟩,hS.set hk hc hp,h.ap,h.ap2,hT.lists kk (fun x hx=>by rw [List.mem_singleton] at hx; subst hx; exact .inl ⟨_,hv0⟩),ok⟩
 rw [List.mem_singleton] at z
 rcases List.mem_cons.mp hx with rfl|hx
 ·exact ne_ins hv0 hob z.symm
 ·exact (h.ap x hx).2.2.2 (z ▸ hm)
structure MRc (H:Hp) (el:Addr) (rs:List (List OR)) (e0 e1:Option Nat) (i:Nat) (τ:L2.St) (ys:List V) (H':Hp):Prop where
 ex:∃ t1 t2,τ=[t1,t2,some (V.ref el)]
 ys:∃ l:List Nat,ys=l.map iv∧l.length≤i∧∀ k∈l,k<rs.length∧e0≠some k∧e1≠some k
 same:Same H H'
 le:i≤16
theorem in_ov {k:Nat} {e0 e1:Option Nat}:inV (.int k) [ov e0,ov e1]=(decide (e0=some k) || decide (e1=some k)):=by
 have h:∀ o:Option Nat,eqV (ov o) (.int k)=decide (o=some k):=fun o=>by
  cases o with
  | none=>rfl
  | some n =>
   show decide ((n:Int)=(k:Int))=_
   by_cases h:n=k
   ·rw [decide_eq_true (by omega),decide_eq_true (by rw [h])]
   ·rw [decide_eq_false (by omega),decide_eq_false (fun z=>h (by injection z))]
 unfold inV
 simp only [List.any_cons,List.any_nil,Bool.or_false]
 rw [h e0,h e1]
theorem flat_ov {e0 e1:Option Nat}:[ov e0,ov e1].all flatV=true:=by cases e0 <;> cases e1 <;> rfl
def spRoom (A:ClsA):Sp:=fun vs H Q _=>∃ (a el p wl sl sh:Addr) (cells shc:List Addr) (rs:List (List OR)) (m:Int) (e0 e1:Option Nat) (num:Int),vs=[.ref a,.ref p,.ref sh,.ref el]∧WS A H a el p wl sl sh cells shc rs m e0 e1 num ∧
 ∀ rs' H',WS A H' a el p wl sl sh cells shc rs' m e0 e1 num→Q .non H'
theorem sc__law_made_room:FnScope ["_law_pot_here","_law_disk","_law_shelf","_law_ends","_law_some","_law_stretch"] ["_law_pot_here","_law_disk","_law_shelf","_law_ends"] (defScope s__law_made_room):=⟨rfl,rfl,rfl,by decide +kernel,rfl,by decide +kernel,by decide +kernel⟩
theorem lc__law_made_room_0:lcStat { kind:=.function,names:=[(Str.ofString ".0",.local),(Str.ofString "_law_k",.local),(Str.ofString "_law_rows_here",.local),(Str.ofString "_law_ends",.free)],isGenerator:=false,isCoroutine:=false,more:=[] } (defScope s__law_made_room).names ["_law_pot_here","_law_disk","_law_shelf","_law_ends","_law_some","_law_stretch"] ["_law_k","_law_rows_here","_law_ends"] [none,none,some 3]=true:=by decide +kernel
theorem lcn__law_made_room_0:(["_law_k","_law_rows_here","_law_ends"]:List Str).Nodup:=by decide +kernel
theorem ok__law_made_room {f:Addr} {fd:FuncData} (F:Fun K "_law_made_room" "_law_made_room" s__law_made_room f fd) (T:Txt w K mg A) (G__law_drawn:GF P w K mg base true 2 "_law_drawn" ["_law_pot_here","_law_some"] spDrawn) (M_Disk_empty:GMX P w K mg base true 2 A.Disk "empty" ["self","stretch"] (spEmpty A)):FnOk P w K mg base CX0 true 4 f fd ["_law_pot_here","_law_disk","_law_shelf","_law_ends"] (spRoom A):=by
 refine F.ok sc__law_made_room (fun vs H Q E h=>?_) (fun cdv Ar outer s H vs Q E hr h=>?_)
 ·obtain ⟨a,el,p,wl,sl,sh,cells,shc,rs,m,e0,e1,num,rfl,_⟩:=h; rfl
 ·obtain ⟨a,el,p,wl,sl,sh,cells,shc,rs,m,e0,e1,num,rfl,Ww,q⟩:=h
  have hu:_<cLine:=Nat.lt_of_succ_lt (hu_of hr)
  refine ⟨_,(W.h (w_pss_cons (w_ps_setLC (i0:=4) sc__law_made_room.nd rfl (Or.inl rfl) (fun _=>rfl) (LcOk.of lc__law_made_room_0) (w_pi_enumL rfl T.n_enumerate (w_pa_p (w_pv 2) w_pa_nil)) (fun _ _ _ _ _=>(w_pg_tupL (n:=2) (w_pgs_cons (w_pg_name (i:=0) lcn__law_made_room_0 rfl (Or.inl rfl)) (w_pgs_cons (w_pg_name (i:=1) lcn__law_made_room_0 rfl (Or.inl rfl)) w_pgs_nil)))) (fun _ _ _ _ _=>(w_pts_one (w_pt (w_pw_and (w_pt_cmpR (op_neN0 hu) (w_pv 1) (w_pe_lstA w_pa_nil) (nomark _)) (w_pw_and1 (w_pt_cmpR (op_ninU hu) (w_pv 0) (w_pv 2) rfl)))))) (fun _ _ _ _ _=>(w_pv 0)))
   (w_pss_one (w_ps_if (w_pt_cmpR (op_neN0 hu) (w_pv 4) (w_pe_lstA w_pa_nil) (nomark _))
   (w_pss_cons (w_ps_set (i:=5) sc__law_made_room.nd rfl (Or.inl rfl) (w_pe_g G__law_drawn hr rfl (w_pa_p (w_pv 0) (w_pa_p (w_pv 4) w_pa_nil))))
   (w_pss_cons (w_ps_expr (w_pe_mX (w_pv 1) T.cl_Disk throws_none M_Disk_empty hr (w_pa_p (w_pv 5) w_pa_nil)))
   (w_pss_one (w_ps_expr (w_pe_clear (w_pe_ix ix_U (w_pv 2) (w_pv 5) (fun _ _=>rfl)))))))
   w_pss_nil)))),?_⟩
  have S:=Ww.shelf
  have hl:=Ww.ok.len
  simp_all only []
  refine ⟨⟨_,SqL.of S.w⟩,CompJ.enum (xs:=shc.map V.ref) (MRc H el rs e0 e1) (fun i τ ys H' I=>?_) (fun i τ ys H' I=>SqL.of (I.same _ _ S.w)) ⟨⟨_,_,rfl⟩,⟨[],rfl,Nat.le_refl _,by simp⟩,Same.refl _,by omega⟩ ?_ ?_⟩
  ·obtain ⟨l,e,le,_⟩:=I.ys
   rw [e,List.length_map]
   exact big5' (by have:=I.le; omega)
  ·intro N i x pp τ ys H' hx I hp hN
   obtain ⟨t1,t2,rfl⟩:=I.ex
   obtain ⟨l,el1,ll,lp⟩:=I.ys
   rw [List.getElem?_map] at hx
   obtain ⟨c,hc,rfl⟩:=Option.map_eq_some_iff.mp hx
   have hi:i<rs.length:=by rw [← S.len]; exact (List.getElem?_eq_some_iff.mp hc).1
   obtain ⟨vs,hv,pv⟩:=S.at_ i c hc
   refine ⟨pp,_,rfl,SqT.of upd_same,rfl,?_⟩
   have nw:New H' pp (.tup [.int i,.ref c]) (upd H' pp (.tup [.int i,.ref c])):=.mk' hp
   generalize upd H' pp (.tup [.int i,.ref c])=H0 at nw ⊢
   simp_all only []
   refine ⟨Nat.zero_le _,fun pl H2 n2 _=>⟨_,n2.same _ _ (nw.same _ _ (I.same _ _ hv)),_,n2.at_,.inr rfl,?_⟩⟩
   have sm:=(I.same.trans nw.same).trans n2.same
   have he:=sm _ _ Ww.ends
   have keepN:N [some (V.int (i:Nat)),some (V.ref c),some (V.ref el)] ys H2:=hN _ _ _ ⟨⟨_,_,rfl⟩,⟨l,el1,by omega,lp⟩,sm,by omega⟩
   refine ite2 (fun _=>⟨_,.inl he,rfl,flat_ov,?_⟩) (fun _=>keepN)
   rw [in_ov]
   by_cases h0:e0=some i
   ·rw [decide_eq_true h0,Bool.true_or,Bool.not_true,CompN_f]; exact keepN
   ·by_cases h1:e1=some i
    ·rw [decide_eq_true h1,Bool.or_true,Bool.not_true,CompN_f]; exact keepN
    ·rw [decide_eq_false h0,decide_eq_false h1]
     show CompN N ys _ _ true H2
     simp_all only []
     refine hN _ _ _ ⟨⟨_,_,rfl⟩,⟨l++[i],by rw [el1,List.map_append]; rfl,by simp; omega,fun k hk=>?_⟩,sm,by omega⟩
     rcases List.mem_append.mp hk with hk|hk
     ·exact lp k hk
     ·rw [List.mem_singleton] at hk; subst hk; exact ⟨hi,h0,h1⟩
  ·intro τ ys H1 I D1 H2 n2 _
   obtain ⟨l,el1,ll,lp⟩:=I.ys
   rw [el1] at n2
   have s2:Same H H2:=I.same.trans n2.same
   have W2:=Ww.same s2
   simp_all only []
   refine ⟨Nat.zero_le _,fun p3 H3 n3 _=>⟨_,n3.same _ _ n2.at_,_,n3.at_,.inr rfl,?_⟩⟩
   have W3:=W2.same n3.same
   refine ite2 (fun hne=>?_) (fun _=>q rs H3 W3)
   have hl0:0<l.length:=by
    cases l with
    | nil=>simp at hne
    | cons=>simp
   have Da:D1≠a:=fun z=>by
    obtain ⟨xs,ea⟩:=Ww.pot.lst
    have:=n2.no
    rw [z,I.same _ _ ea] at this; cases this
   refine ⟨a,W3.pot,.inl ⟨D1,_,rfl,Da,.inl (n3.same _ _ n2.at_),by rw [List.length_map]; exact hl0,by rw [List.length_map]; have:=I.le; omega,fun v H4 hv b4 hP4=>?_⟩⟩
   obtain ⟨k,hkl,rfl⟩:=List.mem_map.mp hv
   obtain ⟨hk,hk0,hk1⟩:=lp k hkl
   have W4:=W3.potB b4 hP4
   obtain ⟨cnt,D4⟩:=W4.disk
   obtain ⟨dx4,ob4⟩:=D4.ob
   refine ⟨dx4,_,ob4,fl_empty,p,wl,sl,cells,m,_,k,rfl,D4,by show k<(rs.map _).length; rw [List.length_map]; exact hk,fun i=>?_,fun _ z=>(by cases z),fun H5 D5 b5=>?_⟩
   ·rw [DS_getD,List.length_map]
    have:=W4.ok.wide i
    have:=W4.ok.mm
    omega
   rw [empty_DS] at D5 ⊢
   obtain ⟨_,_,S5,_⟩:=W4.diskB (k:=0) (vs:=[]) b5 D5
   obtain ⟨c,vs,hc,ha,hv5,_,_⟩:=S5.cell hk
   show uIx (V.ref sh) (V.int k) H5 (fun x H1=>uR x fun l=>(∃ x,H1 l=some (HO.lst x))∧Q V.non (upd H1 l (HO.lst [])))
   rw [uIx_r]
   exact ⟨_,.inl S5.w,_,ha,c,rfl,⟨_,hv5⟩,q _ _ (W4.done b5 hk D5 hc .nil (W4.ok.clear hk hk0 hk1))⟩
end
abbrev s__law_one_heat:Stmt:=top 67
abbrev s__law_step:Stmt:=top 68
theorem mem_putK {kvs:List (Key×V)} {k:Key} {v:V} {p:Key×V} (h:p∈putK kvs k v):(∃ q∈kvs,q.1=p.1)∨p.1=k:=by
 unfold putK at h
 split at h
 ·obtain ⟨q,hq,e⟩:=List.mem_map.mp h
  by_cases c:q.1=k
  ·rw [if_pos c] at e; exact .inr (by rw [← e]; exact c)
  ·rw [if_neg c] at e; exact .inl ⟨q,hq,by rw [e]⟩
 ·rcases List.mem_append.mp h with h|h
  ·exact .inl ⟨p,h,rfl⟩
  ·rw [List.mem_singleton] at h; exact .inr (by rw [h])
theorem len_putK {kvs:List (Key×V)} {k:Key} {v:V}:(putK kvs k v).length≤kvs.length+1:=by
 unfold putK
 split <;> simp
theorem valV_mem {kvs:List (Key×V)} {k:Key} (h:(valV kvs k).isSome=true):∃ q∈kvs,q.1=k:=by
 rw [← valV_any,List.any_eq_true] at h
 obtain ⟨q,hq,e⟩:=h
 exact ⟨q,hq,of_decide_eq_true e⟩
def HK (U:List Tri) (b:Bool) (kvs:List (Key×V)):Prop:=∀ q∈kvs,∃ n:Nat,q.1 = .inl (n:Int)∧∃ t∈U,hotT t=b∧t.2.1=n
theorem HK.put {U:List Tri} {b:Bool} {kvs:List (Key×V)} (h:HK U b kvs) {n:Nat} {v:V} (ht:∃ t∈U,hotT t=b∧t.2.1=n):HK U b (putK kvs (.inl (n:Int)) v):=fun q hq=>by
 rcases mem_putK hq with ⟨p,hp,e⟩|e
 ·obtain ⟨m,e1,e2⟩:=h p hp; exact ⟨m,by rw [← e]; exact e1,e2⟩
 ·exact ⟨n,e,ht⟩
section
variable {P:Program} {w:World} {K:PySem.W.Frag} {mg:Str→Option Value} {base:Heap} {A:ClsA}
structure HInv (H1:Hp) (p hl d0 d1:Addr) (U:List Tri) (i:Nat) (σ:L2.St) (H':Hp):Prop where
 ex:∃ t1 t2 t3,σ=[some (V.ref p),some (.ref hl),t1,t2,t3]
 same:Keeps [d0,d1] H1 H'
 k0:∃ kvs,H' d0=some (.dK kvs)∧HK U false kvs∧kvs.length≤i
 k1:∃ kvs,H' d1=some (.dK kvs)∧HK U true kvs∧kvs.length≤i
 le:i≤64
structure Hc (H:Hp) (hl:Addr) (τ:L2.St) (ys:List V) (H':Hp):Prop where
 ex:∃ t,τ=[t,some (V.ref hl)]
 ys:ys=[]
 same:H'=H
theorem at2_b {x y:V} {b:Bool}:atI [x,y] (if b=true then 1 else 0)=some (if b then y else x):=by cases b <;> rfl
def spHeat (A:ClsA):Sp:=fun vs H Q _=>∃ (p wl sl:Addr) (cells:List Addr) (rs:List (List OR)) (m cnt:Int) (e0 e1:Option Nat) (num:Int),vs=[.ref p]∧DiskAt A H p wl sl cells m (DS rs cnt)∧SOk rs m e0 e1 num∧TB A H∧∀ H',Q (.bl true) H'
theorem sc__law_one_heat:FnScope ["_law_disk","_law_heats","_law_row_here","_law_stretch","_law_place"] ["_law_disk"] (defScope s__law_one_heat):=⟨rfl,rfl,rfl,by decide +kernel,rfl,by decide +kernel,by decide +kernel⟩
theorem lc__law_one_heat_0:lcStat { kind:=.function,names:=[(Str.ofString ".0",.local),(Str.ofString "_law_stretch",.local),(Str.ofString "_law_heats",.free)],isGenerator:=false,isCoroutine:=false,more:=[] } (defScope s__law_one_heat).names ["_law_disk","_law_heats","_law_row_here","_law_stretch","_law_place"] ["_law_stretch","_law_heats"] [none,some 1]=true:=by decide +kernel
theorem lcn__law_one_heat_0:(["_law_stretch","_law_heats"]:List Str).Nodup:=by decide +kernel
theorem ok__law_one_heat {f:Addr} {fd:FuncData} (F:Fun K "_law_one_heat" "_law_one_heat" s__law_one_heat f fd) (T:Txt w K mg A) (G_whole_rows:GF P w K mg base true 9 "whole_rows" ["disk"] (spWR A)):FnOk P w K mg base CX0 true 10 f fd ["_law_disk"] (spHeat A):=by
 refine F.ok sc__law_one_heat (fun vs H Q E h=>?_) (fun cdv Ar outer s H vs Q E hr h=>?_)
 ·obtain ⟨p,wl,sl,cells,rs,m,cnt,e0,e1,num,rfl,_⟩:=h; rfl
 ·obtain ⟨p,wl,sl,cells,rs,m,cnt,e0,e1,num,rfl,D,ok,tb,q⟩:=h
  have hu:_<cLine:=Nat.lt_of_succ_lt (hu_of hr)
  refine ⟨_,(W.h (w_pss_cons (w_ps_set (i:=1) sc__law_one_heat.nd rfl (Or.inr rfl) (w_pe_lstA (w_pa_p w_pe_dnewA (w_pa_p w_pe_dnewA w_pa_nil))))
   (w_pss_cons (w_ps_for PassesOwn.never (fun _=>rfl) (w_pi_list (w_pe_g G_whole_rows hr rfl (w_pa_p (w_pv 0) w_pa_nil))) (w_pg_tupA (n:=3) (w_pgs_cons (w_pg_name (i:=2) sc__law_one_heat.nd rfl (Or.inl rfl)) (w_pgs_cons (w_pg_name (i:=3) sc__law_one_heat.nd rfl (Or.inl rfl)) (w_pgs_cons (w_pg_name (i:=4) sc__law_one_heat.nd rfl (Or.inl rfl)) w_pgs_nil))))
   (w_pss_one (w_ps_asg w_pe_bl (w_pg_sub (w_pe_ix ix_U (w_pv 1) (w_pe_callTyp call_intT rfl T.n_int boot_int (w_pa_p (w_pe_cmpR (op_neU hu) (w_pe_ix ix_U (w_pv 2) w_pe_int (fun _ _=>rfl)) w_pe_str (nomark _)) w_pa_nil)) (fun _ _=>rfl)) (w_pv 3) (set_D (hu_of hr))))))
   (w_pss_one (w_ps_ret (w_pe_cmpR (op_eqN0 hu) (w_pe_fz (w_pe_lc (fun _=>rfl) (LcOk.of lc__law_one_heat_0) (w_pi_dict (w_pe_ix ix_U (w_pv 1) w_pe_int (fun _ _=>rfl))) (fun _ _ _ _ _=>(w_pg_name (i:=0) lcn__law_one_heat_0 rfl (Or.inl rfl))) (fun _ _ _ _ _=>(w_pts_one (w_pt_cmpR (op_in_dict (hu_of hr)) (w_pv 0) (w_pe_ix ix_U (w_pv 1) w_pe_int (fun _ _=>rfl)) rfl))) (fun _ _ _ _ _=>(w_pv 0)))) (w_pe_lstA w_pa_nil) (nomark _))))))),?_⟩
  simp_all only []
  refine fun d0 H1 n1 d1 H2 n2=>⟨by decide,fun hl H3 n3 _=>?_⟩
  have sm:Same H H3:=(n1.same.trans n2.same).trans n3.same
  refine ⟨p,wl,sl,cells,m,_,rfl,D.sameT (.of sm),ok.tx,ok.nd,ok.lt64,tb.same sm,fun l as H4 s4 tb4 ln _ hl4 ht=>?_⟩
  rw [ok.nU] at ht
  have hlen:=paired_len ht
  have h30:=ok.few
  have slen:(srtK (wO rs rs.length)).length≤30:=by rw [(srt_perm _).length_eq]; exact h30
  have ehl:H4 hl=some (.lst [.ref d0,.ref d1]):=s4.list n3.at_
  have ed0:H4 d0=some (.dK []):=s4 _ _ (fun _=>nofun) (n3.same _ _ (n2.same _ _ n1.at_))
  have ed1:H4 d1=some (.dK []):=s4 _ _ (fun _=>nofun) (n3.same _ _ n2.at_)
  have d01:d0≠d1:=fun z=>by have:=n2.no; rw [← z,n1.at_] at this; cases this
  have nl:∀ {b:Addr} {o:HO},H4 b=some o→(∀ kvs,o≠.dK kvs)→b∉[d0,d1]:=fun {b o} e hn z=>by
   rcases List.mem_cons.mp z with z|z
   ·rw [z,ed0] at e; cases e; exact hn _ rfl
   ·rw [List.mem_singleton] at z; rw [z,ed1] at e; cases e; exact hn _ rfl
  simp_all only []
  refine ⟨⟨_,SqL.of hl4⟩,ForJ.lst (xs:=as.map V.ref) (HInv H4 p hl d0 d1 (wO rs rs.length)) ⟨⟨_,_,_,rfl⟩,Keeps.refl,⟨[],ed0,by simp [HK],Nat.le_refl _⟩,⟨[],ed1,by simp [HK],Nat.le_refl _⟩,by omega⟩ (fun i σ H' _ I=>SqL.of (I.same _ _ hl4 (nl hl4 fun _=>nofun))) ?_ ?_⟩
  ·rintro i x σ H5 hx ⟨⟨t1,t2,t3,rfl⟩,kp,⟨kv0,g0,k0,c0⟩,⟨kv1,g1,k1,c1⟩,le⟩
   rw [List.getElem?_map] at hx
   obtain ⟨a,ha,rfl⟩:=Option.map_eq_some_iff.mp hx
   have hi:i<(srtK (wO rs rs.length)).length:=by rw [← hlen]; exact (List.getElem?_eq_some_iff.mp ha).1
   have hti:(srtK (wO rs rs.length))[i]?=some (srtK (wO rs rs.length))[i]:=List.getElem?_eq_getElem hi
   generalize (srtK (wO rs rs.length))[i]=t at hti
   have htm:=(srt_perm _).mem_iff.mp (List.mem_of_getElem? hti)
   obtain ⟨r,f1,f2⟩:=paired_at ht ha hti
   obtain ⟨n,hot,lr,_⟩:=ok.rows t htm
   obtain ⟨y,ys,et⟩:=lr.hd
   have eh:hotT t = !decide (y=("carry" : Str)):=by unfold hotT; rw [et]
   rw [et] at f2
   have f1':=kp _ _ f1 (nl f1 fun _=>nofun)
   have f2':=kp _ _ f2 (nl f2 fun _=>nofun)
   have ehl':=kp _ _ ehl (nl ehl fun _=>nofun)
   have ix:atI (V.str y::V.int n::ys) 0=some (V.str y):=atI_nat (j:=0) (by simp)
   refine ⟨a,_,rfl,SqT.of f1',rfl,?_⟩
   simp_all only [f2',ix,ehl',at2_b]
   rw [← eh]
   have fin:∀ (d d':Addr) (b:Bool) (kv:List (Key×V)),H5 d=some (.dK kv)→HK (wO rs rs.length) b kv→kv.length≤i→hotT t=b→(d=d0∧d'=d1∧b=false∨d=d1∧d'=d0∧b=true)→rSetD (V.ref d) (V.int t.2.1) (V.bl true) H5 fun H3=>HInv H4 p hl d0 d1 (wO rs rs.length) (i+1) [some (V.ref p),some (V.ref hl),some (V.ref r),some (V.int t.2.1),some (V.int t.2.2)] H3:=fun d d' b kv hd hk hc hb hdd=>by
    rw [rSetD_ri]
    refine .inr ⟨kv,hd,big5' (by omega),?_⟩
    have hk':HK (wO rs rs.length) b (putK kv (.inl (t.2.1:Int)) (.bl true)):=hk.put ⟨t,htm,hb,rfl⟩
    have lk:=len_putK (kvs:=kv) (k:=.inl (t.2.1:Int)) (v:=.bl true)
    have kk:Keeps [d0,d1] H4 (upd H5 d (.dK (putK kv (.inl (t.2.1:Int)) (.bl true)))):=fun c o e n=>by
     rw [upd_ne (fun z=>n (by rcases hdd with ⟨z1,_⟩|⟨z1,_⟩ <;> simp [z,z1]))]
     exact kp c o e n
    rcases hdd with ⟨rfl,rfl,rfl⟩|⟨rfl,rfl,rfl⟩
    ·exact ⟨⟨_,_,_,rfl⟩,kk,⟨_,upd_same,hk',by omega⟩,⟨kv1,by rw [upd_ne (Ne.symm d01)]; exact g1,k1,by omega⟩,by omega⟩
    ·exact ⟨⟨_,_,_,rfl⟩,kk,⟨kv0,by rw [upd_ne d01]; exact g0,k0,by omega⟩,⟨_,upd_same,hk',by omega⟩,by omega⟩
   cases hb:hotT t with
   | true=>exact fin d1 d0 true kv1 g1 k1 c1 hb (.inr ⟨rfl,rfl,rfl⟩)
   | false=>exact fin d0 d1 false kv0 g0 k0 c0 hb (.inl ⟨rfl,rfl,rfl⟩)
  ·rintro σ H5 ⟨⟨t1,t2,t3,rfl⟩,kp,⟨kv0,g0,k0,c0⟩,⟨kv1,g1,k1,c1⟩,le⟩
   have ehl':=kp _ _ ehl (nl ehl fun _=>nofun)
   have a0:atI [V.ref d0,V.ref d1] 0=some (.ref d0):=rfl
   have a1:atI [V.ref d0,V.ref d1] 1=some (.ref d1):=rfl
   have hl0:hl≠d0:=fun z=>by rw [z,g0] at ehl'; cases ehl'
   have hlF:∀ o,upd H5 d0 (.frz o (.dK kv0)) hl=some (.lst [.ref d0,.ref d1]):=fun o=>by rw [upd_ne hl0]; exact ehl'
   simp_all only []
   refine ⟨d0,kv0,g0,fun o=>⟨_,.inl (hlF o),_,a0,d0,rfl,o,kv0,upd_same,CompJ.dct (fun _=>Hc (upd H5 d0 (.frz o (.dK kv0))) hl) (fun i τ ys H' I=>?_) (fun i τ ys H' I=>by rw [I.same]; exact upd_same) ⟨⟨_,rfl⟩,rfl,rfl⟩ ?_ ?_⟩⟩
   ·rw [I.ys]; exact big5' (by simp)
   ·intro N i pr τ ys H' hpr I hN
    obtain ⟨tt,rfl⟩:=I.ex
    have e:=I.same
    subst e
    obtain ⟨n,en,t,ht1,ht2,ht3⟩:=k0 pr (List.mem_of_getElem? hpr)
    rw [en]
    show gName 0 (V.int n) _ _ _
    have hlo:=hlF o
    simp_all only [hlo,a1]
    refine ⟨kv1,.inl (by rw [upd_ne (Ne.symm d01)]; exact g1),?_⟩
    have hno:(valV kv1 (.inl (n:Int))).isSome=false:=by
     cases hv:(valV kv1 (.inl (n:Int))).isSome with
     | false=>rfl
     | true =>
      obtain ⟨q2,hq2,eq2⟩:=valV_mem hv
      obtain ⟨n2,en2,t2,hs1,hs2,hs3⟩:=k1 q2 hq2
      rw [eq2] at en2
      have en3:(n:Int)=n2:=by injection en2
      have:=ok.heat t t2 ht1 hs1 (by omega)
      rw [ht2,hs2] at this
      cases this
    rw [hno]
    simp_all only []
    exact hN _ _ _ ⟨⟨_,rfl⟩,I.ys,rfl⟩
   ·intro τ ys H' I D2 H6 n6
    have e:=I.same
    subst e
    have ey:=I.ys
    subst ey
    refine ⟨o,n6.same _ _ upd_same,Nat.zero_le _,fun p7 H7 n7 _=>?_⟩
    have D2n:D2≠d0:=fun z=>by have:=n6.no; rw [z,upd_same] at this; cases this
    rw [rEqN_rr]
    exact ⟨[],[],n7.same _ _ (by rw [upd_ne D2n]; exact n6.at_),n7.at_,.inl rfl,q H7⟩
def rv (o:Option Nat):Str:=match o with|none=>"None" | some n=>(toString (n:Int):Str)
theorem rep_ov {A':Around} {o:Option Nat} {H:Hp} {Q:VK} (h:∀ n,o=some n→n<2 ^ 64) (q:Q (.str (rv o)) H):rReprV A' [ov o] H Q:=by
 cases o with
 | none=>exact .inr (.inr (.inr (.inr ⟨rfl,q⟩)))
 | some n=>exact .inr (.inr (.inl ⟨n,rfl,log_small (by have:=h n rfl; omega),q⟩))
theorem eq_ov {o o':Option Nat}:scal (ov o) (ov o')=true∧decide (ov o=ov o')=decide (o=o'):=by
 cases o with
 | none =>
  cases o' with
  | none=>exact ⟨rfl,rfl⟩
  | some n=>exact ⟨rfl,rfl⟩
 | some m =>
  cases o' with
  | none=>exact ⟨rfl,rfl⟩
  | some n =>
   refine ⟨rfl,?_⟩
   by_cases h:m=n
   ·rw [decide_eq_true (by rw [h]),decide_eq_true (by rw [h])]
   ·rw [decide_eq_false (fun z=>h (by injection z with z; omega)),decide_eq_false (fun z=>h (by injection z))]
theorem uEq_ov {o o':Option Nat} {H:Hp} {Q:VK} (q:Q (.bl (decide (o=o'))) H):uEq false (ov o) (ov o') H Q:=.inl ⟨eq_ov.1,by show Q (.bl (decide (ov o=ov o'))) H; rw [eq_ov.2]; exact q⟩
theorem WS.wrote {H H':Hp} {a el p wl sl sh:Addr} {cells shc:List Addr} {rs:List (List OR)} {m:Int} {e0 e1 e0' e1':Option Nat} {num num' cnt:Int} {k:Nat} {c:Addr} {vs':List V} {r':List OR} (h:WS A H a el p wl sl sh cells shc rs m e0 e1 num) (b:Keeps (p::wl::sl::cells) H H') (hk:k<rs.length) (D':DiskAt A H' p wl sl cells m (DS (rs.set k r') cnt)) (hc:shc[k]?=some c) (hp:Paired (CellR H') vs' r') (ok:SOk (rs.set k r') m e0' e1' num') :
  WS A (upd (upd H' c (.lst vs')) el (.lst [ov e0',ov e1'])) a el p wl sl sh cells shc (rs.set k r') m e0' e1' num':=by
 obtain ⟨hP,hE,hS,hT⟩:=h.diskB (k:=0) (vs:=[]) b D'
 have hm:=List.mem_of_getElem? hc
 obtain ⟨vs0,hv0,_⟩:=hS.at_ k c hc
 obtain ⟨x,y,e,r⟩:=hP.ex
 obtain ⟨dx,hob⟩:=D'.ob
 have kk:Keeps [c] H' (upd H' c (.lst vs')):=Keeps.upd (by simp)
 have S1:=hS.set hk hc hp
 have D1:DiskAt A (upd H' c (.lst vs')) p wl sl cells m (DS (rs.set k r') cnt):=D'.keep kk fun x hx z=>by
  rw [List.mem_singleton] at z
  rcases List.mem_cons.mp hx with rfl|hx
  ·exact ne_ins hv0 hob z.symm
  ·exact (h.ap x hx).2.2.2 (z ▸ hm)
 have T1:=hT.lists kk (fun x hx=>by rw [List.mem_singleton] at hx; subst hx; exact .inl ⟨_,hv0⟩)
 have E1:upd H' c (.lst vs') el=some (.lst [ov e0,ov e1]):=by rw [upd_ne (fun z:el=c=>h.ap2.2.2.2.2 (by rw [z]; exact hm))]; exact hE
 have P1:upd H' c (.lst vs') a=some (.lst [.int x,.int y]):=by rw [upd_ne (fun z:a=c=>h.ap2.2.2.1 (by rw [z]; exact hm))]; exact e
 generalize upd H' c (.lst vs')=H1 at S1 D1 T1 E1 P1
 obtain ⟨dx1,hob1⟩:=D1.ob
 have kk2:Keeps [el] H1 (upd H1 el (.lst [ov e0',ov e1'])):=Keeps.upd (by simp)
 have hF:∀ x∈[el],(∃ xs,H1 x=some (.lst xs))∨∃ C dx fs,H1 x=some (.ins C dx fs):=fun x hx=>by rw [List.mem_singleton] at hx; subst hx; exact .inl ⟨_,E1⟩
 refine ⟨⟨⟨x,y,by rw [upd_ne h.ap2.1]; exact P1,r⟩⟩,upd_same,⟨cnt,D1.keep kk2 fun x hx z=>?_⟩,S1.keepF kk2 hF (by simpa using fun z=>h.ap2.2.2.2.1 z.symm) (fun c hc z=>by rw [List.mem_singleton] at z; exact h.ap2.2.2.2.2 (z ▸ hc)),h.ap,h.ap2,T1.lists kk2 hF,ok⟩
 rw [List.mem_singleton] at z
 rcases List.mem_cons.mp hx with rfl|hx
 ·exact ne_ins E1 hob1 z.symm
 ·exact (h.ap x hx).2.1 z
theorem ix_b {x y v:V} {b:Bool}:∃ j,ixN ([x,y]:List V).length (if b=true then 1 else 0)=some j∧[x,y].set j v=if b then [x,v] else [v,y]:=by
 cases b
 ·exact ⟨0,rfl,rfl⟩
 ·exact ⟨1,rfl,rfl⟩
theorem at2_nb {x y:V} {b:Bool}:atI [x,y] (1 - if b=true then 1 else 0)=some (if b then x else y):=by cases b <;> rfl
def spStep (A:ClsA):Sp:=fun vs H Q _=>∃ (a el p wl sl sh:Addr) (cells shc:List Addr) (rs:List (List OR)) (m:Int) (e0 e1:Option Nat) (num:Int),vs=[.ref a,.ref p,.ref sh,.ref el,.int num]∧WS A H a el p wl sl sh cells shc rs m e0 e1 num∧num+1≤10 ^ 16 ∧
 ∀ rs' e0' e1' H',WS A H' a el p wl sl sh cells shc rs' m e0' e1' (num+1)→Q (.bl true) H'
theorem sc__law_step:FnScope ["_law_pot_here","_law_disk","_law_shelf","_law_ends","_law_number","_law_is_hot","_law_due_here","_law_row_here"] ["_law_pot_here","_law_disk","_law_shelf","_law_ends","_law_number"] (defScope s__law_step):=⟨rfl,rfl,rfl,by decide +kernel,rfl,by decide +kernel,by decide +kernel⟩
theorem ok__law_step {f:Addr} {fd:FuncData} (F:Fun K "_law_step" "_law_step" s__law_step f fd) (T:Txt w K mg A) (G__law_draw:GF P w K mg base true 1 "_law_draw" ["_law_pot_here","_law_many"] spDraw) (M_Disk_places:GM P w K mg base true 1 A.Disk "places" ["self"] (spRd A fun m _=>.int m)) (G__law_due:GF P w K mg base true 1 "_law_due" ["_law_ends","_law_shelf","_law_places","_law_is_hot"] spDue) (G__law_asked:GF P w K mg base true 12 "_law_asked" ["_law_disk","_law_is_hot"] (spAsked A)) (G__law_made_room:GF P w K mg base true 4 "_law_made_room" ["_law_pot_here","_law_disk","_law_shelf","_law_ends"] (spRoom A)) (G__law_row:GF P w K mg base true 3 "_law_row" ["_law_pot_here","_law_number","_law_is_hot"] spRowL) (G_row_text:GF P w K mg base true 3 "row_text" ["row"] spRowT) (M_Disk_write:GMX P w K mg base true 3 A.Disk "write" ["self","stretch","text"] (spWrite A)) (G_end_of:GF P w K mg base true 10 "end_of" ["disk","is_hot"] (spEnd A)):FnOk P w K mg base CX0 true 13 f fd ["_law_pot_here","_law_disk","_law_shelf","_law_ends","_law_number"] (spStep A):=by
 refine F.ok sc__law_step (fun vs H Q E h=>?_) (fun cdv Ar outer s H vs Q E hr h=>?_)
 ·obtain ⟨a,el,p,wl,sl,sh,cells,shc,rs,m,e0,e1,num,rfl,_⟩:=h; rfl
 ·obtain ⟨a,el,p,wl,sl,sh,cells,shc,rs,m,e0,e1,num,rfl,Ww,hnum,q⟩:=h
  have hu:_<cLine:=Nat.lt_of_succ_lt (hu_of hr)
  have hg:=hr.gd
  refine ⟨_,(W.h (w_pss_cons (w_ps_set (i:=5) sc__law_step.nd rfl (Or.inl rfl) (w_pe_cmpR op_gt (w_pe_g G__law_draw hr rfl (w_pa_p (w_pv 0) (w_pa_p w_pe_int w_pa_nil))) w_pe_int (nomark _)))
   (w_pss_cons (w_ps_set (i:=6) sc__law_step.nd rfl (Or.inl rfl) (w_pe_g G__law_due hr rfl (w_pa_p (w_pv 3) (w_pa_p (w_pv 2) (w_pa_p (w_pe_m0 (w_pv 1) T.cl_Disk M_Disk_places hr) (w_pa_p (w_pv 5) w_pa_nil))))))
   (w_pss_cons (w_ps_if (w_pt_cmpR (op_neU hu) (w_pe_callBp (call_reprV hg) rfl T.n_repr boot_repr (w_pa_p (w_pe_g G__law_asked hr rfl (w_pa_p (w_pv 1) (w_pa_p (w_pv 5) w_pa_nil))) w_pa_nil)) (w_pe_callBp (call_reprV hg) rfl T.n_repr boot_repr (w_pa_p (w_pv 6) w_pa_nil)) (nomark _))
   (w_pss_one (w_ps_ret w_pe_bl))
   w_pss_nil)
   (w_pss_cons (w_ps_if (w_pt_cmpR op_isU (w_pv 6) w_pe_non (nomark _))
   (w_pss_cons (w_ps_expr (w_pe_g G__law_made_room hr rfl (w_pa_p (w_pv 0) (w_pa_p (w_pv 1) (w_pa_p (w_pv 2) (w_pa_p (w_pv 3) w_pa_nil))))))
   (w_pss_one (w_ps_ret w_pe_bl)))
   w_pss_nil)
   (w_pss_cons (w_ps_set (i:=7) sc__law_step.nd rfl (Or.inl rfl) (w_pe_g G__law_row hr rfl (w_pa_p (w_pv 0) (w_pa_p (w_pv 4) (w_pa_p (w_pv 5) w_pa_nil)))))
   (w_pss_cons (w_ps_if (w_pt_cmpR (op_neU hu) (w_pe_mX (w_pv 1) T.cl_Disk throws_none M_Disk_write hr (w_pa_p (w_pv 6) (w_pa_p (w_pe_g G_row_text hr rfl (w_pa_p (w_pv 7) w_pa_nil)) w_pa_nil))) (w_pe_callBp call_lenU rfl T.n_len PySem.boot_len (w_pa_p (w_pe_ix ix_U (w_pv 2) (w_pv 6) (fun _ _=>rfl)) w_pa_nil)) (nomark _))
   (w_pss_one (w_ps_ret w_pe_bl))
   w_pss_nil)
   (w_pss_cons (w_ps_expr (w_pe_append (w_pe_ix ix_U (w_pv 2) (w_pv 6) (fun _ _=>rfl)) (w_pv 7)))
   (w_pss_cons (w_ps_asg (w_pv 6) (w_pg_sub (w_pv 3) (w_pe_callTyp call_intT rfl T.n_int boot_int (w_pa_p (w_pv 5) w_pa_nil)) set_list))
   (w_pss_one (w_ps_ret (w_pe_and (w_pe_cmpR (op_eqU hu) (w_pe_g G_end_of hr rfl (w_pa_p (w_pv 1) (w_pa_p (w_pv 5) w_pa_nil))) (w_pv 6) (nomark _)) (w_pe_one (w_pe_cmpR (op_eqU hu) (w_pe_g G_end_of hr rfl (w_pa_p (w_pv 1) (w_pa_p (w_pe_not (w_pv 5)) w_pa_nil))) (w_pe_ix ix_U (w_pv 3) (w_pe_op op_sub w_pe_int (w_pe_callTyp call_intT rfl T.n_int boot_int (w_pa_p (w_pv 5) w_pa_nil))) (fun _ _=>rfl)) (nomark _))))))))))))))),?_⟩
  simp_all only []
  refine ⟨a,3,rfl,Ww.pot,by decide,by decide,fun r H1 b1 hP1 r0 r1=>?_⟩
  have W1:=Ww.potB b1 hP1
  obtain ⟨cnt,D1⟩:=W1.disk
  obtain ⟨dx1,ob1⟩:=D1.ob
  have ok:=W1.ok
  simp_all only [ob1,fl_places]
  refine ⟨p,wl,sl,cells,m,_,rfl,D1,?_⟩
  generalize decide (r>0)=hot
  simp_all only []
  refine ⟨el,sh,shc,rs,m,e0,e1,hot,rfl,W1.ends,W1.shelf,by have:=ok.len; omega,fun k hk=>isEnd_lt (by have:=ok.endE hot; rw [hk] at this; exact this),fun H2 s2=>?_⟩
  have W2:=W1.same s2
  obtain ⟨cnt2,D2⟩:=W2.disk
  simp_all only []
  refine ⟨p,wl,sl,cells,m,_,hot,rfl,D2,ok.tx,ok.nd,ok.lt64,W2.tb,fun H3 s3 tb3=>?_⟩
  have W3:=W2.sameT s3 tb3
  rw [ok.next]
  have hsm:∀ n,dueS rs m (eo e0 e1 hot)=some n→n<2 ^ 64:=fun n hn=>by have:=(ok.due hn).1; have:=ok.len; omega
  refine rep_ov hsm (rep_ov hsm ?_)
  simp_all only [decide_true]
  cases hd:dueS rs m (eo e0 e1 hot) with
  | none =>
   unfold ov
   simp_all only []
   refine ⟨a,el,p,wl,sl,sh,cells,shc,rs,m,e0,e1,num,rfl,W3,fun rs' H4 W4=>?_⟩
   simp_all only []
   exact q rs' e0 e1 H4 { W4 with ok:=W4.ok.later (by omega) hnum }
  | some k =>
   obtain ⟨hk,hw,hh⟩:=ok.due hd
   unfold ov
   simp_all only []
   refine ⟨a,num,hot,rfl,W3.pot,ok.num1.1,by have:=ok.num1; omega,fun r xs H4 b4 hP4 lr hr4=>?_⟩
   have W4:=W3.potB b4 hP4
   obtain ⟨cnt4,D4⟩:=W4.disk
   obtain ⟨dx4,ob4⟩:=D4.ob
   have rok:=lr.ok ok.num1.1 (by have:=ok.num1; omega)
   obtain ⟨_,rl,_⟩:=rowT_ok lr ok.num1.1 (by have:=ok.num1; omega)
   simp_all only [ob4,fl_write]
   refine ⟨r,xs,rfl,.inr hr4,rok.parts.1,rok.parts.2.2.2,fun H5 s5=>?_⟩
   have W5:=W4.same s5
   have D5:=D4.sameT (.of s5)
   refine ⟨p,wl,sl,cells,m,_,k,_,rfl,D5,by show k<(rs.map _).length; rw [List.length_map]; exact hk,rl,fun i=>?_,fun H6 D6 b6=>?_⟩
   ·rw [DS_getD,List.length_map]; have:=ok.wide i; have:=ok.mm; omega
   rw [write_DS hk hw rl] at D6 ⊢
   obtain ⟨_,_,S6,_⟩:=W5.diskB (k:=0) (vs:=[]) b6 D6
   obtain ⟨c,vs,hc,ha,hv6,pv6,lv6⟩:=S6.cell hk
   unfold Out
   dsimp only
   refine ⟨_,.inl S6.w,_,ha,?_⟩
   rw [uLen_r]
   refine ⟨_,.inl hv6,?_⟩
   rw [lv6]
   simp_all only [decide_true]
   have hcm:=List.mem_of_getElem? hc
   have elc:el≠c:=fun z=>W5.ap2.2.2.2.2 (z ▸ hcm)
   have E6:H6 el=some (.lst [ov e0,ov e1]):=(W5.diskB (k:=0) (vs:=[]) b6 D6).2.1
   obtain ⟨j,hj,hset⟩:=ix_b (x:=ov e0) (y:=ov e1) (v:=V.int k) (b:=hot)
   refine ⟨_,.inl S6.w,_,ha,c,rfl,⟨_,hv6⟩,_,hv6,big5' (by have:=ok.wide k; have:=ok.mm; omega),_,(by rw [upd_ne elc]; exact E6),j,hj,?_⟩
   have eN:[ov e0,ov e1].set j (V.int k)=[ov (nx e0 e1 hot k).1,ov (nx e0 e1 hot k).2]:=by rw [hset]; cases hot <;> rfl
   rw [eN]
   have r6:H6 r=some (.tup xs):=b6 _ _ (s5 _ _ hr4) (fun z=>by
    have ht:=s5 _ _ hr4
    rcases List.mem_cons.mp z with z|z
    ·obtain ⟨dx5,ob5⟩:=D5.ob
     rw [z,ob5] at ht; cases ht
    ·rcases List.mem_cons.mp z with z|z
     ·rw [z,D5.rows.w] at ht; cases ht
     ·rcases List.mem_cons.mp z with z|z
      ·rw [z,D5.sides] at ht; cases ht
      ·obtain ⟨i,hi,ei⟩:=List.getElem_of_mem z
       rw [← ei,D5.rows.at_ i _ (List.getElem?_eq_getElem hi)] at ht; cases ht)
   have ok7:=ok.write hd lr (num':=num+1) (by omega) hnum
   have W7:=W5.wrote b6 hk D6 hc (paired_app pv6 (.cons (show CellR H6 (V.ref r) (some xs) from ⟨r,rfl,r6⟩) .nil)) ok7
   generalize upd (upd H6 c (.lst (vs++[V.ref r]))) el (.lst [ov (nx e0 e1 hot k).1,ov (nx e0 e1 hot k).2])=H7 at W7 ⊢
   obtain ⟨cnt7,D7⟩:=W7.disk
   refine ⟨p,wl,sl,cells,m,_,hot,rfl,D7,ok7.tx,ok7.nd,ok7.lt64,W7.tb,fun H8 s8 tb8=>?_⟩
   have W8:=W7.sameT s8 tb8
   rw [ok7.ends]
   have e1':eo (nx e0 e1 hot k).1 (nx e0 e1 hot k).2 hot=some k:=by cases hot <;> rfl
   have e2':eo (nx e0 e1 hot k).1 (nx e0 e1 hot k).2 (!hot)=if hot then (nx e0 e1 hot k).1 else (nx e0 e1 hot k).2:=by cases hot <;> rfl
   rw [e1']
   refine uEq_ov (o:=some k) (o':=some k) ?_
   simp_all only [decide_true]
   obtain ⟨cnt8,D8⟩:=W8.disk
   refine ⟨p,wl,sl,cells,m,_,!hot,rfl,D8,ok7.tx,ok7.nd,ok7.lt64,W8.tb,fun H9 s9 tb9=>?_⟩
   have W9:=W8.sameT s9 tb9
   rw [ok7.ends,e2']
   refine ⟨_,.inl W9.ends,_,at2_nb,?_⟩
   have eov:(if hot=true then ov (nx e0 e1 hot k).1 else ov (nx e0 e1 hot k).2)=ov (if hot then (nx e0 e1 hot k).1 else (nx e0 e1 hot k).2):=by cases hot <;> rfl
   rw [eov]
   refine uEq_ov ?_
   rw [decide_eq_true rfl]
   exact q _ _ _ H9 W9
end
structure GD (d:PyData) (dp wt:Nat):Prop where
 sh:d.showable=true
 dep:d.depth≤dp
 lv:d.leavesShort 20=true
 wt:d.weight≤wt
theorem gd_int {i:Int} (h0:0≤i) (h1:i<10 ^ 18):GD (.int i) 0 64:=by
 have hb:i.natAbs<2 ^ 60:=by omega
 refine ⟨?_,Nat.le_refl _,?_,?_⟩
 ·simp only [PyData.showable]; exact decide_eq_true (log_small (by omega))
 ·simp only [PyData.leavesShort,PyData.shown]
  have:=num_len h0 h1
  exact decide_eq_true (by first|exact Nat.le_trans this (by decide)|omega)
 ·simp only [PyData.weight]
  split
  ·omega
  ·rename_i hz
   have:i.natAbs.log2<60:=(Nat.log2_lt (by intro z; exact hz (by simp; omega))).mpr hb
   omega
theorem gd_str {z:Str} (ha:asc z=true) (hl:z.length≤20):GD (.str z) 0 64:=by
 refine ⟨by simp only [PyData.showable],Nat.le_refl _,?_,?_⟩
 ·simp only [PyData.leavesShort]
  rw [List.all_eq_true]
  exact fun c hc=>decide_eq_true (by have:=asc_mem ha (c:=c) hc; omega)
 ·simp only [PyData.weight]
  have:z.cps.size≤20:=hl
  omega
theorem gd_bool {b:Bool}:GD (.bool b) 0 64:=⟨by simp only [PyData.showable],Nat.le_refl _,by simp only [PyData.leavesShort],by simp only [PyData.weight]; omega⟩
theorem gd_all {ds:List PyData} {dp wt:Nat} (h:∀ d∈ds,GD d dp wt):PyData.showableAll ds=true∧PyData.depthAll ds≤dp∧PyData.leavesShortAll 20 ds=true∧PyData.weightAll ds≤ds.length*(wt+1):=by
 induction ds with
 | nil=>exact ⟨by simp only [PyData.showableAll],by simp only [PyData.depthAll]; omega,by simp only [PyData.leavesShortAll],by simp [PyData.weightAll]⟩
 | cons d ds ih =>
  obtain ⟨i1,i2,i3,i4⟩:=ih fun x hx=>h x (List.mem_cons_of_mem _ hx)
  have g:=h d (List.mem_cons_self ..)
  refine ⟨by simp only [PyData.showableAll]; rw [g.sh,i1]; rfl,by simp only [PyData.depthAll]; exact Nat.max_le.mpr ⟨g.dep,i2⟩,by simp only [PyData.leavesShortAll]; rw [g.lv,i3]; rfl,?_⟩
  simp only [PyData.weightAll]
  have:=g.wt
  rw [List.length_cons,Nat.add_mul]
  omega
theorem gd_tup {ds:List PyData} {dp wt:Nat} (h:∀ d∈ds,GD d dp wt):GD (.tuple ds) (dp+1) (ds.length*(wt+1)):=by
 obtain ⟨i1,i2,i3,i4⟩:=gd_all h
 exact ⟨by simp only [PyData.showable]; exact i1,by simp only [PyData.depth]; omega,by simp only [PyData.leavesShort]; exact i3,by simp only [PyData.weight]; exact i4⟩
theorem gd_list {ds:List PyData} {dp wt:Nat} (h:∀ d∈ds,GD d dp wt):GD (.list ds) (dp+1) (ds.length*(wt+1)):=by
 obtain ⟨i1,i2,i3,i4⟩:=gd_all h
 exact ⟨by simp only [PyData.showable]; exact i1,by simp only [PyData.depth]; omega,by simp only [PyData.leavesShort]; exact i3,by simp only [PyData.weight]; exact i4⟩
theorem GD.mono {d:PyData} {dp wt wt':Nat} {dp':Nat} (h:GD d dp wt) (h1:dp≤dp') (h2:wt≤wt'):GD d dp' wt':=⟨h.sh,Nat.le_trans h.dep h1,h.lv,Nat.le_trans h.wt h2⟩
theorem gd_rep {A':Around} {H:Hp} {l:Addr} {d:PyData} {Q:VK} {dp wt:Nat} (hd:DatV H (.ref l) d) (g:GD d dp wt) (h1:dp≤10) (h2:wt≤45200) (hu:A'.units+64<cLine) (q:Q (.str d.shown) H):rReprV A' [.ref l] H Q:=by
 refine .inl ⟨l,d,rfl,hd,g.sh,by have:=g.dep; omega,?_,q⟩
 have:=PyData.shown_le 20 (by decide) d g.lv
 have:=g.wt
 exact big5 (by omega)
def datV:V→PyData | .int i=>.int i | .str z=>.str z | .bl b=>.bool b|_=>.none
def datT (t:Tri):PyData:=.tuple [.tuple (t.1.map datV),.int t.2.1,.int t.2.2]
def datL (ts:List Tri):PyData:=.list (ts.map datT)
def datI (l:List Nat):PyData:=.list (l.map fun n:Nat=>.int (n:Int))
theorem lrow_dat {n:Int} {hot:Bool} {xs:List V} (H:Hp) (h:LRow n hot xs) (h1:1≤n) (h2:n<10 ^ 17):DatVs H xs (xs.map datV)∧∀ d∈xs.map datV,GD d 0 64:=by
 have gn:GD (.int n) 0 64:=gd_int (by omega) (by omega)
 have gs:∀ z:Str,asc z=true→z.length≤20→GD (.str z) 0 64:=fun z a b=>gd_str a b
 cases h with
 | hold =>
  refine ⟨.cons (.str _) (.cons (.int _) (.cons (.str _) .nil)),fun d hd=>?_⟩
  simp only [List.map_cons,List.map_nil,datV,List.mem_cons,List.not_mem_nil,or_false] at hd
  rcases hd with rfl|rfl|rfl
  ·exact gs _ (by decide +kernel) (by decide)
  ·exact gn
  ·exact gs _ (by decide +kernel) (by decide)
 | put =>
  refine ⟨.cons (.str _) (.cons (.int _) (.cons (.int _) (.cons (.bl _) (.cons (.str _) (.cons (.int _) (.cons (.str _) .nil)))))),fun d hd=>?_⟩
  simp only [List.map_cons,List.map_nil,datV,List.mem_cons,List.not_mem_nil,or_false] at hd
  rcases hd with rfl|rfl|rfl|rfl|rfl|rfl|rfl
  ·exact gs _ (by decide +kernel) (by decide)
  ·exact gn
  ·exact gn
  ·exact gd_bool
  ·exact gs _ (by decide +kernel) (by decide)
  ·exact gd_int (by decide) (by decide)
  ·exact gs _ (by decide +kernel) (by decide)
 | cut =>
  refine ⟨.cons (.str _) (.cons (.int _) (.cons (.str _) (.cons (.int _) .nil))),fun d hd=>?_⟩
  simp only [List.map_cons,List.map_nil,datV,List.mem_cons,List.not_mem_nil,or_false] at hd
  rcases hd with rfl|rfl|rfl|rfl
  ·exact gs _ (by decide +kernel) (by decide)
  ·exact gn
  ·exact gs _ (by decide +kernel) (by decide)
  ·exact gd_int (by decide) (by decide)
 | carry g g0 g1 =>
  refine ⟨.cons (.str _) (.cons (.int _) (.cons (.int _) (.cons (.str _) .nil))),fun d hd=>?_⟩
  simp only [List.map_cons,List.map_nil,datV,List.mem_cons,List.not_mem_nil,or_false] at hd
  rcases hd with rfl|rfl|rfl|rfl
  ·exact gs _ (by decide +kernel) (by decide)
  ·exact gn
  ·exact gd_int g0 (by omega)
  ·exact gs _ (by decide +kernel) (by decide)
structure TriOk (t:Tri):Prop where
 row:∃ n hot,LRow n hot t.1∧1≤n∧n<10 ^ 17
 small:t.2.1<1000∧t.2.2<1000
theorem tri_dat {H:Hp} {a:Addr} {t:Tri} (h:TriAt H a t) (ok:TriOk t):DatV H (.ref a) (datT t)∧GD (datT t) 2 1503:=by
 obtain ⟨r,e1,e2⟩:=h
 obtain ⟨n,hot,l,l1,l2⟩:=ok.row
 obtain ⟨d1,d2⟩:=lrow_dat H l l1 l2
 have sm:=ok.small
 have hl:=l.len
 refine ⟨.tup e1 (.cons (.tup e2 d1) (.cons (.int _) (.cons (.int _) .nil))),?_⟩
 have g1:GD (.tuple (t.1.map datV)) 1 500:=(gd_tup d2).mono (Nat.le_refl _) (by rw [List.length_map]; omega)
 refine (gd_tup (dp:=1) (wt:=500) fun d hd=>?_).mono (Nat.le_refl _) (by simp)
 simp only [List.mem_cons,List.not_mem_nil,or_false] at hd
 rcases hd with rfl|rfl|rfl
 ·exact g1
 ·exact (gd_int (by omega) (by omega)).mono (by decide) (by decide)
 ·exact (gd_int (by omega) (by omega)).mono (by decide) (by decide)
theorem tris_dat {H:Hp}:∀ {as:List Addr} {ts:List Tri},TriL H as ts→(∀ t∈ts,TriOk t)→DatVs H (as.map V.ref) (ts.map datT)∧∀ d∈ts.map datT,GD d 2 1503
 | _,_,.nil,_=>⟨.nil,by simp⟩
 | _,_,.cons r rs,h=>by
  obtain ⟨a1,a2⟩:=tri_dat r (h _ (List.mem_cons_self ..))
  obtain ⟨b1,b2⟩:=tris_dat rs fun t ht=>h t (List.mem_cons_of_mem _ ht)
  refine ⟨.cons a1 b1,fun d hd=>?_⟩
  rcases List.mem_cons.mp hd with rfl|hd
  ·exact a2
  ·exact b2 d hd
theorem rep_tris {A':Around} {H:Hp} {l:Addr} {as:List Addr} {ts:List Tri} {Q:VK} (ns:l≠sysModules) (hl:H l=some (.lst (as.map V.ref))) (ht:TriL H as ts) (ok:∀ t∈ts,TriOk t) (len:ts.length≤30) (hu:A'.units+64<cLine) (q:Q (.str (datL ts).shown) H):rReprV A' [.ref l] H Q:=by
 obtain ⟨d1,d2⟩:=tris_dat ht ok
 exact gd_rep (.lst ns hl d1) (gd_list d2) (by decide) (by rw [List.length_map]; omega) hu q
theorem ints_dat {H:Hp}:∀ {l:List Nat},(∀ n∈l,n<1000)→DatVs H (l.map iv) (l.map fun n:Nat=>.int (n:Int))∧∀ d∈l.map (fun n:Nat=>PyData.int (n:Int)),GD d 0 64
 | [],_=>⟨.nil,by simp⟩
 | n::l,h=>by
  obtain ⟨b1,b2⟩:=ints_dat (H:=H) fun t ht=>h t (List.mem_cons_of_mem _ ht)
  refine ⟨.cons (.int _) b1,fun d hd=>?_⟩
  rcases List.mem_cons.mp hd with rfl|hd
  ·exact gd_int (by omega) (by have:=h n (List.mem_cons_self ..); omega)
  ·exact b2 d hd
theorem rep_ints {A':Around} {H:Hp} {l:Addr} {ns:List Nat} {Q:VK} (nsy:l≠sysModules) (hl:H l=some (.lst (ns.map iv))) (ok:∀ n∈ns,n<1000) (len:ns.length≤16) (hu:A'.units+64<cLine) (q:Q (.str (datI ns).shown) H):rReprV A' [.ref l] H Q:=by
 obtain ⟨d1,d2⟩:=ints_dat (H:=H) ok
 exact gd_rep (.lst nsy hl d1) (gd_list d2) (by decide) (by rw [List.length_map]; omega) hu q
abbrev s_law:Stmt:=top 69
theorem rep_nil (n i:Nat):(List.replicate n ([]:List OR)).getD i []=[]:=by
 rw [List.getD_eq_getElem?_getD,List.getElem?_replicate]
 split <;> rfl
theorem SOk.new {n:Nat} {m:Int} (h1:3≤n) (h2:n≤6) (h3:2≤m) (h4:m≤5):SOk (List.replicate n []) m none none 1:=by
 have no:∀ t:Tri,t∉wO (List.replicate n []) (List.replicate n ([]:List OR)).length:=fun t ht=>by
  have:=(wO_mem.mp ht).2.1
  rw [rep_nil] at this
  simp at this
 exact ⟨fun t ht=>absurd ht (no t),fun i j hj=>by rw [rep_nil] at hj; simp at hj,by rw [List.length_replicate]; omega,⟨h3,h4⟩,fun i=>by rw [rep_nil]; simp; omega,fun s t hs=>absurd hs (no s),fun t ht=>absurd ht (no t),fun t ht=>absurd ht (no t),fun s t hs=>absurd hs (no s),by decide⟩
theorem new_DS (n:Nat):DM.new n=DS (List.replicate n []) 0:=by
 unfold DM.new DS
 rw [List.map_replicate]; rfl
section
variable {P:Program} {w:World} {K:PySem.W.Frag} {mg:Str→Option Value} {base:Heap} {A:ClsA}
structure LawI (A:ClsA) (sc:V) (a el p wl sl sh:Addr) (cells shc:List Addr) (m:Int) (i:Nat) (σ:L2.St) (H':Hp):Prop where
 ex:∃ (num:Int) (t:Option V) (rs:List (List OR)) (e0 e1:Option Nat),σ=[some sc,some (V.ref a),some (.ref p),some (.ref sh),some (.ref el),some (.int num),t]∧WS A H' a el p wl sl sh cells shc rs m e0 e1 num∧num≤1+2*i
def spLaw (t1 t2:Addr) (K:PySem.W.Frag):Sp:=fun vs H Q _=>∃ (a:Addr) (ns:List Int),vs=[.ref a]∧SqL K H a (ns.map V.int)∧ns.length≤63∧H t1=some (.tbl #[])∧H t2=some (.tbl #[])∧t1≠t2∧∀ H',Q (.bl true) H'
theorem sc_law:FnScope ["_law_script","_law_pot_here","_law_disk","_law_shelf","_law_ends","_law_number","_law_turn"] ["_law_script"] (defScope s_law):=⟨rfl,rfl,rfl,by decide +kernel,rfl,by decide +kernel,by decide +kernel⟩
theorem lc_law_0:lcStat { kind:=.function,names:=[(Str.ofString ".0",.local),(Str.ofString "_law_k",.local)],isGenerator:=false,isCoroutine:=false,more:=[] } (defScope s_law).names ["_law_script","_law_pot_here","_law_disk","_law_shelf","_law_ends","_law_number","_law_turn"] ["_law_k"] [none]=true:=by decide +kernel
theorem lcn_law_0:(["_law_k"]:List Str).Nodup:=by decide +kernel
theorem lc_law_1:lcStat { kind:=.function,names:=[(Str.ofString ".0",.local),(Str.ofString "_law_k",.local),(Str.ofString "_law_rows_here",.local)],isGenerator:=false,isCoroutine:=false,more:=[] } (defScope s_law).names ["_law_script","_law_pot_here","_law_disk","_law_shelf","_law_ends","_law_number","_law_turn"] ["_law_k","_law_rows_here"] [none,none]=true:=by decide +kernel
theorem lcn_law_1:(["_law_k","_law_rows_here"]:List Str).Nodup:=by decide +kernel
theorem ok_law {f:Addr} {fd:FuncData} (F:Fun K "law" "law" s_law f fd) (T:Txt w K mg A) (G__law_pot:GF P w K mg base true 2 "_law_pot" ["_law_script","_law_k"] (spPot K)) (G__law_draw:GF P w K mg base true 1 "_law_draw" ["_law_pot_here","_law_many"] spDraw) (G_Disk:GCX P w K mg base true 3 "Disk" A.Disk ["self","stretches","places"] (spInit A)) (M_Disk_stretches:GM P w K mg base true 1 A.Disk "stretches" ["self"] (spRd A fun _ d=>.int d.rows.length)) (G__law_step:GF P w K mg base true 13 "_law_step" ["_law_pot_here","_law_disk","_law_shelf","_law_ends","_law_number"] (spStep A)) (G_empties:GF P w K mg base true 2 "empties" ["disk"] (spEmpties A)) (G_whole_rows:GF P w K mg base true 9 "whole_rows" ["disk"] (spWR A)) (G__law_rows:GF P w K mg base true 1 "_law_rows" ["_law_shelf"] (spLRows A)) (G__law_one_heat:GF P w K mg base true 10 "_law_one_heat" ["_law_disk"] (spHeat A)):FnOk P w K mg base CX0 true 14 f fd ["_law_script"] (spLaw A.t_whole_rows A.t__law_rows K):=by
 refine F.ok sc_law (fun vs H Q E h=>?_) (fun cdv Ar outer s H vs Q E hr h=>?_)
 ·obtain ⟨a,ns,rfl,_⟩:=h; rfl
 ·obtain ⟨sc,ns,rfl,hS,hl,hT1,hT2,hT3,q⟩:=h
  have hu:_<cLine:=Nat.lt_of_succ_lt (hu_of hr)
  have hg:=hr.gd
  have h64:=hr.units
  refine ⟨_,(W.h (w_pss_cons (w_ps_set (i:=1) sc_law.nd rfl (Or.inl rfl) (w_pe_g G__law_pot hr rfl (w_pa_p (w_pv 0) (w_pa_p w_pe_int w_pa_nil))))
   (w_pss_cons (w_ps_set (i:=2) sc_law.nd rfl (Or.inl rfl) (w_pe_cX throws_none G_Disk hr rfl (w_pa_p (w_pe_op op_addU w_pe_int (w_pe_g G__law_draw hr rfl (w_pa_p (w_pv 1) (w_pa_p w_pe_int w_pa_nil)))) (w_pa_p (w_pe_op op_addU w_pe_int (w_pe_g G__law_draw hr rfl (w_pa_p (w_pv 1) (w_pa_p w_pe_int w_pa_nil)))) w_pa_nil))))
   (w_pss_cons (w_ps_setLC (i0:=3) sc_law.nd rfl (Or.inl rfl) (fun _=>rfl) (LcOk.of lc_law_0) (w_pi_range1p rfl T.n_range (w_pa_p (w_pe_m0 (w_pv 2) T.cl_Disk M_Disk_stretches hr) w_pa_nil)) (fun _ _ _ _ _=>(w_pg_name (i:=0) lcn_law_0 rfl (Or.inl rfl))) (fun _ _ _ _ _=>w_pts_nil) (fun _ _ _ _ _=>(w_pe_lstA w_pa_nil)))
   (w_pss_cons (w_ps_set (i:=4) sc_law.nd rfl (Or.inl rfl) (w_pe_lstA (w_pa_p w_pe_non (w_pa_p w_pe_non w_pa_nil))))
   (w_pss_cons (w_ps_set (i:=5) sc_law.nd rfl (Or.inl rfl) w_pe_int)
   (w_pss_cons (w_ps_for PassesOwn.never (fun _=>rfl) (w_pi_range1p rfl T.n_range (w_pa_p (w_pe_g G__law_draw hr rfl (w_pa_p (w_pv 1) (w_pa_p w_pe_int w_pa_nil))) w_pa_nil)) (w_pg_name (i:=6) sc_law.nd rfl (Or.inl rfl))
   (w_pss_cons (w_ps_if (w_pt_not (w_pt_tru (w_pe_g G__law_step hr rfl (w_pa_p (w_pv 1) (w_pa_p (w_pv 2) (w_pa_p (w_pv 3) (w_pa_p (w_pv 4) (w_pa_p (w_pv 5) w_pa_nil))))))))
   (w_pss_one (w_ps_ret w_pe_bl))
   w_pss_nil)
   (w_pss_cons (w_ps_aug (i:=5) sc_law.nd rfl (Or.inl rfl) (w_pe_op op_addU w_pe_int (w_pe_op op_fdiv (w_pe_g G__law_draw hr rfl (w_pa_p (w_pv 1) (w_pa_p w_pe_int w_pa_nil))) w_pe_int)) ip_add)
   (w_pss_one (w_ps_if (w_pt_cmpR (op_neU hu) (w_pe_callBp (call_reprV hg) rfl T.n_repr boot_repr (w_pa_p (w_pe_g G_empties hr rfl (w_pa_p (w_pv 2) w_pa_nil)) w_pa_nil)) (w_pe_callBp (call_reprV hg) rfl T.n_repr boot_repr (w_pa_p (w_pe_lc (fun _=>rfl) (LcOk.of lc_law_1) (w_pi_enumL rfl T.n_enumerate (w_pa_p (w_pv 3) w_pa_nil)) (fun _ _ _ _ _=>(w_pg_tupL (n:=2) (w_pgs_cons (w_pg_name (i:=0) lcn_law_1 rfl (Or.inl rfl)) (w_pgs_cons (w_pg_name (i:=1) lcn_law_1 rfl (Or.inl rfl)) w_pgs_nil)))) (fun _ _ _ _ _=>(w_pts_one (w_pt_cmpR (op_eqN0 hu) (w_pv 1) (w_pe_lstA w_pa_nil) (nomark _)))) (fun _ _ _ _ _=>(w_pv 0))) w_pa_nil)) (nomark _))
   (w_pss_one (w_ps_ret w_pe_bl))
   w_pss_nil)))))
   (w_pss_one (w_ps_ret (w_pe_and (w_pe_cmpR (op_eqU hu) (w_pe_callBp (call_reprV hg) rfl T.n_repr boot_repr (w_pa_p (w_pe_g G_whole_rows hr rfl (w_pa_p (w_pv 2) w_pa_nil)) w_pa_nil)) (w_pe_callBp (call_reprV hg) rfl T.n_repr boot_repr (w_pa_p (w_pe_g G__law_rows hr rfl (w_pa_p (w_pv 3) w_pa_nil)) w_pa_nil)) (nomark _)) (w_pe_one (w_pe_g G__law_one_heat hr rfl (w_pa_p (w_pv 2) w_pa_nil))))))))))))),?_⟩
  have tb0:TB A H:=⟨.inl hT1,.inl hT2,hT3⟩
  simp_all only []
  refine ⟨sc,ns,0,rfl,hS,by omega,fun a H1 s1 a0 hP1=>?_⟩
  have tb1:=tb0.same s1
  simp_all only []
  refine ⟨a,4,rfl,hP1,by decide,by decide,fun r1 H2 b2 hP2 r10 r11=>?_⟩
  simp_all only []
  refine ⟨a,4,rfl,hP2,by decide,by decide,fun r2 H3 b3 hP3 r20 r21=>?_⟩
  have lst:∀ {H:Hp},Pot H a→∀ x∈[a],(∃ xs,H x=some (.lst xs))∨∃ C dx fs,H x=some (.ins C dx fs):=fun {H} h x hx=>by
   rw [List.mem_singleton] at hx; subst hx
   obtain ⟨xs,e⟩:=h.lst
   exact .inl ⟨xs,e⟩
  have kb:∀ {H H':Hp},But a H H'→Keeps [a] H H':=fun {H H'} b c o e n=>b c o (fun z=>n (by simp [z])) e
  have tb3:TB A H3:=(tb1.lists (kb b2) (lst hP1)).lists (kb b3) (lst hP2)
  simp_all only []
  refine fun p dxp H4 nI=>⟨p,dxp,3+r1,2+r2,rfl,nI.at_,by omega,by omega,by omega,by omega,fun wl sl cells H5 D5 k5 f5=>⟨rfl,?_⟩⟩
  rw [new_DS] at D5
  obtain ⟨dx5,ob5⟩:=D5.ob
  have hn1:3≤(3+r1).toNat:=by omega
  have hn2:(3+r1).toNat≤6:=by omega
  generalize (3+r1).toNat=n at D5 hn1 hn2
  have hm1:2≤2+r2:=by omega
  have hm2:2+r2≤5:=by omega
  generalize 2+r2=m at D5 hm1 hm2 ob5
  have P4:=hP3.same nI.same
  obtain ⟨xa,ya,ea,ra⟩:=P4.ex
  have ap:a≠p:=fun z=>by rw [z,nI.at_] at ea; cases ea
  have kp5:Keeps [p] H4 H5:=fun c o e n=>k5 c o e (fun z=>n (by simp [z]))
  have tb5:TB A H5:=(tb3.same nI.same).lists kp5 (fun x hx=>by rw [List.mem_singleton] at hx; subst hx; exact .inr ⟨_,_,_,nI.at_⟩)
  have P5:Pot H5 a:=⟨⟨xa,ya,k5 _ _ ea ap,ra⟩⟩
  have f5a:∀ x∈wl::sl::cells,x≠a:=fun x hx z=>by have:=f5 x hx; rw [z,ea] at this; cases this
  have D5H:∀ x∈wl::sl::cells,∃ o,H5 x=some o:=fun x hx=>by
   rcases List.mem_cons.mp hx with rfl|hx
   ·exact ⟨_,D5.rows.w⟩
   ·rcases List.mem_cons.mp hx with rfl|hx
    ·exact ⟨_,D5.sides⟩
    ·obtain ⟨i,hi,rfl⟩:=List.getElem_of_mem hx
     exact ⟨_,D5.rows.at_ i _ (List.getElem?_eq_getElem hi)⟩
  refine ⟨dx5,_,ob5,fl_stretches,p,wl,sl,cells,m,_,rfl,D5,?_⟩
  have er:(DS (List.replicate n []) 0).rows.length=n:=by show (List.map _ _).length=n; rw [List.length_map,List.length_replicate]
  simp_all only []
  have et:((n:Nat):Int).toNat=n:=by omega
  rw [er,et]
  refine ⟨by omega,by omega,CompJ.rng (CellInv H5) (fun i τ ys H' I=>?_) ⟨⟨_,rfl⟩,⟨[],rfl,rfl,by simp,List.nodup_nil⟩,Same.refl _,by decide⟩ ?_ ?_⟩
  ·obtain ⟨cs,e,l,_⟩:=I.ex
   rw [e,List.length_map,l]
   exact big5' (by have:=I.le; omega)
  ·intro N i τ ys H' hi I hN
   obtain ⟨t,rfl⟩:=I.τ
   obtain ⟨cs,e,l,hc,hcn⟩:=I.ex
   simp_all only []
   refine ⟨Nat.zero_le _,fun c H6 n6 _=>hN _ _ _ ⟨⟨_,rfl⟩,⟨cs++[c],by rw [e]; simp,by simp [l],fun x hx=>?_,?_⟩,I.same.trans n6.same,by omega⟩⟩
   ·rcases List.mem_append.mp hx with hx|hx
    ·exact ⟨n6.same _ _ (hc x hx).1,(hc x hx).2⟩
    ·rw [List.mem_singleton] at hx; subst hx; exact ⟨n6.at_,I.same.free n6.no⟩
   ·rw [List.nodup_append]
    refine ⟨hcn,by simp,fun x hx y hy z=>?_⟩
    rw [List.mem_singleton] at hy
    have:=(hc x hx).1
    rw [z,hy,n6.no] at this
    cases this
  ·intro τ ys H6 I sh H7 n7
   obtain ⟨shc,e,lc,hc,hcn⟩:=I.ex
   rw [e] at n7
   have s57:Same H5 H7:=I.same.trans n7.same
   refine ⟨by decide,fun el H8 n8 _=>?_⟩
   have s58:Same H5 H8:=s57.trans n8.same
   have shn:sh∉shc:=fun z=>by have:=n7.no; rw [(hc sh z).1] at this; cases this
   have rep:∀ i c,shc[i]?=some c→H8 c=some (.lst []):=fun i c h=>n8.same _ _ (n7.same _ _ (hc c (List.mem_of_getElem? h)).1)
   have S8:ShelfAt H8 sh shc (List.replicate n []):=⟨n8.same _ _ n7.at_,by rw [List.length_replicate]; exact lc,fun i c h=>⟨[],rep i c h,by rw [rep_nil]; exact .nil⟩,List.nodup_cons.mpr ⟨shn,hcn⟩⟩
   have fr:∀ x o,H5 x=some o→x≠el∧x≠sh∧x∉shc:=fun x o h=>by
    refine ⟨fun z=>?_,fun z=>?_,fun z=>?_⟩
    ·have:=n8.no; rw [← z,s57 _ _ h] at this; cases this
    ·have:=n7.no; rw [← z,I.same _ _ h] at this; cases this
    ·have:=(hc x z).2; rw [h] at this; cases this
   obtain ⟨x5,y5,ea5,r5⟩:=P5.ex
   have W8:WS A H8 a el p wl sl sh cells shc (List.replicate n []) m none none 1:=by
    refine ⟨P5.same s58,n8.at_,⟨0,D5.sameT (.of s58)⟩,S8,fun x hx=>?_,?_,tb5.same s58,SOk.new hn1 hn2 hm1 hm2⟩
    ·obtain ⟨o,ho⟩:=D5H x hx
     obtain ⟨g1,g2,g3⟩:=fr x o ho
     exact ⟨f5a x hx,g1,g2,g3⟩
    ·obtain ⟨g1,g2,g3⟩:=fr a _ ea5
     refine ⟨g1,g2,g3,fun z=>?_,fun z=>?_⟩
     ·have:=n8.no; rw [z,n7.at_] at this; cases this
     ·have:=n8.no; rw [n7.same _ _ (hc el z).1] at this; cases this
   refine ⟨a,25,rfl,W8.pot,by decide,by decide,fun r H9 b9 hP9 r0 r1=>?_⟩
   have W9:=W8.potB b9 hP9
   simp_all only []
   refine ⟨by omega,by omega,ForJ.rng (LawI A (.ref sc) a el p wl sl sh cells shc m) ⟨1,_,_,none,none,rfl,W9,by omega⟩ ?_ ?_⟩
   ·rintro i σ Ha hi ⟨num,t,rs,e0,e1,rfl,Wa,hnum⟩
    simp_all only []
    refine ⟨a,el,p,wl,sl,sh,cells,shc,rs,m,e0,e1,num,rfl,Wa,by omega,fun rs' e0' e1' Hb Wb=>?_⟩
    simp_all only []
    refine ⟨a,3,rfl,Wb.pot,by decide,by decide,fun d Hc bc hPc d0 d1=>?_⟩
    have Wc:=Wb.potB bc hPc
    obtain ⟨cntc,Dc⟩:=Wc.disk
    have okc:=Wc.ok
    have hlc:=okc.len
    have eE:emp (DS rs' cntc).rows (DS rs' cntc).rows.length=empO rs' rs'.length:=by
     rw [emp_DS]
     show empO rs' (List.map _ rs').length=_
     rw [List.length_map]
    have sml:∀ n∈empO rs' rs'.length,n<1000:=fun n hn=>by have:=(empO_mem hn).1; omega
    have few:(empO rs' rs'.length).length≤16:=by have:=empO_len rs' rs'.length; omega
    simp_all only []
    refine ⟨⟨by decide,by decide⟩,p,wl,sl,cells,m,_,rfl,Dc,by show (List.map _ rs').length≤16; rw [List.length_map]; omega,fun l Hd nd ns=>?_⟩
    rw [eE] at nd
    have Wd:=Wc.same nd.same
    refine rep_ints ns nd.at_ sml few h64 ⟨⟨_,SqL.of Wd.shelf.w⟩,due_comp Wd.shelf (by omega) fun l2 He se _ ns2 h2=>rep_ints ns2 h2 sml few h64 ?_⟩
    have We:=Wd.same se
    simp_all only [decide_true]
    exact ⟨_,_,rs',e0',e1',rfl,{ We with ok:=We.ok.later (by omega) (by omega) },by omega⟩
   ·rintro σ Ha ⟨num,t,rs,e0,e1,rfl,Wa,hnum⟩
    obtain ⟨cnta,Da⟩:=Wa.disk
    have ok:=Wa.ok
    have triok:∀ t∈srtK (wO rs rs.length),TriOk t:=fun t ht=>by
     have hm:=(srt_perm _).mem_iff.mp ht
     obtain ⟨n,hot,l,l1,l2⟩:=ok.rows t hm
     obtain ⟨g1,g2,_⟩:=wO_mem.mp hm
     have:=ok.len
     have:=ok.wide t.2.1
     have:=ok.mm
     exact ⟨⟨n,hot,l,l1,by have:=ok.num1; omega⟩,by omega,by omega⟩
    have few:(srtK (wO rs rs.length)).length≤30:=by rw [(srt_perm _).length_eq]; exact ok.few
    simp_all only []
    refine ⟨p,wl,sl,cells,m,_,rfl,Da,ok.tx,ok.nd,ok.lt64,Wa.tb,fun l as Hb sb tbb ln ns hlb ht=>?_⟩
    rw [ok.nU] at ht
    refine rep_tris ns hlb ht triok few h64 ?_
    have Wb:=Wa.sameT sb tbb
    refine ⟨sh,shc,rs,rfl,Wb.shelf,by have:=ok.len; omega,fun i=>by have:=ok.wide i; have:=ok.mm; omega,fun t ht=>?_,keys_nd ok.inj,by have:=ok.few; omega,tbb,fun l2 as2 Hc sc2 tbc ln2 ns2 hl2 ht2=>?_⟩
    ·obtain ⟨n,hot,l,_⟩:=ok.rows t ht
     obtain ⟨y,ys,e⟩:=l.hd
     exact ⟨y,n,ys,e⟩
    refine rep_tris ns2 hl2 ht2 triok few h64 ?_
    simp_all only [decide_true]
    have Wc:=Wb.sameT sc2 tbc
    obtain ⟨cntc,Dc⟩:=Wc.disk
    exact ⟨p,wl,sl,cells,rs,m,cntc,e0,e1,num,rfl,Dc,ok,tbc,q⟩
end
theorem all_mk {l:PySem.W.OpenLaw} {w:World} {K:PySem.W.Frag} {h:Heap} {mg:Str→Option Value} {fa:Addr} {a_CleanError:Addr} {a_NoRow:Addr} {a_NoDisk:Addr} {a_Full:Addr} {a_Stopped:Addr} {a_NoFile:Addr} {a_NoPlace:Addr} {a_HeldAlready:Addr} {a_NotHeld:Addr} {a_NoFiles:Addr} {a_NoMark:Addr} {a_NoRoom:Addr} {a_Gone:Addr} {a_NotClosed:Addr} {a_NotBlank:Addr} {a_NoDeed:Addr} {a_NoHouse:Addr} {a_Disk:Addr} {f_0:Addr} {od_0 an_0:Option Addr} {sl_0:Array (Option Value)} {oc_0 kV_0 dc_0 pm_0 cd_0 ct_0:Value} {f_1:Addr} {od_1 an_1:Option Addr} {sl_1:Array (Option Value)} {oc_1 kV_1 dc_1 pm_1 cd_1 ct_1:Value} {f_2:Addr} {od_2 an_2:Option Addr} {sl_2:Array (Option Value)} {oc_2 kV_2 dc_2 pm_2 cd_2 ct_2:Value} {f_3:Addr} {od_3 an_3:Option Addr} {sl_3:Array (Option Value)} {oc_3 kV_3 dc_3 pm_3 cd_3 ct_3:Value} {f_4:Addr} {od_4 an_4:Option Addr} {sl_4:Array (Option Value)} {oc_4 kV_4 dc_4 pm_4 cd_4 ct_4:Value} {f_5:Addr} {od_5 an_5:Option Addr} {sl_5:Array (Option Value)} {oc_5 kV_5 dc_5 pm_5 cd_5 ct_5:Value} {f_6:Addr} {od_6 an_6:Option Addr} {sl_6:Array (Option Value)} {oc_6 kV_6 dc_6 pm_6 cd_6 ct_6:Value} {f_7:Addr} {od_7 an_7:Option Addr} {sl_7:Array (Option Value)} {oc_7 kV_7 dc_7 pm_7 cd_7 ct_7:Value} {f_8:Addr} {od_8 an_8:Option Addr} {sl_8:Array (Option Value)} {oc_8 kV_8 dc_8 pm_8 cd_8 ct_8:Value} {f_9:Addr} {od_9 an_9:Option Addr} {sl_9:Array (Option Value)} {oc_9 kV_9 dc_9 pm_9 cd_9 ct_9:Value} {f_10:Addr} {od_10 an_10:Option Addr} {sl_10:Array (Option Value)} {oc_10 kV_10 dc_10 pm_10 cd_10 ct_10:Value} {f_11:Addr} {od_11 an_11:Option Addr} {sl_11:Array (Option Value)} {oc_11 kV_11 dc_11 pm_11 cd_11 ct_11:Value} {f_12:Addr} {od_12 an_12:Option Addr} {sl_12:Array (Option Value)} {oc_12 kV_12 dc_12 pm_12 cd_12 ct_12:Value} {f_13:Addr} {od_13 an_13:Option Addr} {sl_13:Array (Option Value)} {oc_13 kV_13 dc_13 pm_13 cd_13 ct_13:Value} {f_14:Addr} {od_14 an_14:Option Addr} {sl_14:Array (Option Value)} {oc_14 kV_14 dc_14 pm_14 cd_14 ct_14:Value} {f_15:Addr} {od_15 an_15:Option Addr} {sl_15:Array (Option Value)} {oc_15 kV_15 dc_15 pm_15 cd_15 ct_15:Value} {f_16:Addr} {od_16 an_16:Option Addr} {sl_16:Array (Option Value)} {oc_16 kV_16 dc_16 pm_16 ct_16:Value} {cc_16 tt_16:Addr} {f_17:Addr} {od_17 an_17:Option Addr} {sl_17:Array (Option Value)} {oc_17 kV_17 dc_17 pm_17 cd_17 ct_17:Value} {f_18:Addr} {od_18 an_18:Option Addr} {sl_18:Array (Option Value)} {oc_18 kV_18 dc_18 pm_18 cd_18 ct_18:Value} {f_19:Addr} {od_19 an_19:Option Addr} {sl_19:Array (Option Value)} {oc_19 kV_19 dc_19 pm_19 cd_19 ct_19:Value} {f_20:Addr} {od_20 an_20:Option Addr} {sl_20:Array (Option Value)} {oc_20 kV_20 dc_20 pm_20 cd_20 ct_20:Value} {f_21:Addr} {od_21 an_21:Option Addr} {sl_21:Array (Option Value)} {oc_21 kV_21 dc_21 pm_21 cd_21 ct_21:Value} {f_22:Addr} {od_22 an_22:Option Addr} {sl_22:Array (Option Value)} {oc_22 kV_22 dc_22 pm_22 cd_22 ct_22:Value} {f_23:Addr} {od_23 an_23:Option Addr} {sl_23:Array (Option Value)} {oc_23 kV_23 dc_23 pm_23 cd_23 ct_23:Value} {f_24:Addr} {od_24 an_24:Option Addr} {sl_24:Array (Option Value)} {oc_24 kV_24 dc_24 pm_24 cd_24 ct_24:Value} {f_25:Addr} {od_25 an_25:Option Addr} {sl_25:Array (Option Value)} {oc_25 kV_25 dc_25 pm_25 cd_25 ct_25:Value} {f_26:Addr} {od_26 an_26:Option Addr} {sl_26:Array (Option Value)} {oc_26 kV_26 dc_26 pm_26 cd_26 ct_26:Value} {f_27:Addr} {od_27 an_27:Option Addr} {sl_27:Array (Option Value)} {oc_27 kV_27 dc_27 pm_27 cd_27 ct_27:Value} {f_28:Addr} {od_28 an_28:Option Addr} {sl_28:Array (Option Value)} {oc_28 kV_28 dc_28 pm_28 cd_28 ct_28:Value} {f_29:Addr} {od_29 an_29:Option Addr} {sl_29:Array (Option Value)} {oc_29 kV_29 dc_29 pm_29 cd_29 ct_29:Value} {f_30:Addr} {od_30 an_30:Option Addr} {sl_30:Array (Option Value)} {oc_30 kV_30 dc_30 pm_30 cd_30 ct_30:Value} {f_31:Addr} {od_31 an_31:Option Addr} {sl_31:Array (Option Value)} {oc_31 kV_31 dc_31 pm_31 cd_31 ct_31:Value} {f_32:Addr} {od_32 an_32:Option Addr} {sl_32:Array (Option Value)} {oc_32 kV_32 dc_32 pm_32 cd_32 ct_32:Value} {f_33:Addr} {od_33 an_33:Option Addr} {sl_33:Array (Option Value)} {oc_33 kV_33 dc_33 pm_33 cd_33 ct_33:Value} {f_34:Addr} {od_34 an_34:Option Addr} {sl_34:Array (Option Value)} {oc_34 kV_34 dc_34 pm_34 cd_34 ct_34:Value} {f_35:Addr} {od_35 an_35:Option Addr} {sl_35:Array (Option Value)} {oc_35 kV_35 dc_35 pm_35 cd_35 ct_35:Value} {f_36:Addr} {od_36 an_36:Option Addr} {sl_36:Array (Option Value)} {oc_36 kV_36 dc_36 pm_36 ct_36:Value} {cc_36 tt_36:Addr} {f_37:Addr} {od_37 an_37:Option Addr} {sl_37:Array (Option Value)} {oc_37 kV_37 dc_37 pm_37 cd_37 ct_37:Value} {f_38:Addr} {od_38 an_38:Option Addr} {sl_38:Array (Option Value)} {oc_38 kV_38 dc_38 pm_38 cd_38 ct_38:Value} {f_39:Addr} {od_39 an_39:Option Addr} {sl_39:Array (Option Value)} {oc_39 kV_39 dc_39 pm_39 cd_39 ct_39:Value} {f_40:Addr} {od_40 an_40:Option Addr} {sl_40:Array (Option Value)} {oc_40 kV_40 dc_40 pm_40 cd_40 ct_40:Value} {f_41:Addr} {od_41 an_41:Option Addr} {sl_41:Array (Option Value)} {oc_41 kV_41 dc_41 pm_41 cd_41 ct_41:Value} {f_42:Addr} {od_42 an_42:Option Addr} {sl_42:Array (Option Value)} {oc_42 kV_42 dc_42 pm_42 cd_42 ct_42:Value} {f_43:Addr} {od_43 an_43:Option Addr} {sl_43:Array (Option Value)} {oc_43 kV_43 dc_43 pm_43 cd_43 ct_43:Value} {t_FIGURES:Tok} {t_LETTERS:Tok} {t_MOST_FIGURES:Tok} {t_MOST_LETTERS:Tok} {t_MOST_SIGNS:Tok} {t_MODULUS:Tok} {t_COLD_KIND:Tok} {t_LEAST_STRETCHES:Tok} {t_MOST_STRETCHES:Tok} {t_LEAST_PLACES:Tok} {t_MOST_PLACES:Tok} {a_PARTS:Addr} {n_PARTS:Nat} {a_PARTS_put:Addr} {t_PARTS_put:Tok} {n_PARTS_put:Nat} {d_PARTS_put:Option Addr} {s_PARTS_put:Array (Option Value)} {t_PARTS_put_0:Tok} {t_PARTS_put_1:Tok} {t_PARTS_put_2:Tok} {t_PARTS_put_3:Tok} {t_PARTS_put_4:Tok} {t_PARTS_put_5:Tok} {a_PARTS_cut:Addr} {t_PARTS_cut:Tok} {n_PARTS_cut:Nat} {d_PARTS_cut:Option Addr} {s_PARTS_cut:Array (Option Value)} {t_PARTS_cut_0:Tok} {t_PARTS_cut_1:Tok} {t_PARTS_cut_2:Tok} {a_PARTS_hold:Addr} {t_PARTS_hold:Tok} {n_PARTS_hold:Nat} {d_PARTS_hold:Option Addr} {s_PARTS_hold:Array (Option Value)} {t_PARTS_hold_0:Tok} {t_PARTS_hold_1:Tok} {a_PARTS_free:Addr} {t_PARTS_free:Tok} {n_PARTS_free:Nat} {d_PARTS_free:Option Addr} {s_PARTS_free:Array (Option Value)} {t_PARTS_free_0:Tok} {t_PARTS_free_1:Tok} {a_PARTS_carry:Addr} {t_PARTS_carry:Tok} {n_PARTS_carry:Nat} {d_PARTS_carry:Option Addr} {s_PARTS_carry:Array (Option Value)} {t_PARTS_carry_0:Tok} {t_PARTS_carry_1:Tok} {t_PARTS_carry_2:Tok} (X:K.In h) (G:h.Ns mainGlobals mg) (hfa:mg "law" = some (.ref fa))
  (c_CleanError:PySem.W.nsIn K mainGlobals "CleanError" = some (some (.ref a_CleanError)))
  (c_NoRow:PySem.W.nsIn K mainGlobals "NoRow" = some (some (.ref a_NoRow)))
  (c_NoDisk:PySem.W.nsIn K mainGlobals "NoDisk" = some (some (.ref a_NoDisk)))
  (c_Full:PySem.W.nsIn K mainGlobals "Full" = some (some (.ref a_Full)))
  (c_Stopped:PySem.W.nsIn K mainGlobals "Stopped" = some (some (.ref a_Stopped)))
  (c_NoFile:PySem.W.nsIn K mainGlobals "NoFile" = some (some (.ref a_NoFile)))
  (c_NoPlace:PySem.W.nsIn K mainGlobals "NoPlace" = some (some (.ref a_NoPlace)))
  (c_HeldAlready:PySem.W.nsIn K mainGlobals "HeldAlready" = some (some (.ref a_HeldAlready)))
  (c_NotHeld:PySem.W.nsIn K mainGlobals "NotHeld" = some (some (.ref a_NotHeld)))
  (c_NoFiles:PySem.W.nsIn K mainGlobals "NoFiles" = some (some (.ref a_NoFiles)))
  (c_NoMark:PySem.W.nsIn K mainGlobals "NoMark" = some (some (.ref a_NoMark)))
  (c_NoRoom:PySem.W.nsIn K mainGlobals "NoRoom" = some (some (.ref a_NoRoom)))
  (c_Gone:PySem.W.nsIn K mainGlobals "Gone" = some (some (.ref a_Gone)))
  (c_NotClosed:PySem.W.nsIn K mainGlobals "NotClosed" = some (some (.ref a_NotClosed)))
  (c_NotBlank:PySem.W.nsIn K mainGlobals "NotBlank" = some (some (.ref a_NotBlank)))
  (c_NoDeed:PySem.W.nsIn K mainGlobals "NoDeed" = some (some (.ref a_NoDeed)))
  (c_NoHouse:PySem.W.nsIn K mainGlobals "NoHouse" = some (some (.ref a_NoHouse)))
  (c_Disk:PySem.W.nsIn K mainGlobals "Disk" = some (some (.ref a_Disk)))
  (a_0:PySem.W.nsIn K mainGlobals "is_whole" = some (some (.ref f_0)))
  (l_0:K.lookup f_0=some ⟨oc_0,od_0,.func (PySem.W.fnOf "is_whole" "is_whole" (defArgs s_is_whole) (defBody s_is_whole) (defScope s_is_whole) .none kV_0 dc_0 pm_0 an_0 cd_0 ct_0),sl_0⟩)
  (d_0:PySem.W.codeIn K cd_0 "is_whole" = true)
  (k_0:PySem.W.keepIn K (.ref f_0)=true)
  (a_1:PySem.W.nsIn K mainGlobals "is_within" = some (some (.ref f_1)))
  (l_1:K.lookup f_1=some ⟨oc_1,od_1,.func (PySem.W.fnOf "is_within" "is_within" (defArgs s_is_within) (defBody s_is_within) (defScope s_is_within) .none kV_1 dc_1 pm_1 an_1 cd_1 ct_1),sl_1⟩)
  (d_1:PySem.W.codeIn K cd_1 "is_within" = true)
  (k_1:PySem.W.keepIn K (.ref f_1)=true)
  (a_2:PySem.W.nsIn K mainGlobals "is_made_of" = some (some (.ref f_2)))
  (l_2:K.lookup f_2=some ⟨oc_2,od_2,.func (PySem.W.fnOf "is_made_of" "is_made_of" (defArgs s_is_made_of) (defBody s_is_made_of) (defScope s_is_made_of) .none kV_2 dc_2 pm_2 an_2 cd_2 ct_2),sl_2⟩)
  (d_2:PySem.W.codeIn K cd_2 "is_made_of" = true)
  (k_2:PySem.W.keepIn K (.ref f_2)=true)
  (a_3:PySem.W.nsIn K mainGlobals "is_number_text" = some (some (.ref f_3)))
  (l_3:K.lookup f_3=some ⟨oc_3,od_3,.func (PySem.W.fnOf "is_number_text" "is_number_text" (defArgs s_is_number_text) (defBody s_is_number_text) (defScope s_is_number_text) .none kV_3 dc_3 pm_3 an_3 cd_3 ct_3),sl_3⟩)
  (d_3:PySem.W.codeIn K cd_3 "is_number_text" = true)
  (k_3:PySem.W.keepIn K (.ref f_3)=true)
  (a_4:PySem.W.nsIn K mainGlobals "is_name" = some (some (.ref f_4)))
  (l_4:K.lookup f_4=some ⟨oc_4,od_4,.func (PySem.W.fnOf "is_name" "is_name" (defArgs s_is_name) (defBody s_is_name) (defScope s_is_name) .none kV_4 dc_4 pm_4 an_4 cd_4 ct_4),sl_4⟩)
  (d_4:PySem.W.codeIn K cd_4 "is_name" = true)
  (k_4:PySem.W.keepIn K (.ref f_4)=true)
  (a_5:PySem.W.nsIn K mainGlobals "is_word" = some (some (.ref f_5)))
  (l_5:K.lookup f_5=some ⟨oc_5,od_5,.func (PySem.W.fnOf "is_word" "is_word" (defArgs s_is_word) (defBody s_is_word) (defScope s_is_word) .none kV_5 dc_5 pm_5 an_5 cd_5 ct_5),sl_5⟩)
  (d_5:PySem.W.codeIn K cd_5 "is_word" = true)
  (k_5:PySem.W.keepIn K (.ref f_5)=true)
  (a_6:PySem.W.nsIn K mainGlobals "sum_of" = some (some (.ref f_6)))
  (l_6:K.lookup f_6=some ⟨oc_6,od_6,.func (PySem.W.fnOf "sum_of" "sum_of" (defArgs s_sum_of) (defBody s_sum_of) (defScope s_sum_of) .none kV_6 dc_6 pm_6 an_6 cd_6 ct_6),sl_6⟩)
  (d_6:PySem.W.codeIn K cd_6 "sum_of" = true)
  (k_6:PySem.W.keepIn K (.ref f_6)=true)
  (a_7:PySem.W.nsIn K mainGlobals "summed" = some (some (.ref f_7)))
  (l_7:K.lookup f_7=some ⟨oc_7,od_7,.func (PySem.W.fnOf "summed" "summed" (defArgs s_summed) (defBody s_summed) (defScope s_summed) .none kV_7 dc_7 pm_7 an_7 cd_7 ct_7),sl_7⟩)
  (d_7:PySem.W.codeIn K cd_7 "summed" = true)
  (k_7:PySem.W.keepIn K (.ref f_7)=true)
  (a_8:PySem.W.nsIn K mainGlobals "body_of" = some (some (.ref f_8)))
  (l_8:K.lookup f_8=some ⟨oc_8,od_8,.func (PySem.W.fnOf "body_of" "body_of" (defArgs s_body_of) (defBody s_body_of) (defScope s_body_of) .none kV_8 dc_8 pm_8 an_8 cd_8 ct_8),sl_8⟩)
  (d_8:PySem.W.codeIn K cd_8 "body_of" = true)
  (k_8:PySem.W.keepIn K (.ref f_8)=true)
  (a_9:PySem.W.nsIn K mainGlobals "row_text" = some (some (.ref f_9)))
  (l_9:K.lookup f_9=some ⟨oc_9,od_9,.func (PySem.W.fnOf "row_text" "row_text" (defArgs s_row_text) (defBody s_row_text) (defScope s_row_text) .none kV_9 dc_9 pm_9 an_9 cd_9 ct_9),sl_9⟩)
  (d_9:PySem.W.codeIn K cd_9 "row_text" = true)
  (k_9:PySem.W.keepIn K (.ref f_9)=true)
  (a_10:PySem.W.nsIn K mainGlobals "part_text" = some (some (.ref f_10)))
  (l_10:K.lookup f_10=some ⟨oc_10,od_10,.func (PySem.W.fnOf "part_text" "part_text" (defArgs s_part_text) (defBody s_part_text) (defScope s_part_text) .none kV_10 dc_10 pm_10 an_10 cd_10 ct_10),sl_10⟩)
  (d_10:PySem.W.codeIn K cd_10 "part_text" = true)
  (k_10:PySem.W.keepIn K (.ref f_10)=true)
  (a_11:PySem.W.nsIn K mainGlobals "read_row" = some (some (.ref f_11)))
  (l_11:K.lookup f_11=some ⟨oc_11,od_11,.func (PySem.W.fnOf "read_row" "read_row" (defArgs s_read_row) (defBody s_read_row) (defScope s_read_row) .none kV_11 dc_11 pm_11 an_11 cd_11 ct_11),sl_11⟩)
  (d_11:PySem.W.codeIn K cd_11 "read_row" = true)
  (k_11:PySem.W.keepIn K (.ref f_11)=true)
  (a_12:PySem.W.nsIn K mainGlobals "row_of" = some (some (.ref f_12)))
  (l_12:K.lookup f_12=some ⟨oc_12,od_12,.func (PySem.W.fnOf "row_of" "row_of" (defArgs s_row_of) (defBody s_row_of) (defScope s_row_of) .none kV_12 dc_12 pm_12 an_12 cd_12 ct_12),sl_12⟩)
  (d_12:PySem.W.codeIn K cd_12 "row_of" = true)
  (k_12:PySem.W.keepIn K (.ref f_12)=true)
  (a_13:PySem.W.nsIn K mainGlobals "read_part" = some (some (.ref f_13)))
  (l_13:K.lookup f_13=some ⟨oc_13,od_13,.func (PySem.W.fnOf "read_part" "read_part" (defArgs s_read_part) (defBody s_read_part) (defScope s_read_part) .none kV_13 dc_13 pm_13 an_13 cd_13 ct_13),sl_13⟩)
  (d_13:PySem.W.codeIn K cd_13 "read_part" = true)
  (k_13:PySem.W.keepIn K (.ref f_13)=true)
  (a_14:PySem.W.nsIn K mainGlobals "row_at" = some (some (.ref f_14)))
  (l_14:K.lookup f_14=some ⟨oc_14,od_14,.func (PySem.W.fnOf "row_at" "row_at" (defArgs s_row_at) (defBody s_row_at) (defScope s_row_at) .none kV_14 dc_14 pm_14 an_14 cd_14 ct_14),sl_14⟩)
  (d_14:PySem.W.codeIn K cd_14 "row_at" = true)
  (k_14:PySem.W.keepIn K (.ref f_14)=true)
  (a_15:PySem.W.nsIn K mainGlobals "rows_in" = some (some (.ref f_15)))
  (l_15:K.lookup f_15=some ⟨oc_15,od_15,.func (PySem.W.fnOf "rows_in" "rows_in" (defArgs s_rows_in) (defBody s_rows_in) (defScope s_rows_in) .none kV_15 dc_15 pm_15 an_15 cd_15 ct_15),sl_15⟩)
  (d_15:PySem.W.codeIn K cd_15 "rows_in" = true)
  (k_15:PySem.W.keepIn K (.ref f_15)=true)
  (a_16:PySem.W.nsIn K mainGlobals "whole_rows" = some (some (.ref f_16)))
  (l_16:K.lookup f_16=some ⟨oc_16,od_16,.func (PySem.W.fnOf "whole_rows" "whole_rows" (defArgs s_whole_rows) (defBody s_whole_rows) (defScope s_whole_rows) .none kV_16 dc_16 pm_16 an_16 (.ref cc_16) ct_16),sl_16⟩)
  (d_16:PySem.W.codeIn K (.ref cc_16) "whole_rows" = true)
  (tn_16:PySem.W.tabIn K "whole_rows" = some (cc_16,tt_16))
  (th_16:PySem.W.codeHdIn K cc_16 tt_16=true)
  (tl_16:K.lookup tt_16=none)
  (k_16:PySem.W.keepIn K (.ref f_16)=true)
  (a_17:PySem.W.nsIn K mainGlobals "end_of" = some (some (.ref f_17)))
  (l_17:K.lookup f_17=some ⟨oc_17,od_17,.func (PySem.W.fnOf "end_of" "end_of" (defArgs s_end_of) (defBody s_end_of) (defScope s_end_of) .none kV_17 dc_17 pm_17 an_17 cd_17 ct_17),sl_17⟩)
  (d_17:PySem.W.codeIn K cd_17 "end_of" = true)
  (k_17:PySem.W.keepIn K (.ref f_17)=true)
  (a_18:PySem.W.nsIn K mainGlobals "empties" = some (some (.ref f_18)))
  (l_18:K.lookup f_18=some ⟨oc_18,od_18,.func (PySem.W.fnOf "empties" "empties" (defArgs s_empties) (defBody s_empties) (defScope s_empties) .none kV_18 dc_18 pm_18 an_18 cd_18 ct_18),sl_18⟩)
  (d_18:PySem.W.codeIn K cd_18 "empties" = true)
  (k_18:PySem.W.keepIn K (.ref f_18)=true)
  (a_19:PySem.W.nsIn K mainGlobals "free_in" = some (some (.ref f_19)))
  (l_19:K.lookup f_19=some ⟨oc_19,od_19,.func (PySem.W.fnOf "free_in" "free_in" (defArgs s_free_in) (defBody s_free_in) (defScope s_free_in) .none kV_19 dc_19 pm_19 an_19 cd_19 ct_19),sl_19⟩)
  (d_19:PySem.W.codeIn K cd_19 "free_in" = true)
  (k_19:PySem.W.keepIn K (.ref f_19)=true)
  (a_20:PySem.W.nsIn K mainGlobals "next_stretch" = some (some (.ref f_20)))
  (l_20:K.lookup f_20=some ⟨oc_20,od_20,.func (PySem.W.fnOf "next_stretch" "next_stretch" (defArgs s_next_stretch) (defBody s_next_stretch) (defScope s_next_stretch) .none kV_20 dc_20 pm_20 an_20 cd_20 ct_20),sl_20⟩)
  (d_20:PySem.W.codeIn K cd_20 "next_stretch" = true)
  (k_20:PySem.W.keepIn K (.ref f_20)=true)
  (a_21:PySem.W.findIn K (.ref a_Disk) "__init__" = some (some (.ref f_21)))
  (i_21:PySem.W.isFn K (.ref f_21)=true)
  (l_21:K.lookup f_21=some ⟨oc_21,od_21,.func (PySem.W.fnOf "__init__" "Disk.__init__" (defArgs s_Disk___init__) (defBody s_Disk___init__) (defScope s_Disk___init__) .none kV_21 dc_21 pm_21 an_21 cd_21 ct_21),sl_21⟩)
  (d_21:PySem.W.codeIn K cd_21 "Disk.__init__" = true)
  (k_21:PySem.W.keepIn K (.ref f_21)=true)
  (a_22:PySem.W.findIn K (.ref a_Disk) "stretches" = some (some (.ref f_22)))
  (i_22:PySem.W.isFn K (.ref f_22)=true)
  (l_22:K.lookup f_22=some ⟨oc_22,od_22,.func (PySem.W.fnOf "stretches" "Disk.stretches" (defArgs s_Disk_stretches) (defBody s_Disk_stretches) (defScope s_Disk_stretches) .none kV_22 dc_22 pm_22 an_22 cd_22 ct_22),sl_22⟩)
  (d_22:PySem.W.codeIn K cd_22 "Disk.stretches" = true)
  (k_22:PySem.W.keepIn K (.ref f_22)=true)
  (a_23:PySem.W.findIn K (.ref a_Disk) "places" = some (some (.ref f_23)))
  (i_23:PySem.W.isFn K (.ref f_23)=true)
  (l_23:K.lookup f_23=some ⟨oc_23,od_23,.func (PySem.W.fnOf "places" "Disk.places" (defArgs s_Disk_places) (defBody s_Disk_places) (defScope s_Disk_places) .none kV_23 dc_23 pm_23 an_23 cd_23 ct_23),sl_23⟩)
  (d_23:PySem.W.codeIn K cd_23 "Disk.places" = true)
  (k_23:PySem.W.keepIn K (.ref f_23)=true)
  (a_24:PySem.W.findIn K (.ref a_Disk) "next_place" = some (some (.ref f_24)))
  (i_24:PySem.W.isFn K (.ref f_24)=true)
  (l_24:K.lookup f_24=some ⟨oc_24,od_24,.func (PySem.W.fnOf "next_place" "Disk.next_place" (defArgs s_Disk_next_place) (defBody s_Disk_next_place) (defScope s_Disk_next_place) .none kV_24 dc_24 pm_24 an_24 cd_24 ct_24),sl_24⟩)
  (d_24:PySem.W.codeIn K cd_24 "Disk.next_place" = true)
  (k_24:PySem.W.keepIn K (.ref f_24)=true)
  (a_25:PySem.W.findIn K (.ref a_Disk) "told" = some (some (.ref f_25)))
  (i_25:PySem.W.isFn K (.ref f_25)=true)
  (l_25:K.lookup f_25=some ⟨oc_25,od_25,.func (PySem.W.fnOf "told" "Disk.told" (defArgs s_Disk_told) (defBody s_Disk_told) (defScope s_Disk_told) .none kV_25 dc_25 pm_25 an_25 cd_25 ct_25),sl_25⟩)
  (d_25:PySem.W.codeIn K cd_25 "Disk.told" = true)
  (k_25:PySem.W.keepIn K (.ref f_25)=true)
  (a_26:PySem.W.findIn K (.ref a_Disk) "signs" = some (some (.ref f_26)))
  (i_26:PySem.W.isFn K (.ref f_26)=true)
  (l_26:K.lookup f_26=some ⟨oc_26,od_26,.func (PySem.W.fnOf "signs" "Disk.signs" (defArgs s_Disk_signs) (defBody s_Disk_signs) (defScope s_Disk_signs) .none kV_26 dc_26 pm_26 an_26 cd_26 ct_26),sl_26⟩)
  (d_26:PySem.W.codeIn K cd_26 "Disk.signs" = true)
  (k_26:PySem.W.keepIn K (.ref f_26)=true)
  (a_27:PySem.W.findIn K (.ref a_Disk) "write" = some (some (.ref f_27)))
  (i_27:PySem.W.isFn K (.ref f_27)=true)
  (l_27:K.lookup f_27=some ⟨oc_27,od_27,.func (PySem.W.fnOf "write" "Disk.write" (defArgs s_Disk_write) (defBody s_Disk_write) (defScope s_Disk_write) .none kV_27 dc_27 pm_27 an_27 cd_27 ct_27),sl_27⟩)
  (d_27:PySem.W.codeIn K cd_27 "Disk.write" = true)
  (k_27:PySem.W.keepIn K (.ref f_27)=true)
  (a_28:PySem.W.findIn K (.ref a_Disk) "empty" = some (some (.ref f_28)))
  (i_28:PySem.W.isFn K (.ref f_28)=true)
  (l_28:K.lookup f_28=some ⟨oc_28,od_28,.func (PySem.W.fnOf "empty" "Disk.empty" (defArgs s_Disk_empty) (defBody s_Disk_empty) (defScope s_Disk_empty) .none kV_28 dc_28 pm_28 an_28 cd_28 ct_28),sl_28⟩)
  (d_28:PySem.W.codeIn K cd_28 "Disk.empty" = true)
  (k_28:PySem.W.keepIn K (.ref f_28)=true)
  (a_29:PySem.W.findIn K (.ref a_Disk) "refuse_if_stopped" = some (some (.ref f_29)))
  (i_29:PySem.W.isFn K (.ref f_29)=true)
  (l_29:K.lookup f_29=some ⟨oc_29,od_29,.func (PySem.W.fnOf "refuse_if_stopped" "Disk.refuse_if_stopped" (defArgs s_Disk_refuse_if_stopped) (defBody s_Disk_refuse_if_stopped) (defScope s_Disk_refuse_if_stopped) .none kV_29 dc_29 pm_29 an_29 cd_29 ct_29),sl_29⟩)
  (d_29:PySem.W.codeIn K cd_29 "Disk.refuse_if_stopped" = true)
  (k_29:PySem.W.keepIn K (.ref f_29)=true)
  (a_30:PySem.W.findIn K (.ref a_Disk) "spend" = some (some (.ref f_30)))
  (i_30:PySem.W.isFn K (.ref f_30)=true)
  (l_30:K.lookup f_30=some ⟨oc_30,od_30,.func (PySem.W.fnOf "spend" "Disk.spend" (defArgs s_Disk_spend) (defBody s_Disk_spend) (defScope s_Disk_spend) .none kV_30 dc_30 pm_30 an_30 cd_30 ct_30),sl_30⟩)
  (d_30:PySem.W.codeIn K cd_30 "Disk.spend" = true)
  (k_30:PySem.W.keepIn K (.ref f_30)=true)
  (a_31:PySem.W.findIn K (.ref a_Disk) "first_signs" = some (some (.ref f_31)))
  (i_31:PySem.W.isFn K (.ref f_31)=true)
  (l_31:K.lookup f_31=some ⟨oc_31,od_31,.func (PySem.W.fnOf "first_signs" "Disk.first_signs" (defArgs s_Disk_first_signs) (defBody s_Disk_first_signs) (defScope s_Disk_first_signs) .none kV_31 dc_31 pm_31 an_31 cd_31 ct_31),sl_31⟩)
  (d_31:PySem.W.codeIn K cd_31 "Disk.first_signs" = true)
  (k_31:PySem.W.keepIn K (.ref f_31)=true)
  (a_32:PySem.W.nsIn K mainGlobals "_law_cell" = some (some (.ref f_32)))
  (l_32:K.lookup f_32=some ⟨oc_32,od_32,.func (PySem.W.fnOf "_law_cell" "_law_cell" (defArgs s__law_cell) (defBody s__law_cell) (defScope s__law_cell) .none kV_32 dc_32 pm_32 an_32 cd_32 ct_32),sl_32⟩)
  (d_32:PySem.W.codeIn K cd_32 "_law_cell" = true)
  (k_32:PySem.W.keepIn K (.ref f_32)=true)
  (a_33:PySem.W.nsIn K mainGlobals "_law_pot" = some (some (.ref f_33)))
  (l_33:K.lookup f_33=some ⟨oc_33,od_33,.func (PySem.W.fnOf "_law_pot" "_law_pot" (defArgs s__law_pot) (defBody s__law_pot) (defScope s__law_pot) .none kV_33 dc_33 pm_33 an_33 cd_33 ct_33),sl_33⟩)
  (d_33:PySem.W.codeIn K cd_33 "_law_pot" = true)
  (k_33:PySem.W.keepIn K (.ref f_33)=true)
  (a_34:PySem.W.nsIn K mainGlobals "_law_draw" = some (some (.ref f_34)))
  (l_34:K.lookup f_34=some ⟨oc_34,od_34,.func (PySem.W.fnOf "_law_draw" "_law_draw" (defArgs s__law_draw) (defBody s__law_draw) (defScope s__law_draw) .none kV_34 dc_34 pm_34 an_34 cd_34 ct_34),sl_34⟩)
  (d_34:PySem.W.codeIn K cd_34 "_law_draw" = true)
  (k_34:PySem.W.keepIn K (.ref f_34)=true)
  (a_35:PySem.W.nsIn K mainGlobals "_law_drawn" = some (some (.ref f_35)))
  (l_35:K.lookup f_35=some ⟨oc_35,od_35,.func (PySem.W.fnOf "_law_drawn" "_law_drawn" (defArgs s__law_drawn) (defBody s__law_drawn) (defScope s__law_drawn) .none kV_35 dc_35 pm_35 an_35 cd_35 ct_35),sl_35⟩)
  (d_35:PySem.W.codeIn K cd_35 "_law_drawn" = true)
  (k_35:PySem.W.keepIn K (.ref f_35)=true)
  (a_36:PySem.W.nsIn K mainGlobals "_law_rows" = some (some (.ref f_36)))
  (l_36:K.lookup f_36=some ⟨oc_36,od_36,.func (PySem.W.fnOf "_law_rows" "_law_rows" (defArgs s__law_rows) (defBody s__law_rows) (defScope s__law_rows) .none kV_36 dc_36 pm_36 an_36 (.ref cc_36) ct_36),sl_36⟩)
  (d_36:PySem.W.codeIn K (.ref cc_36) "_law_rows" = true)
  (tn_36:PySem.W.tabIn K "_law_rows" = some (cc_36,tt_36))
  (th_36:PySem.W.codeHdIn K cc_36 tt_36=true)
  (tl_36:K.lookup tt_36=none)
  (k_36:PySem.W.keepIn K (.ref f_36)=true)
  (a_37:PySem.W.nsIn K mainGlobals "_law_asked" = some (some (.ref f_37)))
  (l_37:K.lookup f_37=some ⟨oc_37,od_37,.func (PySem.W.fnOf "_law_asked" "_law_asked" (defArgs s__law_asked) (defBody s__law_asked) (defScope s__law_asked) .none kV_37 dc_37 pm_37 an_37 cd_37 ct_37),sl_37⟩)
  (d_37:PySem.W.codeIn K cd_37 "_law_asked" = true)
  (k_37:PySem.W.keepIn K (.ref f_37)=true)
  (a_38:PySem.W.nsIn K mainGlobals "_law_due" = some (some (.ref f_38)))
  (l_38:K.lookup f_38=some ⟨oc_38,od_38,.func (PySem.W.fnOf "_law_due" "_law_due" (defArgs s__law_due) (defBody s__law_due) (defScope s__law_due) .none kV_38 dc_38 pm_38 an_38 cd_38 ct_38),sl_38⟩)
  (d_38:PySem.W.codeIn K cd_38 "_law_due" = true)
  (k_38:PySem.W.keepIn K (.ref f_38)=true)
  (a_39:PySem.W.nsIn K mainGlobals "_law_made_room" = some (some (.ref f_39)))
  (l_39:K.lookup f_39=some ⟨oc_39,od_39,.func (PySem.W.fnOf "_law_made_room" "_law_made_room" (defArgs s__law_made_room) (defBody s__law_made_room) (defScope s__law_made_room) .none kV_39 dc_39 pm_39 an_39 cd_39 ct_39),sl_39⟩)
  (d_39:PySem.W.codeIn K cd_39 "_law_made_room" = true)
  (k_39:PySem.W.keepIn K (.ref f_39)=true)
  (a_40:PySem.W.nsIn K mainGlobals "_law_row" = some (some (.ref f_40)))
  (l_40:K.lookup f_40=some ⟨oc_40,od_40,.func (PySem.W.fnOf "_law_row" "_law_row" (defArgs s__law_row) (defBody s__law_row) (defScope s__law_row) .none kV_40 dc_40 pm_40 an_40 cd_40 ct_40),sl_40⟩)
  (d_40:PySem.W.codeIn K cd_40 "_law_row" = true)
  (k_40:PySem.W.keepIn K (.ref f_40)=true)
  (a_41:PySem.W.nsIn K mainGlobals "_law_one_heat" = some (some (.ref f_41)))
  (l_41:K.lookup f_41=some ⟨oc_41,od_41,.func (PySem.W.fnOf "_law_one_heat" "_law_one_heat" (defArgs s__law_one_heat) (defBody s__law_one_heat) (defScope s__law_one_heat) .none kV_41 dc_41 pm_41 an_41 cd_41 ct_41),sl_41⟩)
  (d_41:PySem.W.codeIn K cd_41 "_law_one_heat" = true)
  (k_41:PySem.W.keepIn K (.ref f_41)=true)
  (a_42:PySem.W.nsIn K mainGlobals "_law_step" = some (some (.ref f_42)))
  (l_42:K.lookup f_42=some ⟨oc_42,od_42,.func (PySem.W.fnOf "_law_step" "_law_step" (defArgs s__law_step) (defBody s__law_step) (defScope s__law_step) .none kV_42 dc_42 pm_42 an_42 cd_42 ct_42),sl_42⟩)
  (d_42:PySem.W.codeIn K cd_42 "_law_step" = true)
  (k_42:PySem.W.keepIn K (.ref f_42)=true)
  (a_43:PySem.W.nsIn K mainGlobals "law" = some (some (.ref f_43)))
  (l_43:K.lookup f_43=some ⟨oc_43,od_43,.func (PySem.W.fnOf "law" "law" (defArgs s_law) (defBody s_law) (defScope s_law) .none kV_43 dc_43 pm_43 an_43 cd_43 ct_43),sl_43⟩)
  (d_43:PySem.W.codeIn K cd_43 "law" = true)
  (k_43:PySem.W.keepIn K (.ref f_43)=true)
  (z_ValueError:PySem.W.nsIn K mainGlobals "ValueError" = some none)
  (z_abs:PySem.W.nsIn K mainGlobals "abs" = some none)
  (z_all:PySem.W.nsIn K mainGlobals "all" = some none)
  (z_bool:PySem.W.nsIn K mainGlobals "bool" = some none)
  (z_divmod:PySem.W.nsIn K mainGlobals "divmod" = some none)
  (z_enumerate:PySem.W.nsIn K mainGlobals "enumerate" = some none)
  (z_int:PySem.W.nsIn K mainGlobals "int" = some none)
  (z_isinstance:PySem.W.nsIn K mainGlobals "isinstance" = some none)
  (z_len:PySem.W.nsIn K mainGlobals "len" = some none)
  (z_max:PySem.W.nsIn K mainGlobals "max" = some none)
  (z_min:PySem.W.nsIn K mainGlobals "min" = some none)
  (z_ord:PySem.W.nsIn K mainGlobals "ord" = some none)
  (z_range:PySem.W.nsIn K mainGlobals "range" = some none)
  (z_repr:PySem.W.nsIn K mainGlobals "repr" = some none)
  (z_sorted:PySem.W.nsIn K mainGlobals "sorted" = some none)
  (z_str:PySem.W.nsIn K mainGlobals "str" = some none)
  (z_tuple:PySem.W.nsIn K mainGlobals "tuple" = some none)
  (z_zip:PySem.W.nsIn K mainGlobals "zip" = some none)
  (v_FIGURES:PySem.W.nsIn K mainGlobals "FIGURES" = some (some (.str "0123456789" t_FIGURES)))
  (v_LETTERS:PySem.W.nsIn K mainGlobals "LETTERS" = some (some (.str "abcdefghijklmnopqrstuvwxyz" t_LETTERS)))
  (v_MOST_FIGURES:PySem.W.nsIn K mainGlobals "MOST_FIGURES" = some (some (.int 18 t_MOST_FIGURES)))
  (v_MOST_LETTERS:PySem.W.nsIn K mainGlobals "MOST_LETTERS" = some (some (.int 6 t_MOST_LETTERS)))
  (v_MOST_SIGNS:PySem.W.nsIn K mainGlobals "MOST_SIGNS" = some (some (.int 20 t_MOST_SIGNS)))
  (v_MODULUS:PySem.W.nsIn K mainGlobals "MODULUS" = some (some (.int 65521 t_MODULUS)))
  (v_COLD_KIND:PySem.W.nsIn K mainGlobals "COLD_KIND" = some (some (.str "carry" t_COLD_KIND)))
  (v_LEAST_STRETCHES:PySem.W.nsIn K mainGlobals "LEAST_STRETCHES" = some (some (.int 3 t_LEAST_STRETCHES)))
  (v_MOST_STRETCHES:PySem.W.nsIn K mainGlobals "MOST_STRETCHES" = some (some (.int 16 t_MOST_STRETCHES)))
  (v_LEAST_PLACES:PySem.W.nsIn K mainGlobals "LEAST_PLACES" = some (some (.int 2 t_LEAST_PLACES)))
  (v_MOST_PLACES:PySem.W.nsIn K mainGlobals "MOST_PLACES" = some (some (.int 32 t_MOST_PLACES)))
  (v_PARTS:PySem.W.nsIn K mainGlobals "PARTS" = some (some (.ref a_PARTS)))
  (dl_PARTS:K.lookup a_PARTS=some { cls:=.type "dict",dict:=none,data:=.dict #[{ hash:=PyData.keyHash w.params (Str.ofString "put"),key:=.str (Str.ofString "put") t_PARTS_put,val:=.ref a_PARTS_put },{ hash:=PyData.keyHash w.params (Str.ofString "cut"),key:=.str (Str.ofString "cut") t_PARTS_cut,val:=.ref a_PARTS_cut },{ hash:=PyData.keyHash w.params (Str.ofString "hold"),key:=.str (Str.ofString "hold") t_PARTS_hold,val:=.ref a_PARTS_hold },{ hash:=PyData.keyHash w.params (Str.ofString "free"),key:=.str (Str.ofString "free") t_PARTS_free,val:=.ref a_PARTS_free },{ hash:=PyData.keyHash w.params (Str.ofString "carry"),key:=.str (Str.ofString "carry") t_PARTS_carry,val:=.ref a_PARTS_carry }] n_PARTS,slots:=#[] })
  (ds_PARTS:(a_PARTS == sysModules)=false)
  (tl_PARTS_put:K.lookup a_PARTS_put=some { cls:=.type "tuple",dict:=d_PARTS_put,data:=.seq #[.str (Str.ofString "number") t_PARTS_put_0,.str (Str.ofString "number") t_PARTS_put_1,.str (Str.ofString "end") t_PARTS_put_2,.str (Str.ofString "name") t_PARTS_put_3,.str (Str.ofString "number") t_PARTS_put_4,.str (Str.ofString "word") t_PARTS_put_5] n_PARTS_put,slots:=s_PARTS_put })
  (tl_PARTS_cut:K.lookup a_PARTS_cut=some { cls:=.type "tuple",dict:=d_PARTS_cut,data:=.seq #[.str (Str.ofString "number") t_PARTS_cut_0,.str (Str.ofString "name") t_PARTS_cut_1,.str (Str.ofString "number") t_PARTS_cut_2] n_PARTS_cut,slots:=s_PARTS_cut })
  (tl_PARTS_hold:K.lookup a_PARTS_hold=some { cls:=.type "tuple",dict:=d_PARTS_hold,data:=.seq #[.str (Str.ofString "number") t_PARTS_hold_0,.str (Str.ofString "name") t_PARTS_hold_1] n_PARTS_hold,slots:=s_PARTS_hold })
  (tl_PARTS_free:K.lookup a_PARTS_free=some { cls:=.type "tuple",dict:=d_PARTS_free,data:=.seq #[.str (Str.ofString "number") t_PARTS_free_0,.str (Str.ofString "name") t_PARTS_free_1] n_PARTS_free,slots:=s_PARTS_free })
  (tl_PARTS_carry:K.lookup a_PARTS_carry=some { cls:=.type "tuple",dict:=d_PARTS_carry,data:=.seq #[.str (Str.ofString "number") t_PARTS_carry_0,.str (Str.ofString "number") t_PARTS_carry_1,.str (Str.ofString "word") t_PARTS_carry_2] n_PARTS_carry,slots:=s_PARTS_carry })
  (ek_CleanError:PySem.W.excIn K a_CleanError [.type "ValueError",.type "Exception",.type "BaseException",.type "object"] "ValueError.__new__" = true)
  (ek_NoRow:PySem.W.excIn K a_NoRow [.type "ValueError",.type "Exception",.type "BaseException",.type "object"] "ValueError.__new__" = true)
  (ek_NoDisk:PySem.W.excIn K a_NoDisk [.type "ValueError",.type "Exception",.type "BaseException",.type "object"] "ValueError.__new__" = true)
  (ek_Full:PySem.W.excIn K a_Full [.type "ValueError",.type "Exception",.type "BaseException",.type "object"] "ValueError.__new__" = true)
  (ek_Stopped:PySem.W.excIn K a_Stopped [.type "ValueError",.type "Exception",.type "BaseException",.type "object"] "ValueError.__new__" = true)
  (ek_NoRoom:PySem.W.excIn K a_NoRoom [.type "ValueError",.type "Exception",.type "BaseException",.type "object"] "ValueError.__new__" = true)
  (ms_NoRow:PySem.W.mroIn K a_NoRow (.ref a_NoRow)=some true)
  (ga_NoRoom:PySem.W.findIn K (.ref a_NoRoom) "__getattribute__" = some (some (.builtin "BaseException.__getattribute__")))
  (gr_NoRoom:PySem.W.findIn K (.ref a_NoRoom) "__getattr__" = some none)
  (clx_NoRoom:PySem.W.findIn K (.ref a_NoRoom) "__class__" = some (some (.builtin "object.__class__")))
  (ob_NoRoom:PySem.W.mroIn K a_NoRoom (.type "object")=some true)
  (ba_NoRoom:PySem.W.mroIn K a_NoRoom (.type "BaseException")=some true)
  (mro_NoRoom:PySem.W.mroIn K a_NoRoom (.ref a_CleanError)=some true)
  (kk_NoRoom_ValueError:PySem.W.kitOne K (.ref a_NoRoom) (.type "ValueError")=some true)
  (kk_NoRoom_NoRow:PySem.W.kitOne K (.ref a_NoRoom) (.ref a_NoRow)=some false)
  (kk_NoRoom_NoDisk:PySem.W.kitOne K (.ref a_NoRoom) (.ref a_NoDisk)=some false)
  (kk_NoRoom_Full:PySem.W.kitOne K (.ref a_NoRoom) (.ref a_Full)=some false)
  (kk_NoRoom_Stopped:PySem.W.kitOne K (.ref a_NoRoom) (.ref a_Stopped)=some false)
  (kk_NoRoom_NoFile:PySem.W.kitOne K (.ref a_NoRoom) (.ref a_NoFile)=some false)
  (kk_NoRoom_NoPlace:PySem.W.kitOne K (.ref a_NoRoom) (.ref a_NoPlace)=some false)
  (kk_NoRoom_HeldAlready:PySem.W.kitOne K (.ref a_NoRoom) (.ref a_HeldAlready)=some false)
  (kk_NoRoom_NotHeld:PySem.W.kitOne K (.ref a_NoRoom) (.ref a_NotHeld)=some false)
  (kk_NoRoom_NoFiles:PySem.W.kitOne K (.ref a_NoRoom) (.ref a_NoFiles)=some false)
  (kk_NoRoom_NoMark:PySem.W.kitOne K (.ref a_NoRoom) (.ref a_NoMark)=some false)
  (kk_NoRoom_NoRoom:PySem.W.kitOne K (.ref a_NoRoom) (.ref a_NoRoom)=some true)
  (kk_NoRoom_Gone:PySem.W.kitOne K (.ref a_NoRoom) (.ref a_Gone)=some false)
  (kk_NoRoom_NotClosed:PySem.W.kitOne K (.ref a_NoRoom) (.ref a_NotClosed)=some false)
  (kk_NoRoom_NotBlank:PySem.W.kitOne K (.ref a_NoRoom) (.ref a_NotBlank)=some false)
  (kk_NoRoom_NoDeed:PySem.W.kitOne K (.ref a_NoRoom) (.ref a_NoDeed)=some false)
  (kk_NoRoom_NoHouse:PySem.W.kitOne K (.ref a_NoRoom) (.ref a_NoHouse)=some false)
  (pg_Disk:PySem.W.plainGet K a_Disk Str.empty=true)
  (hdd_Disk:PySem.W.hasDictIn K a_Disk=true)
  (po_Disk:PySem.W.plainOver K a_Disk=true)
  (sa_Disk:PySem.W.findIn K (.ref a_Disk) "__setattr__" = some (some (.builtin "object.__setattr__")))
  (mk_Disk:PySem.W.makesIn K a_Disk=true)
  (kc_Disk:PySem.W.keepIn K (.ref a_Disk)=true)
  (na_at_sides:PySem.W.findIn K (.ref a_Disk) "at_sides" = some none)
  (na_counted:PySem.W.findIn K (.ref a_Disk) "counted" = some none)
  (na_has_stopped:PySem.W.findIn K (.ref a_Disk) "has_stopped" = some none)
  (na_left:PySem.W.findIn K (.ref a_Disk) "left" = some none)
  (na_width:PySem.W.findIn K (.ref a_Disk) "width" = some none)
  (na_written:PySem.W.findIn K (.ref a_Disk) "written" = some none) :
  ∃ fd:FuncData,(∀ (s:Shared) (v:Value),BindsTo s fd ⟨[v],[]⟩ [("_law_script",v)])∧(∀ T,T∈[tt_16,tt_36]→K.lookup T=none∧∃ c,PySem.W.codeHdIn K c T=true)∧∀ base:Heap,K.In base→base.Ns mainGlobals mg→BtOk mg base→FnOk l.prog w K mg base CX0 true 14 fa fd ["_law_script"] (spLaw tt_16 tt_36 K):=by
 have e:=hfa.symm.trans (PySem.W.mg_of X G a_43)
 cases e
 have T:Txt w K mg ⟨a_CleanError,a_NoRow,a_NoDisk,a_Full,a_Stopped,a_NoFile,a_NoPlace,a_HeldAlready,a_NotHeld,a_NoFiles,a_NoMark,a_NoRoom,a_Gone,a_NotClosed,a_NotBlank,a_NoDeed,a_NoHouse,a_Disk,tt_16,tt_36,a_PARTS,a_PARTS_put,a_PARTS_cut,a_PARTS_hold,a_PARTS_free,a_PARTS_carry⟩:=⟨PySem.W.mg_of X G v_PARTS,⟨⟨_,_,dl_PARTS,(.cons (.cons (.cons (.cons (.cons .nil)))))⟩,by show (["put","cut","hold","free","carry"]:List Str).Nodup; decide +kernel,ds_PARTS⟩,fun H=>.inr ⟨_,_,_,tl_PARTS_put,rfl,rfl,by show 6≤sizeLine; decide,(.cons ⟨_,rfl⟩ (.cons ⟨_,rfl⟩ (.cons ⟨_,rfl⟩ (.cons ⟨_,rfl⟩ (.cons ⟨_,rfl⟩ (.cons ⟨_,rfl⟩ .nil))))))⟩,fun H=>.inr ⟨_,_,_,tl_PARTS_cut,rfl,rfl,by show 3≤sizeLine; decide,(.cons ⟨_,rfl⟩ (.cons ⟨_,rfl⟩ (.cons ⟨_,rfl⟩ .nil)))⟩,fun H=>.inr ⟨_,_,_,tl_PARTS_hold,rfl,rfl,by show 2≤sizeLine; decide,(.cons ⟨_,rfl⟩ (.cons ⟨_,rfl⟩ .nil))⟩,fun H=>.inr ⟨_,_,_,tl_PARTS_free,rfl,rfl,by show 2≤sizeLine; decide,(.cons ⟨_,rfl⟩ (.cons ⟨_,rfl⟩ .nil))⟩,fun H=>.inr ⟨_,_,_,tl_PARTS_carry,rfl,rfl,by show 3≤sizeLine; decide,(.cons ⟨_,rfl⟩ (.cons ⟨_,rfl⟩ (.cons ⟨_,rfl⟩ .nil)))⟩,PySem.W.mg_none_of X G z_ValueError,PySem.W.mg_none_of X G z_abs,PySem.W.mg_none_of X G z_all,PySem.W.mg_none_of X G z_bool,PySem.W.mg_none_of X G z_divmod,PySem.W.mg_none_of X G z_enumerate,PySem.W.mg_none_of X G z_int,PySem.W.mg_none_of X G z_isinstance,PySem.W.mg_none_of X G z_len,PySem.W.mg_none_of X G z_max,PySem.W.mg_none_of X G z_min,PySem.W.mg_none_of X G z_ord,PySem.W.mg_none_of X G z_range,PySem.W.mg_none_of X G z_repr,PySem.W.mg_none_of X G z_sorted,PySem.W.mg_none_of X G z_str,PySem.W.mg_none_of X G z_tuple,PySem.W.mg_none_of X G z_zip,⟨_,PySem.W.mg_of X G v_FIGURES,⟨_,rfl⟩⟩,⟨_,PySem.W.mg_of X G v_LETTERS,⟨_,rfl⟩⟩,⟨_,PySem.W.mg_of X G v_MOST_FIGURES,⟨_,rfl⟩⟩,⟨_,PySem.W.mg_of X G v_MOST_LETTERS,⟨_,rfl⟩⟩,⟨_,PySem.W.mg_of X G v_MOST_SIGNS,⟨_,rfl⟩⟩,⟨_,PySem.W.mg_of X G v_MODULUS,⟨_,rfl⟩⟩,⟨_,PySem.W.mg_of X G v_COLD_KIND,⟨_,rfl⟩⟩,⟨_,PySem.W.mg_of X G v_LEAST_STRETCHES,⟨_,rfl⟩⟩,⟨_,PySem.W.mg_of X G v_MOST_STRETCHES,⟨_,rfl⟩⟩,⟨_,PySem.W.mg_of X G v_LEAST_PLACES,⟨_,rfl⟩⟩,⟨_,PySem.W.mg_of X G v_MOST_PLACES,⟨_,rfl⟩⟩,PySem.W.mg_of X G c_CleanError,PySem.W.mg_of X G c_NoRow,PySem.W.mg_of X G c_NoDisk,PySem.W.mg_of X G c_Full,PySem.W.mg_of X G c_Stopped,PySem.W.mg_of X G c_NoFile,PySem.W.mg_of X G c_NoPlace,PySem.W.mg_of X G c_HeldAlready,PySem.W.mg_of X G c_NotHeld,PySem.W.mg_of X G c_NoFiles,PySem.W.mg_of X G c_NoMark,PySem.W.mg_of X G c_NoRoom,PySem.W.mg_of X G c_Gone,PySem.W.mg_of X G c_NotClosed,PySem.W.mg_of X G c_NotBlank,PySem.W.mg_of X G c_NoDeed,PySem.W.mg_of X G c_NoHouse,PySem.W.mg_of X G c_Disk,ek_CleanError,ek_NoRow,ek_NoDisk,ek_Full,ek_Stopped,ek_NoRoom,ms_NoRow,⟨ek_NoRoom,ga_NoRoom,gr_NoRoom,clx_NoRoom,ob_NoRoom,ba_NoRoom⟩,mro_NoRoom,kk_NoRoom_ValueError,kk_NoRoom_NoRow,kk_NoRoom_NoDisk,kk_NoRoom_Full,kk_NoRoom_Stopped,kk_NoRoom_NoFile,kk_NoRoom_NoPlace,kk_NoRoom_HeldAlready,kk_NoRoom_NotHeld,kk_NoRoom_NoFiles,kk_NoRoom_NoMark,kk_NoRoom_NoRoom,kk_NoRoom_Gone,kk_NoRoom_NotClosed,kk_NoRoom_NotBlank,kk_NoRoom_NoDeed,kk_NoRoom_NoHouse,⟨pg_Disk,hdd_Disk,po_Disk,sa_Disk⟩,na_at_sides,na_counted,na_has_stopped,na_left,na_width,na_written⟩
 have Fis_whole:=fun_mk (st:=s_is_whole) l_0 d_0 k_0
 have bis_whole:=Fis_whole.binds (ps:=["value"]) fun _ _ _ _ _ _ us hl=>match us,hl with|[_],_=>rfl
 have Fis_within:=fun_mk (st:=s_is_within) l_1 d_1 k_1
 have bis_within:=Fis_within.binds (ps:=["value","least","most"]) fun _ _ _ _ _ _ us hl=>match us,hl with|[_,_,_],_=>rfl
 have Fis_made_of:=fun_mk (st:=s_is_made_of) l_2 d_2 k_2
 have bis_made_of:=Fis_made_of.binds (ps:=["text","signs","most"]) fun _ _ _ _ _ _ us hl=>match us,hl with|[_,_,_],_=>rfl
 have Fis_number_text:=fun_mk (st:=s_is_number_text) l_3 d_3 k_3
 have bis_number_text:=Fis_number_text.binds (ps:=["text"]) fun _ _ _ _ _ _ us hl=>match us,hl with|[_],_=>rfl
 have Fis_name:=fun_mk (st:=s_is_name) l_4 d_4 k_4
 have bis_name:=Fis_name.binds (ps:=["text"]) fun _ _ _ _ _ _ us hl=>match us,hl with|[_],_=>rfl
 have Fis_word:=fun_mk (st:=s_is_word) l_5 d_5 k_5
 have bis_word:=Fis_word.binds (ps:=["text"]) fun _ _ _ _ _ _ us hl=>match us,hl with|[_],_=>rfl
 have Fsum_of:=fun_mk (st:=s_sum_of) l_6 d_6 k_6
 have bsum_of:=Fsum_of.binds (ps:=["text"]) fun _ _ _ _ _ _ us hl=>match us,hl with|[_],_=>rfl
 have Fsummed:=fun_mk (st:=s_summed) l_7 d_7 k_7
 have bsummed:=Fsummed.binds (ps:=["body"]) fun _ _ _ _ _ _ us hl=>match us,hl with|[_],_=>rfl
 have Fbody_of:=fun_mk (st:=s_body_of) l_8 d_8 k_8
 have bbody_of:=Fbody_of.binds (ps:=["text"]) fun _ _ _ _ _ _ us hl=>match us,hl with|[_],_=>rfl
 have Frow_text:=fun_mk (st:=s_row_text) l_9 d_9 k_9
 have brow_text:=Frow_text.binds (ps:=["row"]) fun _ _ _ _ _ _ us hl=>match us,hl with|[_],_=>rfl
 have Fpart_text:=fun_mk (st:=s_part_text) l_10 d_10 k_10
 have bpart_text:=Fpart_text.binds (ps:=["part"]) fun _ _ _ _ _ _ us hl=>match us,hl with|[_],_=>rfl
 have Fread_row:=fun_mk (st:=s_read_row) l_11 d_11 k_11
 have bread_row:=Fread_row.binds (ps:=["text"]) fun _ _ _ _ _ _ us hl=>match us,hl with|[_],_=>rfl
 have Frow_of:=fun_mk (st:=s_row_of) l_12 d_12 k_12
 have brow_of:=Frow_of.binds (ps:=["words"]) fun _ _ _ _ _ _ us hl=>match us,hl with|[_],_=>rfl
 have Fread_part:=fun_mk (st:=s_read_part) l_13 d_13 k_13
 have bread_part:=Fread_part.binds (ps:=["kind","word"]) fun _ _ _ _ _ _ us hl=>match us,hl with|[_,_],_=>rfl
 have Frow_at:=fun_mk (st:=s_row_at) l_14 d_14 k_14
 have brow_at:=Frow_at.binds (ps:=["disk","stretch","place"]) fun _ _ _ _ _ _ us hl=>match us,hl with|[_,_,_],_=>rfl
 have Frows_in:=fun_mk (st:=s_rows_in) l_15 d_15 k_15
 have brows_in:=Frows_in.binds (ps:=["disk","stretch"]) fun _ _ _ _ _ _ us hl=>match us,hl with|[_,_],_=>rfl
 have Fwhole_rows:=fun_mk (st:=s_whole_rows) l_16 d_16 k_16
 have bwhole_rows:=Fwhole_rows.binds (ps:=["disk"]) fun _ _ _ _ _ _ us hl=>match us,hl with|[_],_=>rfl
 have Fend_of:=fun_mk (st:=s_end_of) l_17 d_17 k_17
 have bend_of:=Fend_of.binds (ps:=["disk","is_hot"]) fun _ _ _ _ _ _ us hl=>match us,hl with|[_,_],_=>rfl
 have Fempties:=fun_mk (st:=s_empties) l_18 d_18 k_18
 have bempties:=Fempties.binds (ps:=["disk"]) fun _ _ _ _ _ _ us hl=>match us,hl with|[_],_=>rfl
 have Ffree_in:=fun_mk (st:=s_free_in) l_19 d_19 k_19
 have bfree_in:=Ffree_in.binds (ps:=["disk","end"]) fun _ _ _ _ _ _ us hl=>match us,hl with|[_,_],_=>rfl
 have Fnext_stretch:=fun_mk (st:=s_next_stretch) l_20 d_20 k_20
 have bnext_stretch:=Fnext_stretch.binds (ps:=["disk","is_hot"]) fun _ _ _ _ _ _ us hl=>match us,hl with|[_,_],_=>rfl
 have FDisk___init__:=fun_mk (st:=s_Disk___init__) l_21 d_21 k_21
 have bDisk___init__:=FDisk___init__.binds (ps:=["self","stretches","places"]) fun _ _ _ _ _ _ us hl=>match us,hl with|[_,_,_],_=>rfl
 have FDisk_stretches:=fun_mk (st:=s_Disk_stretches) l_22 d_22 k_22
 have bDisk_stretches:=FDisk_stretches.binds (ps:=["self"]) fun _ _ _ _ _ _ us hl=>match us,hl with|[_],_=>rfl
 have FDisk_places:=fun_mk (st:=s_Disk_places) l_23 d_23 k_23
 have bDisk_places:=FDisk_places.binds (ps:=["self"]) fun _ _ _ _ _ _ us hl=>match us,hl with|[_],_=>rfl
 have FDisk_next_place:=fun_mk (st:=s_Disk_next_place) l_24 d_24 k_24
 have bDisk_next_place:=FDisk_next_place.binds (ps:=["self","stretch"]) fun _ _ _ _ _ _ us hl=>match us,hl with|[_,_],_=>rfl
 have FDisk_told:=fun_mk (st:=s_Disk_told) l_25 d_25 k_25
 have bDisk_told:=FDisk_told.binds (ps:=["self","stretch","place"]) fun _ _ _ _ _ _ us hl=>match us,hl with|[_,_,_],_=>rfl
 have FDisk_signs:=fun_mk (st:=s_Disk_signs) l_26 d_26 k_26
 have bDisk_signs:=FDisk_signs.binds (ps:=["self"]) fun _ _ _ _ _ _ us hl=>match us,hl with|[_],_=>rfl
 have FDisk_write:=fun_mk (st:=s_Disk_write) l_27 d_27 k_27
 have bDisk_write:=FDisk_write.binds (ps:=["self","stretch","text"]) fun _ _ _ _ _ _ us hl=>match us,hl with|[_,_,_],_=>rfl
 have FDisk_empty:=fun_mk (st:=s_Disk_empty) l_28 d_28 k_28
 have bDisk_empty:=FDisk_empty.binds (ps:=["self","stretch"]) fun _ _ _ _ _ _ us hl=>match us,hl with|[_,_],_=>rfl
 have FDisk_refuse_if_stopped:=fun_mk (st:=s_Disk_refuse_if_stopped) l_29 d_29 k_29
 have bDisk_refuse_if_stopped:=FDisk_refuse_if_stopped.binds (ps:=["self"]) fun _ _ _ _ _ _ us hl=>match us,hl with|[_],_=>rfl
 have FDisk_spend:=fun_mk (st:=s_Disk_spend) l_30 d_30 k_30
 have bDisk_spend:=FDisk_spend.binds (ps:=["self","many"]) fun _ _ _ _ _ _ us hl=>match us,hl with|[_,_],_=>rfl
 have FDisk_first_signs:=fun_mk (st:=s_Disk_first_signs) l_31 d_31 k_31
 have bDisk_first_signs:=FDisk_first_signs.binds (ps:=["self","text"]) fun _ _ _ _ _ _ us hl=>match us,hl with|[_,_],_=>rfl
 have F_law_cell:=fun_mk (st:=s__law_cell) l_32 d_32 k_32
 have b_law_cell:=F_law_cell.binds (ps:=["_law_script","_law_k"]) fun _ _ _ _ _ _ us hl=>match us,hl with|[_,_],_=>rfl
 have F_law_pot:=fun_mk (st:=s__law_pot) l_33 d_33 k_33
 have b_law_pot:=F_law_pot.binds (ps:=["_law_script","_law_k"]) fun _ _ _ _ _ _ us hl=>match us,hl with|[_,_],_=>rfl
 have F_law_draw:=fun_mk (st:=s__law_draw) l_34 d_34 k_34
 have b_law_draw:=F_law_draw.binds (ps:=["_law_pot_here","_law_many"]) fun _ _ _ _ _ _ us hl=>match us,hl with|[_,_],_=>rfl
 have F_law_drawn:=fun_mk (st:=s__law_drawn) l_35 d_35 k_35
 have b_law_drawn:=F_law_drawn.binds (ps:=["_law_pot_here","_law_some"]) fun _ _ _ _ _ _ us hl=>match us,hl with|[_,_],_=>rfl
 have F_law_rows:=fun_mk (st:=s__law_rows) l_36 d_36 k_36
 have b_law_rows:=F_law_rows.binds (ps:=["_law_shelf"]) fun _ _ _ _ _ _ us hl=>match us,hl with|[_],_=>rfl
 have F_law_asked:=fun_mk (st:=s__law_asked) l_37 d_37 k_37
 have b_law_asked:=F_law_asked.binds (ps:=["_law_disk","_law_is_hot"]) fun _ _ _ _ _ _ us hl=>match us,hl with|[_,_],_=>rfl
 have F_law_due:=fun_mk (st:=s__law_due) l_38 d_38 k_38
 have b_law_due:=F_law_due.binds (ps:=["_law_ends","_law_shelf","_law_places","_law_is_hot"]) fun _ _ _ _ _ _ us hl=>match us,hl with|[_,_,_,_],_=>rfl
 have F_law_made_room:=fun_mk (st:=s__law_made_room) l_39 d_39 k_39
 have b_law_made_room:=F_law_made_room.binds (ps:=["_law_pot_here","_law_disk","_law_shelf","_law_ends"]) fun _ _ _ _ _ _ us hl=>match us,hl with|[_,_,_,_],_=>rfl
 have F_law_row:=fun_mk (st:=s__law_row) l_40 d_40 k_40
 have b_law_row:=F_law_row.binds (ps:=["_law_pot_here","_law_number","_law_is_hot"]) fun _ _ _ _ _ _ us hl=>match us,hl with|[_,_,_],_=>rfl
 have F_law_one_heat:=fun_mk (st:=s__law_one_heat) l_41 d_41 k_41
 have b_law_one_heat:=F_law_one_heat.binds (ps:=["_law_disk"]) fun _ _ _ _ _ _ us hl=>match us,hl with|[_],_=>rfl
 have F_law_step:=fun_mk (st:=s__law_step) l_42 d_42 k_42
 have b_law_step:=F_law_step.binds (ps:=["_law_pot_here","_law_disk","_law_shelf","_law_ends","_law_number"]) fun _ _ _ _ _ _ us hl=>match us,hl with|[_,_,_,_,_],_=>rfl
 have Flaw:=fun_mk (st:=s_law) l_43 d_43 k_43
 have blaw:=Flaw.binds (ps:=["_law_script"]) fun _ _ _ _ _ _ us hl=>match us,hl with|[_],_=>rfl
 refine ⟨PySem.W.fnOf "law" "law" (defArgs s_law) (defBody s_law) (defScope s_law) .none kV_43 dc_43 pm_43 an_43 cd_43 ct_43,fun s v=>.of_eq rfl,fun T hT=>?_,fun base KB _ hbt=>?_⟩
 ·simp only [List.mem_cons,List.not_mem_nil,or_false] at hT
  rcases hT with rfl|rfl
  ·exact ⟨tl_16,_,th_16⟩
  ·exact ⟨tl_36,_,th_36⟩
 have LB_whole_rows:LamB mg base (.ref cc_16) tt_16:=⟨⟨cc_16,rfl,PySem.W.codeHd_of_K KB th_16⟩,hbt⟩
 have LB__law_rows:LamB mg base (.ref cc_36) tt_36:=⟨⟨cc_36,rfl,PySem.W.codeHd_of_K KB th_36⟩,hbt⟩
 have G_is_whole:GF l.prog w K mg base true 1 "is_whole" ["value"] (spWhole):=⟨_,_,ok_is_whole Fis_whole T,PySem.W.mg_of X G a_0,k_0,bis_whole⟩
 have G_is_within:GF l.prog w K mg base true 2 "is_within" ["value","least","most"] (spWithin):=⟨_,_,ok_is_within Fis_within T G_is_whole,PySem.W.mg_of X G a_1,k_1,bis_within⟩
 have G_Disk:GCX l.prog w K mg base true 3 "Disk" a_Disk ["self","stretches","places"] (spInit _):=⟨_,_,ok_Disk_init FDisk___init__ T G_is_within,PySem.W.mg_of X G c_Disk,⟨mk_Disk,a_21,i_21,kc_Disk⟩,bDisk___init__⟩
 have M_Disk_stretches:GM l.prog w K mg base true 1 a_Disk "stretches" ["self"] (spRd _ fun _ d=>.int d.rows.length):=⟨_,_,ok_Disk_stretches FDisk_stretches T,⟨a_22,i_22,k_22⟩,bDisk_stretches⟩
 have M_Disk_places:GM l.prog w K mg base true 1 a_Disk "places" ["self"] (spRd _ fun m _=>.int m):=⟨_,_,ok_Disk_places FDisk_places T,⟨a_23,i_23,k_23⟩,bDisk_places⟩
 have M_Disk_next_place:GM l.prog w K mg base true 1 a_Disk "next_place" ["self","stretch"] (spNext _):=⟨_,_,ok_Disk_next_place FDisk_next_place T,⟨a_24,i_24,k_24⟩,bDisk_next_place⟩
 have M_Disk_told:GM l.prog w K mg base true 1 a_Disk "told" ["self","stretch","place"] (spTold _):=⟨_,_,ok_Disk_told FDisk_told T,⟨a_25,i_25,k_25⟩,bDisk_told⟩
 have M_Disk_refuse_if_stopped:GMX l.prog w K mg base true 1 a_Disk "refuse_if_stopped" ["self"] (spRefuse _):=⟨_,_,ok_Disk_refuse_if_stopped FDisk_refuse_if_stopped T,⟨a_29,i_29,k_29⟩,bDisk_refuse_if_stopped⟩
 have M_Disk_spend:GM l.prog w K mg base true 1 a_Disk "spend" ["self","many"] (spSpend _):=⟨_,_,ok_Disk_spend FDisk_spend T,⟨a_30,i_30,k_30⟩,bDisk_spend⟩
 have M_Disk_first_signs:GMX l.prog w K mg base true 2 a_Disk "first_signs" ["self","text"] (spFirst _):=⟨_,_,ok_Disk_first_signs FDisk_first_signs T M_Disk_spend M_Disk_refuse_if_stopped,⟨a_31,i_31,k_31⟩,bDisk_first_signs⟩
 have M_Disk_write:GMX l.prog w K mg base true 3 a_Disk "write" ["self","stretch","text"] (spWrite _):=⟨_,_,ok_Disk_write FDisk_write T M_Disk_first_signs M_Disk_refuse_if_stopped,⟨a_27,i_27,k_27⟩,bDisk_write⟩
 have M_Disk_empty:GMX l.prog w K mg base true 2 a_Disk "empty" ["self","stretch"] (spEmpty _):=⟨_,_,ok_Disk_empty FDisk_empty T M_Disk_spend M_Disk_refuse_if_stopped,⟨a_28,i_28,k_28⟩,bDisk_empty⟩
 have G_is_made_of:GF l.prog w K mg base true 1 "is_made_of" ["text","signs","most"] (spMade):=⟨_,_,ok_is_made_of Fis_made_of T,PySem.W.mg_of X G a_2,k_2,bis_made_of⟩
 have G_is_number_text:GF l.prog w K mg base true 2 "is_number_text" ["text"] (spTest numS):=⟨_,_,ok_is_number_text Fis_number_text T G_is_made_of,PySem.W.mg_of X G a_3,k_3,bis_number_text⟩
 have G_is_name:GF l.prog w K mg base true 2 "is_name" ["text"] (spTest nameS):=⟨_,_,ok_is_name Fis_name T G_is_made_of,PySem.W.mg_of X G a_4,k_4,bis_name⟩
 have G_is_word:GF l.prog w K mg base true 2 "is_word" ["text"] (spTest wordS):=⟨_,_,ok_is_word Fis_word T G_is_made_of,PySem.W.mg_of X G a_5,k_5,bis_word⟩
 have G_sum_of:GF l.prog w K mg base true 1 "sum_of" ["text"] (spSum):=⟨_,_,ok_sum_of Fsum_of T,PySem.W.mg_of X G a_6,k_6,bsum_of⟩
 have G_summed:GF l.prog w K mg base true 2 "summed" ["body"] (spSummed):=⟨_,_,ok_summed Fsummed T G_sum_of,PySem.W.mg_of X G a_7,k_7,bsummed⟩
 have G_body_of:GF l.prog w K mg base true 3 "body_of" ["text"] (spBody):=⟨_,_,ok_body_of Fbody_of T G_summed,PySem.W.mg_of X G a_8,k_8,bbody_of⟩
 have G_part_text:GF l.prog w K mg base true 1 "part_text" ["part"] (spPartT):=⟨_,_,ok_part_text Fpart_text T,PySem.W.mg_of X G a_10,k_10,bpart_text⟩
 have G_row_text:GF l.prog w K mg base true 3 "row_text" ["row"] (spRowT):=⟨_,_,ok_row_text Frow_text T G_summed G_part_text,PySem.W.mg_of X G a_9,k_9,brow_text⟩
 have G_read_part:GX l.prog w K mg base true 3 "read_part" ["kind","word"] (spReadP _):=⟨_,_,ok_read_part Fread_part T G_is_number_text G_is_name G_is_word,PySem.W.mg_of X G a_13,k_13,bread_part⟩
 have G_row_of:GX l.prog w K mg base true 4 "row_of" ["words"] (spRowOf _):=⟨_,_,ok_row_of Frow_of T G_read_part,PySem.W.mg_of X G a_12,k_12,brow_of⟩
 have G_read_row:GX l.prog w K mg base true 5 "read_row" ["text"] (spReadR _):=⟨_,_,ok_read_row Fread_row T G_body_of G_row_of,PySem.W.mg_of X G a_11,k_11,bread_row⟩
 have G_row_at:GF l.prog w K mg base true 7 "row_at" ["disk","stretch","place"] (spRowAt _):=⟨_,_,ok_row_at Frow_at T M_Disk_told G_read_row,PySem.W.mg_of X G a_14,k_14,brow_at⟩
 have G_rows_in:GF l.prog w K mg base true 8 "rows_in" ["disk","stretch"] (spRowsIn _):=⟨_,_,ok_rows_in Frows_in T M_Disk_next_place G_row_at,PySem.W.mg_of X G a_15,k_15,brows_in⟩
 have G_whole_rows:GF l.prog w K mg base true 9 "whole_rows" ["disk"] (spWR _):=⟨_,_,ok_whole_rows Fwhole_rows rfl LB_whole_rows T M_Disk_stretches G_rows_in,PySem.W.mg_of X G a_16,k_16,bwhole_rows⟩
 have G_end_of:GF l.prog w K mg base true 10 "end_of" ["disk","is_hot"] (spEnd _):=⟨_,_,ok_end_of Fend_of T G_whole_rows,PySem.W.mg_of X G a_17,k_17,bend_of⟩
 have G_empties:GF l.prog w K mg base true 2 "empties" ["disk"] (spEmpties _):=⟨_,_,ok_empties Fempties T M_Disk_stretches M_Disk_next_place,PySem.W.mg_of X G a_18,k_18,bempties⟩
 have G_free_in:GF l.prog w K mg base true 2 "free_in" ["disk","end"] (spFreeIn _):=⟨_,_,ok_free_in Ffree_in T M_Disk_places M_Disk_next_place,PySem.W.mg_of X G a_19,k_19,bfree_in⟩
 have G_next_stretch:GX l.prog w K mg base true 11 "next_stretch" ["disk","is_hot"] (spNS _):=⟨_,_,ok_next_stretch Fnext_stretch T G_end_of G_free_in G_empties,PySem.W.mg_of X G a_20,k_20,bnext_stretch⟩
 have G__law_cell:GF l.prog w K mg base true 1 "_law_cell" ["_law_script","_law_k"] (spAt K):=⟨_,_,ok__law_cell F_law_cell T,PySem.W.mg_of X G a_32,k_32,b_law_cell⟩
 have G__law_pot:GF l.prog w K mg base true 2 "_law_pot" ["_law_script","_law_k"] (spPot K):=⟨_,_,ok__law_pot F_law_pot T G__law_cell,PySem.W.mg_of X G a_33,k_33,b_law_pot⟩
 have G__law_draw:GF l.prog w K mg base true 1 "_law_draw" ["_law_pot_here","_law_many"] (spDraw):=⟨_,_,ok__law_draw F_law_draw T,PySem.W.mg_of X G a_34,k_34,b_law_draw⟩
 have G__law_drawn:GF l.prog w K mg base true 2 "_law_drawn" ["_law_pot_here","_law_some"] (spDrawn):=⟨_,_,ok__law_drawn F_law_drawn T G__law_draw,PySem.W.mg_of X G a_35,k_35,b_law_drawn⟩
 have G__law_due:GF l.prog w K mg base true 1 "_law_due" ["_law_ends","_law_shelf","_law_places","_law_is_hot"] (spDue):=⟨_,_,ok__law_due F_law_due T,PySem.W.mg_of X G a_38,k_38,b_law_due⟩
 have G__law_row:GF l.prog w K mg base true 3 "_law_row" ["_law_pot_here","_law_number","_law_is_hot"] (spRowL):=⟨_,_,ok__law_row F_law_row T G__law_draw G__law_drawn,PySem.W.mg_of X G a_40,k_40,b_law_row⟩
 have G__law_rows:GF l.prog w K mg base true 1 "_law_rows" ["_law_shelf"] (spLRows _):=⟨_,_,ok__law_rows F_law_rows rfl LB__law_rows T,PySem.W.mg_of X G a_36,k_36,b_law_rows⟩
 have G__law_asked:GF l.prog w K mg base true 12 "_law_asked" ["_law_disk","_law_is_hot"] (spAsked _):=⟨_,_,ok__law_asked F_law_asked T G_next_stretch,PySem.W.mg_of X G a_37,k_37,b_law_asked⟩
 have G__law_made_room:GF l.prog w K mg base true 4 "_law_made_room" ["_law_pot_here","_law_disk","_law_shelf","_law_ends"] (spRoom _):=⟨_,_,ok__law_made_room F_law_made_room T G__law_drawn M_Disk_empty,PySem.W.mg_of X G a_39,k_39,b_law_made_room⟩
 have G__law_one_heat:GF l.prog w K mg base true 10 "_law_one_heat" ["_law_disk"] (spHeat _):=⟨_,_,ok__law_one_heat F_law_one_heat T G_whole_rows,PySem.W.mg_of X G a_41,k_41,b_law_one_heat⟩
 have G__law_step:GF l.prog w K mg base true 13 "_law_step" ["_law_pot_here","_law_disk","_law_shelf","_law_ends","_law_number"] (spStep _):=⟨_,_,ok__law_step F_law_step T G__law_draw M_Disk_places G__law_due G__law_asked G__law_made_room G__law_row G_row_text M_Disk_write G_end_of,PySem.W.mg_of X G a_42,k_42,b_law_step⟩
 exact ok_law Flaw T G__law_pot G__law_draw G_Disk M_Disk_stretches G__law_step G_empties G_whole_rows G__law_rows G__law_one_heat
theorem walk {l:PySem.W.OpenLaw} {q:Program} {loose:List Str} {XP:(Str→Option Value)→Heap→Prop} {YP:World→Heap→Prop} {d:DefRec} {K:Params→PySem.W.Frag} (tt_16 tt_36:Addr) {ts:List Addr} (hn:l.most=some 63) (hdf:d.params.defaults=[])
  (hY:∀ (w:World) (h:Heap),YP w h→(K w.params).In h∧∀ T∈ts,h.get? T=some (PySem.W.tabObj #[])) (hts:∀ T,T∈ts→T∈[tt_16,tt_36]) (hts2:∀ T,T∈[tt_16,tt_36]→T∈ts) (hnd:([tt_16,tt_36]:List Addr).Nodup)
  (F:∀ (w:World) (mg:Str→Option Value) (fa:Addr) (h:Heap),(K w.params).In h→h.Ns mainGlobals mg→mg d.name=some (.ref fa) →
   ∃ fd:FuncData,(∀ (s:Shared) (u:Value),BindsTo s fd ⟨[u],[]⟩ [("_law_script",u)])∧(∀ T,T∈[tt_16,tt_36]→(K w.params).lookup T=none∧∃ c,PySem.W.codeHdIn (K w.params) c T=true)∧∀ base:Heap,(K w.params).In base→base.Ns mainGlobals mg→BtOk mg base→FnOk l.prog w (K w.params) mg base CX0 true 14 fa fd ["_law_script"] (spLaw tt_16 tt_36 (K w.params))) :
  PySem.W.WalkO q loose XP YP l.row.toRowW d [] (fun f vs=>PySem.call f vs) :=
 L2.walk_ofT (n:=63) (k:=14) (x:="_law_script") (CX:=fun _=>CX0) (sp:=fun w=>spLaw tt_16 tt_36 (K w.params)) (ts:=ts) hn (by decide) hdf ⟨fun _=>rfl,by decide,by decide,rfl⟩ hY (fun w mg fa h a b c=>let ⟨fd,g1,g2,g3⟩:=F w mg fa h a b c; ⟨fd,g1,fun T hT=>g2 T (hts T hT),g3⟩) (fun _ H a ns hl hT hS=>⟨a,ns,rfl,hS,hl,hT _ (hts2 _ (by simp)),hT _ (hts2 _ (by simp)),(by intro z; rw [z] at hnd; exact absurd hnd (by simp)),fun _=>rfl⟩) fun _ _ _ _ _ z=>z
end K35
set_option Elab.async false
def PySem.W.Fast.tw15401735115081658377:Nat:=0
def PySem.W.Fast.tw11292873703052264163:Nat:=0
def PySem.W.Fast.tw7261356453362628688:Nat:=0
def PySem.W.Fast.tw10603584100686057519:Nat:=0
def PySem.W.Fast.tw18283618671707958691:Nat:=0
def PySem.W.Fast.tw13811600985967931557:Nat:=0
def PySem.W.Fast.tw2765635621305580958:Nat:=0
def PySem.W.Fast.tw4156459045202326039:Nat:=0
def PySem.W.Fast.tw598314741946158407:Nat:=0
def PySem.W.Fast.tw12700248862045855735:Nat:=0
def PySem.W.Fast.tw9378403995399875974:Nat:=0
def PySem.W.Fast.tw7418997467485053696:Nat:=0
def PySem.W.Fast.tw9299099372356988872:Nat:=0
def PySem.W.Fast.tw9426776494635729556:Nat:=0
def PySem.W.Fast.tw14105178993406964936:Nat:=0
def PySem.W.Fast.tw118244410840408074:Nat:=0
def PySem.W.Fast.tw6221485724403515299:Nat:=0
def PySem.W.Fast.tw6545507642914484863:Nat:=0
def PySem.W.Fast.tw13896676959818870415:Nat:=0
def PySem.W.Fast.tw9600104540732250855:Nat:=0
def PySem.W.Fast.tw5955175928618973997:Nat:=0
def PySem.W.Fast.tw5592854149190034959:Nat:=0
def PySem.W.Fast.tw12561593581628100973:Nat:=0
def PySem.W.Fast.tw368565408861403845:Nat:=0
def PySem.W.Fast.tw15580440228932198059:Nat:=0
def PySem.W.Fast.tw6597679879350789094:Nat:=0
def PySem.W.Fast.tw8051166549916193194:Nat:=0
def PySem.W.Fast.tw13147313102845341838:Nat:=0
def PySem.W.Fast.tw17040459431252688370:Nat:=0
def PySem.W.Fast.tw5293553661020696019:Nat:=0
def PySem.W.Fast.tw15207403337641159345:Nat:=0
def PySem.W.Fast.tw8364832268245144644:Nat:=0
def PySem.W.Fast.tw17570855685714849864:Nat:=0
def PySem.W.Fast.tw9159038708649768132:Nat:=0
def PySem.W.Fast.tw5501173606802624961:Nat:=0
def PySem.W.Fast.tw1097298786400355620:Nat:=0
def PySem.W.Fast.tw17424742907482472636:Nat:=0
def PySem.W.Fast.tw16412073537002698411:Nat:=0
def PySem.W.Fast.tw9192701559462542098:Nat:=0
open PySem PySem.W PyProof.Rows
set_option maxRecDepth 100000 in
set_option maxHeartbeats 0 in
theorem PySem.Challenge.cw_cleanrows_k35_whole_rows_put_at_ends_holds : PySem.Challenge.rw_cleanrows_k35_whole_rows_put_at_ends.Holds := by
 w_on; o_law; k_head; (case hw=>w_witness2)
 k_fill
 refine K35.walk 342 520 (l:=PySem.Challenge.rw_cleanrows_k35_whole_rows_put_at_ends) rfl rfl (fun w h Y=>⟨PySem.W.km_in_of Y,PySem.W.km_tabs_of Y⟩) (by decide) (by decide) (by decide) ?F
 case F =>
  intro w mg fa h KX G hmg
  refine' K35.all_mk KX G hmg ?c_CleanError ?c_NoRow ?c_NoDisk ?c_Full ?c_Stopped ?c_NoFile ?c_NoPlace ?c_HeldAlready ?c_NotHeld ?c_NoFiles ?c_NoMark ?c_NoRoom ?c_Gone ?c_NotClosed ?c_NotBlank ?c_NoDeed ?c_NoHouse ?c_Disk ?a_0 ?l_0 ?d_0 ?k_0 ?a_1 ?l_1 ?d_1 ?k_1 ?a_2 ?l_2 ?d_2 ?k_2 ?a_3 ?l_3 ?d_3 ?k_3 ?a_4 ?l_4 ?d_4 ?k_4 ?a_5 ?l_5 ?d_5 ?k_5 ?a_6 ?l_6 ?d_6 ?k_6 ?a_7 ?l_7 ?d_7 ?k_7 ?a_8 ?l_8 ?d_8 ?k_8 ?a_9 ?l_9 ?d_9 ?k_9 ?a_10 ?l_10 ?d_10 ?k_10 ?a_11 ?l_11 ?d_11 ?k_11 ?a_12 ?l_12 ?d_12 ?k_12 ?a_13 ?l_13 ?d_13 ?k_13 ?a_14 ?l_14 ?d_14 ?k_14 ?a_15 ?l_15 ?d_15 ?k_15 ?a_16 ?l_16 ?d_16 ?tn_16 ?th_16 ?tl_16 ?k_16 ?a_17 ?l_17 ?d_17 ?k_17 ?a_18 ?l_18 ?d_18 ?k_18 ?a_19 ?l_19 ?d_19 ?k_19 ?a_20 ?l_20 ?d_20 ?k_20 ?a_21 ?i_21 ?l_21 ?d_21 ?k_21 ?a_22 ?i_22 ?l_22 ?d_22 ?k_22 ?a_23 ?i_23 ?l_23 ?d_23 ?k_23 ?a_24 ?i_24 ?l_24 ?d_24 ?k_24 ?a_25 ?i_25 ?l_25 ?d_25 ?k_25 ?a_26 ?i_26 ?l_26 ?d_26 ?k_26 ?a_27 ?i_27 ?l_27 ?d_27 ?k_27 ?a_28 ?i_28 ?l_28 ?d_28 ?k_28 ?a_29 ?i_29 ?l_29 ?d_29 ?k_29 ?a_30 ?i_30 ?l_30 ?d_30 ?k_30 ?a_31 ?i_31 ?l_31 ?d_31 ?k_31 ?a_32 ?l_32 ?d_32 ?k_32 ?a_33 ?l_33 ?d_33 ?k_33 ?a_34 ?l_34 ?d_34 ?k_34 ?a_35 ?l_35 ?d_35 ?k_35 ?a_36 ?l_36 ?d_36 ?tn_36 ?th_36 ?tl_36 ?k_36 ?a_37 ?l_37 ?d_37 ?k_37 ?a_38 ?l_38 ?d_38 ?k_38 ?a_39 ?l_39 ?d_39 ?k_39 ?a_40 ?l_40 ?d_40 ?k_40 ?a_41 ?l_41 ?d_41 ?k_41 ?a_42 ?l_42 ?d_42 ?k_42 ?a_43 ?l_43 ?d_43 ?k_43 ?z_ValueError ?z_abs ?z_all ?z_bool ?z_divmod ?z_enumerate ?z_int ?z_isinstance ?z_len ?z_max ?z_min ?z_ord ?z_range ?z_repr ?z_sorted ?z_str ?z_tuple ?z_zip ?v_FIGURES ?v_LETTERS ?v_MOST_FIGURES ?v_MOST_LETTERS ?v_MOST_SIGNS ?v_MODULUS ?v_COLD_KIND ?v_LEAST_STRETCHES ?v_MOST_STRETCHES ?v_LEAST_PLACES ?v_MOST_PLACES ?v_PARTS ?dl_PARTS ?ds_PARTS ?tl_PARTS_put ?tl_PARTS_cut ?tl_PARTS_hold ?tl_PARTS_free ?tl_PARTS_carry ?ek_CleanError ?ek_NoRow ?ek_NoDisk ?ek_Full ?ek_Stopped ?ek_NoRoom ?ms_NoRow ?ga_NoRoom ?gr_NoRoom ?clx_NoRoom ?ob_NoRoom ?ba_NoRoom ?mro_NoRoom ?kk_NoRoom_ValueError ?kk_NoRoom_NoRow ?kk_NoRoom_NoDisk ?kk_NoRoom_Full ?kk_NoRoom_Stopped ?kk_NoRoom_NoFile ?kk_NoRoom_NoPlace ?kk_NoRoom_HeldAlready ?kk_NoRoom_NotHeld ?kk_NoRoom_NoFiles ?kk_NoRoom_NoMark ?kk_NoRoom_NoRoom ?kk_NoRoom_Gone ?kk_NoRoom_NotClosed ?kk_NoRoom_NotBlank ?kk_NoRoom_NoDeed ?kk_NoRoom_NoHouse ?pg_Disk ?hdd_Disk ?po_Disk ?sa_Disk ?mk_Disk ?kc_Disk ?na_at_sides ?na_counted ?na_has_stopped ?na_left ?na_width ?na_written
  (case c_CleanError=>first|k_is|kit_is|k_exc)
  (case c_NoRow=>first|k_is|kit_is|k_exc)
  (case c_NoDisk=>first|k_is|kit_is|k_exc)
  (case c_Full=>first|k_is|kit_is|k_exc)
  (case c_Stopped=>first|k_is|kit_is|k_exc)
  (case c_NoFile=>first|k_is|kit_is|k_exc)
  (case c_NoPlace=>first|k_is|kit_is|k_exc)
  (case c_HeldAlready=>first|k_is|kit_is|k_exc)
  (case c_NotHeld=>first|k_is|kit_is|k_exc)
  (case c_NoFiles=>first|k_is|kit_is|k_exc)
  (case c_NoMark=>first|k_is|kit_is|k_exc)
  (case c_NoRoom=>first|k_is|kit_is|k_exc)
  (case c_Gone=>first|k_is|kit_is|k_exc)
  (case c_NotClosed=>first|k_is|kit_is|k_exc)
  (case c_NotBlank=>first|k_is|kit_is|k_exc)
  (case c_NoDeed=>first|k_is|kit_is|k_exc)
  (case c_NoHouse=>first|k_is|kit_is|k_exc)
  (case c_Disk=>first|k_is|kit_is|k_exc)
  (case a_0=>first|k_is|kit_is|k_exc)
  (case l_0=>first|k_is|kit_is|k_exc)
  (case d_0=>first|k_is|kit_is|k_exc)
  (case k_0=>first|k_is|kit_is|k_exc)
  (case a_1=>first|k_is|kit_is|k_exc)
  (case l_1=>first|k_is|kit_is|k_exc)
  (case d_1=>first|k_is|kit_is|k_exc)
  (case k_1=>first|k_is|kit_is|k_exc)
  (case a_2=>first|k_is|kit_is|k_exc)
  (case l_2=>first|k_is|kit_is|k_exc)
  (case d_2=>first|k_is|kit_is|k_exc)
  (case k_2=>first|k_is|kit_is|k_exc)
  (case a_3=>first|k_is|kit_is|k_exc)
  (case l_3=>first|k_is|kit_is|k_exc)
  (case d_3=>first|k_is|kit_is|k_exc)
  (case k_3=>first|k_is|kit_is|k_exc)
  (case a_4=>first|k_is|kit_is|k_exc)
  (case l_4=>first|k_is|kit_is|k_exc)
  (case d_4=>first|k_is|kit_is|k_exc)
  (case k_4=>first|k_is|kit_is|k_exc)
  (case a_5=>first|k_is|kit_is|k_exc)
  (case l_5=>first|k_is|kit_is|k_exc)
  (case d_5=>first|k_is|kit_is|k_exc)
  (case k_5=>first|k_is|kit_is|k_exc)
  (case a_6=>first|k_is|kit_is|k_exc)
  (case l_6=>first|k_is|kit_is|k_exc)
  (case d_6=>first|k_is|kit_is|k_exc)
  (case k_6=>first|k_is|kit_is|k_exc)
  (case a_7=>first|k_is|kit_is|k_exc)
  (case l_7=>first|k_is|kit_is|k_exc)
  (case d_7=>first|k_is|kit_is|k_exc)
  (case k_7=>first|k_is|kit_is|k_exc)
  (case a_8=>first|k_is|kit_is|k_exc)
  (case l_8=>first|k_is|kit_is|k_exc)
  (case d_8=>first|k_is|kit_is|k_exc)
  (case k_8=>first|k_is|kit_is|k_exc)
  (case a_9=>first|k_is|kit_is|k_exc)
  (case l_9=>first|k_is|kit_is|k_exc)
  (case d_9=>first|k_is|kit_is|k_exc)
  (case k_9=>first|k_is|kit_is|k_exc)
  (case a_10=>first|k_is|kit_is|k_exc)
  (case l_10=>first|k_is|kit_is|k_exc)
  (case d_10=>first|k_is|kit_is|k_exc)
  (case k_10=>first|k_is|kit_is|k_exc)
  (case a_11=>first|k_is|kit_is|k_exc)
  (case l_11=>first|k_is|kit_is|k_exc)
  (case d_11=>first|k_is|kit_is|k_exc)
  (case k_11=>first|k_is|kit_is|k_exc)
  (case a_12=>first|k_is|kit_is|k_exc)
  (case l_12=>first|k_is|kit_is|k_exc)
  (case d_12=>first|k_is|kit_is|k_exc)
  (case k_12=>first|k_is|kit_is|k_exc)
  (case a_13=>first|k_is|kit_is|k_exc)
  (case l_13=>first|k_is|kit_is|k_exc)
  (case d_13=>first|k_is|kit_is|k_exc)
  (case k_13=>first|k_is|kit_is|k_exc)
  (case a_14=>first|k_is|kit_is|k_exc)
  (case l_14=>first|k_is|kit_is|k_exc)
  (case d_14=>first|k_is|kit_is|k_exc)
  (case k_14=>first|k_is|kit_is|k_exc)
  (case a_15=>first|k_is|kit_is|k_exc)
  (case l_15=>first|k_is|kit_is|k_exc)
  (case d_15=>first|k_is|kit_is|k_exc)
  (case k_15=>first|k_is|kit_is|k_exc)
  (case a_16=>first|k_is|kit_is|k_exc)
  (case l_16=>first|k_is|kit_is|k_exc)
  (case d_16=>first|k_is|kit_is|k_exc)
  (case tn_16=>first|k_is|kit_is|k_exc|rfl|decide +kernel)
  (case th_16=>first|k_is|kit_is|k_exc|rfl|decide +kernel)
  (case tl_16=>first|k_is|kit_is|k_exc|rfl|decide +kernel)
  (case k_16=>first|k_is|kit_is|k_exc)
  (case a_17=>first|k_is|kit_is|k_exc)
  (case l_17=>first|k_is|kit_is|k_exc)
  (case d_17=>first|k_is|kit_is|k_exc)
  (case k_17=>first|k_is|kit_is|k_exc)
  (case a_18=>first|k_is|kit_is|k_exc)
  (case l_18=>first|k_is|kit_is|k_exc)
  (case d_18=>first|k_is|kit_is|k_exc)
  (case k_18=>first|k_is|kit_is|k_exc)
  (case a_19=>first|k_is|kit_is|k_exc)
  (case l_19=>first|k_is|kit_is|k_exc)
  (case d_19=>first|k_is|kit_is|k_exc)
  (case k_19=>first|k_is|kit_is|k_exc)
  (case a_20=>first|k_is|kit_is|k_exc)
  (case l_20=>first|k_is|kit_is|k_exc)
  (case d_20=>first|k_is|kit_is|k_exc)
  (case k_20=>first|k_is|kit_is|k_exc)
  (case a_21=>first|k_is|kit_is|k_exc)
  (case i_21=>first|k_is|kit_is|k_exc)
  (case l_21=>first|k_is|kit_is|k_exc)
  (case d_21=>first|k_is|kit_is|k_exc)
  (case k_21=>first|k_is|kit_is|k_exc)
  (case a_22=>first|k_is|kit_is|k_exc)
  (case i_22=>first|k_is|kit_is|k_exc)
  (case l_22=>first|k_is|kit_is|k_exc)
  (case d_22=>first|k_is|kit_is|k_exc)
  (case k_22=>first|k_is|kit_is|k_exc)
  (case a_23=>first|k_is|kit_is|k_exc)
  (case i_23=>first|k_is|kit_is|k_exc)
  (case l_23=>first|k_is|kit_is|k_exc)
  (case d_23=>first|k_is|kit_is|k_exc)
  (case k_23=>first|k_is|kit_is|k_exc)
  (case a_24=>first|k_is|kit_is|k_exc)
  (case i_24=>first|k_is|kit_is|k_exc)
  (case l_24=>first|k_is|kit_is|k_exc)
  (case d_24=>first|k_is|kit_is|k_exc)
  (case k_24=>first|k_is|kit_is|k_exc)
  (case a_25=>first|k_is|kit_is|k_exc)
  (case i_25=>first|k_is|kit_is|k_exc)
  (case l_25=>first|k_is|kit_is|k_exc)
  (case d_25=>first|k_is|kit_is|k_exc)
  (case k_25=>first|k_is|kit_is|k_exc)
  (case a_26=>first|k_is|kit_is|k_exc)
  (case i_26=>first|k_is|kit_is|k_exc)
  (case l_26=>first|k_is|kit_is|k_exc)
  (case d_26=>first|k_is|kit_is|k_exc)
  (case k_26=>first|k_is|kit_is|k_exc)
  (case a_27=>first|k_is|kit_is|k_exc)
  (case i_27=>first|k_is|kit_is|k_exc)
  (case l_27=>first|k_is|kit_is|k_exc)
  (case d_27=>first|k_is|kit_is|k_exc)
  (case k_27=>first|k_is|kit_is|k_exc)
  (case a_28=>first|k_is|kit_is|k_exc)
  (case i_28=>first|k_is|kit_is|k_exc)
  (case l_28=>first|k_is|kit_is|k_exc)
  (case d_28=>first|k_is|kit_is|k_exc)
  (case k_28=>first|k_is|kit_is|k_exc)
  (case a_29=>first|k_is|kit_is|k_exc)
  (case i_29=>first|k_is|kit_is|k_exc)
  (case l_29=>first|k_is|kit_is|k_exc)
  (case d_29=>first|k_is|kit_is|k_exc)
  (case k_29=>first|k_is|kit_is|k_exc)
  (case a_30=>first|k_is|kit_is|k_exc)
  (case i_30=>first|k_is|kit_is|k_exc)
  (case l_30=>first|k_is|kit_is|k_exc)
  (case d_30=>first|k_is|kit_is|k_exc)
  (case k_30=>first|k_is|kit_is|k_exc)
  (case a_31=>first|k_is|kit_is|k_exc)
  (case i_31=>first|k_is|kit_is|k_exc)
  (case l_31=>first|k_is|kit_is|k_exc)
  (case d_31=>first|k_is|kit_is|k_exc)
  (case k_31=>first|k_is|kit_is|k_exc)
  (case a_32=>first|k_is|kit_is|k_exc)
  (case l_32=>first|k_is|kit_is|k_exc)
  (case d_32=>first|k_is|kit_is|k_exc)
  (case k_32=>first|k_is|kit_is|k_exc)
  (case a_33=>first|k_is|kit_is|k_exc)
  (case l_33=>first|k_is|kit_is|k_exc)
  (case d_33=>first|k_is|kit_is|k_exc)
  (case k_33=>first|k_is|kit_is|k_exc)
  (case a_34=>first|k_is|kit_is|k_exc)
  (case l_34=>first|k_is|kit_is|k_exc)
  (case d_34=>first|k_is|kit_is|k_exc)
  (case k_34=>first|k_is|kit_is|k_exc)
  (case a_35=>first|k_is|kit_is|k_exc)
  (case l_35=>first|k_is|kit_is|k_exc)
  (case d_35=>first|k_is|kit_is|k_exc)
  (case k_35=>first|k_is|kit_is|k_exc)
  (case a_36=>first|k_is|kit_is|k_exc)
  (case l_36=>first|k_is|kit_is|k_exc)
  (case d_36=>first|k_is|kit_is|k_exc)
  (case tn_36=>first|k_is|kit_is|k_exc|rfl|decide +kernel)
  (case th_36=>first|k_is|kit_is|k_exc|rfl|decide +kernel)
  (case tl_36=>first|k_is|kit_is|k_exc|rfl|decide +kernel)
  (case k_36=>first|k_is|kit_is|k_exc)
  (case a_37=>first|k_is|kit_is|k_exc)
  (case l_37=>first|k_is|kit_is|k_exc)
  (case d_37=>first|k_is|kit_is|k_exc)
  (case k_37=>first|k_is|kit_is|k_exc)
  (case a_38=>first|k_is|kit_is|k_exc)
  (case l_38=>first|k_is|kit_is|k_exc)
  (case d_38=>first|k_is|kit_is|k_exc)
  (case k_38=>first|k_is|kit_is|k_exc)
  (case a_39=>first|k_is|kit_is|k_exc)
  (case l_39=>first|k_is|kit_is|k_exc)
  (case d_39=>first|k_is|kit_is|k_exc)
  (case k_39=>first|k_is|kit_is|k_exc)
  (case a_40=>first|k_is|kit_is|k_exc)
  (case l_40=>first|k_is|kit_is|k_exc)
  (case d_40=>first|k_is|kit_is|k_exc)
  (case k_40=>first|k_is|kit_is|k_exc)
  (case a_41=>first|k_is|kit_is|k_exc)
  (case l_41=>first|k_is|kit_is|k_exc)
  (case d_41=>first|k_is|kit_is|k_exc)
  (case k_41=>first|k_is|kit_is|k_exc)
  (case a_42=>first|k_is|kit_is|k_exc)
  (case l_42=>first|k_is|kit_is|k_exc)
  (case d_42=>first|k_is|kit_is|k_exc)
  (case k_42=>first|k_is|kit_is|k_exc)
  (case a_43=>first|k_is|kit_is|k_exc)
  (case l_43=>first|k_is|kit_is|k_exc)
  (case d_43=>first|k_is|kit_is|k_exc)
  (case k_43=>first|k_is|kit_is|k_exc)
  (case z_ValueError=>first|k_is|kit_is|k_exc)
  (case z_abs=>first|k_is|kit_is|k_exc)
  (case z_all=>first|k_is|kit_is|k_exc)
  (case z_bool=>first|k_is|kit_is|k_exc)
  (case z_divmod=>first|k_is|kit_is|k_exc)
  (case z_enumerate=>first|k_is|kit_is|k_exc)
  (case z_int=>first|k_is|kit_is|k_exc)
  (case z_isinstance=>first|k_is|kit_is|k_exc)
  (case z_len=>first|k_is|kit_is|k_exc)
  (case z_max=>first|k_is|kit_is|k_exc)
  (case z_min=>first|k_is|kit_is|k_exc)
  (case z_ord=>first|k_is|kit_is|k_exc)
  (case z_range=>first|k_is|kit_is|k_exc)
  (case z_repr=>first|k_is|kit_is|k_exc)
  (case z_sorted=>first|k_is|kit_is|k_exc)
  (case z_str=>first|k_is|kit_is|k_exc)
  (case z_tuple=>first|k_is|kit_is|k_exc)
  (case z_zip=>first|k_is|kit_is|k_exc)
  (case v_FIGURES=>first|k_is|kit_is|k_exc)
  (case v_LETTERS=>first|k_is|kit_is|k_exc)
  (case v_MOST_FIGURES=>first|k_is|kit_is|k_exc)
  (case v_MOST_LETTERS=>first|k_is|kit_is|k_exc)
  (case v_MOST_SIGNS=>first|k_is|kit_is|k_exc)
  (case v_MODULUS=>first|k_is|kit_is|k_exc)
  (case v_COLD_KIND=>first|k_is|kit_is|k_exc)
  (case v_LEAST_STRETCHES=>first|k_is|kit_is|k_exc)
  (case v_MOST_STRETCHES=>first|k_is|kit_is|k_exc)
  (case v_LEAST_PLACES=>first|k_is|kit_is|k_exc)
  (case v_MOST_PLACES=>first|k_is|kit_is|k_exc)
  (case v_PARTS=>first|k_is|kit_is|k_exc)
  (case dl_PARTS=>first|k_is|kit_is|k_exc)
  (case ds_PARTS=>first|k_is|kit_is|k_exc|rfl|decide +kernel)
  (case tl_PARTS_put=>first|k_is|kit_is|k_exc|rfl|decide +kernel)
  (case tl_PARTS_cut=>first|k_is|kit_is|k_exc|rfl|decide +kernel)
  (case tl_PARTS_hold=>first|k_is|kit_is|k_exc|rfl|decide +kernel)
  (case tl_PARTS_free=>first|k_is|kit_is|k_exc|rfl|decide +kernel)
  (case tl_PARTS_carry=>first|k_is|kit_is|k_exc|rfl|decide +kernel)
  (case ek_CleanError=>first|k_is|kit_is|k_exc)
  (case ek_NoRow=>first|k_is|kit_is|k_exc)
  (case ek_NoDisk=>first|k_is|kit_is|k_exc)
  (case ek_Full=>first|k_is|kit_is|k_exc)
  (case ek_Stopped=>first|k_is|kit_is|k_exc)
  (case ek_NoRoom=>first|k_is|kit_is|k_exc)
  (case ms_NoRow=>first|k_is|kit_is|k_exc)
  (case ga_NoRoom=>first|k_is|kit_is|k_exc)
  (case gr_NoRoom=>first|k_is|kit_is|k_exc)
  (case clx_NoRoom=>first|k_is|kit_is|k_exc)
  (case ob_NoRoom=>first|k_is|kit_is|k_exc)
  (case ba_NoRoom=>first|k_is|kit_is|k_exc)
  (case mro_NoRoom=>first|k_is|kit_is|k_exc)
  (case kk_NoRoom_ValueError=>first|k_is|kit_is|k_exc)
  (case kk_NoRoom_NoRow=>first|k_is|kit_is|k_exc)
  (case kk_NoRoom_NoDisk=>first|k_is|kit_is|k_exc)
  (case kk_NoRoom_Full=>first|k_is|kit_is|k_exc)
  (case kk_NoRoom_Stopped=>first|k_is|kit_is|k_exc)
  (case kk_NoRoom_NoFile=>first|k_is|kit_is|k_exc)
  (case kk_NoRoom_NoPlace=>first|k_is|kit_is|k_exc)
  (case kk_NoRoom_HeldAlready=>first|k_is|kit_is|k_exc)
  (case kk_NoRoom_NotHeld=>first|k_is|kit_is|k_exc)
  (case kk_NoRoom_NoFiles=>first|k_is|kit_is|k_exc)
  (case kk_NoRoom_NoMark=>first|k_is|kit_is|k_exc)
  (case kk_NoRoom_NoRoom=>first|k_is|kit_is|k_exc)
  (case kk_NoRoom_Gone=>first|k_is|kit_is|k_exc)
  (case kk_NoRoom_NotClosed=>first|k_is|kit_is|k_exc)
  (case kk_NoRoom_NotBlank=>first|k_is|kit_is|k_exc)
  (case kk_NoRoom_NoDeed=>first|k_is|kit_is|k_exc)
  (case kk_NoRoom_NoHouse=>first|k_is|kit_is|k_exc)
  (case pg_Disk=>first|k_is|kit_is|k_exc)
  (case hdd_Disk=>first|k_is|kit_is|k_exc)
  (case po_Disk=>first|k_is|kit_is|k_exc)
  (case sa_Disk=>first|k_is|kit_is|k_exc)
  (case mk_Disk=>first|k_is|kit_is|k_exc)
  (case kc_Disk=>first|k_is|kit_is|k_exc)
  (case na_at_sides=>first|k_is|kit_is|k_exc)
  (case na_counted=>first|k_is|kit_is|k_exc)
  (case na_has_stopped=>first|k_is|kit_is|k_exc)
  (case na_left=>first|k_is|kit_is|k_exc)
  (case na_width=>first|k_is|kit_is|k_exc)
  (case na_written=>first|k_is|kit_is|k_exc)
