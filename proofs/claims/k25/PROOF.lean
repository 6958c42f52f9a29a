import PyProof.Rows.All
import Wide.All
import OpenK.AllK
import Wide.FinOn
import Lean
import PyProof.EqAt
import PyProof.EqKinds
import PyProof.TupleCall
import KE.KUnpack
import PyProof.NeKinds
import PyProof.EnumFor
import PyProof.EnumStmt
import PyProof.EnumMake
import PyProof.Draws
import PyProof.StrWalks
import PyProof.Rows.FStr
import PyProof.Rows.CallKw2
import PyProof.StrBlockL
import KE.KIntText
import PyProof.ConsumeWalk
import PyProof.StrBlockG
import PyProof.CallStr
import PyProof.Rows.Range3
import PyProof.MeetsDict
import PyProof.DictList
import PyProof.StrLawsChain
import PyProof.StrLawsNeg
import KE.IntTextLaws
import KE.IntTextText
import PyProof.CallFns
import PyProof.CompUse
import PyProof.DictWalks
import KE.KDictSum
import PyProof.FString5
import KE.KLam
import KE.KSortKey
import KE.KNestM
import PyProof.Rows.RuleN_abs
import PyProof.WalkInts
import KE.KMinKey
import KE.KSortTup
import PyProof.DictCompW
import PyProof.SetRoads
import PyProof.SetNew
import KE.KEqDict
import PyProof.ListRange
import PySem.Challenge.RW_cleanrows_k25_whole_apart
local macro_rules | `(f!$_)=>`(by decide +kernel)
open PySem.W (instObj methodObj hideAll hideAll_get of_hideAll lookIn plainGet hasDictIn handedIn plainGet_of isFn plainOver takerIn makesIn emptyDict keepIn methodCall_KW callWith_K fnOf codeIn excIn clsIn nsIn mg_of mg_none_of)
open List (mem_filter mem_range mem_cons_self mem_cons_of_mem mem_cons mem_append mem_append_left getElem?_set_self getElem?_set_ne mem_append_right size_toArray length_cons map_cons length_map append_nil nodup_cons replicate length length_take getElem?_map mem_of_getElem? length_append length_drop any_cons replicate_succ flatten_cons foldl length_singleton map_nil lookup_cons all_eq_true getD_eq_getElem?_getD mem_singleton take_of_length_le getElem_mem getElem_of_mem find?_cons length_nil filter_cons pairwise_cons Perm map_map map_append length_eq_zero_iff mem_map not_mem_nil take_add_one foldl_append flatMap_append length_pos_iff)
open PySem.Heap (lt_size SameBut get?_push_of_some get?_push_size size_push get?_update_self get?_update_other ExtBut)
open Nat (lt_of_lt_of_le lt_irrefl ne_of_lt le_trans le_of_lt ne_of_gt le_refl zero_le le_of_eq lt_succ_self le_succ lt_succ_of_lt lt_trans lt_of_succ_lt le_succ_of_le)
open Array (length_toList getElem?_toList getD getD_eq_getD_getElem?)
open Option (isSome_iff_exists getD_none bind_some isSome_map map_eq_some_iff)
open Bool (and_eq_true false_eq_true not_eq_true')
open PySem.Value (float type builtin)
open PyProof.Rows (KeyOrd)
open PySem.F (slot_tuple_add entry_tuple_add args_tuple_add_2 slot_dict_get plainAttrs_dict slot_dict_values called_set)
open PySem.Obj (mapSeq mapFields data_mapFields)
set_option Elab.async false
set_option linter.all false
set_option maxRecDepth 100000
namespace L2
open PySem PySem.Spec PyProof.Rows
abbrev Key:=Sum Int Str
def zbJ:Key->Value->Bool
 | .inl k,v=>Value.isInt k v
 | .inr x,v=>Value.isStrOf x v
def zos(w:World):Key->Int
 | .inl k=>hashInt k
 | .inr x=>hashStr w x
theorem za9:∀{k:Key}{v:Value},zbJ k v=true->(∃i t,k=Sum.inl i/\v=Value.int i t)\/(∃x t,k=Sum.inr x/\v=Value.str x t)
 | .inl i,v,h=>by
  obtain ⟨t,e⟩:=Value.isInt_shape (k:=i) (v:=v) h
  exact .inl ⟨i,t,rfl,e⟩
 | .inr x,v,h=>by
  obtain ⟨t,e⟩:=Value.isStrOf_shape (x:=x) (v:=v) h
  exact .inr ⟨x,t,rfl,e⟩
theorem zlc(i:Int)(t:Tok):zbJ (.inl i) (.int i t)=true:=by simp [zbJ,Value.isInt]
theorem zor(x:Str)(t:Tok):zbJ (.inr x) (.str x t)=true:=by simp [zbJ,Value.isStrOf]
theorem zom(a b:Int):decide ((Sum.inl a:Key)=Sum.inl b)=(a==b):=by
 by_cases e:a=b
 ·subst e;simp
 ·have h : ¬ (Sum.inl a:Key)=Sum.inl b:=λq=>e (Sum.inl.inj q)
  rw [decide_eq_false h]
  exact (beq_eq_false_iff_ne.mpr e).symm
theorem zn6(a b:Str):decide ((Sum.inr a:Key)=Sum.inr b)=decide (a=b):=by
 by_cases e:a=b
 ·subst e;simp
 ·have h : ¬ (Sum.inr a:Key)=Sum.inr b:=λq=>e (Sum.inr.inj q)
  rw [decide_eq_false h,decide_eq_false e]
theorem zqm(a:Int)(b:Str):decide ((Sum.inl a:Key)=Sum.inr b)=false:=decide_eq_false (λq=>nomatch q)
theorem zrk(a:Str)(b:Int):decide ((Sum.inr a:Key)=Sum.inl b)=false:=decide_eq_false (λq=>nomatch q)
def zae(prog:Program)(w:World):PySem.KeyKind prog w Key where
 is:=zbJ
 hash:=zos w
 inj:=λv a b ha hb=>by
  rcases za9 ha with ⟨i,t,rfl,rfl⟩|⟨x,t,rfl,rfl⟩
  ·rcases za9 hb with ⟨j,u,rfl,e⟩|⟨y,u,rfl,e⟩
   ·injection e with e1 _;rw [e1]
   ·exact nomatch e
  ·rcases za9 hb with ⟨j,u,rfl,e⟩|⟨y,u,rfl,e⟩
   ·exact nomatch e
   ·injection e with e1 _;rw [e1]
 byValue:=λk v h=>by
  rcases za9 h with ⟨i,t,rfl,rfl⟩|⟨x,t,rfl,rfl⟩<;>rfl
 pyHash:=λhv h=>by
  rcases za9 hv with ⟨i,t,rfl,rfl⟩|⟨x,t,rfl,rfl⟩
  ·exact wpAny_pyHash_int h
  ·exact wpAny_pyHash_str h
 eqBool:=λhu hv h=>by
  rcases za9 hu with ⟨i,t,rfl,rfl⟩|⟨x,t,rfl,rfl⟩
  ·rcases za9 hv with ⟨j,u,rfl,rfl⟩|⟨y,u,rfl,rfl⟩
   ·rw [zom] at h;exact wpAny_eqBool_int h
   ·rw [zqm] at h;exact SeqAt.EqAt.int_str i t y u _ _ _ _ h
  ·rcases za9 hv with ⟨j,u,rfl,rfl⟩|⟨y,u,rfl,rfl⟩
   ·rw [zrk] at h;exact SeqAt.EqAt.str_int x t j u _ _ _ _ h
   ·rw [zn6] at h;exact wpAny_eqBool_str h
 «strs»:=λk x t v h=>by
  rcases za9 h with ⟨i,u,rfl,e⟩|⟨y,u,rfl,e⟩
  ·exact nomatch e
  ·injection e with e1 _
   subst e1
   cases v<;>rfl
theorem zpe(prog:Program)(w:World)(i:Int)(t:Tok):(zae prog w).is (.inl i) (.int i t)=true:=zlc i t
theorem zmD(prog:Program)(w:World)(x:Str)(t:Tok):(zae prog w).is (.inr x) (.str x t)=true:=zor x t
inductive V where
 | non|bl (b:Bool)|int (i:Int)|str (x:Str)|byt (b:Array UInt8)|flt (b:UInt64)|ref (a:Addr)|ty (n:String)
 deriving DecidableEq
def zi:V->Value->Prop
 | .non,u=>u=Value.none
 | .bl b,u=>u=Value.bool b
 | .int i,u=>∃t,u=Value.int i t
 | .str x,u=>∃t,u=Value.str x t
 | .byt b,u=>∃t,u=Value.bytes b t
 | .flt b,u=>∃t,u=float b t
 | .ref a,u=>u=Value.ref a
 | .ty n,u=>u=type n
abbrev zk:List V->List Value->Prop:=Paired zi
theorem zk.length{xs:List V}{us:List Value}(r:zk xs us):xs.length=us.length:=Paired.length r
theorem zk.get:∀{xs:List V}{us:List Value}{i:Nat}{x:V},zk xs us->xs[i]?=some x->∃u,us[i]?=some u/\zi x u
 | _,_,_,_,.nil,e=>by simp at e
 | _,_,0,_,.cons r _,e=>by simp at e;subst e;exact ⟨_,rfl,r⟩
 | _,_,i+1,x,.cons _ t,e=>by
  obtain ⟨u,h1,h2⟩:=zk.get (i:=i) (x:=x) t (by simpa using e)
  exact ⟨u,by simpa using h1,h2⟩
theorem zk.set{x:V}{u:Value}(r:zi x u):∀{xs:List V}{us:List Value}(i:Nat),zk xs us->zk (xs.set i x) (us.set i u)
 | _,_,_,.nil=>.nil
 | _,_,0,.cons _ t=>.cons r t
 | _,_,i+1,.cons q t=>.cons q (zk.set r i t)
theorem zk.append:∀{xs ys:List V}{us ws:List Value},zk xs us->zk ys ws->zk (xs++ys) (us++ws)
 | _,_,_,_,.nil,s=>s
 | _,_,_,_,.cons r t,s=>.cons r (zk.append t s)
theorem zk.take:∀{xs:List V}{us:List Value}(n:Nat),zk xs us->zk (xs.take n) (us.take n)
 | _,_,0,_=>.nil
 | _,_,_+1,.nil=>.nil
 | _,_,n+1,.cons r t=>.cons r (zk.take n t)
theorem zk.drop:∀{xs:List V}{us:List Value}(n:Nat),zk xs us->zk (xs.drop n) (us.drop n)
 | _,_,0,r=>r
 | _,_,_+1,.nil=>.nil
 | _,_,n+1,.cons _ t=>zk.drop n t
def zaq:Option V->Option Value->Prop
 | some v,some u=>zi v u
 | none,none=>True
 | _,_=>False
def KV{κ:Type}:List (κ×V)->List (κ×Value)->Prop:=Paired λ(p:κ×V)(q:κ×Value)=>p.1=q.1/\zi p.2 q.2
def kV:Key->V
 | .inl i=>.int i
 | .inr x=>.str x
inductive HO where
 | lst (xs:List V)
 | tup (xs:List V)
 | dK (kvs:List (Key×V))|dT (kvs:List (List Key×V))
 | set (S:Int->Bool) (n:Nat)
 | ins (C dx:Addr) (fs:List (Str×V))
 | own (x:Addr)
 | xd (fs:List (Str×V))
 | met (f x:Addr)
 | rng (lo hi:Int)
 | frz (o:Obj) (u:HO)
 | tbl (ps:Array Value)
 | ext (φ:Heap->Prop)
abbrev Hp:=Addr->Option HO
def upd(H:Hp)(a:Addr)(o:HO):Hp:=λb=>if b=a then some o else H b
theorem zp{H:Hp}{a:Addr}{o:HO}:upd H a o a=some o:=by unfold upd;rw [if_pos rfl]
theorem ze{H:Hp}{a b:Addr}{o:HO}(h:b≠a):upd H a o b=H b:=by unfold upd;rw [if_neg h]
theorem zkx{H:Hp}{a b:Addr}{o u:HO}(h:H a=some o)(h':H b=some u)(d:o≠u):a≠b:=by
 intro e;subst e;rw [h] at h';exact d (Option.some.inj h')
theorem zM{H:Hp}{a b:Addr}{o:HO}(h:H a=some o)(h':H b=none):a≠b:=by
 intro e;subst e;rw [h] at h';cases h'
section
variable (P:Program) (w:World)
def zX(H:Hp)(h:Heap)(a:Addr):HO->Prop
 | .lst xs=>xs.length<=sizeLine/\∃(its:List Value)(n:Nat),zk xs its/\h.get? a=some { cls:=.type "list",data:=.seq its.toArray n }
 | .tup xs=>xs.length<=sizeLine/\∃its:List Value,zk xs its/\IsTup h a its.toArray
 | .dK kvs=>kvs.length<=sizeLine/\(a==sysModules)=false/\∃vs,KV kvs vs/\h.DictOf (zae P w) a vs
 | .dT kvs=>kvs.length<=sizeLine/\(a==sysModules)=false/\∃xs:List (List Key×Addr×Value),
   Paired (λ(p:List Key×V)(q:List Key×Addr×Value)=>p.1=q.1/\H q.2.1=some (.tup (p.1.map kV))/\zi p.2 q.2.2) kvs xs /\
   ∃o es ep,h.get? a=some o/\o.ExactDict/\o.data = .dict es ep/\es.toList=xs.map (entryOfKey (tupleKind (zae P w)))/\(xs.map (·.1)).Nodup
 | .set S n=>h.SetOf (intKind P w) a S n
 | .ins C dx fs=>H dx=some (.own a)/\fs.length<=1000/\dx≠a/\h.get? a=some (instObj C dx) /\
   ∃mA,h.Ns1 dx mA/\(∀f,zaq (fs.lookup f) (mA f))/\PySem.Within mA (fs.map (·.1))
 | .own _=>∃o,h.get? a=some o
 | .xd fs=>∃mA,h.Ns1 a mA/\∀f,zaq (fs.lookup f) (mA f)
 | .rng lo hi=>∃t u v,h.get? a=some { cls:=.type "range",data:=.fields #[.int lo t,.int hi u,.int 1 v] }
 | .frz o u=>h.get? a=some o/\zX H h a u
 | .tbl ps=>h.get? a=some { cls:=.none,data:=.fields ps }
 | .met f x=>h.get? a=some (methodObj (.ref f) (.ref x))
 | .ext φ=>φ h/\(∃o,h.get? a=some o)/\∀h1 h2:Heap,φ h1->(∀o,h1.get? a=some o->h2.get? a=some o)->φ h2
def HOk(H:Hp)(h:Heap):Prop:=∀a o,H a=some o->zX P w H h a o
end
section
variable {P:Program}{w:World}{H H':Hp}{h h':Heap}{a:Addr}{o:HO}
theorem zX.lt(x:zX P w H h a o):a<h.objs.size:=by
 cases o with
 | lst xs=>obtain ⟨_,_,_,_,e⟩:=x;exact lt_size e
 | tup xs=>obtain ⟨_,_,_,p⟩:=x;exact p.lt
 | dK kvs=>obtain ⟨_,_,_,_,o,_,_,e,_⟩:=x;exact lt_size e
 | dT kvs=>obtain ⟨_,_,_,_,o,_,_,e,_⟩:=x;exact lt_size e
 | set S n=>obtain ⟨o,_,_,_,e,_⟩:=x;exact lt_size e
 | ins C dx fs=>obtain ⟨_,_,_,e,_⟩:=x;exact lt_size e
 | own y=>obtain ⟨_,e⟩:=x;exact lt_size e
 | xd fs=>obtain ⟨_,⟨_,_,_,e,_⟩,_⟩:=x;exact lt_size e
 | rng lo hi=>obtain ⟨_,_,_,e⟩:=x;exact lt_size e
 | frz ob u=>obtain ⟨e,_⟩:=x;exact lt_size e
 | tbl ps=>exact lt_size (show h.get? a=some _ from x)
 | met f y=>exact lt_size (show h.get? a=some _ from x)
 | ext φ=>obtain ⟨_,⟨_,e⟩,_⟩:=x;exact lt_size e
theorem Paired.mapP{α β:Type}{F G:α->β->Prop}:∀{l₁:List α}{l₂:List β},Paired F l₁ l₂->(∀a b,F a b->G a b)->Paired G l₁ l₂
 | _,_,.nil,_=>.nil
 | _,_,.cons r t,f=>.cons (f _ _ r) (Paired.mapP t f)
theorem zX.stay(x:zX P w H h a o)(k:∀b u,(b=a\/H b=some (.own a))->h.get? b=some u->h'.get? b=some u)
  (ho:∀b,H b=some (.own a)->H' b=some (.own a)) (ht:∀b xs,H b=some (.tup xs)->H' b=some (.tup xs)):zX P w H' h' a o:=by
 induction o with
 | lst xs=>obtain ⟨z,its,n,r,e⟩:=x;exact ⟨z,its,n,r,k _ _ (.inl rfl) e⟩
 | tup xs=>obtain ⟨z,its,r,ob,e,c⟩:=x;exact ⟨z,its,r,ob,k _ _ (.inl rfl) e,c⟩
 | dK kvs=>obtain ⟨z,y,vs,r,ob,es,ep,e,c⟩:=x;exact ⟨z,y,vs,r,ob,es,ep,k _ _ (.inl rfl) e,c⟩
 | dT kvs =>
  obtain ⟨z,y,xs,r,ob,es,ep,e,c⟩:=x
  exact ⟨z,y,xs,Paired.mapP r λp q z=>⟨z.1,ht _ _ z.2.1,z.2.2⟩,ob,es,ep,k _ _ (.inl rfl) e,c⟩
 | set S n=>obtain ⟨ob,es,ep,t,e,c⟩:=x;exact ⟨ob,es,ep,t,k _ _ (.inl rfl) e,c⟩
 | ins C dx fs =>
  obtain ⟨d,z,ne,e,mA,⟨od,es,ep,e2,c⟩,r⟩:=x
  exact ⟨ho _ d,z,ne,k _ _ (.inl rfl) e,mA,⟨od,es,ep,k _ _ (.inr d) e2,c⟩,r⟩
 | own y=>obtain ⟨ob,e⟩:=x;exact ⟨ob,k _ _ (.inl rfl) e⟩
 | xd fs=>obtain ⟨mA,⟨od,es,ep,e,c⟩,r⟩:=x;exact ⟨mA,⟨od,es,ep,k _ _ (.inl rfl) e,c⟩,r⟩
 | rng lo hi=>obtain ⟨t,u,v,e⟩:=x;exact ⟨t,u,v,k _ _ (.inl rfl) e⟩
 | frz ob u ih=>obtain ⟨e,q⟩:=x;exact ⟨k _ _ (.inl rfl) e,ih q⟩
 | tbl ps =>
  have e:h.get? a=some { cls:=.none,data:=.fields ps }:=x
  show h'.get? a=some { cls:=.none,data:=.fields ps }
  exact k a _ (.inl rfl) e
 | met f y =>
  have e:h.get? a=some (methodObj (.ref f) (.ref y)):=x
  show h'.get? a=some (methodObj (.ref f) (.ref y))
  exact k a _ (.inl rfl) e
 | ext φ=>obtain ⟨p,⟨o,e⟩,st⟩:=x;exact ⟨st _ _ p λo q=>k _ _ (.inl rfl) q,⟨o,k _ _ (.inl rfl) e⟩,st⟩
theorem HOk.lt(x:HOk P w H h)(e:H a=some o):a<h.objs.size:=(x a o e).lt
theorem HOk.fresh(x:HOk P w H h)(e:h.objs.size<=a):H a=none:=by
 cases q:H a with
 | none=>rfl
 | some u=>exact absurd (lt_of_lt_of_le (x.lt q) e) (lt_irrefl _)
theorem HOk.kept(x:HOk P w H h)(k:∀b u,h.get? b=some u->h'.get? b=some u):HOk P w H h':=λa o e =>
 (x a o e).stay (λb u _ q=>k b u q) (λ_ q=>q) λ_ _ q=>q
theorem HOk.laid(x:HOk P w H h)(k:∀b u,h.get? b=some u->h'.get? b=some u)(hp:h.objs.size<=a)(new:zX P w (upd H a o) h' a o):HOk P w (upd H a o) h':=λb u e=>by
 have hn:=x.fresh hp
 by_cases hb:b=a
 ·subst hb;rw [zp] at e;cases e;exact new
 ·rw [ze hb] at e
  exact (x b u e).stay (λc v _ q=>k c v q) (λc q=>by rw [ze (zM q hn)];exact q) λc xs q=>by rw [ze (zM q hn)];exact q
end
def Rd(H:Hp)(a:Addr)(u:HO):Prop:=H a=some u\/∃o,H a=some (.frz o u)
theorem Rd.of{H:Hp}{a:Addr}{u:HO}(h:H a=some u):Rd H a u:=.inl h
theorem Rd.ok{P:Program}{w:World}{H:Hp}{h:Heap}{a:Addr}{u:HO}(r:Rd H a u)(x:HOk P w H h):zX P w H h a u:=by
 rcases r with r|⟨o,r⟩
 ·exact x a u r
 ·obtain ⟨_,q⟩:=x a _ r
  exact q
def Mut:Option HO->Prop
 | some (.lst _)=>True
 | some (.dK _)=>True
 | some (.dT _)=>True
 | some (.set _ _)=>True
 | some (.ins _ _ _)=>True
 | some (.ext _)=>True
 | _=>False
section
variable {P:Program}{w:World}{H:Hp}{h h':Heap}{x e:Addr}{o':HO}
theorem HOk.write(ok:HOk P w H h)(mu:Mut (H x))(he:e=x\/H e=some (.own x))(k:∀b u,b≠e->h.get? b=some u->h'.get? b=some u)(heo:∃u,h'.get? e=some u)
  (new:zX P w (upd H x o') h' x o'):HOk P w (upd H x o') h':=λb u q=>by
 have nown:∀c y,H c=some (.own y)->c≠x:=λc y r z=>by subst z;rw [r] at mu;exact mu
 have ntup:∀c xs,H c=some (.tup xs)->c≠x:=λc xs r z=>by subst z;rw [r] at mu;exact mu
 by_cases hb:b=x
 ·subst hb;rw [zp] at q;cases q;exact new
 ·rw [ze hb] at q
  by_cases hbe:b=e
  ·have q':H b=some (.own x):=by
    rcases he with z|z
    ·exact absurd (hbe.trans z) hb
    ·rw [hbe];exact z
   rw [q] at q';cases q'
   obtain ⟨v,hv⟩:=heo
   exact ⟨v,by rw [hbe];exact hv⟩
  ·refine (ok b u q).stay (λc v hc r=>k c v ?_ r) (λc r=>by rw [ze (nown c b r)];exact r) λc xs r=>by rw [ze (ntup c xs r)];exact r
   rcases hc with rfl|hc
   ·exact hbe
   ·rintro rfl
    rcases he with z|z
    ·exact nown c b hc z
    ·rw [hc] at z;cases z;exact hb rfl
end
structure Un(fs ex:List Addr)(H H':Hp)(h h':Heap):Prop where
 keep:∀b o,h.get? b=some o->H b=none->b∉fs->b∉ex->h'.get? b=some o
 slot:∀b o,h.get? b=some o->H b=none->b∈fs->b∉ex->∃sl,h'.get? b=some { o with slots:=sl }
 free:∀b o,h.get? b=some o->H b=none->b∉ex->H' b=none
 there:∀b o,h.get? b=some o->b∉ex->∃o',h'.get? b=some o'
 tups:∀b xs,H b=some (.tup xs)->H' b=some (.tup xs)
 frzs:∀b o u,H b=some (.frz o u)->H' b=some (.frz o u)
 tbls:∀b ps,H b=some (.tbl ps)->∃more,H' b=some (.tbl (ps++more))
section
variable {fs fs' ex ex':List Addr}{H H1 H2:Hp}{h h1 h2 h':Heap}{a x e:Addr}{o:HO}
theorem Un.any(u:Un fs ex H H1 h h1){b:Addr}{ob:Obj}(q:h.get? b=some ob)(n:H b=none)(hx:b∉ex):∃sl,h1.get? b=some { ob with slots:=sl }:=by
 by_cases hb:b∈fs
 ·exact u.slot b ob q n hb hx
 ·exact ⟨ob.slots,u.keep b ob q n hb hx⟩
theorem Un.kept(k:∀b u,h.get? b=some u->h'.get? b=some u):Un fs ex H H h h' :=
 ⟨λb ob q _ _ _=>k b ob q,λb ob q _ _ _=>⟨ob.slots,k b ob q⟩,λ_ _ _ n _=>n,λb ob q _=>⟨ob,k b ob q⟩,λ_ _ q=>q,λ_ _ _ q=>q,λ_ ps q=>⟨#[],by rw [q];simp⟩⟩
theorem Un.refl:Un fs ex H H h h:=Un.kept λ_ _ q=>q
theorem Un.laid(k:∀b u,h.get? b=some u->h'.get? b=some u)(hp:h.objs.size<=a)(hn:H a=none):Un fs ex H (upd H a o) h h' where
 keep:=λb u q _ _ _=>k b u q
 slot:=λb u q _ _ _=>⟨u.slots,k b u q⟩
 free:=λb u q n _=>by rw [ze (ne_of_lt (lt_of_lt_of_le (lt_size q) hp))];exact n
 there:=λb u q _=>⟨u,k b u q⟩
 tups:=λb xs q=>by rw [ze (zM q hn)];exact q
 frzs:=λb u xs q=>by rw [ze (zM q hn)];exact q
 tbls:=λb ps q=>⟨#[],by rw [ze (zM q hn),q];simp⟩
theorem Un.write(mu:Mut (H x))(he:e=x\/H e=some (.own x))(k:∀b u,b≠e->h.get? b=some u->h'.get? b=some u)(heo:∃u,h'.get? e=some u):Un fs ex H (upd H x o) h h':=by
 have hx:∀b,H b=none->b≠x:=λb n z=>by subst z;rw [n] at mu;exact mu
 have hb:∀b,H b=none->b≠e:=λb n z=>by
  subst z
  rcases he with r|r
  ·exact hx b n r
  ·rw [n] at r;cases r
 have hm:∀b u,H b=some u->¬ Mut (some u)->b≠x:=λb u q nm z=>by subst z;rw [q] at mu;exact nm mu
 refine ⟨λb u q n _ _=>k b u (hb b n) q,λb u q n _ _=>⟨u.slots,k b u (hb b n) q⟩,λb u q n _=>by rw [ze (hx b n)];exact n,λb u q _=>?_,
  λb xs q=>by rw [ze (hm b _ q λz=>z)];exact q,λb u xs q=>by rw [ze (hm b _ q λz=>z)];exact q,λb ps q=>⟨#[],by rw [ze (hm b _ q λz=>z),q];simp⟩⟩
 by_cases hbe:b=e
 ·subst hbe;exact heo
 ·exact ⟨u,k b u hbe q⟩
end
def trk(h:Heap)(H:Hp):List Addr:=(List.range h.objs.size).filter λa=>(H a).isSome
def zbr(h:Heap)(H:Hp):Heap:=hideAll h (trk h H)
theorem znE(h:Heap)(H:Hp):(zbr h H).objs.size=h.objs.size:=PySem.W.hideAll_size _ _
theorem zkg{h:Heap}{H:Hp}{b:Addr}{o:Obj}(e:h.get? b=some o)(n:H b=none):(zbr h H).get? b=some o :=
 hideAll_get _ e λhm=>by
  have q:(H b).isSome=true:=(mem_filter.mp hm).2
  rw [n] at q;simp at q
theorem zmu{h:Heap}{H:Hp}{b:Addr}{o:Obj}(e:(zbr h H).get? b=some o):h.get? b=some o/\H b=none:=by
 have e':h.get? b=some o:=of_hideAll (trk h H) e
 refine ⟨e',?_⟩
 cases q:H b with
 | none=>rfl
 | some x =>
  have hm:b∈trk h H:=mem_filter.mpr ⟨mem_range.mpr (lt_size e'),by simp [q]⟩
  have z:(zbr h H).get? b=none:=PySem.W.hideAll_none (trk h H) hm
  rw [z] at e;cases e
def zrY(g h:Heap)(L:Addr):List (Addr×Obj):=(List.range h.objs.size).filterMap λa=>if a=L\/(g.get? a).isSome=true then none else (h.get? a).map λo=>(a,o)
def z8(g h:Heap)(L d:Addr):List (Addr×Obj):=(zrY g h L).filter λp=>decide (p.1≠d)
structure Mod(K:PySem.W.Frag)(mg:Str->Option Value)(base:Heap):Prop where
 kin:K.In base
 glob:base.Ns mainGlobals mg
 blt:∃mb,base.Ns builtinsNs mb/\∀x:Str,x≠"__name__"->mb x=bootBuiltins x
 nolimit:base.NoLimit
def zdp(A:Around)(H:Hp):Prop:=A.handled=none\/∃(a:Addr)(o:Obj)(vs:Array Value),A.handled=some (.ref a)/\H a=some (.frz o (.own 0))/\o.data = .fields vs/\vs[2]?=some .none/\∃C,o.cls = .ref C
theorem zdp.same{A:Around}{H H':Hp}(x:zdp A H)(k:∀b o u,H b=some (.frz o u)->H' b=some (.frz o u)):zdp A H':=by
 rcases x with x|⟨a,o,vs,h1,h2,h3⟩
 ·exact .inl x
 ·exact .inr ⟨a,o,vs,h1,k _ _ _ h2,h3⟩
structure Cx where
 prog:Program
 w:World
 K:PySem.W.Frag
 mg:Str->Option Value
 base:Heap
 A:Around
 N:List Str
 s₀:Shared
 H₀:Hp
 env:Env
 outer:List Env
 stack:List Env
 ex:List Addr
 fn:Str->Bool
 calm:Bool
 pn:List (Addr×Obj)
 xe:Value->Shared->Prop
def frs(l:List Env):List Addr:=l.filterMap (·.frame)
abbrev Cx.fs(X:Cx):List Addr:=frs X.outer
def Vis(sc:Scope)(x:Str):Prop:=sc.names.lookup x=some .local\/sc.names.lookup x=some .cell\/sc.names.lookup x=some .free
def Loc(sc:Scope)(x:Str):Prop:=sc.names.lookup x=some .local\/sc.names.lookup x=some .cell
def zi5(env:Env)(h:Heap)(m:Str->Option Value)(x:Str)(u:Value):Prop :=
 (env.kindOf x=some .local/\m x=some u)\/((env.kindOf x=some .cell\/env.kindOf x=some .free)/\∃c,env.cells.lookup x=some c/\h.IsCell c (some u))
structure Cx.Ok(X:Cx):Prop where
 mod:Mod X.K X.mg X.base
 kind:X.env.scope.kind = .function
 glob:X.env.globals=mainGlobals
 blt:X.env.builtins=builtinsNs
 above:X.s₀.heap.objs.size<=X.env.locals
 inj:∀x y c,X.env.cells.lookup x=some c->X.env.cells.lookup y=some c->x=y
 has:∀x,(X.env.kindOf x=some .cell\/X.env.kindOf x=some .free)->∃c,X.env.cells.lookup x=some c
 cab:∀x c,X.fn x=true->X.env.cells.lookup x=some c->X.s₀.heap.objs.size<=c
 hd:X.calm=true->X.A.handled=none
 frames:X.A.frames=some X.stack
 stk:X.stack=X.outer\/(X.stack=X.env::X.outer/\X.env.frame=some X.env.locals)
 exf:∀b∈X.ex,b≠X.env.locals/\∀x c,X.env.cells.lookup x=some c->c≠b
 bs:∀b o,X.base.get? b=some o->X.s₀.heap.get? b=some o/\X.H₀ b=none
 bsz:X.base.objs.size<=X.s₀.heap.objs.size
 noex:∀b o,X.base.get? b=some o->b∉X.ex
 exfs:∀b∈X.ex,b∉X.fs
 funs:X.s₀.heap.FunFrames X.base X.outer
 frf:∀b∈X.fs,X.H₀ b=none
structure Inv(X:Cx)(Ga:List (Addr×Obj))(σ:List (Option V))(H:Hp)(s:Shared):Prop where
 ok:X.Ok
 os:s.os=X.s₀.os
 bare:AllBare s.gens
 base:Un X.fs X.ex X.H₀ H X.s₀.heap s.heap
 loc:∃m,s.heap.Ns X.env.locals m/\∀(i:Nat)(x:Str)(v:V),X.N[i]?=some x->σ[i]?=some (some v)->Vis X.env.scope x->∃u,zi v u/\zi5 X.env s.heap m x u
 cell:∀x c,X.env.cells.lookup x=some c->∃v,s.heap.IsCell c v
 free:H X.env.locals=none
 freeC:∀x c,X.env.cells.lookup x=some c->H c=none
 pin:∀p∈X.pn++Ga,s.heap.get? p.1=some p.2/\H p.1=none/\p.1≠X.env.locals/\p.1∉X.fs/\∀v,p.2.data≠.cell v
 hok:HOk X.prog X.w H s.heap
 len:σ.length=X.N.length
 hdk:zdp X.A H
section
variable {X:Cx}{Ga:List (Addr×Obj)}{σ:List (Option V)}{H H':Hp}{s:Shared}{h':Heap}
theorem Cx.Ok.nofr(ok:X.Ok){b:Addr}{o:Obj}(e:X.base.get? b=some o):b∉X.fs:=λhb=>by
 have:=(ok.funs.mem hb).1
 rw [e] at this;cases this
theorem Inv.bs(I:Inv X Ga σ H s):∀b o,X.base.get? b=some o->s.heap.get? b=some o/\H b=none:=λb o e =>
 ⟨I.base.keep b o (I.ok.bs b o e).1 (I.ok.bs b o e).2 (I.ok.nofr e) (I.ok.noex b o e),I.base.free b o (I.ok.bs b o e).1 (I.ok.bs b o e).2 (I.ok.noex b o e)⟩
theorem Inv.bk(I:Inv X Ga σ H s):∀b o,X.base.get? b=some o->s.heap.get? b=some o:=λb o e=>(I.bs b o e).1
theorem Inv.mod(I:Inv X Ga σ H s):Mod X.K X.mg X.base:=I.ok.mod
theorem Inv.kIn(I:Inv X Ga σ H s):X.K.In s.heap:=I.ok.mod.kin.keeps I.bk
theorem Inv.lt(I:Inv X Ga σ H s):X.env.locals<s.heap.objs.size:=let ⟨_,hn,_⟩:=I.loc;hn.lt
theorem Inv.sz(I:Inv X Ga σ H s):X.s₀.heap.objs.size<=s.heap.objs.size:=le_trans I.ok.above (le_of_lt I.lt)
theorem Inv.nofs(I:Inv X Ga σ H s){a:Addr}(h:s.heap.objs.size<=a):a∉X.fs:=λhb=>by
 obtain ⟨_,o,ho,_⟩:=I.ok.funs.mem hb
 exact absurd (lt_of_lt_of_le (lt_size ho) (le_trans I.sz h)) (lt_irrefl _)
theorem Inv.cne(I:Inv X Ga σ H s):∀x c,X.env.cells.lookup x=some c->c≠X.env.locals:=λx c e z=>by
 obtain ⟨v,o,ho,hd⟩:=I.cell x c e
 obtain ⟨m,⟨o',es,ep,ho',hd',_⟩,_⟩:=I.loc
 rw [z,ho'] at ho;cases ho;rw [hd'] at hd;cases hd
theorem Inv.funs(I:Inv X Ga σ H s):s.heap.FunFrames X.base X.outer:=by
 have all:∀(l:List Env),(∀b∈frs l,b∈X.fs)->X.s₀.heap.FunFrames X.base l->s.heap.FunFrames X.base l:=by
  intro l
  induction l with
  | nil=>intro _ _;trivial
  | cons env r ih =>
   intro hs hl
   obtain ⟨hk,⟨L,o,hf,hn,ho,hd⟩,hr⟩:=hl
   have hL:L∈X.fs:=hs L (by unfold frs;rw [List.filterMap_cons,hf];exact mem_cons_self)
   obtain ⟨sl,e⟩:=I.base.slot L o ho (I.ok.frf L hL) hL λz=>I.ok.exfs L z hL
   exact ⟨hk,⟨L,_,hf,hn,e,hd⟩,ih (λb hb=>hs b (by unfold frs;rw [List.filterMap_cons,hf];exact mem_cons_of_mem _ hb)) hr⟩
 exact all X.outer (λ_ hb=>hb) I.ok.funs
theorem Inv.stack(I:Inv X Ga σ H s):s.heap.FunFrames X.base X.stack:=by
 rcases I.ok.stk with e|⟨e,hf⟩
 ·rw [e];exact I.funs
 ·rw [e]
  obtain ⟨m,hn,_⟩:=I.loc
  refine .cons (by rw [I.ok.kind];decide) hf hn ?_ I.funs
  exact Heap.get?_none_of_le (le_trans I.ok.bsz I.ok.above)
theorem Inv.stkSub(I:Inv X Ga σ H s):∀b∈frs X.stack,b∈X.env.locals::X.fs:=λb hb=>by
 rcases I.ok.stk with e|⟨e,hf⟩
 ·rw [e] at hb;exact mem_cons_of_mem _ hb
 ·rw [e] at hb
  unfold frs at hb
  rw [List.filterMap_cons,hf] at hb
  exact hb
theorem Inv.stkFree(I:Inv X Ga σ H s):∀b∈frs X.stack,H b=none:=λb hb=>by
 rcases mem_cons.mp (I.stkSub b hb) with e|hb
 ·rw [e];exact I.free
 ·obtain ⟨_,o,ho,_⟩:=I.ok.funs.mem hb
  exact I.base.free b o ho (I.ok.frf b hb) λz=>I.ok.exfs b z hb
theorem Inv.step{g':Array GenState}{t':Nat}{d':Drawn}{ch:List Addr}(I:Inv X Ga σ H s)
  (hch:∀b∈ch,(b∈X.ex\/X.s₀.heap.objs.size<=b)/\b≠X.env.locals/\(∀x c,X.env.cells.lookup x=some c->c≠b)/\∀p∈X.pn++Ga,p.1≠b)
  (keep:∀b o,b≠X.env.locals->b∉X.fs->b∉ch->s.heap.get? b=some o->H b=none->h'.get? b=some o)
  (slot:∀b o,b≠X.env.locals->b∈X.fs->b∉ch->s.heap.get? b=some o->H b=none->∃sl,h'.get? b=some { o with slots:=sl }) (free:∀b o,b∉ch->s.heap.get? b=some o->H b=none->H' b=none)
  (there:∀b o,b∉ch->s.heap.get? b=some o->∃o',h'.get? b=some o')
  (tups:∀b xs,H b=some (.tup xs)->H' b=some (.tup xs)) (frzs:∀b o u,H b=some (.frz o u)->H' b=some (.frz o u)) (tbls:∀b ps,H b=some (.tbl ps)->∃more,H' b=some (.tbl (ps++more)))
  (ns:∀m,s.heap.Ns X.env.locals m->h'.Ns X.env.locals m) (hok:HOk X.prog X.w H' h') (hg:AllBare g') :
  Inv X Ga σ H' { s with heap:=h',gens:=g',drawn:=d',toks:=t' }:=by
 have neL:∀b o,X.s₀.heap.get? b=some o->b≠X.env.locals:=λb o e=>ne_of_lt (lt_of_lt_of_le (lt_size e) I.ok.above)
 have neC:∀b o,X.s₀.heap.get? b=some o->b∉X.ex->b∉ch:=λb o e hx hb=>by
  rcases (hch b hb).1 with z|z
  ·exact hx z
  ·exact absurd (lt_of_lt_of_le (lt_size e) z) (lt_irrefl _)
 have cellK:∀x c,X.env.cells.lookup x=some c->∀v,s.heap.IsCell c v->h'.IsCell c v:=λx c e v ⟨o,ho,hd⟩=>by
  have nch:c∉ch:=λz=>(hch c z).2.2.1 x c e rfl
  by_cases hc:c∈X.fs
  ·obtain ⟨sl,q⟩:=slot c o (I.cne x c e) hc nch ho (I.freeC x c e)
   exact ⟨_,q,hd⟩
  ·exact ⟨o,keep c o (I.cne x c e) hc nch ho (I.freeC x c e),hd⟩
 refine ⟨I.ok,I.os,hg,⟨λb o e n hb hx=>?_,λb o e n hb hx=>?_,λb o e n hx=>?_,λb o e hx=>?_,λb xs e=>tups b xs (I.base.tups b xs e),λb o xs e=>frzs b o xs (I.base.frzs b o xs e),λb ps e=>?_⟩,?_,λx c e=>?_,?_,λx c e=>?_,λp hp=>?_,hok,I.len,I.hdk.same frzs⟩
 ·exact keep b o (neL b o e) hb (neC b o e hx) (I.base.keep b o e n hb hx) (I.base.free b o e n hx)
 ·obtain ⟨sl,e1⟩:=I.base.slot b o e n hb hx
  obtain ⟨sl',e2⟩:=slot b _ (neL b o e) hb (neC b o e hx) e1 (I.base.free b o e n hx)
  exact ⟨sl',e2⟩
 ·obtain ⟨o',e1⟩:=I.base.there b o e hx
  exact free b o' (neC b o e hx) e1 (I.base.free b o e n hx)
 ·obtain ⟨o',e1⟩:=I.base.there b o e hx
  exact there b o' (neC b o e hx) e1
 ·obtain ⟨m1,e1⟩:=I.base.tbls b ps e
  obtain ⟨m2,e2⟩:=tbls b _ e1
  exact ⟨m1++m2,by rw [e2,Array.append_assoc]⟩
 ·obtain ⟨m,hn,hl⟩:=I.loc
  refine ⟨m,ns m hn,λi x v e1 e2 e3=>?_⟩
  obtain ⟨u,r,l⟩:=hl i x v e1 e2 e3
  refine ⟨u,r,?_⟩
  rcases l with l|⟨k,c,e,z⟩
  ·exact .inl l
  ·exact .inr ⟨k,c,e,cellK x c e _ z⟩
 ·obtain ⟨v,z⟩:=I.cell x c e
  exact ⟨v,cellK x c e v z⟩
 ·obtain ⟨m,⟨o,_,_,ho,_⟩,_⟩:=I.loc
  exact free _ o (λz=>(hch _ z).2.1 rfl) ho I.free
 ·obtain ⟨v,o,ho,hd⟩:=I.cell x c e
  exact free c o (λz=>(hch c z).2.2.1 x c e rfl) ho (I.freeC x c e)
 ·obtain ⟨e,n,ne,nf,d⟩:=I.pin p hp
  have nch:p.1∉ch:=λz=>(hch p.1 z).2.2.2 p hp rfl
  exact ⟨keep p.1 p.2 ne nf nch e n,free p.1 p.2 nch e n,ne,nf,d⟩
theorem Inv.un{t':Nat}(I:Inv X Ga σ H s)(u:Un X.fs [] H H' s.heap h')(hok:HOk X.prog X.w H' h'):Inv X Ga σ H' { s with heap:=h',toks:=t' }:=by
 obtain ⟨m,⟨o,es,ep,ho,r⟩,_⟩:=id I.loc
 obtain ⟨sl,hL⟩:=u.any ho I.free (by simp)
 exact I.step (g':=s.gens) (d':=s.drawn) (ch:=[]) (λ_ z=>nomatch z) (λb o _ hb _ e n=>u.keep b o e n hb (by simp)) (λb o _ hb _ e n=>u.slot b o e n hb (by simp)) (λb o _ e n=>u.free b o e n (by simp)) (λb o _ e=>u.there b o e (by simp)) u.tups u.frzs u.tbls (λm' hm=>by
  obtain ⟨o',es',ep',ho',r'⟩:=hm
  rw [ho] at ho';cases ho'
  exact ⟨_,es',ep',hL,r'⟩) hok I.bare
theorem Inv.call{g':Array GenState}{t':Nat}{d':Drawn}{ch:List Addr}(I:Inv X Ga σ H s)(u:Un (frs X.stack) ch H H' s.heap h')(hok:HOk X.prog X.w H' h')(hg:AllBare g')
  (hch:∀b∈ch,(b∈X.ex\/X.s₀.heap.objs.size<=b)/\b≠X.env.locals/\(∀x c,X.env.cells.lookup x=some c->c≠b)/\∀p∈X.pn++Ga,p.1≠b) :
  Inv X Ga σ H' { s with heap:=h',gens:=g',drawn:=d',toks:=t' }:=by
 obtain ⟨m,⟨o,es,ep,ho,r⟩,_⟩:=id I.loc
 obtain ⟨sl,hL⟩:=u.any ho I.free λz=>(hch _ z).2.1 rfl
 exact I.step (ch:=ch) hch (λb o hL hb hc e n=>u.keep b o e n (λz=>(mem_cons.mp (I.stkSub b z)).elim hL hb) hc) (λb o _ _ hc e n=>u.any e n hc) (λb o hc e n=>u.free b o e n hc) (λb o hc e=>u.there b o e hc) u.tups u.frzs u.tbls (λm' hm=>by
  obtain ⟨o',es',ep',ho',r'⟩:=hm
  rw [ho] at ho';cases ho'
  exact ⟨_,es',ep',hL,r'⟩) hok hg
theorem Inv.turned{t':Nat}{it:Addr}(I:Inv X Ga σ H s)(k:∀b o,b≠it->s.heap.get? b=some o->h'.get? b=some o)(hn:H it=none)(hL:it≠X.env.locals)
  (h1:it∈X.ex\/X.s₀.heap.objs.size<=it) (h2:∀x c,X.env.cells.lookup x=some c->c≠it) (h3:∀p∈X.pn++Ga,p.1≠it):Inv X Ga σ H { s with heap:=h',toks:=t' }:=by
 have nit:∀b u,H b=some u->b≠it:=λb u e z=>by rw [z,hn] at e;cases e
 refine I.step (g':=s.gens) (d':=s.drawn) (ch:=[it]) (λb hb=>?_) (λb o _ _ hc e _=>k b o (λz=>hc (by simp [z])) e) (λb o _ _ hc e _=>⟨o.slots,k b o (λz=>hc (by simp [z])) e⟩) (λ_ _ _ _ n=>n)
  (λb o hc e=>⟨o,k b o (λz=>hc (by simp [z])) e⟩) (λ_ _ e=>e) (λ_ _ _ e=>e) (λb ps e=>⟨#[],by rw [e];simp⟩) (λm hm=>?_) (λb u e=>?_) I.bare
 ·have e:b=it:=by simpa using hb
  subst e
  exact ⟨h1,hL,h2,h3⟩
 ·obtain ⟨o,es,ep,ho,r⟩:=hm
  exact ⟨o,es,ep,k _ o (Ne.symm hL) ho,r⟩
 ·refine (I.hok b u e).stay (λc v hc q=>k c v ?_ q) (λ_ q=>q) λ_ _ q=>q
  rcases hc with z|z
  ·rw [z];exact nit b u e
  ·exact nit c _ z
theorem Inv.tok(I:Inv X Ga σ H s)(t:Nat):Inv X Ga σ H { s with toks:=t }:=I.un (h':=s.heap) (t':=t) Un.refl I.hok
theorem Inv.kept{t':Nat}(I:Inv X Ga σ H s)(k:∀b u,s.heap.get? b=some u->h'.get? b=some u):Inv X Ga σ H { s with heap:=h',toks:=t' }:=I.un (Un.kept k) (I.hok.kept k)
theorem Inv.laid{a:Addr}{o:HO}{t':Nat}(I:Inv X Ga σ H s)(k:∀b u,s.heap.get? b=some u->h'.get? b=some u)(hp:s.heap.objs.size<=a)(new:zX X.prog X.w (upd H a o) h' a o) :
  Inv X Ga σ (upd H a o) { s with heap:=h',toks:=t' }:=I.un (Un.laid k hp (I.hok.fresh hp)) (I.hok.laid k hp new)
theorem Inv.write{x e:Addr}{o:HO}{t':Nat}(I:Inv X Ga σ H s)(mu:Mut (H x))(he:e=x\/H e=some (.own x))(k:∀b u,b≠e->s.heap.get? b=some u->h'.get? b=some u)(heo:∃u,h'.get? e=some u)
  (new:zX X.prog X.w (upd H x o) h' x o):Inv X Ga σ (upd H x o) { s with heap:=h',toks:=t' }:=I.un (Un.write mu he k heo) (I.hok.write mu he k heo new)
theorem Inv.pins_of{pins':List (Addr×Obj)}(I:Inv X Ga σ H s)(h:∀p∈pins',s.heap.get? p.1=some p.2/\H p.1=none/\p.1≠X.env.locals/\p.1∉X.fs/\∀v,p.2.data≠.cell v):Inv X pins' σ H s :=
 ⟨I.ok,I.os,I.bare,I.base,I.loc,I.cell,I.free,I.freeC,λp hp=>(mem_append.mp hp).elim (λz=>I.pin p (mem_append_left _ z)) (h p),I.hok,I.len,I.hdk⟩
theorem zf1{N:List Str}(hN:N.Nodup){i j:Nat}{x:Str}(a:N[i]?=some x)(b:N[j]?=some x):i=j:=by
 obtain ⟨h1,e1⟩:=List.getElem?_eq_some_iff.mp a
 obtain ⟨h2,e2⟩:=List.getElem?_eq_some_iff.mp b
 exact (List.getElem_inj hN).mp (e1.trans e2.symm)
theorem zqq{M:Model}{A:Around}{E:Value->Shared->Prop}{i:Nat}{x:Str}{v:V}{u:Value}{Q:Unit->Shared->Prop}(I:Inv X Ga σ H s)(hN:X.N.Nodup)(hi:X.N[i]?=some x)(hx:Loc X.env.scope x)(r:zi v u)
  (h:∀s',Inv X Ga (σ.set i (some v)) H s'->(∃a,SameBut a s.heap s'.heap/\(a=X.env.locals\/X.env.cells.lookup x=some a))->Q () s') (hf:X.fn x=true\/X.env.scope.names.lookup x=some .local:=by first|exact .inl rfl|exact .inr rfl|assumption):wpAny M A (storeName X.env x u) Q E s:=by
 obtain ⟨m,hn,hl⟩:=id I.loc
 have hcls:(X.env.scope.kind == .class||(X.env.scope.kind == .module&&X.env.locals != X.env.globals))=false:=by rw [I.ok.kind];rfl
 have hiσ:i<σ.length:=by rw [I.len];exact (List.getElem?_eq_some_iff.mp hi).1
 have cne:=I.cne
 have tracked:∀{a:Addr}{h':Heap},(∃o,s.heap.get? a=some o/\H a=none)->SameBut a s.heap h'->HOk X.prog X.w H h':=λ{a h'} ha hs b ob e=>by
  obtain ⟨_,_,hfree⟩:=ha
  refine (I.hok b ob e).stay (λc w' hc q=>(hs.2 c ?_).trans q) (λ_ q=>q) λ_ _ q=>q
  rintro rfl
  rcases hc with rfl|hc
  ·rw [hfree] at e;cases e
  ·rw [hfree] at hc;cases hc
 rcases hx with hk|hk
 ·refine wpAny_storeName_local hk hn (λh' hn' hs=>?_) hcls
  obtain ⟨oL,_,_,hoL,_⟩:=id hn
  refine h _ ⟨I.ok,I.os,I.bare,⟨λb o e n hb hx=>?_,λb o e n hb hx=>?_,I.base.free,λb o e hx=>?_,I.base.tups,I.base.frzs,I.base.tbls⟩,⟨_,hn',λj y v' e1 e2 e3=>?_⟩,λy c e=>?_,I.free,I.freeC,λp hp=>?_,tracked ⟨oL,hoL,I.free⟩ hs,by simpa using I.len,I.hdk⟩ ⟨_,hs,.inl rfl⟩
  ·exact (hs.2 b (ne_of_lt (lt_of_lt_of_le (lt_size e) I.ok.above))).trans (I.base.keep b o e n hb hx)
  ·obtain ⟨sl,e1⟩:=I.base.slot b o e n hb hx
   exact ⟨sl,(hs.2 b (ne_of_lt (lt_of_lt_of_le (lt_size e) I.ok.above))).trans e1⟩
  ·obtain ⟨o',e1⟩:=I.base.there b o e hx
   exact ⟨o',(hs.2 b (ne_of_lt (lt_of_lt_of_le (lt_size e) I.ok.above))).trans e1⟩
  ·by_cases hj:j=i
   ·subst hj
    rw [hi] at e1;cases e1
    rw [getElem?_set_self hiσ] at e2
    cases e2
    exact ⟨u,r,.inl ⟨hk,by simp⟩⟩
   ·rw [getElem?_set_ne (Ne.symm hj)] at e2
    obtain ⟨u',r',q⟩:=hl j y v' e1 e2 e3
    refine ⟨u',r',?_⟩
    rcases q with ⟨k,e⟩|⟨k,c,e,z⟩
    ·refine .inl ⟨k,?_⟩
     have:y≠x:=λe=>hj (zf1 hN e1 (e ▸ hi))
     simp [this,e]
    ·exact .inr ⟨k,c,e,z.sameBut hs (cne y c e)⟩
  ·obtain ⟨w',z⟩:=I.cell y c e
   exact ⟨w',z.sameBut hs (cne y c e)⟩
  ·obtain ⟨e,n,ne,nf,d⟩:=I.pin p hp
   exact ⟨(hs.2 p.1 ne).trans e,n,ne,nf,d⟩
 ·have hfn:X.fn x=true:=by
   rcases hf with z|z
   ·exact z
   ·rw [z] at hk;cases hk
  obtain ⟨c,hc⟩:=I.ok.has x (.inl hk)
  obtain ⟨w',z⟩:=I.cell x c hc
  refine wpAny_storeName_cell I.ok.kind hk hc z (λh' hc' hs=>?_)
  obtain ⟨oc,hoc,hocd⟩:=id z
  refine h { s with heap:=h' } ⟨I.ok,I.os,I.bare,⟨λb o e n hb hx=>?_,λb o e n hb hx=>?_,I.base.free,λb o e hx=>?_,I.base.tups,I.base.frzs,I.base.tbls⟩,⟨m,hn.sameBut hs (Ne.symm (cne x c hc)),λj y v' e1 e2 e3=>?_⟩,λy c' e=>?_,I.free,I.freeC,λp hp=>?_,tracked ⟨oc,hoc,I.freeC x c hc⟩ hs,by simpa using I.len,I.hdk⟩ ⟨c,hs,.inr hc⟩
  ·exact (hs.2 b (ne_of_lt (lt_of_lt_of_le (lt_size e) (I.ok.cab x c hfn hc)))).trans (I.base.keep b o e n hb hx)
  ·obtain ⟨sl,e1⟩:=I.base.slot b o e n hb hx
   exact ⟨sl,(hs.2 b (ne_of_lt (lt_of_lt_of_le (lt_size e) (I.ok.cab x c hfn hc)))).trans e1⟩
  ·obtain ⟨o',e1⟩:=I.base.there b o e hx
   exact ⟨o',(hs.2 b (ne_of_lt (lt_of_lt_of_le (lt_size e) (I.ok.cab x c hfn hc)))).trans e1⟩
  ·by_cases hj:j=i
   ·subst hj
    rw [hi] at e1;cases e1
    rw [getElem?_set_self hiσ] at e2
    cases e2
    exact ⟨u,r,.inr ⟨.inl hk,c,hc,hc'⟩⟩
   ·rw [getElem?_set_ne (Ne.symm hj)] at e2
    obtain ⟨u',r',q⟩:=hl j y v' e1 e2 e3
    refine ⟨u',r',?_⟩
    rcases q with q|⟨k,c',e,z'⟩
    ·exact .inl q
    ·refine .inr ⟨k,c',e,z'.sameBut hs ?_⟩
     rintro rfl
     exact hj (zf1 hN e1 (I.ok.inj _ _ _ e hc ▸ hi))
  ·by_cases hcc:c'=c
   ·subst hcc;exact ⟨_,hc'⟩
   ·obtain ⟨w2,z2⟩:=I.cell y c' e
    exact ⟨w2,z2.sameBut hs hcc⟩
  ·obtain ⟨e,n,ne,nf,d⟩:=I.pin p hp
   refine ⟨(hs.2 p.1 ?_).trans e,n,ne,nf,d⟩
   intro q
   rw [q,hoc] at e
   have q':oc=p.2:=Option.some.inj e
   exact d w' (by rw [<- q'];exact hocd)
theorem zfU{M:Model}{A:Around}{E:Value->Shared->Prop}{i:Nat}{x:Str}{v:V}{u:Value}{Q:Unit->Shared->Prop}(I:Inv X Ga σ H s)(hN:X.N.Nodup)(hi:X.N[i]?=some x)(hx:Loc X.env.scope x)(r:zi v u)
  (h:∀s',Inv X Ga (σ.set i (some v)) H s'->Q () s') (hf:X.fn x=true\/X.env.scope.names.lookup x=some .local:=by first|exact .inl rfl|exact .inr rfl|assumption):wpAny M A (storeName X.env x u) Q E s :=
 zqq I hN hi hx r (λs' I' _=>h s' I') hf
theorem Inv.call'{s':Shared}{ch:List Addr}(I:Inv X Ga σ H s)(ho:s'.os=s.os)(u:Un (frs X.stack) ch H H' s.heap s'.heap)(hok:HOk X.prog X.w H' s'.heap)(hg:AllBare s'.gens)
  (hch:∀b∈ch,(b∈X.ex\/X.s₀.heap.objs.size<=b)/\b≠X.env.locals/\(∀x c,X.env.cells.lookup x=some c->c≠b)/\∀p∈X.pn++Ga,p.1≠b):Inv X Ga σ H' s':=by
 obtain ⟨h',g',d',t',o'⟩:=s'
 have e:o'=s.os:=ho
 subst e
 exact I.call (g':=g') (t':=t') (d':=d') u hok hg hch
end
abbrev XK:=Value->Option Addr->Hp->Prop
abbrev St:=List (Option V)
abbrev VK:=V->Hp->Prop
abbrev TE:=St->Hp->VK->Prop
abbrev TT:=St->Hp->(Bool->Hp->Prop)->Prop
abbrev TA:=St->Hp->(List V->Hp->Prop)->Prop
structure zad where
 nx:St->Hp->Prop
 rt:VK
 bk:St->Hp->Prop:=λ_ _=>False
 ct:St->Hp->Prop:=λ_ _=>False
abbrev TS:=zad->St->Hp->Prop
def EP(X:Cx)(Ga:List (Addr×Obj))(σ:St)(Q:VK)(u:Value)(s':Shared):Prop:=∃v H',Inv X Ga σ H' s'/\zi v u/\Q v H'
def TP(X:Cx)(Ga:List (Addr×Obj))(σ:St)(Q:Bool->Hp->Prop)(b:Bool)(s':Shared):Prop:=∃H',Inv X Ga σ H' s'/\Q b H'
def AP(X:Cx)(Ga:List (Addr×Obj))(σ:St)(Q:List V->Hp->Prop)(us:List Value)(s':Shared):Prop:=∃vs H',Inv X Ga σ H' s'/\zk vs us/\Q vs H'
def SP(X:Cx)(Ga:List (Addr×Obj))(D:zad)(f:Flow)(s':Shared):Prop :=
 match f with
 | .next=>∃σ' H',Inv X Ga σ' H' s'/\D.nx σ' H'
 | .brk=>∃σ' H',Inv X Ga σ' H' s'/\D.bk σ' H'
 | .cont=>∃σ' H',Inv X Ga σ' H' s'/\D.ct σ' H'
 | .ret u=>∃v σ' H',Inv X Ga σ' H' s'/\zi v u/\D.rt v H'
def PE(X:Cx)(e:Expr)(t:TE):Prop :=
 ∀(Ga:List (Addr×Obj))(s:Shared)(σ:St)(H:Hp)(Q:VK),Inv X Ga σ H s->t σ H Q->wpAny (model X.prog X.w) X.A (eval e X.env) (EP X Ga σ Q) X.xe s
def PT(X:Cx)(e:Expr)(t:TT):Prop :=
 ∀(Ga:List (Addr×Obj))(s:Shared)(σ:St)(H:Hp)(Q:Bool->Hp->Prop),Inv X Ga σ H s->t σ H Q->wpAny (model X.prog X.w) X.A (isTrue e X.env (eval e X.env)) (TP X Ga σ Q) X.xe s
def PW(X:Cx)(e:Expr)(t:TT):Prop :=
 ∀(whole:Sem Value)(Ga:List (Addr×Obj))(s:Shared)(σ:St)(H:Hp)(Q:Bool->Hp->Prop),Inv X Ga σ H s->t σ H Q->wpAny (model X.prog X.w) X.A (isTrue e X.env whole) (TP X Ga σ Q) X.xe s
theorem PW.pt{X:Cx}{e:Expr}{t:TT}(h:PW X e t):PT X e t:=h _
def PA(X:Cx)(es:List Expr)(t:TA):Prop :=
 ∀(pos:Pos)(Ga:List (Addr×Obj))(s:Shared)(σ:St)(H:Hp)(Q:List V->Hp->Prop),Inv X Ga σ H s->t σ H Q->wpAny (model X.prog X.w) X.A (spliced (backTo pos (starEach es X.env))) (AP X Ga σ Q) X.xe s
def PS(X:Cx)(st:Stmt)(t:TS):Prop :=
 ∀(Ga:List (Addr×Obj))(s:Shared)(σ:St)(H:Hp)(D:zad),Inv X Ga σ H s->t D σ H->wpAny (model X.prog X.w) X.A (exec st X.env) (SP X Ga D) X.xe s
def PSs(X:Cx)(st:List Stmt)(t:TS):Prop :=
 ∀(Ga:List (Addr×Obj))(s:Shared)(σ:St)(H:Hp)(D:zad),Inv X Ga σ H s->t D σ H->wpAny (model X.prog X.w) X.A (execs st X.env) (SP X Ga D) X.xe s
theorem thn{α:Type}{t:Sem α}{Q Q':α->Shared->Prop}{M:Model}{A:Around}{E:Value->Shared->Prop}{s:Shared}(h:wpAny M A t Q E s)(hQ:∀a s,Q a s->Q' a s):wpAny M A t Q' E s:=wpAny_mono h hQ λ_ _ x=>x
section
variable {X:Cx}
theorem bin{a b:Expr}{ta tb:TE}(ha:PE X a ta)(hb:PE X b tb){Ga:List (Addr×Obj)}{s:Shared}{σ:St}{H:Hp}{R:V->V->Hp->Prop}(I:Inv X Ga σ H s)(h:ta σ H λx H1=>tb σ H1 λy H2=>R x y H2)
  {α:Type}{Q:α->Shared->Prop}{f:Value->Value->Sem α}
  (hf:∀v u s2 x y H2,Inv X Ga σ H2 s2->zi x v->zi y u->R x y H2->wpAny (model X.prog X.w) X.A (f v u) Q X.xe s2) :
  wpAny (model X.prog X.w) X.A (eval a X.env) (λv s₁=>wpAny (model X.prog X.w) X.A (eval b X.env) (λu s₂=>wpAny (model X.prog X.w) X.A (f v u) Q X.xe s₂) X.xe s₁) X.xe s:=by
 refine thn (ha Ga s σ H _ I h) λv s1 ⟨x,H1,I1,r1,q1⟩=>?_
 refine thn (hb Ga s1 σ H1 _ I1 q1) λu s2 ⟨y,H2,I2,r2,q2⟩=>?_
 exact hf v u s2 x y H2 I2 r1 r2 q2
def zb6(i:Nat):TE:=λσ H Q=>∃v,σ[i]?=some (some v)/\Q v H
def tC(v:V):TE:=λ_ H Q=>Q v H
theorem zo3{i:Nat}{x:Str}{pos:Pos}(hN:X.N[i]?=some x)(hv:Vis X.env.scope x)(hd:(x==("__debug__":Str))=false:=by decide)(hcd:(x==("__classdict__":Str))=false:=by decide):PE X (.Name x pos) (zb6 i):=by
 intro Ga s σ H Q I h
 obtain ⟨v,e,h⟩:=h
 obtain ⟨m,hn,hl⟩:=I.loc
 obtain ⟨u,r,l⟩:=hl i x v hN e hv
 have fin:EP X Ga σ Q u s:=⟨v,H,I,r,h⟩
 rcases l with ⟨hk,hm⟩|⟨hk,c,hc,hcell⟩
 ·exact wpAny_Name (wpAny_loadName_local I.ok.kind hk hn hm fin) hd
 ·rcases hk with hk|hk
  ·exact wpAny_Name (wpAny_loadName_cell I.ok.kind hk hc hcell fin) hd
  ·exact wpAny_Name (wpAny_loadName_free I.ok.kind hk hc hcell fin hcd) hd
theorem zhf{i j pos}:PE X (.Constant (.int i) j pos) (tC (.int i)):=λ_ _ _ H _ I h=>wpAny_Constant_int ⟨.int i,H,I.tok _,⟨_,rfl⟩,h⟩
theorem zm2{b j pos}:PE X (.Constant (.bool b) j pos) (tC (.bl b)):=λ_ _ _ H _ I h=>Constant_bool ⟨.bl b,H,I,rfl,h⟩
theorem zrE{x j pos}:PE X (.Constant (.str x) j pos) (tC (.str x)):=λ_ _ _ H _ I h=>Calls.Constant_str ⟨.str x,H,I.tok _,⟨_,rfl⟩,h⟩
def Gl(X:Cx)(x:Str):Prop:=X.env.kindOf x=some .globalImplicit
theorem zdn{E:Value->Shared->Prop}{Ga:List (Addr×Obj)}{s:Shared}{σ:St}{H:Hp}{x:Str}{u:Value}{pos:Pos}{Q:Value->Shared->Prop}(I:Inv X Ga σ H s)(hg:Gl X x)(hm:X.mg x=some u)(h:Q u s)
  (hd:(x==("__debug__":Str))=false:=by decide):wpAny (model X.prog X.w) X.A (eval (.Name x pos) X.env) Q E s :=
 Calls.Name_function_global I.ok.kind hg (Calls.loadGlobal_global (by rw [I.ok.glob];exact I.mod.glob.keeps I.bk) hm h) hd
theorem zeJ{E:Value->Shared->Prop}{Ga:List (Addr×Obj)}{s:Shared}{σ:St}{H:Hp}{x:Str}{u:Value}{pos:Pos}{Q:Value->Shared->Prop}(I:Inv X Ga σ H s)(hg:Gl X x)(hm:X.mg x=none)(hv:bootBuiltins x=some u)(h:Q u s)
  (hn:x≠"__name__":=by decide) (hd:(x==("__debug__":Str))=false:=by decide):wpAny (model X.prog X.w) X.A (eval (.Name x pos) X.env) Q E s:=by
 obtain ⟨mb,h1,h2⟩:=I.mod.blt
 exact Calls.Name_function_global I.ok.kind hg (Calls.loadGlobal_builtin (by rw [I.ok.glob];exact I.mod.glob.keeps I.bk) hm (by rw [I.ok.blt];exact h1.keeps I.bk) ((h2 x hn).trans hv) h) hd
theorem zlH{x:Str}{v:V}{u:Value}{pos:Pos}(hg:Gl X x)(hm:X.mg x=some u)(r:zi v u)(hd:(x==("__debug__":Str))=false:=by decide):PE X (.Name x pos) (tC v) :=
 λ_ _ _ H _ I h=>zdn I hg hm ⟨v,H,I,r,h⟩ hd
theorem zmn{x:Str}{v:V}{u:Value}{pos:Pos}(hg:Gl X x)(hm:X.mg x=none)(hv:bootBuiltins x=some u)(r:zi v u)(hn:x≠"__name__":=by decide)(hd:(x==("__debug__":Str))=false:=by decide):PE X (.Name x pos) (tC v) :=
 λ_ _ _ H _ I h=>zeJ I hg hm hv ⟨v,H,I,r,h⟩ hn hd
variable {a b:Expr}{ta tb:TE}{pos:Pos}
def tB(t:TE):TT:=λσ H Q=>t σ H λx H1=>∃c,x = .bl c/\Q c H1
variable {tA tB':TT}{z8:List Expr}
def zgH(t u:TT):TT:=λσ H Q=>t σ H λc H1=>if c=true then u σ H1 Q else Q false H1
def tOr(t u:TT):TT:=λσ H Q=>t σ H λc H1=>if c=true then Q true H1 else u σ H1 Q
def zfm(t:TT):TT:=λσ H Q=>t σ H λc H1=>Q (!c) H1
theorem zp1(ha:PT X a tA):PW X (.BoolOp .And [a] pos) tA:=by
 intro wh Ga s σ H Q I h
 refine isTrue_and (thn (ha Ga s σ H Q I h) λc s1 e=>?_)
 cases c with
 | true=>exact isTrue_and_nil e
 | false=>exact e
theorem znL(ha:PT X a tA):PW X (.BoolOp .Or [a] pos) tA:=by
 intro wh Ga s σ H Q I h
 refine isTrue_or (thn (ha Ga s σ H Q I h) λc s1 e=>?_)
 cases c with
 | false=>exact isTrue_or_nil e
 | true=>exact e
theorem zrv(ha:PT X a tA)(hb:PW X (.BoolOp .And (b::z8) pos) tB'):PW X (.BoolOp .And (a::b::z8) pos) (zgH tA tB'):=by
 intro wh Ga s σ H Q I h
 refine isTrue_and (thn (ha Ga s σ H _ I h) λc s1 ⟨H1,I1,q1⟩=>?_)
 cases c with
 | true=>exact hb wh Ga s1 σ H1 Q I1 q1
 | false=>exact ⟨H1,I1,q1⟩
theorem zs2(ha:PT X a tA)(hb:PW X (.BoolOp .Or (b::z8) pos) tB'):PW X (.BoolOp .Or (a::b::z8) pos) (tOr tA tB'):=by
 intro wh Ga s σ H Q I h
 refine isTrue_or (thn (ha Ga s σ H _ I h) λc s1 ⟨H1,I1,q1⟩=>?_)
 cases c with
 | true=>exact ⟨H1,I1,q1⟩
 | false=>exact hb wh Ga s1 σ H1 Q I1 q1
theorem znn(ha:PT X a tA):PT X (.UnaryOp .Not a pos) (zfm tA):=by
 intro Ga s σ H Q I h
 exact isTrue_not (ha Ga s σ H (λc H1=>Q (!c) H1) I h)
def zgS(ta tb:TE):TE:=λσ H Q=>ta σ H λx H1=>∃c,x = .bl c/\if c=true then tb σ H1 Q else Q (.bl false) H1
def zkY(ta tb:TE):TE:=λσ H Q=>ta σ H λx H1=>∃c,x = .bl c/\if c=true then Q (.bl true) H1 else tb σ H1 Q
def zgY(ta:TE):TE:=λσ H Q=>ta σ H λx H1=>∃c,x = .bl c/\Q (.bl (!c)) H1
theorem zpg{op}{t:TE}(h:PE X a t):PE X (.BoolOp op [a] pos) t:=λGa s σ H Q I hw=>BoolOp_one (h Ga s σ H Q I hw)
theorem zoT(ha:PE X a ta)(hb:PE X (.BoolOp .And (b::z8) pos) tb):PE X (.BoolOp .And (a::b::z8) pos) (zgS ta tb):=by
 intro Ga s σ H Q I h
 refine BoolOp_and (thn (ha Ga s σ H _ I h) λv s1 ⟨x,H1,I1,r1,q1⟩=>?_)
 obtain ⟨c,rfl,q1⟩:=q1
 cases r1
 refine wpAny_truthy_bool ?_
 cases c with
 | true=>exact hb Ga s1 σ H1 Q I1 q1
 | false=>exact ⟨.bl false,H1,I1,rfl,q1⟩
theorem ztk(ha:PE X a ta):PE X (.UnaryOp .Not a pos) (zgY ta):=by
 intro Ga s σ H Q I h
 refine UnaryOp_ (thn (ha Ga s σ H _ I h) λv s1 ⟨x,H1,I1,r1,q1⟩=>?_)
 obtain ⟨c,rfl,q1⟩:=q1
 cases r1
 exact not_of (wpAny_truthy_bool ⟨.bl (!c),H1,I1,rfl,q1⟩)
def tIf(t:TT)(ta tb:TE):TE:=λσ H Q=>t σ H λc H1=>if c=true then ta σ H1 Q else tb σ H1 Q
theorem zlq{c:Expr}(hc:PT X c tA)(ha:PE X a ta)(hb:PE X b tb):PE X (.IfExp c a b pos) (tIf tA ta tb):=by
 intro Ga s σ H Q I h
 refine wpAny_IfExp (thn (hc Ga s σ H _ I h) λd s1 ⟨H1,I1,q1⟩=>?_)
 cases d with
 | true=>exact ha Ga s1 σ H1 Q I1 q1
 | false=>exact hb Ga s1 σ H1 Q I1 q1
end
def SqL(K:PySem.W.Frag)(H:Hp)(a:Addr)(xs:List V):Prop :=
 Rd H a (.lst xs) \/
  ∃(o:Obj)(its:Array Value)(n:Nat),K.lookup a=some o/\o.cls = .type "list"/\o.dict=none/\o.data = .seq its n/\its.size<=sizeLine/\zk xs its.toList
def SqT(K:PySem.W.Frag)(H:Hp)(a:Addr)(xs:List V):Prop :=
 Rd H a (.tup xs) \/
  ∃(o:Obj)(its:Array Value)(n:Nat),K.lookup a=some o/\o.cls = .type "tuple"/\o.data = .seq its n/\its.size<=sizeLine/\zk xs its.toList
def zpw:Value->Option V
 | .none=>some .non
 | .bool b=>some (.bl b)
 | .int i _=>some (.int i)
 | .str x _=>some (.str x)
 | .bytes b _=>some (.byt b)
 | .float b _=>some (.flt b)
 | .ref a=>some (.ref a)
 | .type n=>some (.ty n)
 | _=>none
theorem zi.abs{x:V}{u:Value}(r:zi x u):zpw u=some x:=by
 cases x with
 | non=>cases r;rfl
 | bl _=>cases r;rfl
 | int _=>obtain ⟨t,rfl⟩:=r;rfl
 | str _=>obtain ⟨t,rfl⟩:=r;rfl
 | byt _=>obtain ⟨t,rfl⟩:=r;rfl
 | flt _=>obtain ⟨t,rfl⟩:=r;rfl
 | ref _=>cases r;rfl
 | ty _=>cases r;rfl
theorem zi.inj{x y:V}{u:Value}(r:zi x u)(q:zi y u):x=y:=Option.some.inj (r.abs.symm.trans q.abs)
theorem zk.inj:∀{xs ys:List V}{us:List Value},zk xs us->zk ys us->xs=ys
 | _,_,_,.nil,.nil=>rfl
 | _,_,_,.cons r t,.cons r' t'=>by rw [r.inj r',zk.inj t t']
section
variable {X:Cx}{Ga:List (Addr×Obj)}{σ:St}{H:Hp}{s:Shared}{a:Addr}{xs ys:List V}
theorem SqL.of{K:PySem.W.Frag}(h:H a=some (.lst xs)):SqL K H a xs:=.inl (.inl h)
theorem SqT.of{K:PySem.W.Frag}(h:H a=some (.tup xs)):SqT K H a xs:=.inl (.inl h)
theorem Inv.list(I:Inv X Ga σ H s)(h:SqL X.K H a xs):∃its:List Value,zk xs its/\PlainL s.heap a its.toArray/\xs.length<=sizeLine:=by
 rcases h with h|⟨o,its,n,hk,hc,hd,hs,hz,r⟩
 ·obtain ⟨z,its,n,r,e⟩:=h.ok I.hok
  exact ⟨its,r,⟨_,n,e,rfl,rfl,rfl⟩,z⟩
 ·refine ⟨its.toList,r,⟨o,n,I.kIn a o hk,hc,hd,by simpa using hs⟩,?_⟩
  have e:=r.length
  simp only [length_toList] at e
  omega
theorem Inv.tuple(I:Inv X Ga σ H s)(h:SqT X.K H a xs):∃its:List Value,zk xs its/\IsTup s.heap a its.toArray/\xs.length<=sizeLine:=by
 rcases h with h|⟨o,its,n,hk,hc,hs,hz,r⟩
 ·obtain ⟨z,its,r,p⟩:=h.ok I.hok
  exact ⟨its,r,p,z⟩
 ·refine ⟨its.toList,r,⟨o,I.kIn a o hk,hc,n,by simpa using hs⟩,?_⟩
  have e:=r.length
  simp only [length_toList] at e
  omega
theorem Inv.list_inj(I:Inv X Ga σ H s)(h:SqL X.K H a xs)(h':SqL X.K H a ys):xs=ys:=by
 obtain ⟨its,r,⟨o,n,e,_,_,d⟩,_⟩:=I.list h
 obtain ⟨its',r',⟨o',n',e',_,_,d'⟩,_⟩:=I.list h'
 rw [e] at e';cases e'
 rw [d] at d'
 injection d' with d1 _
 have:its=its':=by simpa using congrArg Array.toList d1
 subst this
 exact r.inj r'
theorem Inv.tuple_inj(I:Inv X Ga σ H s)(h:SqT X.K H a xs)(h':SqT X.K H a ys):xs=ys:=by
 obtain ⟨its,r,⟨o,e,_,n,d⟩,_⟩:=I.tuple h
 obtain ⟨its',r',⟨o',e',_,n',d'⟩,_⟩:=I.tuple h'
 rw [e] at e';cases e'
 rw [d] at d'
 injection d' with d1 _
 have:its=its':=by simpa using congrArg Array.toList d1
 subst this
 exact r.inj r'
end
abbrev Cx.wish(X:Cx)(E:Value->Shared->Prop):Cx:={ X with xe:=E }
abbrev Cx.nox(X:Cx):Cx:=X.wish λ_ _=>False
theorem Cx.Ok.wish{X:Cx}(ok:X.Ok)(E:Value->Shared->Prop):(X.wish E).Ok :=
 ⟨ok.mod,ok.kind,ok.glob,ok.blt,ok.above,ok.inj,ok.has,ok.cab,ok.hd,ok.frames,ok.stk,ok.exf,ok.bs,ok.bsz,ok.noex,ok.exfs,ok.funs,ok.frf⟩
theorem Cx.Ok.unwish{X:Cx}{E:Value->Shared->Prop}(ok:(X.wish E).Ok):X.Ok :=
 ⟨ok.mod,ok.kind,ok.glob,ok.blt,ok.above,ok.inj,ok.has,ok.cab,ok.hd,ok.frames,ok.stk,ok.exf,ok.bs,ok.bsz,ok.noex,ok.exfs,ok.funs,ok.frf⟩
section
variable {X:Cx}{Ga:List (Addr×Obj)}{σ:St}{H:Hp}{s:Shared}{E:Value->Shared->Prop}
theorem Inv.wish(I:Inv X Ga σ H s)(E:Value->Shared->Prop):Inv (X.wish E) Ga σ H s:=⟨I.ok.wish E,I.os,I.bare,I.base,I.loc,I.cell,I.free,I.freeC,I.pin,I.hok,I.len,I.hdk⟩
theorem Inv.unwish(I:Inv (X.wish E) Ga σ H s):Inv X Ga σ H s:=⟨I.ok.unwish,I.os,I.bare,I.base,I.loc,I.cell,I.free,I.freeC,I.pin,I.hok,I.len,I.hdk⟩
theorem SP.unwish{D:zad}{f:Flow}{s':Shared}(h:SP (X.wish E) Ga D f s'):SP X Ga D f s':=by
 cases f with
 | next=>obtain ⟨σ',H',I,q⟩:=h;exact ⟨σ',H',I.unwish,q⟩
 | brk=>obtain ⟨σ',H',I,q⟩:=h;exact ⟨σ',H',I.unwish,q⟩
 | cont=>obtain ⟨σ',H',I,q⟩:=h;exact ⟨σ',H',I.unwish,q⟩
 | ret u=>obtain ⟨v,σ',H',I,r,q⟩:=h;exact ⟨v,σ',H',I.unwish,r,q⟩
theorem PSs.nox{st:List Stmt}{t:TS}(h:PSs X.nox st t):PSs X st t:=λGa s σ H D I hw =>
 wpAny_mono (h Ga s σ H D (I.wish _) hw) (λ_ _ q=>q.unwish) λ_ _ z=>False.elim z
end
section
variable {X:Cx}{st:Stmt}{z8:List Stmt}{t u:TS}{e:Expr}{te:TE}{pos:Pos}
def ze5:TS:=λD σ H=>D.nx σ H
def zeY(t u:TS):TS:=λD σ H=>t { D with nx:=u D } σ H
theorem zoL:PSs X [] ze5:=λ_ _ σ H _ I h=>wpAny_execs_nil ⟨σ,H,I,h⟩
theorem ztj(h1:PS X st t)(h2:PSs X z8 u):PSs X (st::z8) (zeY t u):=by
 intro Ga s σ H D I h
 refine wpAny_execs_cons (thn (h1 Ga s σ H { D with nx:=u D } I h) λf s1 q=>?_)
 cases f with
 | next =>
  obtain ⟨σ',H',I',q⟩:=q
  exact h2 Ga s1 σ' H' D I' q
 | ret v=>exact q
 | brk=>exact q
 | cont=>exact q
theorem zhN(h1:PS X st t):PSs X [st] t:=by
 intro Ga s σ H D I h
 refine wpAny_execs_cons (thn (h1 Ga s σ H D I h) λf s1 q=>?_)
 cases f with
 | next=>exact wpAny_execs_nil q
 | ret v=>exact q
 | brk=>exact q
 | cont=>exact q
def ztl:TS:=λD σ H=>D.bk σ H
def zmp:TS:=λD σ H=>D.ct σ H
theorem Inv.quiet{Ga:List (Addr×Obj)}{σ:St}{H:Hp}{s:Shared}(I:Inv X Ga σ H s):interactive X.env=false:=by simp [interactive,I.ok.kind]
def zfx(te:TE):TS:=λD σ H=>te σ H λ_ H1=>D.nx σ H1
theorem ztA(he:PE X e te)(hs:swapsWith e none pos.line X.env=pure false:=by rfl):PS X (.Expr e pos) (zfx te):=by
 intro Ga s σ H D I h
 exact wpAny_Expr_any (thn (he Ga s σ H _ I h) λv s1 ⟨x,H1,I1,r1,q1⟩=>⟨σ,H1,I1,q1⟩) I.quiet hs
def zgl(te:TE):TS:=λD σ H=>te σ H D.rt
theorem ziZ(he:PE X e te):PS X (.Return (some e) pos) (zgl te):=by
 intro Ga s σ H D I h
 exact wpAny_Return_some (thn (he Ga s σ H _ I h) λv s1 ⟨x,H1,I1,r1,q1⟩=>⟨x,σ,H1,I1,r1,q1⟩)
def zl2:TS:=λD _ H=>D.rt .non H
def zf6(c:TT)(t u:TS):TS:=λD σ H=>c σ H λb H1=>if b=true then t D σ H1 else u D σ H1
theorem znB{c:Expr}{a b:List Stmt}{tc:TT}(hc:PT X c tc)(ha:PSs X a t)(hb:PSs X b u):PS X (.If c a b pos) (zf6 tc t u):=by
 intro Ga s σ H D I h
 refine wpAny_If (thn (hc Ga s σ H _ I h) λd s1 ⟨H1,I1,q1⟩=>?_)
 cases d with
 | true=>exact ha Ga s1 σ H1 D I1 q1
 | false=>exact hb Ga s1 σ H1 D I1 q1
end
abbrev TG:=V->St->Hp->(St->Hp->Prop)->Prop
abbrev TGs:=List V->St->Hp->(St->Hp->Prop)->Prop
def PG(X:Cx)(target:Expr)(t:TG):Prop :=
 ∀(Ga:List (Addr×Obj))(s:Shared)(σ:St)(H:Hp)(v:V)(u:Value)(Q:St->Hp->Prop),Inv X Ga σ H s->zi v u->t v σ H Q ->
  wpAny (model X.prog X.w) X.A (assign target X.env u) (λ_ s'=>∃σ' H',Inv X Ga σ' H' s'/\Q σ' H') X.xe s
def PGs(X:Cx)(ts:List Expr)(t:TGs):Prop :=
 ∀(Ga:List (Addr×Obj))(s:Shared)(σ:St)(H:Hp)(vs:List V)(us:List Value)(Q:St->Hp->Prop),Inv X Ga σ H s->zk vs us->t vs σ H Q ->
  wpAny (model X.prog X.w) X.A (assignInOrder ((assignEach ts X.env).map (·.2)) us) (λ_ s'=>∃σ' H',Inv X Ga σ' H' s'/\Q σ' H') X.xe s
abbrev zdV:=V->V->V->Hp->(Hp->Prop)->Prop
def zdZ(X:Cx)(t:zdV):Prop :=
 ∀(Ga:List (Addr×Obj))(s:Shared)(σ:St)(H:Hp)(o i v:V)(ov iv u:Value)(Q:Hp->Prop),Inv X Ga σ H s->zi o ov->zi i iv->zi v u->t o i v H Q ->
  wpAny (model X.prog X.w) X.A (setItem ov iv u) (λ_ s'=>∃H',Inv X Ga σ H' s'/\Q H') X.xe s
abbrev TIp:=V->V->Hp->VK->Prop
section
variable {X:Cx}{pos:Pos}
def zbm(i:Nat):TG:=λv σ H Q=>Q (σ.set i (some v)) H
theorem zkn{i:Nat}{x:Str}(hN:X.N.Nodup)(hi:X.N[i]?=some x)(hx:Loc X.env.scope x)(hf:X.fn x=true\/X.env.scope.names.lookup x=some .local:=by first|exact .inl rfl|exact .inr rfl|assumption):PG X (.Name x pos) (zbm i):=by
 intro Ga s σ H v u Q I r h
 exact wpAny_assign_Name (zfU I hN hi hx r (λs' I'=>⟨_,H,I',h⟩) hf)
def zfS:TGs:=λvs σ H Q=>vs=[]/\Q σ H
def zfN(t:TG)(u:TGs):TGs:=λvs σ H Q=>∃v r,vs=v::r/\t v σ H λσ' H'=>u r σ' H' Q
theorem zps:PGs X [] zfS:=by
 intro Ga s σ H vs us Q I r h
 obtain ⟨e,h⟩:=h
 subst e
 cases r
 exact assignInOrder_nil ⟨σ,H,I,h⟩
theorem zsh{e:Expr}{es:List Expr}{t:TG}{u:TGs}(h1:PG X e t)(h2:PGs X es u)
  (hs:(assignEach (e::es) X.env).map (·.2)=assign e X.env::(assignEach es X.env).map (·.2):=by rfl):PGs X (e::es) (zfN t u):=by
 intro Ga s σ H vs us Q I r h
 obtain ⟨v,vr,e1,h⟩:=h
 subst e1
 cases r with
 | cons r rr =>
  rw [hs]
  refine assignInOrder_cons (thn (h1 Ga s σ H _ _ _ I r h) λ_ s1 ⟨σ1,H1,I1,q1⟩=>?_)
  exact h2 Ga s1 σ1 H1 _ _ Q I1 rr q1
def ziQ(K:PySem.W.Frag)(n:Nat)(t:TGs):TG:=λv σ H Q=>∃a xs,v = .ref a/\SqT K H a xs/\xs.length=n/\t xs σ H Q
def zgr(to ti:TE)(t:zdV):TG:=λv σ H Q=>to σ H λo H1=>ti σ H1 λi H2=>t o i v H2 λH3=>Q σ H3
theorem zk6{o i:Expr}{to ti:TE}{t:zdV}(ho:PE X o to)(hi:PE X i ti)(hs:zdZ X t)
  (ha:∀v,assign (.Subscript o i pos) X.env v=(do
   let ov<-holding [v] (eval o X.env)
   let iv<-holding [v,ov] (eval i X.env)
   standAt pos
   holding [v,ov,iv] (setItem ov iv v)
   release [v,ov,iv] []):=by intro _;rfl):PG X (.Subscript o i pos) (zgr to ti t):=by
 intro Ga s σ H v u Q I r h
 rw [ha]
 refine wpAny_bind (wpAny_holding (thn (ho Ga s σ H _ I h) λov s1 ⟨x,H1,I1,r1,q1⟩=>?_))
 refine wpAny_bind (wpAny_holding (thn (hi Ga s1 σ H1 _ I1 q1) λiv s2 ⟨y,H2,I2,r2,q2⟩=>?_))
 refine wpAny_bind (wpAny_standAt (wpAny_bind (wpAny_holding (thn (hs Ga s2 σ H2 x y v ov iv u _ I2 r1 r2 r q2) λ_ s3 ⟨H3,I3,q3⟩=>?_))))
 exact wpAny_release ⟨σ,H3,I3,q3⟩
def zdj(te:TE)(g:TG):TS:=λD σ H=>te σ H λx H1=>g x σ H1 D.nx
theorem zkC{tg e:Expr}{te:TE}{g:TG}(he:PE X e te)(hg:PG X tg g)(hs:swapsWithSole [tg] e pos.line X.env=pure false:=by rfl)(hw:swappedStores [tg] e X.env=pure none:=by rfl)
  (h1:(assignEach [tg] X.env).map (·.2)=[assign tg X.env]:=by rfl):PS X (.Assign [tg] e pos) (zdj te g):=by
 intro Ga s σ H D I h
 refine wpAny_Assign_stores (thn (he Ga s σ H _ I h) λv s1 ⟨x,H1,I1,r1,q1⟩=>?_) hs hw
 rw [h1]
 exact thn (hg Ga s1 σ H1 x v _ I1 r1 q1) λ_ s2 q=>q
theorem zpK{i:Nat}{x:Str}{e:Expr}{te:TE}{pos':Pos}(hN:X.N.Nodup)(hi:X.N[i]?=some x)(hx:Loc X.env.scope x)(he:PE X e te)(hs:swapsWith e (some (.Name x pos')) pos.line X.env=pure false:=by rfl)(hf:X.fn x=true\/X.env.scope.names.lookup x=some .local:=by first|exact .inl rfl|exact .inr rfl|assumption) :
  PS X (.Assign [.Name x pos'] e pos) (zdj te (zbm i)):=by
 intro Ga s σ H D I h
 refine wpAny_Assign_Name (thn (he Ga s σ H _ I h) λv s1 ⟨y,H1,I1,r1,q1⟩=>?_) hs
 exact zfU I1 hN hi hx r1 (λs2 I2=>⟨_,H1,I2,q1⟩) hf
def zln(i j:Nat)(ta:TA):TS:=λD σ H=>ta σ H λvs H1=>∃v w,vs=[v,w]/\D.nx ((σ.set i (some v)).set j (some w)) H1
def zpb(i:Nat)(te:TE)(ti:TIp):TS:=λD σ H=>∃x,σ[i]?=some (some x)/\te σ H λy H1=>ti x y H1 λz H2=>D.nx (σ.set i (some z)) H2
def ipI(f:Int->Int->Int):TIp:=λx y H Q=>∃i j,x = .int i/\y = .int j/\Q (.int (f i j)) H
end
structure It where
 go:Nat->Hp->Prop
 yld:Nat->Hp->V->Hp->Prop
 stop:Nat->Hp->Prop
def z7(X:Cx)(Ga:List (Addr×Obj))(H:Hp)(b:Addr):Prop :=
 H b=none/\b≠X.env.locals/\b∉X.fs/\(b∈X.ex\/X.s₀.heap.objs.size<=b)/\(∀x c,X.env.cells.lookup x=some c->c≠b)/\∀p∈X.pn++Ga,p.1≠b
theorem Inv.fpOk{X:Cx}{Ga:List (Addr×Obj)}{σ:St}{H H':Hp}{s:Shared}{b:Addr}(I:Inv X Ga σ H s)(hb:s.heap.objs.size<=b)(hn:H' b=none):z7 X Ga H' b:=by
 refine ⟨hn,ne_of_gt (lt_of_lt_of_le I.lt hb),I.nofs hb,.inr (le_trans I.sz hb),λx c e z=>?_,λp hp z=>?_⟩
 ·obtain ⟨v,q⟩:=I.cell x c e
  exact absurd (lt_of_lt_of_le q.lt (by rw [z];exact hb)) (lt_irrefl _)
 ·exact absurd (lt_of_lt_of_le (lt_size (I.pin p hp).1) (by rw [z];exact hb)) (lt_irrefl _)
structure zbQ(c:Bool)(P:Program)(w:World)(K:PySem.W.Frag)(tg:Expr)(J:It)(fp:List Addr)(it:Addr)(tn:Nat->Heap->Prop):Prop where
 mem:it∈fp
 obj:∀i h,tn i h->∀b∈fp,∃o,h.get? b=some o/\∀v,o.data≠.cell v
 keep:∀i h h',tn i h->(∀b∈fp,∀o,h.get? b=some o->h'.get? b=some o)->tn i h'
 item:∀(X:Cx),X.prog=P->X.w=w->X.K=K->(c=true->X.calm=true)->∀(i:Nat)(Ga:List (Addr×Obj))(s:Shared)(σ:St)(H:Hp)(E:Value->Shared->Prop),Inv X Ga σ H s->(∀b∈fp,z7 X Ga H b)->tn i s.heap->J.go i H ->
  wpAny (model P w) X.A (pyNext (.ref it)) (λr s1=>∃u,r=some u /\
   wpAny (model P w) X.A (letOwnedTupleGo tg (.ref it) u) (λ_ s2=>∃x H',Inv X Ga σ H' s2/\zi x u/\J.yld i H x H'/\tn (i+1) s2.heap/\∀b∈fp,H' b=none) E s1) E s
 done:∀(X:Cx),X.prog=P->X.w=w->X.K=K->(c=true->X.calm=true)->∀(i:Nat)(Ga:List (Addr×Obj))(s:Shared)(σ:St)(H:Hp)(E:Value->Shared->Prop),Inv X Ga σ H s->(∀b∈fp,z7 X Ga H b)->tn i s.heap->J.stop i H ->
  wpAny (model P w) X.A (pyNext (.ref it)) (λr s1=>r=none/\Inv X Ga σ H s1) E s
 self:∀(A:Around)(i:Nat)(s:Shared)(Q:Value->Shared->Prop)(E:Value->Shared->Prop),tn i s.heap->Q (.ref it) s->wpAny (model P w) A (pyIter (.ref it)) Q E s
abbrev TI:=St->Hp->(It->Hp->Prop)->Prop
def PIE(c:Bool)(X:Cx)(Ga:List (Addr×Obj))(σ:St)(tg:Expr)(R:It->Hp->Prop)(itv:Value)(s2:Shared):Prop :=
 ∃(it:Addr)(fp:List Addr)(tn:Nat->Heap->Prop)(J:It)(H':Hp),itv = .ref it/\Inv X Ga σ H' s2/\zbQ c X.prog X.w X.K tg J fp it tn/\tn 0 s2.heap/\(∀b∈fp,z7 X Ga H' b)/\R J H'
def PIc(c:Bool)(X:Cx)(tg iter:Expr)(wi:TI):Prop :=
 ∀(Ga:List (Addr×Obj))(s:Shared)(σ:St)(H:Hp)(R:It->Hp->Prop),Inv X Ga σ H s->wi σ H R ->
  wpAny (model X.prog X.w) X.A (eval iter X.env) (λv s1=>wpAny (model X.prog X.w) X.A (pyIter v) (PIE c X Ga σ tg R) X.xe s1) X.xe s
abbrev PI:=PIc true
theorem zdA{M:Model}{A:Around}{E:Value->Shared->Prop}{s:Shared}{tg:Expr}{it:Addr}{u:Value}{o:Obj}{n:String}{vs:Array Value}{Q:Unit->Shared->Prop}(ho:s.heap.get? it=some o)(hc:o.cls = .type n)(hd:o.data = .fields vs)
  (hn:["enumerate","zip","dict_itemiterator","dict_reverseitemiterator","odict_iterator","itertools.zip_longest","itertools.pairwise"].contains n=false) (hQ:Q () s):wpAny M A (letOwnedTupleGo tg (.ref it) u) Q E s:=by
 unfold letOwnedTupleGo
 cases tg<;>first
  | exact wpAny_pure hQ
  | (cases u<;>first
    | exact wpAny_pure hQ
    | (refine wpAny_bind (wpAny_load ho ?_)
       rw [hc, hd]
       show wpAny M A (if (["enumerate", "zip", "dict_itemiterator", "dict_reverseitemiterator", "odict_iterator", "itertools.zip_longest", "itertools.pairwise"].contains n && vs[0]? == some (rawInt _)) = true then _ else _) Q E s
       rw [if_neg (by intro h; rw [hn, Bool.false_and] at h; cases h)]
       exact wpAny_pure hQ))
def Itl(K:PySem.W.Frag)(a:Addr):It :=
 ⟨λi H=>∃xs x,SqL K H a xs/\xs[i]?=some x,λi H x H'=>H'=H/\∀xs,SqL K H a xs->xs[i]?=some x,λi H=>∃xs,SqL K H a xs/\xs.length<=i⟩
def Itt(K:PySem.W.Frag)(a:Addr):It :=
 ⟨λi H=>∃xs x,SqT K H a xs/\xs[i]?=some x,λi H x H'=>H'=H/\∀xs,SqT K H a xs->xs[i]?=some x,λi H=>∃xs,SqT K H a xs/\xs.length<=i⟩
def Itr(lo:Int)(n:Nat):It:=⟨λi _=>i<n,λi H x H'=>H'=H/\x = .int (lo+i),λi _=>n<=i⟩
theorem zrq{P:Program}{w:World}{K:PySem.W.Frag}{tg:Expr}(a it:Addr):zbQ true P w K tg (Itl K a) [it] it (λi h=>h.IsListIter it a i) where
 mem:=by simp
 obj:=λi h st b hb=>by
  have e:b=it:=by simpa using hb
  subst e
  obtain ⟨o,e,c,d⟩:=st
  exact ⟨o,e,λv z=>by rw [d] at z;cases z⟩
 keep:=λi h h' st k=>st.at λo e=>k it (by simp) o e
 item:=by
  intro X hP hw hK hc i Ga s σ H E I hf st hg
  subst hP hw hK
  obtain ⟨xs,x,hq,hx⟩:=hg
  obtain ⟨its,rv,p,hz⟩:=I.list hq
  obtain ⟨u,hu,ru⟩:=rv.get hx
  obtain ⟨f0,f1,f2,f3,f4,f5⟩:=hf it (by simp)
  refine wpAny_pyNext_list_item st p.isList (x:=u) (by simpa using hu) λh' st' sb=>?_
  have I1:Inv X Ga σ H { s with heap:=h' }:=I.turned (t':=s.toks) (λb o hb e=>(sb.2 b hb).trans e) f0 f1 f3 f4 f5
  obtain ⟨o,e,c,d⟩:=id st'
  exact ⟨u,rfl,zdA (s:={ s with heap:=h' }) e c d (by decide) ⟨x,H,I1,ru,⟨rfl,λys hy=>by rw [I.list_inj hy hq];exact hx⟩,st',λb hb=>(hf b hb).1⟩⟩
 done:=by
  intro X hP hw hK hc i Ga s σ H E I hf st hg
  subst hP hw hK
  obtain ⟨xs,hq,hx⟩:=hg
  obtain ⟨its,rv,p,hz⟩:=I.list hq
  obtain ⟨f0,f1,f2,f3,f4,f5⟩:=hf it (by simp)
  have hl:=rv.length
  exact wpAny_pyNext_list_end (I.ok.hd (hc rfl)) st p.isList (by simp;omega) λh' eb=>⟨rfl,I.turned (t':=s.toks) (λb o hb e=>eb b o hb e) f0 f1 f3 f4 f5⟩
 self:=λ_ _ _ _ _ st h=>wpAny_pyIter_listiter st h
theorem zkM{P:Program}{w:World}{K:PySem.W.Frag}{tg:Expr}(a it:Addr):zbQ true P w K tg (Itt K a) [it] it (λi h=>h.IsTupleIter it a i) where
 mem:=by simp
 obj:=λi h st b hb=>by
  have e:b=it:=by simpa using hb
  subst e
  obtain ⟨o,e,c,d⟩:=st
  exact ⟨o,e,λv z=>by rw [d] at z;cases z⟩
 keep:=λi h h' st k=>st.at λo e=>k it (by simp) o e
 item:=by
  intro X hP hw hK hc i Ga s σ H E I hf st hg
  subst hP hw hK
  obtain ⟨xs,x,hq,hx⟩:=hg
  obtain ⟨its,rv,p,hz⟩:=I.tuple hq
  obtain ⟨u,hu,ru⟩:=rv.get hx
  obtain ⟨f0,f1,f2,f3,f4,f5⟩:=hf it (by simp)
  refine wpAny_pyNext_tuple_item st (show s.heap.IsTuple a its.toArray from p) (x:=u) (by simpa using hu) λh' st' sb=>?_
  have I1:Inv X Ga σ H { s with heap:=h' }:=I.turned (t':=s.toks) (λb o hb e=>(sb.2 b hb).trans e) f0 f1 f3 f4 f5
  obtain ⟨o,e,c,d⟩:=id st'
  exact ⟨u,rfl,zdA (s:={ s with heap:=h' }) e c d (by decide) ⟨x,H,I1,ru,⟨rfl,λys hy=>by rw [I.tuple_inj hy hq];exact hx⟩,st',λb hb=>(hf b hb).1⟩⟩
 done:=by
  intro X hP hw hK hc i Ga s σ H E I hf st hg
  subst hP hw hK
  obtain ⟨xs,hq,hx⟩:=hg
  obtain ⟨its,rv,p,hz⟩:=I.tuple hq
  obtain ⟨f0,f1,f2,f3,f4,f5⟩:=hf it (by simp)
  have hl:=rv.length
  exact wpAny_pyNext_tuple_end (I.ok.hd (hc rfl)) st (show s.heap.IsTuple a its.toArray from p) (by simp;omega) λh' eb=>⟨rfl,I.turned (t':=s.toks) (λb o hb e=>eb b o hb e) f0 f1 f3 f4 f5⟩
 self:=λ_ _ _ _ _ st h=>wpAny_pyIter_tupleiter st h
theorem zsO{P:Program}{w:World}{K:PySem.W.Frag}{tg:Expr}(it:Addr)(lo:Int)(n:Nat):zbQ true P w K tg (Itr lo n) [it] it (λi h=>IsRangeIter h it (lo+(i:Nat)*1) ((n:Int)-(i:Nat)) 1) where
 mem:=by simp
 obj:=λi h st b hb=>by
  have e:b=it:=by simpa using hb
  subst e
  exact ⟨_,st,λv z=>by
   have z':Data.fields _=Data.cell v:=z
   cases z'⟩
 keep:=λi h h' st k=>k it (by simp) _ st
 item:=by
  intro X hP hw hK hc i Ga s σ H E I hf st hg
  subst hP hw hK
  obtain ⟨f0,f1,f2,f3,f4,f5⟩:=hf it (by simp)
  have W:=Walks.range (prog:=X.prog) (w:=X.w) (I.ok.hd (hc rfl)) it lo 1 n
  refine W.item i s _ _ hg st λv h' tk hv st' kk=>?_
  obtain ⟨t,rfl⟩:=hv
  have I1:Inv X Ga σ H { s with heap:=h',toks:=tk }:=I.turned (λb o hb e=>kk b o (by simpa using hb) e) f0 f1 f3 f4 f5
  refine ⟨_,rfl,zdA (s:={ s with heap:=h',toks:=tk }) (n:="range_iterator") st' rfl rfl (by decide) ⟨.int (lo+i),H,I1,⟨t,?_⟩,⟨rfl,rfl⟩,st',λb hb=>(hf b hb).1⟩⟩
  rw [Int.mul_one]
 done:=by
  intro X hP hw hK hc i Ga s σ H E I hf st hg
  subst hP hw hK
  obtain ⟨f0,f1,f2,f3,f4,f5⟩:=hf it (by simp)
  exact wpAny_pyNext_range_end (I.ok.hd (hc rfl)) st (by have:n<=i:=hg;omega) λh' eb=>⟨rfl,I.turned (t':=s.toks) (λb o hb e=>eb b o hb e) f0 f1 f3 f4 f5⟩
 self:=λ_ _ _ _ _ st h=>wpAny_pyIter_rangeiter st h
section
variable {X:Cx}{tg:Expr}
def zga(K:PySem.W.Frag)(tl:TE):TI:=λσ H R=>tl σ H λx H1=>∃a,x = .ref a/\(∃xs,SqL K H1 a xs)/\R (Itl K a) H1
def zd6(K:PySem.W.Frag)(tl:TE):TI:=λσ H R=>tl σ H λx H1=>∃a,x = .ref a/\(∃xs,SqT K H1 a xs)/\R (Itt K a) H1
theorem zkw{l:Expr}{tl:TE}(hl:PE X l tl):PI X tg l (zga X.K tl):=by
 intro Ga s σ H R I h
 refine thn (hl Ga s σ H _ I h) λv s1 ⟨x,H1,I1,r1,q1⟩=>?_
 obtain ⟨a,e,⟨xs,hq⟩,q⟩:=q1
 subst e
 cases r1
 obtain ⟨its,rv,p,hz⟩:=I1.list hq
 refine wpAny_pyIter_list p.isList ?_
 refine ⟨s1.heap.objs.size,[s1.heap.objs.size],_,_,H1,rfl,I1.kept (t':=s1.toks) λb o e=>get?_push_of_some _ e,zrq a _,⟨_,get?_push_size _ rfl,rfl,rfl⟩,λb hb=>?_,q⟩
 have e:b=s1.heap.objs.size:=by simpa using hb
 subst e
 exact I1.fpOk (le_refl _) (I1.hok.fresh (le_refl _))
theorem zsa{l:Expr}{tl:TE}(hl:PE X l tl):PI X tg l (zd6 X.K tl):=by
 intro Ga s σ H R I h
 refine thn (hl Ga s σ H _ I h) λv s1 ⟨x,H1,I1,r1,q1⟩=>?_
 obtain ⟨a,e,⟨xs,hq⟩,q⟩:=q1
 subst e
 cases r1
 obtain ⟨its,rv,p,hz⟩:=I1.tuple hq
 refine wpAny_pyIter_tuple (show s1.heap.IsTuple a its.toArray from p) ?_
 refine ⟨s1.heap.objs.size,[s1.heap.objs.size],_,_,H1,rfl,I1.kept (t':=s1.toks) λb o e=>get?_push_of_some _ e,zkM a _,⟨_,get?_push_size _ rfl,rfl,rfl⟩,λb hb=>?_,q⟩
 have e:b=s1.heap.objs.size:=by simpa using hb
 subst e
 exact I1.fpOk (le_refl _) (I1.hok.fresh (le_refl _))
theorem zmW{Ga:List (Addr×Obj)}{σ:St}{H:Hp}{s:Shared}{R:It->Hp->Prop}{E:Value->Shared->Prop}{lo hi:Int}{t u v:Tok}{tk:Nat}(I:Inv X Ga σ H s)(h1 : -(2 ^ 62)<=lo)(h2:lo<2 ^ 62)(h3 : -(2 ^ 62)<=hi)(h4:hi<2 ^ 62)
  (q:R (Itr lo (hi-lo).toNat) H):wpAny (model X.prog X.w) X.A (pyIter (.ref s.heap.objs.size)) (PIE true X Ga σ tg R) E { s with heap:=s.heap.push { cls:=.type "range",data:=.fields #[.int lo t,.int hi u,.int 1 v] },toks:=tk }:=by
 refine wpAny_pyIter_range (IsRange.new ..) (small_one h1 h2 h3 h4) ?_
 have I1:Inv X Ga σ H { s with heap:=s.heap.push { cls:=.type "range",data:=.fields #[.int lo t,.int hi u,.int 1 v] },toks:=tk }:=I.kept λb o e=>get?_push_of_some _ e
 refine ⟨(s.heap.push { cls:=.type "range",data:=.fields #[.int lo t,.int hi u,.int 1 v] }).objs.size,[(s.heap.push { cls:=.type "range",data:=.fields #[.int lo t,.int hi u,.int 1 v] }).objs.size],_,_,H,rfl,
  I1.kept (t':=tk) λb o e=>get?_push_of_some _ e,zsO _ lo (hi-lo).toNat,?_,λb hb=>?_,q⟩
 ·have e1:lo+((0:Nat):Int)*1=lo:=by simp
  have e2:(((hi-lo).toNat:Nat):Int)-((0:Nat):Int)=Builtin.Range.rangeSize lo hi 1:=by rw [rangeSize_one];split<;>omega
  show IsRangeIter _ _ (lo+((0:Nat):Int)*1) ((((hi-lo).toNat:Nat):Int)-((0:Nat):Int)) 1
  rw [e1,e2]
  exact get?_push_size _ rfl
 ·have e:b=(s.heap.push { cls:=.type "range",data:=.fields #[.int lo t,.int hi u,.int 1 v] }).objs.size:=by simpa using hb
  subst e
  exact I1.fpOk (le_refl _) (I1.hok.fresh (le_refl _))
def zeS(ta:TA):TI:=λσ H R=>ta σ H λvs H1=>∃j:Int,vs=[.int j]/\-(2 ^ 62)<=j/\j<2 ^ 62/\R (Itr 0 j.toNat) H1
def zqC(ta:TA):TI:=λσ H R=>ta σ H λvs H1=>∃i j:Int,vs=[.int i,.int j]/\(-(2 ^ 62)<=i/\i<2 ^ 62/\-(2 ^ 62)<=j/\j<2 ^ 62)/\R (Itr i (j-i).toNat) H1
theorem zry{a:Expr}{ta:TA}{p pos:Pos}(hg:Gl X "range")(hm:X.mg "range"=none)(ha:PA X [a] ta)(hs:starEach [a] X.env=[(false,eval a X.env)]:=by rfl):PI X tg (.Call (.Name "range" p) [a] [] pos) (zeS ta):=by
 intro Ga s σ H R I h
 refine Call_ (zeJ I hg hm boot_range (PyProof.Rows.callWith_type1 (thn (ha pos Ga s σ H _ I h) λus s1 ⟨vs,H1,I1,r1,q1⟩=>?_) hs rfl))
 obtain ⟨j,e,q1,q2,q⟩:=q1
 subst e
 cases r1 with
 | cons r rr =>
  cases rr
  obtain ⟨t,rfl⟩:=r
  exact call_range_1 (zmW I1 (by omega) (by omega) q1 q2 (by simpa using q))
def zfV(wi:TI)(g:TG)(tb:TS):TS:=λD σ H=>wi σ H λJ H1=>∃W:Nat->Nat->St->Hp->Prop,(∃m,W 0 m σ H1)/\∀i m σ H,W i m σ H ->
 (J.stop i H/\D.nx σ H)\/(J.go i H/\∃N:St->Hp->Prop,(∀σ' H',N σ' H'->∃m',m'<m/\W (i+1) m' σ' H')/\∀x H',J.yld i H x H'->g x σ H' λσ2 H2=>tb { D with nx:=N,ct:=N,bk:=D.nx } σ2 H2)
def zcn(fp:List Addr)(h:Heap):List (Addr×Obj):=fp.filterMap λb=>(h.get? b).map λo=>(b,o)
theorem zcM{fp:List Addr}{h:Heap}{b:Addr}{o:Obj}(hb:b∈fp)(e:h.get? b=some o):(b,o)∈zcn fp h:=List.mem_filterMap.mpr ⟨b,hb,by rw [e];rfl⟩
theorem zgF{fp:List Addr}{h:Heap}{p:Addr×Obj}(hp:p∈zcn fp h):p.1∈fp/\h.get? p.1=some p.2:=by
 obtain ⟨b,hb,e⟩:=List.mem_filterMap.mp hp
 cases q:h.get? b with
 | none=>rw [q] at e;cases e
 | some o =>
  rw [q] at e
  have e':(b,o)=p:=Option.some.inj e
  subst e'
  exact ⟨hb,q⟩
theorem Inv.pinned{Ga:List (Addr×Obj)}{σ:St}{H:Hp}{s:Shared}{fp:List Addr}(I:Inv X Ga σ H s)(hf:∀b∈fp,z7 X Ga H b)(ho:∀b∈fp,∃o,s.heap.get? b=some o/\∀v,o.data≠.cell v):Inv X (Ga++zcn fp s.heap) σ H s :=
 I.pins_of λp hp=>(mem_append.mp hp).elim (λz=>I.pin p (mem_append_right _ z)) λz=>by
  obtain ⟨hb,e⟩:=zgF z
  obtain ⟨f0,f1,f2,_⟩:=hf p.1 hb
  obtain ⟨o,e',d⟩:=ho p.1 hb
  rw [e] at e';cases e'
  exact ⟨e,f0,f1,f2,d⟩
theorem Inv.unpinned{Ga pl:List (Addr×Obj)}{σ:St}{H:Hp}{s:Shared}(I:Inv X (Ga++pl) σ H s):Inv X Ga σ H s:=I.pins_of λp hp=>I.pin p (mem_append_right _ (mem_append_left _ hp))
theorem zrZ{c:Bool}{iter:Expr}{body:List Stmt}{wi:TI}{g:TG}{tb:TS}{pos:Pos}(hp:PassesOwn (model X.prog X.w) X.A X.env X.xe)(hc:c=true->X.calm=true)(hi:PIc c X tg iter wi)(hg:PG X tg g)(hb:PSs X body tb)
  (hs:∀x,foldedSetIterable iter X.env x=pure x:=by intro _;rfl):PS X (.For tg iter body [] pos) (zfV wi g tb):=by
 intro Ga s σ H D I h
 refine wpAny_For (thn (hi Ga s σ H _ I h) λv s1 h1=>thn h1 λitv s2 h2=>?_) hs
 obtain ⟨it,fp,tn,J,H2,e,I2,T,st2,f2,W,⟨m0,w0⟩,turn⟩:=h2
 subst e
 have stat:∀{H':Hp},(∀b∈fp,H' b=none)->∀b∈fp,z7 X Ga H' b:=λhn b hb=>⟨hn b hb,(f2 b hb).2⟩
 refine codeAny_forLoop_any (λn s'=>∃i σ' H',Inv X Ga σ' H' s'/\tn i s'.heap/\(∀b∈fp,H' b=none)/\W i n σ' H') ?_ m0 ⟨0,σ,H2,I2,st2,λb hb=>(f2 b hb).1,w0⟩
 rintro n s3 ⟨i,σ3,H3,I3,st3,fr3,w3⟩
 rcases turn i n σ3 H3 w3 with ⟨stop,qn⟩|⟨go,N,hN,step⟩
 ·refine wpAny_passesOwn hp (thn (T.done X rfl rfl rfl hc i Ga s3 σ3 H3 X.xe I3 (stat fr3) st3 stop) λr s4 ⟨hr,I4⟩=>?_)
  subst hr
  exact wpAny_execs_nil ⟨σ3,H3,I4,qn⟩
 ·refine wpAny_passesOwn hp (thn (T.item X rfl rfl rfl hc i Ga s3 σ3 H3 X.xe I3 (stat fr3) st3 go) λr s4 ⟨u,hr,h4⟩=>?_)
  subst hr
  refine wpAny_passesOwn hp (thn h4 λ_ s5 ⟨x,H5,I5,r5,y5,st5,fr5⟩=>?_)
  have I5':=I5.pinned (stat fr5) (T.obj _ _ st5)
  refine wpAny_passesOwn hp (thn (hg _ s5 σ3 H5 x u _ I5' r5 (step x H5 y5)) λ_ s6 ⟨σ6,H6,I6,q6⟩=>?_)
  refine wpAny_passesOwn hp (thn (hb _ s6 σ6 H6 _ I6 q6) λf s7 q7=>?_)
  have again:∀{σ7:St}{H7:Hp},Inv X (Ga++zcn fp s5.heap) σ7 H7 s7->N σ7 H7->∃m,m<n/\∃i σ' H',Inv X Ga σ' H' s7/\tn i s7.heap/\(∀b∈fp,H' b=none)/\W i m σ' H':=λ{σ7 H7} I7 n7=>by
   obtain ⟨m',hm,w7⟩:=hN σ7 H7 n7
   refine ⟨m',hm,i+1,σ7,H7,I7.unpinned,T.keep _ _ _ st5 λb hb o e=>(I7.pin (b,o) (mem_append_right _ (mem_append_right _ (zcM hb e)))).1,λb hb=>?_,w7⟩
   obtain ⟨o,e,d⟩:=T.obj _ _ st5 b hb
   exact (I7.pin (b,o) (mem_append_right _ (mem_append_right _ (zcM hb e)))).2.1
  cases f with
  | next=>obtain ⟨σ7,H7,I7,n7⟩:=q7;exact again I7 n7
  | cont=>obtain ⟨σ7,H7,I7,n7⟩:=q7;exact again I7 n7
  | brk=>obtain ⟨σ7,H7,I7,q7⟩:=q7;exact ⟨σ7,H7,I7.unpinned,q7⟩
  | ret v=>obtain ⟨x7,σ7,H7,I7,r7,q7⟩:=q7;exact ⟨x7,σ7,H7,I7.unpinned,r7,q7⟩
end
theorem zqR{K:PySem.W.Frag}{a:Addr}{xs:List V}{g:TG}{tb:TS}{D:zad}{σ:St}{H:Hp}(Pv:Nat->St->Hp->Prop)(h0:Pv 0 σ H)(hl:∀i σ H,i<=xs.length->Pv i σ H->SqL K H a xs)
  (hs:∀i x σ H,xs[i]?=some x->Pv i σ H->g x σ H λσ2 H2=>tb { D with nx:=Pv (i+1),ct:=Pv (i+1),bk:=D.nx } σ2 H2) (hd:∀σ H,Pv xs.length σ H->D.nx σ H) :
  ∃W:Nat->Nat->St->Hp->Prop,(∃m,W 0 m σ H)/\∀i m σ H,W i m σ H ->
   ((Itl K a).stop i H/\D.nx σ H)\/((Itl K a).go i H/\∃N:St->Hp->Prop,(∀σ' H',N σ' H'->∃m',m'<m/\W (i+1) m' σ' H')/\∀x H',(Itl K a).yld i H x H'->g x σ H' λσ2 H2=>tb { D with nx:=N,ct:=N,bk:=D.nx } σ2 H2):=by
 refine ⟨λi m σ H=>m=xs.length-i/\i<=xs.length/\Pv i σ H,⟨xs.length,by simp,zero_le _,h0⟩,?_⟩
 rintro i m σ H ⟨rfl,hi,p⟩
 have q:=hl i σ H hi p
 by_cases hlt:i<xs.length
 ·refine .inr ⟨⟨xs,xs[i],q,by simp [hlt]⟩,Pv (i+1),λσ' H' p'=>⟨xs.length-(i+1),by omega,rfl,hlt,p'⟩,λx H' y=>?_⟩
  obtain ⟨e,y⟩:=y
  subst e
  exact hs i x σ _ (y xs q) p
 ·have e:i=xs.length:=by omega
  subst e
  exact .inl ⟨⟨xs,q,le_refl _⟩,hd σ H p⟩
theorem zoh{K:PySem.W.Frag}{a:Addr}{xs:List V}{g:TG}{tb:TS}{D:zad}{σ:St}{H:Hp}(Pv:Nat->St->Hp->Prop)(h0:Pv 0 σ H)(hl:∀i σ H,i<=xs.length->Pv i σ H->SqT K H a xs)
  (hs:∀i x σ H,xs[i]?=some x->Pv i σ H->g x σ H λσ2 H2=>tb { D with nx:=Pv (i+1),ct:=Pv (i+1),bk:=D.nx } σ2 H2) (hd:∀σ H,Pv xs.length σ H->D.nx σ H) :
  ∃W:Nat->Nat->St->Hp->Prop,(∃m,W 0 m σ H)/\∀i m σ H,W i m σ H ->
   ((Itt K a).stop i H/\D.nx σ H)\/((Itt K a).go i H/\∃N:St->Hp->Prop,(∀σ' H',N σ' H'->∃m',m'<m/\W (i+1) m' σ' H')/\∀x H',(Itt K a).yld i H x H'->g x σ H' λσ2 H2=>tb { D with nx:=N,ct:=N,bk:=D.nx } σ2 H2):=by
 refine ⟨λi m σ H=>m=xs.length-i/\i<=xs.length/\Pv i σ H,⟨xs.length,by simp,zero_le _,h0⟩,?_⟩
 rintro i m σ H ⟨rfl,hi,p⟩
 have q:=hl i σ H hi p
 by_cases hlt:i<xs.length
 ·refine .inr ⟨⟨xs,xs[i],q,by simp [hlt]⟩,Pv (i+1),λσ' H' p'=>⟨xs.length-(i+1),by omega,rfl,hlt,p'⟩,λx H' y=>?_⟩
  obtain ⟨e,y⟩:=y
  subst e
  exact hs i x σ _ (y xs q) p
 ·have e:i=xs.length:=by omega
  subst e
  exact .inl ⟨⟨xs,q,le_refl _⟩,hd σ H p⟩
theorem zse{lo:Int}{n:Nat}{g:TG}{tb:TS}{D:zad}{σ:St}{H:Hp}(Pv:Nat->St->Hp->Prop)(h0:Pv 0 σ H)
  (hs:∀i σ H,i<n->Pv i σ H->g (.int (lo+i)) σ H λσ2 H2=>tb { D with nx:=Pv (i+1),ct:=Pv (i+1),bk:=D.nx } σ2 H2) (hd:∀σ H,Pv n σ H->D.nx σ H) :
  ∃W:Nat->Nat->St->Hp->Prop,(∃m,W 0 m σ H)/\∀i m σ H,W i m σ H ->
   ((Itr lo n).stop i H/\D.nx σ H)\/((Itr lo n).go i H/\∃N:St->Hp->Prop,(∀σ' H',N σ' H'->∃m',m'<m/\W (i+1) m' σ' H')/\∀x H',(Itr lo n).yld i H x H'->g x σ H' λσ2 H2=>tb { D with nx:=N,ct:=N,bk:=D.nx } σ2 H2):=by
 refine ⟨λi m σ H=>m=n-i/\i<=n/\Pv i σ H,⟨n,by simp,zero_le _,h0⟩,?_⟩
 rintro i m σ H ⟨rfl,hi,p⟩
 by_cases hlt:i<n
 ·refine .inr ⟨hlt,Pv (i+1),λσ' H' p'=>⟨n-(i+1),by omega,rfl,hlt,p'⟩,λx H' y=>?_⟩
  obtain ⟨e,y⟩:=y
  subst e y
  exact hs i σ _ hlt p
 ·have e:i=n:=by omega
  subst e
  exact .inl ⟨le_refl _,hd σ H p⟩
abbrev R2:=V->V->Hp->VK->Prop
def OpR(X:Cx)(f:Value->Value->Sem Value)(r:R2):Prop :=
 ∀(Ga:List (Addr×Obj))(s:Shared)(σ:St)(H:Hp)(x y:V)(v u:Value)(Q:VK),Inv X Ga σ H s->zi x v->zi y u->r x y H Q ->
  wpAny (model X.prog X.w) X.A (f v u) (EP X Ga σ Q) X.xe s
def zR(X:Cx)(f:Value)(r:List V->Hp->VK->Prop):Prop :=
 ∀(Ga:List (Addr×Obj))(s:Shared)(σ:St)(H:Hp)(xs:List V)(us:List Value)(Q:VK),Inv X Ga σ H s->zk xs us->r xs H Q ->
  wpAny (model X.prog X.w) X.A (call f us) (EP X Ga σ Q) X.xe s
def zj0(X:Cx)(r:V->Hp->(Bool->Hp->Prop)->Prop):Prop :=
 ∀(Ga:List (Addr×Obj))(s:Shared)(σ:St)(H:Hp)(x:V)(v:Value)(Q:Bool->Hp->Prop),Inv X Ga σ H s->zi x v->r x H Q ->
  wpAny (model X.prog X.w) X.A (truthy v) (TP X Ga σ Q) X.xe s
def tOp(r:R2)(ta tb:TE):TE:=λσ H Q=>ta σ H λx H1=>tb σ H1 λy H2=>r x y H2 Q
def tUn(r:V->Hp->VK->Prop)(ta:TE):TE:=λσ H Q=>ta σ H λx H1=>r x H1 Q
def rI(C:Int->Int->Prop)(g:Int->Int->V):R2:=λx y H Q=>∃i j,x = .int i/\y = .int j/\C i j/\Q (g i j) H
def rI0(g:Int->Int->V):R2:=λx y H Q=>∃i j,x = .int i/\y = .int j/\Q (g i j) H
def rU(g:Int->V):V->Hp->VK->Prop:=λx H Q=>∃i,x = .int i/\Q (g i) H
section
variable {X:Cx}{a b c:Expr}{ta tb tc:TE}{pos:Pos}
theorem zgD(ha:PE X a ta)(hb:PE X b tb){Ga:List (Addr×Obj)}{s:Shared}{σ:St}{H:Hp}{R:V->V->Hp->Prop}(I:Inv X Ga σ H s)
  (h:ta σ H λx H1=>tb σ H1 λy H2=>R x y H2) {Q:Value->Shared->Prop}{f:Value->Value->Sem Value}
  (hf:∀v u s2 x y H2,Inv X Ga σ H2 s2->zi x v->zi y u->R x y H2->wpAny (model X.prog X.w) X.A (f v u) Q X.xe s2) :
  wpAny (model X.prog X.w) X.A (eval a X.env) (λv s₁=>wpAny (model X.prog X.w) X.A (eval b X.env) (λu s₂=>wpAny (model X.prog X.w) X.A (f v u) Q X.xe s₂) X.xe s₁) X.xe s:=by
 refine thn (ha Ga s σ H _ I h) λv s1 ⟨x,H1,I1,r1,q1⟩=>?_
 refine thn (hb Ga s1 σ H1 _ I1 q1) λu s2 ⟨y,H2,I2,r2,q2⟩=>?_
 exact hf v u s2 x y H2 I2 r1 r2 q2
theorem zpW{op:Operator}{r:R2}(ho:OpR X (binaryOp op) r)(ha:PE X a ta)(hb:PE X b tb):PE X (.BinOp a op b pos) (tOp r ta tb):=by
 intro Ga s σ H Q I h
 exact wpAny_BinOp (zgD ha hb I h λv u s2 x y H2 I2 rx ry q=>ho Ga s2 σ H2 x y v u Q I2 rx ry q)
theorem opI{f:Value->Value->Sem Value}{C:Int->Int->Prop}{g:Int->Int->Int}
  (rule:∀(i j:Int)(t u:Tok)(s:Shared)(Q:Value->Shared->Prop)(E:Value->Shared->Prop),C i j->Q (.int (g i j) s.toks) { s with toks:=s.toks+1 }->wpAny (model X.prog X.w) X.A (f (.int i t) (.int j u)) Q E s) :
  OpR X f (rI C λi j=>.int (g i j)):=by
 intro Ga s σ H x y v u Q I rx ry h
 obtain ⟨i,j,rfl,rfl,hc,q⟩:=h
 obtain ⟨t,rfl⟩:=rx
 obtain ⟨t',rfl⟩:=ry
 exact rule i j t t' s _ _ hc ⟨.int (g i j),H,I.tok _,⟨_,rfl⟩,q⟩
theorem zie{f:Value->Value->Sem Value}{g:Int->Int->Int}
  (rule:∀(i j:Int)(t u:Tok)(s:Shared)(Q:Value->Shared->Prop)(E:Value->Shared->Prop),Q (.int (g i j) s.toks) { s with toks:=s.toks+1 }->wpAny (model X.prog X.w) X.A (f (.int i t) (.int j u)) Q E s) :
  OpR X f (rI0 λi j=>.int (g i j)):=by
 intro Ga s σ H x y v u Q I rx ry h
 obtain ⟨i,j,rfl,rfl,q⟩:=h
 obtain ⟨t,rfl⟩:=rx
 obtain ⟨t',rfl⟩:=ry
 exact rule i j t t' s _ _ ⟨.int (g i j),H,I.tok _,⟨_,rfl⟩,q⟩
theorem zfr{f:Value->Value->Sem Value}{g:Int->Int->Bool}
  (rule:∀(i j:Int)(t u:Tok)(s:Shared)(Q:Value->Shared->Prop)(E:Value->Shared->Prop),Q (.bool (g i j)) s->wpAny (model X.prog X.w) X.A (f (.int i t) (.int j u)) Q E s) :
  OpR X f (rI0 λi j=>.bl (g i j)):=by
 intro Ga s σ H x y v u Q I rx ry h
 obtain ⟨i,j,rfl,rfl,q⟩:=h
 obtain ⟨t,rfl⟩:=rx
 obtain ⟨t',rfl⟩:=ry
 exact rule i j t t' s _ _ ⟨.bl (g i j),H,I,rfl,q⟩
def zka(i j:Int):Prop:=0<j/\j<1073741824
def znj(i j:Int):Prop:=0<=j/\j<=1000000/\i.natAbs<2 ^ 64
def zcV(i j:Int):Prop:=(-(2 ^ 64)<i/\i<2 ^ 64)\/(-(2 ^ 64)<j/\j<2 ^ 64)
theorem zcV.ok{i j:Int}(h:zcV i j):IntMulOk i j:=by
 rcases h with ⟨h1,h2⟩|⟨h1,h2⟩
 ·exact .of_left (intBits_le_64 h1 h2)
 ·exact .of_right (intBits_le_64 h1 h2)
theorem zkd:OpR X (binaryOp .Add) (rI0 λi j=>.int (i+j)):=zie λ_ _ _ _ _ _ _ q=>add_int q
theorem zf8:OpR X (binaryOp .Sub) (rI0 λi j=>.int (i-j)):=zie λ_ _ _ _ _ _ _ q=>sub_int q
theorem znd:OpR X (binaryOp .Mult) (rI zcV λi j=>.int (i*j)):=opI λ_ _ _ _ _ _ _ hc q=>mul_int q hc.ok
theorem zq8:OpR X (binaryOp .FloorDiv) (rI zka λi j=>.int (i / j)):=opI λi j _ _ _ _ _ hc q=>by
 have h1:(0:Int)<j:=hc.1
 have h2:j<1073741824:=hc.2
 exact floordiv_int (by omega) (by rw [Int.fdiv_eq_ediv_of_nonneg i (by omega)];exact q) (.inl (PyProof.noPylong_small (by omega)))
theorem zdw:OpR X (binaryOp .Mod) (rI (λ_ j=>0<j) λi j=>.int (i % j)):=opI λi j _ _ _ _ _ hc q=>by
 have h1:(0:Int)<j:=hc
 exact mod_int' (by omega) (by rw [Int.fmod_eq_emod_of_nonneg i (by omega)];exact q)
theorem zjL:OpR X (binaryOp .Pow) (rI znj λi j=>.int (i ^ j.toNat)):=opI λ_ _ _ _ _ _ _ hc q=>pow_int_small hc.1 hc.2.1 hc.2.2 q
end
def zbh:V->V->Bool
 | .non,.non=>true | .non,.int _=>true | .int _,.non=>true | .non,.bl _=>true | .bl _,.non=>true | .non,.str _=>true | .str _,.non=>true
 | .int _,.int _=>true | .bl _,.bl _=>true | .str _,.str _=>true | .byt _,.byt _=>true
 | .int _,.str _=>true | .str _,.int _=>true | .bl _,.str _=>true | .str _,.bl _=>true
 | _,_=>false
def rEq:R2:=λx y H Q=>zbh x y=true/\Q (.bl (decide (x=y))) H
def rNe:R2:=λx y H Q=>zbh x y=true/\Q (.bl (!decide (x=y))) H
theorem zhb{i j:Int}:decide (V.int i=V.int j)=(i==j):=by
 rw [Bool.eq_iff_iff]
 simp
theorem ziT{i j:Bool}:decide (V.bl i=V.bl j)=(i==j):=by
 rw [Bool.eq_iff_iff]
 simp
theorem ziY{i j:Str}:decide (V.str i=V.str j)=(i==j):=by
 rw [Bool.eq_iff_iff]
 simp
theorem ziX{i j:Array UInt8}:decide (V.byt i=V.byt j)=(i.toList==j.toList):=by
 rw [Bool.eq_iff_iff]
 cases i
 cases j
 simp
section
variable {X:Cx}{a b c:Expr}{ta tb tc:TE}{pos:Pos}
theorem zT{Ga:List (Addr×Obj)}{σ:St}{H:Hp}{s:Shared}{Q:VK}{k k':Bool}(I:Inv X Ga σ H s)(q:Q (.bl k) H)(e:k=k'):EP X Ga σ Q (.bool k') s:=by
 subst e
 exact ⟨.bl k,H,I,rfl,q⟩
theorem znk:OpR X (compareOp .Eq) rEq:=by
 intro Ga s σ H x y v u Q I rx ry h
 obtain ⟨hs,q⟩:=h
 cases x with
 | non =>
  cases rx
  cases y with
  | non=>cases ry;exact PySem.EqNone.eq_none_none (zT I q (by simp))
  | bl j=>cases ry;exact PySem.EqNone.eq_none_bool (zT I q (by simp))
  | int j=>obtain ⟨t',rfl⟩:=ry;exact PySem.EqNone.eq_none_int (zT I q (by simp))
  | str j=>obtain ⟨t',rfl⟩:=ry;exact PySem.EqNone.eq_none_str (zT I q (by simp))
  | _=>exact absurd (show false=true from hs) Bool.false_ne_true
 | bl i =>
  cases rx
  cases y with
  | non=>cases ry;exact PySem.EqNone.eq_bool_none (zT I q (by simp))
  | bl j=>cases ry;exact eq_bool (zT I q ziT)
  | str j=>obtain ⟨t',rfl⟩:=ry;exact PySem.EqMixed.eq_bool_str (zT I q (by simp))
  | _=>exact absurd (show false=true from hs) Bool.false_ne_true
 | int i =>
  obtain ⟨t,rfl⟩:=rx
  cases y with
  | non=>cases ry;exact PySem.EqNone.eq_int_none (zT I q (by simp))
  | int j=>obtain ⟨t',rfl⟩:=ry;exact eq_int (zT I q zhb)
  | str j=>obtain ⟨t',rfl⟩:=ry;exact PySem.EqMixed.eq_int_str (zT I q (by simp))
  | _=>exact absurd (show false=true from hs) Bool.false_ne_true
 | str i =>
  obtain ⟨t,rfl⟩:=rx
  cases y with
  | non=>cases ry;exact PySem.EqNone.eq_str_none (zT I q (by simp))
  | bl j=>cases ry;exact PySem.EqMixed.eq_str_bool (zT I q (by simp))
  | int j=>obtain ⟨t',rfl⟩:=ry;exact PySem.EqMixed.eq_str_int (zT I q (by simp))
  | str j=>obtain ⟨t',rfl⟩:=ry;exact eq_str (zT I q ziY)
  | _=>exact absurd (show false=true from hs) Bool.false_ne_true
 | byt i =>
  obtain ⟨t,rfl⟩:=rx
  cases y with
  | byt j=>obtain ⟨t',rfl⟩:=ry;exact PySem.W.eq_bytes (zT I q ziX)
  | _=>exact absurd (show false=true from hs) Bool.false_ne_true
 | _=>cases y<;>exact absurd (show false=true from hs) Bool.false_ne_true
theorem znD:OpR X (compareOp .NotEq) rNe:=by
 intro Ga s σ H x y v u Q I rx ry h
 obtain ⟨hs,q⟩:=h
 cases x with
 | non =>
  cases rx
  cases y with
  | non=>cases ry;exact PySem.EqNone.ne_none_none (zT I q (by simp))
  | bl j=>cases ry;exact PySem.EqNone.ne_none_bool (zT I q (by simp))
  | int j=>obtain ⟨t',rfl⟩:=ry;exact PySem.EqNone.ne_none_int (zT I q (by simp))
  | str j=>obtain ⟨t',rfl⟩:=ry;exact PySem.EqNone.ne_none_str (zT I q (by simp))
  | _=>exact absurd (show false=true from hs) Bool.false_ne_true
 | bl i =>
  cases rx
  cases y with
  | non=>cases ry;exact PySem.EqNone.ne_bool_none (zT I q (by simp))
  | bl j=>cases ry;exact ne_bool (zT I q (congrArg not ziT))
  | str j=>obtain ⟨t',rfl⟩:=ry;exact PySem.EqMixed.ne_bool_str (zT I q (by simp))
  | _=>exact absurd (show false=true from hs) Bool.false_ne_true
 | int i =>
  obtain ⟨t,rfl⟩:=rx
  cases y with
  | non=>cases ry;exact PySem.EqNone.ne_int_none (zT I q (by simp))
  | int j=>obtain ⟨t',rfl⟩:=ry;exact ne_int (zT I q (congrArg not zhb))
  | str j=>obtain ⟨t',rfl⟩:=ry;exact PySem.EqMixed.ne_int_str (zT I q (by simp))
  | _=>exact absurd (show false=true from hs) Bool.false_ne_true
 | str i =>
  obtain ⟨t,rfl⟩:=rx
  cases y with
  | non=>cases ry;exact PySem.EqNone.ne_str_none (zT I q (by simp))
  | bl j=>cases ry;exact PySem.EqMixed.ne_str_bool (zT I q (by simp))
  | int j=>obtain ⟨t',rfl⟩:=ry;exact PySem.EqMixed.ne_str_int (zT I q (by simp))
  | str j=>obtain ⟨t',rfl⟩:=ry;exact ne_str (zT I q (congrArg not ziY))
  | _=>exact absurd (show false=true from hs) Bool.false_ne_true
 | byt i =>
  obtain ⟨t,rfl⟩:=rx
  cases y with
  | byt j=>obtain ⟨t',rfl⟩:=ry;exact PySem.W.ne_bytes (zT I q (congrArg not ziX))
  | _=>exact absurd (show false=true from hs) Bool.false_ne_true
 | _=>cases y<;>exact absurd (show false=true from hs) Bool.false_ne_true
theorem zdM:OpR X (compareOp .Lt) (rI0 λi j=>.bl (decide (i<j))):=zfr λ_ _ _ _ _ _ _ q=>lt_int q
theorem zhF:OpR X (compareOp .LtE) (rI0 λi j=>.bl (decide (i<=j))):=zfr λ_ _ _ _ _ _ _ q=>le_int q
theorem zjz:OpR X (compareOp .Gt) (rI0 λi j=>.bl (decide (j<i))):=zfr λ_ _ _ _ _ _ _ q=>gt_int q
theorem ztz:OpR X (compareOp .In) (λx y H Q=>∃i j,x = .str i/\y = .str j/\Q (.bl (!(Builtin.Str.occurrences j i 0 j.length 1).isEmpty)) H):=by
 intro Ga s σ H x y v u Q I rx ry h
 obtain ⟨i,j,rfl,rfl,q⟩:=h
 obtain ⟨t,rfl⟩:=rx
 obtain ⟨t',rfl⟩:=ry
 exact in_str (zT I q rfl)
theorem OpR.or{f:Value->Value->Sem Value}{r r':R2}(h:OpR X f r)(h':OpR X f r'):OpR X f (λx y H Q=>r x y H Q\/r' x y H Q):=by
 intro Ga s σ H x y v u Q I rx ry q
 rcases q with q|q
 ·exact h Ga s σ H x y v u Q I rx ry q
 ·exact h' Ga s σ H x y v u Q I rx ry q
theorem zaa(b:Expr){op:CmpOp}(h:op≠.In:=by decide)(h2:op≠.NotIn:=by decide):behindInMarks op b=false:=by
 have e1:(op==CmpOp.In)=false:=by cases op<;>first|rfl|exact absurd rfl h
 have e2:(op==CmpOp.NotIn)=false:=by cases op<;>first|rfl|exact absurd rfl h2
 cases b<;>simp [behindInMarks,e1,e2]
theorem znb{op:CmpOp}{r:R2}(ho:OpR X (compareOp op) r)(ha:PE X a ta)(hb:PE X b tb)(hm:behindInMarks op b=false):PE X (.Compare a [op] [b] pos) (tOp r ta tb):=by
 intro Ga s σ H Q I h
 exact wpAny_Compare1 (zgD ha hb I h λv u s2 x y H2 I2 rx ry q=>ho Ga s2 σ H2 x y v u Q I2 rx ry q) hm
def zgA(t:TE):TT:=λσ H Q=>t σ H λx H'=>∃k,x = .bl k/\Q k H'
theorem zha{op:CmpOp}{r:R2}(ho:OpR X (compareOp op) r)(ha:PE X a ta)(hb:PE X b tb)(hm:behindInMarks op b=false):PT X (.Compare a [op] [b] pos) (zgA (tOp r ta tb)):=by
 intro Ga s σ H Q I h
 refine wpAny_isTrue_Compare1 (thn (ha Ga s σ H _ I h) λv s1 ⟨x,H1,I1,r1,q1⟩=>thn (hb Ga s1 σ H1 _ I1 q1) λu s2 ⟨y,H2,I2,r2,q2⟩ =>
  thn (ho Ga s2 σ H2 x y v u _ I2 r1 r2 q2) λc s3 ⟨z,H3,I3,r3,k,e,q3⟩=>?_) hm
 subst e
 cases r3
 exact wpAny_truthy_bool ⟨H3,I3,q3⟩
def zgn(r r':R2)(ta tb tc:TE):TE:=λσ H Q=>ta σ H λx H1=>tb σ H1 λy H2=>r x y H2 λz H3=>∃k,z = .bl k /\
 (if k=true then tc σ H3 λw' H4=>r' y w' H4 Q else Q (.bl false) H3)
theorem zl5{op op':CmpOp}{r r':R2}(ho:OpR X (compareOp op) r)(ho':OpR X (compareOp op') r')(ha:PE X a ta)(hb:PE X b tb)(hc:PE X c tc)
  (hm:lastMarks [op,op'] [b,c]=false:=by with_unfolding_all rfl):PE X (.Compare a [op,op'] [b,c] pos) (zgn r r' ta tb tc):=by
 intro Ga s σ H Q I h
 refine Compare_chain (thn (ha Ga s σ H _ I h) λv s1 ⟨x,H1,I1,r1,q1⟩=>chain_link (thn (hb Ga s1 σ H1 _ I1 q1) λu s2 ⟨y,H2,I2,r2,q2⟩ =>
  thn (ho Ga s2 σ H2 x y v u _ I2 r1 r2 q2) λd s3 ⟨z,H3,I3,r3,k,e,q3⟩=>?_)) hm
 subst e
 cases r3
 refine wpAny_truthy_bool ?_
 cases k with
 | false=>exact ite_ff ⟨.bl false,H3,I3,rfl,q3⟩
 | true=>exact ite_tt (chain_last (thn (hc Ga s3 σ H3 _ I3 q3) λw' s4 ⟨z',H4,I4,r4,q4⟩=>ho' Ga s4 σ H4 y z' u w' Q I4 r2 r4 q4))
def zbV(K:PySem.W.Frag)(x:V)(H:Hp)(k:Bool):Prop :=
 match x with
 | .non=>k=false
 | .bl b=>k=b
 | .int i=>k=(i != 0)
 | .str y=>y.length<=sizeLine/\k=((y.length:Int) != 0)
 | .byt y=>y.size<=sizeLine/\k=((y.size:Int) != 0)
 | .ref p=>(∃xs,SqL K H p xs/\k = !xs.isEmpty)\/(∃xs,SqT K H p xs/\k = !xs.isEmpty)\/∃kvs,H p=some (.dK kvs)/\k = !kvs.isEmpty
 | _=>False
theorem ztm{κ:Type}{kvs:List (κ×V)}{vs:List (κ×Value)}(r:KV kvs vs):(!vs.isEmpty) = !kvs.isEmpty:=by
 cases r<;>rfl
theorem zhO{xs:List V}{its:List Value}(r:zk xs its):(!its.toArray.isEmpty) = !xs.isEmpty:=by
 cases r<;>simp
theorem zce:(sizeLine:Nat)<2 ^ 63:=by rw [sizeLine_eq];decide
theorem zm4:zj0 X (λx H Q=>∃k,zbV X.K x H k/\Q k H):=by
 intro Ga s σ H x v Q I rx h
 obtain ⟨k,e,q⟩:=h
 have hl:=zce
 have hs:sizeLine=16777216:=sizeLine_eq
 cases x with
 | non =>
  cases rx
  have e':k=false:=e
  subst e'
  exact truthy_none ⟨H,I,q⟩
 | bl b =>
  cases rx
  have e':k=b:=e
  subst e'
  exact wpAny_truthy_bool ⟨H,I,q⟩
 | int i =>
  obtain ⟨t,rfl⟩:=rx
  have e':k=(i != 0):=e
  subst e'
  exact PySem.P.truthy_int ⟨H,I,q⟩
 | str y =>
  obtain ⟨t,rfl⟩:=rx
  obtain ⟨hy,e'⟩:y.length<=sizeLine/\k=((y.length:Int) != 0):=e
  subst e'
  exact PySem.P.truthy_str (by omega) ⟨H,I.tok _,q⟩
 | byt y =>
  obtain ⟨t,rfl⟩:=rx
  obtain ⟨hy,e'⟩:y.size<=sizeLine/\k=((y.size:Int) != 0):=e
  subst e'
  exact PySem.W.truthy_bytes (by omega) ⟨H,I.tok _,q⟩
 | ref p =>
  cases rx
  have e':(∃xs,SqL X.K H p xs/\k = !xs.isEmpty)\/(∃xs,SqT X.K H p xs/\k = !xs.isEmpty)\/∃kvs,H p=some (.dK kvs)/\k = !kvs.isEmpty:=e
  rcases e' with ⟨xs,hx,e'⟩|⟨xs,hx,e'⟩|⟨kvs,hx,e'⟩
  ·subst e'
   obtain ⟨its,r,pl,hz⟩:=I.list hx
   have hlen:=r.length
   exact wpAny_truthy_list pl.isList (by simp only [size_toArray];omega) ⟨H,I.tok _,by rw [zhO r];exact q⟩
  ·subst e'
   obtain ⟨its,r,pl,hz⟩:=I.tuple hx
   have hlen:=r.length
   exact truthy_tuple pl (by simp only [size_toArray];omega) ⟨H,I.tok _,by rw [zhO r];exact q⟩
  ·subst e'
   obtain ⟨hz,hS,vs,r,m⟩:kvs.length<=sizeLine/\(p==sysModules)=false/\∃vs,KV kvs vs/\s.heap.DictOf (zae X.prog X.w) p vs:=I.hok p _ hx
   have hlen:kvs.length=vs.length:=Paired.length r
   exact wpAny_truthy_dict hS m (by omega) ⟨H,I.tok _,by rw [ztm r];exact q⟩
 | _=>exact (show False from e).elim
theorem zr7(ha:PE X a ta)(he:∀whole,isTrue a X.env whole=(do let v<-whole;standAt a.pos;holding [v] (truthy v))) :
  PT X a (λσ H Q=>ta σ H λx H'=>∃k,zbV X.K x H' k/\Q k H'):=by
 intro Ga s σ H Q I h
 exact isTrue_plain (thn (ha Ga s σ H _ I h) λv s1 ⟨x,H1,I1,r1,q1⟩=>zm4 Ga s1 σ H1 x v Q I1 r1 q1) (he _)
theorem zoP:OpR X (binaryOp .Add) (λx y H Q=>∃i j,x = .str i/\y = .str j/\i.length+j.length<=sizeLine/\Q (.str (i++j)) H):=by
 intro Ga s σ H x y v u Q I rx ry h
 obtain ⟨i,j,rfl,rfl,hz,q⟩:=h
 obtain ⟨t,rfl⟩:=rx
 obtain ⟨t',rfl⟩:=ry
 exact add_str (λt' tk=>⟨.str (i++j),H,I.tok _,⟨_,rfl⟩,q⟩) hz
theorem zbx{x:V}{us:List Value}(r:zk [x] us):∃u,us=[u]/\zi x u:=by
 cases r with
 | cons r1 r2=>cases r2;exact ⟨_,rfl,r1⟩
theorem zgs{x y:V}{us:List Value}(r:zk [x,y] us):∃u w',us=[u,w']/\zi x u/\zi y w':=by
 cases r with
 | cons r1 r2 =>
  cases r2 with
  | cons r3 r4=>cases r4;exact ⟨_,_,rfl,r1,r3⟩
theorem zmH(hc:X.calm=true):zR X (.builtin "max") (λxs H Q=>∃i j,xs=[.int i,.int j]/\Q (.int (if j>i then j else i)) H):=by
 intro Ga s σ H xs us Q I r h
 obtain ⟨i,j,rfl,q⟩:=h
 obtain ⟨u,w',rfl,⟨t,rfl⟩,⟨t',rfl⟩⟩:=zgs r
 refine max_two_ints (I.ok.hd hc) λh' tk k=>⟨_,H,I.kept k,?_,q⟩
 by_cases hj:j>i
 ·rw [if_pos hj,if_pos hj];exact ⟨_,rfl⟩
 ·rw [if_neg hj,if_neg hj];exact ⟨_,rfl⟩
theorem zok(hc:X.calm=true):zR X (.builtin "min") (λxs H Q=>∃i j,xs=[.int i,.int j]/\Q (.int (if j<i then j else i)) H):=by
 intro Ga s σ H xs us Q I r h
 obtain ⟨i,j,rfl,q⟩:=h
 obtain ⟨u,w',rfl,⟨t,rfl⟩,⟨t',rfl⟩⟩:=zgs r
 refine min_two_ints (I.ok.hd hc) λh' tk k=>⟨_,H,I.kept k,?_,q⟩
 by_cases hj:j<i
 ·rw [if_pos hj,if_pos hj];exact ⟨_,rfl⟩
 ·rw [if_neg hj,if_neg hj];exact ⟨_,rfl⟩
theorem zox:zR X (.type "int") (λxs H Q=>(∃i,xs=[.int i]/\Q (.int i) H)\/∃k,xs=[.bl k]/\Q (.int (if k then 1 else 0)) H):=by
 intro Ga s σ H xs us Q I r h
 rcases h with ⟨i,rfl,q⟩|⟨k,rfl,q⟩
 ·obtain ⟨u,rfl,t,rfl⟩:=zbx r
  exact call_int_int ⟨.int i,H,I,⟨_,rfl⟩,q⟩
 ·obtain ⟨u,rfl,r1⟩:=zbx r
  cases r1
  exact call_int_bool ⟨.int (if k then 1 else 0),H,I.tok _,⟨_,rfl⟩,q⟩
end
structure zcl(h:Heap)(x dx C:Addr)(mA:Str->Option Value):Prop where
 obj:h.get? x=some (instObj C dx)
 ns:h.Ns1 dx mA
 ne:dx≠x
theorem zlN{h:Heap}{dx:Addr}{mA:Str->Option Value}(n:h.Ns1 dx mA):∃od,h.get? dx=some od/\∀name,lookIn name od=some (mA name):=by
 obtain ⟨o,es,ep,ho,hd,hk,_,hm⟩:=n
 refine ⟨o,ho,λname=>?_⟩
 have e:=hm name
 unfold nsFind findBy at e
 rw [<- Array.find?_toList] at e
 unfold lookIn
 rw [hd]
 dsimp only
 split
 ·rename_i y q
  rw [q] at e
  exact congrArg some e
 ·rename_i q
  rw [q] at e
  have a:es.toList.any (·.refKey)=false:=by
   rw [List.any_eq_false]
   intro y hy
   obtain ⟨z,t,hkey⟩:=hk y (Array.mem_toList_iff.mp hy)
   simp [DictEntry.refKey,hkey]
  have a' : ¬ es.toList.any (·.refKey)=true:=by rw [a];exact Bool.false_ne_true
  rw [if_neg a']
  exact congrArg some e
theorem zcl.look{h:Heap}{x dx C:Addr}{mA:Str->Option Value}(I:zcl h x dx C mA):∃od,PySem.W.InstAt h x (instObj C dx) C (some od)/\∀name,lookIn name od=some (mA name) :=
 let ⟨od,ho,hl⟩:=zlN I.ns
 ⟨od,⟨I.obj,rfl,rfl,ho⟩,hl⟩
section
variable {prog:Program}{w:World}{A:Around}{E:Value->Shared->Prop}{s:Shared}{K:PySem.W.Frag}{x dx C f:Addr}{mA:Str->Option Value}{name:Str}{v:Value}
theorem znF{expr:Bool}{Q:Value->Shared->Prop}(X:K.In s.heap)(I:zcl s.heap x dx C mA)(hg:plainGet K C name=true)(hh:hasDictIn K C=true)
  (ha:PySem.W.findIn K (.ref C) name=some none) (hv:mA name=some v) (hv':handedIn v=true) (h:Q v { s with toks:=s.toks+1 }) :
  wpAny (model prog w) A (getAttr (.ref x) name expr) Q E s:=by
 obtain ⟨od,J,hl⟩:=I.look
 exact PySem.W.get_value X J (plainGet_of hg).1 (PySem.W.findObj_own hh ha rfl (by rw [hl,hv])) hv' h
theorem zri{pl:Sem Bool}{Q:Value×List Value->Shared->Prop}(X:K.In s.heap)(I:zcl s.heap x dx C mA)(hg:plainGet K C name=true)
  (hf:PySem.W.findIn K (.ref C) name=some (some (.ref f))) (ht:isFn K (.ref f)=true) (hv:mA name=none) (h:Q (.ref f,[.ref x]) s) :
  wpAny (model prog w) A (getMethod (.ref x) name pl) Q E s:=by
 obtain ⟨od,J,hl⟩:=I.look
 exact PySem.W.method_fn X J (plainGet_of hg).1 (plainGet_of hg).2 hf (beq_iff_eq.mp ht) (by show (lookIn name od).map (·.isSome)=some false;rw [hl,hv];rfl) h
theorem ztE{ns:List Str}{Q:Unit->Shared->Prop}(X:K.In s.heap)(I:zcl s.heap x dx C mA)
  (hs:PySem.W.findIn K (.ref C) "__setattr__"=some (some (.builtin "object.__setattr__"))) (hp:plainOver K C=true) (ht:takerIn K C name=some none) (hh:hasDictIn K C=true)
  (hw:PySem.Within mA ns) (hsz:ns.length<=sizeLine)
  (h:∀h',zcl h' x dx C (λy=>if y=name then some v else mA y)->SameBut dx s.heap h'->Q () { s with heap:=h',toks:=s.toks+2 }) :
  wpAny (model prog w) A (setAttr (.ref x) name v) Q E s:=by
 obtain ⟨od,J,hl⟩:=I.look
 refine PySem.W.set_plain X J hs (PySem.W.osa_open (s:={ s with toks:=s.toks+1 }) (r:=none) X J hp ht λb=>?_)
 obtain ⟨cd,hc,hd'⟩:=PySem.W.any_some hh
 have hx:s.heap.get? x=some ⟨.ref C,some dx,.plain,#[]⟩:=I.obj
 refine wpAny_bind (wpAny_pure (wpAny_bind (wpAny_bind (wpAny_loadPart hx (wpAny_bind (PySem.W.Looks.here (s:={ s with toks:=s.toks+1 }) (PySem.W.looks_clsIn X hc) ?_))))))
 rw [hd']
 refine wpAny_pure (a:=some dx) (wpAny_bind (wpAny_pure (wpAny_bind ?_)))
 refine wpAny_nsSet1 (s:={ s with toks:=s.toks+1 }) I.ns λh' hn2 hs2=>?_
 obtain ⟨oD,esD,epD,hoD,hdD,hcD⟩:=hn2.count (PySem.Within.cons name v hw)
 refine wpAny_bind (wpAny_lookBehind hoD (by rw [hdD];exact pastItsLine_dict (le_trans hcD (by rw [length_cons];omega))) ?_)
 exact wpAny_pure (h _ ⟨(hs2.2 _ (Ne.symm I.ne)).trans I.obj,hn2,I.ne⟩ hs2)
theorem zmm{R:Result->Shared->Prop}{vs:List Value}{kw:List (Str×Value)}(X:K.In s.heap)(hm:makesIn K C=true)
  (hi:PySem.W.findIn K (.ref C) "__init__"=some (some (.ref f))) (hf:PySem.W.typeIn K (.ref f)=some (.type "function"))
  (h:codeAny (model prog w) (A.under (.builtin "type.__call__" ⟨.ref C::vs,kw⟩)) (.call (.ref f) ⟨.ref (s.heap.objs.size+1)::vs,kw⟩) (PySem.W.InitBack (s.heap.objs.size+1) R)
   { s with heap:=(s.heap.push emptyDict).push (instObj C s.heap.objs.size) }) :
  codeAny (model prog w) A (.call (.ref C) ⟨vs,kw⟩) R s:=by
 obtain ⟨hh,g,d,t,os⟩:=s
 exact PySem.W.make_core (PySem.W.makes_of X hm) (PySem.W.looks_findIn X hi) (λself=>PySem.W.bind_fn X self hf) (.inl rfl) h
end
def zab(f:Str)(v:V):List (Str×V)->List (Str×V)
 | []=>[(f,v)]
 | (g,x)::r=>if g=f then (g,v)::r else (g,x)::zab f v r
theorem ziN(f g:Str)(v:V):∀fs:List (Str×V),(zab f v fs).lookup g=if g=f then some v else fs.lookup g
 | []=>by
  show List.lookup g [(f,v)]=_
  by_cases h:g=f
  ·have hb:(g==f)=true:=beq_iff_eq.mpr h
   simp only [List.lookup,hb,if_pos h]
  ·have hb:(g==f)=false:=beq_eq_false_iff_ne.mpr h
   simp only [List.lookup,hb,if_neg h]
 | (k,x)::r=>by
  have ih:=ziN f g v r
  rw [show zab f v ((k,x)::r)=(if k=f then (k,v)::r else (k,x)::zab f v r) from rfl]
  by_cases hk:k=f
  ·rw [if_pos hk]
   by_cases h:g=k
   ·have hb:(g==k)=true:=beq_iff_eq.mpr h
    simp only [List.lookup,hb,if_pos (h.trans hk)]
   ·have hb:(g==k)=false:=beq_eq_false_iff_ne.mpr h
    simp only [List.lookup,hb,if_neg (λe:g=f=>h (e.trans hk.symm))]
  ·rw [if_neg hk]
   by_cases h:g=k
   ·have hb:(g==k)=true:=beq_iff_eq.mpr h
    simp only [List.lookup,hb,if_neg (λe:g=f=>hk (h.symm.trans e))]
   ·have hb:(g==k)=false:=beq_eq_false_iff_ne.mpr h
    simp only [List.lookup,hb]
    exact ih
theorem zft(f:Str)(v:V):∀fs:List (Str×V),f∈(zab f v fs).map (·.1)/\∀g,g∈fs.map (·.1)->g∈(zab f v fs).map (·.1)
 | []=>⟨by simp [zab],λg h=>by simp at h⟩
 | (k,x)::r=>by
  obtain ⟨i1,i2⟩:=zft f v r
  rw [show zab f v ((k,x)::r)=(if k=f then (k,v)::r else (k,x)::zab f v r) from rfl]
  by_cases hk:k=f
  ·rw [if_pos hk]
   subst hk
   exact ⟨by simp,λg h=>by simpa using h⟩
  ·rw [if_neg hk]
   refine ⟨?_,λg h=>?_⟩
   ·rw [map_cons]
    exact mem_cons_of_mem _ i1
   ·rw [map_cons] at h ⊢
    rcases mem_cons.mp h with e|e
    ·exact mem_cons.mpr (.inl e)
    ·exact mem_cons_of_mem _ (i2 g e)
theorem zh1(f:Str)(v:V):∀fs:List (Str×V),(zab f v fs).length<=fs.length+1
 | []=>by simp [zab]
 | (k,x)::r=>by
  have ih:=zh1 f v r
  rw [show zab f v ((k,x)::r)=(if k=f then (k,v)::r else (k,x)::zab f v r) from rfl]
  by_cases hk:k=f
  ·rw [if_pos hk,length_cons,length_cons];omega
  ·rw [if_neg hk,length_cons,length_cons];omega
theorem zaq.some_of{v:V}{o:Option Value}(r:zaq (some v) o):∃u,o=some u/\zi v u:=by
 cases o with
 | none=>exact (show False from r).elim
 | some u=>exact ⟨u,rfl,r⟩
theorem zaq.none_of{o:Option Value}(r:zaq none o):o=none:=by
 cases o with
 | none=>rfl
 | some u=>exact (show False from r).elim
theorem zoc{v:V}{u:Value}(r:zi v u):handedIn u=true:=by
 cases v with
 | non=>cases (show u=Value.none from r);rfl
 | bl b=>cases (show u=Value.bool b from r);rfl
 | int i=>obtain ⟨t,e⟩:=(show ∃t,u=Value.int i t from r);cases e;rfl
 | str x=>obtain ⟨t,e⟩:=(show ∃t,u=Value.str x t from r);cases e;rfl
 | byt b=>obtain ⟨t,e⟩:=(show ∃t,u=Value.bytes b t from r);cases e;rfl
 | flt b=>obtain ⟨t,e⟩:=(show ∃t,u=float b t from r);cases e;rfl
 | ref a=>cases (show u=Value.ref a from r);rfl
 | ty n=>cases (show u=type n from r);rfl
section
variable {P:Program}{w:World}{H H':Hp}{h h':Heap}{a C dx:Addr}{fs fs':List (Str×V)}
theorem zdU(hok:HOk P w H h)(e:H a=some (.ins C dx fs)):∃mA,zcl h a dx C mA/\(∀f,zaq (fs.lookup f) (mA f))/\PySem.Within mA (fs.map (·.1))/\fs.length<=1000/\H dx=some (.own a):=by
 obtain ⟨d,z,ne,ob,mA,n,r,q⟩:=(show zX P w H h a (.ins C dx fs) from hok a _ e)
 exact ⟨mA,⟨ob,n,ne⟩,r,q,z,d⟩
end
structure Cls(K:PySem.W.Frag)(C:Addr):Prop where
 pg:plainGet K C Str.empty=true
 hd:hasDictIn K C=true
 po:plainOver K C=true
 sa:PySem.W.findIn K (.ref C) "__setattr__"=some (some (.builtin "object.__setattr__"))
theorem Cls.get{K:PySem.W.Frag}{C:Addr}(c:Cls K C)(f:Str):plainGet K C f=true:=c.pg
def zbe(K:PySem.W.Frag)(C:Addr)(f:Str):Prop:=PySem.W.findIn K (.ref C) f=some none
theorem zbe.taker{K:PySem.W.Frag}{C:Addr}{f:Str}(n:zbe K C f):takerIn K C f=some none:=by
 unfold takerIn
 rw [show PySem.W.findIn K (.ref C) f=some none from n]
 rfl
structure zbY(K:PySem.W.Frag)(C:Addr)(m:Str)(f:Addr):Prop where
 at_:PySem.W.findIn K (.ref C) m=some (some (.ref f))
 fn:isFn K (.ref f)=true
 kp:keepIn K (.ref f)=true
section
variable {X:Cx}{Ga:List (Addr×Obj)}{σ:St}{H:Hp}{s:Shared}{a C dx:Addr}{fs:List (Str×V)}{f:Str}{v:V}{A:Around}{E:Value->Shared->Prop}
theorem zj8{b:Bool}{Q:Value->Shared->Prop}(I:Inv X Ga σ H s)(e:H a=some (.ins C dx fs))(c:Cls X.K C)(n:zbe X.K C f)(l:fs.lookup f=some v)
  (h:∀u s',Inv X Ga σ H s'->zi v u->Q u s'):wpAny (model X.prog X.w) A (getAttr (.ref a) f b) Q E s:=by
 obtain ⟨mA,O,r,_,_,_⟩:=zdU I.hok e
 obtain ⟨u,hu,ru⟩:=zaq.some_of (v:=v) (o:=mA f) (by rw [<- l];exact r f)
 exact znF I.kIn O (c.get f) c.hd n hu (zoc ru) (h u _ (I.tok _) ru)
theorem zel{m:Str}{g:Addr}{pl:Sem Bool}{Q:Value×List Value->Shared->Prop}(I:Inv X Ga σ H s)(e:H a=some (.ins C dx fs))(c:Cls X.K C)(k:zbY X.K C m g)(l:fs.lookup m=none)
  (h:Q (.ref g,[.ref a]) s):wpAny (model X.prog X.w) A (getMethod (.ref a) m pl) Q E s:=by
 obtain ⟨mA,O,r,_,_,_⟩:=zdU I.hok e
 have hn:mA m=none:=zaq.none_of (by rw [<- l];exact r m)
 exact zri I.kIn O (c.get m) k.at_ k.fn hn h
theorem znc{y:V}{u:Value}{Q:Unit->Shared->Prop}(I:Inv X Ga σ H s)(e:H a=some (.ins C dx fs))(c:Cls X.K C)(n:zbe X.K C f)(hl:fs.length<1000)(ry:zi y u)
  (h:∀s',Inv X Ga σ (upd H a (.ins C dx (zab f y fs))) s'->Q () s'):wpAny (model X.prog X.w) A (setAttr (.ref a) f u) Q E s:=by
 obtain ⟨mA,O,r,wi,_,ho⟩:=zdU I.hok e
 have hz:(fs.map (·.1)).length<=sizeLine:=by rw [length_map,sizeLine_eq];omega
 refine ztE I.kIn O c.sa c.po n.taker c.hd wi hz λh' O' sb=>h _ ?_
 have hd:∃o,h'.get? dx=some o:=let ⟨o,_,_,e',_⟩:=O'.ns;⟨o,e'⟩
 refine I.write (x:=a) (e:=dx) (by rw [e];exact True.intro) (.inr ho) (λb q hb z=>(sb.2 b hb).trans z) hd ?_
 refine ⟨by rw [ze O.ne];exact ho,?_,O.ne,O'.obj,_,O'.ns,λg=>?_,λg hg=>?_⟩
 ·have:=zh1 f y fs;omega
 ·show zaq ((zab f y fs).lookup g) (if g=f then some u else mA g)
  rw [ziN]
  by_cases q:g=f
  ·rw [if_pos q,if_pos q];exact ry
  ·rw [if_neg q,if_neg q];exact r g
 ·by_cases q:g=f
  ·rw [q];exact (zft f y fs).1
  ·refine (zft f y fs).2 g (wi g λz=>hg ?_)
   show (if g=f then some u else mA g)=none
   rw [if_neg q];exact z
theorem Inv.made(I:Inv X Ga σ H s):Inv X Ga σ (upd (upd H s.heap.objs.size (.own (s.heap.objs.size+1))) (s.heap.objs.size+1) (.ins C s.heap.objs.size []))
  { s with heap:=(s.heap.push emptyDict).push (instObj C s.heap.objs.size) }:=by
 have e1:(s.heap.push emptyDict).get? s.heap.objs.size=some emptyDict:=get?_push_size s.heap rfl
 have e2:((s.heap.push emptyDict).push (instObj C s.heap.objs.size)).get? (s.heap.objs.size+1)=some (instObj C s.heap.objs.size):=by
  have:=get?_push_size (s.heap.push emptyDict) (o:=instObj C s.heap.objs.size) rfl
  rwa [size_push] at this
 have e3:(s.heap.push emptyDict).Ns s.heap.objs.size (λ_=>none):=⟨emptyDict,#[],_,e1,rfl,(λe he=>absurd he (by simp)),λ_=>rfl⟩
 have I1:=I.laid (a:=s.heap.objs.size) (o:=.own (s.heap.objs.size+1)) (h':=s.heap.push emptyDict) (t':=s.toks) (λb u q=>get?_push_of_some _ q) (le_refl _) ⟨_,e1⟩
 refine I1.laid (a:=s.heap.objs.size+1) (o:=.ins C s.heap.objs.size []) (t':=s.toks) (λb u q=>get?_push_of_some _ q) (le_of_eq (size_push _ _)) ?_
 have ne:s.heap.objs.size≠s.heap.objs.size+1:=ne_of_lt (lt_succ_self _)
 refine ⟨by rw [ze ne,zp],zero_le _,ne,e2,λ_=>none,(Heap.Ns1.of_empty e3).at λo q=>get?_push_of_some _ q,λ_=>True.intro,λy hy=>absurd rfl hy⟩
theorem zn5{prog:Program}{w:World}{env:Env}{e:Expr}{f:Str}{pos:Pos}{s:Shared}{Q:Value->Shared->Prop}(hb:attributeBase e f env (eval e env)=eval e env)
  (h:wpAny (model prog w) A (eval e env) (λo s₁=>wpAny (model prog w) A (getAttr o f true) Q E s₁) E s):wpAny (model prog w) A (eval (.Attribute e f pos) env) Q E s :=
 Attribute_any_ h (by rw [arm_eval_Attribute,hb])
end
section
variable {X:Cx}{o e value:Expr}{f:Str}{pos pos' tpos:Pos}{ta tv:TE}
def zic:V->V->Hp->VK->Prop:=λx y H Q=>∃i j,x = .int i/\y = .int j/\Q (.int (i+j)) H
def ziF:V->V->Hp->VK->Prop:=λx y H Q=>∃i j,x = .int i/\y = .int j/\Q (.int (i-j)) H
theorem ztF{pl:Sem Bool}{m:Str}{apos:Pos}{args:List Expr}{Ga:List (Addr×Obj)}{s:Shared}{σ:St}{H:Hp}{Q:Value->Shared->Prop}{te:TE}(he:PE X e te)(I:Inv X Ga σ H s)
  (h:te σ H λx H1=>∃a C dx fs g,x = .ref a/\H1 a=some (.ins C dx fs)/\Cls X.K C/\zbY X.K C m g/\fs.lookup m=none /\
   ∀s1,Inv X Ga σ H1 s1->wpAny (model X.prog X.w) X.A (callWith pos (.ref g) [.ref a] (backTo pos (starEach args X.env)) (backToKw pos (keywordEach [] X.env))) Q X.xe s1)
  (ht:eval (.Call (.Attribute e m apos) args [] pos) X.env=(do
   let ov<-eval e X.env
   standAt apos.atName
   let (f,first)<-holding [ov] (getMethod ov m pl)
   callWith pos f first (backTo pos (starEach args X.env)) (backToKw pos (keywordEach [] X.env)))) :
  wpAny (model X.prog X.w) X.A (eval (.Call (.Attribute e m apos) args [] pos) X.env) Q X.xe s:=by
 refine methodCall_KW (pl:=pl) (thn (he Ga s σ H _ I h) λu s1 ⟨x,H1,I1,rx,a,C,dx,fs,g,ex,ea,c,k,l,q⟩=>?_) ht
 subst ex
 obtain rfl:u=Value.ref a:=rx
 exact zel I1 ea c k l (q s1 I1)
end
section
variable {X:Cx}{Ga:List (Addr×Obj)}{σ:St}{H:Hp}{s:Shared}{A:Around}{E:Value->Shared->Prop}{Q:Value->Shared->Prop}{c:Value}{b:Bool}
inductive zaX(K:PySem.W.Frag)(H:Hp):V->Value->Prop where
 | non:zaX K H .non (.type "NoneType")
 | bl (x:Bool):zaX K H (.bl x) (.type "bool")
 | int (i:Int):zaX K H (.int i) (.type "int")
 | str (x:Str):zaX K H (.str x) (.type "str")
 | flt (x:UInt64):zaX K H (.flt x) (.type "float")
 | lst {a:Addr}{xs:List V} (e:H a=some (.lst xs)):zaX K H (.ref a) (.type "list")
 | frz {a:Addr}{o:Obj}{xs:List V} (e:H a=some (.frz o (.lst xs))):zaX K H (.ref a) (.type "list")
 | tup {a:Addr}{xs:List V} (e:H a=some (.tup xs)):zaX K H (.ref a) (.type "tuple")
 | dK {a:Addr}{kvs:List (Key×V)} (e:H a=some (.dK kvs)):zaX K H (.ref a) (.type "dict")
 | dT {a:Addr}{kvs:List (List Key×V)} (e:H a=some (.dT kvs)):zaX K H (.ref a) (.type "dict")
 | ins {a C dx:Addr}{fs:List (Str×V)} (e:H a=some (.ins C dx fs)) (cl:Cls K C) (ha:PySem.W.findIn K (.ref C) "__class__"=some (some (.builtin "object.__class__")))
   (hn:PySem.W.specialIn K (.builtin "object.__class__") "__get__"=some (some (.builtin "getset_descriptor.__get__"))) (htk:PySem.W.takesIn K (.builtin "object.__class__")=some true)
   (hm:PySem.W.mroIn K C (.type "object")=some true):zaX K H (.ref a) (.ref C)
theorem zpi{x:V}{u t:Value}(I:Inv X Ga σ H s)(rx:zi x u)(ty:zaX X.K H x t)(e:PySem.W.kitOne X.K t c=some b)(h:∀tk,Q (.bool b) { s with toks:=tk }) :
  wpAny (model X.prog X.w) A (call (.builtin "isinstance") [u,c]) Q E s:=by
 cases ty with
 | non=>cases (show u=Value.none from rx);exact PySem.W.kia_one PySem.W.kitx_none I.kIn True.intro e (λz=>nomatch z) h
 | bl y=>cases (show u=Value.bool y from rx);exact PySem.W.kia_one PySem.W.kitx_bool I.kIn True.intro e (λz=>nomatch z) h
 | int i=>obtain ⟨t,q⟩:=(show ∃t,u=Value.int i t from rx);cases q;exact PySem.W.kia_one PySem.W.kitx_int I.kIn True.intro e (λz=>nomatch z) h
 | str y=>obtain ⟨t,q⟩:=(show ∃t,u=Value.str y t from rx);cases q;exact PySem.W.kia_one PySem.W.kitx_str I.kIn True.intro e (λz=>nomatch z) h
 | flt y=>obtain ⟨t,q⟩:=(show ∃t,u=float y t from rx);cases q;exact PySem.W.kia_one PySem.W.kitx_float I.kIn True.intro e (λz=>nomatch z) h
 | @lst a xs ea =>
  cases (show u=Value.ref a from rx)
  obtain ⟨_,_,n,_,h1⟩:=(show zX X.prog X.w H s.heap a (.lst xs) from I.hok a _ ea)
  exact PySem.W.kia_one PySem.W.kitx_list I.kIn ⟨_,h1,rfl⟩ e (λz=>nomatch z) h
 | @frz a ob xs ea =>
  cases (show u=Value.ref a from rx)
  obtain ⟨_,_,_,n,_,h1⟩:=(show zX X.prog X.w H s.heap a (.frz ob (.lst xs)) from I.hok a _ ea)
  exact PySem.W.kia_one PySem.W.kitx_list I.kIn ⟨_,h1,rfl⟩ e (λz=>nomatch z) h
 | @tup a xs ea =>
  cases (show u=Value.ref a from rx)
  obtain ⟨_,_,_,p⟩:=(show zX X.prog X.w H s.heap a (.tup xs) from I.hok a _ ea)
  obtain ⟨o,h1,h2,_⟩:=p
  exact PySem.W.kia_one PySem.W.kitx_tuple I.kIn ⟨o,h1,h2⟩ e (λz=>nomatch z) h
 | @dK a kvs ea =>
  cases (show u=Value.ref a from rx)
  obtain ⟨_,_,vs,_,p⟩:=(show zX X.prog X.w H s.heap a (.dK kvs) from I.hok a _ ea)
  obtain ⟨o,es,ep,h1,h2,_⟩:=p
  exact PySem.W.kia_one PySem.W.kitx_dict I.kIn ⟨o,h1,h2.1⟩ e (λz=>nomatch z) h
 | @dT a kvs ea =>
  cases (show u=Value.ref a from rx)
  obtain ⟨_,_,xs,_,o,es,ep,h1,h2,_⟩:=(show zX X.prog X.w H s.heap a (.dT kvs) from I.hok a _ ea)
  exact PySem.W.kia_one PySem.W.kitx_dict I.kIn ⟨o,h1,h2.1⟩ e (λz=>nomatch z) h
 | @ins a C dx fs ea cl ha hn htk hm =>
  cases (show u=Value.ref a from rx)
  obtain ⟨mA,O,_⟩:=zdU I.hok ea
  obtain ⟨od,J,_⟩:=O.look
  exact PySem.W.kia_one (PySem.W.kitx_own (cl.get _) cl.hd ha hn htk hm) I.kIn J e (λz=>nomatch z) h
end
structure zD(c:Bool)(k:Nat)(A:Around):Prop where
 hd:c=true->A.handled=none
 dp:A.depth+3*k+5<recursionLimit
 un:A.units+16*k+200<cLine
 gd:A.guards=some []
theorem zD.mono{c:Bool}{j k:Nat}{A:Around}(r:zD c k A)(h:j<=k):zD c j A:=⟨r.hd,by have:=r.dp;omega,by have:=r.un;omega,r.gd⟩
theorem zD.deeper{c:Bool}{k:Nat}{A:Around}(r:zD c (k+1) A)(env:Env):zD c k (A.deeper env) :=
 ⟨r.hd,by have:=r.dp;show A.depth+1+3*k+5<_;omega,by have:=r.un;show A.units+3+16*k+200<_;omega,by first|exact r.gd|simpa [Around.deeper,Around.under,Code.isGuard] using r.gd⟩
theorem zrO{A:Around}{C:Addr}{us:List Value}{kw:List (Str×Value)}:(A.under (.builtin "type.__call__" ⟨.ref C::us,kw⟩)).depth=A.depth+1:=by
 first|rfl|simp [Around.under,Code.weight,Code.isCreation,Code.isGuard,Code.isCaller,Code.frames,Code.isFrame,guardIds]
theorem zjU{A:Around}{C:Addr}{us:List Value}{kw:List (Str×Value)}:(A.under (.builtin "type.__call__" ⟨.ref C::us,kw⟩)).units=A.units+1:=by
 first|rfl|simp [Around.under,Code.cUnits,Code.frames,Code.isFrame]
theorem zD.make{c:Bool}{k:Nat}{A:Around}(r:zD c (k+1) A)(C:Addr)(us:List Value)(kw:List (Str×Value)):zD c k (A.under (.builtin "type.__call__" ⟨.ref C::us,kw⟩)) :=
 ⟨r.hd,by have:=r.dp;rw [zrO];omega,by have:=r.un;rw [zjU];omega,by first|exact r.gd|simpa [Around.under,Code.isGuard,guardIds] using r.gd⟩
theorem zD.depth{c:Bool}{k:Nat}{A:Around}(r:zD c k A):A.depth<recursionLimit:=by have:=r.dp;omega
theorem zD.units{c:Bool}{k:Nat}{A:Around}(r:zD c k A):A.units+64<cLine:=by have:=r.un;omega
def zbn:TA:=λ_ H Q=>Q [] H
def zeQ(ta:TE)(tr:TA):TA:=λσ H Q=>ta σ H λx H1=>tr σ H1 λxs H2=>Q (x::xs) H2
section
variable {X:Cx}{e:Expr}{es:List Expr}{te:TE}{t:TA}{pos:Pos}
theorem zdL:PA X [] zbn:=λ_ _ _ _ H Q I h=>Calls.spliced_nil ⟨[],H,I,.nil,h⟩
theorem zdT(ha:PE X e te)(hr:PA X es t)(hs:starEach (e::es) X.env=(false,eval e X.env)::starEach es X.env:=by rfl):PA X (e::es) (zeQ te t):=by
 intro pos Ga s σ H Q I h
 rw [hs]
 show wpAny _ _ (spliced ((false,eval e X.env)::backTo pos (starEach es X.env))) _ _ s
 refine Calls.spliced_cons (thn (ha Ga s σ H _ I h) λu s1 ⟨x,H1,I1,r1,q1⟩=>?_)
 exact thn (hr pos Ga s1 σ H1 _ I1 q1) λus s2 ⟨xs,H2,I2,r2,q2⟩=>⟨x::xs,H2,I2,.cons r1 r2,q2⟩
def zjW(t:TA):TE:=λσ H Q=>t σ H λxs H1=>xs.length<=sizeLine/\∀p,H1 p=none->Q (.ref p) (upd H1 p (.tup xs))
theorem zo0{x1}(h:PA X es t):PE X (.Tuple es x1 pos) (zjW t):=by
 intro Ga s σ H Q I hq
 refine wpAny_Tuple_spliced (thn (h pos Ga s σ H _ I hq) λus s1 ⟨xs,H1,I1,r,z,q⟩=>⟨by rw [<- r.length];exact z,?_⟩)
 have hf:H1 s1.heap.objs.size=none:=I1.hok.fresh (le_refl _)
 refine ⟨.ref s1.heap.objs.size,upd H1 s1.heap.objs.size (.tup xs),I1.laid (t':=s1.toks) (λb u e=>get?_push_of_some _ e) (le_refl _) ?_,rfl,q _ hf⟩
 exact ⟨z,us,r,⟨_,get?_push_size _ rfl,rfl,_,rfl⟩⟩
end
abbrev Sp:=List V->Hp->VK->XK->Prop
abbrev CXT:=List Env->Hp->Shared->XK->Value->Shared->Prop
structure zbT(P:Program)(w:World)(K:PySem.W.Frag)(mg:Str->Option Value)(base:Heap)(A:Around)(outer:List Env)(s:Shared)(H:Hp):Prop where
 frames:A.frames=some outer
 hdk:zdp A H
 mod:Mod K mg base
 bs:∀b o,base.get? b=some o->s.heap.get? b=some o/\H b=none
 bsz:base.objs.size<=s.heap.objs.size
 funs:s.heap.FunFrames base outer
 frf:∀b∈frs outer,H b=none
 hok:HOk P w H s.heap
 bare:AllBare s.gens
def CE(outer:List Env)(P:Program)(w:World)(H:Hp)(s:Shared)(Q:VK)(u:Value)(s':Shared):Prop :=
 ∃v H',s'.os=s.os/\AllBare s'.gens/\Un (frs outer) [] H H' s.heap s'.heap/\HOk P w H' s'.heap/\zi v u/\Q v H'
def CR(CX:CXT)(outer:List Env)(P:Program)(w:World)(H:Hp)(s:Shared)(Q:VK)(E:XK)(r:Result)(s':Shared):Prop :=
 match r with
 | .ok (.ret u)=>CE outer P w H s Q u s'
 | .ok _=>False
 | .error e=>CX outer H s E e s'
structure zt(P:Program)(w:World)(K:PySem.W.Frag)(mg:Str->Option Value)(base:Heap)(CX:CXT)(c:Bool)(k:Nat)(f:Addr)(fd:FuncData)(ps:List Str)(sp:Sp):Prop where
 len:∀vs H Q E,sp vs H Q E->vs.length=ps.length
 run:∀(A:Around)(outer:List Env)(s:Shared)(H:Hp)(args:Args)(us:List Value)(vs:List V)(Q:VK)(E:XK),zD c k A->zbT P w K mg base A outer s H->BindsTo s fd args (ps.zip us)->zk vs us->sp vs H Q E ->
  codeAny (model P w) A (.call (.ref f) args) (CR CX outer P w H s Q E) s
theorem zt.imp{P:Program}{w:World}{K:PySem.W.Frag}{mg:Str->Option Value}{base:Heap}{CX:CXT}{c:Bool}{k:Nat}{f:Addr}{fd:FuncData}{ps:List Str}{sp sp':Sp}(F:zt P w K mg base CX c k f fd ps sp)
  (h:∀vs H Q E,sp' vs H Q E->sp vs H Q E):zt P w K mg base CX c k f fd ps sp' :=
 ⟨λvs H Q E q=>F.len vs H Q E (h _ _ _ _ q),λA outer s H args us vs Q E hr he hb hv hs=>F.run A outer s H args us vs Q E hr he hb hv (h _ _ _ _ hs)⟩
theorem zbT.make{P:Program}{w:World}{K:PySem.W.Frag}{mg:Str->Option Value}{base:Heap}{A:Around}{outer:List Env}{s:Shared}{H:Hp}(e:zbT P w K mg base A outer s H)(C:Addr)(us:List Value)(kw:List (Str×Value)) :
  zbT P w K mg base (A.under (.builtin "type.__call__" ⟨.ref C::us,kw⟩)) outer s H:=⟨by first|exact e.frames|(simpa [Around.under,Code.envs,Code.isFrame,pushEnvs] using e.frames),e.hdk,e.mod,e.bs,e.bsz,e.funs,e.frf,e.hok,e.bare⟩
section
variable {X:Cx}{Ga:List (Addr×Obj)}{σ:St}{H:Hp}{s s':Shared}
theorem Inv.env0(I:Inv X Ga σ H s):zbT X.prog X.w X.K X.mg X.base X.A X.stack s H :=
 ⟨I.ok.frames,I.hdk,I.ok.mod,I.bs,le_trans I.ok.bsz I.sz,I.stack,I.stkFree,I.hok,I.bare⟩
theorem Inv.after{Q:VK}{u:Value}(I:Inv X Ga σ H s)(h:CE X.stack X.prog X.w H s Q u s'):EP X Ga σ Q u s':=by
 obtain ⟨v,H',os,bare,un,hok,r,q⟩:=h
 obtain ⟨hh,g,d,t,os'⟩:=s'
 obtain rfl:os'=s.os:=os
 exact ⟨v,H',I.call (h':=hh) (g':=g) (d':=d) (t':=t) (ch:=[]) un hok bare (λb z=>absurd z (by simp)),r,q⟩
end
def zeW(sp:Sp)(dvs:List V)(E:XK)(t:TA):TE:=λσ H Q=>t σ H λvs H1=>sp (vs++dvs) H1 Q E
def zbE(C:Addr)(m:Str)(sp:Sp)(dvs:List V)(E:XK)(ta:TE)(t:TA):TE:=λσ H Q=>ta σ H λx H1=>∃a dx fs,x = .ref a/\H1 a=some (.ins C dx fs)/\fs.lookup m=none /\
 t σ H1 λvs H2=>sp (x::(vs++dvs)) H2 Q E
def zqp(C:Addr)(sp:Sp)(dvs:List V)(E:XK)(t:TA):TE:=λσ H Q=>t σ H λvs H1=>∀x dx,H1 x=none->H1 dx=none->dx≠x ->
 sp (.ref x::(vs++dvs)) (upd (upd H1 dx (.own x)) x (.ins C dx [])) (λv H2=>v = .non/\Q (.ref x) H2) E
def zaJ(K:PySem.W.Frag)(fd:FuncData)(ps:List Str)(ds:List Value):Prop :=
 ∀(s:Shared)(us:List Value),K.In s.heap->(us++ds).length=ps.length->BindsTo s fd ⟨us,[]⟩ (ps.zip (us++ds))
theorem zaJ.all{K:PySem.W.Frag}{fd:FuncData}{ps:List Str}(h:∀us:List Value,us.length=ps.length->bindArgs fd ⟨us,[]⟩=pure (ps.zip us)):zaJ K fd ps []:=λs us _ hl=>by
 rw [append_nil] at hl ⊢
 exact .of_eq (h us hl)
def zbL(CX:CXT)(X:Cx)(E:XK):Prop:=∀(Ga:List (Addr×Obj))(σ:St)(H:Hp)(s:Shared)(e:Value)(s':Shared),Inv X Ga σ H s->CX X.stack H s E e s'->X.xe e s'
section
variable {X:Cx}{CX:CXT}{cm:Bool}{k:Nat}{f C:Addr}{fd:FuncData}{ps:List Str}{sp:Sp}{dvs:List V}{ds:List Value}{E:XK}{x m:Str}{p pos apos:Pos}{e o:Expr}{es:List Expr}{ta:TE}{t:TA}
theorem zfZ{Ga:List (Addr×Obj)}{σ:St}{H:Hp}{s:Shared}{Q:VK}{us:List Value}{vs:List V}(F:zt X.prog X.w X.K X.mg X.base CX cm k f fd ps sp)(hr:zD cm k X.A)(hb:zaJ X.K fd ps ds)(hd:zk dvs ds)(hx:zbL CX X E)
  (I:Inv X Ga σ H s) (r:zk vs us) (h:sp (vs++dvs) H Q E):wpAny (model X.prog X.w) X.A (call (.ref f) us) (EP X Ga σ Q) X.xe s:=by
 have r2:zk (vs++dvs) (us++ds):=r.append hd
 have hl:(us++ds).length=ps.length:=by rw [<- r2.length];exact F.len _ _ _ _ h
 refine wpAny_call (codeAny_mono (F.run X.A X.stack s H ⟨us,[]⟩ (us++ds) (vs++dvs) Q E hr I.env0 (hb s us I.kIn hl) r2 h) λr s' hq=>?_)
 cases r with
 | error e=>exact hx Ga σ H s e s' I hq
 | ok fl =>
  cases fl with
  | ret u=>exact I.after hq
  | next=>exact False.elim hq
  | brk=>exact False.elim hq
  | cont=>exact False.elim hq
theorem zsQ(F:zt X.prog X.w X.K X.mg X.base CX cm k f fd ps sp)(hr:zD cm k X.A)(hg:Gl X x)(hm:X.mg x=some (.ref f))(hk:keepIn X.K (.ref f)=true)(hb:zaJ X.K fd ps ds)(hd:zk dvs ds)(hx:zbL CX X E)
  (ha:PA X (e::es) t) (hdb:(x==("__debug__":Str))=false:=by decide) (he:starEach (e::es) X.env=(false,eval e X.env)::starEach es X.env:=by rfl) (hpl:(backTo pos (starEach es X.env)).any (·.1)=false:=by rfl) :
  PE X (.Call (.Name x p) (e::es) [] pos) (zeW sp dvs E t):=by
 intro Ga s σ H Q I h
 refine wpAny_Call_Name_kw (zdn I hg hm ?_ hdb)
 refine callWith_K (h₀:=X.base) I.ok.mod.kin hk (thn (ha pos Ga s σ H _ I h) λus s1 ⟨vs,H1,I1,r,q⟩=>⟨I1.kIn,?_⟩) he hpl
 exact zfZ F hr hb hd hx I1 r q
theorem zmi{pl:Sem Bool}(he:PE X o ta)(c:Cls X.K C)(hm:zbY X.K C m f)(F:zt X.prog X.w X.K X.mg X.base CX cm k f fd ps sp)(hr:zD cm k X.A)(hb:zaJ X.K fd ps ds)(hd:zk dvs ds)(hx:zbL CX X E)(ha:PA X (e::es) t)
  (hst:starEach (e::es) X.env=(false,eval e X.env)::starEach es X.env:=by rfl) (hpl:(backTo pos (starEach es X.env)).any (·.1)=false:=by rfl)
  (ht:eval (.Call (.Attribute o m apos) (e::es) [] pos) X.env=(do
   let ov<-eval o X.env
   standAt apos.atName
   let (f,first)<-holding [ov] (getMethod ov m pl)
   callWith pos f first (backTo pos (starEach (e::es) X.env)) (backToKw pos (keywordEach [] X.env))):=by rfl) :
  PE X (.Call (.Attribute o m apos) (e::es) [] pos) (zbE C m sp dvs E ta t):=by
 intro Ga s σ H Q I h
 refine methodCall_KW (pl:=pl) (thn (he Ga s σ H _ I h) λu s1 ⟨x,H1,I1,rx,a,dx,fs,ex,ea,l,q⟩=>?_) ht
 subst ex
 obtain rfl:u=Value.ref a:=rx
 refine zel I1 ea c hm l ?_
 refine callWith_K (first:=[.ref a]) (h₀:=X.base) I.ok.mod.kin hm.kp (thn (ha pos Ga s1 σ H1 _ I1 q) λus s2 ⟨vs,H2,I2,r,q2⟩=>⟨I2.kIn,?_⟩) hst hpl
 exact zfZ (us:=.ref a::us) (vs:=.ref a::vs) F hr hb hd hx I2 (.cons rfl r) q2
theorem zpr{pl:Sem Bool}(he:PE X o ta)(c:Cls X.K C)(hm:zbY X.K C m f)(F:zt X.prog X.w X.K X.mg X.base CX cm k f fd ps sp)(hr:zD cm k X.A)(hb:zaJ X.K fd ps ds)(hd:zk dvs ds)(hx:zbL CX X E)
  (ht:eval (.Call (.Attribute o m apos) [] [] pos) X.env=(do
   let ov<-eval o X.env
   standAt apos.atName
   let (f,first)<-holding [ov] (getMethod ov m pl)
   callWith pos f first (backTo pos (starEach [] X.env)) (backToKw pos (keywordEach [] X.env))):=by rfl) :
  PE X (.Call (.Attribute o m apos) [] [] pos) (zbE C m sp dvs E ta zbn):=by
 intro Ga s σ H Q I h
 refine methodCall_KW (pl:=pl) (thn (he Ga s σ H _ I h) λu s1 ⟨x,H1,I1,rx,a,dx,fs,ex,ea,l,q⟩=>?_) ht
 subst ex
 obtain rfl:u=Value.ref a:=rx
 refine zel I1 ea c hm l ?_
 exact PySem.W.callWith_K0 (first:=[.ref a]) I1.kIn hm.kp (zfZ (us:=[.ref a]) (vs:=[.ref a]) F hr hb hd hx I1 (.cons rfl .nil) q)
structure Mk(K:PySem.W.Frag)(C f:Addr):Prop where
 makes:makesIn K C=true
 init:PySem.W.findIn K (.ref C) "__init__"=some (some (.ref f))
 fn:isFn K (.ref f)=true
 kp:keepIn K (.ref C)=true
theorem zsP{Ga:List (Addr×Obj)}{σ:St}{H:Hp}{s:Shared}{Q:VK}{us:List Value}{vs:List V}(M:Mk X.K C f)(F:zt X.prog X.w X.K X.mg X.base CX cm k f fd ps sp)(hr:zD cm (k+1) X.A)(hb:zaJ X.K fd ps ds)(hd:zk dvs ds)
  (hx:zbL CX X E) (I:Inv X Ga σ H s) (r:zk vs us)
  (h:∀x dx,H x=none->H dx=none->dx≠x->sp (.ref x::(vs++dvs)) (upd (upd H dx (.own x)) x (.ins C dx [])) (λv H2=>v = .non/\Q (.ref x) H2) E) :
  wpAny (model X.prog X.w) X.A (call (.ref C) us) (EP X Ga σ Q) X.xe s:=by
 have hq:=h (s.heap.objs.size+1) s.heap.objs.size (I.hok.fresh (le_succ _)) (I.hok.fresh (le_refl _)) (ne_of_lt (lt_succ_self _))
 have I2:=Inv.made (C:=C) I
 have r2:zk (V.ref (s.heap.objs.size+1)::(vs++dvs)) (Value.ref (s.heap.objs.size+1)::(us++ds)):=.cons rfl (r.append hd)
 have hl:(Value.ref (s.heap.objs.size+1)::us++ds).length=ps.length:=by
  have e:=r2.length
  rw [F.len _ _ _ _ hq] at e
  exact e.symm
 refine wpAny_call (zmm (f:=f) I.kIn M.makes M.init (beq_iff_eq.mp M.fn) (codeAny_mono (F.run _ X.stack _ _ ⟨Value.ref (s.heap.objs.size+1)::us,[]⟩ (Value.ref (s.heap.objs.size+1)::(us++ds)) _ _ E (hr.make C us [])
  (I2.env0.make C us []) (hb _ (Value.ref (s.heap.objs.size+1)::us) I2.kIn hl) r2 hq) λr s' hq'=>?_))
 cases r with
 | error e=>exact hx Ga σ _ _ e s' I2 hq'
 | ok fl =>
  cases fl with
  | ret u =>
   obtain ⟨v,H',I3,rv,ev,q3⟩:=I2.after hq'
   subst ev
   exact ⟨rv,⟨V.ref (s.heap.objs.size+1),H',I3,rfl,q3⟩⟩
  | next=>exact False.elim hq'
  | brk=>exact False.elim hq'
  | cont=>exact False.elim hq'
theorem zpa(M:Mk X.K C f)(F:zt X.prog X.w X.K X.mg X.base CX cm k f fd ps sp)(hr:zD cm (k+1) X.A)(hg:Gl X x)(hm:X.mg x=some (.ref C))(hb:zaJ X.K fd ps ds)(hd:zk dvs ds)(hx:zbL CX X E)
  (hdb:(x==("__debug__":Str))=false:=by decide):PE X (.Call (.Name x p) [] [] pos) (zqp C sp dvs E zbn):=by
 intro Ga s σ H Q I h
 refine wpAny_Call_Name_kw (zdn I hg hm ?_ hdb)
 exact PySem.W.callWith_K0 I.kIn M.kp (zsP (us:=[]) M F hr hb hd hx I .nil h)
end
section
variable {X:Cx}{CX:CXT}{cm:Bool}{k:Nat}{f C:Addr}{fd:FuncData}{ps ks:List Str}{sp:Sp}{E:XK}{x m:Str}{p pos apos kpos:Pos}{e o:Expr}{es:List Expr}{kws:List Keyword}{te ta:TE}{t tk:TA}{nm:Option Str}
variable {g:List Value->List Value->List Value}{gV:List V->List V->List V}
end
structure zG(N P:List Str)(sc:Scope):Prop where
 kind:sc.kind = .function
 co:sc.isCoroutine=false
 gen:sc.isGenerator=false
 nd:N.Nodup
 pre:N.take P.length=P
 par:∀x∈P,sc.names.lookup x=some .local\/sc.names.lookup x=some .cell
 nofree:∀y∈sc.names,y.2≠.free
theorem zg5{kindOf:Str->Option NameKind}{x:Str}:∀{binds:List (Str×Value)}{m:Str->Option Value},(∀v,(x,v)∉binds)->bindL kindOf binds m x=m x
 | [],_,_=>rfl
 | (n,v)::r,m,h=>by
  unfold bindL
  rw [zg5 λw hw=>h w (mem_cons_of_mem _ hw)]
  split
  ·have:x≠n:=by rintro rfl;exact h v mem_cons_self
   simp [this]
  ·rfl
theorem zii{kindOf:Str->Option NameKind}{x:Str}:∀{binds:List (Str×Value)}{m:Str->Option Value},(∀v,(x,v)∉binds)->bindC kindOf binds m x=m x
 | [],_,_=>rfl
 | (n,v)::r,m,h=>by
  unfold bindC
  rw [zii λw hw=>h w (mem_cons_of_mem _ hw)]
  split
  ·rfl
  ·have:x≠n:=by rintro rfl;exact h v mem_cons_self
   simp [this]
theorem zg6{kindOf:Str->Option NameKind}{x:Str}{v:Value}:∀{P:List Str}{vs:List Value}{i:Nat}{m:Str->Option Value},P.Nodup->P[i]?=some x->vs[i]?=some v->kindOf x=some .local ->
  bindL kindOf (P.zip vs) m x=some v
 | [],_,_,_,_,h,_,_=>by simp at h
 | _::_,[],_,_,_,_,h,_=>by simp at h
 | p::P,w::vs,0,m,nd,h1,h2,hk=>by
  simp at h1 h2;subst h1;subst h2
  show bindL kindOf ((p,w)::P.zip vs) m p=_
  unfold bindL
  rw [zg5 λv hv=>(nodup_cons.mp nd).1 (List.of_mem_zip hv).1,if_pos hk]
  simp
 | p::P,w::vs,i+1,m,nd,h1,h2,hk=>by
  show bindL kindOf ((p,w)::P.zip vs) m x=_
  unfold bindL
  exact zg6 (i:=i) (nodup_cons.mp nd).2 (by simpa using h1) (by simpa using h2) hk
theorem zg9{kindOf:Str->Option NameKind}{x:Str}{v:Value}:∀{P:List Str}{vs:List Value}{i:Nat}{m:Str->Option Value},P.Nodup->P[i]?=some x->vs[i]?=some v->kindOf x≠some .local ->
  bindC kindOf (P.zip vs) m x=some v
 | [],_,_,_,_,h,_,_=>by simp at h
 | _::_,[],_,_,_,_,h,_=>by simp at h
 | p::P,w::vs,0,m,nd,h1,h2,hk=>by
  simp at h1 h2;subst h1;subst h2
  show bindC kindOf ((p,w)::P.zip vs) m p=_
  unfold bindC
  rw [zii λv hv=>(nodup_cons.mp nd).1 (List.of_mem_zip hv).1,if_neg hk]
  simp
 | p::P,w::vs,i+1,m,nd,h1,h2,hk=>by
  show bindC kindOf ((p,w)::P.zip vs) m x=_
  unfold bindC
  exact zg9 (i:=i) (nodup_cons.mp nd).2 (by simpa using h1) (by simpa using h2) hk
def start(N:List Str)(vs:List V):St:=vs.map some++replicate (N.length-vs.length) none
def za8(CX:CXT)(cm:Bool)(P:Program)(w:World)(K:PySem.W.Frag)(mg:Str->Option Value)(base:Heap)(N:List Str)(qual:Str)(scope:Scope)(f:Addr)(cd:Value)(A:Around)(outer:List Env)(s:Shared)(H:Hp)(E:XK):Cx where
 prog:=P
 w:=w
 K:=K
 mg:=mg
 base:=base
 A:=A.deeper (envOfC qual scope s.heap.objs.size f cd)
 N:=N
 s₀:=s
 H₀:=H
 env:=envOfC qual scope s.heap.objs.size f cd
 outer:=outer
 stack:=envOfC qual scope s.heap.objs.size f cd::outer
 ex:=[]
 calm:=cm
 fn:=λ_=>true
 pn:=[]
 xe:=λe s'=>wpAny (model P w) (A.deeper (envOfC qual scope s.heap.objs.size f cd)) (leaving (envOfC qual scope s.heap.objs.size f cd) e) (λ_ s''=>CX outer H s E e s'') (λe' s''=>CX outer H s E e' s'') s'
theorem ziK{sc:Scope}{n:Nat}{x:Str}(h:sc.names.lookup x=some .cell):∃c,(cellsFrom n sc.names []).lookup x=some c:=by
 have q:=PySem.W.cellsFrom_some sc.names n [] (.inl h)
 exact isSome_iff_exists.mp q
theorem zkO{CX:CXT}{cm:Bool}{P:Program}{w:World}{K:PySem.W.Frag}{mg:Str->Option Value}{base:Heap}{N ps:List Str}{qual:Str}{scope:Scope}{f:Addr}{cd:Value}{A:Around}{outer:List Env}{s s1:Shared}{H:Hp}{E:XK}{us:List Value}{vs:List V}
  (S:zG N ps scope) (hd:cm=true->A.handled=none) (e0:zbT P w K mg base A outer s H) (hl:vs.length=ps.length) (r:zk vs us)
  (x:InCallC s s.heap.objs.size (bindL (envOfC qual scope s.heap.objs.size f cd).kindOf (ps.zip us) λ_=>none) (cellsFrom (s.heap.objs.size+1) scope.names []) (bindC (envOfC qual scope s.heap.objs.size f cd).kindOf (ps.zip us) λ_=>none) s1) :
  Inv (za8 CX cm P w K mg base N qual scope f cd A outer s H E) [] (start N vs) H s1:=by
 have hpl:ps.length<=N.length:=by have:=congrArg length S.pre;rw [length_take] at this;omega
 obtain ⟨h1,tk,rfl,hk⟩:=x.done
 have noA:∀b:Addr,b∉(za8 CX cm P w K mg base N qual scope f cd A outer s H E).ex:=λb z=>absurd (show b∈([]:List Addr) from z) (by simp)
 refine ⟨⟨e0.mod,S.kind,rfl,rfl,le_refl _,λy z c h1 h2=>?_,λy hy=>?_,λy c _ h=>?_,hd,Around.frames_deeper e0.frames,.inr ⟨rfl,rfl⟩,λb z=>absurd z (noA b),e0.bs,e0.bsz,λb _ _=>noA b,λb z=>absurd z (noA b),e0.funs,e0.frf⟩,
  rfl,e0.bare,Un.kept hk,⟨_,x.toInCall.ns,λi y v h1 h2 h3=>?_⟩,λy c h=>⟨_,x.cell y c h⟩,e0.hok.fresh (le_refl _),λy c h=>?_,λp hp=>absurd (show p∈([]:List (Addr×Obj)) from hp) (by simp),e0.hok.kept hk,?_,e0.hdk⟩
 ·exact name_of_addr x.apart (PySem.mem_of_lookup h1) (PySem.mem_of_lookup h2)
 ·have hy:scope.names.lookup y=some .cell\/scope.names.lookup y=some .free:=hy
  rcases hy with hy|hy
  ·exact ziK hy
  ·exact absurd rfl (S.nofree _ (PySem.mem_of_lookup hy))
 ·exact le_of_lt (x.above y c (PySem.mem_of_lookup h))
 ·have hi:i<vs.length:=by
   unfold start at h2
   by_cases hi:i<vs.length
   ·exact hi
   ·rw [List.getElem?_append_right (by simpa using hi)] at h2
    rw [List.getElem?_replicate] at h2
    split at h2<;>cases h2
  have ha:vs[i]?=some v:=by
   unfold start at h2
   rw [List.getElem?_append_left (by simpa using hi),getElem?_map] at h2
   cases e:vs[i]? with
   | none=>rw [e] at h2;cases h2
   | some a=>rw [e] at h2;cases h2;rfl
  obtain ⟨u,hu,rv⟩:=r.get ha
  have hp:ps[i]?=some y:=by
   rw [<- S.pre,List.getElem?_take_of_lt (by omega)];exact h1
  have ndP:ps.Nodup:=by rw [<- S.pre];exact S.nd.sublist (List.take_sublist _ _)
  refine ⟨u,rv,?_⟩
  rcases S.par y (mem_of_getElem? hp) with k|k
  ·exact .inl ⟨k,zg6 ndP hp hu k⟩
  ·obtain ⟨c,e⟩:=ziK (n:=s.heap.objs.size+1) k
   refine .inr ⟨.inl k,c,e,?_⟩
   have q:=x.cell y c e
   rw [zg9 ndP hp hu (by show scope.names.lookup y≠_;rw [k];decide)] at q
   exact q
 ·exact e0.hok.fresh (le_of_lt (x.above y c (PySem.mem_of_lookup h)))
 ·unfold start
  show _=N.length
  rw [length_append,length_map,List.length_replicate]
  omega
theorem zht{CX:CXT}{cm:Bool}{P:Program}{w:World}{K:PySem.W.Frag}{mg:Str->Option Value}{base:Heap}{k:Nat}{f:Addr}{name qual:Str}{params:Arguments}{body:List Stmt}{scope:Scope}{dV kV doc pm cdv ct oc:Value}{an od:Option Addr}
  {osl:Array (Option Value)}{N ps:List Str}{sp:Sp} (lk:K.lookup f=some ⟨oc,od,.func (fnOf name qual params body scope dV kV doc pm an cdv ct),osl⟩) (hcd:codeIn K cdv qual=true) (S:zG N ps scope)
  (len:∀vs H Q E,sp vs H Q E->vs.length=ps.length)
  (hbody:∀(A:Around)(outer:List Env)(s:Shared)(H:Hp)(vs:List V)(Q:VK)(E:XK),zD cm k (A.deeper (envOfC qual scope s.heap.objs.size f cdv))->sp vs H Q E ->
   ∃t,PSs (za8 CX cm P w K mg base N qual scope f cdv A outer s H E) body t/\t { nx:=λ_ H'=>Q .non H',rt:=Q } (start N vs) H) :
  zt P w K mg base CX cm (k+1) f (fnOf name qual params body scope dV kV doc pm an cdv ct) ps sp:=by
 refine ⟨len,λA outer s H args us vs Q E hr e0 hb r hsp=>?_⟩
 have hl:=len _ _ _ _ hsp
 have KX:K.In s.heap:=e0.mod.kin.keeps λb o e=>(e0.bs b o e).1
 have lim:s.heap.NoLimit:=e0.mod.nolimit.keeps λb o e=>(e0.bs b o e).1
 have hkind:∀y∈ps.zip us,scope.names.lookup y.1=some .local\/(scope.names.lookup y.1=some .cell/\((cellsFrom (s.heap.objs.size+1) scope.names []).lookup y.1).isSome=true):=λ⟨n,v⟩ hy=>by
  rcases S.par n (List.of_mem_zip hy).1 with q|q
  ·exact .inl q
  ·exact .inr ⟨q,PySem.W.cellsFrom_some _ _ _ (.inl q)⟩
 refine codeAny_call_function hr.depth (KX _ _ lk) rfl S.co S.gen rfl (PySem.W.codeRec_of KX hcd) (hb _ _ _ _ ?_)
 refine wpAny_newFunctionEnv_cells S.kind hkind λenv he s1 x=>?_
 subst he
 refine ⟨lim.keeps x.toInCall.keep,codeAny_func ?_⟩
 obtain ⟨t,ht,hq⟩:=hbody A outer s H vs Q E (hr.deeper _) hsp
 have I:Inv (za8 CX cm P w K mg base N qual scope f cdv A outer s H E) [] (start N vs) H s1:=zkO S hr.hd e0 hl r x
 refine wpAny_mono (ht [] s1 (start N vs) H _ I hq) (λfl s' hs=>?_) λe s' hs=>hs
 have fin:∀{σ':St}{H':Hp}{v:V}{u:Value},Inv (za8 CX cm P w K mg base N qual scope f cdv A outer s H E) [] σ' H' s'->zi v u->Q v H'->CE outer P w H s Q u s' :=
  λ{σ' H' v u} J rv q=>⟨v,H',J.os,J.bare,J.base,J.hok,rv,q⟩
 cases fl with
 | ret u =>
  obtain ⟨v,σ',H',J,rv,q⟩:=hs
  exact fin J rv q
 | next =>
  obtain ⟨σ',H',J,q⟩:=hs
  exact fin (v:=V.non) (u:=Value.none) J rfl q
 | brk =>
  obtain ⟨_,_,_,q⟩:=hs
  exact False.elim q
 | cont =>
  obtain ⟨_,_,_,q⟩:=hs
  exact False.elim q
section
variable {X:Cx}{x:Str}{p pos:Pos}{e:Expr}{es:List Expr}{t:TA}{id T:String}{r:List V->Hp->VK->Prop}
def tCB(r:List V->Hp->VK->Prop)(t:TA):TE:=λσ H Q=>t σ H λvs H1=>r vs H1 Q
theorem zi4(hc:zR X (.builtin id) r)(hg:Gl X x)(hm:X.mg x=none)(hv:bootBuiltins x=some (.builtin id))(ha:PA X (e::es) t)(hn:x≠"__name__":=by decide)(hdb:(x==("__debug__":Str))=false:=by decide)
  (he:starEach (e::es) X.env=(false,eval e X.env)::starEach es X.env:=by rfl) (hpl:(backTo pos (starEach es X.env)).any (·.1)=false:=by rfl):PE X (.Call (.Name x p) (e::es) [] pos) (tCB r t):=by
 intro Ga s σ H Q I h
 refine wpAny_Call_Name_kw (zeJ I hg hm hv ?_ hn hdb)
 exact PyProof.Rows.callWith_builtin1 (thn (ha pos Ga s σ H _ I h) λus s1 ⟨vs,H1,I1,r1,q1⟩=>hc Ga s1 σ H1 vs us Q I1 r1 q1) he hpl
theorem zjZ(hc:zR X (.type T) r)(hg:Gl X x)(hm:X.mg x=none)(hv:bootBuiltins x=some (.type T))(ha:PA X (e::es) t)(hn:x≠"__name__":=by decide)(hdb:(x==("__debug__":Str))=false:=by decide)
  (he:starEach (e::es) X.env=(false,eval e X.env)::starEach es X.env:=by rfl) (hpl:(backTo pos (starEach es X.env)).any (·.1)=false:=by rfl):PE X (.Call (.Name x p) (e::es) [] pos) (tCB r t):=by
 intro Ga s σ H Q I h
 refine wpAny_Call_Name_kw (zeJ I hg hm hv ?_ hn hdb)
 exact PyProof.Rows.callWith_type1 (thn (ha pos Ga s σ H _ I h) λus s1 ⟨vs,H1,I1,r1,q1⟩=>hc Ga s1 σ H1 vs us Q I1 r1 q1) he hpl
end
end L2
namespace HT
open PySem PyProof.Rows
section
open PySem.SeqAt
open PySem.AutoSeq1 (wpAny_loadPart')
open PySem.MeetsSeq PySem.MeetsSeq2 PySem.MeetsSeq3
end
section
variable {prog:Program}{w:World}{A:Around}{E:Value->Shared->Prop}{s:Shared}
theorem cat_tup{t b:Addr}{vs ws:List Value}{Q:Value->Shared->Prop}(ht:IsTup s.heap t vs.toArray)(hb:IsTup s.heap b ws.toArray)(hv:vs≠[])
  (h1:ws=[]->Q (.ref t) s) (h2:ws≠[]->Q (.ref s.heap.objs.size) { s with heap:=s.heap.push { cls:=.type "tuple",data:=.seq (vs++ws).toArray } })
  (hsz:vs.length+ws.length<=sizeLine):wpAny (model prog w) A (binaryOp .Add (.ref t) (.ref b)) Q E s:=by
 obtain ⟨⟨cls,dd,data,sl⟩,ho,hc,n,hd⟩:=id ht
 obtain ⟨⟨cls2,dd2,data2,sl2⟩,ho2,hc2,n2,hd2⟩:=id hb
 simp only at hc hd hc2 hd2
 subst hc hd hc2 hd2
 have e:vs.toArray++ws.toArray=(vs++ws).toArray:=by simp
 by_cases hw:ws=[]
 ·exact concat_meets ⟨_,ho,rfl⟩ ⟨_,ho2,rfl⟩ noFill_tuple_add seq_tuple_add slot_tuple_add entry_tuple_add (args_tuple_add_2 _ _)
   (tuple_addW1 t b vs.toArray ws.toArray n n2 dd dd2 sl sl2 (by simpa using hv) (by simp [hw])) ⟨ho,ho2,h1 hw⟩
 ·refine concat_meets ⟨_,ho,rfl⟩ ⟨_,ho2,rfl⟩ noFill_tuple_add seq_tuple_add slot_tuple_add entry_tuple_add (args_tuple_add_2 _ _)
   (tuple_addW2 t b vs.toArray ws.toArray n n2 dd dd2 sl sl2 (by simpa using hv) (by simpa using hw) (by rw [size_toArray,size_toArray];exact hsz)) ⟨ho,ho2,?_⟩
  rw [e]
  exact h2 hw
def sIx(n d:Nat):Option Int->Nat
 | none=>d
 | some v=>if v<0 then (v+(n:Int)).toNat else min v.toNat n
theorem zk4(n d:Nat)(hd:d<=n)(o:Option Int):sIx n d o<=n:=by
 cases o with
 | none=>exact hd
 | some v =>
  show (if v<0 then (v+(n:Int)).toNat else min v.toNat n)<=n
  by_cases hv:v<0
  ·rw [if_pos hv];omega
  ·rw [if_neg hv];exact Nat.min_le_right _ _
theorem zhh(v:Int)(n d:Nat):(if v<0 then max (v+(n:Int)) 0 else min v (n:Int))=((sIx n d (some v):Nat):Int):=by
 show (if v<0 then max (v+(n:Int)) 0 else min v (n:Int))=(((if v<0 then (v+(n:Int)).toNat else min v.toNat n):Nat):Int)
 by_cases hv:v<0
 ·simp only [if_pos hv];omega
 ·simp only [if_neg hv];omega
theorem zpz(lo hi:Option Int)(n:Nat):Builtin.Slice.sliceAdjust lo hi 1 (n:Int)=(((sIx n 0 lo:Nat):Int),((sIx n n hi:Nat):Int)):=by
 have h1 : ¬ ((1:Int)<0):=by omega
 unfold Builtin.Slice.sliceAdjust
 simp only [h1,if_false]
 refine Prod.ext ?_ ?_
 ·cases lo with
  | none=>rfl
  | some v=>exact zhh v n 0
 ·cases hi with
  | none=>rfl
  | some v=>exact zhh v n n
theorem zj2(i j:Nat):Builtin.Slice.slicePlaces (i:Int) (j:Int) 1=j-i:=by
 unfold Builtin.Slice.slicePlaces
 have h1:(1:Int)>0:=by omega
 simp only [h1,if_true,Int.ediv_one]
 split<;>omega
theorem ziC{v:Value}{o:Option Int}{Q:Option Int->Shared->Prop}(p:IsPart v o)(h:Q o s):wpAny (model prog w) A (Builtin.Slice.slicePartIndex v) Q E s:=by
 cases p with
 | none=>exact slicePart_none h
 | int i t=>exact slicePart_int h
theorem zix{sl:Addr}{vl vu:Value}{lo hi:Option Int}{n:Nat}{Q:Int×Int×Nat->Shared->Prop}(hs:s.heap.IsSliceOf sl vl vu .none)(pl:IsPart vl lo)(pu:IsPart vu hi)
  (h:Q (((sIx n 0 lo:Nat):Int),1,sIx n n hi-sIx n 0 lo) s):wpAny (model prog w) A (Builtin.Slice.sliceApplied (.ref sl) (pure (n:Int))) Q E s:=by
 obtain ⟨os,hos,hcs,hds⟩:=id hs
 unfold Builtin.Slice.sliceApplied Builtin.Slice.sliceFields
 refine wpAny_bind (wpAny_bind (wpAny_field hos hds (x:=vl) rfl (wpAny_bind (wpAny_field hos hds (x:=vu) rfl (wpAny_bind (wpAny_field hos hds (x:=.none) rfl (wpAny_pure ?_)))))))
 refine wpAny_bind (slicePart_none ?_)
 show wpAny _ _ (if ((1:Int)==0)=true then _ else _) _ _ s
 rw [if_neg (by decide)]
 refine wpAny_bind (ziC pl (wpAny_bind (ziC pu (wpAny_bind (wpAny_pure ?_)))))
 show wpAny _ _ (match Builtin.Slice.sliceAdjust lo hi 1 (n:Int) with|(lo,hi)=>pure (lo,(1:Int),Builtin.Slice.slicePlaces lo hi 1)) _ _ s
 rw [zpz lo hi n]
 show wpAny _ _ (pure (((sIx n 0 lo:Nat):Int),(1:Int),Builtin.Slice.slicePlaces ((sIx n 0 lo:Nat):Int) ((sIx n n hi:Nat):Int) 1)) _ _ s
 rw [zj2]
 exact wpAny_pure h
theorem znM(xs:Array Value)(i k:Nat):((List.range k).filterMap λ(m:Nat)=>xs[((i:Int)+(m:Int)*1).toNat]?).toArray=((xs.toList.drop i).take k).toArray:=by
 have e:(λ(m:Nat)=>xs[((i:Int)+(m:Int)*1).toNat]?)=λm=>xs[i+m]?:=by
  funext m
  have:((i:Int)+(m:Int)*1).toNat=i+m:=by omega
  rw [this]
 rw [e]
 have:=pick_run xs i k
 rw [List.filterMap_map] at this
 have e2:((λx=>xs[x]?)∘λx=>i+x)=λm=>xs[i+m]?:=rfl
 rw [e2] at this
 rw [this]
theorem getItem_tuple_cut{t sl:Addr}{items:Array Value}{vl vu:Value}{lo hi:Option Int}{Q:Value->Shared->Prop}(ht:IsTup s.heap t items)(hs:s.heap.IsSliceOf sl vl vu .none)(pl:IsPart vl lo)(pu:IsPart vu hi)
  (hw : ¬ (sIx items.size 0 lo=0/\sIx items.size items.size hi=items.size))
  (h:Q (.ref s.heap.objs.size) { s with heap:=s.heap.push { cls:=.type "tuple",data:=.seq ((items.toList.drop (sIx items.size 0 lo)).take (sIx items.size items.size hi-sIx items.size 0 lo)).toArray } })
  (hsz:items.size<=sizeLine):wpAny (model prog w) A (getItem (.ref t) (.ref sl)) Q E s:=by
 have htake:sizeOk (.seq ((items.toList.drop (sIx items.size 0 lo)).take (sIx items.size items.size hi-sIx items.size 0 lo)).toArray):=by
  show ((items.toList.drop (sIx items.size 0 lo)).take (sIx items.size items.size hi-sIx items.size 0 lo)).toArray.size<=sizeLine
  rw [size_toArray,length_take,length_drop,length_toList]
  omega
 have hj:sIx items.size items.size hi<=items.size:=zk4 _ _ (le_refl _) hi
 obtain ⟨os,hos,hcs,hds⟩:=id hs
 have hTs:s.TypeIs (.ref sl) "slice":=⟨os,hos,hcs⟩
 unfold getItem
 try with_reducible refine wpAny_holding ?_
 first|refine wpAny_bind (wpAny_pure ?_)|skip
 refine wpAny_bind (wpAny_sequenceKey ht.typeIs (by decide) ?_)
 refine wpAny_bind (wpAny_callSpecial?_slot (name:=Str.ofString "__getitem__") ht.typeIs PyProof.Rows.slot_tuple_getitem
  (wpAny_call_entry PyProof.Rows.slot_tuple_getitem ht.typeIs entry_tuple_getitem ?_ (args_tuple_getitem _ _)))
 show wpAny _ _ (Builtin.Tuple.tupleItemsOf (.ref t)>>=_) _ _ s
 refine wpAny_bind (tupleItemsOf_ ht ?_)
 refine wpAny_bind (wpAny_typeOf hTs ?_)
 rw [if_pos (by decide)]
 refine wpAny_bind (zix hs pl pu ?_)
 have hno : ¬ ((((sIx items.size 0 lo:Nat):Int)==0&&(1:Int)==1&&(sIx items.size items.size hi-sIx items.size 0 lo)==items.size)=true):=by
  intro q
  rw [and_eq_true,and_eq_true] at q
  have q1:((sIx items.size 0 lo:Nat):Int)=0:=eq_of_beq q.1.1
  have q2:sIx items.size items.size hi-sIx items.size 0 lo=items.size:=eq_of_beq q.2
  exact hw ⟨by omega,by omega⟩
 show wpAny _ _ (if (((sIx items.size 0 lo:Nat):Int)==0&&(1:Int)==1&&(sIx items.size items.size hi-sIx items.size 0 lo)==items.size)=true then _ else _) _ _ s
 rw [if_neg hno,znM]
 first
  | exact wpAny_bind (m:=Builtin.Tuple.tupleExact _) (wpAny_newObj_type (wpAny_pure ⟨_,rfl,wpAny_pure h⟩) htake)
  | exact wpAny_bind (m:=Builtin.Tuple.tupleExact _) (wpAny_newObj_type (wpAny_bind (wpAny_pure (wpAny_pure ⟨_,rfl,wpAny_pure h⟩))) htake)
  | exact wpAny_bind (wpAny_bind (m:=Builtin.Tuple.tupleExact _) (wpAny_newObj_type (wpAny_pure (wpAny_pure ⟨_,rfl,wpAny_pure h⟩)) htake))
  | exact wpAny_bind (wpAny_bind (m:=Builtin.Tuple.tupleExact _) (wpAny_newObj_type (wpAny_pure ⟨_,rfl,wpAny_pure h⟩) htake))
end
end HT
namespace L2
open PySem PySem.Spec PyProof.Rows
abbrev TO:=St->Hp->(Option Int->Hp->Prop)->Prop
def PO(X:Cx)(e:Option Expr)(t:TO):Prop :=
 ∀(Ga:List (Addr×Obj))(s:Shared)(σ:St)(H:Hp)(Q:Option Int->Hp->Prop),Inv X Ga σ H s->t σ H Q ->
  wpAny (model X.prog X.w) X.A (evalPart e X.env) (λu s'=>∃o H',Inv X Ga σ H' s'/\IsPart u o/\Q o H') X.xe s
def zfI:TO:=λ_ H Q=>Q none H
def zfo(t:TE):TO:=λσ H Q=>t σ H λx H1=>∃i,x = .int i/\Q (some i) H1
section
variable {X:Cx}{e:Expr}{te:TE}{lo hi:Option Expr}{tl th:TO}{pos p2:Pos}
theorem zrT:PO X none zfI:=by
 intro Ga s σ H Q I h
 rw [evalPart_none]
 exact wpAny_pure ⟨none,H,I,.none,h⟩
theorem zrR(h:PE X e te):PO X (some e) (zfo te):=by
 intro Ga s σ H Q I hw
 rw [evalPart_some]
 refine thn (h Ga s σ H _ I hw) λu s1 ⟨x,H1,I1,r1,q1⟩=>?_
 obtain ⟨i,rfl,q⟩:=q1
 obtain ⟨t,rfl⟩:=r1
 exact ⟨some i,H1,I1,.int i t,q⟩
def SlR(X:Cx)(r:V->Option Int->Option Int->Hp->VK->Prop):Prop :=
 ∀(Ga:List (Addr×Obj))(s:Shared)(σ:St)(H:Hp)(x:V)(v vl vu:Value)(lo hi:Option Int)(sl:Addr)(Q:VK),Inv X Ga σ H s->zi x v->s.heap.IsSliceOf sl vl vu .none->IsPart vl lo->IsPart vu hi->r x lo hi H Q ->
  ∃T id,typeLookup (.type T) "__getitem__"=pure (some (.builtin id))/\s.TypeIs v T/\wpAny (model X.prog X.w) X.A (getItem v (.ref sl)) (EP X Ga σ Q) X.xe s
theorem SlR.or{r r':V->Option Int->Option Int->Hp->VK->Prop}(h:SlR X r)(h':SlR X r'):SlR X (λx lo hi H Q=>r x lo hi H Q\/r' x lo hi H Q):=by
 intro Ga s σ H x v vl vu lo hi sl Q I rx hs pl pu q
 rcases q with q|q
 ·exact h Ga s σ H x v vl vu lo hi sl Q I rx hs pl pu q
 ·exact h' Ga s σ H x v vl vu lo hi sl Q I rx hs pl pu q
def tSl(r:V->Option Int->Option Int->Hp->VK->Prop)(te:TE)(tl th:TO):TE:=λσ H Q=>te σ H λx H1=>tl σ H1 λl H2=>th σ H2 λu H3=>r x l u H3 Q
theorem zmx{r:V->Option Int->Option Int->Hp->VK->Prop}(hr:SlR X r)(he:PE X e te)(hl:PO X lo tl)(hu:PO X hi th):PE X (.Subscript e (.Slice lo hi none p2) pos) (tSl r te tl th):=by
 intro Ga s σ H Q I h
 refine Subscript_ (thn (he Ga s σ H _ I h) λv s1 ⟨x,H1,I1,r1,q1⟩=>?_)
 refine wpAny_Slice (thn (hl Ga s1 σ H1 _ I1 q1) λvl s2 ⟨l,H2,I2,pl,q2⟩=>thn (hu Ga s2 σ H2 _ I2 q2) λvu s3 ⟨u,H3,I3,pu,q3⟩=>?_)
 rw [evalPart_none]
 refine wpAny_pure ?_
 have I4:Inv X Ga σ H3 { s3 with heap:=s3.heap.push { cls:=.type "slice",data:=.fields #[vl,vu,.none] } }:=I3.kept (t':=s3.toks) λb ob q=>get?_push_of_some _ q
 obtain ⟨T,id,hT,ht,hg⟩:=hr Ga { s3 with heap:=s3.heap.push { cls:=.type "slice",data:=.fields #[vl,vu,.none] } } σ H3 x v vl vu l u s3.heap.objs.size Q I4 r1 (Heap.IsSliceOf.new ..) pl pu q3
 show wpAny (model X.prog X.w) X.A (subscriptTail e (.Slice lo hi none p2) v (.ref s3.heap.objs.size)) (EP X Ga σ Q) X.xe { s3 with heap:=s3.heap.push { cls:=.type "slice",data:=.fields #[vl,vu,.none] } }
 exact tail_any (ops:=[.ref s3.heap.objs.size,v]) ht hT hg (by with_unfolding_all rfl)
def zau(xs:List V)(lo hi:Option Int):List V:=(xs.drop (HT.sIx xs.length 0 lo)).take (HT.sIx xs.length xs.length hi-HT.sIx xs.length 0 lo)
theorem zg4(xs:List V)(lo hi:Option Int):(zau xs lo hi).length<=xs.length:=by
 unfold zau
 rw [length_take,length_drop]
 omega
def zpQ(K:PySem.W.Frag):V->Option Int->Option Int->Hp->VK->Prop:=λx lo hi H Q=>∃a xs,x = .ref a/\SqT K H a xs /\
 ¬ (HT.sIx xs.length 0 lo=0/\HT.sIx xs.length xs.length hi=xs.length)/\∀p,H p=none->Q (.ref p) (upd H p (.tup (zau xs lo hi)))
theorem zlD:SlR X (zpQ X.K):=by
 intro Ga s σ H x v vl vu lo hi sl Q I rx hs pl pu h
 obtain ⟨a,xs,rfl,hx,hw,q⟩:=h
 cases rx
 obtain ⟨its,r,ht,hz⟩:=I.tuple hx
 have hlen:its.toArray.size=xs.length:=by rw [size_toArray];exact r.length.symm
 refine ⟨"tuple",_,PyProof.Rows.slot_tuple_getitem.lookup,ht.typeIs,?_⟩
 refine HT.getItem_tuple_cut ht hs pl pu (by rw [hlen];exact hw) ?_ (by rw [hlen];exact hz)
 rw [hlen]
 refine ⟨.ref s.heap.objs.size,_,I.laid (t':=s.toks) (o:=.tup (zau xs lo hi)) (λb ob q=>get?_push_of_some _ q) (le_refl _) ?_,rfl,q _ (I.hok.fresh (le_refl _))⟩
 exact ⟨le_trans (zg4 xs lo hi) hz,_,(r.drop (HT.sIx xs.length 0 lo)).take (HT.sIx xs.length xs.length hi-HT.sIx xs.length 0 lo),IsTup.new _ _⟩
def znh(K:PySem.W.Frag):R2:=λx y H Q=>∃a b xs ys,x = .ref a/\y = .ref b/\SqT K H a xs/\SqT K H b ys/\xs≠[]/\xs.length+ys.length<=sizeLine /\
 (ys=[]->Q (.ref a) H)/\(ys≠[]->∀p,H p=none->Q (.ref p) (upd H p (.tup (xs++ys))))
theorem zk.nil_iff{xs:List V}{us:List Value}(r:zk xs us):us=[]↔xs=[]:=by
 cases r with
 | nil=>simp
 | cons _ _=>simp
theorem zss:OpR X (binaryOp .Add) (znh X.K):=by
 intro Ga s σ H x y v u Q I rx ry h
 obtain ⟨a,b,xs,ys,rfl,rfl,ha,hb,hx,hz,q1,q2⟩:=h
 cases rx
 cases ry
 obtain ⟨its,r1,p1,_⟩:=I.tuple ha
 obtain ⟨its2,r2,p2,_⟩:=I.tuple hb
 refine HT.cat_tup p1 p2 (λz=>hx (r1.nil_iff.mp z)) (λz=>⟨.ref a,H,I,rfl,q1 (r2.nil_iff.mp z)⟩) (λz=>?_) (by rw [<- r1.length,<- r2.length];exact hz)
 refine ⟨.ref s.heap.objs.size,_,I.laid (t':=s.toks) (o:=.tup (xs++ys)) (λb ob q=>get?_push_of_some _ q) (le_refl _) ?_,rfl,q2 (λw=>z (r2.nil_iff.mpr w)) _ (I.hok.fresh (le_refl _))⟩
 exact ⟨by rw [length_append];exact hz,_,r1.append r2,IsTup.new _ _⟩
end
def ixN(n:Nat)(i:Int):Option Nat:=if 0<=i then (if i<n then some i.toNat else none) else if -(n:Int)<=i then some (i+n).toNat else none
def atI{α:Type}(xs:List α)(i:Int):Option α:=(ixN xs.length i).bind λj=>xs[j]?
theorem zit{n:Nat}{i:Int}{j:Nat}(h:ixN n i=some j):seqIndex? i n=some j/\j<n/\-(n:Int)<=i/\i<n:=by
 unfold ixN at h
 by_cases h0:0<=i
 ·rw [if_pos h0] at h
  by_cases h1:i<n
  ·rw [if_pos h1] at h
   have e:i.toNat=j:=Option.some.inj h
   exact ⟨by rw [seqIndex_of h0 h1,e],by omega,by omega,h1⟩
  ·rw [if_neg h1] at h;cases h
 ·rw [if_neg h0] at h
  by_cases h1 : -(n:Int)<=i
  ·rw [if_pos h1] at h
   have e:(i+n).toNat=j:=Option.some.inj h
   exact ⟨by rw [seqIndex_neg (by omega) h1,e],by omega,h1,by omega⟩
  ·rw [if_neg h1] at h;cases h
theorem zfu{α:Type}{xs:List α}{i:Int}{v:α}(h:atI xs i=some v):∃j,seqIndex? i xs.length=some j/\xs[j]?=some v/\j<xs.length/\-(xs.length:Int)<=i/\i<xs.length:=by
 unfold atI at h
 cases e:ixN xs.length i with
 | none=>rw [e] at h;cases h
 | some j =>
  rw [e] at h
  obtain ⟨h1,h2,h3,h4⟩:=zit e
  exact ⟨j,h1,h,h2,h3,h4⟩
theorem zew{α:Type}{xs:List α}{j:Nat}{v:α}(h:xs[j]?=some v):atI xs (j:Int)=some v:=by
 have hj:j<xs.length:=(List.getElem?_eq_some_iff.mp h).1
 have e:ixN xs.length (j:Int)=some j:=by
  unfold ixN
  rw [if_pos (by omega),if_pos (by omega)];simp
 unfold atI;rw [e];exact h
def zi2(b:Expr):Prop:=∀o i,subscripted b false o i=operate [o,i] (getItem o i)
def IxR(X:Cx)(r:R2):Prop :=
 ∀(value slice:Expr)(Ga:List (Addr×Obj))(s:Shared)(σ:St)(H:Hp)(x y:V)(v u:Value)(Q:VK),Inv X Ga σ H s->zi x v->zi y u->r x y H Q ->
  subscripted slice false v u=operate [v,u] (getItem v u)->wpAny (model X.prog X.w) X.A (subscriptTail value slice v u) (EP X Ga σ Q) X.xe s
def MtR(X:Cx)(id:String)(r:V->List V->Hp->VK->Prop):Prop :=
 ∀(Ga:List (Addr×Obj))(s:Shared)(σ:St)(H:Hp)(x:V)(xs:List V)(v:Value)(us:List Value)(Q:VK),Inv X Ga σ H s->zi x v->zk xs us->r x xs H Q ->
  wpAny (model X.prog X.w) X.A (call (.builtin id) (v::us)) (EP X Ga σ Q) X.xe s
section
variable {X:Cx}{a b:Expr}{ta tb:TE}{pos:Pos}
theorem IxR.or{r r':R2}(h:IxR X r)(h':IxR X r'):IxR X (λx y H Q=>r x y H Q\/r' x y H Q):=by
 intro value slice Ga s σ H x y v u Q I rx ry q hs
 rcases q with q|q
 ·exact h value slice Ga s σ H x y v u Q I rx ry q hs
 ·exact h' value slice Ga s σ H x y v u Q I rx ry q hs
theorem zhX{r:R2}(hr:IxR X r)(ha:PE X a ta)(hb:PE X b tb)(hs:zi2 b):PE X (.Subscript a b pos) (tOp r ta tb):=by
 intro Ga s σ H Q I h
 exact Subscript_ (zgD ha hb I h λv u s2 x y H2 I2 rx ry q=>hr a b Ga s2 σ H2 x y v u Q I2 rx ry q (hs _ _))
def zif(K:PySem.W.Frag):R2:=λx y H Q=>∃p xs i v,x = .ref p/\y = .int i/\SqL K H p xs/\atI xs i=some v/\Q v H
def zjb(K:PySem.W.Frag):R2:=λx y H Q=>∃p xs i v,x = .ref p/\y = .int i/\SqT K H p xs/\atI xs i=some v/\Q v H
def zhl:R2:=λx y H Q=>∃z i c,x = .str z/\y = .int i/\z.length<=sizeLine/\atI z.cps.toList i=some c/\Q (.str ⟨#[c]⟩) H
theorem zjg:IxR X (zif X.K):=by
 intro value slice Ga s σ H x y v u Q I rx ry h hs
 obtain ⟨p,xs,i,z,rfl,rfl,hq,he,q⟩:=h
 cases rx
 obtain ⟨t,rfl⟩:=ry
 obtain ⟨its,r,pl,hz⟩:=I.list hq
 obtain ⟨j,h1,h2,h3,h4,h5⟩:=zfu he
 obtain ⟨w,ew,rw'⟩:=r.get h2
 have hl:=r.length
 have hn:=zce
 have fin:EP X Ga σ Q w s:=⟨z,H,I,rw',q⟩
 by_cases h0:0<=i
 ·have hj:i.toNat=j:=by
   rw [seqIndex_of h0 h5] at h1
   exact Option.some.inj h1
  exact item_listR pl.isList h0 (by omega) (by rw [hj];simpa using ew) fin hs
 ·have hj:(i+(its.toArray.size:Int)).toNat=j:=by
   rw [seqIndex_neg (by omega) h4] at h1
   rw [size_toArray,<- hl]
   exact Option.some.inj h1
  exact subscriptTail_builtinR (x:=w) pl.isList.typeIs slot_list_getitem.lookup
   (wpAny_getItem_list_neg (Q:=λr s'=>r=w/\EP X Ga σ Q r s') pl.isList (by omega) (by rw [size_toArray]<;>omega) (by omega) (by rw [hj];simpa using ew) ⟨rfl,fin⟩) hs
theorem zp5:IxR X (zjb X.K):=by
 intro value slice Ga s σ H x y v u Q I rx ry h hs
 obtain ⟨p,xs,i,z,rfl,rfl,hq,he,q⟩:=h
 cases rx
 obtain ⟨t,rfl⟩:=ry
 obtain ⟨its,r,pl,hz⟩:=I.tuple hq
 obtain ⟨j,h1,h2,h3,h4,h5⟩:=zfu he
 obtain ⟨w,ew,rw'⟩:=r.get h2
 have hl:=r.length
 have hn:=zce
 have fin:EP X Ga σ Q w s:=⟨z,H,I,rw',q⟩
 exact subscriptTail_builtinR (x:=w) pl.typeIs slot_tuple_getitem.lookup
  (getItem_tuple (j:=j) (Q:=λr s'=>r=w/\EP X Ga σ Q r s') pl (by omega) (by omega) (by rw [size_toArray,<- hl];exact h1) (by simpa using ew) ⟨rfl,fin⟩) hs
theorem znl:IxR X zhl:=by
 intro value slice Ga s σ H x y v u Q I rx ry h hs
 obtain ⟨z,i,c,rfl,rfl,hz,he,q⟩:=h
 obtain ⟨t,rfl⟩:=rx
 obtain ⟨t',rfl⟩:=ry
 obtain ⟨j,h1,h2,h3,h4,h5⟩:=zfu he
 have hl:z.cps.toList.length=z.length:=by simp [Str.length]
 rw [hl] at h1 h4 h5
 have hn:=zce
 exact tail_any (typeIs_str s z t) slot_str_getitem.lookup (getItem_str (c:=c) (by
  have e1:decide (i < -(2 ^ 63:Int))=false:=decide_eq_false (by omega)
  have e2:decide (i ≥ 2 ^ 63)=false:=decide_eq_false (by omega)
  rw [e1,e2,Bool.or_false]) (by rw [h1];simpa using h2) ⟨.str ⟨#[c]⟩,H,I.tok _,⟨_,rfl⟩,q⟩) hs
def rIx(K:PySem.W.Frag):R2:=λx y H Q=>zif K x y H Q\/zjb K x y H Q\/zhl x y H Q
theorem zlw:IxR X (rIx X.K):=zjg.or (zp5.or znl)
theorem zpc(its:List Value)(n j:Nat)(u:Value):mapSeq (·.setIfInBounds j u) { cls:=.type "list",data:=.seq its.toArray n }={ cls:=.type "list",data:=.seq (its.set j u).toArray n }:=by
 simp [mapSeq]
theorem Inv.lst{Ga:List (Addr×Obj)}{σ:St}{H:Hp}{s:Shared}{p:Addr}{xs:List V}(I:Inv X Ga σ H s)(h:H p=some (.lst xs)) :
  ∃(its:List Value)(n:Nat),zk xs its/\s.heap.get? p=some { cls:=.type "list",data:=.seq its.toArray n }/\xs.length<=sizeLine:=by
 obtain ⟨z,its,n,r,e⟩:=I.hok p _ h
 exact ⟨its,n,r,e,z⟩
theorem Inv.lstUpd{Ga:List (Addr×Obj)}{σ:St}{H:Hp}{s:Shared}{p:Addr}{xs ys:List V}{its its':List Value}{n n':Nat}{f:Obj->Obj}(I:Inv X Ga σ H s)(h:H p=some (.lst xs))
  (ho:s.heap.get? p=some { cls:=.type "list",data:=.seq its.toArray n }) (hf:f { cls:=.type "list",data:=.seq its.toArray n }={ cls:=.type "list",data:=.seq its'.toArray n' }) (r:zk ys its') (hz:ys.length<=sizeLine) (t:Nat) :
  Inv X Ga σ (upd H p (.lst ys)) { s with heap:=s.heap.update p f,toks:=t }:=by
 have e:(s.heap.update p f).get? p=some { cls:=.type "list",data:=.seq its'.toArray n' }:=by
  rw [get?_update_self f ho (by rw [hf]<;>rfl),hf]
 refine I.write (x:=p) (e:=p) (by rw [h];trivial) (.inl rfl) (λb u hb q=>(get?_update_other _ _ (Ne.symm hb)).trans q) ⟨_,e⟩ ?_
 exact ⟨hz,its',n',r,e⟩
def ze9:V->V->V->Hp->(Hp->Prop)->Prop:=λo i v H Q=>∃p xs k j,o = .ref p/\i = .int k/\H p=some (.lst xs)/\ixN xs.length k=some j/\Q (upd H p (.lst (xs.set j v)))
theorem zgq:zdZ X ze9:=by
 intro Ga s σ H o i v ov iv u Q I ro ri rv h
 obtain ⟨p,xs,k,j,rfl,rfl,hp,hj,q⟩:=h
 cases ro
 obtain ⟨t,rfl⟩:=ri
 obtain ⟨its,n,r,ho,hz⟩:=I.lst hp
 obtain ⟨h1,h2,h3,h4⟩:=zit hj
 have hl:=r.length
 have hn:=zce
 have I':Inv X Ga σ (upd H p (.lst (xs.set j v))) { s with heap:=s.heap.update p (mapSeq (·.setIfInBounds j u)) } :=
  I.lstUpd hp ho (zpc its n j u) (r.set rv j) (by rw [List.length_set];exact hz) s.toks
 by_cases h0:0<=k
 ·have hk:k.toNat=j:=by
   rw [seqIndex_of h0 h4] at h1
   exact Option.some.inj h1
  exact PySem.W.ki_setAt ho h0 (by omega) (by rw [size_toArray,<- hl];exact h4) (by rw [hk];exact ⟨_,I',q⟩)
 ·have hk:(k+(its.toArray.size:Int)).toNat=j:=by
   rw [seqIndex_neg (by omega) h3] at h1
   rw [size_toArray,<- hl]
   exact Option.some.inj h1
  exact PySem.W.ki_setBack ho (by omega) (by rw [size_toArray,<- hl];exact h3) (by omega) (by rw [hk];exact ⟨_,I',q⟩)
theorem zob(lo hi:Option Int)(n:Nat):(sliceBounds lo hi none n).1=((HT.sIx n 0 lo:Nat):Int)/\(sliceBounds lo hi none n).2.1=((HT.sIx n n hi:Nat):Int)/\(sliceBounds lo hi none n).2.2=1:=by
 refine ⟨?_,?_,rfl⟩
 ·cases lo with
  | none=>simp [sliceBounds,HT.sIx]
  | some i =>
   simp only [sliceBounds,HT.sIx,getD_none,show (1:Int)>0 by decide,if_true]
   by_cases h:i<0
   ·simp only [h,if_true]<;>omega
   ·simp only [h,if_false]<;>omega
 ·cases hi with
  | none=>simp [sliceBounds,HT.sIx]
  | some i =>
   simp only [sliceBounds,HT.sIx,getD_none,show (1:Int)>0 by decide,if_true]
   by_cases h:i<0
   ·simp only [h,if_true]<;>omega
   ·simp only [h,if_false]<;>omega
theorem zmV(its:List Value)(lo hi:Option Int):slicePick its.toArray lo hi none=((its.drop (HT.sIx its.length 0 lo)).take (HT.sIx its.length its.length hi-HT.sIx its.length 0 lo)).toArray:=by
 obtain ⟨h1,h2,h3⟩:=zob lo hi its.toArray.size
 unfold slicePick
 rw [h1,h2,h3]
 simp only [sliceRange_one,pick_run,size_toArray]<;>rfl
def zmY(K:PySem.W.Frag):V->Option Int->Option Int->Hp->VK->Prop:=λx lo hi H Q=>∃a xs,x = .ref a/\SqL K H a xs/\∀p,H p=none->Q (.ref p) (upd H p (.lst (zau xs lo hi)))
theorem zop:SlR X (zmY X.K):=by
 intro Ga s σ H x v vl vu lo hi sl Q I rx hs pl pu h
 obtain ⟨a,xs,rfl,hx,q⟩:=h
 cases rx
 obtain ⟨its,r,ht,hz⟩:=I.list hx
 have hlen:=r.length
 refine ⟨"list",_,slot_list_getitem.lookup,ht.isList.typeIs,?_⟩
 refine wpAny_getItem_list_slice ht.isList hs pl pu .none (by simp) ?_ (by rw [size_toArray]<;>omega)
 rw [zmV,<- hlen]
 refine ⟨.ref s.heap.objs.size,_,I.laid (t':=s.toks) (o:=.lst (zau xs lo hi)) (λb ob q=>get?_push_of_some _ q) (le_refl _) ?_,rfl,q _ (I.hok.fresh (le_refl _))⟩
 exact ⟨le_trans (zg4 xs lo hi) hz,_,0,(r.drop (HT.sIx xs.length 0 lo)).take (HT.sIx xs.length xs.length hi-HT.sIx xs.length 0 lo),get?_push_size _ rfl⟩
def zC:V->Bool
 | .non=>true
 | .bl _=>true
 | .int _=>true
 | .str _=>true
 | _=>false
def eqV:V->V->Bool
 | .non,.non=>true
 | .bl a,.bl b=>a==b
 | .bl a,.int b=>(if a then 1 else 0)==b
 | .int a,.bl b=>a==(if b then 1 else 0)
 | .int a,.int b=>a==b
 | .str a,.str b=>a==b
 | _,_=>false
theorem zf2{A:Around}{s:Shared}{y x:V}{u v:Value}(ry:zi y u)(rx:zi x v)(fy:zC y=true)(fx:zC x=true):SeqAt.EqAt A s u v (eqV y x):=by
 cases y with
 | non =>
  cases ry
  cases x with
  | non=>cases rx;exact SeqAt.EqAt.same _
  | bl b=>cases rx;exact SeqAt.EqAt.none_bool b
  | int b=>obtain ⟨t,rfl⟩:=rx;exact SeqAt.EqAt.none_int b t
  | str b=>obtain ⟨t,rfl⟩:=rx;exact SeqAt.EqAt.none_str b t
  | _=>exact absurd (show false=true from fx) Bool.false_ne_true
 | bl a =>
  cases ry
  cases x with
  | non=>cases rx;exact SeqAt.EqAt.bool_none a
  | bl b=>cases rx;exact SeqAt.EqAt.bool_bool a b
  | int b=>obtain ⟨t,rfl⟩:=rx;exact SeqAt.EqAt.bool_int a b t
  | str b=>obtain ⟨t,rfl⟩:=rx;exact SeqAt.EqAt.bool_str a b t
  | _=>exact absurd (show false=true from fx) Bool.false_ne_true
 | int a =>
  obtain ⟨t',rfl⟩:=ry
  cases x with
  | non=>cases rx;exact SeqAt.EqAt.int_none a t'
  | bl b=>cases rx;exact SeqAt.EqAt.int_bool a t' b
  | int b=>obtain ⟨t,rfl⟩:=rx;exact SeqAt.EqAt.int_int a t' b t
  | str b=>obtain ⟨t,rfl⟩:=rx;exact SeqAt.EqAt.int_str a t' b t
  | _=>exact absurd (show false=true from fx) Bool.false_ne_true
 | str a =>
  obtain ⟨t',rfl⟩:=ry
  cases x with
  | non=>cases rx;exact SeqAt.EqAt.str_none a t'
  | bl b=>cases rx;exact SeqAt.EqAt.str_bool a t' b
  | int b=>obtain ⟨t,rfl⟩:=rx;exact SeqAt.EqAt.str_int a t' b t
  | str b=>obtain ⟨t,rfl⟩:=rx;exact SeqAt.EqAt.str_str a t' b t
  | _=>exact absurd (show false=true from fx) Bool.false_ne_true
 | _=>exact absurd (show false=true from fy) Bool.false_ne_true
def eqU(x:V)(u:Value):Bool:=match u with
 | .none=>eqV .non x
 | .bool b=>eqV (.bl b) x
 | .int i _=>eqV (.int i) x
 | .str z _=>eqV (.str z) x
 | _=>false
theorem zim{x y:V}{u:Value}(r:zi y u)(f:zC y=true):eqU x u=eqV y x:=by
 cases y with
 | non=>cases r;rfl
 | bl b=>cases r;rfl
 | int i=>obtain ⟨t,rfl⟩:=r;rfl
 | str z=>obtain ⟨t,rfl⟩:=r;rfl
 | _=>exact absurd (show false=true from f) Bool.false_ne_true
theorem zdk{x:V}:∀{xs:List V}{us:List Value},zk xs us->xs.all zC=true->us.any (eqU x)=xs.any λy=>eqV y x
 | _,_,.nil,_=>rfl
 | y::xs,u::us,.cons r t,f=>by
  rw [List.all_cons,and_eq_true] at f
  rw [any_cons,any_cons,zim r f.1,zdk t f.2]
theorem zds{A:Around}{s:Shared}{x:V}{v:Value}(rx:zi x v)(fx:zC x=true):∀{xs:List V}{us:List Value},zk xs us->xs.all zC=true->∀u∈us,SeqAt.EqAt A s u v (eqU x u)
 | _,_,.nil,_=>λu hu=>by cases hu
 | y::xs,u::us,.cons r t,f=>λu' hu=>by
  rw [List.all_cons,and_eq_true] at f
  rcases mem_cons.mp hu with rfl|hu
  ·rw [zim r f.1];exact zf2 r rx f.1 fx
  ·exact zds rx fx t f.2 u' hu
def inV(x:V)(xs:List V):Bool:=xs.any λy=>eqV y x
def rIn(K:PySem.W.Frag)(neg:Bool):R2:=λx y H Q=>∃p xs,y = .ref p/\(SqL K H p xs\/SqT K H p xs)/\zC x=true/\xs.all zC=true/\Q (.bl (if neg then !inV x xs else inV x xs)) H
theorem zte:OpR X (compareOp .In) (rIn X.K false):=by
 intro Ga s σ H x y v u Q I rx ry h
 obtain ⟨p,xs,rfl,hq,fx,fs,q⟩:=h
 cases ry
 rcases hq with hq|hq
 ·obtain ⟨its,r,pl,hz⟩:=I.list hq
  refine SeqAt.in_listAt (eqU x) pl.isList (λw hw=>zds rx fx r fs w (by simpa using hw)) ⟨.bl _,H,I,rfl,?_⟩
  rw [show its.toArray.any (eqU x)=its.any (eqU x) by simp,zdk r fs]
  exact q
 ·obtain ⟨its,r,pl,hz⟩:=I.tuple hq
  refine SeqAt.in_tupleAt (eqU x) pl (λw hw=>zds rx fx r fs w (by simpa using hw)) ⟨.bl _,H,I,rfl,?_⟩
  rw [show its.toArray.any (eqU x)=its.any (eqU x) by simp,zdk r fs]
  exact q
theorem ztt:OpR X (compareOp .NotIn) (rIn X.K true):=by
 intro Ga s σ H x y v u Q I rx ry h
 obtain ⟨p,xs,rfl,hq,fx,fs,q⟩:=h
 cases ry
 rcases hq with hq|hq
 ·obtain ⟨its,r,pl,hz⟩:=I.list hq
  refine SeqAt.notIn_listAt (eqU x) pl.isList (λw hw=>zds rx fx r fs w (by simpa using hw)) ⟨.bl _,H,I,rfl,?_⟩
  rw [show its.toArray.any (eqU x)=its.any (eqU x) by simp,zdk r fs]
  exact q
 ·obtain ⟨its,r,pl,hz⟩:=I.tuple hq
  refine SeqAt.notIn_tupleAt (eqU x) pl (λw hw=>zds rx fx r fs w (by simpa using hw)) ⟨.bl _,H,I,rfl,?_⟩
  rw [show its.toArray.any (eqU x)=its.any (eqU x) by simp,zdk r fs]
  exact q
theorem zge:zR X (.builtin "len") (λxs H Q=>∃p ys,xs=[.ref p]/\(SqL X.K H p ys\/SqT X.K H p ys)/\Q (.int ys.length) H):=by
 intro Ga s σ H xs us Q I r h
 obtain ⟨p,ys,rfl,hq,q⟩:=h
 obtain ⟨u,rfl,rx⟩:=zbx r
 cases rx
 have hn:=zce
 rcases hq with hq|hq
 ·obtain ⟨its,r',pl,hz⟩:=I.list hq
  have hlen:=r'.length
  exact Calls.call_len_list pl.isList (by simp only [size_toArray]<;>omega) ⟨.int ys.length,H,I.tok _,⟨s.toks+1,by rw [size_toArray,hlen]⟩,q⟩
 ·obtain ⟨its,r',pl,hz⟩:=I.tuple hq
  have hlen:=r'.length
  exact len_tuple pl (by simp only [size_toArray]<;>omega) ⟨.int ys.length,H,I.tok _,⟨s.toks+1,by rw [size_toArray,hlen]⟩,q⟩
theorem zso:zR X (.builtin "len") (λxs H Q=>∃z,xs=[.str z]/\z.length<=sizeLine/\Q (.int z.length) H):=by
 intro Ga s σ H xs us Q I r h
 obtain ⟨z,rfl,hz,q⟩:=h
 obtain ⟨u,rfl,t,rfl⟩:=zbx r
 have hn:=zce
 exact len_str (by omega) ⟨.int z.length,H,I.tok _,⟨_,rfl⟩,q⟩
theorem zR.or{f:Value}{r r':List V->Hp->VK->Prop}(h:zR X f r)(h':zR X f r'):zR X f (λxs H Q=>r xs H Q\/r' xs H Q):=by
 intro Ga s σ H xs us Q I rs q
 rcases q with q|q
 ·exact h Ga s σ H xs us Q I rs q
 ·exact h' Ga s σ H xs us Q I rs q
def tyV(K:PySem.W.Frag)(T:String)(x:V)(H:Hp):Prop:=match x with
 | .str _=>T="str"
 | .int _=>T="int"
 | .ref p=>(T="list"/\∃xs,SqL K H p xs)\/(T="tuple"/\∃o,K.lookup p=some o/\o.cls = .type "tuple"/\o.dict=none) \/
   (T="dict"/\((∃kvs,H p=some (.dK kvs))\/∃kvs,H p=some (.dT kvs)))\/(T="set"/\∃S n,H p=some (.set S n))
 | _=>False
theorem zgh{Ga:List (Addr×Obj)}{σ:St}{H:Hp}{s:Shared}{T:String}{x:V}{v:Value}(I:Inv X Ga σ H s)(r:zi x v)(ty:tyV X.K T x H) :
  s.TypeIs v T/\∀a,v = .ref a->∃ob,s.heap.get? a=some ob/\ob.dict=none:=by
 cases x with
 | str z =>
  obtain ⟨t,rfl⟩:=r
  cases (show T="str" from ty)
  exact ⟨typeIs_str s z t,λ_ e=>nomatch e⟩
 | int i =>
  obtain ⟨t,rfl⟩:=r
  cases (show T="int" from ty)
  exact ⟨typeIs_int s i t,λ_ e=>nomatch e⟩
 | ref p =>
  cases r
  rcases ty with ⟨rfl,xs,hq⟩|⟨rfl,o,hk,hc,hd⟩|⟨rfl,hk⟩|⟨rfl,S,n,hk⟩
  ·obtain ⟨its,_,pl,_⟩:=I.list hq
   refine ⟨pl.isList.typeIs,λa e=>?_⟩
   cases e
   obtain ⟨o,n,e,c,hd,_⟩:=pl
   exact ⟨o,e,hd⟩
  ·refine ⟨⟨o,I.kIn p o hk,hc⟩,λa e=>?_⟩
   cases e
   exact ⟨o,I.kIn _ o hk,hd⟩
  ·have z:∃o,s.heap.get? p=some o/\o.ExactDict:=by
    rcases hk with ⟨kvs,hk⟩|⟨kvs,hk⟩
    ·obtain ⟨_,_,_,_,o,_,_,e,ex,_⟩:=I.hok p _ hk
     exact ⟨o,e,ex⟩
    ·obtain ⟨_,_,_,_,o,_,_,e,ex,_⟩:=I.hok p _ hk
     exact ⟨o,e,ex⟩
   obtain ⟨o,e,ex⟩:=z
   refine ⟨⟨o,e,ex.1⟩,λa e2=>?_⟩
   cases e2
   exact ⟨o,e,ex.2.1⟩
  ·obtain ⟨o,_,_,_,e,ex,_⟩:=I.hok p _ hk
   refine ⟨⟨o,e,ex.1⟩,λa e2=>?_⟩
   cases e2
   exact ⟨o,e,ex.2.1⟩
 | _=>exact False.elim ty
variable {o e:Expr}{es:List Expr}{to:TE}{t:TA}{name:Str}{apos cpos:Pos}{T id:String}{r:V->List V->Hp->VK->Prop}
end
def MtM(X:Cx)(id:String)(r:V->List V->Hp->VK->Prop):Prop :=
 ∀(Ga:List (Addr×Obj))(s:Shared)(σ:St)(H:Hp)(x:V)(xs:List V)(v:Value)(us:List Value)(Q:VK),Inv X Ga σ H s->zi x v->zk xs us->r x xs H Q ->
  wpAny (model X.prog X.w) X.A (call (.builtin id) (v::us)) (EP X Ga σ Q) X.xe s
theorem zk.one:∀{x:V}{us:List Value},zk [x] us->∃u,us=[u]/\zi x u
 | _,_,.cons r .nil=>⟨_,rfl,r⟩
theorem zk.eraseIdx:∀{xs:List V}{us:List Value}(i:Nat),zk xs us->zk (xs.eraseIdx i) (us.eraseIdx i)
 | _,_,_,.nil=>.nil
 | _,_,0,.cons _ t=>t
 | _,_,i+1,.cons r t=>.cons r (zk.eraseIdx i t)
theorem zk.rep{xs:List V}{us:List Value}(h:zk xs us):∀k:Nat,zk (replicate k xs).flatten (replicate k us).flatten
 | 0=>.nil
 | k+1=>by
  rw [replicate_succ,replicate_succ,flatten_cons,flatten_cons]
  exact zk.append h (zk.rep h k)
theorem zhE(its:List Value):∀(k:Nat)(acc:List Value),
  foldl (λx1 x2=>x1++x2) acc.toArray (replicate k its.toArray)=(acc++(replicate k its).flatten).toArray
 | 0,acc=>by simp
 | k+1,acc=>by
  have e:acc.toArray++its.toArray=(acc++its).toArray:=by simp
  have e2:(acc++its)++(replicate k its).flatten=acc++(replicate (k+1) its).flatten:=by
   rw [replicate_succ,flatten_cons,List.append_assoc]
  rw [<- e2,<- zhE its k (acc++its),<- e,replicate_succ,List.foldl_cons]
section
variable {X:Cx}{Ga:List (Addr×Obj)}{σ:St}{H:Hp}{s:Shared}{l b:Addr}{xs ys zs:List V}
theorem Inv.lset{its its':List Value}{n:Nat}{f:Array Value->Array Value}{t':Nat}(I:Inv X Ga σ H s)(hH:H l=some (.lst xs))
  (e:s.heap.get? l=some { cls:=.type "list",data:=.seq its.toArray n }) (hf:f its.toArray=its'.toArray) (hv:zk ys its') (hz:ys.length<=sizeLine) :
  Inv X Ga σ (upd H l (.lst ys)) { s with heap:=s.heap.update l (mapSeq f),toks:=t' }:=by
 have q:=PySem.IsL.update e f
 rw [hf] at q
 refine I.write (x:=l) (e:=l) (by rw [hH];exact trivial) (.inl rfl) (λb' u hb hu=>(get?_update_other s.heap (mapSeq f) (Ne.symm hb)).trans hu) ⟨_,q⟩ ?_
 exact ⟨hz,its',_,hv,q⟩
theorem Inv.lnew{its:List Value}{t':Nat}(I:Inv X Ga σ H s)(hv:zk ys its)(hz:ys.length<=sizeLine) :
  Inv X Ga σ (upd H s.heap.objs.size (.lst ys)) { s with heap:=s.heap.push { cls:=.type "list",data:=.seq its.toArray },toks:=t' } :=
 I.laid (λ_ _ q=>get?_push_of_some _ q) (le_refl _) ⟨hz,its,0,hv,get?_push_size _ rfl⟩
theorem Inv.fresh(I:Inv X Ga σ H s):H s.heap.objs.size=none:=I.hok.fresh (le_refl _)
theorem Inv.lstM(I:Inv X Ga σ H s)(hH:H l=some (.lst xs)):xs.length<=sizeLine/\∃(its:List Value)(n:Nat),zk xs its/\xs.length=its.length/\s.heap.get? l=some { cls:=.type "list",data:=.seq its.toArray n }:=by
 obtain ⟨z,its,n,r,e⟩:=I.hok l _ hH
 exact ⟨z,its,n,r,r.length,e⟩
theorem zi8{n:Nat}(h:n<=sizeLine):Builtin.List.listTooLong n=false:=by
 unfold Builtin.List.listTooLong
 exact decide_eq_false (by omega)
end
section
variable {X:Cx}
def zlK:V->List V->Hp->VK->Prop:=λx vs H Q=>∃l xs y,x = .ref l/\vs=[y]/\H l=some (.lst xs)/\xs.length<sizeLine/\Q .non (upd H l (.lst (xs++[y])))
theorem zpu:MtM X "list.append" zlK:=by
 intro Ga s σ H x vs v us Q I rx rv h
 obtain ⟨l,xs,y,rfl,rfl,hH,hz,q⟩:=h
 cases rx
 obtain ⟨u,rfl,ru⟩:=rv.one
 obtain ⟨z,its,n,r,hl,e⟩:=I.lstM hH
 refine call_meets F.slot_list_append ⟨_,e,rfl⟩ F.entry_list_append (F.args_list_append_2 _ _) (PySem.list_append l its.toArray n u (by rw [size_toArray];omega)) ⟨e,?_⟩
 refine ⟨.non,_,I.lset (its':=its++[u]) hH e (by simp) (r.append (.cons ru .nil)) ?_,rfl,q⟩
 rw [length_append,length_singleton]
 omega
def zoH:V->List V->Hp->VK->Prop:=λx vs H Q=>∃l b xs zs,x = .ref l/\vs=[.ref b]/\H l=some (.lst xs)/\H b=some (.lst zs)/\xs.length+zs.length<=sizeLine/\Q .non (upd H l (.lst (xs++zs)))
theorem ztG:MtM X "list.extend" zoH:=by
 intro Ga s σ H x vs v us Q I rx rv h
 obtain ⟨l,b,xs,zs,rfl,rfl,hH,hB,hz,q⟩:=h
 cases rx
 obtain ⟨u,rfl,ru⟩:=rv.one
 cases ru
 obtain ⟨z,its,n,r,hl,e⟩:=I.lstM hH
 obtain ⟨z2,its2,n2,r2,hl2,e2⟩:=I.lstM hB
 have hsz:its.toArray.size+its2.toArray.size<=sizeLine:=by rw [size_toArray,size_toArray];omega
 have hlong : ¬ (!its.toArray.isEmpty&&Builtin.List.listTooLong (its.toArray.size+its2.toArray.size))=true:=by
  rw [zi8 hsz,Bool.and_false]
  exact Bool.false_ne_true
 refine call_meets F.slot_list_extend ⟨_,e,rfl⟩ F.entry_list_extend (F.args_list_extend_2 _ _)
  (AutoSeq1.list_extend_list_list_0 l its.toArray n b its2.toArray n2 hlong (by rw [size_toArray];omega) (by omega)) ⟨e,e2,?_⟩
 refine ⟨.non,_,I.lset (its':=its++its2) hH e (by simp) (r.append r2) ?_,rfl,q⟩
 rw [length_append]
 omega
def ztn:R2:=λx y H Q=>∃l b xs zs,x = .ref l/\y = .ref b/\H l=some (.lst xs)/\H b=some (.lst zs)/\xs.length+zs.length<=sizeLine/\∀p,H p=none->Q (.ref p) (upd H p (.lst (xs++zs)))
theorem zk7:OpR X (binaryOp .Add) ztn:=by
 intro Ga s σ H x y v u Q I rx ry h
 obtain ⟨l,b,xs,zs,rfl,rfl,hH,hB,hz,q⟩:=h
 cases rx
 cases ry
 obtain ⟨z,its,n,r,hl,e⟩:=I.lstM hH
 obtain ⟨z2,its2,n2,r2,hl2,e2⟩:=I.lstM hB
 refine PySem.P.add_list e e2 ?_ (by rw [size_toArray,size_toArray];omega)
 have ea:its.toArray++its2.toArray=(its++its2).toArray:=by simp
 rw [ea]
 exact ⟨.ref _,_,I.lnew (t':=s.toks) (r.append r2) (by rw [length_append];omega),rfl,q _ I.fresh⟩
def zoG:R2:=λx y H Q=>∃l k xs,x = .ref l/\y = .int k/\H l=some (.lst xs)/\-(2 ^ 63)<=k/\k<2 ^ 63/\xs.length*k.toNat<=sizeLine /\
 ∀p,H p=none->Q (.ref p) (upd H p (.lst (replicate k.toNat xs).flatten))
theorem zj6{α:Type}(xs:List α)(k:Nat):(replicate k xs).flatten.length=k*xs.length:=by
 induction k with
 | zero=>simp
 | succ k ih=>rw [replicate_succ,flatten_cons,length_append,ih,Nat.succ_mul,Nat.add_comm]
theorem zkG:OpR X (binaryOp .Mult) zoG:=by
 intro Ga s σ H x y v u Q I rx ry h
 obtain ⟨l,k,xs,rfl,rfl,hH,h1,h2,hz,q⟩:=h
 cases rx
 obtain ⟨t,rfl⟩:=ry
 obtain ⟨z,its,n,r,hl,e⟩:=I.lstM hH
 have hlen:its.toArray.size*k.toNat<=sizeLine:=by rw [size_toArray,<- hl];exact hz
 have hcap : ¬ its.toArray.size*k.toNat>(2 ^ 63-1) / 8:=by
  have:(sizeLine:Nat)<=(2 ^ 63-1) / 8:=by decide
  omega
 have hfit : ¬ (!Builtin.List.listFitsIndex k)=true:=by
  rw [fitsIndex_both h1 h2]
  exact Bool.false_ne_true
 have hlong : ¬ Builtin.List.listTooLong (its.toArray.size*k.toNat)=true:=by
  rw [zi8 hlen]
  exact Bool.false_ne_true
 have hnew:foldl (λx1 x2=>x1++x2) #[] (replicate (if its.toArray.isEmpty=true then 0 else k.toNat) its.toArray)=(replicate k.toNat its).flatten.toArray:=by
  have f0:∀m:Nat,foldl (λx1 x2=>x1++x2) #[] (replicate m its.toArray)=(replicate m its).flatten.toArray:=λm=>by
   have:=zhE its m []
   rw [List.nil_append] at this
   exact this
  rw [f0]
  cases its with
  | nil=>simp
  | cons a r'=>rw [if_neg (by simp)]
 refine wpAny_binaryOp_repeat_ref (T:="list") (U:="int") (by decide) ⟨_,e,rfl⟩ (λs'=>typeIs_int s' k t) noFill_list_mul F.fills_int_mul F.slot_int_rmul repeat_list F.slot_int_index.lookup
  (call_meets F.slot_int_rmul (typeIs_int s k t) F.entry_int_rmul (F.args_int_rmul_2 _ _) (int___rmul___int_list k t l its.toArray n)
   ⟨e,rfl,⟨_,e,rfl⟩,call_meets F.slot_list_mul ⟨_,e,rfl⟩ F.entry_list_mul (F.args_list_mul_2 _ _) (AutoListH.list___mul___list_int_3 l its.toArray n k t hfit hcap hlong) ⟨e,?_⟩⟩)
 rw [hnew]
 exact ⟨.ref _,_,I.lnew (t':=s.toks) (r.rep k.toNat) (by rw [zj6,Nat.mul_comm];exact hz),rfl,q _ I.fresh⟩
end
section
variable {prog:Program}{w:World}{A:Around}{E:Value->Shared->Prop}{s:Shared}
end
section
variable {X:Cx}
end
end L2
namespace Att
open PySem PySem.W PySem.Calls PyProof.Rows
theorem zk3{P:Params}{h:Heap}:∀(ns:List Int)(vs:List Value),WellAll P h vs (ns.map WData.int)->IntsAre vs ns:=by
 intro ns
 induction ns with
 | nil =>
  intro vs w
  rw [map_nil] at w
  cases w
  exact .nil
 | cons n ns ih =>
  intro vs w
  rw [map_cons] at w
  cases w with
  | cons a b =>
   cases a
   exact .cons _ _ (ih _ b)
theorem zoJ{l:OpenLaw}{n:Nat}(hn:l.most=some n){P:Params}{h:Heap}{args:List WData}{vals:List Value}
  (hpre:l.row.toRowW.claim.pre args=true) (hwl:WellAll P h vals args) :
  ∃a vs ns,vals=[Value.ref a]/\args=[WData.list (ns.map WData.int)]/\h.get? a=some { cls:=.type "list",data:=.seq vs.toArray }/\IntsAre vs ns/\ns.length<=n:=by
 have hsh:WShape.hasAll [] args [.list .int]=true:=(pre_splitW hpre).1
 have hc:l.pre.holds [] { args:=args }=true:=(pre_splitW hpre).2
 obtain ⟨d,r,rfl,h1,h2⟩:=hasAllW_cons hsh
 obtain rfl:=hasAllW_nil h2
 obtain ⟨xs,rfl,h3⟩:=hasW_list h1
 obtain ⟨ns,rfl⟩:=items_int h3
 have hlen:ns.length<=n:=by
  unfold OpenLaw.pre at hc
  have h4:(WTm.not (.lt (.lit (.int (n:Int))) (.len (.arg 0)))).holds [] { args:=[.list (ns.map .int)] }=true:=by
   have h4:=(holds_andW hc).1
   rw [hn] at h4
   exact h4
  have h5:=condW_of h4 (w_not (w_lt w_lit (w_len_list (w_arg rfl))))
  rw [length_map] at h5
  refine Nat.le_of_not_lt λq=>?_
  have q':(n:Int)<((ns.length:Nat):Int):=by omega
  first
   | (rw [decide_eq_true q'] at h5;exact absurd h5 (by decide))
   | (simp at h5;omega)
 cases hwl with
 | cons w1 w2 =>
  cases w2
  cases w1 with
  | list ho hall=>exact ⟨_,_,ns,rfl,rfl,ho,zk3 ns _ hall,hlen⟩
theorem zkP(l:OpenLaw)(args:List WData):l.row.toRowW.claim.post args (.bool true) args=true :=
 postW_of (r:=l.row.toRowW) (X:=(true==true))
  (show WShape.has [] (.bool true) .bool=true by first|rfl|decide|simp [WShape.has,WShape.arms,WShape.armsAll])
  (show (WTm.eq .res (.lit (.bool true))).value [] { args:=args,res:=some (.bool true),after:=args }=some (.bool (true==true)) from w_eq_bool (w_res rfl) w_lit) rfl
theorem attach_call{l:OpenLaw}{n:Nat}{q:Program}{loose:List Str}{XP:(Str->Option Value)->Heap->Prop}{YP:World->Heap->Prop}{d:DefRec}
  (hn:l.most=some n) (hdf:d.params.defaults=[])
  (call:∀(w:World)(s₀ s₁:Shared)(mg mb:Str->Option Value)(fa:Addr)(o:Obj)(pm cd doc:Value)(a:Addr)(vs:List Value)(ns:List Int),
   Ground q loose [] XP w s₀ mg mb s₁.heap->YP w s₁.heap ->
   s₁.heap.get? fa=some o->o.data = .func (docDef d.name d.params d.body d.scope pm cd doc)->s₁.heap.CodeRec cd d.name->mg d.name=some (.ref fa) ->
   s₁.heap.get? a=some { cls:=.type "list",data:=.seq vs.toArray }->IntsAre vs ns->ns.length<=n->s₁.gens = #[] ->
   codeAny (model l.prog w) callerA (.call (.ref fa) ⟨[.ref a],[]⟩) (λr s'=>r = .ok (.ret (.bool true))/\OldK s₁.heap s'.heap/\s'.os=s₁.os/\AllBare s'.gens) s₁) :
  WalkO q loose XP YP l.row.toRowW d [] (λf vs=>PySem.call f vs):=by
 intro w s₀ s₁ mg mb G Y fa o pm cd doc dV kV ho hd hcd hD hmg hg args vals as hpre hlay hrd hwl hlo
 obtain rfl:dV = .none:=Dflts.none hD hdf
 obtain rfl:kV = .none:=Dflts.noKw hD
 obtain ⟨a,vs,ns,rfl,rfl,hobj,hints,hlen⟩:=zoJ hn hpre hwl
 refine enter_call (codeAny_mono (call w s₀ s₁ mg mb fa o pm cd doc a vs ns G Y ho (fd_plain hd) hcd hmg hobj hints hlen hg) λr s' hq=>?_)
 obtain ⟨rfl,h2,h3,h4⟩:=hq
 exact ⟨.inl ⟨.bool true,.bool true,[],rfl,λ_=>rfl,.bool true,zkP l _,λ_=>⟨List.Pairwise.nil,λ_ hm=>(nomatch hm)⟩⟩,h2,h3,h4⟩
section
variable {prog:Program}{w:World}{A:Around}{E:Value->Shared->Prop}{s:Shared}{K:Frag}
end
end Att
namespace L2
open PySem PySem.Spec PyProof.Rows
theorem zff:∀{vs:List Value}{ns:List Int},IntsAre vs ns->zk (ns.map V.int) vs
 | _,_,.nil=>.nil
 | _,_,.cons n t h=>.cons ⟨t,rfl⟩ (zff h)
def zgc(H:Hp):Prop:=∀b,H b=none\/∃o xs,H b=some (.frz o (.lst xs))
theorem zrC{P:Program}{w:World}{K:PySem.W.Frag}{mg mb:Str->Option Value}{CX:CXT}{k:Nat}{fa a:Addr}{fd:FuncData}{x:Str}{sp:Sp}{s₁:Shared}{vs:List Value}{ns:List Int}
  (KX:K.In s₁.heap) (hns:s₁.heap.Ns mainGlobals mg) (hb:s₁.heap.Ns builtinsNs mb) (hbb:∀x:Str,x≠"__name__"->mb x=bootBuiltins x) (hlim:s₁.heap.NoLimit) (hg:s₁.gens = #[])
  (ha:s₁.heap.get? a=some { cls:=.type "list",data:=.seq vs.toArray }) (hi:IntsAre vs ns) (hl:ns.length<=sizeLine) (hr:zD true k callerA)
  (F:∀base:Heap,K.In base->base.Ns mainGlobals mg->zt P w K mg base CX true k fa fd [x] sp) (hbind:∀(s:Shared)(u:Value),BindsTo s fd ⟨[u],[]⟩ [(x,u)])
  (hsp:∀H:Hp,zgc H->SqL K H a (ns.map V.int)->sp [.ref a] H (λv _=>v = .bl true) λ_ _ _=>False)
  (hCX:∀H e s',CX [] H s₁ (λ_ _ _=>False) e s'->False) :
  codeAny (model P w) callerA (.call (.ref fa) ⟨[.ref a],[]⟩) (λr s'=>r = .ok (.ret (.bool true))/\OldK s₁.heap s'.heap/\s'.os=s₁.os/\AllBare s'.gens) s₁:=by
 have rv:=zff hi
 have lenV:=hi.length
 have core:∀H:Hp,zgc H->SqL K H a (ns.map V.int)->HOk P w H s₁.heap->(∀b,H b≠none->b=a)->(H a≠none->K.lookup a=none) ->
   codeAny (model P w) callerA (.call (.ref fa) ⟨[.ref a],[]⟩) (λr s'=>r = .ok (.ret (.bool true))/\OldK s₁.heap s'.heap/\s'.os=s₁.os/\AllBare s'.gens) s₁:=by
  intro H hO hS hok hA hK
  have base_of:∀{b:Addr}{o:Obj},s₁.heap.get? b=some o->H b=none->(zbr s₁.heap H).get? b=some o:=λe n=>zkg e n
  have noA:∀{b:Addr}{o:Obj}{es:Array DictEntry}{ep:Nat},s₁.heap.get? b=some o->o.data = .dict es ep->H b=none:=λ{b o es ep} e d=>by
   cases q:H b with
   | none=>rfl
   | some u =>
    have e':b=a:=hA b (by rw [q];simp)
    subst e'
    rw [ha] at e;cases e
    have d':Data.seq vs.toArray _=Data.dict es ep:=d
    cases d'
  have nsK:∀{b:Addr}{m:Str->Option Value},s₁.heap.Ns b m->(zbr s₁.heap H).Ns b m:=λ{b m} ⟨o,es,ep,e,d,r⟩=>⟨o,es,ep,base_of e (noA e d),d,r⟩
  have hKb:K.In (zbr s₁.heap H):=λb o e=>base_of (KX b o e) (by
   cases q:H b with
   | none=>rfl
   | some u =>
    have e':b=a:=hA b (by rw [q];simp)
    subst e'
    rw [hK (by rw [q];simp)] at e;cases e)
  have hM:Mod K mg (zbr s₁.heap H):=⟨hKb,nsK hns,⟨mb,nsK hb,hbb⟩,let ⟨mc,h1,h2⟩:=hlim;⟨mc,nsK h1,h2⟩⟩
  have e0:zbT P w K mg (zbr s₁.heap H) callerA [] s₁ H:=⟨rfl,.inl rfl,hM,λb o e=>zmu e,le_of_eq (znE _ _),trivial,λb hb=>absurd (show b∈([]:List Addr) from hb) (by simp),hok,.of_eq hg⟩
  refine codeAny_mono ((F _ hKb (nsK hns)).run callerA [] s₁ H ⟨[.ref a],[]⟩ [.ref a] [.ref a] _ _ hr e0 (hbind s₁ (.ref a)) (.cons rfl .nil) (hsp H hO hS)) λr s' h=>?_
  cases r with
  | error e=>exact (hCX H e s' h).elim
  | ok fl =>
   cases fl with
   | next=>exact False.elim h
   | brk=>exact False.elim h
   | cont=>exact False.elim h
   | ret u =>
    obtain ⟨v,H',os,bare,un,hok',r',q⟩:=h
    have q':v = .bl true:=q
    subst q'
    obtain rfl:u=Value.bool true:=r'
    refine ⟨rfl,OldK.of_keep λb o e=>?_,os,bare⟩
    cases q:H b with
    | none=>exact un.keep b o e q (by intro z;exact absurd (show b∈([]:List Addr) from z) (by simp)) (by simp)
    | some u =>
     rcases hO b with z|⟨ob,xs,z⟩
     ·rw [q] at z;cases z
     ·have z2:=un.frzs b ob _ z
      obtain ⟨e1,_⟩:=hok b _ z
      obtain ⟨e2,_⟩:=hok' b _ z2
      rw [e] at e1;cases e1
      exact e2
 cases hk:K.lookup a with
 | some o =>
  have e:=KX a o hk
  rw [ha] at e
  cases e
  refine core (λ_=>none) (λ_=>.inl rfl) (.inr ⟨_,vs.toArray,_,hk,rfl,rfl,rfl,by rw [size_toArray,lenV];exact hl,by simpa using rv⟩) (λb u z=>by have z':(none:Option HO)=some u:=z;cases z') (λb z=>absurd rfl z) λz=>absurd rfl z
 | none =>
  refine core (λb=>if b=a then some (.frz { cls:=.type "list",data:=.seq vs.toArray } (.lst (ns.map V.int))) else none) (λb=>?_) (.inl (.inr ⟨{ cls:=.type "list",data:=.seq vs.toArray },if_pos rfl⟩)) (λb u z=>?_) (λb z=>?_) λ_=>hk
  ·by_cases hb:b=a
   ·exact .inr ⟨_,_,if_pos hb⟩
   ·exact .inl (if_neg hb)
  ·by_cases hb:b=a
   ·have z':=(if_pos hb).symm.trans z
    cases z'
    subst hb
    exact ⟨ha,by rw [length_map];exact hl,vs,_,rv,ha⟩
   ·have z':=(if_neg hb).symm.trans z
    cases z'
  ·by_cases hb:b=a
   ·exact hb
   ·exact absurd (if_neg hb) z
theorem walk_of{l:PySem.W.OpenLaw}{n k:Nat}{q:Program}{loose:List Str}{XP:(Str->Option Value)->Heap->Prop}{YP:World->Heap->Prop}{d:DefRec}{K:Params->PySem.W.Frag}{CX:World->CXT}{sp:World->Sp}{x:Str}
  (hn:l.most=some n) (hn2:n<=sizeLine) (hdf:d.params.defaults=[]) (hr:zD true k callerA)
  (hY:∀(w:World)(h:Heap),YP w h->(K w.params).In h)
  (F:∀(w:World)(mg:Str->Option Value)(fa:Addr)(h:Heap),(K w.params).In h->h.Ns mainGlobals mg->mg d.name=some (.ref fa) ->
   ∃fd:FuncData,(∀(s:Shared)(u:Value),BindsTo s fd ⟨[u],[]⟩ [(x,u)]) /\
    ∀base:Heap,(K w.params).In base->base.Ns mainGlobals mg->zt l.prog w (K w.params) mg base (CX w) true k fa fd [x] (sp w))
  (hsp:∀(w:World)(H:Hp)(a:Addr)(ns:List Int),ns.length<=n->zgc H->SqL (K w.params) H a (ns.map V.int)->sp w [.ref a] H (λv _=>v = .bl true) λ_ _ _=>False)
  (hCX:∀(w:World)(H:Hp)(s:Shared)(e:Value)(s':Shared),CX w [] H s (λ_ _ _=>False) e s'->False) :
  PySem.W.WalkO q loose XP YP l.row.toRowW d [] (λf vs=>PySem.call f vs):=by
 refine Att.attach_call hn hdf λw s₀ s₁ mg mb fa o pm cd doc a vs ns G Y ho hd hcd hmg hobj hints hlen hg=>?_
 have KX:=hY w _ Y
 obtain ⟨fd,hb,hF⟩:=F w mg fa _ KX G.T.g hmg
 exact zrC KX G.T.g G.T.b G.T.builtins G.T.nolimit hg hobj hints (le_trans hlen hn2) hr hF hb (λH hO hS=>hsp w H a ns hlen hO hS) λH e s'=>hCX w H s₁ e s'
def zaD(s:Stmt)(j:Nat):Stmt:=match s with
 | .ClassDef _ _ _ body _ _ _ _ _ _ _=>body.getD j (.Pass ⟨0,0,0,0⟩)
 | _=>.Pass ⟨0,0,0,0⟩
def zF(s:Stmt):Arguments:=match s with
 | .FunctionDef _ a _ _ _ _ _ _ _ _=>a
 | _=>{ posonlyargs:=[],args:=[],vararg:=none,kwonlyargs:=[],kw_defaults:=[],kwarg:=none,defaults:=[] }
def zz(s:Stmt):List Stmt:=match s with
 | .FunctionDef _ _ b _ _ _ _ _ _ _=>b
 | _=>[]
def zj(s:Stmt):Scope:=match s with
 | .FunctionDef _ _ _ _ _ _ sc _ _ _=>sc
 | _=>{ kind:=.function,names:=[],isGenerator:=false,isCoroutine:=false }
abbrev CX0:CXT:=λ_ _ _ _ _ _=>False
abbrev E0:XK:=λ_ _ _=>False
theorem zdY{X:Cx}:zbL CX0 X E0:=λ_ _ _ _ _ _ _ h=>h.elim
structure Fun(K:PySem.W.Frag)(x qual:Str)(st:Stmt)(f:Addr)(fd:FuncData):Prop where
 ex:∃(oc:Value)(od:Option Addr)(kV doc pm:Value)(an:Option Addr)(cdv ct:Value)(osl:Array (Option Value)),
  fd=fnOf x qual (zF st) (zz st) (zj st) .none kV doc pm an cdv ct/\K.lookup f=some ⟨oc,od,.func fd,osl⟩/\codeIn K cdv qual=true
 kp:keepIn K (.ref f)=true
section
variable {P:Program}{w:World}{K:PySem.W.Frag}{mg:Str->Option Value}{base:Heap}
theorem Fun.ok{x qual:Str}{st:Stmt}{f:Addr}{fd:FuncData}{N ps:List Str}{cm:Bool}{k:Nat}{sp:Sp}(F:Fun K x qual st f fd)(S:zG N ps (zj st))(len:∀vs H Q E,sp vs H Q E->vs.length=ps.length)
  (hbody:∀(cdv:Value)(A:Around)(outer:List Env)(s:Shared)(H:Hp)(vs:List V)(Q:VK)(E:XK),zD cm k (A.deeper (envOfC qual (zj st) s.heap.objs.size f cdv))->sp vs H Q E ->
   ∃t,PSs (za8 CX0 cm P w K mg base N qual (zj st) f cdv A outer s H E).nox (zz st) t/\t { nx:=λ_ H'=>Q .non H',rt:=Q } (start N vs) H):zt P w K mg base CX0 cm (k+1) f fd ps sp:=by
 obtain ⟨oc,od,kV,doc,pm,an,cdv,ct,osl,rfl,lk,hcd⟩:=F.ex
 refine zht lk hcd S len λA outer s H vs Q E hr hsp=>?_
 obtain ⟨t,h,q⟩:=hbody cdv A outer s H vs Q E hr hsp
 exact ⟨t,h.nox,q⟩
theorem Fun.binds{x qual:Str}{st:Stmt}{f:Addr}{fd:FuncData}{ps:List Str}(F:Fun K x qual st f fd)
  (h:∀(kV doc pm:Value)(an:Option Addr)(cdv ct:Value)(us:List Value),us.length=ps.length->bindArgs (fnOf x qual (zF st) (zz st) (zj st) .none kV doc pm an cdv ct) ⟨us,[]⟩=pure (ps.zip us)):zaJ K fd ps []:=by
 obtain ⟨oc,od,kV,doc,pm,an,cdv,ct,osl,rfl,lk,hcd⟩:=F.ex
 exact .all (h kV doc pm an cdv ct)
theorem zL{x qual:Str}{st:Stmt}{f:Addr}{oc:Value}{od an:Option Addr}{osl:Array (Option Value)}{kV doc pm cdv ct:Value}(l:K.lookup f=some ⟨oc,od,.func (fnOf x qual (zF st) (zz st) (zj st) .none kV doc pm an cdv ct),osl⟩)
  (c:codeIn K cdv qual=true) (k:keepIn K (.ref f)=true):Fun K x qual st f (fnOf x qual (zF st) (zz st) (zj st) .none kV doc pm an cdv ct):=⟨⟨oc,od,kV,doc,pm,an,cdv,ct,osl,rfl,l,c⟩,k⟩
end
theorem zP{A:Around}{c:Bool}{k:Nat}(hr:zD c k A):A.units+1<cLine:=Nat.lt_of_le_of_lt (Nat.add_le_add_left (by decide:1<=64) _) hr.units
section
variable {X:Cx}
theorem pv(i:Nat){x:Str}{pos:Pos}(hN:X.N[i]?=some x:=by rfl)(hv:Vis X.env.scope x:=by first|exact Or.inl rfl|exact Or.inr (Or.inl rfl)|exact Or.inr (Or.inr rfl))(hd:(x==("__debug__":Str))=false:=by decide)
  (hcd:(x==("__classdict__":Str))=false:=by decide):PE X (.Name x pos) (zb6 i):=zo3 hN hv hd hcd
end
theorem zhQ{A B:Prop}(h:B):if false=true then A else B:=by
 rw [if_neg Bool.false_ne_true]
 exact h
theorem zfH{A B:Prop}(h:A):if true=true then A else B:=by
 rw [if_pos rfl]
 exact h
theorem zaS{c A B:Prop} [Decidable c] (h1:c->A) (h2 : ¬ c->B):if c then A else B:=by
 by_cases h:c
 ·rw [if_pos h]
  exact h1 h
 ·rw [if_neg h]
  exact h2 h
def zg(H H':Hp):Prop:=∀b o,H b=some o->H' b=some o
theorem zg.refl(H:Hp):zg H H:=λ_ _ h=>h
theorem zg.trans{H H1 H2:Hp}(a:zg H H1)(b:zg H1 H2):zg H H2:=λc o h=>b c o (a c o h)
theorem zg.free{H H':Hp}(e:zg H H'){l:Addr}(h:H' l=Option.none):H l=Option.none:=by
 cases q:H l with
 | none=>rfl
 | some o =>
  rw [e l o q] at h
  cases h
end L2
set_option maxHeartbeats 4000000
namespace L2
open PySem PySem.Spec PyProof.Rows
def zar(cells:List (Str×Addr)):List (Str×NameKind)->List (Str×Addr)->List (Str×Addr)
 | [],cs=>cs
 | (n,k)::r,cs=>zar cells r (if k == .free then (match cells.lookup n with|some c=>(n,c)::cs|none=>cs) else cs)
theorem ziE{scope:Scope}{env:Env}(h:∀y∈scope.names,y.2 = .free->∃c,env.cells.lookup y.1=some c):closureFor scope env=pure (zar env.cells scope.names []):=by
 simp only [closureFor]
 have all:∀(l:List (Str×NameKind))(cs:List (Str×Addr)),(∀y∈l,y.2 = .free->∃c,env.cells.lookup y.1=some c) ->
   (forIn l cs λ(x:Str×NameKind)(r:List (Str×Addr))=>match x with|(name,kind)=>if (kind==NameKind.free)=true then do let a<-cellOf env name;pure (ForInStep.yield ((name,a)::r)) else pure (ForInStep.yield r):Sem (List (Str×Addr)))=pure (zar env.cells l cs):=by
  intro l
  induction l with
  | nil=>intro cs _;rfl
  | cons y r ih =>
   intro cs hy
   obtain ⟨n,k⟩:=y
   rw [List.forIn_cons]
   by_cases hk:k = .free
   ·subst hk
    obtain ⟨c,hc⟩:=hy (n,.free) mem_cons_self rfl
    have hc':env.cells.lookup n=some c:=hc
    simp only [cellOf,hc',zar,beq_self_eq_true,if_true]
    exact ih _ λz hz=>hy z (mem_cons_of_mem _ hz)
   ·have hb:(k==NameKind.free)=false:=by simpa using hk
    simp only [zar,hb,false_eq_true,if_false]
    exact ih _ λz hz=>hy z (mem_cons_of_mem _ hz)
 have e:=all scope.names [] h
 show (do let cs<-forIn scope.names [] _;pure cs)=_
 first
  | (rw [bind_pure];exact e)
  | exact e
  | (simpa using e)
theorem zd7{cells:List (Str×Addr)}:∀{l:List (Str×NameKind)}{cs:List (Str×Addr)}{x:Str}{c:Addr},(zar cells l cs).lookup x=some c->cs.lookup x=some c\/(cells.lookup x=some c/\(x,NameKind.free)∈l)
 | [],_,_,_,h=>.inl h
 | (n,k)::r,cs,x,c,h=>by
  unfold zar at h
  rcases zd7 h with h|⟨h1,h2⟩
  ·by_cases hk:k = .free
   ·subst hk
    simp only [beq_self_eq_true,if_true] at h
    cases e:cells.lookup n with
    | none=>rw [e] at h;exact .inl h
    | some c' =>
     rw [e] at h
     simp only [lookup_cons] at h
     by_cases hx:x=n
     ·subst hx
      simp only [beq_self_eq_true] at h
      cases h
      exact .inr ⟨e,mem_cons_self⟩
     ·have hb:(x==n)=false:=by simpa using hx
      rw [hb] at h
      exact .inl h
   ·have hb:(k==NameKind.free)=false:=by simpa using hk
    rw [hb] at h
    exact .inl h
  ·exact .inr ⟨h1,mem_cons_of_mem _ h2⟩
theorem zja{cells:List (Str×Addr)}:∀{l:List (Str×NameKind)}{cs:List (Str×Addr)}{x:Str},(cs.lookup x).isSome=true->((zar cells l cs).lookup x).isSome=true
 | [],_,_,h=>h
 | (n,k)::r,cs,x,h=>by
  unfold zar
  refine zja ?_
  split
  ·split
   ·simp only [lookup_cons]
    split
    ·rfl
    ·exact h
   ·exact h
  ·exact h
theorem ziP{cells:List (Str×Addr)}:∀{l:List (Str×NameKind)}{cs:List (Str×Addr)}{x:Str}{c:Addr},(x,NameKind.free)∈l->cells.lookup x=some c->((zar cells l cs).lookup x).isSome=true
 | (n,k)::r,cs,x,c,hm,hc=>by
  unfold zar
  rcases mem_cons.mp hm with e|hm
  ·cases e
   refine zja ?_
   simp only [beq_self_eq_true,if_true,hc,lookup_cons]
   rfl
  ·exact ziP hm hc
def zci(sc:Scope)(names:List (Str×NameKind))(N N':List Str)(ix:List (Option Nat)):Bool :=
 sc.kind == .function&&sc.names.all (λy=>y.2 != .cell&&(y.2 != .local||sc.names.lookup y.1==some .local)&&(y.2 != .free||(names.lookup y.1==some .cell&&sc.names.lookup y.1==some .free)) ) &&
 ix.length==N'.length&&(List.range ix.length).all (λi=>match ix.getD i none with
  | none=>true
  | some j=>(match N'[i]?,N[j]? with|some x,some y=>x==y&&sc.names.lookup x==some .free|_,_=>false))
def zaQ(ix:List (Option Nat))(σ:St):St:=ix.map λo=>o.bind λj=>(σ[j]?).join
structure za2(X:Cx)(sc:Scope)(N':List Str)(ix:List (Option Nat)):Prop where
 kind:sc.kind = .function
 cell:∀y∈sc.names,y.2≠.cell
 names:∀y∈sc.names,y.2 = .local->sc.names.lookup y.1=some .local
 free:∀y∈sc.names,y.2 = .free->X.env.kindOf y.1=some .cell/\sc.names.lookup y.1=some .free
 len:ix.length=N'.length
 at_:∀(i j:Nat),ix[i]?=some (some j)->∃x,N'[i]?=some x/\X.N[j]?=some x/\sc.names.lookup x=some .free
theorem za2.of{X:Cx}{sc:Scope}{N':List Str}{ix:List (Option Nat)}(h:zci sc X.env.scope.names X.N N' ix=true):za2 X sc N' ix:=by
 unfold zci at h
 simp only [and_eq_true,all_eq_true] at h
 obtain ⟨⟨⟨h1,h2⟩,h3⟩,h4⟩:=h
 refine ⟨by simpa using h1,λy hy=>?_,λy hy hk=>?_,λy hy hk=>?_,by simpa using h3,λi j e=>?_⟩
 ·simpa using (h2 y hy).1.1
 ·have q:=(h2 y hy).1.2
  rw [hk] at q
  simpa using q
 ·have q:=(h2 y hy).2
  rw [hk] at q
  simp only [bne_self_eq_false,Bool.false_or,and_eq_true,beq_iff_eq] at q
  exact q
 ·have hi:i<ix.length:=(List.getElem?_eq_some_iff.mp e).1
  have:=h4 i (mem_range.mpr hi)
  have eg:ix.getD i none=some j:=by rw [getD_eq_getElem?_getD,e];rfl
  rw [eg] at this
  dsimp only at this
  cases e1:N'[i]? with
  | none=>rw [e1] at this;simp at this
  | some x =>
   cases e2:X.N[j]? with
   | none=>rw [e1,e2] at this;simp at this
   | some y =>
    rw [e1,e2] at this
    simp only [and_eq_true,beq_iff_eq] at this
    exact ⟨x,rfl,by rw [this.1],this.2⟩
def zN(X:Cx)(sc:Scope)(N':List Str)(Ga:List (Addr×Obj))(C:Addr)(fp:List Addr)(s:Shared)(H:Hp):Cx :=
 { X with N:=N',s₀:=s,H₀:=H,env:=compEnvC sc (zar X.env.cells sc.names []) C X.env,outer:=X.stack,stack:=X.stack,ex:=fp,fn:=λ_=>false,pn:=X.pn++Ga,xe:=λ_ _=>False }
theorem HOk.add{P:Program}{w:World}{H:Hp}{h:Heap}{D:Addr}{o:HO}(x:HOk P w H h)(hn:H D=none)(new:zX P w (upd H D o) h D o):HOk P w (upd H D o) h:=λb u e=>by
 by_cases hb:b=D
 ·subst hb;rw [zp] at e;cases e;exact new
 ·rw [ze hb] at e
  exact (x b u e).stay (λ_ _ _ q=>q) (λc q=>by rw [ze (zM q hn)];exact q) λc xs q=>by rw [ze (zM q hn)];exact q
theorem HOk.but{P:Program}{w:World}{H:Hp}{h h':Heap}{C:Addr}(x:HOk P w H h)(hn:H C=none)(k:∀b u,b≠C->h.get? b=some u->h'.get? b=some u):HOk P w H h':=λb u e =>
 (x b u e).stay (λc v hc q=>k c v (by
  rcases hc with z|z
  ·rw [z];exact zM e hn
  ·exact zM z hn) q) (λ_ q=>q) λ_ _ q=>q
theorem zj3{sc:Scope}{env:Env}(hk:env.scope.kind = .function)(hf:∀y∈sc.names,y.2 = .free->env.kindOf y.1=some .cell) :
  ∀x,(relabel sc env).names.lookup x=(sc.names.lookup x).map λk=>if k == .free then .cell else k:=by
 intro x
 have em:(relabel sc env).names=sc.names.map λy=>(y.1,if y.2 == .free then NameKind.cell else y.2):=by
  show sc.names.map _=_
  refine List.map_congr_left λy hy=>?_
  obtain ⟨n,k⟩:=y
  by_cases hk':k = .free
  ·subst hk'
   have e:env.kindOf n=some .cell:=hf (n,.free) hy rfl
   simp [hk,e]
  ·have hb:(k==NameKind.free)=false:=by simpa using hk'
   simp [hb]
 rw [em]
 generalize sc.names=l
 induction l with
 | nil=>rfl
 | cons y r ih =>
  obtain ⟨n,k⟩:=y
  simp only [map_cons,lookup_cons]
  cases x==n with
  | true=>rfl
  | false=>exact ih
section
variable {X:Cx}{sc:Scope}{N':List Str}{ix:List (Option Nat)}
theorem zql{σ:St}{i:Nat}{v:V}(h:(zaQ ix σ)[i]?=some (some v)):∃j,ix[i]?=some (some j)/\σ[j]?=some (some v):=by
 unfold zaQ at h
 rw [getElem?_map] at h
 cases e:ix[i]? with
 | none=>rw [e] at h;cases h
 | some o =>
  rw [e] at h
  have h':(o.bind λj=>(σ[j]?).join)=some v:=Option.some.inj h
  cases o with
  | none=>cases h'
  | some j =>
   have h'':(σ[j]?).join=some v:=h'
   cases e2:σ[j]? with
   | none=>rw [e2] at h'';cases h''
   | some z =>
    rw [e2] at h''
    have:z=some v:=h''
    exact ⟨j,rfl,by rw [e2,this]⟩
theorem zhW{Ga:List (Addr×Obj)}{σ:St}{H:Hp}{s:Shared}{fp:List Addr}{h₁:Heap}{C:Addr}{tk:Nat}{m:Str->Option Value}(I:Inv X Ga σ H s)(L:za2 X sc N' ix)(f:∀b∈fp,z7 X Ga H b)(fl:∀b∈fp,b<s.heap.objs.size)
  (hC:s.heap.objs.size<=C) (hns:h₁.Ns C m) (old:∀b o,s.heap.get? b=some o->h₁.get? b=some o) :
  Inv (zN X sc N' Ga C fp s H) [] (zaQ ix σ) H { s with heap:=h₁,toks:=tk }:=by
 have cof:∀x c,(zar X.env.cells sc.names []).lookup x=some c->X.env.cells.lookup x=some c/\(x,NameKind.free)∈sc.names:=λx c h=>by
  rcases zd7 h with h|h
  ·cases h
  ·exact h
 have rl:=zj3 (sc:=sc) (env:=X.env) I.ok.kind λy hy hk=>(L.free y hy hk).1
 have chas:∀x,sc.names.lookup x=some .free->∃c,(zar X.env.cells sc.names []).lookup x=some c/\X.env.cells.lookup x=some c:=λx hx=>by
  have hm:(x,NameKind.free)∈sc.names:=PySem.mem_of_lookup hx
  obtain ⟨c,hc⟩:=I.ok.has x (.inl (L.free _ hm rfl).1)
  obtain ⟨c',hc'⟩:=isSome_iff_exists.mp (ziP (cs:=[]) hm hc)
  exact ⟨c',hc',(cof x c' hc').1⟩
 refine ⟨⟨I.ok.mod,L.kind,I.ok.glob,I.ok.blt,hC,λx y c h1 h2=>I.ok.inj x y c (cof x c h1).1 (cof y c h2).1,λx hx=>?_,λx c h=>(nomatch h),I.ok.hd,I.ok.frames,.inl rfl,λb hb=>⟨ne_of_lt (lt_of_lt_of_le (fl b hb) hC),λx c h=>(f b hb).2.2.2.2.1 x c (cof x c h).1⟩,
   I.bs,le_trans I.ok.bsz I.sz,λb o e hb=>?_,λb hb z=>?_,I.stack,I.stkFree⟩,rfl,I.bare,Un.kept old,⟨m,hns,λi x v e1 e2 e3=>?_⟩,λx c h=>?_,I.hok.fresh hC,λx c h=>I.freeC x c (cof x c h).1,λp hp=>?_,I.hok.kept old,?_,I.hdk⟩
 ·have hx':(relabel sc X.env).names.lookup x=some .cell\/(relabel sc X.env).names.lookup x=some .free:=hx
  rw [rl x] at hx'
  cases e:sc.names.lookup x with
  | none=>rw [e] at hx';simp at hx'
  | some k =>
   have hk:k = .free:=by
    cases k with
    | free=>rfl
    | cell=>exact absurd rfl (L.cell _ (PySem.mem_of_lookup e))
    | _=>rw [e] at hx';revert hx';decide
   subst hk
   obtain ⟨c,h1,_⟩:=chas x e
   exact ⟨c,h1⟩
 ·rcases (f b hb).2.2.2.1 with z|z
  ·exact I.ok.noex b o e z
  ·exact absurd (lt_of_lt_of_le (lt_size (I.ok.bs b o e).1) z) (lt_irrefl _)
 ·rcases mem_cons.mp (I.stkSub b z) with e|e
  ·exact (f b hb).2.1 e
  ·exact (f b hb).2.2.1 e
 ·obtain ⟨j,hj,hv⟩:=zql e2
  obtain ⟨y,n1,n2,n3⟩:=L.at_ i j hj
  have exy:x=y:=Option.some.inj ((show N'[i]?=some x from e1).symm.trans n1)
  subst exy
  obtain ⟨c,c1,c2⟩:=chas x n3
  have kf:=(L.free _ (PySem.mem_of_lookup n3) rfl).1
  obtain ⟨m0,hn0,hl⟩:=I.loc
  obtain ⟨u,r,l⟩:=hl j x v n2 hv (.inr (.inl kf))
  refine ⟨u,r,.inr ⟨.inl ?_,c,c1,?_⟩⟩
  ·show (relabel sc X.env).names.lookup x=some .cell
   rw [rl x,n3];rfl
  ·rcases l with ⟨hk,_⟩|⟨_,c',hc',z⟩
   ·have kf':X.env.kindOf x=some .cell:=kf
    rw [hk] at kf';cases kf'
   ·rw [c2] at hc'
    cases hc'
    obtain ⟨oc,ho,hd⟩:=z
    exact ⟨oc,old _ _ ho,hd⟩
 ·obtain ⟨v,oc,ho,hd⟩:=I.cell x c (cof x c h).1
  exact ⟨v,oc,old _ _ ho,hd⟩
 ·have hp':p∈X.pn++Ga:=by
   have:p∈(X.pn++Ga)++[]:=hp
   simpa using this
  obtain ⟨a,b,c,d,e⟩:=I.pin p hp'
  exact ⟨old _ _ a,b,ne_of_lt (lt_of_lt_of_le (lt_size a) hC),λz=>(mem_cons.mp (I.stkSub p.1 z)).elim c d,e⟩
 ·show (zaQ ix σ).length=N'.length
  unfold zaQ
  rw [length_map,L.len]
end
def PTs(X:Cx)(ifs:List Expr)(t:TT):Prop :=
 ∀(Ga:List (Addr×Obj))(s:Shared)(σ:St)(H:Hp)(Q:Bool->Hp->Prop),Inv X Ga σ H s->t σ H Q ->
  wpAny (model X.prog X.w) X.A (forIn ifs true λc r=>if r=true then do let ok<-isTrue c X.env (eval c X.env);pure (ForInStep.yield ok) else pure (ForInStep.yield r)) (TP X Ga σ Q) X.xe s
def zgb:TT:=λ_ H Q=>Q true H
theorem zkt{X:Cx}:PTs X [] zgb:=λ_ _ _ H _ I h=>wpAny_tests_nil ⟨H,I,h⟩
theorem zqB{prog:Program}{w:World}{A:Around}{R:Result->Shared->Prop}{s:Shared}{elt target iter:Expr}{ifs:List Expr}{scope:Scope}{pos:Pos}{it acc:Value}{env:Env}(I:Nat->Shared->Prop)
  (turn:∀n s,I n s->wpAny (model prog w) A (pyNext it) (λr s₁=>match r with
   | none=>R (.ok .next) s₁
   | some v=>wpAny (model prog w) A (letOwnedTupleGo target it v) (λ_ s₁'=>wpAny (model prog w) A (assign target env v) (λ_ s₂ =>
     wpAny (model prog w) A (forIn ifs true λc r=>if r=true then do let ok<-isTrue c env (eval c env);pure (ForInStep.yield ok) else pure (ForInStep.yield r)) (λok s₃ =>
      if ok=true then wpAny (model prog w) A (eval elt env) (λx s₄ =>
       wpAny (model prog w) A (call (.builtin "list.append") [acc,x]) (λ_ s₅=>∃m,m<n/\I m s₅) (λ_ _=>False) s₄) (λ_ _=>False) s₃
      else ∃m,m<n/\I m s₃) (λ_ _=>False) s₂) (λ_ _=>False) s₁') (λ_ _=>False) s₁) (λ_ _=>False) s)
  (n:Nat) (h:I n s):codeAny (model prog w) A (.compLoop (.ListComp elt [⟨target,iter,ifs,0⟩] scope pos) 0 it acc env) R s:=by
 refine codeAny_loop rfl I (λn s hI=>?_) n h
 show wpAny _ A ((compTurn (.ListComp elt [⟨target,iter,ifs,0⟩] scope pos) 0 it acc env).onRaise (λx=>do noteFrame x env;theTreesLotGoes x)) _ _ s
 refine wpAny_noted (wpAny_mono (E:=λ_ _=>False) ?_ (λ_ _ q=>q) λ_ _ z=>z.elim)
 rw [compTurn_list]
 refine wpAny_bind (wpAny_standAt (wpAny_bind (wpAny_mono (turn n s hI) (λr s₁ h₁=>?_) λ_ _ h'=>h')))
 cases r with
 | none=>exact wpAny_pure h₁
 | some v =>
  refine wpAny_bind (wpAny_mono h₁ (λ_ s₁' h₁'=>?_) λ_ _ h'=>h')
  refine wpAny_bind (wpAny_mono h₁' (λ_ s₂ h₂=>wpAny_bind (wpAny_mono h₂ (λok s₃ h₃=>?_) λ_ _ h'=>h')) λ_ _ h'=>h')
  cases ok with
  | false=>exact wpAny_pure ⟨rfl,h₃⟩
  | true=>exact wpAny_bind (wpAny_bind (wpAny_mono h₃ (λx s₄ h₄=>wpAny_bind (wpAny_mono h₄ (λ_ s₅ h₅=>wpAny_pure (wpAny_pure ⟨rfl,h₅⟩)) λ_ _ h'=>h')) λ_ _ h'=>h'))
def tLC(ix:List (Option Nat))(wi:TI)(g:TG)(tt:TT)(te:TE):TE:=λσ H Q=>wi σ H λJ H1=>∃W:Nat->Nat->St->List V->Hp->Prop,(∃m,W 0 m (zaQ ix σ) [] H1)/\∀i m τ ys H2,W i m τ ys H2->ys.length<sizeLine /\
 ((J.stop i H2 ∧ ∀ D, H2 D = none → D ≠ sysModules → Q (.ref D) (upd H2 D (.lst ys))) ∨
  (J.go i H2 ∧ ∀ x H3, J.yld i H2 x H3 → g x τ H3 fun τ1 H4 => tt τ1 H4 fun ok H5 => if ok = true then te τ1 H5 fun y H6 => ∃ m', m' < m ∧ W (i + 1) m' τ1 (ys ++ [y]) H6 else ∃ m', m' < m ∧ W (i + 1) m' τ1 ys H5))
theorem zmw{c:Bool}{X:Cx}{elt tg iter:Expr}{ifs:List Expr}{sc:Scope}{pos:Pos}{N':List Str}{ix:List (Option Nat)}{wi:TI}{g:TG}{tt:TT}{te:TE}(hc:c=true->X.calm=true)(L:za2 X sc N' ix)(hi:PIc c X tg iter wi)
  (hg:∀Ga C fp s H,PG (zN X sc N' Ga C fp s H) tg g) (ht:∀Ga C fp s H,PTs (zN X sc N' Ga C fp s H) ifs tt) (he:∀Ga C fp s H,PE (zN X sc N' Ga C fp s H) elt te)
  (hs:∀x,foldedSetIterable iter X.env x=pure x:=by intro _;rfl):PE X (.ListComp elt [⟨tg,iter,ifs,0⟩] sc pos) (tLC ix wi g tt te):=by
 intro Ga s σ H Q I h
 rw [eval_ListComp]
 have hclos:closureFor sc X.env=pure (zar X.env.cells sc.names []):=ziE λy hy hk=>I.ok.has y.1 (.inl (L.free y hy hk).1)
 refine wpAny_comprehension_free (use:=none) rfl hs hclos L.kind L.names (thn (hi Ga s σ H _ I h) λv s1 h1=>thn h1 λitv s2 h2=>?_)
 obtain ⟨it,fp,tn,J,H2,e,I2,T,st2,f2,W,⟨m0,w0⟩,turn⟩:=h2
 subst e
 refine wpAny_newObj_type (wpAny_newFunctionEnv L.cell (by intro y hy;simp at hy) (λh₁ hns₁ hsb₁=>?_) L.kind)
 dsimp only at hns₁ hsb₁ ⊢
 generalize hH2:s2.heap.push { cls:=.type "list",dict:=none,data:=.seq ([]:List Value).toArray }=G2 at hns₁ hsb₁ ⊢
 have hC:G2.objs.size=s2.heap.objs.size+1:=by rw [<- hH2,size_push]
 have hDC:s2.heap.objs.size≠G2.objs.size:=by rw [hC];exact ne_of_lt (lt_succ_self _)
 have hCle:s2.heap.objs.size<=G2.objs.size:=by rw [hC];exact le_succ _
 have below:∀b,b<s2.heap.objs.size->b≠G2.objs.size/\b≠s2.heap.objs.size:=λb hb=>⟨by rw [hC];exact ne_of_lt (lt_succ_of_lt hb),ne_of_lt hb⟩
 have old:∀b o,s2.heap.get? b=some o->h₁.get? b=some o:=λb o e=>hsb₁.extBut b o (below b (lt_size e)).1 (get?_push_of_some _ (hH2 ▸ get?_push_of_some _ e))
 have hacc:h₁.get? s2.heap.objs.size=some { cls:=.type "list",data:=.seq ([]:List Value).toArray 0 }:=hsb₁.extBut _ _ hDC (get?_push_of_some _ (hH2 ▸ get?_push_size _ rfl))
 have fl:∀b∈fp,b<s2.heap.objs.size:=λb hb=>by
  obtain ⟨o,e,_⟩:=T.obj 0 _ st2 b hb
  exact lt_size e
 have hDfp:s2.heap.objs.size∉fp:=λz=>lt_irrefl _ (fl _ z)
 generalize hD:s2.heap.objs.size=D at *
 generalize hCe:G2.objs.size=C at *
 have cof:∀x c,(zar X.env.cells sc.names []).lookup x=some c->X.env.cells.lookup x=some c:=λx c h=>by
  rcases zd7 h with h|h
  ·cases h
  ·exact h.1
 have st1:tn 0 h₁:=T.keep _ _ _ st2 λb _ o e=>old b o e
 have I3:Inv (zN X sc N' Ga C fp s2 H2) [] (zaQ ix σ) H2 { s2 with heap:=h₁,toks:=s2.toks+([]:List (Str×Value)).length }:=zhW I2 L f2 (λb hb=>by rw [hD];exact fl b hb) (by rw [hD];exact hCle) hns₁ old
 have D0:H2 D=none:=I2.hok.fresh (le_of_eq hD)
 have fD:∀{H':Hp},H' D=none->z7 (zN X sc N' Ga C fp s2 H2) [] H' D:=λ{H'} hn=>by
  refine ⟨hn,hDC,λz=>?_,.inr (le_of_eq hD),λx c hx z=>?_,λp hp z=>?_⟩
  ·obtain ⟨_,o,ho,_⟩:=I2.stack.mem (show D∈frs X.stack from z)
   exact absurd (lt_size ho) (by rw [hD];exact lt_irrefl _)
  ·obtain ⟨v,q⟩:=I2.cell x c (cof x c hx)
   have:=q.lt
   rw [z,hD] at this
   exact lt_irrefl _ this
  ·have hp':p∈X.pn++Ga:=by
    have:p∈(X.pn++Ga)++[]:=hp
    simpa using this
   have:=lt_size (I2.pin p hp').1
   rw [z,hD] at this
   exact lt_irrefl _ this
 have fF:∀{H':Hp},(∀b∈fp,H' b=none)->∀b∈fp,z7 (zN X sc N' Ga C fp s2 H2) [] H' b:=λ{H'} hn b hb=>by
  obtain ⟨_,g1,g2,g3,g4,g5⟩:=f2 b hb
  refine ⟨hn b hb,(below b (fl b hb)).1,λz=>?_,.inl hb,λx c hx=>g4 x c (cof x c hx),λp hp=>g5 p ?_⟩
  ·rcases mem_cons.mp (I2.stkSub b z) with e|e
   ·exact g1 e
   ·exact g2 e
  ·have:p∈(X.pn++Ga)++[]:=hp
   simpa using this
 have loop:∀s₃:Shared,s₃={ s2 with heap:=h₁,toks:=s2.toks+([]:List (Str×Value)).length } ->
   codeAny (model X.prog X.w) X.A (.compLoop (.ListComp elt [⟨tg,iter,ifs,0⟩] sc pos) 0 (.ref it) (.ref D) (compEnvC sc (zar X.env.cells sc.names []) C X.env))
    (compPost (model X.prog X.w) X.A X.xe none (EP X Ga σ Q) (.ref D) C) s₃:=by
  rintro s₃ rfl
  refine zqB (λn s'=>∃i τ ys H',Inv (zN X sc N' Ga C fp s2 H2) [] τ H' s'/\tn i s'.heap/\(∀b∈fp,H' b=none)/\H' D=none/\(∃its k,zk ys its/\s'.heap.get? D=some { cls:=.type "list",data:=.seq its.toArray k })/\W i n τ ys H')
   ?_ m0 ⟨0,_,[],H2,I3,st1,λb hb=>(f2 b hb).1,D0,⟨[],0,.nil,hacc⟩,w0⟩
  rintro n s4 ⟨i,τ,ys,H4,I4,st4,fr4,dn4,⟨its,k,rv,dg⟩,w4⟩
  obtain ⟨hlen,step⟩:=turn i n τ ys H4 w4
  rcases step with ⟨stop,fin⟩|⟨go,step⟩
  ·refine thn (T.done (zN X sc N' Ga C fp s2 H2) rfl rfl rfl hc i [(D,({ cls:=.type "list",data:=.seq its.toArray k }:Obj))] s4 τ H4 (λ_ _=>False) (I4.pins_of λp hp=>?_) (λb hb=>?_) st4 stop) λr s5 ⟨hr,I5⟩=>?_
   ·have e:p=(D,{ cls:=.type "list",data:=.seq its.toArray k }):=by simpa using hp
    subst e
    obtain ⟨g0,g1,g2,_⟩:=fD dn4
    exact ⟨dg,g0,g1,g2,λv z=>(nomatch z)⟩
   ·obtain ⟨g0,g1,g2,g3,g4,g5⟩:=fF fr4 b hb
    refine ⟨g0,g1,g2,g3,g4,λp hp=>?_⟩
    rcases mem_append.mp hp with z|z
    ·exact g5 p (mem_append_left _ z)
    ·have e:p=(D,{ cls:=.type "list",data:=.seq its.toArray k }):=by simpa using z
     subst e
     exact λq=>hDfp (by have q':D=b:=q;rw [q'];exact hb)
   ·subst hr
    have dg5:=(I5.pin (D,_) (mem_append_right _ (mem_singleton.mpr rfl))).1
    obtain ⟨m5,hn5,_⟩:=id I5.loc
    refine ⟨m5,hn5,λh' hsb=>?_⟩
    have kb:∀b u,b≠C->s5.heap.get? b=some u->h'.get? b=some u:=λb u hb e=>(hsb.2 b hb).trans e
    have hlt:∀b o,s2.heap.get? b=some o->b≠C/\b≠D:=λb o e=>by
     have:=lt_size e
     rw [hD] at this
     exact below b this
    have U:=I5.base
    refine ⟨.ref D,upd H4 D (.lst ys),I2.call' (s':={ s5 with heap:=h' }) (ch:=fp) I5.os ⟨λb o e n hb hx=>kb b o (hlt b o e).1 (U.keep b o e n hb hx),λb o e n hb hx=>?_,λb o e n hx=>?_,λb o e hx=>?_,λb xs e=>?_,λb o u e=>?_,λb ps e=>?_⟩ ?_ I5.bare (λb hb=>?_),rfl,fin D dn4 (by have h:mainGlobals<s2.heap.objs.size:=(I2.mod.glob.keeps I2.bk).lt;rw [hD] at h;exact ne_of_gt (lt_trans (by decide) h))⟩
    ·obtain ⟨sl,q⟩:=U.slot b o e n hb hx
     exact ⟨sl,kb b _ (hlt b o e).1 q⟩
    ·rw [ze (hlt b o e).2]
     exact U.free b o e n hx
    ·obtain ⟨o',q⟩:=U.there b o e hx
     exact ⟨o',kb b _ (hlt b o e).1 q⟩
    ·have q:=U.tups b xs e
     rw [ze (zM q dn4)]
     exact q
    ·have q:=U.frzs b o u e
     rw [ze (zM q dn4)]
     exact q
    ·obtain ⟨more,q⟩:=U.tbls b ps e
     exact ⟨more,by rw [ze (zM q dn4)];exact q⟩
    ·refine (I5.hok.but I5.free kb).add dn4 ?_
     exact ⟨le_of_lt hlen,its,k,rv,kb _ _ hDC dg5⟩
    ·obtain ⟨_,g1,g2,g3,g4,g5⟩:=f2 b hb
     exact ⟨g3,g1,g4,g5⟩
  ·refine thn (T.item (zN X sc N' Ga C fp s2 H2) rfl rfl rfl hc i [(D,({ cls:=.type "list",data:=.seq its.toArray k }:Obj))] s4 τ H4 (λ_ _=>False) (I4.pins_of λp hp=>?_) (λb hb=>?_) st4 go) λr s5 ⟨u,hr,h5⟩=>?_
   ·have e:p=(D,{ cls:=.type "list",data:=.seq its.toArray k }):=by simpa using hp
    subst e
    obtain ⟨g0,g1,g2,_⟩:=fD dn4
    exact ⟨dg,g0,g1,g2,λv z=>(nomatch z)⟩
   ·obtain ⟨g0,g1,g2,g3,g4,g5⟩:=fF fr4 b hb
    refine ⟨g0,g1,g2,g3,g4,λp hp=>?_⟩
    rcases mem_append.mp hp with z|z
    ·exact g5 p (mem_append_left _ z)
    ·have e:p=(D,{ cls:=.type "list",data:=.seq its.toArray k }):=by simpa using z
     subst e
     exact λq=>hDfp (by have q':D=b:=q;rw [q'];exact hb)
   ·subst hr
    refine thn h5 λ_ s6 ⟨x,H6,I6,r6,y6,st6,fr6⟩=>?_
    obtain ⟨dg6,dn6,_⟩:=I6.pin (D,_) (mem_append_right _ (mem_singleton.mpr rfl))
    have dn6':H6 D=none:=dn6
    have all6:∀b∈D::fp,z7 (zN X sc N' Ga C fp s2 H2) [] H6 b:=λb hb=>by
     rcases mem_cons.mp hb with z|z
     ·subst z;exact fD dn6'
     ·exact fF fr6 b z
    have obj6:∀b∈D::fp,∃o,s6.heap.get? b=some o/\∀v,o.data≠.cell v:=λb hb=>by
     rcases mem_cons.mp hb with z|z
     ·subst z;exact ⟨_,dg6,λv q=>(nomatch q)⟩
     ·exact T.obj _ _ st6 b z
    have I6':=(I6.unpinned (Ga:=[])).pinned all6 obj6
    refine thn (hg Ga C fp s2 H2 _ s6 τ H6 x u _ I6' r6 (step x H6 y6)) λ_ s7 ⟨τ7,H7,I7,q7⟩=>?_
    refine thn (ht Ga C fp s2 H2 _ s7 τ7 H7 _ I7 q7) λok s8 ⟨H8,I8,q8⟩=>?_
    have back:∀{s9:Shared}{H9:Hp},Inv (zN X sc N' Ga C fp s2 H2) ([]++zcn (D::fp) s6.heap) τ7 H9 s9->s9.heap.get? D=some { cls:=.type "list",data:=.seq its.toArray k }/\H9 D=none/\tn (i+1) s9.heap/\∀b∈fp,H9 b=none:=λ{s9 H9} I9=>by
     have pin:∀b o,b∈D::fp->s6.heap.get? b=some o->s9.heap.get? b=some o/\H9 b=none:=λb o hb e=>by
      have q:=I9.pin (b,o) (mem_append_right _ (mem_append_right _ (zcM hb e)))
      exact ⟨q.1,q.2.1⟩
     refine ⟨(pin D _ mem_cons_self dg6).1,(pin D _ mem_cons_self dg6).2,T.keep _ _ _ st6 λb hb o e=>(pin b o (mem_cons_of_mem _ hb) e).1,λb hb=>?_⟩
     obtain ⟨o,e,_⟩:=T.obj _ _ st6 b hb
     exact (pin b o (mem_cons_of_mem _ hb) e).2
    cases ok with
    | false =>
     obtain ⟨b1,b2,b3,b4⟩:=back I8
     simp only [false_eq_true,if_false] at q8 ⊢
     obtain ⟨m',hm,w'⟩:=q8
     exact ⟨m',hm,i+1,τ7,ys,H8,I8.unpinned,b3,b4,b2,⟨its,k,rv,b1⟩,w'⟩
    | true =>
     simp only [if_true] at q8 ⊢
     refine thn (he Ga C fp s2 H2 _ s8 τ7 H8 _ I8 q8) λy s9 ⟨yv,H9,I9,r9,m',hm,w'⟩=>?_
     obtain ⟨b1,b2,b3,b4⟩:=back I9
     have el:its.toArray.size<=sizeLine:=by
      have:=rv.length
      simp only [size_toArray]
      omega
     refine append_at (hsz:=el) b1 λh10 sb hD10=>?_
     obtain ⟨_,g1,_,g3,g4,g5⟩:=fD b2
     refine ⟨m',hm,i+1,τ7,ys++[yv],H9,(I9.unpinned (Ga:=[])).turned (t':=s9.toks) (λb o hb e=>(sb.2 b hb).trans e) b2 g1 g3 g4 g5,T.keep _ _ _ b3 λb hb o e=>(sb.2 b λq=>hDfp (by rw [<- q];exact hb)).trans e,b4,b2,⟨its++[y],k+1,rv.append (.cons r9 .nil),?_⟩,w'⟩
     show h10.get? D=_
     rw [hD10]
     simp
 exact codeAny_compStart_list (loop _ rfl) (T.self _ 0 _ _ _ st1 (loop _ rfl))
structure zaV(B:Heap)(l:List Env)(e:Addr)(cls fl:Value)(h:Heap):Prop where
 stays:B.StaysIn h
 new:B.get? e=none
 frames:h.FunFrames B l
 obj:∃oe vs,h.get? e=some oe/\oe.cls=cls/\oe.dict=none/\oe.data = .fields vs/\2<vs.size/\vs[2]?=some .none /\
  (vs[1]?=some .none\/∃T oT ts,vs[1]?=some (.ref T)/\B.get? T=none/\T≠e/\h.get? T=some oT/\oT.data = .fields ts/\ts[3]?=some fl)
section
variable {M:Model}{A:Around}{E:Value->Shared->Prop}{s:Shared}{B:Heap}{env:Env}{outer l:List Env}{L e:Addr}{cls fl:Value}
theorem zl8(o:Obj)(f:Array Value->Array Value):(o.mapFields f).dict=o.dict:=by
 obtain ⟨c,d,dt,sl⟩:=o
 cases dt<;>rfl
theorem zjG{oe:Obj}{vs:Array Value}{head:Value}{had:Bool}{Q:Unit->Shared->Prop}(hfr:A.frames=some (env::outer))(hf:env.frame=some L)(st:B.StaysIn s.heap)(hn:B.get? e=none)
  (hl:s.heap.FunFrames B (env::outer)) (he:s.heap.get? e=some oe) (hc:oe.cls=cls) (hdi:oe.dict=none) (hd:oe.data = .fields vs) (hz:2<vs.size) (h2:vs[2]?=some .none)
  (k:∀h',zaV B (env::outer) e cls (rawInt L) h'->s.heap.UpToSlots h'->Q () { s with heap:=h' }) :
  wpAny M A (do let a<-frameOf env;let pl<-entryPlaceOf L had;let b<-EntryCells.newEntry head a .none (rawInt L) .none pl;setField (.ref e) 1 b) Q E s:=by
 have nfr:e∉(env::outer).filterMap (·.frame):=λz=>by
  obtain ⟨_,o,ho,nf⟩:=hl.mem z
  rw [he] at ho
  cases ho
  exact nf vs hd
 refine wpAny_bind (wpAny_frameOf_fun hfr hl hf λg only=>?_)
 obtain ⟨_,same,slots⟩:=only
 refine wpAny_bind (wpAny_entryPlaceOf λpl hpl=>?_)
 have key:∀(tb:Obj)(ts:Array Value),tb.data = .fields ts->ts[3]?=some (rawInt L)->wpAny M A (setField (.ref e) 1 (.ref g.objs.size)) Q E { s with heap:=g.push tb }:=by
  intro tb ts td t3
  have e1:g.get? e=some oe:=(same e nfr).trans he
  have e2:(g.push tb).get? e=some oe:=get?_push_of_some _ e1
  have hT:(g.push tb).get? g.objs.size=some tb:=get?_push_size _ (by rw [Obj.isFreed_of_fields td])
  have hne:g.objs.size≠e:=ne_of_gt (lt_size e1)
  have fresh:B.get? g.objs.size=none:=by
   cases q:B.get? g.objs.size with
   | none=>rfl
   | some o =>
    obtain ⟨sl,z⟩:=slots _ o (st _ o q)
    exact absurd (lt_size z) (lt_irrefl _)
  have up:∀b o,b≠e->g.get? b=some o->((g.push tb).update e (mapFields (·.setIfInBounds 1 (.ref g.objs.size)))).get? b=some o:=λb o hb q =>
   (get?_update_other _ _ (Ne.symm hb)).trans (get?_push_of_some _ q)
  have notE:∀b o,s.heap.get? b=some o->(∀ws,o.data≠.fields ws)->b≠e:=λb o q nf z=>by
   rw [z,he] at q
   cases q
   exact nf vs hd
  have dd:=data_mapFields hd (·.setIfInBounds 1 (Value.ref g.objs.size))
  refine wpAny_setField e2 hd (by omega) (k _ ⟨λb o q=>?_,hn,?_,?_⟩ λb o q nf=>?_)
  ·refine up b o (λz=>by rw [z,hn] at q;cases q) ((same b λz=>?_).trans (st b o q))
   rw [(hl.mem z).1] at q
   cases q
  ·refine hl.of_keeps λb o q nf=>?_
   obtain ⟨sl,z⟩:=slots b o q
   exact ⟨_,up b _ (notE b o q nf) z,rfl⟩
  ·refine ⟨_,_,get?_update_self _ e2 (Obj.isFreed_of_fields dd),(Obj.cls_mapFields _ _).trans hc,(zl8 _ _).trans hdi,dd,by simpa using hz,by rw [Array.getElem?_setIfInBounds_ne (by decide)];exact h2,.inr ⟨g.objs.size,tb,ts,?_,fresh,hne,?_,td,t3⟩⟩
   ·rw [Array.getElem?_setIfInBounds_self_of_lt (by omega)]
   ·rw [get?_update_other _ _ (Ne.symm hne)]
    exact hT
  ·obtain ⟨sl,z⟩:=slots b o q
   exact ⟨sl,up b _ (notE b o q nf) z⟩
 unfold EntryCells.newEntry newFields
 refine wpAny_bind (wpAny_newObj_type ?_ (hpl.sizeOk5 _ _ _ _ _))
 exact key _ _ rfl (by simp)
theorem ziI{Q:Unit->Shared->Prop}(hfr:A.frames=some (env::outer))(hf:env.frame=some L)(x:zaV B (env::outer) e cls fl s.heap)
  (k:∀h',zaV B (env::outer) e cls (rawInt L) h'->s.heap.UpToSlots h'->Q () { s with heap:=h' }):wpAny M A (noteFrame (.ref e) env) Q E s:=by
 obtain ⟨st,hn,hl,oe,vs,he,hc,hdi,hd,hz,h2,h1⟩:=x
 unfold noteFrame
 simp only [hf]
 rcases h1 with h1|⟨T,oT,ts,h1,nT,Te,gT,dT,t3⟩
 ·refine wpAny_bind (wpAny_field he hd h1 ?_)
  rw [if_neg (show ¬ ((Value.none != Value.none)=true) by decide)]
  exact zjG hfr hf st hn hl he hc hdi hd hz h2 k
 ·refine wpAny_bind (wpAny_field he hd h1 ?_)
  rw [if_pos (show (Value.ref T != Value.none)=true by simp)]
  refine wpAny_bind (wpAny_field gT dT t3 ?_)
  by_cases hfl:fl=rawInt L
  ·subst hfl
   rw [if_pos (show (rawInt L==rawInt L)=true by simp)]
   exact wpAny_pure (k s.heap ⟨st,hn,hl,oe,vs,he,hc,hdi,hd,hz,h2,.inr ⟨T,oT,ts,h1,nT,Te,gT,dT,t3⟩⟩ (Heap.UpToSlots.refl _))
  ·rw [if_neg (show ¬ ((fl==rawInt L)=true) by simpa using hfl)]
   refine wpAny_bind (wpAny_setField gT dT (Array.getElem?_eq_some_iff.mp t3).1 ?_)
   have oth:∀b,b≠T->(s.heap.update T (mapFields (·.setIfInBounds 3 Value.none))).get? b=s.heap.get? b:=λb hb=>get?_update_other _ _ (Ne.symm hb)
   have notT:∀b o,s.heap.get? b=some o->(∀ws,o.data≠.fields ws)->b≠T:=λb o q nf z=>by
    rw [z,gT] at q
    cases q
    exact nf ts dT
   refine zjG (B:=B) (cls:=cls) hfr hf (λb o q=>?_) hn (hl.of_keeps λb o q nf=>⟨o,(oth b (notT b o q nf)).trans q,rfl⟩) ((oth e (Ne.symm Te)).trans he) hc hdi hd hz h2 λh' y up=>k h' y λb o q nf=>up b o ((oth b (notT b o q nf)).trans q) nf
   exact (oth b λz=>by rw [z,nT] at q;cases q).trans (st b o q)
theorem ze6{Q:Unit->Shared->Prop}(x:zaV B l e cls fl s.heap)(k:∀h',zaV B l e cls .none h'->s.heap.UpToSlots h'->Q () { s with heap:=h' }):wpAny M A (setFlight (.ref e) none) Q E s:=by
 obtain ⟨st,hn,hl,oe,vs,he,hc,hdi,hd,hz,h2,h1⟩:=x
 unfold setFlight
 rcases h1 with h1|⟨T,oT,ts,h1,nT,Te,gT,dT,t3⟩
 ·refine wpAny_bind (wpAny_field he hd h1 ?_)
  rw [if_neg (show ¬ ((Value.none != Value.none)=true) by decide)]
  exact wpAny_pure (k s.heap ⟨st,hn,hl,oe,vs,he,hc,hdi,hd,hz,h2,.inl h1⟩ (Heap.UpToSlots.refl _))
 ·refine wpAny_bind (wpAny_field he hd h1 ?_)
  rw [if_pos (show (Value.ref T != Value.none)=true by simp)]
  have lt3:3<ts.size:=(Array.getElem?_eq_some_iff.mp t3).1
  have dd:=data_mapFields dT (·.setIfInBounds 3 Value.none)
  have oth:∀b,b≠T->(s.heap.update T (mapFields (·.setIfInBounds 3 Value.none))).get? b=s.heap.get? b:=λb hb=>get?_update_other _ _ (Ne.symm hb)
  have notT:∀b o,s.heap.get? b=some o->(∀ws,o.data≠.fields ws)->b≠T:=λb o q nf z=>by
   rw [z,gT] at q
   cases q
   exact nf ts dT
  refine wpAny_setField gT dT lt3 (k _ ⟨λb o q=>(oth b λz=>by rw [z,nT] at q;cases q).trans (st b o q),hn,hl.of_keeps λb o q nf=>⟨o,(oth b (notT b o q nf)).trans q,rfl⟩,oe,vs,(oth e (Ne.symm Te)).trans he,hc,hdi,hd,hz,h2,
   .inr ⟨T,_,_,h1,nT,Te,get?_update_self _ gT (Obj.isFreed_of_fields dd),dd,?_⟩⟩ λb o q nf=>⟨o.slots,(oth b (notT b o q nf)).trans q⟩)
  rw [Array.getElem?_setIfInBounds_self_of_lt lt3]
theorem zqb{Q:Unit->Shared->Prop}(hfr:A.frames=some (env::outer))(hf:env.frame=some L)(x:zaV B (env::outer) e cls fl s.heap)
  (k:∀h',zaV B outer e cls .none h'->s.heap.UpToSlots h'->Q () { s with heap:=h' }):wpAny M A (leaving env (.ref e)) Q E s:=by
 unfold leaving
 refine wpAny_bind (ziI hfr hf x λh1 y u1=>ze6 (s:={ s with heap:=h1 }) y λh2 z u2=>?_)
 obtain ⟨a,b,⟨_,_,c⟩,d⟩:=z
 exact k h2 ⟨a,b,c,d⟩ (u1.trans u2)
end
def CXW(P:Program)(w:World):CXT:=λouter H s E e s'=>∃(ea C:Addr)(B:Heap)(H':Hp)(sI:Shared),e = .ref ea/\zaV B outer ea (.ref C) .none s'.heap/\Un (frs outer) [] H H' s.heap sI.heap/\HOk P w H' sI.heap /\
 sI.os=s.os/\AllBare sI.gens/\s'.os=s.os/\AllBare s'.gens/\(∀b o,sI.heap.get? b=some o->b∉frs outer->B.get? b=some o)/\sI.heap.UpToSlots s'.heap/\E (.ref C) none H'
def zaH(X:Cx)(Ex:Addr->St->Hp->Prop):Prop:=∀(Ga:List (Addr×Obj))(σ:St)(H:Hp)(sI:Shared)(ea C:Addr)(B:Heap)(fl:Value)(s':Shared),Inv X Ga σ H sI->zaV B X.stack ea (.ref C) fl s'.heap->s'.os=sI.os->AllBare s'.gens ->
 (∀b o,sI.heap.get? b=some o->b∉frs X.stack->B.get? b=some o)->sI.heap.UpToSlots s'.heap->Ex C σ H->X.xe (.ref ea) s'
theorem zgJ{X:Cx}:zaH X (λ_ _ _=>False):=λ_ _ _ _ _ _ _ _ _ _ _ _ _ _ _ h=>h.elim
theorem zaH.imp{X:Cx}{Ex Ex':Addr->St->Hp->Prop}(T:zaH X Ex)(h:∀C σ H,Ex' C σ H->Ex C σ H):zaH X Ex':=λGa σ H sI ea C B fl s' I f a b c d q=>T Ga σ H sI ea C B fl s' I f a b c d (h _ _ _ q)
theorem zbI{cm:Bool}{P:Program}{w:World}{K:PySem.W.Frag}{mg:Str->Option Value}{base:Heap}{N:List Str}{qual:Str}{scope:Scope}{f:Addr}{cd:Value}{A:Around}{outer:List Env}{s:Shared}{H:Hp}{E:XK} :
  zaH (za8 (CXW P w) cm P w K mg base N qual scope f cd A outer s H E) (λC _ H'=>E (.ref C) none H'):=by
 intro Ga σ H' sI ea C B fl s' I x os bare hB up q
 have ff:A.frames=some outer:=by
  have:=I.ok.frames
  cases h:A.frames with
  | none =>
   have z:(A.deeper (envOfC qual scope s.heap.objs.size f cd)).frames=none:=by
    first|(show (A.frames.map _)=none;rw [h];rfl)|simp [Around.deeper,Around.under,h]
   rw [show (za8 (CXW P w) cm P w K mg base N qual scope f cd A outer s H E).A=A.deeper (envOfC qual scope s.heap.objs.size f cd) from rfl,z] at this
   cases this
  | some l =>
   have z:=Around.frames_deeper (env:=envOfC qual scope s.heap.objs.size f cd) h
   rw [show (za8 (CXW P w) cm P w K mg base N qual scope f cd A outer s H E).A=A.deeper (envOfC qual scope s.heap.objs.size f cd) from rfl,z] at this
   have:=Option.some.inj this
   exact congrArg some (List.cons.inj this).2
 show wpAny (model P w) (A.deeper (envOfC qual scope s.heap.objs.size f cd)) (leaving (envOfC qual scope s.heap.objs.size f cd) (.ref ea)) _ _ s'
 refine zqb (L:=s.heap.objs.size) (Around.frames_deeper ff) rfl x λh' y u=>?_
 have hid:∀b o,b≠s.heap.objs.size->sI.heap.get? b=some o->(hideAll sI.heap [s.heap.objs.size]).get? b=some o:=λb o hb e=>hideAll_get _ e (by simpa using hb)
 have U:=I.base
 have lt:∀b o,s.heap.get? b=some o->b≠s.heap.objs.size:=λb o e=>ne_of_lt (lt_size e)
 have nl:∀b:Addr,b∉(za8 (CXW P w) cm P w K mg base N qual scope f cd A outer s H E).ex:=λb z=>absurd (show b∈([]:List Addr) from z) (by simp)
 refine ⟨ea,C,B,H',{ sI with heap:=hideAll sI.heap [s.heap.objs.size] },rfl,y,⟨λb o e n hb _=>hid b o (lt b o e) (U.keep b o e n hb (nl b)),λb o e n hb _=>?_,λb o e n _=>U.free b o e n (nl b),λb o e _=>?_,U.tups,U.frzs,U.tbls⟩,
  I.hok.but (C:=s.heap.objs.size) I.free hid,I.os,I.bare,os.trans I.os,bare,λb o e hb=>?_,λb o e nf=>?_,q⟩
 ·obtain ⟨sl,z⟩:=U.slot b o e n hb (nl b)
  exact ⟨sl,hid b _ (lt b o e) z⟩
 ·obtain ⟨o',z⟩:=U.there b o e (nl b)
  exact ⟨o',hid b _ (lt b o e) z⟩
 ·have e':=of_hideAll _ e
  refine hB b o e' λz=>?_
  have z':b∈s.heap.objs.size::frs outer:=z
  rcases mem_cons.mp z' with r|r
  ·rw [r] at e
   have z9:(hideAll sI.heap [s.heap.objs.size]).get? s.heap.objs.size=none:=PySem.W.hideAll_none _ (by simp)
   exact absurd (z9.symm.trans e) (by simp)
  ·exact hb r
 ·exact (up.trans u) b o (of_hideAll _ e) nf
def XE(Ex:Addr->St->Hp->Prop)(σ:St):XK:=λc _ H'=>∃C,c = .ref C/\Ex C σ H'
def zsB(sp:Sp)(dvs:List V)(Ex:Addr->St->Hp->Prop)(t:TA):TE:=λσ H Q=>t σ H λvs H1=>sp (vs++dvs) H1 Q (XE Ex σ)
def zdK(C:Addr)(m:Str)(sp:Sp)(dvs:List V)(Ex:Addr->St->Hp->Prop)(ta:TE)(t:TA):TE:=λσ H Q=>ta σ H λx H1=>∃a dx fs,x = .ref a/\H1 a=some (.ins C dx fs)/\fs.lookup m=none /\
 t σ H1 λvs H2=>sp (x::(vs++dvs)) H2 Q (XE Ex σ)
section
variable {X:Cx}{cm:Bool}{k:Nat}{f C:Addr}{fd:FuncData}{ps:List Str}{sp:Sp}{dvs:List V}{ds:List Value}{Ex:Addr->St->Hp->Prop}{x m:Str}{p pos apos:Pos}{e o:Expr}{es:List Expr}{ta:TE}{t:TA}
theorem zaH.of{Ga:List (Addr×Obj)}{σ:St}{H:Hp}{s s':Shared}{v:Value}(T:zaH X Ex)(I:Inv X Ga σ H s)(h:CXW X.prog X.w X.stack H s (XE Ex σ) v s'):X.xe v s':=by
 obtain ⟨ea,C,B,H',sI,rfl,y,un,hok,os,bare,os',bare',hB,up,C',ec,q⟩:=h
 cases ec
 exact T Ga σ H' sI ea C B .none s' (I.call' os un hok bare λb z=>absurd z (by simp)) y (os'.trans os.symm) bare' hB up q
theorem zjT{Ga:List (Addr×Obj)}{σ:St}{H:Hp}{s:Shared}{Q:VK}{us:List Value}{vs:List V}(T:zaH X Ex)(F:zt X.prog X.w X.K X.mg X.base (CXW X.prog X.w) cm k f fd ps sp)(hr:zD cm k X.A)(hb:zaJ X.K fd ps ds)(hd:zk dvs ds)
  (I:Inv X Ga σ H s) (r:zk vs us) (h:sp (vs++dvs) H Q (XE Ex σ)):wpAny (model X.prog X.w) X.A (call (.ref f) us) (EP X Ga σ Q) X.xe s:=by
 have r2:zk (vs++dvs) (us++ds):=r.append hd
 have hl:(us++ds).length=ps.length:=by rw [<- r2.length];exact F.len _ _ _ _ h
 refine wpAny_call (codeAny_mono (F.run X.A X.stack s H ⟨us,[]⟩ (us++ds) (vs++dvs) Q (XE Ex σ) hr I.env0 (hb s us I.kIn hl) r2 h) λr s' hq=>?_)
 cases r with
 | error v=>exact T.of I hq
 | ok fl =>
  cases fl with
  | ret u=>exact I.after hq
  | next=>exact False.elim hq
  | brk=>exact False.elim hq
  | cont=>exact False.elim hq
theorem zsl{pl:Sem Bool}(he:PE X o ta)(c:Cls X.K C)(hm:zbY X.K C m f)(T:zaH X Ex)(F:zt X.prog X.w X.K X.mg X.base (CXW X.prog X.w) cm k f fd ps sp)(hr:zD cm k X.A)(hb:zaJ X.K fd ps ds)(hd:zk dvs ds)(ha:PA X (e::es) t)
  (hst:starEach (e::es) X.env=(false,eval e X.env)::starEach es X.env:=by rfl) (hpl:(backTo pos (starEach es X.env)).any (·.1)=false:=by rfl)
  (ht:eval (.Call (.Attribute o m apos) (e::es) [] pos) X.env=(do
   let ov<-eval o X.env
   standAt apos.atName
   let (f,first)<-holding [ov] (getMethod ov m pl)
   callWith pos f first (backTo pos (starEach (e::es) X.env)) (backToKw pos (keywordEach [] X.env))):=by rfl) :
  PE X (.Call (.Attribute o m apos) (e::es) [] pos) (zdK C m sp dvs Ex ta t):=by
 intro Ga s σ H Q I h
 refine methodCall_KW (pl:=pl) (thn (he Ga s σ H _ I h) λu s1 ⟨x,H1,I1,rx,a,dx,fs,ex,ea,l,q⟩=>?_) ht
 subst ex
 obtain rfl:u=Value.ref a:=rx
 refine zel I1 ea c hm l ?_
 refine callWith_K (first:=[.ref a]) (h₀:=X.base) I.ok.mod.kin hm.kp (thn (ha pos Ga s1 σ H1 _ I1 q) λus s2 ⟨vs,H2,I2,r,q2⟩=>⟨I2.kIn,?_⟩) hst hpl
 exact zjT (us:=.ref a::us) (vs:=.ref a::vs) T F hr hb hd I2 (.cons rfl r) q2
end
theorem Fun.okW{P:Program}{w:World}{K:PySem.W.Frag}{mg:Str->Option Value}{base:Heap}{x qual:Str}{st:Stmt}{f:Addr}{fd:FuncData}{N ps:List Str}{cm:Bool}{k:Nat}{sp:Sp}(F:Fun K x qual st f fd)(S:zG N ps (zj st))(len:∀vs H Q E,sp vs H Q E->vs.length=ps.length)
  (hbody:∀(cdv:Value)(A:Around)(outer:List Env)(s:Shared)(H:Hp)(vs:List V)(Q:VK)(E:XK),zD cm k (A.deeper (envOfC qual (zj st) s.heap.objs.size f cdv))->sp vs H Q E ->
   ∃t,PSs (za8 (CXW P w) cm P w K mg base N qual (zj st) f cdv A outer s H E) (zz st) t/\t { nx:=λ_ H'=>Q .non H',rt:=Q } (start N vs) H):zt P w K mg base (CXW P w) cm (k+1) f fd ps sp:=by
 obtain ⟨oc,od,kV,doc,pm,an,cdv,ct,osl,rfl,lk,hcd⟩:=F.ex
 exact zht lk hcd S len λA outer s H vs Q E hr hsp=>hbody cdv A outer s H vs Q E hr hsp
def bmV:List Value:=[.type "ValueError",.type "Exception",.type "BaseException",.type "object"]
def zaB(K:PySem.W.Frag)(C:Addr):Prop:=excIn K C bmV "ValueError.__new__"=true
structure ze3(h:Heap)(C:Addr)(mro:List Value):Prop where
 ex:∃bm N nm q bs hdct sn sub ab col dd k0 k1 k2 k3 k5 mN,mro = .ref C::bm/\h.get? C=some (excClassObj nm q C N bs bm hdct sn sub ab col dd k0 k1 k2 k3 k5 "ValueError.__new__")/\h.Ns N mN/\mN "__init__"=none/\OwnTail h bmV bm
theorem zaB.obj{K:PySem.W.Frag}{C:Addr}{h:Heap}(x:zaB K C)(X:K.In h):∃cd,clsIn K C=some cd/\ze3 h C cd.mro:=by
 unfold zaB excIn at x
 split at x
 ·rename_i dd cd sl look
  have hc:clsIn K C=some cd:=by
   unfold clsIn
   rw [look]
  refine ⟨cd,hc,?_⟩
  split at x
  ·rename_i C' bm k0 k1 k2 k3 n k5 em es
   simp only [and_eq_true,beq_iff_eq,not_eq_true'] at x
   obtain ⟨⟨⟨⟨⟨c1,c2⟩,c3⟩,c4⟩,c5⟩,c6⟩:=x
   subst c1 c2
   obtain ⟨a1,a2,a3,a4,a5,a6,a7,a8,a9,a10,a11⟩:=cd
   dsimp only at em c3 c5 c6 ⊢
   subst em c3
   obtain ⟨sl⟩:=sl
   dsimp only at es
   subst es
   exact ⟨bm,a4,a1,a5,a2,a6,a7,a8,a9,a10,dd,k0,k1,k2,k3,k5,_,rfl,X _ _ look,.of_isNs (PySem.W.isNs_of_in X c5),PySem.W.nsMap_none_of_in X c5 c6,PySem.W.tail_of_in X c4⟩
  ·cases x
 ·cases x
def zeo(C:Addr)(Ex:Addr->St->Hp->Prop)(t:TA):TS:=λ_ σ H=>t σ H λvs H1=>vs.length<=sizeLine/\Ex C σ H1
theorem zpM{X:Cx}{Ex:Addr->St->Hp->Prop}{C:Addr}{x:Str}{np cpos pos:Pos}{e:Expr}{es:List Expr}{t:TA}(hc:X.calm=true)(T:zaH X Ex)(O:zaB X.K C)(hg:Gl X x)(hm:X.mg x=some (.ref C))(ha:PA X (e::es) t)
  (hdb:(x==("__debug__":Str))=false:=by decide) (hst:starEach (e::es) X.env=(false,eval e X.env)::starEach es X.env:=by rfl) (hpl:(backTo cpos (starEach es X.env)).any (·.1)=false:=by rfl) :
  PS X (.Raise (some (.Call (.Name x np) (e::es) [] cpos)) none pos) (zeo C Ex t):=by
 intro Ga s σ H D I h
 obtain ⟨cd,_,⟨bm,N,nm,q,bs,hdct,sn,sub,ab,col,dd,k0,k1,k2,k3,k5,mN,em,hC,hN,hni,TL⟩⟩:=O.obj I.ok.mod.kin
 refine wpAny_Raise_call_subT (C:=C) (nm:=nm) (q:=q) (N:=N) (bs:=bs) (bm:=bm) (hdct:=hdct) (sn:=sn) (sub:=sub) (ab:=ab) (col:=col) (dd:=dd) (k0:=k0) (k1:=k1) (k2:=k2) (k3:=k3) (k5:=k5) (mN:=mN) PySem.F.excBase_ValueError (TL.hasType (by decide)) (I.ok.hd hc)
  (by rw [hst];show (false||(backTo cpos (starEach es X.env)).any (·.1))=false;rw [hpl];rfl) hni (zdn I hg hm ⟨rfl,?_⟩ hdb)
 have hA:=ha cpos Ga s σ H _ I h
 rw [hst] at hA ⊢
 refine Calls.evalArgs_plain (thn hA λus s2 ⟨vs,H2,I2,r2,hz,q2⟩=>⟨rfl,by rw [<- r2.length];exact hz,I2.bk _ _ hC,hN.keeps I2.bk,TL.keeps I2.bk,λh' ea hm'=>?_⟩)
 obtain ⟨tt,he,htn,_⟩:=hm'.there
 have hin:∀env∈X.stack,∀a,env.frame=some a->a∈frs X.stack:=λenv hm a ha=>List.mem_filterMap.mpr ⟨env,hm,ha⟩
 refine T Ga σ H2 s2 ea C (hideAll s2.heap (frs X.stack)) .none { s2 with heap:=h' } I2 ⟨λb o e=>hm'.keeps b o (of_hideAll _ e),?_,?_,?_⟩ rfl I2.bare (λb o e hb=>hideAll_get _ e hb) (λb o e _=>⟨o.slots,hm'.keeps b o e⟩) q2
 ·cases z:(hideAll s2.heap (frs X.stack)).get? ea with
  | none=>rfl
  | some o =>
   have:=of_hideAll _ z
   rw [hm'.new] at this
   cases this
 ·exact (PySem.W.funFrames_hide I2.stack hin).of_keeps λb o e _=>⟨o,hm'.keeps b o e,rfl⟩
 ·exact ⟨_,_,he,rfl,rfl,rfl,by simp,rfl,.inl rfl⟩
section
variable {M:Model}{A:Around}{E:Value->Shared->Prop}
theorem zpO{h:Heap}{g:Array GenState}{d:Drawn}{t:Nat}{os:OsState}{e C D:Addr}{oe:Obj}{mC mD:List Value}{Q:Bool->Shared->Prop}(OC:ze3 h C mC)(OD:ze3 h D mD)(he:h.get? e=some oe)(hcls:oe.cls = .ref C)
  (hsub:mC.contains (.ref D)=true) (hq:Q true ⟨h,g,d,t,os⟩):wpAny M A (excMatches (.ref e) (.ref D)) Q E ⟨h,g,d,t,os⟩:=by
 obtain ⟨bm,N,nm,q,bs,hdct,sn,sub,ab,col,dd,k0,k1,k2,k3,k5,mN,rfl,hC,_,_,TC⟩:=OC
 obtain ⟨bm',N',nm',q',bs',hdct',sn',sub',ab',col',dd',j0,j1,j2,j3,j5,mN',rfl,hD,_,_,TD⟩:=OD
 have b1:(Value.ref D::bm').contains (.type "BaseException")=true:=by
  rw [List.contains_cons,TD.hasType (X:="BaseException") (b:=true) (by decide),Bool.or_true]
 have b2:=tc_notTuple
 unfold excMatches
 repeat (first|(with_reducible refine wpAny_loadPart_at he ?_;rw [hcls])|with_reducible refine wpAny_loadPart_at hD ?_|(with_reducible refine wpAny_isSubtype_exc hD ?_;rw [b1])|(with_reducible refine wpAny_isSubtype_exc hC ?_;rw [hsub])|wp_step)
 exact hq
end
theorem zX.ex{P:Program}{w:World}{H:Hp}{h:Heap}{a:Addr}{o:HO}(x:zX P w H h a o):∃ob,h.get? a=some ob:=by
 cases o with
 | lst xs=>obtain ⟨_,_,_,_,e⟩:=x;exact ⟨_,e⟩
 | tup xs=>obtain ⟨_,_,_,o,e,_⟩:=x;exact ⟨_,e⟩
 | dK kvs=>obtain ⟨_,_,_,_,o,_,_,e,_⟩:=x;exact ⟨_,e⟩
 | dT kvs=>obtain ⟨_,_,_,_,o,_,_,e,_⟩:=x;exact ⟨_,e⟩
 | set S n=>obtain ⟨o,_,_,_,e,_⟩:=x;exact ⟨_,e⟩
 | ins C dx fs=>obtain ⟨_,_,_,e,_⟩:=x;exact ⟨_,e⟩
 | own y=>exact x
 | xd fs=>obtain ⟨_,⟨_,_,_,e,_⟩,_⟩:=x;exact ⟨_,e⟩
 | rng lo hi=>obtain ⟨_,_,_,e⟩:=x;exact ⟨_,e⟩
 | frz ob u=>exact ⟨_,x.1⟩
 | tbl ps=>exact ⟨_,x⟩
 | met f y=>exact ⟨_,x⟩
 | ext φ=>exact x.2.1
abbrev cxP(X:Cx)(Ga:List (Addr×Obj)):Cx:={ X with pn:=X.pn++Ga }
theorem Cx.Ok.p{X:Cx}(ok:X.Ok)(Ga:List (Addr×Obj)):(cxP X Ga).Ok :=
 ⟨ok.mod,ok.kind,ok.glob,ok.blt,ok.above,ok.inj,ok.has,ok.cab,ok.hd,ok.frames,ok.stk,ok.exf,ok.bs,ok.bsz,ok.noex,ok.exfs,ok.funs,ok.frf⟩
theorem Inv.p{X:Cx}{Ga:List (Addr×Obj)}{σ:St}{H:Hp}{s:Shared}(I:Inv X Ga σ H s):Inv (cxP X Ga) [] σ H s :=
 ⟨I.ok.p Ga,I.os,I.bare,I.base,I.loc,I.cell,I.free,I.freeC,λp hp=>I.pin p (by have h:p∈(X.pn++Ga)++[]:=hp;simpa using h),I.hok,I.len,I.hdk⟩
theorem Inv.unp{X:Cx}{Ga:List (Addr×Obj)}{σ:St}{H:Hp}{s:Shared}(ok:X.Ok)(I:Inv (cxP X Ga) [] σ H s):Inv X Ga σ H s :=
 ⟨ok,I.os,I.bare,I.base,I.loc,I.cell,I.free,I.freeC,λp hp=>I.pin p (by show p∈(X.pn++Ga)++[];simpa using hp),I.hok,I.len,I.hdk⟩
abbrev zfK(X:Cx)(Ga:List (Addr×Obj))(Ex:Addr->St->Hp->Prop):Cx:=(cxP X Ga).wish λe s'=>∃(ea C:Addr)(B:Heap)(H':Hp)(fl:Value)(σ:St)(sI:Shared),e = .ref ea/\Inv (cxP X Ga) [] σ H' sI/\zaV B X.stack ea (.ref C) fl s'.heap /\
 s'.os=sI.os/\AllBare s'.gens/\(∀b o,sI.heap.get? b=some o->b∉frs X.stack->B.get? b=some o)/\sI.heap.UpToSlots s'.heap/\Ex C σ H'
theorem zeG{X:Cx}{Ga:List (Addr×Obj)}{Ex:Addr->St->Hp->Prop}:zaH (zfK X Ga Ex) Ex:=λps σ H sI ea C B fl s' I y os bare hB up q =>
 ⟨ea,C,B,H,fl,σ,sI,rfl,(I.unwish.pins_of λp hp=>(nomatch hp)),y,os,bare,hB,up,q⟩
abbrev zb9(X:Cx)(Ga:List (Addr×Obj))(ea:Addr):Cx:={ X with pn:=X.pn++Ga,A:=X.A.mark (some (.ref ea)),calm:=false,xe:=λ_ _=>False }
def zca(C:Addr)(o:Obj):Prop:=o.cls = .ref C/\o.dict=none/\∃vs,o.data = .fields vs
theorem zjE{X:Cx}{Ga:List (Addr×Obj)}{σ:St}{H:Hp}{sI s':Shared}{ea C:Addr}{B:Heap}{fl:Value}(hex:X.ex=[])(I:Inv (cxP X Ga) [] σ H sI)(y:zaV B X.stack ea (.ref C) fl s'.heap)(os:s'.os=sI.os)(bare:AllBare s'.gens)
  (hB:∀b o,sI.heap.get? b=some o->b∉frs X.stack->B.get? b=some o) (up:sI.heap.UpToSlots s'.heap) :
  H ea=none/\∃oe,zca C oe/\s'.heap.get? ea=some oe/\Inv (zb9 X Ga ea) [] σ (upd H ea (.frz oe (.own 0))) s':=by
 obtain ⟨st,hn,hl,oe,vs,he,hc,hdi,hd,hz,h2,h1⟩:=y
 have nea:ea∉frs X.stack:=λz=>by
  obtain ⟨_,o,ho,nf⟩:=hl.mem z
  rw [he] at ho
  cases ho
  exact nf vs hd
 have new:sI.heap.get? ea=none:=by
  cases q:sI.heap.get? ea with
  | none=>rfl
  | some o =>
   have:=hB _ o q nea
   rw [hn] at this
   cases this
 have hH:H ea=none:=by
  cases q:H ea with
  | none=>rfl
  | some u =>
   obtain ⟨ob,z⟩:=(I.hok ea u q).ex
   rw [new] at z
   cases z
 have keep:∀b o,sI.heap.get? b=some o->b∉frs X.stack->s'.heap.get? b=some o:=λb o e hb=>st b o (hB b o e hb)
 have slot:∀b o,sI.heap.get? b=some o->b∈frs X.stack->∃sl,s'.heap.get? b=some { o with slots:=sl }:=λb o e hb=>by
  obtain ⟨_,o',ho',nf⟩:=I.stack.mem (show b∈(cxP X Ga).stack.filterMap (·.frame) from hb)
  rw [e] at ho'
  cases ho'
  exact up b o e nf
 have I1:Inv (cxP X Ga) [] σ H s':=I.call' (ch:=[]) os ⟨λb o e _ hb _=>keep b o e hb,λb o e _ hb _=>slot b o e hb,λ_ _ _ n _=>n,λb o e _=>?_,λ_ _ e=>e,λ_ _ _ e=>e,λb ps e=>⟨#[],by rw [e];simp⟩⟩
  (λb u e=>(I.hok b u e).stay (λc v hc q=>keep c v q λz=>?_) (λ_ q=>q) λ_ _ q=>q) bare λb z=>absurd z (by simp)
 ·have nel:ea≠X.env.locals:=λz=>by
   obtain ⟨m,⟨o,es,ep,ho,hdd,_⟩,_⟩:=I1.loc
   have ho':s'.heap.get? ea=some o:=by rw [z];exact ho
   rw [he] at ho'
   cases ho'
   rw [hd] at hdd
   cases hdd
  refine ⟨hH,oe,⟨hc,hdi,vs,hd⟩,he,⟨⟨I1.ok.mod,I1.ok.kind,I1.ok.glob,I1.ok.blt,I1.ok.above,I1.ok.inj,I1.ok.has,I1.ok.cab,λz=>(nomatch z),I1.ok.frames,I1.ok.stk,I1.ok.exf,I1.ok.bs,I1.ok.bsz,I1.ok.noex,I1.ok.exfs,I1.ok.funs,I1.ok.frf⟩,I1.os,I1.bare,
   ⟨I1.base.keep,I1.base.slot,λb o e n hx=>?_,I1.base.there,λb xs e=>?_,λb o u e=>?_,λb ps e=>?_⟩,I1.loc,I1.cell,?_,λx c e=>?_,λp hp=>?_,I1.hok.add hH ⟨he,oe,he⟩,I1.len,.inr ⟨ea,oe,vs,rfl,zp,hd,h2,C,hc⟩⟩⟩
  ·obtain ⟨o',z⟩:=I.base.there b o e hx
   rw [ze (λw=>by rw [w,new] at z;cases z)]
   exact I1.base.free b o e n hx
  ·have z:=I1.base.tups b xs e
   rw [ze (zM z hH)]
   exact z
  ·have z:=I1.base.frzs b o u e
   rw [ze (zM z hH)]
   exact z
  ·obtain ⟨more,z⟩:=I1.base.tbls b ps e
   exact ⟨more,by rw [ze (zM z hH)];exact z⟩
  ·rw [ze (Ne.symm nel)]
   exact I1.free
  ·have nc:c≠ea:=λw=>by
    obtain ⟨v,o,ho,hdd⟩:=I1.cell x c e
    rw [w,he] at ho
    cases ho
    rw [hd] at hdd
    cases hdd
   rw [ze nc]
   exact I1.freeC x c e
  ·obtain ⟨a,b,c,d,f⟩:=I1.pin p hp
   refine ⟨a,?_,c,d,f⟩
   rw [ze λw=>?_]
   ·exact b
   ·have:=(I.pin p hp).1
    rw [w,new] at this
    cases this
 ·by_cases hb:b∈frs X.stack
  ·obtain ⟨sl,z⟩:=slot b o e hb
   exact ⟨_,z⟩
  ·exact ⟨o,keep b o e hb⟩
 ·have zf:H c=none:=I.stkFree c z
  rcases hc with w|w
  ·rw [w] at zf
   rw [zf] at e
   cases e
  ·rw [zf] at w
   cases w
theorem Inv.unbound{X:Cx}{Ga:List (Addr×Obj)}{σ:St}{H:Hp}{s:Shared}{i:Nat}{n:Str}{m:Str->Option Value}{v:Option Value}{h':Heap}{tk:Nat}(I:Inv X Ga σ H s)(hN:X.N.Nodup)(hi:X.N[i]?=some n)
  (hm:s.heap.Ns X.env.locals m/\∀(i:Nat)(x:Str)(v:V),X.N[i]?=some x->σ[i]?=some (some v)->Vis X.env.scope x->∃u,zi v u/\zi5 X.env s.heap m x u)
  (hn':h'.Ns X.env.locals (λx=>if x=n then v else m x)) (hs:SameBut X.env.locals s.heap h'):Inv X Ga (σ.set i none) H { s with heap:=h',toks:=tk }:=by
 obtain ⟨oL,_,_,hoL,_⟩:=id hm.1
 have hiσ:i<σ.length:=by rw [I.len];exact (List.getElem?_eq_some_iff.mp hi).1
 have ne0:∀b o,X.s₀.heap.get? b=some o->b≠X.env.locals:=λb o e=>ne_of_lt (lt_of_lt_of_le (lt_size e) I.ok.above)
 refine ⟨I.ok,I.os,I.bare,⟨λb o e n hb hx=>(hs.2 b (ne0 b o e)).trans (I.base.keep b o e n hb hx),λb o e n hb hx=>?_,I.base.free,λb o e hx=>?_,I.base.tups,I.base.frzs,I.base.tbls⟩,⟨_,hn',λj y w e1 e2 e3=>?_⟩,λy c e=>?_,I.free,I.freeC,λp hp=>?_,
  I.hok.but I.free λb u hb e=>(hs.2 b hb).trans e,by simpa using I.len,I.hdk⟩
 ·obtain ⟨sl,z⟩:=I.base.slot b o e n hb hx
  exact ⟨sl,(hs.2 b (ne0 b o e)).trans z⟩
 ·obtain ⟨o',z⟩:=I.base.there b o e hx
  exact ⟨o',(hs.2 b (ne0 b o e)).trans z⟩
 ·by_cases hj:j=i
  ·subst hj
   rw [getElem?_set_self hiσ] at e2
   cases e2
  ·rw [getElem?_set_ne (Ne.symm hj)] at e2
   obtain ⟨u,r,l⟩:=hm.2 j y w e1 e2 e3
   refine ⟨u,r,?_⟩
   have hy:y≠n:=λq=>hj (zf1 hN e1 (q ▸ hi))
   rcases l with ⟨k1,k2⟩|⟨k1,c,e,z⟩
   ·exact .inl ⟨k1,by simp [hy,k2]⟩
   ·exact .inr ⟨k1,c,e,z.sameBut hs (I.cne y c e)⟩
 ·obtain ⟨w,z⟩:=I.cell y c e
  exact ⟨w,z.sameBut hs (I.cne y c e)⟩
 ·obtain ⟨a,b,c,d,f⟩:=I.pin p hp
  exact ⟨(hs.2 p.1 c).trans a,b,c,d,f⟩
theorem Inv.unsuite{X:Cx}{Ga:List (Addr×Obj)}{σ:St}{H:Hp}{s:Shared}{ea:Addr}(ok:X.Ok)(hh:X.A.handled=none)(I:Inv (zb9 X Ga ea) [] σ H s):Inv X Ga σ H s :=
 ⟨ok,I.os,I.bare,I.base,I.loc,I.cell,I.free,I.freeC,λp hp=>I.pin p (by show p∈(X.pn++Ga)++[];simpa using hp),I.hok,I.len,.inl hh⟩
def zeg(K:PySem.W.Frag)(i:Nat)(D:Addr)(tb:(Addr->St->Hp->Prop)->TS)(ts:TS):TS:=λZ σ H =>
 tb (λC σ' H'=>zaB K C/\PySem.W.mroIn K C (.ref D)=some true/\∀ea oe,H' ea=none->zca C oe ->
  ts { nx:=λσ2 H2=>Z.nx (σ2.set i none) H2,rt:=Z.rt,bk:=λσ2 H2=>Z.bk (σ2.set i none) H2,ct:=λσ2 H2=>Z.ct (σ2.set i none) H2 } (σ'.set i (some (.ref ea))) (upd H' ea (.frz oe (.own 0)))) Z σ H
theorem zkp{X:Cx}{i:Nat}{D:Addr}{x n:Str}{np hpos pos:Pos}{body:List Stmt}{b₀:Stmt}{suite:List Stmt}{tb:(Addr->St->Hp->Prop)->TS}{ts:TS}(hc:X.calm=true)(hex:X.ex=[])(hstk:X.stack=X.env::X.outer/\X.env.frame=some X.env.locals)
  (hN:X.N.Nodup) (hi:X.N[i]?=some n) (hlo:X.env.scope.names.lookup n=some .local) (OD:zaB X.K D) (hg:Gl X x) (hm:X.mg x=some (.ref D))
  (hb:∀Ga Ex,PSs (zfK X Ga Ex) body (tb Ex)) (hs:∀Ga ea,PSs (zb9 X Ga ea) (b₀::suite) ts) (hdb:(x==("__debug__":Str))=false:=by decide) :
  PS X (.Try body [.ExceptHandler (some (.Name x np)) (some n) (b₀::suite) hpos] [] [] pos) (zeg X.K i D tb ts):=by
 intro Ga s σ H Z I h
 have hh:X.A.handled=none:=I.ok.hd hc
 have hp:(X.env.scope.kind == .class||(X.env.scope.kind == .module&&X.env.locals != X.env.globals))=false:=by rw [I.ok.kind];rfl
 refine wpAny_Try_except (wpAny_mono (hb Ga _ [] s σ H Z (I.p.wish _) h) (λf s1 q=>?_) λe s1 q=>?_)
 ·cases f with
  | next =>
   obtain ⟨σ',H',J,q⟩:=q
   exact wpAny_execs_nil ⟨σ',H',Inv.unp I.ok J.unwish,q⟩
  | brk=>obtain ⟨σ',H',J,q⟩:=q;exact ⟨σ',H',Inv.unp I.ok J.unwish,q⟩
  | cont=>obtain ⟨σ',H',J,q⟩:=q;exact ⟨σ',H',Inv.unp I.ok J.unwish,q⟩
  | ret u=>obtain ⟨v,σ',H',J,r,q⟩:=q;exact ⟨v,σ',H',Inv.unp I.ok J.unwish,r,q⟩
 ·obtain ⟨ea,C,B,H',fl,σ',sI,rfl,J,y,os,bare,hB,up,OC,sub,want⟩:=q
  have fr:X.A.frames=some (X.env::X.outer):=by rw [I.ok.frames,hstk.1]
  rw [hstk.1] at y
  refine ziI fr hstk.2 y λh2 y2 u2=>ze6 (s:={ s1 with heap:=h2 }) y2 λh3 y3 u3=>?_
  have y3':zaV B X.stack ea (.ref C) .none h3:=by rw [hstk.1];exact y3
  have up3:=(up.trans u2).trans u3
  obtain ⟨_,oe3,c3,g3,J3⟩:=zjE (s':={ s1 with heap:=h3 }) hex J y3' os bare hB up3
  obtain ⟨cdC,cC,eC⟩:=OC.obj J3.kIn
  obtain ⟨cdD,cD,eD⟩:=OD.obj J3.kIn
  have hsub:cdC.mro.contains (.ref D)=true:=by
   unfold PySem.W.mroIn at sub
   rw [cC] at sub
   simp only [bind_some] at sub
   split at sub
   ·cases sub
   ·exact Option.some.inj sub
  refine wpAny_handleBy_cons (codeAny_handlers_test (zdn (X:=zb9 X Ga ea) J3 hg hm ?_ hdb)) (by intro q;cases q)
  refine zpO (h:=h3) (g:=s1.gens) (d:=s1.drawn) (t:=s1.toks) (os:=s1.os) eC eD g3 c3.1 hsub ?_
  refine codeAny_handlers_suite_as ?_
  refine ze6 (s:={ s1 with heap:=h3 }) y3 λh4 y4 u4=>?_
  have y4':zaV B X.stack ea (.ref C) .none h4:=by rw [hstk.1];exact y4
  obtain ⟨hH4,oe4,c4,g4,J4⟩:=zjE (s':={ s1 with heap:=h4 }) hex J y4' os bare hB (up3.trans u4)
  refine zfU (X:=zb9 X Ga ea) (i:=i) (v:=.ref ea) J4 hN hi (.inl hlo) rfl (λs5 J5=>?_) (.inr hlo)
  refine wpAny_mono (hs Ga ea [] s5 _ _ _ J5 (want ea oe4 hH4 c4)) (λf s6 q6=>?_) λ_ _ z=>z.elim
  have go:∀{σ7:St}{H7:Hp},Inv (zb9 X Ga ea) [] σ7 H7 s6->(∀s7,Inv X Ga (σ7.set i none) H7 s7->SP X Ga Z f s7) ->
    wpAny (model X.prog X.w) X.A (do bindName X.env n .none;unbindBehindTheSuite X.env n hpos) (λ_ s7=>SP X Ga Z f s7) X.xe s6:=λ{σ7 H7} J7 k=>by
   have J8:=Inv.unsuite I.ok hh J7
   obtain ⟨m,hns,hl⟩:=id J8.loc
   exact wpAny_nameGoes_keeps hlo hns hp λh' v hn' hsb=>k _ (J8.unbound hN hi ⟨hns,hl⟩ hn' hsb)
  cases f with
  | next=>obtain ⟨σ7,H7,J7,q7⟩:=q6;exact go J7 λs7 I7=>⟨_,_,I7,q7⟩
  | brk=>obtain ⟨σ7,H7,J7,q7⟩:=q6;exact go J7 λs7 I7=>⟨_,_,I7,q7⟩
  | cont=>obtain ⟨σ7,H7,J7,q7⟩:=q6;exact go J7 λs7 I7=>⟨_,_,I7,q7⟩
  | ret u=>obtain ⟨v,σ7,H7,J7,r7,q7⟩:=q6;exact go J7 λs7 I7=>⟨v,_,_,I7,r7,q7⟩
end L2
namespace L2
open PySem PySem.Spec PyProof.Rows PySem.W
section
variable {prog:Program}{w:World}{A:Around}{E:Value->Shared->Prop}{K:Frag}{h:Heap}{g:Array GenState}{d:Drawn}{t:Nat}{os:OsState}{e C:Addr}{oe:Obj}
theorem zqz{tk:Tok}{Q:Fin->Shared->Prop}(X:K.In h)(I:InstAt h e oe C none)(f3:findIn K (.ref C) "__class__"=some (some (.builtin "object.__class__")))(hm:mroIn K C (.type "object")=some true)
  (hq:Q (.done (.ret (.ref C))) ⟨h,g,d,t,os⟩):wpAny (model prog w) A (Builtin.«object.__getattribute__» ⟨[.ref e,.str "__class__" tk],[]⟩) Q E ⟨h,g,d,t,os⟩:=by
 have L0:=I.type (M:=model prog w)
 have L3:=looks_findIn (M:=model prog w) X f3
 have f5:=F.typeOf_object_class
 have f6:=F.slot_gs_get.lookup
 have f7:=F.slot_gs_set.lookup
 repeat (any_goals (first|assumption|with_reducible refine L0.at ?_|with_reducible refine L3.at ?_|wp_step))
 exact class_get (s:=⟨h,g,d,t,os⟩) X I hm (wpAny_pure hq)
theorem zp6{nameV:Value}{Q:Unit->Shared->Prop}(X:K.In h)(I:InstAt h e oe C none)(hb:mroIn K C (.type "BaseException")=some true)(hq:Q () ⟨h,g,d,t,os⟩) :
  wpAny (model prog w) A (checkBuiltinCall "BaseException.__getattribute__" ⟨[.ref e,nameV],[]⟩) Q E ⟨h,g,d,t,os⟩:=by
 have L0:=I.type (M:=model prog w)
 have L4:=looks_mroIn (M:=model prog w) X hb
 have c1:builtinKind "BaseException.__getattribute__"=some .slot:=by decide +kernel
 have c2:splitId "BaseException.__getattribute__"=some ("BaseException","__getattribute__"):=by decide +kernel
 have c3:=F.args_bexc_ga (.ref e) nameV
 simp only [checkBuiltinCall,c1,c2]
 refine wpAny_bind ?_
 unfold isInstance
 repeat (first|with_reducible refine L0.at ?_|with_reducible refine L4.at ?_|wp_step)
 exact hq
theorem zov{Q:Option Value->Shared->Prop}(X:K.In h)(I:InstAt h e oe C none)(f1:findIn K (.ref C) "__getattribute__"=some (some (.builtin "BaseException.__getattribute__")))(f2:findIn K (.ref C) "__getattr__"=some none)
  (f3:findIn K (.ref C) "__class__"=some (some (.builtin "object.__class__"))) (hm:mroIn K C (.type "object")=some true) (hb:mroIn K C (.type "BaseException")=some true) (hq:Q (some (.ref C)) ⟨h,g,d,t+1,os⟩) :
  wpAny (model prog w) A (getAttr? (.ref e) "__class__") Q E ⟨h,g,d,t,os⟩:=by
 have L0:=I.type (M:=model prog w)
 have L1:=looks_findIn (M:=model prog w) X f1
 have L2:=looks_findIn (M:=model prog w) X f2
 have f4:=PySem.F.attr_ValueError.ga.bind (.ref e)
 have x2:(builtin "BaseException.__getattribute__" == builtin "object.__getattribute__")=false:=by decide +kernel
 have x1:(onTheHeap (Value.ref C)&&builtin "BaseException.__getattribute__" == builtin "object.__getattribute__")=false:=by rw [x2];rfl
 have x0:(false&&onTheHeap (builtin "BaseException.__getattribute__"))=false:=rfl
 unfold getAttr? getAttrBy?
 refine wpAny_bind (wpAny_mkText (wpAny_bind (wpAny_attempt ?_)))
 repeat (any_goals (first|assumption|with_reducible refine L0.at ?_|with_reducible refine L1.at ?_|with_reducible refine L2.at ?_|wp_step))
 refine codeAny_call_builtin PySem.F.attr_ValueError.ga.plain F.entry_bexc_ga (zp6 X I hb (zqz X I f3 hm ?_))
 repeat (any_goals (first|assumption|wp_step))
structure zbA(K:Frag)(C:Addr):Prop where
 err:zaB K C
 ga:findIn K (.ref C) "__getattribute__"=some (some (.builtin "BaseException.__getattribute__"))
 gr:findIn K (.ref C) "__getattr__"=some none
 cl:findIn K (.ref C) "__class__"=some (some (.builtin "object.__class__"))
 ob:mroIn K C (.type "object")=some true
 ba:mroIn K C (.type "BaseException")=some true
theorem zm1(O:zbA K C):KitX K (.ref e) (.ref C) (λh=>InstAt h e oe C none) where
 ty:=λ_ _ _ I=>I.type
 it:=λM h X I=>by
  obtain ⟨cd,_,⟨bm,N,nm,q,bs,hdct,sn,sub,ab,col,dd,k0,k1,k2,k3,k5,mN,_,hC,_⟩⟩:=O.err.obj X
  intro A' Q' E' s' k q'
  unfold isType loadHead
  exact wpAny_bind (wpAny_loadPart (k _ _ hC) (wpAny_pure q'))
 ne:=λh tp dd its n sl X htp=>by
  obtain ⟨cd,_,⟨bm,N,nm,q,bs,hdct,sn,sub,ab,col,d1,k0,k1,k2,k3,k5,mN,_,hC,_⟩⟩:=O.err.obj X
  refine Bool.eq_false_iff.mpr λz=>?_
  have ec:C=tp:=Value.ref.inj (beq_iff_eq.mp z)
  subst ec
  have wd:=congrArg Obj.data (Option.some.inj (hC.symm.trans htp))
  cases wd
 ca:=λ{prog w A E Q s} X I k=>by
  obtain ⟨h,g,d,t,os⟩:=s
  exact zov X I O.ga O.gr O.cl O.ob O.ba k
end
def zh2:V->Option Value
 | .ref a=>some (.ref a)
 | .ty n=>some (.type n)
 | _=>none
inductive TyX(K:Frag)(H:Hp):V->Value->Prop where
 | of {x:V}{t:Value} (h:zaX K H x t):TyX K H x t
 | exc {a C:Addr}{o:Obj} (e:H a=some (.frz o (.own 0))) (ho:zca C o) (O:zbA K C):TyX K H (.ref a) (.ref C)
def zdH(K:Frag):List V->Hp->VK->Prop:=λxs H Q=>∃x c t u b,xs=[x,c]/\zh2 c=some u/\TyX K H x t/\kitOne K t u=some b/\Q (.bl b) H
theorem zgx{X:Cx}:zR X (.builtin "isinstance") (zdH X.K):=by
 intro Ga s σ H xs us Q I r h
 obtain ⟨x,c,t,u,b,rfl,hc,ty,hk,q⟩:=h
 cases r with
 | cons r1 rr =>
  cases rr with
  | cons r2 rr =>
   cases rr
   rename_i v1 v2
   have e2:v2=u:=by
    cases c with
    | ref a=>cases hc;exact r2
    | ty n=>cases hc;exact r2
    | _=>cases hc
   subst e2
   cases ty with
   | of ty=>exact zpi I r1 ty hk λtk=>⟨.bl b,H,I.tok tk,rfl,q⟩
   | exc e ho O =>
    rename_i a C o
    obtain rfl:v1=Value.ref a:=r1
    obtain ⟨z,_⟩:=I.hok a _ e
    obtain ⟨c1,c2,vs,c3⟩:=ho
    have J:InstAt s.heap a o C none:=⟨z,c1,by unfold notCls;rw [c3],by rw [c2];trivial⟩
    exact kia_one (zm1 O) I.kIn J hk (λw=>nomatch w) λtk=>⟨.bl b,H,I.tok tk,rfl,q⟩
end L2
namespace L2
open PySem PySem.Spec PyProof.Rows
def Hnd(A:Around)(h:Heap):Prop:=A.handled=none\/∃(a:Addr)(o:Obj)(vs:Array Value),A.handled=some (.ref a)/\h.get? a=some o/\o.data = .fields vs/\vs[2]?=some .none/\∃C,o.cls = .ref C
theorem Inv.hnd{X:Cx}{Ga:List (Addr×Obj)}{σ:St}{H:Hp}{s:Shared}(I:Inv X Ga σ H s):Hnd X.A s.heap:=by
 rcases I.hdk with h|⟨a,o,vs,h1,h2,h3⟩
 ·exact .inl h
 ·exact .inr ⟨a,o,vs,h1,(I.hok a _ h2).1,h3⟩
theorem Hnd.keeps{A:Around}{h h':Heap}(x:Hnd A h)(k:∀b o,(∃C,o.cls = .ref C)->h.get? b=some o->h'.get? b=some o):Hnd A h':=by
 rcases x with x|⟨a,o,vs,h1,h2,h3,h4,h5⟩
 ·exact .inl x
 ·exact .inr ⟨a,o,vs,h1,k a o h5 h2,h3,h4,h5⟩
theorem zm9:entryFor table "proto.unchain"=some Builtin.«proto.unchain»:=entryFor_of_tree (by kernel_rfl)
section
variable {prog:Program}{w:World}{A:Around}{E:Value->Shared->Prop}{s:Shared}
theorem zl4{α:Type}{e:Addr}{oe:Obj}{ws:Array Value}{Q:α->Shared->Prop}(hh:Hnd A s.heap)(he:s.heap.get? e=some oe)(hd:oe.data = .fields ws)(hz:2<ws.size)(hc:∀C,oe.cls≠.ref C)
  (k:∀h',SameBut e s.heap h'->(∃o,h'.get? e=some o/\o.cls=oe.cls)->E (.ref e) { s with heap:=h' }):wpAny (model prog w) A (raiseNew (.ref e):Sem α) Q E s:=by
 unfold raiseNew
 refine wpAny_bind (wpAny_handled ?_)
 rcases hh with hh|⟨a,o,vs,h1,h2,h3,h4,C,h5⟩
 ·rw [hh]
  exact wpAny_bind (wpAny_pure (wpAny_throw (k s.heap (SameBut.refl _ _) ⟨oe,he,rfl⟩)))
 ·rw [h1]
  have ne:a≠e:=λz=>by rw [z,he] at h2;cases h2;exact hc C h5
  dsimp only
  rw [if_pos (show (Value.ref a != Value.ref e)=true by simpa using ne)]
  refine wpAny_bind (wpAny_holding (wpAny_runValue (codeAny_builtin zm9 ?_)))
  refine wpAny_bind (m:=field (.ref a) 2) (wpAny_field h2 h3 h4 ?_)
  rw [if_pos (show (Value.none==Value.none)=true by rfl)]
  refine wpAny_pure (wpAny_bind ?_)
  show wpAny _ _ (setField (.ref e) 2 (.ref a)) _ _ _
  have dd:=data_mapFields hd (·.setIfInBounds 2 (Value.ref a))
  exact wpAny_setField he hd hz (wpAny_throw (k _ (SameBut.update ..) ⟨_,get?_update_self _ he (Obj.isFreed_of_fields dd),Obj.cls_mapFields _ _⟩))
theorem zm7{α:Type}{Q:α->Shared->Prop}(hh:Hnd A s.heap)(k:∀h' e,(∀b o,s.heap.get? b=some o->h'.get? b=some o)->(∃o,h'.get? e=some o/\o.cls = .type "StopIteration")->E (.ref e) { s with heap:=h' }) :
  wpAny (model prog w) A (newExc (.type "StopIteration") []>>=λe=>(raiseNew e:Sem α)) Q E s:=by
 refine wpAny_bind ?_
 simp only [newExc,newTuple]
 refine wpAny_bind (wpAny_newObj_type (wpAny_bind (m:=firstArgMember _ _) (wpAny_of_eq (a:=Value.none) (by first|rfl|(simp only [firstArgMember];rfl)) (wpAny_newObj_type ?_ (by size_fits)))) (by size_fits))
 have old:∀(o1 o2:Obj) b o,s.heap.get? b=some o->((s.heap.push o1).push o2).get? b=some o:=λo1 o2 b o q=>get?_push_of_some _ (get?_push_of_some _ q)
 refine zl4 (hh.keeps λb o _ q=>old _ _ b o q) (get?_push_size _ rfl) rfl (by simp;omega) (λC z=>by cases z) λh' sb ⟨o,g,c⟩=>k h' _ (λb o q=>?_) ⟨o,g,c⟩
 refine (sb.2 b (λz=>?_)).trans (old _ _ b o q)
 have:=lt_size q
 rw [z,size_push] at this
 exact absurd (lt_of_succ_lt this) (lt_irrefl _)
theorem zko{it t:Addr}{i:Nat}{items:Array Value}{Q:Option Value->Shared->Prop}(hh:Hnd A s.heap)(hit:s.heap.IsTupleIter it t i)(ht:s.heap.IsTuple t items)(hx:items[i]?=none)
  (k:∀h',ExtBut it s.heap h'->Q none { s with heap:=h' }):wpAny (model prog w) A (pyNext (.ref it)) Q E s:=by
 obtain ⟨o,ho,hc,hd⟩:=id hit
 obtain ⟨ol,hol,_,nl,hdl⟩:=ht
 unfold pyNext
 refine wpAny_bind (wpAny_attempt (wpAny_callSpecial?_slot (name:=Str.ofString "__next__") hit.typeIs F.slot_tuple_iterator_next (wpAny_call_entry F.slot_tuple_iterator_next hit.typeIs F.entry_tuple_iterator_next ?_ (F.args_tuple_iterator_next_1 _))))
 refine wpAny_bind (m:=field (.ref it) 0) (wpAny_field ho hd (x:=.ref t) rfl ?_)
 rw [if_neg (show ¬ ((Value.ref t==Value.none)=true) by simp)]
 refine wpAny_bind (m:=field (.ref it) 1) (wpAny_field ho hd (x:=.int i 0) rfl (wpAny_bind (m:=seqItems? (.ref t)) (wpAny_seqItems hol hdl ?_)))
 simp only [Int.toNat_natCast,hx]
 refine wpAny_bind (wpAny_rule (wpAny_bind (wpAny_setField ho hd (by simp) ?_)))
 refine zm7 (hh.keeps λb q hq e=>(get?_update_other _ _ λz=>?_).trans e) λh' e up ⟨o',g',c'⟩ =>
  wpAny_bind (wpAny_isInstance (T:="StopIteration") (b:=true) ⟨o',g',c'⟩ isSubtype_stop (wpAny_pure (k h' λb q hb z=>up b q ((get?_update_other _ _ (Ne.symm hb)).trans z))))
 obtain ⟨C,hC⟩:=hq
 rw [<- z,ho] at e
 cases e
 rw [hc] at hC
 cases hC
theorem zqK{env:Env}{elts:List Expr}{x1}{pos:Pos}{t:Addr}{items:Array Value}{Q:Unit->Shared->Prop}(hh:Hnd A s.heap)(ht:IsTup s.heap t items)(hn:(assignEach elts env).length=items.size)(hstar:(assignEach elts env).findIdx? (·.1)=none)
  (h:∀h',ExtBut s.heap.objs.size s.heap h'->wpAny (model prog w) A (assignInOrder ((assignEach elts env).map (·.2)) items.toList) Q E { s with heap:=h' }):wpAny (model prog w) A (assign (.Tuple elts x1 pos) env (.ref t)) Q E s:=by
 have lt:t≠s.heap.objs.size:=by obtain ⟨o,ho,_⟩:=ht;exact ne_of_lt (lt_size ho)
 have all:List.take items.size (List.drop 0 items.toList)=items.toList:=by rw [List.drop_zero];exact take_of_length_le (by simp)
 have core:wpAny (model prog w) A (unpackItems (.ref t) items.size none) (λvs s'=>∃h',vs=items.toList/\s'={ s with heap:=h' }/\ExtBut s.heap.objs.size s.heap h') E s:=by
  unfold unpackItems
  refine wpAny_bind ?_
  unfold notIterableAtAll
  refine wpAny_bind (wpAny_specialOf ht.typeIs slot_tuple_iter.lookup (wpAny_pure ?_))
  simp only [false_eq_true,if_false]
  refine wpAny_bind (wpAny_holding (iter_tuple ht (wpAny_bind (wpAny_holding (draw_tuple lt items.size 0 _ _ ⟨_,get?_push_size _ rfl,rfl,rfl⟩ (ht.push _) (by omega) λh1 it1 s1=>?_)))))
  rw [all,if_neg (by simp)]
  have t1:IsTup h1 t items:=(ht.push _).extBut s1.extBut lt
  have up1:∀b o,b≠s.heap.objs.size->s.heap.get? b=some o->h1.get? b=some o:=λb o hb e=>s1.extBut b o hb (get?_push_of_some _ e)
  refine wpAny_bind (wpAny_holding (zko (s:={ s with heap:=h1 }) (hh.keeps λb o _ e=>up1 b o (ne_of_lt (lt_size e)) e) it1 t1 (by simp) λh2 e2=>?_))
  simp only [Option.isSome_none,false_eq_true,if_false]
  exact wpAny_pure ⟨h2,rfl,rfl,λb o hb e=>e2 b o hb (up1 b o hb e)⟩
 rw [assign_Tuple]
 refine wpAny_bind (wpAny_standAt ?_)
 unfold unpack
 rw [hstar,hn]
 refine wpAny_bind (wpAny_holding (wpAny_mono core (λvs s' ⟨h',e1,e2,x⟩=>?_) λ_ _ z=>z))
 subst e1 e2
 exact h h' x
end
theorem zkS{X:Cx}{pos:Pos}{es:List Expr}{k:Nat}{t:TGs}{n:Nat}(h:PGs X es t)(hl:(assignEach es X.env).length=n:=by rfl)(hst:(assignEach es X.env).findIdx? (·.1)=none:=by rfl):PG X (.Tuple es k pos) (ziQ X.K n t):=by
 intro Ga s σ H v u Q I r q
 obtain ⟨a,xs,rfl,hx,hn,q⟩:=q
 obtain rfl:u=Value.ref a:=r
 obtain ⟨its,rv,ht,hz⟩:=I.tuple hx
 refine zqK I.hnd ht (by rw [hl,<- hn,rv.length];simp) hst λh' ex=>?_
 have I1:Inv X Ga σ H { s with heap:=h' }:=I.kept (t':=s.toks) λb o e=>ex b o (ne_of_lt (lt_size e)) e
 have:=h Ga { s with heap:=h' } σ H xs its Q I1 rv q
 simpa using this
section
variable {prog:Program}{w:World}{A:Around}{E:Value->Shared->Prop}{s:Shared}
end
def Itz(K:PySem.W.Frag)(a b:Addr):It :=
 ⟨λi H=>∃xs ys x y,SqL K H a xs/\SqL K H b ys/\xs[i]?=some x/\ys[i]?=some y,λi H v H'=>∃T x y,H T=none/\v = .ref T/\H'=upd H T (.tup [x,y])/\(∀xs,SqL K H a xs->xs[i]?=some x)/\∀ys,SqL K H b ys->ys[i]?=some y,
  λi H=>∃xs ys,SqL K H a xs/\SqL K H b ys/\xs.length<=i⟩
def eqL(xs ys:List V):Bool:=xs.length==ys.length&&(List.range xs.length).all λi=>eqV (xs.getD i .non) (ys.getD i .non)
theorem zgK:∀{xs:List V},xs.all zC=true->(∀x∈xs,∀b,x≠.byt b)->eqL xs xs=true:=by
 intro xs h _
 unfold eqL
 rw [beq_self_eq_true,Bool.true_and,all_eq_true]
 intro i hi
 have hlt:=mem_range.mp hi
 have hm:xs[i]∈xs:=getElem_mem hlt
 have:=all_eq_true.mp h _ hm
 rw [getD_eq_getElem?_getD,List.getElem?_eq_getElem hlt,Option.getD_some]
 cases e:xs[i] with
 | non=>rfl
 | bl b=>simp [eqV]
 | int j=>simp [eqV]
 | str x=>simp [eqV]
 | _=>rw [e] at this;cases this
section
variable {X:Cx}
def zh4(K:PySem.W.Frag)(neg:Bool):R2:=λx y H Q=>∃a b xs ys,x = .ref a/\y = .ref b/\SqL K H a xs/\SqL K H b ys/\xs.all zC=true/\ys.all zC=true/\Q (.bl (if neg then !eqL xs ys else eqL xs ys)) H
theorem ziS{Ga:List (Addr×Obj)}{σ:St}{H:Hp}{s:Shared}{a b:Addr}{xs ys:List V}(I:Inv X Ga σ H s)(ha:SqL X.K H a xs)(hb:SqL X.K H b ys)(fx:xs.all zC=true)(fy:ys.all zC=true) :
  ∃is js:List Value,s.heap.IsList a is.toArray/\s.heap.IsList b js.toArray/\xs.length=is.length/\ys.length=js.length/\∀(A:Around)(j:Nat)(h1:j<is.toArray.size)(h2:j<js.toArray.size),SeqAt.EqAt A s is.toArray[j] js.toArray[j] (eqV (xs.getD j .non) (ys.getD j .non)):=by
 obtain ⟨is,r1,p1,_⟩:=I.list ha
 obtain ⟨js,r2,p2,_⟩:=I.list hb
 refine ⟨is,js,p1.isList,p2.isList,r1.length,r2.length,λA j h1 h2=>?_⟩
 have l1:=r1.length
 have l2:=r2.length
 simp only [size_toArray] at h1 h2
 have e1:xs[j]?=some (xs.getD j .non):=by rw [getD_eq_getElem?_getD,List.getElem?_eq_getElem (by omega)];rfl
 have e2:ys[j]?=some (ys.getD j .non):=by rw [getD_eq_getElem?_getD,List.getElem?_eq_getElem (by omega)];rfl
 obtain ⟨u,g1,q1⟩:=r1.get e1
 obtain ⟨v,g2,q2⟩:=r2.get e2
 rw [List.getElem?_eq_getElem h1] at g1
 rw [List.getElem?_eq_getElem h2] at g2
 have f1:=all_eq_true.mp fx _ (mem_of_getElem? e1)
 have f2:=all_eq_true.mp fy _ (mem_of_getElem? e2)
 have z:=zf2 (A:=A) (s:=s) q1 q2 f1 f2
 have w1:is.toArray[j]=u:=by simpa using Option.some.inj g1
 have w2:js.toArray[j]=v:=by simpa using Option.some.inj g2
 rw [w1,w2]
 exact z
theorem zjD(hu:X.A.units<cLine):OpR X (compareOp .Eq) (zh4 X.K false):=by
 intro Ga s σ H x y v u Q I rx ry h
 obtain ⟨a,b,xs,ys,rfl,rfl,ha,hb,fx,fy,q⟩:=h
 cases rx
 cases ry
 obtain ⟨is,js,p1,p2,l1,l2,eq⟩:=ziS I ha hb fx fy
 by_cases hz:is.toArray.size=js.toArray.size
 ·refine SeqAt.eq_listAt p1 p2 hz hu (λj h1 h2=>eq _ j h1 h2) ⟨.bl _,H,I,rfl,?_⟩
  have e:eqL xs ys=(List.range is.toArray.size).all λj=>eqV (xs.getD j .non) (ys.getD j .non):=by
   unfold eqL
   simp only [size_toArray] at hz ⊢
   rw [l1,l2,hz]
   simp
  rw [<- e]
  exact q
 ·refine SeqAt.eq_list_lengthsAt p1 p2 (by simpa using hz) hu ⟨.bl false,H,I,rfl,?_⟩
  have e:eqL xs ys=false:=by
   unfold eqL
   have:(xs.length==ys.length)=false:=by simp only [size_toArray] at hz;rw [l1,l2];simpa using hz
   rw [this,Bool.false_and]
  have q':Q (.bl (eqL xs ys)) H:=q
  rw [e] at q'
  exact q'
theorem ziW(hu:X.A.units<cLine):OpR X (compareOp .NotEq) (zh4 X.K true):=by
 intro Ga s σ H x y v u Q I rx ry h
 obtain ⟨a,b,xs,ys,rfl,rfl,ha,hb,fx,fy,q⟩:=h
 cases rx
 cases ry
 obtain ⟨is,js,p1,p2,l1,l2,eq⟩:=ziS I ha hb fx fy
 have q':Q (.bl (!eqL xs ys)) H:=q
 by_cases hz:is.toArray.size=js.toArray.size
 ·refine SeqAt.RcNeAt.lists p1 p2 hz hu (λj h1 h2=>eq _ j h1 h2) _ _ _ _ ⟨.bl _,H,I,rfl,?_⟩
  have e:eqL xs ys=(List.range is.toArray.size).all λj=>eqV (xs.getD j .non) (ys.getD j .non):=by
   unfold eqL
   simp only [size_toArray] at hz ⊢
   rw [l1,l2,hz]
   simp
  rw [<- e]
  exact q'
 ·refine SeqAt.RcNeAt.lists_lengths p1 p2 (by simpa using hz) hu _ _ _ _ ⟨.bl true,H,I,rfl,?_⟩
  have e:eqL xs ys=false:=by
   unfold eqL
   have:(xs.length==ys.length)=false:=by simp only [size_toArray] at hz;rw [l1,l2];simpa using hz
   rw [this,Bool.false_and]
  rw [e] at q'
  exact q'
theorem Inv.big{Ga:List (Addr×Obj)}{σ:St}{H:Hp}{s:Shared}(I:Inv X Ga σ H s):sysModules<s.heap.objs.size:=by
 have h:mainGlobals<s.heap.objs.size:=(I.mod.glob.keeps I.bk).lt
 exact lt_trans (by decide) h
def zmP:TE:=λ_ H Q=>∀p,H p=none->Q (.ref p) (upd H p (.dK []))
theorem zrW{pos:Pos}:PE X (.Dict [] [] pos) zmP:=λGa s σ H Q I h =>
 wpAny_Dict_empty ⟨.ref s.heap.objs.size,_,I.laid (a:=s.heap.objs.size) (o:=.dK []) (t':=s.toks) (λ_ _ q=>get?_push_of_some _ q) (le_refl _) ⟨zero_le _,beq_eq_false_iff_ne.mpr (Ne.symm (ne_of_lt I.big)),[],.nil,Heap.DictOf.new s.heap⟩,rfl,h _ (I.hok.fresh (le_refl _))⟩
def zhP(K:PySem.W.Frag)(ta:TA):TI:=λσ H R=>ta σ H λvs H1=>∃a b,vs=[.ref a,.ref b]/\(∃xs,SqL K H1 a xs)/\(∃ys,SqL K H1 b ys)/\R (Itz K a b) H1
end
theorem zD.mark{c:Bool}{k:Nat}{A:Around}{v:Option Value}(r:zD c k A):zD false k (A.mark v):=⟨λh=>(nomatch h),r.dp,r.un,r.gd⟩
def zZ:Expr->Bool
 | .Starred _ _=>false
 | _=>true
theorem zbu{e:Expr}{es:List Expr}{env:Env}(h:zZ e=true):starEach (e::es) env=(false,eval e env)::starEach es env:=by
 cases e<;>first|rfl|(exact absurd (show false=true from h) Bool.false_ne_true)
def zaK(es:List Expr):Bool:=es.all zZ
theorem zhn{env:Env}:∀{es:List Expr}(h:zaK es=true),(starEach es env).any (·.1)=false
 | [],_=>rfl
 | e::es,h=>by
  unfold zaK at h
  rw [List.all_cons,and_eq_true] at h
  rw [zbu h.1,any_cons,zhn h.2]
  rfl
theorem zc3{pos:Pos}{env:Env}{es:List Expr}(h:zaK es=true):(backTo pos (starEach es env)).any (·.1)=false:=by
 have q:=zhn (env:=env) h
 unfold backTo
 rw [List.any_map]
 exact q
theorem zd8{e:Expr}{env:Env}(h:zZ e=true):starEach [e] env=[(false,eval e env)]:=(zbu h).trans rfl
section
variable {X:Cx}
theorem zr1{e:Expr}{es:List Expr}{te:TE}{t:TA}(ha:PE X e te)(hr:PA X es t)(hp:zZ e=true:=by rfl):PA X (e::es) (zeQ te t):=zdT ha hr (zbu hp)
theorem znH{id:String}{r:List V->Hp->VK->Prop}{x:Str}{e:Expr}{es:List Expr}{t:TA}{p pos:Pos}(hc:zR X (.builtin id) r)(hg:Gl X x)(hm:X.mg x=none)(hv:bootBuiltins x=some (.builtin id))(ha:PA X (e::es) t)(hp:zZ e=true:=by rfl)(hps:zaK es=true:=by rfl)(hn:x≠"__name__":=by decide)(hdb:(x==("__debug__":Str))=false:=by decide):PE X (.Call (.Name x p) (e::es) [] pos) (tCB r t) :=
 zi4 hc hg hm hv ha hn hdb (zbu hp) (zc3 hps)
theorem zoU{T:String}{r:List V->Hp->VK->Prop}{x:Str}{e:Expr}{es:List Expr}{t:TA}{p pos:Pos}(hc:zR X (.type T) r)(hg:Gl X x)(hm:X.mg x=none)(hv:bootBuiltins x=some (.type T))(ha:PA X (e::es) t)(hp:zZ e=true:=by rfl)(hps:zaK es=true:=by rfl)(hn:x≠"__name__":=by decide)(hdb:(x==("__debug__":Str))=false:=by decide):PE X (.Call (.Name x p) (e::es) [] pos) (tCB r t) :=
 zjZ hc hg hm hv ha hn hdb (zbu hp) (zc3 hps)
theorem znK{tg a:Expr}{ta:TA}{p pos:Pos}(hg:Gl X "range")(hm:X.mg "range"=none)(ha:PA X [a] ta)(hp:zZ a=true:=by rfl):PIc true X tg (.Call (.Name "range" p) [a] [] pos) (zeS ta):=zry hg hm ha (zd8 hp)
theorem zsM{Ex:Addr->St->Hp->Prop}{C:Addr}{x:Str}{np cpos pos:Pos}{e:Expr}{es:List Expr}{t:TA}(hc:X.calm=true)(T:zaH X Ex)(O:zaB X.K C)(hg:Gl X x)(hm:X.mg x=some (.ref C))(ha:PA X (e::es) t)(hp:zZ e=true:=by rfl)(hps:zaK es=true:=by rfl)
  (hdb:(x==("__debug__":Str))=false:=by decide):PS X (.Raise (some (.Call (.Name x np) (e::es) [] cpos)) none pos) (zeo C Ex t):=zpM hc T O hg hm ha hdb (zbu hp) (zc3 hps)
end
structure New(H:Hp)(p:Addr)(o:HO)(H':Hp):Prop where
 no:H p=none
 at_:H' p=some o
 same:zg H H'
theorem New.mk'{H:Hp}{p:Addr}{o:HO}(h:H p=none):New H p o (upd H p o):=⟨h,zp,λb u e=>by rw [ze (zM e h)];exact e⟩
section
variable {X:Cx}
def zfv(t:TA):TE:=λσ H Q=>t σ H λxs H1=>xs.length<=sizeLine/\∀p H2,New H1 p (.lst xs) H2->p≠sysModules->Q (.ref p) H2
theorem zlF{es:List Expr}{t:TA}{pos:Pos}(h:PA X es t):PE X (.List es pos) (zfv t):=by
 intro Ga s σ H Q I hq
 refine wpAny_List_spliced (thn (h pos Ga s σ H _ I hq) λus s1 ⟨xs,H1,I1,r,z,q⟩=>⟨by rw [<- r.length];exact z,?_⟩)
 have hf:H1 s1.heap.objs.size=none:=I1.hok.fresh (le_refl _)
 refine ⟨.ref s1.heap.objs.size,upd H1 s1.heap.objs.size (.lst xs),I1.laid (t':=s1.toks) (λb u e=>get?_push_of_some _ e) (le_refl _) ?_,rfl,q _ _ (.mk' hf) (ne_of_gt I1.big)⟩
 exact ⟨z,us,0,r,get?_push_size _ rfl⟩
def zfa(t:TA):TE:=λσ H Q=>t σ H λxs H1=>xs.length<=sizeLine/\∀p H2,New H1 p (.tup xs) H2->Q (.ref p) H2
theorem zjQ{es:List Expr}{t:TA}{R R':List V->Hp->Prop}(hw:∀xs H,R xs H->R' xs H)(h:PA X es t)(pos:Pos)(Ga:List (Addr×Obj))(s:Shared)(σ:St)(H:Hp)(I:Inv X Ga σ H s)(q:t σ H R) :
  wpAny (model X.prog X.w) X.A (spliced (backTo pos (starEach es X.env))) (AP X Ga σ R') X.xe s :=
 thn (h pos Ga s σ H R I q) λ_ _ ⟨vs,H',a,b,c⟩=>⟨vs,H',a,b,hw _ _ c⟩
theorem zsj{es:List Expr}{t:TA}{x1}{pos:Pos}(h:PA X es t):PE X (.Tuple es x1 pos) (zfa t):=by
 have h':PA X es (λσ H Q=>∃R:List V->Hp->Prop,t σ H R/\∀xs H,R xs H->Q xs H):=λpos Ga s σ H Q I ⟨R,q,hw⟩=>zjQ hw h pos Ga s σ H I q
 intro Ga s σ H Q I hq
 exact zo0 h' Ga s σ H Q I ⟨_,hq,λxs H1 ⟨z,q⟩=>⟨z,λp hp=>q p _ (.mk' hp)⟩⟩
def zf4:TE:=λ_ H Q=>∀p H2,New H p (.dK []) H2->Q (.ref p) H2
theorem zrh{pos:Pos}:PE X (.Dict [] [] pos) zf4:=λGa s σ H Q I h=>zrW Ga s σ H Q I λp hp=>h p _ (.mk' hp)
end
def uR(v:V)(q:Addr->Prop):Prop:=∃a,v = .ref a/\q a
def ze4(to te:TE):TE:=λσ H Q=>to σ H λx H1=>uR x λl=>(∃xs,H1 l=some (.lst xs))/\te σ H1 λy H2=>∃xs,H2 l=some (.lst xs)/\xs.length<sizeLine/\Q .non (upd H2 l (.lst (xs++[y])))
section
variable {X:Cx}
theorem OpR.weak{f:Value->Value->Sem Value}{r r':R2}(h:OpR X f r)(hw:∀x y H Q,r' x y H Q->r x y H Q):OpR X f r' :=
 λGa s σ H x y v u Q I rx ry q=>h Ga s σ H x y v u Q I rx ry (hw x y H Q q)
theorem zR.weak{f:Value}{r r':List V->Hp->VK->Prop}(h:zR X f r)(hw:∀xs H Q,r' xs H Q->r xs H Q):zR X f r' :=
 λGa s σ H xs us Q I rs q=>h Ga s σ H xs us Q I rs (hw xs H Q q)
theorem IxR.weak{r r':R2}(h:IxR X r)(hw:∀x y H Q,r' x y H Q->r x y H Q):IxR X r' :=
 λvalue slice Ga s σ H x y v u Q I rx ry q hs=>h value slice Ga s σ H x y v u Q I rx ry (hw x y H Q q) hs
def zbd:R2:=λx y H Q=>(∃i j,x = .int i/\y = .int j/\Q (.int (i+j)) H)\/(∃i j,x = .str i/\y = .str j/\i.length+j.length<=sizeLine/\Q (.str (i++j)) H) \/
 (∃l b xs zs,x = .ref l/\y = .ref b/\H l=some (.lst xs)/\H b=some (.lst zs)/\xs.length+zs.length<=sizeLine/\∀p H2,New H p (.lst (xs++zs)) H2->Q (.ref p) H2)
theorem zan:OpR X (binaryOp .Add) zbd:=zkd.or (zoP.or (zk7.weak λx y H Q h=>by
 obtain ⟨l,b,xs,zs,e1,e2,h1,h2,h3,h4⟩:=h
 exact ⟨l,b,xs,zs,e1,e2,h1,h2,h3,λp hp=>h4 p _ (.mk' hp)⟩))
def zbz:R2:=λx y H Q=>(∃i j,x = .int i/\y = .int j/\zcV i j/\Q (.int (i*j)) H) \/
 (∃l k xs,x = .ref l/\y = .int k/\H l=some (.lst xs)/\-(2 ^ 63)<=k/\k<2 ^ 63/\xs.length*k.toNat<=sizeLine/\∀p H2,New H p (.lst (replicate k.toNat xs).flatten) H2->Q (.ref p) H2)
theorem zn8:OpR X (binaryOp .Mult) zbz:=znd.or (zkG.weak λx y H Q h=>by
 obtain ⟨l,k,xs,e1,e2,h1,h2,h3,h5,h4⟩:=h
 exact ⟨l,k,xs,e1,e2,h1,h2,h3,h5,λp hp=>h4 p _ (.mk' hp)⟩)
def uIx:R2:=λx y H Q=>(∃p xs i v,x = .ref p/\y = .int i/\H p=some (.lst xs)/\atI xs i=some v/\Q v H) \/
 (∃p xs i v,x = .ref p/\y = .int i/\H p=some (.tup xs)/\atI xs i=some v/\Q v H)\/(∃z i c,x = .str z/\y = .int i/\z.length<=sizeLine/\atI z.cps.toList i=some c/\Q (.str ⟨#[c]⟩) H)
theorem zaO:IxR X uIx:=zlw.weak λx y H Q h=>by
 rcases h with ⟨p,xs,i,v,e1,e2,h,r⟩|⟨p,xs,i,v,e1,e2,h,r⟩|h
 ·exact .inl ⟨p,xs,i,v,e1,e2,SqL.of h,r⟩
 ·exact .inr (.inl ⟨p,xs,i,v,e1,e2,SqT.of h,r⟩)
 ·exact .inr (.inr h)
def zdP:List V->Hp->VK->Prop:=λxs H Q=>(∃p ys,xs=[.ref p]/\H p=some (.lst ys)/\Q (.int ys.length) H)\/(∃p ys,xs=[.ref p]/\H p=some (.tup ys)/\Q (.int ys.length) H) \/
 (∃z,xs=[.str z]/\z.length<=sizeLine/\Q (.int z.length) H)
theorem zck:zR X (.builtin "len") zdP:=(zge.or zso).weak λxs H Q h=>by
 rcases h with ⟨p,ys,e,h,q⟩|⟨p,ys,e,h,q⟩|h
 ·exact .inl ⟨p,ys,e,.inl (SqL.of h),q⟩
 ·exact .inl ⟨p,ys,e,.inr (SqT.of h),q⟩
 ·exact .inr h
def uEq(neg:Bool):R2:=λx y H Q=>(zbh x y=true/\Q (.bl (if neg then !decide (x=y) else decide (x=y))) H) \/
 (∃a b xs ys,x = .ref a/\y = .ref b/\H a=some (.lst xs)/\H b=some (.lst ys)/\xs.all zC=true/\ys.all zC=true/\Q (.bl (if neg then !eqL xs ys else eqL xs ys)) H)
theorem zbv(hu:X.A.units<cLine):OpR X (compareOp .Eq) (uEq false):=(znk.or (zjD hu)).weak λx y H Q h=>by
 rcases h with h|⟨a,b,xs,ys,e1,e2,h1,h2,r⟩
 ·exact .inl ⟨h.1,by simpa using h.2⟩
 ·exact .inr ⟨a,b,xs,ys,e1,e2,SqL.of h1,SqL.of h2,r⟩
theorem zbX(hu:X.A.units<cLine):OpR X (compareOp .NotEq) (uEq true):=(znD.or (ziW hu)).weak λx y H Q h=>by
 rcases h with h|⟨a,b,xs,ys,e1,e2,h1,h2,r⟩
 ·exact .inl ⟨h.1,by simpa using h.2⟩
 ·exact .inr ⟨a,b,xs,ys,e1,e2,SqL.of h1,SqL.of h2,r⟩
def ze8(K:PySem.W.Frag)(ta:TE):TT:=λσ H Q=>ta σ H λx H'=>∃k,zbV K x H' k/\Q k H'
theorem zr6{a:Expr}{ta:TE}(ha:PE X a ta)(he:∀whole,isTrue a X.env whole=(do let v<-whole;standAt a.pos;holding [v] (truthy v)):=by intro _;rfl):PT X a (ze8 X.K ta):=zr7 ha he
def zei(C:Addr)(ta:TE)(f:Str):TE:=λσ H Q=>ta σ H λx H1=>∃a dx fs v,x = .ref a/\H1 a=some (.ins C dx fs)/\fs.lookup f=some v/\Q v H1
theorem zlT{C:Addr}{e:Expr}{ta:TE}{f:Str}{pos:Pos}(c:Cls X.K C)(n:zbe X.K C f)(he:PE X e ta)(hb:attributeBase e f X.env (eval e X.env)=eval e X.env:=by rfl):PE X (.Attribute e f pos) (zei C ta f):=by
 intro Ga s σ H Q I h
 refine zn5 hb (thn (he Ga s σ H _ I h) λu s1 ⟨x,H1,I1,rx,a,dx,fs,v,ex,ea,l,q⟩=>?_)
 subst ex
 obtain rfl:u=Value.ref a:=rx
 exact zj8 I1 ea c n l λu' s2 I2 ru=>⟨v,H1,I2,ru,q⟩
def zeV(C:Addr)(ta tv:TE)(f:Str):TS:=λD σ H=>tv σ H λy H1=>ta σ H1 λx H2=>∃a dx fs,x = .ref a/\H2 a=some (.ins C dx fs)/\fs.length<1000/\D.nx σ (upd H2 a (.ins C dx (zab f y fs)))
theorem zn0{C:Addr}{o value:Expr}{ta tv:TE}{f:Str}{pos pos':Pos}(c:Cls X.K C)(n:zbe X.K C f)(ha:PE X o ta)(hv:PE X value tv)(hs:swapsWith value (some (.Attribute o f pos')) pos.line X.env=pure false:=by rfl):PS X (.Assign [.Attribute o f pos'] value pos) (zeV C ta tv f):=by
 intro Ga s σ H D I h
 refine plainObj_wpAny_Assign_Attribute (thn (hv Ga s σ H _ I h) λu s1 ⟨y,H1,I1,ry,q⟩=>thn (ha Ga s1 σ H1 _ I1 q) λov s2 ⟨x,H2,I2,rx,a,dx,fs,ex,ea,l,q2⟩=>?_) hs
 subst ex
 obtain rfl:ov=Value.ref a:=rx
 exact znc I2 ea c n l ry λs3 I3=>⟨σ,_,I3,q2⟩
structure GF(P:Program)(w:World)(K:PySem.W.Frag)(mg:Str->Option Value)(base:Heap)(cm:Bool)(k:Nat)(x:Str)(ps:List Str)(sp:Sp):Prop where
 ex:∃(f:Addr)(fd:FuncData),zt P w K mg base CX0 cm k f fd ps sp/\mg x=some (.ref f)/\keepIn K (.ref f)=true/\zaJ K fd ps []
structure GM(P:Program)(w:World)(K:PySem.W.Frag)(mg:Str->Option Value)(base:Heap)(cm:Bool)(k:Nat)(C:Addr)(m:Str)(ps:List Str)(sp:Sp):Prop where
 ex:∃(f:Addr)(fd:FuncData),zt P w K mg base CX0 cm k f fd ps sp/\zbY K C m f/\zaJ K fd ps []
structure GMX(P:Program)(w:World)(K:PySem.W.Frag)(mg:Str->Option Value)(base:Heap)(cm:Bool)(k:Nat)(C:Addr)(m:Str)(ps:List Str)(sp:Sp):Prop where
 ex:∃(f:Addr)(fd:FuncData),zt P w K mg base (CXW P w) cm k f fd ps sp/\zbY K C m f/\zaJ K fd ps []
structure GC(P:Program)(w:World)(K:PySem.W.Frag)(mg:Str->Option Value)(base:Heap)(cm:Bool)(k:Nat)(x:Str)(C:Addr)(ps:List Str)(sp:Sp):Prop where
 ex:∃(f:Addr)(fd:FuncData),zt P w K mg base CX0 cm k f fd ps sp/\mg x=some (.ref C)/\Mk K C f/\zaJ K fd ps []
variable {cm:Bool}{k j:Nat}{x m:Str}{C:Addr}{ps:List Str}{sp:Sp}{e o:Expr}{es:List Expr}{t:TA}{ta:TE}{p pos apos:Pos}{Ex:Addr->St->Hp->Prop}
theorem zty(G:GF X.prog X.w X.K X.mg X.base cm j x ps sp)(hr:zD cm k X.A)(hg:Gl X x)(ha:PA X (e::es) t)(hj:j<=k:=by decide)(hdb:(x==("__debug__":Str))=false:=by decide)(hp:zZ e=true:=by rfl)(hps:zaK es=true:=by rfl) :
  PE X (.Call (.Name x p) (e::es) [] pos) (zeW sp [] E0 t):=by
 obtain ⟨f,fd,F,hm,hk,hb⟩:=G.ex
 exact zsQ F (hr.mono hj) hg hm hk hb .nil zdY ha hdb (zbu hp) (zc3 hps)
theorem zsY{pl:Sem Bool}(he:PE X o ta)(c:Cls X.K C)(G:GM X.prog X.w X.K X.mg X.base cm j C m ps sp)(hr:zD cm k X.A)(ha:PA X (e::es) t)(hj:j<=k:=by decide)
  (hp:zZ e=true:=by rfl) (hps:zaK es=true:=by rfl)
  (ht:eval (.Call (.Attribute o m apos) (e::es) [] pos) X.env=(do
   let ov<-eval o X.env
   standAt apos.atName
   let (f,first)<-holding [ov] (getMethod ov m pl)
   callWith pos f first (backTo pos (starEach (e::es) X.env)) (backToKw pos (keywordEach [] X.env))):=by rfl) :
  PE X (.Call (.Attribute o m apos) (e::es) [] pos) (zbE C m sp [] E0 ta t):=by
 obtain ⟨f,fd,F,hm,hb⟩:=G.ex
 exact zmi he c hm F (hr.mono hj) hb .nil zdY ha (zbu hp) (zc3 hps) ht
theorem ztB{pl:Sem Bool}(he:PE X o ta)(c:Cls X.K C)(G:GM X.prog X.w X.K X.mg X.base cm j C m ps sp)(hr:zD cm k X.A)(hj:j<=k:=by decide)
  (ht:eval (.Call (.Attribute o m apos) [] [] pos) X.env=(do
   let ov<-eval o X.env
   standAt apos.atName
   let (f,first)<-holding [ov] (getMethod ov m pl)
   callWith pos f first (backTo pos (starEach [] X.env)) (backToKw pos (keywordEach [] X.env))):=by rfl) :
  PE X (.Call (.Attribute o m apos) [] [] pos) (zbE C m sp [] E0 ta zbn):=by
 obtain ⟨f,fd,F,hm,hb⟩:=G.ex
 exact zpr he c hm F (hr.mono hj) hb .nil zdY ht
theorem zjM{pl:Sem Bool}(he:PE X o ta)(c:Cls X.K C)(T:zaH X Ex)(G:GMX X.prog X.w X.K X.mg X.base cm j C m ps sp)(hr:zD cm k X.A)(ha:PA X (e::es) t)(hj:j<=k:=by decide)
  (hp:zZ e=true:=by rfl) (hps:zaK es=true:=by rfl)
  (ht:eval (.Call (.Attribute o m apos) (e::es) [] pos) X.env=(do
   let ov<-eval o X.env
   standAt apos.atName
   let (f,first)<-holding [ov] (getMethod ov m pl)
   callWith pos f first (backTo pos (starEach (e::es) X.env)) (backToKw pos (keywordEach [] X.env))):=by rfl) :
  PE X (.Call (.Attribute o m apos) (e::es) [] pos) (zdK C m sp [] Ex ta t):=by
 obtain ⟨f,fd,F,hm,hb⟩:=G.ex
 exact zsl he c hm T F (hr.mono hj) hb .nil ha (zbu hp) (zc3 hps) ht
structure zeb(H:Hp)(C x dx:Addr)(H':Hp):Prop where
 no:H x=none
 nod:H dx=none
 ne:dx≠x
 at_:H' x=some (.ins C dx [])
 own:H' dx=some (.own x)
 same:zg H H'
theorem zeb.mk'{H:Hp}{C x dx:Addr}(h:H x=none)(hd:H dx=none)(ne:dx≠x):zeb H C x dx (upd (upd H dx (.own x)) x (.ins C dx [])) :=
 ⟨h,hd,ne,zp,by rw [ze ne,zp],λb u e=>by rw [ze (zM e h),ze (zM e hd)];exact e⟩
def ze7(C:Addr)(sp:Sp)(t:TA):TE:=λσ H Q=>t σ H λvs H1=>∀x dx H2,zeb H1 C x dx H2->sp (.ref x::vs) H2 (λv H3=>v = .non/\Q (.ref x) H3) E0
def zot(C:Addr)(sp:Sp)(Ex:Addr->St->Hp->Prop)(t:TA):TE:=λσ H Q=>t σ H λvs H1=>∀x dx H2,zeb H1 C x dx H2->sp (.ref x::vs) H2 (λv H3=>v = .non/\Q (.ref x) H3) (XE Ex σ)
theorem zqH{v:V}{pos:Pos}(hg:Gl X x)(hm:∃u,X.mg x=some u/\zi v u)(hd:(x==("__debug__":Str))=false:=by decide):PE X (.Name x pos) (tC v):=by
 obtain ⟨u,hm,r⟩:=hm
 exact zlH hg hm r hd
theorem zpq{o e:Expr}{to te:TE}{apos cpos:Pos}(ho:PE X o to)(he:PE X e te)
  (hbase:attributeBase o "append" X.env (eval o X.env)=eval o X.env:=by rfl)
  (hline:(apos.endLine==cpos.line)=true:=by rfl) (hp:zZ e=true:=by rfl):PE X (.Call (.Attribute o "append" apos) [e] [] cpos) (ze4 to te):=by
 intro Ga s σ H Q I h
 have hs:starEach [e] X.env=[(false,eval e X.env)]:=zd8 hp
 refine wpAny_Call_method_late hbase (by rw [hs];rfl) hline rfl (thn (ho Ga s σ H _ I h) λv s1 ⟨x,H1,I1,r1,l,ex,⟨xs,hx⟩,q1⟩=>?_)
 subst ex
 obtain ⟨h1,h2⟩:=zgh (T:="list") I1 r1 (.inl ⟨rfl,xs,SqL.of hx⟩)
 refine ⟨"list","list.append",PySem.F.plainAttrs_list,PySem.F.slot_list_append,PySem.F.type_list_append,h1,h2,?_⟩
 rw [hs]
 refine Calls.callWith_builtin rfl (Calls.evalArgs_plain ?_)
 have hA:=zdT he zdL (hs:=hs) cpos Ga s1 σ H1 (λys H2=>match ys with|[y]=>∃xs,H2 l=some (.lst xs)/\xs.length<sizeLine/\Q .non (upd H2 l (.lst (xs++[y])))|_=>False) I1 q1
 rw [hs] at hA
 refine thn hA λus s2 ⟨vs,H2,I2,r2,q2⟩=>?_
 match vs,q2,r2 with
 | [y],⟨xs2,hx2,hl2,q2⟩,r2=>exact zpu Ga s2 σ H2 (.ref l) [y] v us Q I2 r1 r2 ⟨l,xs2,y,rfl,rfl,hx2,hl2,q2⟩
end
section
variable {X:Cx}
def zbq:List V->Hp->VK->Prop:=λxs H Q=>(∃i,xs=[.int i]/\Q (.int i) H)\/∃k,xs=[.bl k]/\Q (.int (if k then 1 else 0)) H
theorem zr2:zR X (.type "int") zbq:=zox
def zdc:List V->Hp->VK->Prop:=λxs H Q=>∃i,xs=[.int i]/\i.natAbs.log2<1920/\Q (.str (toString i)) H
theorem zlP{i:Int}{H:Hp}{Q:VK}:zbq [.int i] H Q=Q (.int i) H:=by simp [zbq]
theorem zlj{k:Bool}{H:Hp}{Q:VK}:zbq [.bl k] H Q=Q (.int (if k then 1 else 0)) H:=by simp [zbq]
theorem zrr{i:Int}{H:Hp}{Q:VK}:zdc [.int i] H Q=(i.natAbs.log2<1920/\Q (.str (toString i)) H):=by simp [zdc]
def zfT:List V->Hp->VK->Prop:=λxs H Q=>∃i j,xs=[.int i,.int j]/\Q (.int (if j>i then j else i)) H
def zjd:List V->Hp->VK->Prop:=λxs H Q=>∃i j,xs=[.int i,.int j]/\Q (.int (if j<i then j else i)) H
theorem zhx(hc:X.calm=true):zR X (.builtin "max") zfT:=zmH hc
theorem zoE(hc:X.calm=true):zR X (.builtin "min") zjd:=zok hc
theorem zfe{i j:Int}{H:Hp}{Q:VK}:zfT [.int i,.int j] H Q=Q (.int (if j>i then j else i)) H:=by
 apply propext;constructor
 ·rintro ⟨a,b,e,q⟩;cases e;exact q
 ·exact λq=>⟨i,j,rfl,q⟩
theorem zmI{i j:Int}{H:Hp}{Q:VK}:zjd [.int i,.int j] H Q=Q (.int (if j<i then j else i)) H:=by
 apply propext;constructor
 ·rintro ⟨a,b,e,q⟩;cases e;exact q
 ·exact λq=>⟨i,j,rfl,q⟩
end
section
variable {Y:Cx}{sc:Scope}{N':List Str}{Ga:List (Addr×Obj)}{D:Addr}{fp:List Addr}{s:Shared}{H:Hp}
end
theorem zrQ{t:TG}{u:TGs}{v:V}{r:List V}{σ:St}{H:Hp}{Q:St->Hp->Prop}:zfN t u (v::r) σ H Q=t v σ H λσ' H'=>u r σ' H' Q:=by
 apply propext;constructor
 ·rintro ⟨v,r,e,h⟩;cases e;exact h
 ·exact λh=>⟨v,r,rfl,h⟩
theorem zq7{σ:St}{H:Hp}{Q:St->Hp->Prop}:zfS [] σ H Q=Q σ H:=by
 apply propext;constructor
 ·exact λh=>h.2
 ·exact λh=>⟨rfl,h⟩
section
variable {H:Hp}{Q:VK}{i j:Int}{x y:Str}{a b:Addr}{K:PySem.W.Frag}{g:Int->Int->V}{C:Int->Int->Prop}{k c:Bool}{QB:Bool->Hp->Prop}
theorem zsV:zbd (.int i) (.int j) H Q=Q (.int (i+j)) H:=by simp [zbd]
theorem zq4:zbd (.str x) (.str y) H Q=(x.length+y.length<=sizeLine/\Q (.str (x++y)) H):=by simp [zbd]
theorem zhV:zbd (.ref a) (.ref b) H Q = ∃xs zs,H a=some (.lst xs)/\H b=some (.lst zs)/\xs.length+zs.length<=sizeLine/\∀p H2,New H p (.lst (xs++zs)) H2->Q (.ref p) H2:=by simp [zbd]
theorem zhD:zbz (.int i) (.int j) H Q=(zcV i j/\Q (.int (i*j)) H):=by simp [zbz]
theorem zqS:zbz (.ref a) (.int i) H Q = ∃xs,H a=some (.lst xs)/\-(2 ^ 63)<=i/\i<2 ^ 63/\xs.length*i.toNat<=sizeLine/\∀p H2,New H p (.lst (replicate i.toNat xs).flatten) H2->Q (.ref p) H2:=by simp [zbz]
theorem zec:uIx (.ref a) (.int i) H Q = ∃xs,(H a=some (.lst xs)\/H a=some (.tup xs))/\∃v,atI xs i=some v/\Q v H:=by
 apply propext;constructor
 ·rintro (⟨p,xs,i,v,e1,e2,h,r⟩|⟨p,xs,i,v,e1,e2,h,r⟩|⟨z,i,c,e,_⟩)
  ·cases e1;cases e2;exact ⟨xs,.inl h,v,r⟩
  ·cases e1;cases e2;exact ⟨xs,.inr h,v,r⟩
  ·cases e
 ·rintro ⟨xs,h|h,v,r⟩
  ·exact .inl ⟨_,xs,_,v,rfl,rfl,h,r⟩
  ·exact .inr (.inl ⟨_,xs,_,v,rfl,rfl,h,r⟩)
theorem zfc:uIx (.str x) (.int i) H Q=(x.length<=sizeLine/\∃c,atI x.cps.toList i=some c/\Q (.str ⟨#[c]⟩) H):=by simp [uIx]
theorem zgz:zdP [.ref a] H Q = ∃ys,(H a=some (.lst ys)\/H a=some (.tup ys))/\Q (.int ys.length) H:=by
 apply propext;constructor
 ·rintro (⟨p,xs,e1,h,r⟩|⟨p,xs,e1,h,r⟩|⟨z,e,_⟩)
  ·cases e1;exact ⟨xs,.inl h,r⟩
  ·cases e1;exact ⟨xs,.inr h,r⟩
  ·cases e
 ·rintro ⟨xs,h|h,r⟩
  ·exact .inl ⟨_,xs,rfl,h,r⟩
  ·exact .inr (.inl ⟨_,xs,rfl,h,r⟩)
theorem zjF:zdP [.str x] H Q=(x.length<=sizeLine/\Q (.int x.length) H):=by simp [zdP]
theorem zjN:rI C g (.int i) (.int j) H Q=(C i j/\Q (g i j) H):=by simp [rI]
theorem zkQ:rI0 g (.int i) (.int j) H Q=Q (g i j) H:=by simp [rI0]
theorem zrB{g:Int->V}:rU g (.int i) H Q=Q (g i) H:=by simp [rU]
theorem zna:uEq c (.int i) (.int j) H Q=Q (.bl (if c then !decide (i=j) else decide (i=j))) H:=by simp [uEq,zbh]
theorem zpk:uEq c (.str x) (.str y) H Q=Q (.bl (if c then !decide (x=y) else decide (x=y))) H:=by simp [uEq,zbh]
theorem zpI:uEq c (.bl k) (.bl k') H Q=Q (.bl (if c then !decide (k=k') else decide (k=k'))) H:=by simp [uEq,zbh]
theorem zdF:uEq c (.ref a) (.ref b) H Q = ∃xs ys,H a=some (.lst xs)/\H b=some (.lst ys)/\xs.all zC=true/\ys.all zC=true/\Q (.bl (if c then !eqL xs ys else eqL xs ys)) H:=by simp [uEq,zbh]
def zbN(K:PySem.W.Frag)(v:V)(H:Hp)(Q:Bool->Hp->Prop):Prop:=∃k,zbV K v H k/\Q k H
theorem zqM:zbN K (.bl k) H QB=QB k H:=by simp [zbN,zbV]
theorem zk0:zbN K .non H QB=QB false H:=by simp [zbN,zbV]
theorem zpm:zbN K (.int i) H QB=QB (i != 0) H:=by simp [zbN,zbV]
theorem zsF{ta:TE}{σ:St}:ze8 K ta σ H QB=ta σ H λx H'=>zbN K x H' QB:=rfl
def uB(v:V)(q:Bool->Prop):Prop:=∃c,v = .bl c/\q c
theorem zlI{q:Bool->Prop}:uB (.bl k) q=q k:=by simp [uB]
theorem zqn{t:TE}{σ:St}:tB t σ H QB=t σ H λx H1=>uB x λc=>QB c H1:=rfl
theorem znt{t:TE}{σ:St}:zgA t σ H QB=t σ H λx H1=>uB x λc=>QB c H1:=rfl
theorem zls{t u:TE}{σ:St}:zgS t u σ H Q=t σ H λx H1=>uB x λc=>if c=true then u σ H1 Q else Q (.bl false) H1:=rfl
theorem zkb{t u:TE}{σ:St}:zkY t u σ H Q=t σ H λx H1=>uB x λc=>if c=true then Q (.bl true) H1 else u σ H1 Q:=rfl
theorem zl7{t:TE}{σ:St}:zgY t σ H Q=t σ H λx H1=>uB x λc=>Q (.bl (!c)) H1:=rfl
theorem zoN{r r':R2}{ta tb tc:TE}{σ:St}:zgn r r' ta tb tc σ H Q=ta σ H λx H1=>tb σ H1 λy H2=>r x y H2 λz H3=>uB z λk=>if k=true then tc σ H3 λw' H4=>r' y w' H4 Q else Q (.bl false) H3:=rfl
theorem zjA{q:Addr->Prop}:uR (.ref a) q=q a:=by simp [uR]
theorem zpx{C:Addr}{ta:TE}{f:Str}{σ:St}:zei C ta f σ H Q=ta σ H λx H1=>uR x λa=>∃dx fs v,H1 a=some (.ins C dx fs)/\fs.lookup f=some v/\Q v H1:=by
 unfold zei uR
 congr;funext x H1
 apply propext
 constructor
 ·rintro ⟨a,dx,fs,v,h1,h2,h3,h4⟩;exact ⟨a,h1,dx,fs,v,h2,h3,h4⟩
 ·rintro ⟨a,h1,dx,fs,v,h2,h3,h4⟩;exact ⟨a,dx,fs,v,h1,h2,h3,h4⟩
theorem zlz{C:Addr}{ta tv:TE}{f:Str}{σ:St}{D:zad}:zeV C ta tv f D σ H=tv σ H λy H1=>ta σ H1 λx H2=>uR x λa=>∃dx fs,H2 a=some (.ins C dx fs)/\fs.length<1000/\D.nx σ (upd H2 a (.ins C dx (zab f y fs))):=by
 unfold zeV uR
 congr;funext x H1;congr;funext x2 H2
 apply propext
 constructor
 ·rintro ⟨a,dx,fs,h1,h2,h3,h4⟩;exact ⟨a,h1,dx,fs,h2,h3,h4⟩
 ·rintro ⟨a,h1,dx,fs,h2,h3,h4⟩;exact ⟨a,dx,fs,h1,h2,h3,h4⟩
theorem zqe{C:Addr}{m:Str}{sp:Sp}{dvs:List V}{E:XK}{ta:TE}{t:TA}{σ:St}:zbE C m sp dvs E ta t σ H Q=ta σ H λx H1=>uR x λa=>∃dx fs,H1 a=some (.ins C dx fs)/\fs.lookup m=none/\t σ H1 λvs H2=>sp (.ref a::(vs++dvs)) H2 Q E:=by
 unfold zbE uR
 congr;funext x H1
 apply propext
 constructor
 ·rintro ⟨a,dx,fs,rfl,h2,h3,h4⟩;exact ⟨a,rfl,dx,fs,h2,h3,h4⟩
 ·rintro ⟨a,rfl,dx,fs,h2,h3,h4⟩;exact ⟨a,dx,fs,rfl,h2,h3,h4⟩
theorem znr{C:Addr}{m:Str}{sp:Sp}{dvs:List V}{Ex:Addr->St->Hp->Prop}{ta:TE}{t:TA}{σ:St}:zdK C m sp dvs Ex ta t σ H Q=ta σ H λx H1=>uR x λa=>∃dx fs,H1 a=some (.ins C dx fs)/\fs.lookup m=none/\t σ H1 λvs H2=>sp (.ref a::(vs++dvs)) H2 Q (XE Ex σ):=by
 unfold zdK uR
 congr;funext x H1
 apply propext
 constructor
 ·rintro ⟨a,dx,fs,rfl,h2,h3,h4⟩;exact ⟨a,rfl,dx,fs,h2,h3,h4⟩
 ·rintro ⟨a,rfl,dx,fs,h2,h3,h4⟩;exact ⟨a,dx,fs,rfl,h2,h3,h4⟩
end
section
variable {K:PySem.W.Frag}{g:TG}{tb:TS}{D:zad}{σ:St}{H:Hp}{ta:TA}{tl:TE}{wi:TI}{R:It->Hp->Prop}{j:Int}{tt:TT}{te:TE}{ix:List (Option Nat)}{Q:VK}
def zaw(J:It)(g:TG)(tb:TS)(D:zad)(σ:St)(H:Hp):Prop:=∃W:Nat->Nat->St->Hp->Prop,(∃m,W 0 m σ H)/\∀i m σ H,W i m σ H ->
 (J.stop i H/\D.nx σ H)\/(J.go i H/\∃N:St->Hp->Prop,(∀σ' H',N σ' H'->∃m',m'<m/\W (i+1) m' σ' H')/\∀x H',J.yld i H x H'->g x σ H' λσ2 H2=>tb { D with nx:=N,ct:=N,bk:=D.nx } σ2 H2)
theorem zrz:zfV wi g tb D σ H=wi σ H λJ H1=>zaw J g tb D σ H1:=rfl
def uI1(vs:List V)(q:Int->Prop):Prop:=∃j,vs=[.int j]/\q j
theorem zrb{q:Int->Prop}:uI1 [.int j] q=q j:=by simp [uI1]
theorem zmr:zeS ta σ H R=ta σ H λvs H1=>uI1 vs λj=>-(2 ^ 62)<=j/\j<2 ^ 62/\R (Itr 0 j.toNat) H1:=rfl
theorem znU:zga K tl σ H R=tl σ H λx H1=>uR x λa=>(∃xs,SqL K H1 a xs)/\R (Itl K a) H1:=rfl
theorem zoF:zd6 K tl σ H R=tl σ H λx H1=>uR x λa=>(∃xs,SqT K H1 a xs)/\R (Itt K a) H1:=rfl
def uR2(vs:List V)(q:Addr->Addr->Prop):Prop:=∃a b,vs=[.ref a,.ref b]/\q a b
theorem zms{q:Addr->Addr->Prop}{a b:Addr}:uR2 [.ref a,.ref b] q=q a b:=by
 apply propext
 constructor
 ·rintro ⟨c,d,e,h⟩;cases e;exact h
 ·exact λh=>⟨a,b,rfl,h⟩
theorem zsR:zhP K ta σ H R=ta σ H λvs H1=>uR2 vs λa b=>(∃xs,SqL K H1 a xs)/\(∃ys,SqL K H1 b ys)/\R (Itz K a b) H1:=by
 unfold zhP uR2
 rfl
def zat(J:It)(g:TG)(tt:TT)(te:TE)(τ:St)(H:Hp)(Q:VK):Prop:=∃W:Nat->Nat->St->List V->Hp->Prop,(∃m,W 0 m τ [] H)/\∀i m τ ys H2,W i m τ ys H2->ys.length<sizeLine /\
 ((J.stop i H2 ∧ ∀ D, H2 D = none → D ≠ sysModules → Q (.ref D) (upd H2 D (.lst ys))) ∨
  (J.go i H2 ∧ ∀ x H3, J.yld i H2 x H3 → g x τ H3 fun τ1 H4 => tt τ1 H4 fun ok H5 => if ok = true then te τ1 H5 fun y H6 => ∃ m', m' < m ∧ W (i + 1) m' τ1 (ys ++ [y]) H6 else ∃ m', m' < m ∧ W (i + 1) m' τ1 ys H5))
theorem zj7:tLC ix wi g tt te σ H Q=wi σ H λJ H1=>zat J g tt te (zaQ ix σ) H1 Q:=rfl
theorem zaw.rng{lo:Int}{n:Nat}(Pv:Nat->St->Hp->Prop)(h0:Pv 0 σ H)
  (hs:∀i σ H,i<n->Pv i σ H->g (.int (lo+i)) σ H λσ2 H2=>tb { D with nx:=Pv (i+1),ct:=Pv (i+1),bk:=D.nx } σ2 H2) (hd:∀σ H,Pv n σ H->D.nx σ H):zaw (Itr lo n) g tb D σ H:=zse Pv h0 hs hd
theorem zaw.lst{a:Addr}{xs:List V}(Pv:Nat->St->Hp->Prop)(h0:Pv 0 σ H)(hl:∀i σ H,i<=xs.length->Pv i σ H->SqL K H a xs)
  (hs:∀i x σ H,xs[i]?=some x->Pv i σ H->g x σ H λσ2 H2=>tb { D with nx:=Pv (i+1),ct:=Pv (i+1),bk:=D.nx } σ2 H2) (hd:∀σ H,Pv xs.length σ H->D.nx σ H):zaw (Itl K a) g tb D σ H:=zqR Pv h0 hl hs hd
def zbt(N:St->List V->Hp->Prop)(ys:List V)(τ1:St)(te:TE)(ok:Bool)(H5:Hp):Prop:=if ok=true then te τ1 H5 λy H6=>N τ1 (ys++[y]) H6 else N τ1 ys H5
theorem zol{N:St->List V->Hp->Prop}{ys:List V}{τ:St}:zbt N ys τ te true H=te τ H λy H6=>N τ (ys++[y]) H6:=rfl
theorem zrM{N:St->List V->Hp->Prop}{ys:List V}{τ:St}:zbt N ys τ te false H=N τ ys H:=rfl
theorem zat.rng{lo:Int}{n:Nat}{τ:St}(Pv:Nat->St->List V->Hp->Prop)(hz:∀i τ ys H,Pv i τ ys H->ys.length<sizeLine)(h0:Pv 0 τ [] H)
  (hs:∀(N:St->List V->Hp->Prop) i τ ys H,i<n->Pv i τ ys H->(∀τ ys H,Pv (i+1) τ ys H->N τ ys H)->g (.int (lo+i)) τ H λτ1 H4=>tt τ1 H4 λok H5=>zbt N ys τ1 te ok H5) (hd:∀τ ys H,Pv n τ ys H->∀D H',New H D (.lst ys) H'->Q (.ref D) H'):zat (Itr lo n) g tt te τ H Q:=by
 refine ⟨λi m τ ys H=>m=n-i/\i<=n/\Pv i τ ys H,⟨n,by simp,zero_le _,h0⟩,?_⟩
 rintro i m τ ys H2 ⟨rfl,hi,p⟩
 refine ⟨hz i τ ys H2 p,?_⟩
 by_cases hlt:i<n
 ·refine .inr ⟨hlt,λx H' y=>?_⟩
  obtain ⟨e,y⟩:=y
  subst e y
  exact hs (λτ1 ys H=>∃m',m'<n-i/\m'=n-(i+1)/\i+1<=n/\Pv (i+1) τ1 ys H) i τ ys _ hlt p λτ1 zs H q=>⟨n-(i+1),by omega,rfl,hlt,q⟩
 ·have e:i=n:=by omega
  subst e
  exact .inl ⟨le_refl _,λD hD _=>hd τ ys H2 p D _ (.mk' hD)⟩
theorem zat.zip{a b:Addr}{xs ys:List V}{τ:St}(hlen:xs.length=ys.length)(Pv:Nat->St->List V->Hp->Prop)(hz:∀i τ zs H,Pv i τ zs H->zs.length<sizeLine)(ha:∀i τ zs H,Pv i τ zs H->SqL K H a xs/\SqL K H b ys)(h0:Pv 0 τ [] H)
  (hs:∀(N:St->List V->Hp->Prop) i x y p τ zs H,xs[i]?=some x->ys[i]?=some y->Pv i τ zs H->H p=none->(∀τ zs H,Pv (i+1) τ zs H->N τ zs H)->g (.ref p) τ (upd H p (.tup [x,y])) λτ1 H4=>tt τ1 H4 λok H5=>zbt N zs τ1 te ok H5) (hd:∀τ zs H,Pv xs.length τ zs H->∀D H',New H D (.lst zs) H'->Q (.ref D) H'):zat (Itz K a b) g tt te τ H Q:=by
 refine ⟨λi m τ zs H=>m=xs.length-i/\i<=xs.length/\Pv i τ zs H,⟨xs.length,by simp,zero_le _,h0⟩,?_⟩
 rintro i m τ zs H2 ⟨rfl,hi,p⟩
 refine ⟨hz i τ zs H2 p,?_⟩
 obtain ⟨qa,qb⟩:=ha i τ zs H2 p
 by_cases hlt:i<xs.length
 ·refine .inr ⟨⟨xs,ys,xs[i],ys[i]'(by omega),qa,qb,List.getElem?_eq_getElem hlt,List.getElem?_eq_getElem _⟩,λv H' y=>?_⟩
  obtain ⟨T,x,y,hT,rfl,rfl,hx,hy⟩:=y
  exact hs (λτ1 ys H=>∃m',m'<xs.length-i/\m'=xs.length-(i+1)/\i+1<=xs.length/\Pv (i+1) τ1 ys H) i x y T τ zs _ (hx _ qa) (hy _ qb) p hT λτ1 zs H q=>⟨xs.length-(i+1),by omega,rfl,hlt,q⟩
 ·have e:i=xs.length:=by omega
  subst e
  exact .inl ⟨⟨xs,ys,qa,qb,le_refl _⟩,λD hD _=>hd τ zs H2 p D _ (.mk' hD)⟩
end
section
variable {X:Cx}
def zeN:V->Option Int->Option Int->Hp->VK->Prop:=λx lo hi H Q=>∃z,x = .str z/\z.length<=sizeLine/\Q (.str (Txt.slice z lo hi)) H
theorem zl1{h:Heap}{sl:Addr}{vl vu:Value}{lo hi:Option Int}(hs:h.IsSliceOf sl vl vu .none)(pl:IsPart vl lo)(pu:IsPart vu hi):∃l u:Option (Int×Tok),h.IsSlice sl l u none/\l.map (·.1)=lo/\u.map (·.1)=hi:=by
 obtain ⟨o,h1,h2,h3⟩:=hs
 cases pl with
 | none =>
  cases pu with
  | none=>exact ⟨none,none,⟨o,h1,h2,h3⟩,rfl,rfl⟩
  | int j t=>exact ⟨none,some (j,t),⟨o,h1,h2,h3⟩,rfl,rfl⟩
 | int i t' =>
  cases pu with
  | none=>exact ⟨some (i,t'),none,⟨o,h1,h2,h3⟩,rfl,rfl⟩
  | int j t=>exact ⟨some (i,t'),some (j,t),⟨o,h1,h2,h3⟩,rfl,rfl⟩
theorem zpR:SlR X zeN:=by
 intro Ga s σ H x v vl vu lo hi sl Q I rx hs pl pu h
 obtain ⟨z,rfl,hz,q⟩:=h
 obtain ⟨t,rfl⟩:=rx
 obtain ⟨l,u,hS,e1,e2⟩:=zl1 hs pl pu
 subst e1 e2
 exact ⟨"str",_,F.slot_str_getitem.lookup,typeIs_str _ _ _,wpAny_getItem_str_slice (l:=l) (u:=u) (st:=none) hS rfl
  (post_val_or_str ⟨le_trans (Txt.slice_le z _ _) hz,λt' k=>⟨.str _,H,I.tok k,⟨_,rfl⟩,q⟩⟩)⟩
def uSl:V->Option Int->Option Int->Hp->VK->Prop:=λx lo hi H Q=>(∃a xs,x = .ref a/\H a=some (.lst xs)/\∀p H2,New H p (.lst (zau xs lo hi)) H2->Q (.ref p) H2)\/zeN x lo hi H Q
theorem SlR.weak{r r':V->Option Int->Option Int->Hp->VK->Prop}(h:SlR X r)(hw:∀x l u H Q,r' x l u H Q->r x l u H Q):SlR X r' :=
 λGa s σ H x v vl vu lo hi sl Q I rx hs pl pu q=>h Ga s σ H x v vl vu lo hi sl Q I rx hs pl pu (hw _ _ _ _ _ q)
theorem ze2:SlR X uSl:=((zop (X:=X)).or zpR).weak λx l u H Q h=>by
 rcases h with ⟨a,xs,e,h,q⟩|h
 ·exact .inl ⟨a,xs,e,SqL.of h,λp hp=>q p _ (.mk' hp)⟩
 ·exact .inr h
def zfQ(v:V)(q:Int->Prop):Prop:=∃i,v = .int i/\q i
theorem zkf{i:Int}{q:Int->Prop}:zfQ (.int i) q=q i:=by simp [zfQ]
theorem zrP{t:TE}{σ:St}{H:Hp}{Q:Option Int->Hp->Prop}:zfo t σ H Q=t σ H λx H1=>zfQ x λi=>Q (some i) H1:=rfl
theorem zhy{z:Str}{lo hi:Option Int}{H:Hp}{Q:VK}:uSl (.str z) lo hi H Q=(z.length<=sizeLine/\Q (.str (Txt.slice z lo hi)) H):=by simp [uSl,zeN]
theorem zhz{a:Addr}{lo hi:Option Int}{H:Hp}{Q:VK}:uSl (.ref a) lo hi H Q = ∃xs,H a=some (.lst xs)/\∀p H2,New H p (.lst (zau xs lo hi)) H2->Q (.ref p) H2:=by simp [uSl,zeN]
theorem zlQ{ys:List Str}:∀{us:List Value},zk (ys.map V.str) us->StrsAre us ys:=by
 induction ys with
 | nil=>intro us r;rw [map_nil] at r;cases r;exact .nil
 | cons n ns ih =>
  intro us r
  rw [map_cons] at r
  cases r with
  | cons r1 r2 =>
   obtain ⟨t,e⟩:=r1
   subst e
   exact .cons n t (ih r2)
def zek:V->List V->Hp->VK->Prop:=λx vs H Q=>∃z p ys,x = .str z/\vs=[.ref p]/\H p=some (.lst (ys.map V.str))/\(ys.map (·.length)).sum+ys.length*z.length<=16777216/\Q (.str (Txt.join z ys)) H
theorem zp9:MtR X "str.join" zek:=by
 intro Ga s σ H x xs v us Q I rx rs h
 obtain ⟨z,p,ys,rfl,rfl,hp,hz,q⟩:=h
 obtain ⟨t,rfl⟩:=rx
 cases rs with
 | cons r1 rr =>
  cases rr
  cases (show _=Value.ref p from r1)
  obtain ⟨its,r,ht,_⟩:=I.list (SqL.of (K:=X.K) hp)
  exact join_list ht.isList (by simpa using zlQ r) hz λt' k=>⟨.str _,H,I.tok k,⟨_,rfl⟩,q⟩
def zdI(z:Str)(n:Nat):Str:=⟨((replicate n z.cps.toList).flatten).toArray⟩
theorem zhB{α:Type}(l:List α):∀(n:Nat)(acc:List α),foldl (λx1 x2:Array α=>x1++x2) acc.toArray (replicate n l.toArray)=(acc++(replicate n l).flatten).toArray
 | 0,acc=>by simp
 | n+1,acc=>by
  rw [replicate_succ,List.foldl_cons,List.append_toArray,zhB l n (acc++l)]
  simp [replicate_succ]
theorem zsd(z:Str)(n:Nat):(⟨(replicate n z.cps).foldl (·++·) #[]⟩:Str)=zdI z n:=by
 have h:=zhB z.cps.toList n []
 unfold zdI
 congr 1
theorem zcE{α:Type}(l:List α):∀n:Nat,((replicate n l).flatten).length=l.length*n
 | 0=>by simp
 | n+1=>by rw [replicate_succ,flatten_cons,length_append,zcE l n,Nat.mul_succ];omega
theorem zrU(z:Str)(n:Nat):(zdI z n).length=z.length*n:=by
 show (((replicate n z.cps.toList).flatten).toArray).size=_
 rw [size_toArray,zcE]
 rfl
def zdO:R2:=λx y H Q=>∃z n,x = .str z/\y = .int n/\1<n/\n<2 ^ 31/\z.length≠0/\z.length*n.toNat<=sizeLine/\Q (.str (zdI z n.toNat)) H
theorem zjR:OpR X (binaryOp .Mult) zdO:=by
 intro Ga s σ H x y v u Q I rx ry h
 obtain ⟨z,n,rfl,rfl,h1,h2,h3,h4,q⟩:=h
 obtain ⟨t,rfl⟩:=rx
 obtain ⟨t',rfl⟩:=ry
 have hs:sizeLine=16777216:=sizeLine_eq
 have hc:(n==1||z.length==0)=false:=by
  rw [Bool.or_eq_false_iff]
  exact ⟨beq_eq_false_iff_ne.mpr (by omega),beq_eq_false_iff_ne.mpr h3⟩
 have hz:z.length<=16777216:=by
  have:z.length*1<=z.length*n.toNat:=Nat.mul_le_mul_left _ (by omega)
  omega
 refine PySem.P.mul_str ?_ ?_ ?_ ?_
 ·rw [decide_eq_false (show ¬ n < -(2 ^ 63:Int) by omega),decide_eq_false (show ¬ n ≥ 2 ^ 63 by omega)];rfl
 ·intro _ _ hgt
  have:(16777216:Int)<=(2 ^ 63-1) / n:=Int.le_ediv_of_mul_le (by omega) (by omega)
  omega
 ·intro _ _
  exact decide_eq_false (by omega)
 ·rw [if_neg (show ¬ n<1 by omega),if_neg (by rw [hc];exact Bool.false_ne_true),zsd]
  exact ⟨by rw [zrU];omega,⟨.str _,H,I.tok _,⟨_,rfl⟩,q⟩⟩
theorem zjH{p:Addr}{k:Int}{v:V}{H:Hp}{Q:Hp->Prop}:ze9 (.ref p) (.int k) v H Q = ∃xs j,H p=some (.lst xs)/\ixN xs.length k=some j/\Q (upd H p (.lst (xs.set j v))):=by
 apply propext;constructor
 ·rintro ⟨p',xs,k',j,e1,e2,h⟩;cases e1;cases e2;exact ⟨xs,j,h⟩
 ·rintro ⟨xs,j,h⟩;exact ⟨p,xs,k,j,rfl,rfl,h⟩
def zra:List V->Hp->VK->Prop:=λxs H Q=>∃p ys,xs=[.ref p]/\(H p=some (.lst ys)\/H p=some (.tup ys))/\∀l H2,New H l (.lst ys) H2->Q (.ref l) H2
theorem zki{a:Addr}{H:Hp}{Q:VK}:zra [.ref a] H Q = ∃ys,(H a=some (.lst ys)\/H a=some (.tup ys))/\∀l H2,New H l (.lst ys) H2->Q (.ref l) H2:=by
 apply propext;constructor
 ·rintro ⟨p,ys,e,h⟩;cases e;exact ⟨ys,h⟩
 ·rintro ⟨ys,h⟩;exact ⟨a,ys,rfl,h⟩
def zr9(to:TE):TE:=λσ H Q=>to σ H λx H1=>uR x λl=>∃xs,H1 l=some (.lst xs)/\Q .non (upd H1 l (.lst []))
theorem zin{z:Str}{p:Addr}{H:Hp}{Q:VK}:zek (.str z) [.ref p] H Q = ∃ys:List Str,H p=some (.lst (ys.map V.str))/\(ys.map (·.length)).sum+ys.length*z.length<=16777216/\Q (.str (Txt.join z ys)) H:=by
 apply propext;constructor
 ·rintro ⟨z',p',ys,e1,e2,h⟩;cases e1;cases e2;exact ⟨ys,h⟩
 ·rintro ⟨ys,h⟩;exact ⟨z,p,ys,rfl,rfl,h⟩
end
def Ite(K:PySem.W.Frag)(a:Addr):It :=
 ⟨λi H=>∃xs x,SqL K H a xs/\xs[i]?=some x,λi H v H'=>∃T x,H T=none/\v = .ref T/\H'=upd H T (.tup [.int i,x])/\∀xs,SqL K H a xs->xs[i]?=some x,λi H=>∃xs,SqL K H a xs/\xs.length<=i⟩
section
variable {X:Cx}
def zto(K:PySem.W.Frag)(ta:TA):TI:=λσ H R=>ta σ H λvs H1=>∃a,vs=[.ref a]/\(∃xs,SqL K H1 a xs)/\R (Ite K a) H1
end
section
variable {K:PySem.W.Frag}{g:TG}{tb:TS}{D:zad}{σ:St}{H:Hp}{ta:TA}{R:It->Hp->Prop}
def uR1(vs:List V)(q:Addr->Prop):Prop:=∃a,vs=[.ref a]/\q a
theorem za3{q:Addr->Prop}{a:Addr}:uR1 [.ref a] q=q a:=by
 apply propext;constructor
 ·rintro ⟨c,e,h⟩;cases e;exact h
 ·exact λh=>⟨a,rfl,h⟩
theorem zld:zto K ta σ H R=ta σ H λvs H1=>uR1 vs λa=>(∃xs,SqL K H1 a xs)/\R (Ite K a) H1:=rfl
end
section
variable {X:Cx}
def zmR(C:Addr)(ta tv:TE)(rd:V->V->Hp->VK->Prop)(f:Str):TS:=λD σ H=>ta σ H λx H1=>uR x λa=>∃dx fs v,H1 a=some (.ins C dx fs)/\fs.lookup f=some v /\
 tv σ H1 λy H2=>rd v y H2 λz H3=>∃dx' fs',H3 a=some (.ins C dx' fs')/\fs'.length<1000/\D.nx σ (upd H3 a (.ins C dx' (zab f z fs')))
theorem zrV{i j:Int}{H:Hp}{Q:VK}:zic (.int i) (.int j) H Q=Q (.int (i+j)) H:=by simp [zic]
theorem zsg{i j:Int}{H:Hp}{Q:VK}:ziF (.int i) (.int j) H Q=Q (.int (i-j)) H:=by simp [ziF]
def zbB(neg:Bool):R2:=λx y H Q=>y = .non/\Q (.bl (if neg then !decide (x = .non) else decide (x = .non))) H
theorem zs3{c:Bool}{H:Hp}{Q:VK}:zbB c .non .non H Q=Q (.bl (if c then false else true)) H:=by simp [zbB]
theorem zlY{c:Bool}{i:Int}{H:Hp}{Q:VK}:zbB c (.int i) .non H Q=Q (.bl (if c then true else false)) H:=by simp [zbB]
def zbR:R2:=λx y H Q=>zbz x y H Q\/zdO x y H Q
theorem zev:OpR X (binaryOp .Mult) zbR:=zn8.or zjR
theorem zqu{i j:Int}{H:Hp}{Q:VK}:zbR (.int i) (.int j) H Q=(zcV i j/\Q (.int (i*j)) H):=by simp [zbR,zhD,zdO]
theorem zpJ{a:Addr}{i:Int}{H:Hp}{Q:VK}:zbR (.ref a) (.int i) H Q=zbz (.ref a) (.int i) H Q:=by simp [zbR,zdO]
theorem zs9{z:Str}{i:Int}{H:Hp}{Q:VK}:zbR (.str z) (.int i) H Q=(1<i/\i<2 ^ 31/\z.length≠0/\z.length*i.toNat<=sizeLine/\Q (.str (zdI z i.toNat)) H):=by
 simp [zbR,zbz,zdO]
def uS(v:V)(q:Str->Prop):Prop:=∃z,v = .str z/\q z
theorem zeC{z:Str}{q:Str->Prop}:uS (.str z) q=q z:=by simp [uS]
def zfp(to te:TE):TE:=λσ H Q=>to σ H λx H1=>uS x λz=>te σ H1 λy H2=>zek (.str z) [y] H2 Q
theorem zky{o e:Expr}{to te:TE}{apos cpos:Pos}(ho:PE X o to)(he:PE X e te)(hbase:attributeBase o "join" X.env (eval o X.env)=eval o X.env:=by rfl)(hline:(apos.endLine==cpos.line)=true:=by rfl)(hp:zZ e=true:=by rfl) :
  PE X (.Call (.Attribute o "join" apos) [e] [] cpos) (zfp to te):=by
 intro Ga s σ H Q I h
 have hs:starEach [e] X.env=[(false,eval e X.env)]:=zd8 hp
 refine wpAny_Call_method_late hbase (by rw [hs];rfl) hline rfl (thn (ho Ga s σ H _ I h) λv s1 ⟨x,H1,I1,r1,z,ex,q1⟩=>?_)
 subst ex
 obtain ⟨h1,h2⟩:=zgh (T:="str") I1 r1 rfl
 refine ⟨"str","str.join",PySem.F.plainAttrs_str,PySem.F.slot_str_join,PySem.F.type_str_join,h1,h2,?_⟩
 rw [hs]
 refine Calls.callWith_builtin rfl (Calls.evalArgs_plain ?_)
 have hA:=zdT he zdL (hs:=hs) cpos Ga s1 σ H1 (λys H2=>match ys with|[y]=>zek (.str z) [y] H2 Q|_=>False) I1 q1
 rw [hs] at hA
 refine thn hA λus s2 ⟨vs,H2,I2,r2,q2⟩=>?_
 match vs,q2,r2 with
 | [y],q2,r2=>exact zp9 Ga s2 σ H2 (.str z) [y] v us Q I2 r1 r2 q2
def zkF(te:TE):TE:=λσ H Q=>te σ H λx H1=>uR x λa=>∃xs,H1 a=some (.lst xs)/\∀ys:List V,(∀y∈ys,y∈xs)->ys.length<=xs.length->∀p H2,New H1 p (.lst ys) H2->Q (.ref p) H2
end
section
variable {K:PySem.W.Frag}{g:TG}{tb:TS}{D:zad}{σ:St}{H:Hp}{ta:TA}{tl:TE}{wi:TI}{R:It->Hp->Prop}{j:Int}{tt:TT}{te:TE}{ix:List (Option Nat)}{Q:VK}
def uI2(vs:List V)(q:Int->Int->Prop):Prop:=∃i j,vs=[.int i,.int j]/\q i j
theorem zq1{i:Int}{q:Int->Int->Prop}:uI2 [.int i,.int j] q=q i j:=by
 apply propext;constructor
 ·rintro ⟨a,b,e,h⟩;cases e;exact h
 ·exact λh=>⟨i,j,rfl,h⟩
theorem zlm:zqC ta σ H R=ta σ H λvs H1=>uI2 vs λi j=>(-(2 ^ 62)<=i/\i<2 ^ 62/\-(2 ^ 62)<=j/\j<2 ^ 62)/\R (Itr i (j-i).toNat) H1:=rfl
theorem zaw.tup{a:Addr}{xs:List V}(Pv:Nat->St->Hp->Prop)(h0:Pv 0 σ H)(hl:∀i σ H,i<=xs.length->Pv i σ H->SqT K H a xs)
  (hs:∀i x σ H,xs[i]?=some x->Pv i σ H->g x σ H λσ2 H2=>tb { D with nx:=Pv (i+1),ct:=Pv (i+1),bk:=D.nx } σ2 H2) (hd:∀σ H,Pv xs.length σ H->D.nx σ H):zaw (Itt K a) g tb D σ H:=zoh Pv h0 hl hs hd
theorem zat.lst{a:Addr}{xs:List V}{τ:St}(Pv:Nat->St->List V->Hp->Prop)(hz:∀i τ ys H,Pv i τ ys H->ys.length<sizeLine)(ha:∀i τ ys H,Pv i τ ys H->SqL K H a xs)(h0:Pv 0 τ [] H)
  (hs:∀(N:St->List V->Hp->Prop) i x τ ys H,xs[i]?=some x->Pv i τ ys H->(∀τ ys H,Pv (i+1) τ ys H->N τ ys H)->g x τ H λτ1 H4=>tt τ1 H4 λok H5=>zbt N ys τ1 te ok H5) (hd:∀τ ys H,Pv xs.length τ ys H->∀D H',New H D (.lst ys) H'->Q (.ref D) H'):zat (Itl K a) g tt te τ H Q:=by
 refine ⟨λi m τ ys H=>m=xs.length-i/\i<=xs.length/\Pv i τ ys H,⟨xs.length,by simp,zero_le _,h0⟩,?_⟩
 rintro i m τ ys H2 ⟨rfl,hi,p⟩
 refine ⟨hz i τ ys H2 p,?_⟩
 have q:=ha i τ ys H2 p
 by_cases hlt:i<xs.length
 ·refine .inr ⟨⟨xs,xs[i],q,by simp [hlt]⟩,λx H' y=>?_⟩
  obtain ⟨e,y⟩:=y
  subst e
  exact hs (λτ1 ys H=>∃m',m'<xs.length-i/\m'=xs.length-(i+1)/\i+1<=xs.length/\Pv (i+1) τ1 ys H) i x τ ys _ (y xs q) p λτ1 zs H q=>⟨xs.length-(i+1),by omega,rfl,hlt,q⟩
 ·have e:i=xs.length:=by omega
  subst e
  exact .inl ⟨⟨xs,q,le_refl _⟩,λD hD _=>hd τ ys H2 p D _ (.mk' hD)⟩
def zfh(t:TS):TS:=λD σ H=>∃Mid:St->Hp->Prop,t { D with nx:=Mid } σ H/\∀σ' H',Mid σ' H'->D.nx σ' H'
theorem ztb{st:Stmt}{t:TS}(h:PS X st t):PS X st (zfh t):=λGa s σ H D I hw=>by
 obtain ⟨Mid,h1,h2⟩:=hw
 refine thn (h Ga s σ H _ I h1) λf s1 q=>?_
 cases f with
 | next=>obtain ⟨σ',H',I',q⟩:=q;exact ⟨σ',H',I',h2 _ _ q⟩
 | ret v=>exact q
 | brk=>exact q
 | cont=>exact q
theorem zgI{t:TS}{D:zad}{σ:St}{H:Hp}:zfh t D σ H = ∃Mid:St->Hp->Prop,t { D with nx:=Mid } σ H/\∀σ' H',Mid σ' H'->D.nx σ' H':=rfl
end
structure W(p:Prop):Prop where
 h:p
section
variable {X:Cx}
theorem z6  : W (PSs X [] ze5):=⟨zoL ⟩
theorem zo{st:Stmt}{z8:List Stmt}{t:TS}{u:TS}(h1:W (PS X st t))(h2:W (PSs X z8 u)):W (PSs X (st::z8) (zeY t u)):=⟨ztj (h1:=h1.h) (h2:=h2.h)⟩
theorem zm{st:Stmt}{t:TS}(h1:W (PS X st t)):W (PSs X [st] t):=⟨zhN (h1:=h1.h)⟩
theorem zx{e:Expr}{te:TE}{pos:Pos}(he:W (PE X e te)):W (PS X (.Return (some e) pos) (zgl te)):=⟨ziZ (he:=he.h)⟩
theorem zaW{e:Expr}{te:TE}{pos:Pos}(he:W (PE X e te))(hs:swapsWith e none pos.line X.env=pure false:=by rfl):W (PS X (.Expr e pos) (zfx te)):=⟨ztA (he:=he.h) (hs:=hs)⟩
theorem zY{pos:Pos}{i:Nat}{x:Str}{e:Expr}{te:TE}{pos':Pos}(hN:X.N.Nodup)(hi:X.N[i]?=some x)(hx:Loc X.env.scope x)(he:W (PE X e te))(hs:swapsWith e (some (.Name x pos')) pos.line X.env=pure false:=by rfl)(hf:X.fn x=true\/X.env.scope.names.lookup x=some .local:=by first|exact .inl rfl|exact .inr rfl|assumption):W (PS X (.Assign [.Name x pos'] e pos) (zdj te (zbm i))):=⟨zpK (hN:=hN) (hi:=hi) (hx:=hx) (he:=he.h) (hs:=hs) (hf:=hf)⟩
theorem zey{C:Addr}{o value:Expr}{ta tv:TE}{f:Str}{pos pos':Pos}(c:Cls X.K C)(n:zbe X.K C f)(ha:W (PE X o ta))(hv:W (PE X value tv))(hs:swapsWith value (some (.Attribute o f pos')) pos.line X.env=pure false:=by rfl):W (PS X (.Assign [.Attribute o f pos'] value pos) (zeV C ta tv f)):=⟨zn0 (c:=c) (n:=n) (ha:=ha.h) (hv:=hv.h) (hs:=hs)⟩
theorem za4{pos:Pos}{tg e:Expr}{te:TE}{g:TG}(he:W (PE X e te))(hg:W (PG X tg g))(hs:swapsWithSole [tg] e pos.line X.env=pure false:=by rfl)(hw:swappedStores [tg] e X.env=pure none:=by rfl)(h1:(assignEach [tg] X.env).map (·.2)=[assign tg X.env]:=by rfl):W (PS X (.Assign [tg] e pos) (zdj te g)):=⟨zkC (he:=he.h) (hg:=hg.h) (hs:=hs) (hw:=hw) (h1:=h1)⟩
theorem zS{t:TS}{u:TS}{pos:Pos}{c:Expr}{a b:List Stmt}{tc:TT}(hc:W (PT X c tc))(ha:W (PSs X a t))(hb:W (PSs X b u)):W (PS X (.If c a b pos) (zf6 tc t u)):=⟨znB (hc:=hc.h) (ha:=ha.h) (hb:=hb.h)⟩
theorem zcp{tg:Expr}{c:Bool}{iter:Expr}{body:List Stmt}{wi:TI}{g:TG}{tb:TS}{pos:Pos}(hp:PassesOwn (model X.prog X.w) X.A X.env X.xe)(hc:c=true->X.calm=true)(hi:W (PIc c X tg iter wi))(hg:W (PG X tg g))(hb:W (PSs X body tb))(hs:∀x,foldedSetIterable iter X.env x=pure x:=by intro _;rfl):W (PS X (.For tg iter body [] pos) (zfV wi g tb)):=⟨zrZ (hp:=hp) (hc:=hc) (hi:=hi.h) (hg:=hg.h) (hb:=hb.h) (hs:=hs)⟩
theorem zcT{Ex:Addr->St->Hp->Prop}{C:Addr}{x:Str}{np cpos pos:Pos}{e:Expr}{es:List Expr}{t:TA}(hc:X.calm=true)(T:zaH X Ex)(O:zaB X.K C)(hg:Gl X x)(hm:X.mg x=some (.ref C))(ha:W (PA X (e::es) t))(hp:zZ e=true:=by rfl)(hps:zaK es=true:=by rfl)(hdb:(x==("__debug__":Str))=false:=by decide):W (PS X (.Raise (some (.Call (.Name x np) (e::es) [] cpos)) none pos) (zeo C Ex t)):=⟨zsM (hc:=hc) (T:=T) (O:=O) (hg:=hg) (hm:=hm) (ha:=ha.h) (hp:=hp) (hps:=hps) (hdb:=hdb)⟩
theorem zdy{tg a:Expr}{ta:TA}{p pos:Pos}(hg:Gl X "range")(hm:X.mg "range"=none)(ha:W (PA X [a] ta))(hp:zZ a=true:=by rfl):W (PIc true X tg (.Call (.Name "range" p) [a] [] pos) (zeS ta)):=⟨znK (hg:=hg) (hm:=hm) (ha:=ha.h) (hp:=hp)⟩
theorem zfz{tg:Expr}{l:Expr}{tl:TE}(hl:W (PE X l tl)):W (PI X tg l (zga X.K tl)):=⟨zkw (hl:=hl.h)⟩
theorem zd  : W (PA X [] zbn):=⟨zdL ⟩
theorem zb{e:Expr}{es:List Expr}{te:TE}{t:TA}(ha:W (PE X e te))(hr:W (PA X es t))(hp:zZ e=true:=by rfl):W (PA X (e::es) (zeQ te t)):=⟨zr1 (ha:=ha.h) (hr:=hr.h) (hp:=hp)⟩
theorem zb2{a:Expr}{pos:Pos}{tA:TT}(ha:W (PT X a tA)):W (PT X (.UnaryOp .Not a pos) (zfm tA)):=⟨znn (ha:=ha.h)⟩
theorem zgV{a:Expr}{pos:Pos}{tA:TT}(ha:W (PT X a tA)):W (PW X (.BoolOp .And [a] pos) tA):=⟨zp1 (ha:=ha.h)⟩
theorem zfw{a:Expr}{pos:Pos}{tA:TT}(ha:W (PT X a tA)):W (PW X (.BoolOp .Or [a] pos) tA):=⟨znL (ha:=ha.h)⟩
theorem zfA{a:Expr}{b:Expr}{pos:Pos}{tA:TT}{tB':TT}{z8:List Expr}(ha:W (PT X a tA))(hb:W (PW X (.BoolOp .And (b::z8) pos) tB')):W (PW X (.BoolOp .And (a::b::z8) pos) (zgH tA tB')):=⟨zrv (ha:=ha.h) (hb:=hb.h)⟩
theorem zgL{a:Expr}{b:Expr}{pos:Pos}{tA:TT}{tB':TT}{z8:List Expr}(ha:W (PT X a tA))(hb:W (PW X (.BoolOp .Or (b::z8) pos) tB')):W (PW X (.BoolOp .Or (a::b::z8) pos) (tOr tA tB')):=⟨zs2 (ha:=ha.h) (hb:=hb.h)⟩
theorem zV{a:Expr}{b:Expr}{ta:TE}{tb:TE}{pos:Pos}{op:CmpOp}{r:R2}(ho:OpR X (compareOp op) r)(ha:W (PE X a ta))(hb:W (PE X b tb))(hm:behindInMarks op b=false):W (PT X (.Compare a [op] [b] pos) (zgA (tOp r ta tb))):=⟨zha (ho:=ho) (ha:=ha.h) (hb:=hb.h) (hm:=hm)⟩
theorem zcr{a:Expr}{ta:TE}(ha:W (PE X a ta))(he:∀whole,isTrue a X.env whole=(do let v<-whole;standAt a.pos;holding [v] (truthy v)):=by intro _;rfl):W (PT X a (ze8 X.K ta)):=⟨zr6 (ha:=ha.h) (he:=he)⟩
theorem za(i:Nat){x:Str}{pos:Pos}(hN:X.N[i]?=some x:=by rfl)(hv:Vis X.env.scope x:=by first|exact Or.inl rfl|exact Or.inr (Or.inl rfl)|exact Or.inr (Or.inr rfl))(hd:(x==("__debug__":Str))=false:=by decide)(hcd:(x==("__classdict__":Str))=false:=by decide):W (PE X (.Name x pos) (zb6 i)):=⟨pv (i:=i) (hN:=hN) (hv:=hv) (hd:=hd) (hcd:=hcd)⟩
theorem zaF{x:Str}{v:V}{pos:Pos}(hg:Gl X x)(hm:∃u,X.mg x=some u/\zi v u)(hd:(x==("__debug__":Str))=false:=by decide):W (PE X (.Name x pos) (tC v)):=⟨zqH (hg:=hg) (hm:=hm) (hd:=hd)⟩
theorem zfi{x:Str}{v:V}{u:Value}{pos:Pos}(hg:Gl X x)(hm:X.mg x=none)(hv:bootBuiltins x=some u)(r:zi v u)(hn:x≠"__name__":=by decide)(hd:(x==("__debug__":Str))=false:=by decide):W (PE X (.Name x pos) (tC v)):=⟨zmn (hg:=hg) (hm:=hm) (hv:=hv) (r:=r) (hn:=hn) (hd:=hd)⟩
theorem za1{b j pos}:W (PE X (.Constant (.bool b) j pos) (tC (.bl b))):=⟨zm2 ⟩
theorem zq{i j pos}:W (PE X (.Constant (.int i) j pos) (tC (.int i))):=⟨zhf ⟩
theorem zv{x j pos}:W (PE X (.Constant (.str x) j pos) (tC (.str x))):=⟨zrE ⟩
theorem zK{a:Expr}{b:Expr}{ta:TE}{tb:TE}{pos:Pos}{op:Operator}{r:R2}(ho:OpR X (binaryOp op) r)(ha:W (PE X a ta))(hb:W (PE X b tb)):W (PE X (.BinOp a op b pos) (tOp r ta tb)):=⟨zpW (ho:=ho) (ha:=ha.h) (hb:=hb.h)⟩
theorem zkv{a:Expr}{ta:TE}{pos:Pos}(ha:W (PE X a ta)):W (PE X (.UnaryOp .Not a pos) (zgY ta)):=⟨ztk (ha:=ha.h)⟩
theorem zih{a:Expr}{pos:Pos}{op}{t:TE}(h:W (PE X a t)):W (PE X (.BoolOp op [a] pos) t):=⟨zpg (h:=h.h)⟩
theorem ziA{a:Expr}{b:Expr}{ta:TE}{tb:TE}{pos:Pos}{z8:List Expr}(ha:W (PE X a ta))(hb:W (PE X (.BoolOp .And (b::z8) pos) tb)):W (PE X (.BoolOp .And (a::b::z8) pos) (zgS ta tb)):=⟨zoT (ha:=ha.h) (hb:=hb.h)⟩
theorem ztD{a:Expr}{b:Expr}{ta:TE}{tb:TE}{pos:Pos}{op:CmpOp}{r:R2}(ho:OpR X (compareOp op) r)(ha:W (PE X a ta))(hb:W (PE X b tb))(hm:behindInMarks op b=false):W (PE X (.Compare a [op] [b] pos) (tOp r ta tb)):=⟨znb (ho:=ho) (ha:=ha.h) (hb:=hb.h) (hm:=hm)⟩
theorem zpl{a:Expr}{b:Expr}{c:Expr}{ta:TE}{tb:TE}{tc:TE}{pos:Pos}{op op':CmpOp}{r r':R2}(ho:OpR X (compareOp op) r)(ho':OpR X (compareOp op') r')(ha:W (PE X a ta))(hb:W (PE X b tb))(hc:W (PE X c tc))(hm:lastMarks [op,op'] [b,c]=false:=by with_unfolding_all rfl):W (PE X (.Compare a [op,op'] [b,c] pos) (zgn r r' ta tb tc)):=⟨zl5 (ho:=ho) (ho':=ho') (ha:=ha.h) (hb:=hb.h) (hc:=hc.h) (hm:=hm)⟩
theorem zag{es:List Expr}{t:TA}{pos:Pos}(h:W (PA X es t)):W (PE X (.List es pos) (zfv t)):=⟨zlF (h:=h.h)⟩
theorem zbj{es:List Expr}{t:TA}{x1}{pos:Pos}(h:W (PA X es t)):W (PE X (.Tuple es x1 pos) (zfa t)):=⟨zsj (h:=h.h)⟩
theorem zdt{pos:Pos}:W (PE X (.Dict [] [] pos) zf4):=⟨zrh ⟩
theorem zam{C:Addr}{e:Expr}{ta:TE}{f:Str}{pos:Pos}(c:Cls X.K C)(n:zbe X.K C f)(he:W (PE X e ta))(hb:attributeBase e f X.env (eval e X.env)=eval e X.env:=by rfl):W (PE X (.Attribute e f pos) (zei C ta f)):=⟨zlT (c:=c) (n:=n) (he:=he.h) (hb:=hb)⟩
theorem zaj{a:Expr}{b:Expr}{ta:TE}{tb:TE}{pos:Pos}{r:R2}(hr:IxR X r)(ha:W (PE X a ta))(hb:W (PE X b tb))(hs:zi2 b):W (PE X (.Subscript a b pos) (tOp r ta tb)):=⟨zhX (hr:=hr) (ha:=ha.h) (hb:=hb.h) (hs:=hs)⟩
theorem zdu{e:Expr}{te:TE}{lo:Option Expr}{hi:Option Expr}{tl:TO}{th:TO}{pos:Pos}{p2:Pos}{r:V->Option Int->Option Int->Hp->VK->Prop}(hr:SlR X r)(he:W (PE X e te))(hl:W (PO X lo tl))(hu:W (PO X hi th)):W (PE X (.Subscript e (.Slice lo hi none p2) pos) (tSl r te tl th)):=⟨zmx (hr:=hr) (he:=he.h) (hl:=hl.h) (hu:=hu.h)⟩
theorem zH{cm:Bool}{k:Nat}{j:Nat}{x:Str}{ps:List Str}{sp:Sp}{e:Expr}{es:List Expr}{t:TA}{p:Pos}{pos:Pos}(G:GF X.prog X.w X.K X.mg X.base cm j x ps sp)(hr:zD cm k X.A)(hg:Gl X x)(ha:W (PA X (e::es) t))(hj:j<=k:=by decide)(hdb:(x==("__debug__":Str))=false:=by decide)(hp:zZ e=true:=by rfl)(hps:zaK es=true:=by rfl):W (PE X (.Call (.Name x p) (e::es) [] pos) (zeW sp [] E0 t)):=⟨zty (G:=G) (hr:=hr) (hg:=hg) (ha:=ha.h) (hj:=hj) (hdb:=hdb) (hp:=hp) (hps:=hps)⟩
theorem zI{id:String}{r:List V->Hp->VK->Prop}{x:Str}{e:Expr}{es:List Expr}{t:TA}{p pos:Pos}(hc:zR X (.builtin id) r)(hg:Gl X x)(hm:X.mg x=none)(hv:bootBuiltins x=some (.builtin id))(ha:W (PA X (e::es) t))(hp:zZ e=true:=by rfl)(hps:zaK es=true:=by rfl)(hn:x≠"__name__":=by decide)(hdb:(x==("__debug__":Str))=false:=by decide):W (PE X (.Call (.Name x p) (e::es) [] pos) (tCB r t)):=⟨znH (hc:=hc) (hg:=hg) (hm:=hm) (hv:=hv) (ha:=ha.h) (hp:=hp) (hps:=hps) (hn:=hn) (hdb:=hdb)⟩
theorem zbp{T:String}{r:List V->Hp->VK->Prop}{x:Str}{e:Expr}{es:List Expr}{t:TA}{p pos:Pos}(hc:zR X (.type T) r)(hg:Gl X x)(hm:X.mg x=none)(hv:bootBuiltins x=some (.type T))(ha:W (PA X (e::es) t))(hp:zZ e=true:=by rfl)(hps:zaK es=true:=by rfl)(hn:x≠"__name__":=by decide)(hdb:(x==("__debug__":Str))=false:=by decide):W (PE X (.Call (.Name x p) (e::es) [] pos) (tCB r t)):=⟨zoU (hc:=hc) (hg:=hg) (hm:=hm) (hv:=hv) (ha:=ha.h) (hp:=hp) (hps:=hps) (hn:=hn) (hdb:=hdb)⟩
theorem zdx {cm : Bool} {k : Nat} {j : Nat} {m : Str} {C : Addr} {ps : List Str} {sp : Sp} {e : Expr} {o : Expr} {es : List Expr} {t : TA} {ta : TE} {pos : Pos} {apos : Pos} {pl : Sem Bool} (he : W (PE X o ta)) (c : Cls X.K C) (G : GM X.prog X.w X.K X.mg X.base cm j C m ps sp) (hr : zD cm k X.A) (ha : W (PA X (e :: es) t)) (hj : j ≤ k := by decide) (hp : zZ e = true := by rfl) (hps : zaK es = true := by rfl) (ht : eval (.Call (.Attribute o m apos) (e :: es) [] pos) X.env = (do
      let ov ← eval o X.env
      standAt apos.atName
      let (f, first) ← holding [ov] (getMethod ov m pl)
      callWith pos f first (backTo pos (starEach (e :: es) X.env)) (backToKw pos (keywordEach [] X.env))) := by rfl) : W (PE X (.Call (.Attribute o m apos) (e :: es) [] pos) (zbE C m sp [] E0 ta t)) := ⟨zsY (he := he.h) (c := c) (G := G) (hr := hr) (ha := ha.h) (hj := hj) (hp := hp) (hps := hps) (ht := ht)⟩
theorem zcj {cm : Bool} {k : Nat} {j : Nat} {m : Str} {C : Addr} {ps : List Str} {sp : Sp} {o : Expr} {ta : TE} {pos : Pos} {apos : Pos} {pl : Sem Bool} (he : W (PE X o ta)) (c : Cls X.K C) (G : GM X.prog X.w X.K X.mg X.base cm j C m ps sp) (hr : zD cm k X.A) (hj : j ≤ k := by decide) (ht : eval (.Call (.Attribute o m apos) [] [] pos) X.env = (do
      let ov ← eval o X.env
      standAt apos.atName
      let (f, first) ← holding [ov] (getMethod ov m pl)
      callWith pos f first (backTo pos (starEach [] X.env)) (backToKw pos (keywordEach [] X.env))) := by rfl) : W (PE X (.Call (.Attribute o m apos) [] [] pos) (zbE C m sp [] E0 ta zbn)) := ⟨ztB (he := he.h) (c := c) (G := G) (hr := hr) (hj := hj) (ht := ht)⟩
theorem za5 {cm : Bool} {k : Nat} {j : Nat} {m : Str} {C : Addr} {ps : List Str} {sp : Sp} {e : Expr} {o : Expr} {es : List Expr} {t : TA} {ta : TE} {pos : Pos} {apos : Pos} {Ex : Addr → St → Hp → Prop} {pl : Sem Bool} (he : W (PE X o ta)) (c : Cls X.K C) (T : zaH X Ex) (G : GMX X.prog X.w X.K X.mg X.base cm j C m ps sp) (hr : zD cm k X.A) (ha : W (PA X (e :: es) t)) (hj : j ≤ k := by decide) (hp : zZ e = true := by rfl) (hps : zaK es = true := by rfl) (ht : eval (.Call (.Attribute o m apos) (e :: es) [] pos) X.env = (do
      let ov ← eval o X.env
      standAt apos.atName
      let (f, first) ← holding [ov] (getMethod ov m pl)
      callWith pos f first (backTo pos (starEach (e :: es) X.env)) (backToKw pos (keywordEach [] X.env))) := by rfl) : W (PE X (.Call (.Attribute o m apos) (e :: es) [] pos) (zdK C m sp [] Ex ta t)) := ⟨zjM (he := he.h) (c := c) (T := T) (G := G) (hr := hr) (ha := ha.h) (hj := hj) (hp := hp) (hps := hps) (ht := ht)⟩
theorem zhA{o e:Expr}{to te:TE}{apos cpos:Pos}(ho:W (PE X o to))(he:W (PE X e te))(hbase:attributeBase o "append" X.env (eval o X.env)=eval o X.env:=by rfl)(hline:(apos.endLine==cpos.line)=true:=by rfl)(hp:zZ e=true:=by rfl):W (PE X (.Call (.Attribute o "append" apos) [e] [] cpos) (ze4 to te)):=⟨zpq (ho:=ho.h) (he:=he.h) (hbase:=hbase) (hline:=hline) (hp:=hp)⟩
theorem zem{c:Bool}{X:Cx}{elt tg iter:Expr}{ifs:List Expr}{sc:Scope}{pos:Pos}{N':List Str}{ix:List (Option Nat)}{wi:TI}{g:TG}{tt:TT}{te:TE}(hc:c=true->X.calm=true)(L:za2 X sc N' ix)(hi:W (PIc c X tg iter wi))(hg:∀Ga C fp s H,W (PG (zN X sc N' Ga C fp s H) tg g))(ht:∀Ga C fp s H,W (PTs (zN X sc N' Ga C fp s H) ifs tt))(he:∀Ga C fp s H,W (PE (zN X sc N' Ga C fp s H) elt te))(hs:∀x,foldedSetIterable iter X.env x=pure x:=by intro _;rfl):W (PE X (.ListComp elt [⟨tg,iter,ifs,0⟩] sc pos) (tLC ix wi g tt te)):=⟨zmw (hc:=hc) (L:=L) (hi:=hi.h) (hg:=λz0 z1 z2 z3 z4=>(hg z0 z1 z2 z3 z4).h) (ht:=λz0 z1 z2 z3 z4=>(ht z0 z1 z2 z3 z4).h) (he:=λz0 z1 z2 z3 z4=>(he z0 z1 z2 z3 z4).h) (hs:=hs)⟩
theorem zU{pos:Pos}{i:Nat}{x:Str}(hN:X.N.Nodup)(hi:X.N[i]?=some x)(hx:Loc X.env.scope x)(hf:X.fn x=true\/X.env.scope.names.lookup x=some .local:=by first|exact .inl rfl|exact .inr rfl|assumption):W (PG X (.Name x pos) (zbm i)):=⟨zkn (hN:=hN) (hi:=hi) (hx:=hx) (hf:=hf)⟩
theorem zc8{X:Cx}{pos:Pos}{es:List Expr}{k:Nat}{t:TGs}{n:Nat}(h:W (PGs X es t))(hl:(assignEach es X.env).length=n:=by rfl)(hst:(assignEach es X.env).findIdx? (·.1)=none:=by rfl):W (PG X (.Tuple es k pos) (ziQ X.K n t)):=⟨zkS (h:=h.h) (hl:=hl) (hst:=hst)⟩
theorem zcY  : W (PGs X [] zfS):=⟨zps ⟩
theorem zav{e:Expr}{es:List Expr}{t:TG}{u:TGs}(h1:W (PG X e t))(h2:W (PGs X es u))(hs:(assignEach (e::es) X.env).map (·.2)=assign e X.env::(assignEach es X.env).map (·.2):=by rfl):W (PGs X (e::es) (zfN t u)):=⟨zsh (h1:=h1.h) (h2:=h2.h) (hs:=hs)⟩
theorem zeR{X:Cx}:W (PTs X [] zgb):=⟨zkt ⟩
theorem zq3{X:Cx}{i:Nat}{D:Addr}{x n:Str}{np hpos pos:Pos}{body:List Stmt}{b₀:Stmt}{suite:List Stmt}{tb:(Addr->St->Hp->Prop)->TS}{ts:TS}(hc:X.calm=true)(hex:X.ex=[])(hstk:X.stack=X.env::X.outer/\X.env.frame=some X.env.locals)(hN:X.N.Nodup)(hi:X.N[i]?=some n)(hlo:X.env.scope.names.lookup n=some .local)(OD:zaB X.K D)(hg:Gl X x)(hm:X.mg x=some (.ref D))(hb:∀Ga Ex,W (PSs (zfK X Ga Ex) body (tb Ex)))(hs:∀Ga ea,W (PSs (zb9 X Ga ea) (b₀::suite) ts))(hdb:(x==("__debug__":Str))=false:=by decide):W (PS X (.Try body [.ExceptHandler (some (.Name x np)) (some n) (b₀::suite) hpos] [] [] pos) (zeg X.K i D tb ts)):=⟨zkp (hc:=hc) (hex:=hex) (hstk:=hstk) (hN:=hN) (hi:=hi) (hlo:=hlo) (OD:=OD) (hg:=hg) (hm:=hm) (hb:=λz0 z1=>(hb z0 z1).h) (hs:=λz0 z1=>(hs z0 z1).h) (hdb:=hdb)⟩
theorem ztq{o e:Expr}{to te:TE}{apos cpos:Pos}(ho:W (PE X o to))(he:W (PE X e te))(hbase:attributeBase o "join" X.env (eval o X.env)=eval o X.env:=by rfl)(hline:(apos.endLine==cpos.line)=true:=by rfl)(hp:zZ e=true:=by rfl):W (PE X (.Call (.Attribute o "join" apos) [e] [] cpos) (zfp to te)):=⟨zky (ho:=ho.h) (he:=he.h) (hbase:=hbase) (hline:=hline) (hp:=hp)⟩
theorem zbP {pos : Pos} {o i : Expr} {to ti : TE} {t : zdV} (ho : W (PE X o to)) (hi : W (PE X i ti)) (hs : zdZ X t) (ha : ∀ v, assign (.Subscript o i pos) X.env v = (do
      let ov ← holding [v] (eval o X.env)
      let iv ← holding [v, ov] (eval i X.env)
      standAt pos
      holding [v, ov, iv] (setItem ov iv v)
      release [v, ov, iv] []) := by intro _; rfl) : W (PG X (.Subscript o i pos) (zgr to ti t)) := ⟨zk6 (ho := ho.h) (hi := hi.h) (hs := hs) (ha := ha)⟩
theorem zdQ  : W (PO X none zfI):=⟨zrT ⟩
theorem zdr{e:Expr}{te:TE}(h:W (PE X e te)):W (PO X (some e) (zfo te)):=⟨zrR (h:=h.h)⟩
theorem zfq{st:Stmt}{t:TS}(h:W (PS X st t)):W (PS X st (zfh t)):=⟨ztb (h:=h.h)⟩
theorem zct{e:Expr}{t:TT}(h:W (PW X e t)):W (PT X e t):=⟨PW.pt h.h⟩
end
def asc(z:Str):Bool:=z.cps.all (· < 128)
def Its(z:Str):It:=⟨λi _=>i<z.cps.size,λi H x H'=>H'=H/\∃c,z.cps[i]?=some c/\x = .str ⟨#[c]⟩,λi _=>z.cps.size<=i⟩
section
variable {X:Cx}{tg:Expr}
def zsm(tl:TE):TI:=λσ H R=>tl σ H λx H1=>uS x λz=>asc z=true/\R (Its z) H1
theorem zjP{tl:TE}{σ:St}{H:Hp}{R:It->Hp->Prop}:zsm tl σ H R=tl σ H λx H1=>uS x λz=>asc z=true/\R (Its z) H1:=rfl
end
def zhM(z:Str)(k:Nat):It :=
 ⟨λi _=>i<z.cps.size,λi H v H'=>∃T c,H T=none/\v = .ref T/\z.cps[i]?=some c/\H'=upd H T (.tup [.int ((i:Nat)+k:Nat),.str ⟨#[c]⟩]),λi _=>i=z.cps.size⟩
section
variable {prog:Program}{w:World}{A:Around}{E:Value->Shared->Prop}{s:Shared}
end
section
variable {X:Cx}
def znQ(k:Nat)(ta:TE):TI:=λσ H R=>ta σ H λx H1=>uS x λz=>asc z=true/\R (zhM z k) H1
theorem zsU{k:Nat}{ta:TE}{σ:St}{H:Hp}{R:It->Hp->Prop}:znQ k ta σ H R=ta σ H λx H1=>uS x λz=>asc z=true/\R (zhM z k) H1:=rfl
end
section
variable {K:PySem.W.Frag}{g:TG}{tb:TS}{D:zad}{σ:St}{H:Hp}{tt:TT}{te:TE}{Q:VK}
theorem zat.str{z:Str}{τ:St}(Pv:Nat->St->List V->Hp->Prop)(hz:∀i τ ys H,Pv i τ ys H->ys.length<sizeLine)(h0:Pv 0 τ [] H)
  (hs:∀(N:St->List V->Hp->Prop) i c τ ys H,z.cps[i]?=some c->Pv i τ ys H->(∀τ ys H,Pv (i+1) τ ys H->N τ ys H)->g (.str ⟨#[c]⟩) τ H λτ1 H4=>tt τ1 H4 λok H5=>zbt N ys τ1 te ok H5) (hd:∀τ ys H,Pv z.cps.size τ ys H->∀D H',New H D (.lst ys) H'->Q (.ref D) H'):zat (Its z) g tt te τ H Q:=by
 refine ⟨λi m τ ys H=>m=z.cps.size-i/\i<=z.cps.size/\Pv i τ ys H,⟨z.cps.size,by simp,zero_le _,h0⟩,?_⟩
 rintro i m τ ys H2 ⟨rfl,hi,p⟩
 refine ⟨hz i τ ys H2 p,?_⟩
 by_cases hlt:i<z.cps.size
 ·refine .inr ⟨hlt,λx H' y=>?_⟩
  obtain ⟨e,c,hc,rfl⟩:=y
  subst e
  exact hs (λτ1 ys H=>∃m',m'<z.cps.size-i/\m'=z.cps.size-(i+1)/\i+1<=z.cps.size/\Pv (i+1) τ1 ys H) i c τ ys _ hc p λτ1 zs H q=>⟨z.cps.size-(i+1),by omega,rfl,hlt,q⟩
 ·have e:i=z.cps.size:=by omega
  subst e
  exact .inl ⟨le_refl _,λD hD _=>hd τ ys H2 p D _ (.mk' hD)⟩
end
section
variable {X:Cx}
def zfY:List V->Hp->VK->Prop:=λxs H Q=>uR1 xs λp=>∃bs:List Bool,H p=some (.lst (bs.map V.bl))/\Q (.bl (bs.all id)) H
theorem zfO{bs:List Bool}:∀{us:List Value},zk (bs.map V.bl) us->us=bs.map Value.bool:=by
 induction bs with
 | nil=>intro us r;rw [map_nil] at r;cases r;rfl
 | cons b bs ih =>
  intro us r
  rw [map_cons] at r
  cases r with
  | cons r1 r2=>rw [show _=Value.bool b from r1,ih r2];rfl
theorem zpS(hc:X.calm=true):zR X (.builtin "all") zfY:=by
 intro Ga s σ H xs us Q I r h
 obtain ⟨p,rfl,bs,hp,q⟩:=h
 cases r with
 | cons r1 rr =>
  cases rr
  cases (show _=Value.ref p from r1)
  obtain ⟨its,rv,pl,_⟩:=I.list (SqL.of (K:=X.K) hp)
  have e:=zfO rv
  subst e
  have hne:p≠s.heap.objs.size:=by obtain ⟨o,e,_⟩:=pl.isList;exact ne_of_lt (lt_size e)
  refine call_all_walk (wpAny_pyIter_list pl.isList ?_)
  have hl:∀k:Nat,k=bs.length->(List.range k).all (λi=>bs.getD i true)=bs.all id:=by
   intro k e
   subst e
   rw [Bool.eq_iff_iff,all_eq_true,all_eq_true]
   constructor
   ·intro h x hx
    obtain ⟨i,hi,rfl⟩:=getElem_of_mem hx
    have:=h i (mem_range.mpr hi)
    rw [getD_eq_getElem?_getD,List.getElem?_eq_getElem hi] at this
    exact this
   ·intro h i hi
    have hi:=mem_range.mp hi
    rw [getD_eq_getElem?_getD,List.getElem?_eq_getElem hi]
    exact h _ (getElem_mem hi)
  refine ⟨s.heap.objs.size,_,_,_,_,_,λi=>bs.getD i true,rfl,Walks.list (prog:=X.prog) (w:=X.w) (A:=X.A.in1) (show X.A.in1.handled=none from I.ok.hd hc) s.heap.objs.size p hne (bs.map Value.bool).toArray,⟨⟨_,get?_push_size _ rfl,rfl,rfl⟩,pl.isList.push _⟩,?_,λh' tk kp=>?_⟩
  ·intro i v s2 Q2 E2 hv hQ
   have hv:(bs.map Value.bool)[i]?=some v:=by simpa using hv
   rw [getElem?_map] at hv
   cases e:bs[i]? with
   | none=>rw [e] at hv;cases hv
   | some b =>
    rw [e] at hv
    cases hv
    have e2:bs.getD i true=b:=by rw [getD_eq_getElem?_getD,e];rfl
    have hQ:Q2 (bs.getD i true) s2:=hQ
    rw [e2] at hQ
    exact wpAny_pure hQ
  ·refine ⟨.bl _,H,I.kept (t':=tk) λb o e=>kp b o ?_ (get?_push_of_some _ e),rfl,?_⟩
   ·simpa using ne_of_lt (lt_size e)
   ·rw [hl _ (by simp)];exact q
theorem zhs{p:Addr}{H:Hp}{Q:VK}:zfY [.ref p] H Q = ∃bs:List Bool,H p=some (.lst (bs.map V.bl))/\Q (.bl (bs.all id)) H:=za3
def uIs(neg:Bool):R2:=λx y H Q=>(y = .non\/∃b,y = .bl b/\zC x=true)/\Q (.bl (if neg then !decide (x=y) else decide (x=y))) H
theorem zsp{c b:Bool}{x:V}{H:Hp}{Q:VK}:uIs c x (.bl b) H Q=(zC x=true/\Q (.bl (if c then !decide (x = .bl b) else decide (x = .bl b))) H):=by simp [uIs]
theorem zts{c:Bool}{x:V}{H:Hp}{Q:VK}:uIs c x .non H Q=Q (.bl (if c then !decide (x = .non) else decide (x = .non))) H:=by simp [uIs]
def uIn:R2:=λx y H Q=>(∃i j,x = .str i/\y = .str j/\Q (.bl (!(Builtin.Str.occurrences j i 0 j.length 1).isEmpty)) H)\/∃p xs,y = .ref p/\(H p=some (.lst xs)\/H p=some (.tup xs))/\zC x=true/\xs.all zC=true/\Q (.bl (inV x xs)) H
theorem zkZ(hu:X.A.units<cLine):OpR X (compareOp .In) uIn:=(ztz.or zte).weak λx y H Q h=>by
 rcases h with h|⟨p,xs,e,h,f1,f2,q⟩
 ·exact .inl h
 ·exact .inr ⟨p,xs,e,h.elim (λh=>.inl (SqL.of h)) (λh=>.inr (SqT.of h)),f1,f2,by simpa using q⟩
theorem zji{x y:Str}{H:Hp}{Q:VK}:uIn (.str x) (.str y) H Q=Q (.bl (!(Builtin.Str.occurrences y x 0 y.length 1).isEmpty)) H:=by simp [uIn]
theorem ziw{x:V}{p:Addr}{H:Hp}{Q:VK}:uIn x (.ref p) H Q = ∃xs,(H p=some (.lst xs)\/H p=some (.tup xs))/\zC x=true/\xs.all zC=true/\Q (.bl (inV x xs)) H:=by simp [uIn]
def uM1(to te:TE)(r:Str->V->Hp->VK->Prop):TE:=λσ H Q=>to σ H λx H1=>uS x λz=>te σ H1 λy H2=>r z y H2 Q
theorem zqx{to te:TE}{r:Str->V->Hp->VK->Prop}{σ:St}{H:Hp}{Q:VK}:uM1 to te r σ H Q=to σ H λx H1=>uS x λz=>te σ H1 λy H2=>r z y H2 Q:=rfl
def zpj:Str->V->Hp->VK->Prop:=λz y H Q=>uS y λq=>Q (.int (PySem.Txt.rfind z q)) H
theorem zqg{z q:Str}{H:Hp}{Q:VK}:zpj z (.str q) H Q=Q (.int (PySem.Txt.rfind z q)) H:=zeC
def znu:Str->V->Hp->VK->Prop:=λz y H Q=>uS y λq=>(q.length==0)=false/\z.length<sizeLine/\(PySem.Txt.split z q).length<=sizeLine/\∀p H2,New H p (.lst ((PySem.Txt.split z q).map V.str)) H2->Q (.ref p) H2
theorem zj1{z q:Str}{H:Hp}{Q:VK}:znu z (.str q) H Q=((q.length==0)=false/\z.length<sizeLine/\(PySem.Txt.split z q).length<=sizeLine/\∀p H2,New H p (.lst ((PySem.Txt.split z q).map V.str)) H2->Q (.ref p) H2):=zeC
def zsL(te:TE):TE:=λσ H Q=>te σ H λx H1=>(∃z,x = .str z/\z.length<=sizeLine/\Q (.str z) H1)\/∃i,x = .int i/\i.natAbs.log2<1920/\Q (.str (toString i)) H1
def zdD:V->Hp->VK->Prop:=λx H1 Q=>(∃z,x = .str z/\z.length<=sizeLine/\Q (.str z) H1)\/∃i,x = .int i/\i.natAbs.log2<1920/\Q (.str (toString i)) H1
theorem zny{te:TE}{σ:St}{H:Hp}{Q:VK}:zsL te σ H Q=te σ H λx H1=>zdD x H1 Q:=rfl
theorem zmU{z:Str}{H:Hp}{Q:VK}:zdD (.str z) H Q=(z.length<=sizeLine/\Q (.str z) H):=by simp [zdD]
theorem zjV{i:Int}{H:Hp}{Q:VK}:zdD (.int i) H Q=(i.natAbs.log2<1920/\Q (.str (toString i)) H):=by simp [zdD]
abbrev TJ:=Str->TE
def zoq:TJ:=λout _ H Q=>out.length<=sizeLine/\Q (.str out) H
def zsx(te:TE)(tj:TJ):TJ:=λout σ H Q=>te σ H λx H1=>uS x λy=>(out++y).length<=sizeLine/\tj (out++y) σ H1 Q
def zmA(tj:TJ):TE:=tj Str.empty
theorem zkR{tj:TJ}:zmA tj=tj Str.empty:=rfl
def zb7:List V->Hp->VK->Prop:=λxs H Q=>zbq xs H Q\/∃z n,xs=[.str z]/\z.length<=640/\PySem.intText? z=some n/\Q (.int n) H
theorem zoO:zR X (.type "int") zb7:=by
 intro Ga s σ H xs us Q I r h
 rcases h with h|⟨z,n,rfl,hl,hn,q⟩
 ·exact zr2 Ga s σ H xs us Q I r h
 ·cases r with
  | cons r1 rr =>
   cases rr
   obtain ⟨t,rfl⟩:=r1
   exact PySem.W.KIN.call_text hn hl ⟨.int n,H,I.tok _,⟨_,rfl⟩,q⟩
theorem zqd{i:Int}{H:Hp}{Q:VK}:zb7 [.int i] H Q=Q (.int i) H:=by simp [zb7,zbq]
theorem zqZ{k:Bool}{H:Hp}{Q:VK}:zb7 [.bl k] H Q=Q (.int (if k then 1 else 0)) H:=by simp [zb7,zbq]
theorem zsW{z:Str}{H:Hp}{Q:VK}:zb7 [.str z] H Q = ∃n,z.length<=640/\PySem.intText? z=some n/\Q (.int n) H:=by simp [zb7,zbq]
def zcQ:List V->Hp->VK->Prop:=λxs H Q=>zdc xs H Q\/∃z,xs=[.str z]/\Q (.str z) H
theorem zi6{i:Int}{H:Hp}{Q:VK}:zcQ [.int i] H Q=(i.natAbs.log2<1920/\Q (.str (toString i)) H):=by simp [zcQ,zdc]
theorem zid{z:Str}{H:Hp}{Q:VK}:zcQ [.str z] H Q=Q (.str z) H:=by simp [zcQ,zdc]
def zth:List V->Hp->VK->Prop:=λxs H Q=>uR1 xs λp=>∃ys,H p=some (.lst ys)/\∀l H2,New H l (.tup ys) H2->Q (.ref l) H2
theorem zqy{p:Addr}{H:Hp}{Q:VK}:zth [.ref p] H Q = ∃ys,H p=some (.lst ys)/\∀l H2,New H l (.tup ys) H2->Q (.ref l) H2:=za3
def zjs:List V->Hp->VK->Prop:=λxs H Q=>∃x,xs=[.str x]/\x.length=1/\Q (.int (x.cps.getD 0 0:Nat)) H
theorem zqv{x:Str}{H:Hp}{Q:VK}:zjs [.str x] H Q=(x.length=1/\Q (.int (x.cps.getD 0 0:Nat)) H):=by simp [zjs]
def zco:R2:=λx y H Q=>uEq false x y H Q\/∃a b xs ys,x = .ref a/\y = .ref b/\H a=some (.tup xs)/\H b=some (.tup ys)/\xs.all zC=true/\ys.all zC=true/\Q (.bl (eqL xs ys)) H
theorem ztp{i j:Int}{H:Hp}{Q:VK}:zco (.int i) (.int j) H Q=Q (.bl (decide (i=j))) H:=by simp [zco,uEq,zbh]
theorem zph{x y:Str}{H:Hp}{Q:VK}:zco (.str x) (.str y) H Q=Q (.bl (decide (x=y))) H:=by simp [zco,uEq,zbh]
theorem zlh{x y:Bool}{H:Hp}{Q:VK}:zco (.bl x) (.bl y) H Q=Q (.bl (decide (x=y))) H:=by simp [zco,uEq,zbh]
theorem zlC{a b:Addr}{H:Hp}{Q:VK}:zco (.ref a) (.ref b) H Q = ∃xs ys,((H a=some (.lst xs)/\H b=some (.lst ys))\/(H a=some (.tup xs)/\H b=some (.tup ys)))/\xs.all zC=true/\ys.all zC=true/\Q (.bl (eqL xs ys)) H:=by
 apply propext;constructor
 ·rintro (h|⟨a',b',xs,ys,e1,e2,h1,h2,f1,f2,q⟩)
  ·rw [zdF] at h
   obtain ⟨xs,ys,h1,h2,f1,f2,q⟩:=h
   exact ⟨xs,ys,.inl ⟨h1,h2⟩,f1,f2,q⟩
  ·cases e1;cases e2;exact ⟨xs,ys,.inr ⟨h1,h2⟩,f1,f2,q⟩
 ·rintro ⟨xs,ys,⟨h1,h2⟩|⟨h1,h2⟩,f1,f2,q⟩
  ·exact .inl (by rw [zdF];exact ⟨xs,ys,h1,h2,f1,f2,q⟩)
  ·exact .inr ⟨a,b,xs,ys,rfl,rfl,h1,h2,f1,f2,q⟩
def zjI(kvs:List (Str×Addr))(z:Str):V:=match kvs.find? (λp=>p.1=z) with|some p=>.ref p.2|none=>.non
def zrp(kvs:List (Str×Addr))(te:TE):TE:=λσ H Q=>te σ H λy H1=>uS y λz=>Q (zjI kvs z) H1
theorem zsC{kvs:List (Str×Addr)}{te:TE}{σ:St}{H:Hp}{Q:VK}:zrp kvs te σ H Q=te σ H λy H1=>uS y λz=>Q (zjI kvs z) H1:=rfl
end
def zhv(lo st:Int)(n:Nat):It:=⟨λi _=>i<n,λi H x H'=>H'=H/\x = .int (lo+i*st),λi _=>n<=i⟩
section
variable {X:Cx}{tg:Expr}
def uI3(vs:List V)(q:Int->Int->Int->Prop):Prop:=∃i j k,vs=[.int i,.int j,.int k]/\q i j k
theorem zqo{i j k:Int}{q:Int->Int->Int->Prop}:uI3 [.int i,.int j,.int k] q=q i j k:=by
 apply propext;constructor
 ·rintro ⟨a,b,c,e,h⟩;cases e;exact h
 ·exact λh=>⟨i,j,k,rfl,h⟩
def zkU(ta:TA):TI:=λσ H R=>ta σ H λvs H1=>uI3 vs λi j k=>(0<=i/\i<=j/\j<2 ^ 20/\0<k/\k<2 ^ 20)/\R (zhv i k ((j-i+k-1) / k).toNat) H1
theorem zoQ{ta:TA}{σ:St}{H:Hp}{R:It->Hp->Prop}:zkU ta σ H R=ta σ H λvs H1=>uI3 vs λi j k=>(0<=i/\i<=j/\j<2 ^ 20/\0<k/\k<2 ^ 20)/\R (zhv i k ((j-i+k-1) / k).toNat) H1:=rfl
end
section
variable {g:TG}{tb:TS}{D:zad}{σ:St}{H:Hp}
end
section
variable {prog:Program}{w:World}{A:Around}{E:Value->Shared->Prop}{s:Shared}
end
def ziD(K:PySem.W.Frag)(a b:Addr):It :=
 ⟨λi H=>∃xs ys x y,SqT K H a xs/\SqL K H b ys/\xs[i]?=some x/\ys[i]?=some y,λi H v H'=>∃T x y,H T=none/\v = .ref T/\H'=upd H T (.tup [x,y])/\(∀xs,SqT K H a xs->xs[i]?=some x)/\∀ys,SqL K H b ys->ys[i]?=some y,
  λi H=>∃xs ys,SqT K H a xs/\SqL K H b ys/\xs.length<=i⟩
section
variable {X:Cx}
def zku(K:PySem.W.Frag)(ta:TA):TI:=λσ H R=>ta σ H λvs H1=>∃a b,vs=[.ref a,.ref b]/\(∃xs,SqT K H1 a xs)/\(∃ys,SqL K H1 b ys)/\R (ziD K a b) H1
end
section
variable {K:PySem.W.Frag}{g:TG}{tb:TS}{D:zad}{σ:St}{H:Hp}{ta:TA}{R:It->Hp->Prop}
theorem znx:zku K ta σ H R=ta σ H λvs H1=>uR2 vs λa b=>(∃xs,SqT K H1 a xs)/\(∃ys,SqL K H1 b ys)/\R (ziD K a b) H1:=by
 apply propext
 constructor
 ·intro h
  exact h
 ·intro h
  exact h
end
section
variable {X:Cx}
end
def tx(l:List Nat):Str:=⟨l.toArray⟩
def sg(z:Str):List Nat:=z.cps.toList
theorem zjk(z:Str):tx (sg z)=z:=by cases z;simp [sg,tx]
theorem zmc{a b:Str}(h:sg a=sg b):a=b:=by rw [<- zjk a,h,zjk]
theorem zjX(z:Str):(sg z).length=z.length:=by simp [sg,Str.length]
def c1(c:Nat):Str:=⟨#[c]⟩
section
variable {X:Cx}{tg:Expr}
def zlL(K:PySem.W.Frag)(tl:TE):TI:=λσ H R=>tl σ H λx H1=>uR x λa=>(∃xs,SqL K H1 a xs/\R (Itl K a) H1)\/∃xs,SqT K H1 a xs/\R (Itt K a) H1
theorem znJ{K:PySem.W.Frag}{tl:TE}{σ:St}{H:Hp}{R:It->Hp->Prop}:zlL K tl σ H R=tl σ H λx H1=>uR x λa=>(∃xs,SqL K H1 a xs/\R (Itl K a) H1)\/∃xs,SqT K H1 a xs/\R (Itt K a) H1:=rfl
end
section
variable {K:PySem.W.Frag}{g:TG}{tt:TT}{te:TE}{H:Hp}{Q:VK}{R:It->Hp->Prop}
theorem zat.tup{a:Addr}{xs:List V}{τ:St}(Pv:Nat->St->List V->Hp->Prop)(hz:∀i τ ys H,Pv i τ ys H->ys.length<sizeLine)(ha:∀i τ ys H,Pv i τ ys H->SqT K H a xs)(h0:Pv 0 τ [] H)
  (hs:∀(N:St->List V->Hp->Prop) i x τ ys H,xs[i]?=some x->Pv i τ ys H->(∀τ ys H,Pv (i+1) τ ys H->N τ ys H)->g x τ H λτ1 H4=>tt τ1 H4 λok H5=>zbt N ys τ1 te ok H5) (hd:∀τ ys H,Pv xs.length τ ys H->∀D H',New H D (.lst ys) H'->Q (.ref D) H'):zat (Itt K a) g tt te τ H Q:=by
 refine ⟨λi m τ ys H=>m=xs.length-i/\i<=xs.length/\Pv i τ ys H,⟨xs.length,by simp,zero_le _,h0⟩,?_⟩
 rintro i m τ ys H2 ⟨rfl,hi,p⟩
 refine ⟨hz i τ ys H2 p,?_⟩
 have q:=ha i τ ys H2 p
 by_cases hlt:i<xs.length
 ·refine .inr ⟨⟨xs,xs[i],q,by simp [hlt]⟩,λx H' y=>?_⟩
  obtain ⟨e,y⟩:=y
  subst e
  exact hs (λτ1 ys H=>∃m',m'<xs.length-i/\m'=xs.length-(i+1)/\i+1<=xs.length/\Pv (i+1) τ1 ys H) i x τ ys _ (y xs q) p λτ1 zs H q=>⟨xs.length-(i+1),by omega,rfl,hlt,q⟩
 ·have e:i=xs.length:=by omega
  subst e
  exact .inl ⟨⟨xs,q,le_refl _⟩,λD hD _=>hd τ ys H2 p D _ (.mk' hD)⟩
theorem zsr{c:Bool}{a:Addr}{H:Hp}{Q:VK}:zbB c (.ref a) .non H Q=Q (.bl (if c then true else false)) H:=by simp [zbB]
theorem zmN{c:Bool}{a:Str}{H:Hp}{Q:VK}:zbB c (.str a) .non H Q=Q (.bl (if c then true else false)) H:=by simp [zbB]
end
section
variable {M:Model}{A:Around}{E:Value->Shared->Prop}{s:Shared}{B:Heap}{env:Env}{outer l:List Env}{L e:Addr}{cls fl:Value}
end
section
variable {X:Cx}
def znm:R2:=λx y H Q=>uEq true x y H Q\/∃a b xs ys,x = .ref a/\y = .ref b/\H a=some (.tup xs)/\H b=some (.tup ys)/\xs.all zC=true/\ys.all zC=true/\Q (.bl (!eqL xs ys)) H
theorem zqY{a b:Addr}{H:Hp}{Q:VK}:znm (.ref a) (.ref b) H Q = ∃xs ys,((H a=some (.lst xs)/\H b=some (.lst ys))\/(H a=some (.tup xs)/\H b=some (.tup ys)))/\xs.all zC=true/\ys.all zC=true/\Q (.bl (!eqL xs ys)) H:=by
 apply propext;constructor
 ·rintro (h|⟨a',b',xs,ys,e1,e2,h1,h2,f1,f2,q⟩)
  ·rw [zdF] at h
   obtain ⟨xs,ys,h1,h2,f1,f2,q⟩:=h
   exact ⟨xs,ys,.inl ⟨h1,h2⟩,f1,f2,q⟩
  ·cases e1;cases e2;exact ⟨xs,ys,.inr ⟨h1,h2⟩,f1,f2,q⟩
 ·rintro ⟨xs,ys,⟨h1,h2⟩|⟨h1,h2⟩,f1,f2,q⟩
  ·exact .inl (by rw [zdF];exact ⟨xs,ys,h1,h2,f1,f2,q⟩)
  ·exact .inr ⟨a,b,xs,ys,rfl,rfl,h1,h2,f1,f2,q⟩
theorem zax{K:PySem.W.Frag}(h:X.K=K):zR X (.builtin "isinstance") (zdH K):=by subst h;exact zgx
def zpU:Str->V->Hp->VK->Prop:=λz y H Q=>uS y λq=>Q (.int (PySem.Txt.find z q)) H
theorem zrx{z q:Str}{H:Hp}{Q:VK}:zpU z (.str q) H Q=Q (.int (PySem.Txt.find z q)) H:=zeC
def zcX:List V->Hp->VK->Prop:=λxs H Q=>zcQ xs H Q\/∃b:Bool,xs=[.bl b]/\Q (.str (if b then "True" else "False")) H
theorem zoa{i:Int}{H:Hp}{Q:VK}:zcX [.int i] H Q=(i.natAbs.log2<1920/\Q (.str (toString i)) H):=by simp [zcX,zi6]
theorem zkj{z:Str}{H:Hp}{Q:VK}:zcX [.str z] H Q=Q (.str z) H:=by simp [zcX,zid]
theorem znN{b:Bool}{H:Hp}{Q:VK}:zcX [.bl b] H Q=Q (.str (if b then "True" else "False")) H:=by simp [zcX,zcQ,zdc]
end
section
variable {κ:Type} [DecidableEq κ]
def zJ(kvs:List (κ×V))(k:κ):Option V:=(kvs.find? λkv=>decide (kv.1=k)).map (·.2)
def zal(kvs:List (κ×V))(k:κ)(v:V):List (κ×V) :=
 if (kvs.any λkv=>decide (kv.1=k))=true then kvs.map (λkv=>if kv.1=k then (kv.1,v) else kv) else kvs++[(k,v)]
def zay(kvs:List (κ×V))(k:κ):List (κ×V):=kvs.filter λkv=>decide (kv.1≠k)
theorem zd0{p:κ×V}{r:List (κ×V)}{k:κ}(e:p.1=k):zJ (p::r) k=some p.2:=by simp [zJ,find?_cons,e]
theorem zeX{p:κ×V}{r:List (κ×V)}{k:κ}(e : ¬ p.1=k):zJ (p::r) k=zJ r k:=by simp [zJ,find?_cons,e]
theorem zfb(k:κ):∀kvs:List (κ×V),(kvs.any λkv=>decide (kv.1=k))=(zJ kvs k).isSome
 | []=>rfl
 | p::r=>by
  rw [any_cons]
  by_cases e:p.1=k
  ·simp only [zd0 e,decide_eq_true e,Bool.true_or,Option.isSome_some]
  ·rw [zeX e,decide_eq_false e,Bool.false_or];exact zfb k r
theorem ziM(kvs:List (κ×V))(k:κ)(v:V):(zal kvs k v).length<=kvs.length+1:=by
 unfold zal
 split
 ·rw [length_map];omega
 ·rw [length_append,length_cons,length_nil];omega
theorem zaq.isSome_eq{o:Option V}{u:Option Value}(r:zaq o u):o.isSome=u.isSome:=by
 cases o with
 | none=>cases u with
  | none=>rfl
  | some _=>exact (show False from r).elim
 | some _=>cases u with
  | none=>exact (show False from r).elim
  | some _=>rfl
theorem zaq.getD{o:Option V}{u:Option Value}{d:V}{d':Value}(r:zaq o u)(rd:zi d d'):zi (o.getD d) (u.getD d'):=by
 cases o with
 | none=>cases u with
  | none=>exact rd
  | some _=>exact (show False from r).elim
 | some _=>cases u with
  | none=>exact (show False from r).elim
  | some _=>exact r
theorem KV.val{kvs:List (κ×V)}{vs:List (κ×Value)}(r:KV kvs vs)(k:κ):zaq (zJ kvs k) (valueAt vs k):=by
 unfold KV at r
 induction r with
 | nil=>exact True.intro
 | @cons p q ps qs h t ih =>
  obtain ⟨h1,h2⟩:=h
  by_cases e:p.1=k
  ·have e':q.1=k:=h1.symm.trans e
   have b:valueAt (q::qs) k=some q.2:=by simp [valueAt,find?_cons,e']
   rw [zd0 e,b];exact h2
  ·have e' : ¬ q.1=k:=λz=>e (h1.trans z)
   have b:valueAt (q::qs) k=valueAt qs k:=by simp [valueAt,find?_cons,e']
   rw [zeX e,b];exact ih
theorem KV.any{kvs:List (κ×V)}{vs:List (κ×Value)}(r:KV kvs vs)(k:κ):(kvs.any λkv=>decide (kv.1=k))=vs.any λkv=>decide (kv.1=k):=by
 unfold KV at r
 induction r with
 | nil=>rfl
 | cons h t ih=>rw [any_cons,any_cons,ih,h.1]
theorem KV.repl{kvs:List (κ×V)}{vs:List (κ×Value)}(r:KV kvs vs)(k:κ){y:V}{u:Value}(ry:zi y u) :
  KV (kvs.map λkv=>if kv.1=k then (kv.1,y) else kv) (vs.map λkv=>if kv.1=k then (kv.1,u) else kv):=by
 unfold KV at r ⊢
 induction r with
 | nil=>exact .nil
 | @cons p q ps qs h t ih =>
  rw [map_cons,map_cons]
  refine .cons ?_ ih
  obtain ⟨h1,h2⟩:=h
  by_cases e:p.1=k
  ·rw [if_pos e,if_pos (h1.symm.trans e)];exact ⟨h1,ry⟩
  ·rw [if_neg e,if_neg (λz=>e (h1.trans z))];exact ⟨h1,h2⟩
theorem KV.put{kvs:List (κ×V)}{vs:List (κ×Value)}(r:KV kvs vs)(k:κ){y:V}{u:Value}(ry:zi y u):KV (zal kvs k y) (stored vs k u):=by
 unfold zal stored
 rw [r.any k]
 by_cases e:(vs.any λkv=>decide (kv.1=k))=true
 ·rw [if_pos e,if_pos e];exact r.repl k ry
 ·rw [if_neg e,if_neg e];exact Paired.snoc r ⟨rfl,ry⟩
theorem KV.drop{kvs:List (κ×V)}{vs:List (κ×Value)}(r:KV kvs vs)(k:κ):KV (zay kvs k) (without vs k):=by
 unfold KV at r ⊢
 unfold zay without
 induction r with
 | nil=>exact .nil
 | @cons p q ps qs h t ih =>
  obtain ⟨h1,h2⟩:=h
  rw [filter_cons,filter_cons]
  by_cases e:p.1=k
  ·have a : ¬ decide (p.1≠k)=true:=by simp [e]
   have b : ¬ decide (q.1≠k)=true:=by simp [h1.symm.trans e]
   rw [if_neg a,if_neg b];exact ih
  ·have e' : ¬ q.1=k:=λz=>e (h1.trans z)
   have a:decide (p.1≠k)=true:=by simp [e]
   have b:decide (q.1≠k)=true:=by simp [e']
   rw [if_pos a,if_pos b];exact .cons ⟨h1,h2⟩ ih
theorem KV.length{kvs:List (κ×V)}{vs:List (κ×Value)}(r:KV kvs vs):kvs.length=vs.length:=Paired.length r
theorem zhq(kvs:List (κ×V))(k:κ):(zay kvs k).length<=kvs.length:=List.length_filter_le _ _
end
theorem zbD{P:Program}{w:World}{k:Key}{u:Value}(r:zi (kV k) u):(zae P w).is k u=true:=by
 cases k with
 | inl i=>obtain ⟨t,e⟩:=(show ∃t,u=Value.int i t from r);subst e;exact zpe P w i t
 | inr x=>obtain ⟨t,e⟩:=(show ∃t,u=Value.str x t from r);subst e;exact zmD P w x t
theorem ziH{P:Program}{w:World}:∀{ks:List Key}{us:List Value},zk (ks.map kV) us->ItemsAre (zae P w) ks us
 | [],_,r=>by rw [map_nil] at r;cases r;exact .nil
 | k::ks,_,r=>by
  rw [map_cons] at r
  cases r with
  | cons h t=>exact .cons (zbD h) (ziH t)
abbrev KT(H:Hp):List (List Key×V)->List (List Key×Addr×Value)->Prop:=Paired λp q=>p.1=q.1/\H q.2.1=some (.tup (p.1.map kV))/\zi p.2 q.2.2
theorem KT.val{H:Hp}{kvs:List (List Key×V)}{xs:List (List Key×Addr×Value)}(r:KT H kvs xs)(k:List Key):zaq (zJ kvs k) ((atKey xs k).map (·.2)):=by
 induction r with
 | nil=>exact True.intro
 | @cons p q ps qs h t ih =>
  obtain ⟨h1,_,h2⟩:=h
  by_cases e:p.1=k
  ·have e':q.1=k:=h1.symm.trans e
   have b:atKey (q::qs) k=some q.2:=by simp [atKey,find?_cons,e']
   rw [zd0 e,b];exact h2
  ·have e' : ¬ q.1=k:=λz=>e (h1.trans z)
   have b:atKey (q::qs) k=atKey qs k:=by simp [atKey,find?_cons,e']
   rw [zeX e,b];exact ih
theorem KT.repl{H:Hp}{kvs:List (List Key×V)}{xs:List (List Key×Addr×Value)}(r:KT H kvs xs)(k:List Key){y:V}{u:Value}(ry:zi y u) :
  KT H (kvs.map λkv=>if kv.1=k then (kv.1,y) else kv) (xs.map (putAt k u)):=by
 induction r with
 | nil=>exact .nil
 | @cons p q ps qs h t ih =>
  rw [map_cons,map_cons]
  refine .cons ?_ ih
  obtain ⟨h1,h2,h3⟩:=h
  unfold putAt
  by_cases e:p.1=k
  ·rw [if_pos e,if_pos (h1.symm.trans e)];exact ⟨h1,h2,ry⟩
  ·rw [if_neg e,if_neg (λz=>e (h1.trans z))];exact ⟨h1,h2,h3⟩
theorem KT.put{H:Hp}{kvs:List (List Key×V)}{xs:List (List Key×Addr×Value)}(r:KT H kvs xs)(k:List Key){b:Addr}{y:V}{u:Value}(hb:H b=some (.tup (k.map kV)))(ry:zi y u) :
  KT H (zal kvs k y) (storedH xs k b u):=by
 have e:(kvs.any λkv=>decide (kv.1=k))=(atKey xs k).isSome:=by
  rw [zfb,(r.val k).isSome_eq,isSome_map]
 unfold zal storedH
 rw [e]
 by_cases q:(atKey xs k).isSome=true
 ·rw [if_pos q,if_pos q];exact r.repl k ry
 ·rw [if_neg q,if_neg q];exact Paired.snoc r ⟨rfl,hb,ry⟩
theorem KT.keeps{H H':Hp}{kvs:List (List Key×V)}{xs:List (List Key×Addr×Value)}(r:KT H kvs xs)(ht:∀b ys,H b=some (.tup ys)->H' b=some (.tup ys)):KT H' kvs xs :=
 Paired.mapP r λ_ _ z=>⟨z.1,ht _ _ z.2.1,z.2.2⟩
section
variable {P:Program}{w:World}{H:Hp}{h:Heap}{a:Addr}
theorem zi3{u:HO}(ok:HOk P w H h)(e:Rd H a u):zX P w H h a u:=e.ok ok
theorem za6{kvs:List (Key×V)}(ok:HOk P w H h)(e:Rd H a (.dK kvs)):kvs.length<=sizeLine/\(a==sysModules)=false/\∃vs,KV kvs vs/\h.DictOf (zae P w) a vs :=
 show zX P w H h a (.dK kvs) from zi3 ok e
theorem zd3{kvs:List (Key×V)}(ok:HOk P w H h)(e:H a=some (.dK kvs)):kvs.length<=sizeLine/\(a==sysModules)=false/\∃vs,KV kvs vs/\h.DictOf (zae P w) a vs:=za6 ok (.inl e)
theorem zc1{ks:List Key}(ok:HOk P w H h)(e:H a=some (.tup (ks.map kV))):(tupleKind (zae P w)).is h ks a:=by
 obtain ⟨_,its,r,o,h1,h2,n,h3⟩:=(show zX P w H h a (.tup (ks.map kV)) from ok a _ e)
 exact ⟨o,its.toArray,n,h1,h2,h3,by simpa using ziH r⟩
theorem zb4{kvs:List (List Key×V)}(ok:HOk P w H h)(e:Rd H a (.dT kvs)):kvs.length<=sizeLine/\(a==sysModules)=false /\
  ∃xs,KT H kvs xs/\h.DictOfH (tupleKind (zae P w)) a xs:=by
 obtain ⟨z,y,xs,r,o,es,ep,h1,h2,h3,h4,h5⟩:=(show zX P w H h a (.dT kvs) from zi3 ok e)
 refine ⟨z,y,xs,r,o,es,ep,h1,h2,h3,h4,λx hx=>?_,h5⟩
 have all:∀{l:List (List Key×V)}{m:List (List Key×Addr×Value)},KT H l m->∀x∈m,(tupleKind (zae P w)).is h x.1 x.2.1:=by
  intro l m q
  induction q with
  | nil=>intro x hx;exact nomatch hx
  | @cons p q ps qs hq t ih =>
   intro x hx
   rcases mem_cons.mp hx with e|hx
   ·subst e
    exact zc1 ok (by rw [<- hq.1];exact hq.2.1)
   ·exact ih x hx
 exact all r x hx
theorem zkE{kvs:List (List Key×V)}(ok:HOk P w H h)(e:H a=some (.dT kvs)):kvs.length<=sizeLine/\(a==sysModules)=false /\
  ∃xs,KT H kvs xs/\h.DictOfH (tupleKind (zae P w)) a xs:=zb4 ok (.inl e)
end
def zba(H:Hp)(a:Addr)(y:V)(r:Option V):Prop :=
 (∃kvs k,Rd H a (.dK kvs)/\y=kV k/\r=zJ kvs k)\/∃kvs k b,Rd H a (.dT kvs)/\y = .ref b/\H b=some (.tup (k.map kV))/\r=zJ kvs k
def zdN(H:Hp)(a:Addr)(y v:V)(H':Hp):Prop :=
 (∃kvs k,H a=some (.dK kvs)/\y=kV k/\kvs.length<sizeLine/\H'=upd H a (.dK (zal kvs k v))) \/
 ∃kvs k b,H a=some (.dT kvs)/\y = .ref b/\H b=some (.tup (k.map kV))/\kvs.length<sizeLine/\H'=upd H a (.dT (zal kvs k v))
theorem zba.k{H:Hp}{a:Addr}{kvs:List (Key×V)}{k:Key}(e:H a=some (.dK kvs)):zba H a (kV k) (zJ kvs k):=.inl ⟨kvs,k,.inl e,rfl,rfl⟩
theorem zba.t{H:Hp}{a b:Addr}{kvs:List (List Key×V)}{k:List Key}(e:H a=some (.dT kvs))(eb:H b=some (.tup (k.map kV))):zba H a (.ref b) (zJ kvs k):=.inr ⟨kvs,k,b,.inl e,rfl,eb,rfl⟩
theorem zdN.k{H:Hp}{a:Addr}{kvs:List (Key×V)}{k:Key}{v:V}(e:H a=some (.dK kvs))(hl:kvs.length<sizeLine):zdN H a (kV k) v (upd H a (.dK (zal kvs k v))):=.inl ⟨kvs,k,e,rfl,hl,rfl⟩
theorem zdN.t{H:Hp}{a b:Addr}{kvs:List (List Key×V)}{k:List Key}{v:V}(e:H a=some (.dT kvs))(eb:H b=some (.tup (k.map kV)))(hl:kvs.length<sizeLine) :
  zdN H a (.ref b) v (upd H a (.dT (zal kvs k v))):=.inr ⟨kvs,k,b,e,rfl,eb,hl,rfl⟩
section
variable {X:Cx}{Ga:List (Addr×Obj)}{σ:St}{H:Hp}{s:Shared}{a:Addr}{y v:V}{u r:Value}{o:Option V}{A:Around}{E:Value->Shared->Prop}
theorem znA{Q:Value->Shared->Prop}(hu:A.units+1<cLine)(I:Inv X Ga σ H s)(g:zba H a y (some v))(ry:zi y u)(h:∀w' s',Inv X Ga σ H s'->zi v w'->Q w' s') :
  wpAny (model X.prog X.w) A (getItem (.ref a) u) Q E s:=by
 rcases g with ⟨kvs,k,e,ey,l⟩|⟨kvs,k,b,e,ey,eb,l⟩
 ·subst ey
  obtain ⟨z,hd,vs,rel,dd⟩:=za6 I.hok e
  obtain ⟨w',hw,rw'⟩:=zaq.some_of (v:=v) (o:=valueAt vs k) (by rw [l];exact rel.val k)
  exact wpAny_getItem_of (zbD ry) dd.mapOf hw (h w' _ (I.tok _) rw')
 ·subst ey
  cases (show u=Value.ref b from ry)
  obtain ⟨z,hd,xs,rel,dd⟩:=zb4 I.hok e
  obtain ⟨w',hw,rw'⟩:=zaq.some_of (v:=v) (o:=(atKey xs k).map (·.2)) (by rw [l];exact rel.val k)
  obtain ⟨p,hp,hp2⟩:=map_eq_some_iff.mp hw
  refine wpAny_getItem_heap (tupleKind_room_in1 hu) (zc1 I.hok eb) dd hp ?_
  rw [hp2]
  exact h w' _ (I.tok _) rw'
theorem zqV{Q:Value->Shared->Prop}(hu:A.units+1<cLine)(I:Inv X Ga σ H s)(g:zba H a y o)(ry:zi y u)(h:∀s',Inv X Ga σ H s'->Q (.bool o.isSome) s') :
  wpAny (model X.prog X.w) A (compareOp .In u (.ref a)) Q E s:=by
 rcases g with ⟨kvs,k,e,ey,l⟩|⟨kvs,k,b,e,ey,eb,l⟩
 ·subst ey
  obtain ⟨z,hd,vs,rel,dd⟩:=za6 I.hok e
  refine wpAny_in_of (zbD ry) hd dd.mapOf ?_
  rw [<- (rel.val k).isSome_eq,<- l]
  exact h _ (I.tok _)
 ·subst ey
  cases (show u=Value.ref b from ry)
  obtain ⟨z,hd,xs,rel,dd⟩:=zb4 I.hok e
  refine wpAny_in_heap (tupleKind_room_in1 hu) (zc1 I.hok eb) hd dd ?_
  have q:=(rel.val k).isSome_eq
  rw [isSome_map] at q
  rw [<- q,<- l]
  exact h _ (I.tok _)
theorem zq9{Q:Value->Shared->Prop}(hu:A.units+1<cLine)(I:Inv X Ga σ H s)(g:zba H a y o)(ry:zi y u)(h:∀s',Inv X Ga σ H s'->Q (.bool (!o.isSome)) s') :
  wpAny (model X.prog X.w) A (compareOp .NotIn u (.ref a)) Q E s:=by
 rcases g with ⟨kvs,k,e,ey,l⟩|⟨kvs,k,b,e,ey,eb,l⟩
 ·subst ey
  obtain ⟨z,hd,vs,rel,dd⟩:=za6 I.hok e
  refine wpAny_notIn_of (zbD ry) hd dd.mapOf ?_
  rw [<- (rel.val k).isSome_eq,<- l]
  exact h _ (I.tok _)
 ·subst ey
  cases (show u=Value.ref b from ry)
  obtain ⟨z,hd,xs,rel,dd⟩:=zb4 I.hok e
  refine wpAny_notIn_heap (tupleKind_room_in1 hu) (zc1 I.hok eb) hd dd ?_
  have q:=(rel.val k).isSome_eq
  rw [isSome_map] at q
  rw [<- q,<- l]
  exact h _ (I.tok _)
theorem zeP{h':Heap}{t':Nat}{ob:HO}(I:Inv X Ga σ H s)(mu:Mut (H a))(hs:SameBut a s.heap h')(he:∃q,h'.get? a=some q)(new:zX X.prog X.w (upd H a ob) h' a ob) :
  Inv X Ga σ (upd H a ob) { s with heap:=h',toks:=t' } :=
 I.write (x:=a) (e:=a) mu (.inl rfl) (λb q hb z=>(hs.2 b hb).trans z) he new
theorem zez{P:Program}{w:World}{H':Hp}{h':Heap}{kvs:List (Key×V)}{vs:List (Key×Value)}(z:kvs.length<=sizeLine)(hd:(a==sysModules)=false)(rel:KV kvs vs)(dd:h'.DictOf (zae P w) a vs) :
  zX P w H' h' a (.dK kvs):=⟨z,hd,vs,rel,dd⟩
theorem ztc{H':Hp}{Q:Unit->Shared->Prop}(hu:A.units+1<cLine)(I:Inv X Ga σ H s)(g:zdN H a y v H')(ry:zi y u)(rv:zi v r)(h:∀s',Inv X Ga σ H' s'->Q () s') :
  wpAny (model X.prog X.w) A (setItem (.ref a) u r) Q E s:=by
 rcases g with ⟨kvs,k,e,ey,l,eH⟩|⟨kvs,k,b,e,ey,eb,l,eH⟩
 ·subst ey eH
  obtain ⟨z,hd,vs,rel,dd⟩:=zd3 I.hok e
  have hz:vs.length<=sizeLine:=by rw [<- rel.length];exact z
  have hl:(zal kvs k v).length<=sizeLine:=by have:=ziM kvs k v;omega
  refine wpAny_setItem_pairs (hsz:=hz) (zbD ry) dd λh' dd' hs=>h _ ?_
  have he:∃q,h'.get? a=some q:=let ⟨q,_,_,hq,_⟩:=dd';⟨q,hq⟩
  exact zeP I (by rw [e];exact True.intro) hs he (zez hl hd (rel.put k rv) dd')
 ·subst ey eH
  cases (show u=Value.ref b from ry)
  obtain ⟨z,hd,xs,rel,dd⟩:=zkE I.hok e
  have hz:xs.length<=sizeLine:=by rw [<- Paired.length rel];exact z
  have hl:(zal kvs k v).length<=sizeLine:=by have:=ziM kvs k v;omega
  refine wpAny_setItem_heap (hsz:=hz) (tupleKind_room_in1 hu) (zc1 I.hok eb) dd λh' dd' hs=>h _ ?_
  obtain ⟨q,es,ep,hq,h2,h3,h4,_,h5⟩:=dd'
  refine zeP I (by rw [e];exact True.intro) hs ⟨q,hq⟩ ⟨hl,hd,_,(rel.put k eb rv).keeps λc ys ec=>?_,q,es,ep,hq,h2,h3,h4,h5⟩
  rw [ze (zkx ec e (λz=>nomatch z))]
  exact ec
end
section
variable {X:Cx}{Ga:List (Addr×Obj)}{σ:St}{H:Hp}{s:Shared}{a:Addr}{kvs:List (Key×V)}{k:Key}{u:Value}{A:Around}{E:Value->Shared->Prop}
theorem zr4{Q:Unit->Shared->Prop}(I:Inv X Ga σ H s)(e:H a=some (.dK kvs))(ry:zi (kV k) u)(l:(zJ kvs k).isSome=true)(h:∀s',Inv X Ga σ (upd H a (.dK (zay kvs k))) s'->Q () s') :
  wpAny (model X.prog X.w) A (delItem (.ref a) u) Q E s:=by
 obtain ⟨z,hd,vs,rel,dd⟩:=zd3 I.hok e
 refine wpAny_delItem_slot dd.typeIs (by decide) PySem.F.slot_dict_delitem
  (call_meetsIn PySem.F.slot_dict_delitem dd.typeIs PySem.F.entry_dict_delitem (PySem.F.args_dict_delitem_2 _ _) (meets_dict_delitem_pairs (zae X.prog X.w) a (zbD ry)) ⟨vs,dd,by rw [<- rel.length];exact z,by rw [<- (rel.val k).isSome_eq];exact l,λh' dd' hs=>h _ ?_⟩)
 have he:∃q,h'.get? a=some q:=let ⟨q,_,_,hq,_⟩:=dd';⟨q,hq⟩
 exact zeP I (by rw [e];exact True.intro) hs he (zez (le_trans (zhq kvs k) z) hd (rel.drop k) dd')
theorem zkL{v:V}{more:List Value}{Q:Value->Shared->Prop}(I:Inv X Ga σ H s)(e:H a=some (.dK kvs))(ry:zi (kV k) u)(l:zJ kvs k=some v)(hm:more=[]\/∃x,more=[x])
  (h:∀w' s',Inv X Ga σ (upd H a (.dK (zay kvs k))) s'->zi v w'->Q w' s'):wpAny (model X.prog X.w) A (call (.builtin "dict.pop") (.ref a::u::more)) Q E s:=by
 obtain ⟨z,hd,vs,rel,dd⟩:=zd3 I.hok e
 obtain ⟨w',hw,rw'⟩:=zaq.some_of (v:=v) (o:=valueAt vs k) (by rw [<- l];exact rel.val k)
 have hp:(keyPart u).isSome=true:=by
  cases k with
  | inl i=>obtain ⟨t,q⟩:=(show ∃t,u=Value.int i t from ry);subst q;rfl
  | inr x=>obtain ⟨t,q⟩:=(show ∃t,u=Value.str x t from ry);subst q;rfl
 have ha:argsOk "dict.pop" ⟨.ref a::u::more,[]⟩:=by
  rcases hm with q|⟨x,q⟩
  ·subst q;exact PySem.F.args_dict_pop_2 _ _
  ·subst q;exact PySem.F.args_dict_pop_3 _ _ _
 refine call_meetsIn PySem.F.slot_dict_pop dd.typeIs PySem.F.entry_dict_pop ha (meets_dict_pop_there (zae X.prog X.w) a (zbD ry) more hm hp)
  ⟨vs,w',dd,by rw [<- rel.length];exact z,hw,λh' dd' hs=>h w' _ ?_ rw'⟩
 have he:∃q,h'.get? a=some q:=let ⟨q,_,_,hq,_⟩:=dd';⟨q,hq⟩
 exact zeP I (by rw [e];exact True.intro) hs he (zez (le_trans (zhq kvs k) z) hd (rel.drop k) dd')
end
theorem zhd{X:Cx}{Ga:List (Addr×Obj)}{σ:St}{H:Hp}{s:Shared}{a:Addr}{y:V}{o:Option V}(I:Inv X Ga σ H s)(g:zba H a y o):s.TypeIs (.ref a) "dict":=by
 rcases g with ⟨kvs,k,e,_,_⟩|⟨kvs,k,b,e,_,_,_⟩
 ·obtain ⟨_,_,vs,_,dd⟩:=za6 I.hok e
  exact dd.typeIs
 ·obtain ⟨_,_,xs,_,dd⟩:=zb4 I.hok e
  exact dd.typeIs
section
variable {X:Cx}{o i e value:Expr}{pos pos' tpos:Pos}{td ty tv:TE}
end
section
variable {X:Cx}{pos:Pos}
end
structure M1(X:Cx)(o:Expr)(m:Str)(apos:Pos)(e:Expr)(cpos:Pos):Prop where
 base:attributeBase o m X.env (eval o X.env)=eval o X.env
 few:((backTo cpos (starEach [e] X.env)).all (λx=>!x.1)&&(backToKw cpos (keywordEach [] X.env)).all (λx=>x.1.isSome)
  && decide (([e]:List Expr).length+([]:List Keyword).length+(if ([]:List Keyword).isEmpty then 0 else 1)<30))=true
 line:(apos.endLine==cpos.line)=true
 trees:backTo cpos (starEach [e] X.env)=[(false,eval e X.env)]
structure M2(X:Cx)(o:Expr)(m:Str)(apos:Pos)(e f:Expr)(cpos:Pos):Prop where
 base:attributeBase o m X.env (eval o X.env)=eval o X.env
 few:((backTo cpos (starEach [e,f] X.env)).all (λx=>!x.1)&&(backToKw cpos (keywordEach [] X.env)).all (λx=>x.1.isSome)
  && decide (([e,f]:List Expr).length+([]:List Keyword).length+(if ([]:List Keyword).isEmpty then 0 else 1)<30))=true
 line:(apos.endLine==cpos.line)=true
 trees:backTo cpos (starEach [e,f] X.env)=[(false,eval e X.env),(false,eval f X.env)]
def IsD(H:Hp)(a:Addr):Prop:=(∃kvs,Rd H a (.dK kvs))\/∃kvs,Rd H a (.dT kvs)
theorem zed{X:Cx}{Ga:List (Addr×Obj)}{σ:St}{H:Hp}{s:Shared}{a:Addr}(I:Inv X Ga σ H s)(d:IsD H a) :
  s.TypeIs (.ref a) "dict"/\(∀b,Value.ref a = .ref b->∃ob,s.heap.get? b=some ob/\ob.dict=none)/\(a==sysModules)=false:=by
 rcases d with ⟨kvs,e⟩|⟨kvs,e⟩
 ·obtain ⟨_,hd,vs,_,dd⟩:=za6 I.hok e
  refine ⟨dd.typeIs,λb q=>?_,hd⟩
  cases q
  obtain ⟨ob,_,_,h1,h2,_⟩:=dd
  exact ⟨ob,h1,h2.2.1⟩
 ·obtain ⟨_,hd,xs,_,dd⟩:=zb4 I.hok e
  refine ⟨dd.typeIs,λb q=>?_,hd⟩
  cases q
  obtain ⟨ob,_,_,h1,h2,_⟩:=dd
  exact ⟨ob,h1,h2.2.1⟩
section
variable {X:Cx}{Ga:List (Addr×Obj)}{σ:St}{H:Hp}{s:Shared}{a:Addr}{y d:V}{u r:Value}{o:Option V}{A:Around}{E:Value->Shared->Prop}
theorem zmQ{Q:Value->Shared->Prop}(hu:A.units+1<cLine)(I:Inv X Ga σ H s)(g:zba H a y o)(ry:zi y u)(rd:zi d r)(h:∀w' s',Inv X Ga σ H s'->zi (o.getD d) w'->Q w' s') :
  wpAny (model X.prog X.w) A (call (.builtin "dict.get") [.ref a,u,r]) Q E s:=by
 rcases g with ⟨kvs,k,e,ey,l⟩|⟨kvs,k,b,e,ey,eb,l⟩
 ·subst ey
  obtain ⟨z,hd,vs,rel,dd⟩:=za6 I.hok e
  refine call_meetsIn slot_dict_get dd.typeIs PySem.F.entry_dict_get (PySem.F.args_dict_get_3 _ _ _) (meets_dict_get_default (zae X.prog X.w) a (zbD ry) hd r) ⟨_,dd.mapOf,h _ _ (I.tok _) ?_⟩
  rw [l]
  exact (rel.val k).getD rd
 ·subst ey
  cases (show u=Value.ref b from ry)
  obtain ⟨z,hd,xs,rel,dd⟩:=zb4 I.hok e
  refine call_meetsIn slot_dict_get dd.typeIs PySem.F.entry_dict_get (PySem.F.args_dict_get_3 _ _ _) (meetsH_dict_get_default (tupleKind (zae X.prog X.w)) a b hd r) ⟨tupleKind_room_in1 hu,k,xs,zc1 I.hok eb,dd,h _ _ (I.tok _) ?_⟩
  rw [l]
  exact (rel.val k).getD rd
end
section
variable {X:Cx}{o e f:Expr}{apos cpos:Pos}{td ty tx:TE}
end
section
variable {X:Cx}{Ga:List (Addr×Obj)}{σ:St}{H:Hp}{s:Shared}{a:Addr}{kvs:List (Key×V)}{A:Around}{E:Value->Shared->Prop}
theorem zqT{Q:Value->Shared->Prop}(I:Inv X Ga σ H s)(e:Rd H a (.dK kvs))(h:∀p s',H p=none->Inv X Ga σ (upd H p (.dK kvs)) s'->Q (.ref p) s'):wpAny (model X.prog X.w) A (call (.type "dict") [.ref a]) Q E s:=by
 obtain ⟨z,hd,vs,rel,dd⟩:=za6 I.hok e
 refine kt_call_dict hd dd (by rw [<- rel.length];exact z) λh' dd' hs=>?_
 refine h _ _ (I.hok.fresh (le_refl _)) (I.laid (a:=s.heap.objs.size) (o:=.dK kvs) (t':=s.toks) (λb q hq=>?_) (le_refl _) (zez z (beq_eq_false_iff_ne.mpr (Ne.symm (ne_of_lt I.big))) rel dd'))
 exact (hs.2 b (ne_of_lt (lt_size hq))).trans (get?_push_of_some _ hq)
end
section
variable {X:Cx}{Ga:List (Addr×Obj)}{σ:St}{H:Hp}{s:Shared}{a:Addr}{y:V}{u:Value}{A:Around}{E:Value->Shared->Prop}
end
section
variable {X:Cx}
end
section
variable {κ:Type} [DecidableEq κ]
theorem znX{p:κ×V}{r:List (κ×V)}{k:κ}(e:p.1=k):zay (p::r) k=zay r k:=by
 unfold zay
 rw [filter_cons,if_neg (by simp [e])]
theorem zkh{p:κ×V}{r:List (κ×V)}{k:κ}(e : ¬ p.1=k):zay (p::r) k=p::zay r k:=by
 unfold zay
 rw [filter_cons,if_pos (by simp [e])]
end
section
variable {X:Cx}{Ga:List (Addr×Obj)}{σ:St}{H:Hp}{s:Shared}{a:Addr}{o:Obj}{kvs:List (Key×V)}
theorem Inv.swap{o1 o2:HO}(I:Inv X Ga σ H s)(e:H a=some o1)(h1:∀x,o1≠.own x)(h2:∀xs,o1≠.tup xs)(h3:∀ob,o1≠.frz ob (.own 0))(h4:∀ps,o1≠.tbl ps)(h5:∀ob u,X.H₀ a≠some (.frz ob u))
  (new:∀H',zX X.prog X.w H' s.heap a o2):Inv X Ga σ (upd H a o2) s:=by
 have ne:∀b,H b=none->b≠a:=λb n z=>by subst z;rw [e] at n;cases n
 have kn:∀b,H b=none->upd H a o2 b=none:=λb n=>by rw [ze (ne b n)];exact n
 refine ⟨I.ok,I.os,I.bare,⟨I.base.keep,I.base.slot,λb ob q n hx=>kn b (I.base.free b ob q n hx),I.base.there,λb xs q=>?_,λb ob u q=>?_,λb ps q=>?_⟩,I.loc,I.cell,kn _ I.free,λx c q=>kn c (I.freeC x c q),λp hp=>?_,λb u q=>?_,I.len,?_⟩
 ·have z:=I.base.tups b xs q
  rw [ze (λy=>by subst y;rw [e] at z;cases z;exact h2 _ rfl)];exact z
 ·by_cases hb:b=a
  ·subst hb;exact absurd q (h5 ob u)
  ·rw [ze hb];exact I.base.frzs b ob u q
 ·obtain ⟨more,z⟩:=I.base.tbls b ps q
  exact ⟨more,by rw [ze (λy=>by subst y;rw [e] at z;cases z;exact h4 _ rfl)];exact z⟩
 ·obtain ⟨p1,p2,p3⟩:=I.pin p hp
  exact ⟨p1,kn _ p2,p3⟩
 ·by_cases hb:b=a
  ·subst hb;rw [zp] at q;cases q;exact new _
  ·rw [ze hb] at q
   exact (I.hok b u q).stay (λc z _ y=>y) (λc z=>by rw [ze (λy=>by subst y;rw [e] at z;cases z;exact h1 _ rfl)];exact z) (λc xs z=>by rw [ze (λy=>by subst y;rw [e] at z;cases z;exact h2 _ rfl)];exact z)
 ·rcases I.hdk with z|⟨b,ob,vs,q1,q2,q3⟩
  ·exact .inl z
  ·exact .inr ⟨b,ob,vs,q1,by rw [ze (λy=>by subst y;rw [e] at q2;cases q2;exact h3 _ rfl)];exact q2,q3⟩
theorem Inv.freeze(I:Inv X Ga σ H s)(e:H a=some (.dK kvs)):(∀ob u,X.H₀ a≠some (.frz ob u))/\∃o,Inv X Ga σ (upd H a (.frz o (.dK kvs))) s:=by
 have h5:∀ob u,X.H₀ a≠some (.frz ob u):=λob u q=>by
  have z:=I.base.frzs a ob u q
  rw [e] at z;cases z
 refine ⟨h5,?_⟩
 obtain ⟨z,hd,vs,rel,dd⟩:=zd3 I.hok e
 obtain ⟨o,es,ep,ho,r⟩:=id dd
 exact ⟨o,I.swap e (λ_ q=>nomatch q) (λ_ q=>nomatch q) (λ_ q=>nomatch q) (λ_ q=>nomatch q) h5 λH'=>⟨ho,z,hd,vs,rel,dd⟩⟩
theorem Inv.thaw(I:Inv X Ga σ H s)(e:H a=some (.frz o (.dK kvs)))(h5:∀ob u,X.H₀ a≠some (.frz ob u)):Inv X Ga σ (upd H a (.dK kvs)) s:=by
 obtain ⟨ho,z⟩:=I.hok a _ e
 exact I.swap e (λ_ q=>nomatch q) (λ_ q=>nomatch q) (λ_ q=>by injection q with _ q;cases q) (λ_ q=>nomatch q) h5 λH'=>z
end
def zby(a:Addr)(kvs:List (Key×V))(H:Hp)(R:Hp->Prop):Prop:=∃o,H a=some (.frz o (.dK kvs))/\R (upd H a (.dK kvs))
def zad.thaw(D:zad)(a:Addr)(kvs:List (Key×V)):zad:=⟨λσ H=>zby a kvs H (D.nx σ),λv H=>zby a kvs H (D.rt v),λσ H=>zby a kvs H (D.bk σ),λσ H=>zby a kvs H (D.ct σ)⟩
def tFz(t:TS):TS:=λD σ H=>∃a kvs,H a=some (.dK kvs)/\∀o,t (D.thaw a kvs) σ (upd H a (.frz o (.dK kvs)))
def zgT(t:TE):TE:=λσ H Q=>∃a kvs,H a=some (.dK kvs)/\∀o,t σ (upd H a (.frz o (.dK kvs))) λv H'=>zby a kvs H' (Q v)
theorem znw{X:Cx}{st:Stmt}{t:TS}(h:PS X st t):PS X st (tFz t):=by
 rintro Ga s σ H D I ⟨a,kvs,e,q⟩
 obtain ⟨h5,o,I1⟩:=I.freeze e
 refine thn (h Ga s σ _ _ I1 (q o)) λf s' z=>?_
 cases f with
 | next=>obtain ⟨σ',H',I',o',e',d⟩:=z;exact ⟨σ',_,I'.thaw e' h5,d⟩
 | brk=>obtain ⟨σ',H',I',o',e',d⟩:=z;exact ⟨σ',_,I'.thaw e' h5,d⟩
 | cont=>obtain ⟨σ',H',I',o',e',d⟩:=z;exact ⟨σ',_,I'.thaw e' h5,d⟩
 | ret u=>obtain ⟨v,σ',H',I',r,o',e',d⟩:=z;exact ⟨v,σ',_,I'.thaw e' h5,r,d⟩
theorem zkA{X:Cx}{e:Expr}{t:TE}(h:PE X e t):PE X e (zgT t):=by
 rintro Ga s σ H Q I ⟨a,kvs,e,q⟩
 obtain ⟨h5,o,I1⟩:=I.freeze e
 refine thn (h Ga s σ _ _ I1 (q o)) λu s' z=>?_
 obtain ⟨v,H',I',r,o',e',d⟩:=z
 exact ⟨v,_,I'.thaw e' h5,r,d⟩
theorem KV.at{kvs:List (Key×V)}{vs:List (Key×Value)}(r:KV kvs vs):∀{i:Nat}{p:Key×V},kvs[i]?=some p->∃u,vs[i]?=some (p.1,u)/\zi p.2 u:=by
 induction r with
 | nil=>intro i p h;simp at h
 | @cons x y l m r t ih =>
  intro i p h
  cases i with
  | zero =>
   have e:x=p:=by simpa using h
   subst e
   exact ⟨y.2,by rw [r.1];rfl,r.2⟩
  | succ i=>exact ih (by simpa using h)
def Itd(a:Addr)(o:Obj)(kvs:List (Key×V)):It:=⟨λi H=>H a=some (.frz o (.dK kvs))/\i<kvs.length,λi H x H'=>H'=H/\∃p,kvs[i]?=some p/\x=kV p.1,λi H=>H a=some (.frz o (.dK kvs))/\kvs.length<=i⟩
def Itw(a:Addr)(o:Obj)(kvs:List (Key×V)):It:=⟨λi H=>H a=some (.frz o (.dK kvs))/\i<kvs.length,λi H x H'=>H'=H/\∃p,kvs[i]?=some p/\x=p.2,λi H=>H a=some (.frz o (.dK kvs))/\kvs.length<=i⟩
theorem zc2{X:Cx}{Ga:List (Addr×Obj)}{σ:St}{H:Hp}{s:Shared}{a:Addr}{o:Obj}{kvs:List (Key×V)}{es:Array DictEntry}{ep:Nat}(I:Inv X Ga σ H s)(e:H a=some (.frz o (.dK kvs)))(hd:o.data = .dict es ep) :
  (a==sysModules)=false/\∃vs,KV kvs vs/\s.heap.DictAt (zae X.prog X.w) a vs ep/\vs.length=kvs.length:=by
 obtain ⟨ho,z,hm,vs,rel,o',es',ep',ho',hc,hd',r⟩:=I.hok a _ e
 rw [ho] at ho'
 cases ho'
 rw [hd] at hd'
 cases hd'
 exact ⟨hm,vs,rel,⟨o,es,ho,hc,hd,r⟩,rel.length.symm⟩
theorem zhZ{X:Cx}{Ga:List (Addr×Obj)}{σ:St}{H:Hp}{s:Shared}{a:Addr}{o:Obj}{kvs:List (Key×V)}(I:Inv X Ga σ H s)(e:H a=some (.frz o (.dK kvs))):∃es ep,o.data = .dict es ep:=by
 obtain ⟨ho,z,hm,vs,rel,o',es',ep',ho',hc,hd',r⟩:=I.hok a _ e
 rw [ho] at ho'
 cases ho'
 exact ⟨_,_,hd'⟩
theorem zlx{P:Program}{w:World}{K:PySem.W.Frag}{tg:Expr}(a it:Addr){o:Obj}{kvs:List (Key×V)}{es:Array DictEntry}{ep:Nat}(hd:o.data = .dict es ep):zbQ true P w K tg (Itd a o kvs) [it] it (λi h=>h.IsKeyIter it a i kvs.length ep) where
 mem:=by simp
 obj:=λi h st b hb=>by
  have e:b=it:=by simpa using hb
  subst e
  obtain ⟨o,e,c,d⟩:=st
  exact ⟨o,e,λv z=>by rw [d] at z;cases z⟩
 keep:=λi h h' st k=>st.at λo e=>k it (by simp) o e
 item:=by
  intro X hP hw hK hc i Ga s σ H E I hf st hg
  subst hP hw hK
  obtain ⟨hq,hi⟩:=hg
  obtain ⟨hm,vs,rel,dd,hl⟩:=zc2 I hq hd
  obtain ⟨p,hp⟩:∃p,kvs[i]?=some p:=⟨kvs[i],by simp [hi]⟩
  obtain ⟨u,hu,ru⟩:=rel.at hp
  obtain ⟨f0,f1,f2,f3,f4,f5⟩:=hf it (by simp)
  rw [<- hl] at st
  refine wpAny_pyNext_dict_item st dd hu λkey h' hk st' sb=>?_
  rw [hl] at st'
  have I1:Inv X Ga σ H { s with heap:=h' }:=I.turned (t':=s.toks) (λb o hb e=>(sb.2 b hb).trans e) f0 f1 f3 f4 f5
  have rk:zi (kV p.1) key:=by
   rcases za9 (show zbJ p.1 key=true from hk) with ⟨j,t,e1,e2⟩|⟨x,t,e1,e2⟩
   ·rw [e1,e2];exact ⟨t,rfl⟩
   ·rw [e1,e2];exact ⟨t,rfl⟩
  obtain ⟨o,e,c,d⟩:=id st'
  exact ⟨key,rfl,zdA (s:={ s with heap:=h' }) e c d (by decide) ⟨kV p.1,H,I1,rk,⟨rfl,p,hp,rfl⟩,st',λb hb=>(hf b hb).1⟩⟩
 done:=by
  intro X hP hw hK hc i Ga s σ H E I hf st hg
  subst hP hw hK
  obtain ⟨hq,hi⟩:=hg
  obtain ⟨hm,vs,rel,dd,hl⟩:=zc2 I hq hd
  obtain ⟨f0,f1,f2,f3,f4,f5⟩:=hf it (by simp)
  rw [<- hl] at st
  exact wpAny_pyNext_dict_end (I.ok.hd (hc rfl)) st dd (List.getElem?_eq_none (by omega)) λh' eb=>⟨rfl,I.turned (t':=s.toks) (λb o hb e=>eb b o hb e) f0 f1 f3 f4 f5⟩
 self:=λ_ _ _ _ _ st h=>wpAny_pyIter_keyiter st h
theorem zj5{P:Program}{w:World}{K:PySem.W.Frag}{tg:Expr}(a it:Addr){o:Obj}{kvs:List (Key×V)}{es:Array DictEntry}{ep:Nat}(hd:o.data = .dict es ep):zbQ true P w K tg (Itw a o kvs) [it] it (λi h=>h.IsValIter it a i kvs.length ep) where
 mem:=by simp
 obj:=λi h st b hb=>by
  have e:b=it:=by simpa using hb
  subst e
  obtain ⟨o,e,c,d⟩:=st
  exact ⟨o,e,λv z=>by rw [d] at z;cases z⟩
 keep:=λi h h' st k=>st.at λo e=>k it (by simp) o e
 item:=by
  intro X hP hw hK hc i Ga s σ H E I hf st hg
  subst hP hw hK
  obtain ⟨hq,hi⟩:=hg
  obtain ⟨hm,vs,rel,dd,hl⟩:=zc2 I hq hd
  obtain ⟨p,hp⟩:∃p,kvs[i]?=some p:=⟨kvs[i],by simp [hi]⟩
  obtain ⟨u,hu,ru⟩:=rel.at hp
  obtain ⟨f0,f1,f2,f3,f4,f5⟩:=hf it (by simp)
  rw [<- hl] at st
  refine wpAny_pyNext_values_item st dd hu λh' st' sb=>?_
  rw [hl] at st'
  have I1:Inv X Ga σ H { s with heap:=h' }:=I.turned (t':=s.toks) (λb o hb e=>(sb.2 b hb).trans e) f0 f1 f3 f4 f5
  obtain ⟨o,e,c,d⟩:=id st'
  exact ⟨u,rfl,zdA (s:={ s with heap:=h' }) e c d (by decide) ⟨p.2,H,I1,ru,⟨rfl,p,hp,rfl⟩,st',λb hb=>(hf b hb).1⟩⟩
 done:=by
  intro X hP hw hK hc i Ga s σ H E I hf st hg
  subst hP hw hK
  obtain ⟨hq,hi⟩:=hg
  obtain ⟨hm,vs,rel,dd,hl⟩:=zc2 I hq hd
  obtain ⟨f0,f1,f2,f3,f4,f5⟩:=hf it (by simp)
  rw [<- hl] at st
  exact wpAny_pyNext_values_end (I.ok.hd (hc rfl)) st dd (List.getElem?_eq_none (by omega)) λh' eb=>⟨rfl,I.turned (t':=s.toks) (λb o hb e=>eb b o hb e) f0 f1 f3 f4 f5⟩
 self:=λ_ _ _ _ _ st h=>wpAny_pyIter_valiter st h
section
variable {X:Cx}{tg:Expr}
def zeu(tl:TE):TI:=λσ H R=>tl σ H λx H1=>∃a o kvs,x = .ref a/\H1 a=some (.frz o (.dK kvs))/\R (Itd a o kvs) H1
def zeh(tl:TE):TI:=λσ H R=>tl σ H λx H1=>∃a o kvs,x = .ref a/\H1 a=some (.frz o (.dK kvs))/\R (Itw a o kvs) H1
theorem znR{l:Expr}{tl:TE}(hl:PE X l tl):PI X tg l (zeu tl):=by
 intro Ga s σ H R I h
 refine thn (hl Ga s σ H _ I h) λv s1 ⟨x,H1,I1,r1,q1⟩=>?_
 obtain ⟨a,o,kvs,e,hq,q⟩:=q1
 subst e
 cases r1
 obtain ⟨es,ep,hd⟩:=zhZ I1 hq
 obtain ⟨hm,vs,rel,dd,hl⟩:=zc2 I1 hq hd
 refine wpAny_pyIter_dict hm dd ?_
 rw [hl]
 refine ⟨s1.heap.objs.size,[s1.heap.objs.size],_,_,H1,rfl,I1.kept (t':=s1.toks) λb o e=>get?_push_of_some _ e,zlx a _ hd,⟨_,get?_push_size _ rfl,rfl,rfl⟩,λb hb=>?_,q⟩
 have e:b=s1.heap.objs.size:=by simpa using hb
 subst e
 exact I1.fpOk (le_refl _) (I1.hok.fresh (le_refl _))
theorem znY{l:Expr}{tl:TE}{apos cpos:Pos}(ho:PE X l tl)(hbase:attributeBase l "values" X.env (eval l X.env)=eval l X.env:=by rfl)(hline:(apos.endLine==cpos.line)=true:=by rfl):PI X tg (.Call (.Attribute l "values" apos) [] [] cpos) (zeh tl):=by
 intro Ga s σ H R I h
 refine wpAny_Call_method0_late hbase hline (thn (ho Ga s σ H _ I h) λv s1 ⟨x,H1,I1,r1,a,o,kvs,ex,hq,q⟩=>?_)
 subst ex
 cases r1
 obtain ⟨es,ep,hd⟩:=zhZ I1 hq
 obtain ⟨hm,vs,rel,dd,hl⟩:=zc2 I1 hq hd
 obtain ⟨t1,t2,_⟩:=zed I1 (.inl ⟨kvs,.inr ⟨o,hq⟩⟩)
 refine ⟨"dict","dict.values",plainAttrs_dict,slot_dict_values,PySem.F.type_dict_values,t1,t2,Calls.callWith_builtin rfl (PySem.evalArgs_none ?_)⟩
 refine call_meetsIn slot_dict_values dd.dictOf.typeIs PySem.F.entry_dict_values (PySem.F.args_dict_values_1 _) (meets_dict_values (zae X.prog X.w) a hm) ⟨⟨vs,dd.dictOf⟩,?_⟩
 have hv:(s1.heap.push { cls:=.type "dict_values",data:=.fields #[.ref a] }).IsValuesView s1.heap.objs.size a:=⟨_,get?_push_size _ rfl,rfl,rfl⟩
 refine wpAny_pyIter_values (s:={ s1 with heap:=s1.heap.push { cls:=.type "dict_values",data:=.fields #[.ref a] } }) hv (dd.push _) ?_
 rw [hl]
 have I2:Inv X Ga σ H1 { s1 with heap:=s1.heap.push { cls:=.type "dict_values",data:=.fields #[.ref a] } }:=I1.kept (t':=s1.toks) λb o e=>get?_push_of_some _ e
 refine ⟨_,[_],_,_,H1,rfl,I2.kept (t':=s1.toks) λb o e=>get?_push_of_some _ e,zj5 a _ hd,⟨_,get?_push_size _ rfl,rfl,rfl⟩,λb hb=>?_,q⟩
 have e:=mem_singleton.mp hb
 subst e
 exact I2.fpOk (le_refl _) (I2.hok.fresh (le_refl _))
end
def uK(y:V)(q:Key->Prop):Prop:=∃k,y=kV k/\q k
theorem zo1{z:Str}{q:Key->Prop}:uK (.str z) q=q (.inr z):=by
 apply propext;constructor
 ·rintro ⟨k,e,h⟩
  cases k with
  | inl i=>cases e
  | inr x=>cases e;exact h
 ·exact λh=>⟨.inr z,rfl,h⟩
theorem zs7{i:Int}{q:Key->Prop}:uK (.int i) q=q (.inl i):=by
 apply propext;constructor
 ·rintro ⟨k,e,h⟩
  cases k with
  | inl i=>cases e;exact h
  | inr x=>cases e
 ·exact λh=>⟨.inl i,rfl,h⟩
section
variable {X:Cx}
def zej:R2:=λx y H Q=>∃a k kvs v,x = .ref a/\y=kV k/\Rd H a (.dK kvs)/\zJ kvs k=some v/\Q v H
theorem zbW(hu:X.A.units+1<cLine):IxR X zej:=by
 intro value slice Ga s σ H x y v u Q I rx ry h hs
 obtain ⟨a,k,kvs,z,rfl,rfl,hq,he,q⟩:=h
 obtain rfl:v=Value.ref a:=rx
 have g:zba H a (kV k) (some z):=.inl ⟨kvs,k,hq,rfl,he.symm⟩
 unfold subscriptTail
 refine wpAny_bind ?_
 rw [getitemInPython_of_ne (zhd I g).not_modules]
 refine wpAny_bind (wpAny_specialOf (zhd I g) PySem.F.slot_dict_getitem.lookup ?_)
 have fin:wpAny (model X.prog X.w) X.A (subscripted slice false (.ref a) u) (λr s₃=>wpAny (model X.prog X.w) X.A (letTemporaryGo value (.ref a) r>>=λ_=>pure r) (EP X Ga σ Q) X.xe s₃) X.xe s:=by
  rw [hs]
  exact wpAny_operating (znA hu I g ry λw' s3 I3 rw'=>wpAny_bind (wpAny_letTemporaryGo (wpAny_pure ⟨z,H,I3,rw',q⟩)))
 first
  | exact wpAny_pure (wpAny_bind fin)
  | exact wpAny_bind (wpAny_pure (wpAny_bind fin))
  | exact wpAny_bind fin
def zee:R2:=λx y H Q=>uIx x y H Q\/zej x y H Q
theorem zkl{a:Addr}{z:Str}{H:Hp}{Q:VK}:zee (.ref a) (.str z) H Q = ∃kvs,Rd H a (.dK kvs)/\∃v,zJ kvs (.inr z)=some v/\Q v H:=by
 apply propext;constructor
 ·rintro (h|⟨a',k,kvs,v,e1,e2,h1,h2,q⟩)
  ·rcases h with ⟨_,_,_,_,_,e,_⟩|⟨_,_,_,_,_,e,_⟩|⟨_,_,_,e,_⟩<;>cases e
  ·cases e1
   cases k with
   | inl i=>cases e2
   | inr x=>cases e2;exact ⟨kvs,h1,v,h2,q⟩
 ·rintro ⟨kvs,h1,v,h2,q⟩
  exact .inr ⟨a,.inr z,kvs,v,rfl,rfl,h1,h2,q⟩
theorem zmo{a:Addr}{i:Int}{H:Hp}{Q:VK}:zee (.ref a) (.int i) H Q=((∃xs,(H a=some (.lst xs)\/H a=some (.tup xs))/\∃v,atI xs i=some v/\Q v H)\/∃kvs,Rd H a (.dK kvs)/\∃v,zJ kvs (.inl i)=some v/\Q v H):=by
 apply propext
 unfold zee
 rw [zec]
 constructor
 ·rintro (h|⟨a',k,kvs,v,e1,e2,h1,h2,q⟩)
  ·exact .inl h
  ·cases e1
   cases k with
   | inl i=>cases e2;exact .inr ⟨kvs,h1,v,h2,q⟩
   | inr x=>cases e2
 ·rintro (h|⟨kvs,h1,v,h2,q⟩)
  ·exact .inl h
  ·exact .inr ⟨a,.inl i,kvs,v,rfl,rfl,h1,h2,q⟩
theorem zmK{x:Str}{i:Int}{H:Hp}{Q:VK}:zee (.str x) (.int i) H Q=(x.length<=sizeLine/\∃c,atI x.cps.toList i=some c/\Q (.str ⟨#[c]⟩) H):=by
 rw [<- zfc]
 apply propext;constructor
 ·rintro (h|⟨a',k,kvs,v,e1,_⟩)
  ·exact h
  ·cases e1
 ·exact .inl
def zdB(c:Bool):R2:=λy x H Q=>∃a k kvs,x = .ref a/\y=kV k/\Rd H a (.dK kvs)/\Q (.bl (if c then !(zJ kvs k).isSome else (zJ kvs k).isSome)) H
theorem zju(hu:X.A.units+1<cLine):OpR X (compareOp .In) (zdB false):=by
 intro Ga s σ H x y v u Q I rx ry h
 obtain ⟨a,k,kvs,rfl,rfl,hq,q⟩:=h
 obtain rfl:u=Value.ref a:=ry
 exact zqV hu I (.inl ⟨kvs,k,hq,rfl,rfl⟩) rx λs3 I3=>⟨.bl (zJ kvs k).isSome,H,I3,rfl,q⟩
theorem zeU(hu:X.A.units+1<cLine):OpR X (compareOp .NotIn) (zdB true):=by
 intro Ga s σ H x y v u Q I rx ry h
 obtain ⟨a,k,kvs,rfl,rfl,hq,q⟩:=h
 obtain rfl:u=Value.ref a:=ry
 exact zq9 hu I (.inl ⟨kvs,k,hq,rfl,rfl⟩) rx λs3 I3=>⟨.bl (!(zJ kvs k).isSome),H,I3,rfl,q⟩
def zgi:R2:=λx y H Q=>uIn x y H Q\/zdB false x y H Q
theorem zma{x y:Str}{H:Hp}{Q:VK}:zgi (.str x) (.str y) H Q=Q (.bl (!(Builtin.Str.occurrences y x 0 y.length 1).isEmpty)) H:=by
 rw [<- zji (x:=x) (y:=y) (H:=H) (Q:=Q)]
 apply propext;constructor
 ·rintro (h|⟨a,k,kvs,e,_⟩)
  ·exact h
  ·cases e
 ·exact .inl
theorem zmk{x:Str}{p:Addr}{H:Hp}{Q:VK}:zgi (.str x) (.ref p) H Q=((∃xs,(H p=some (.lst xs)\/H p=some (.tup xs))/\xs.all zC=true/\Q (.bl (inV (.str x) xs)) H)\/∃kvs,Rd H p (.dK kvs)/\Q (.bl (zJ kvs (.inr x)).isSome) H):=by
 apply propext
 unfold zgi
 rw [ziw]
 constructor
 ·rintro (⟨xs,h,_,f,q⟩|⟨a,k,kvs,e1,e2,h,q⟩)
  ·exact .inl ⟨xs,h,f,q⟩
  ·cases e1
   cases k with
   | inl i=>cases e2
   | inr x=>cases e2;exact .inr ⟨kvs,h,q⟩
 ·rintro (⟨xs,h,f,q⟩|⟨kvs,h,q⟩)
  ·exact .inl ⟨xs,h,rfl,f,q⟩
  ·exact .inr ⟨p,.inr x,kvs,rfl,rfl,h,q⟩
theorem zl6{c:Bool}{x:Str}{p:Addr}{H:Hp}{Q:VK}:zdB c (.str x) (.ref p) H Q = ∃kvs,Rd H p (.dK kvs)/\Q (.bl (if c then !(zJ kvs (.inr x)).isSome else (zJ kvs (.inr x)).isSome)) H:=by
 apply propext;constructor
 ·rintro ⟨a,k,kvs,e1,e2,h,q⟩
  cases e1
  cases k with
  | inl i=>cases e2
  | inr x=>cases e2;exact ⟨kvs,h,q⟩
 ·rintro ⟨kvs,h,q⟩;exact ⟨p,.inr x,kvs,rfl,rfl,h,q⟩
def zfk:List V->Hp->VK->Prop:=λxs H Q=>zdP xs H Q\/∃a kvs,xs=[V.ref a]/\Rd H a (.dK kvs)/\Q (.int kvs.length) H
theorem zs8{a:Addr}{H:Hp}{Q:VK}:zfk [.ref a] H Q=((∃ys,(H a=some (.lst ys)\/H a=some (.tup ys))/\Q (.int ys.length) H)\/∃kvs,Rd H a (.dK kvs)/\Q (.int kvs.length) H):=by
 apply propext
 unfold zfk
 rw [zgz]
 constructor
 ·rintro (h|⟨a,kvs,e,h⟩)
  ·exact .inl h
  ·cases e;exact .inr ⟨kvs,h⟩
 ·rintro (h|⟨kvs,h⟩)
  ·exact .inl h
  ·exact .inr ⟨a,kvs,rfl,h⟩
theorem zrt{x:Str}{H:Hp}{Q:VK}:zfk [.str x] H Q=(x.length<=sizeLine/\Q (.int x.length) H):=by
 rw [<- zjF]
 apply propext;constructor
 ·rintro (h|⟨a,kvs,e,h⟩)
  ·exact h
  ·cases e
 ·exact .inl
def zeF:V->V->V->Hp->(Hp->Prop)->Prop:=λo i v H Q=>ze9 o i v H Q\/∃a k kvs,o = .ref a/\i=kV k/\H a=some (.dK kvs)/\kvs.length<sizeLine/\Q (upd H a (.dK (zal kvs k v)))
theorem zdJ(hu:X.A.units+1<cLine):zdZ X zeF:=by
 intro Ga s σ H o i v ov iv u Q I ro ri rv h
 rcases h with h|⟨a,k,kvs,rfl,rfl,e,l,q⟩
 ·exact zgq Ga s σ H o i v ov iv u Q I ro ri rv h
 ·obtain rfl:ov=Value.ref a:=ro
  exact ztc hu I (.inl ⟨kvs,k,e,rfl,l,rfl⟩) ri rv λs' I'=>⟨_,I',q⟩
theorem zlA{a:Addr}{z:Str}{v:V}{H:Hp}{Q:Hp->Prop}:zeF (.ref a) (.str z) v H Q = ∃kvs,H a=some (.dK kvs)/\kvs.length<sizeLine/\Q (upd H a (.dK (zal kvs (.inr z) v))):=by
 apply propext;constructor
 ·rintro (⟨_,_,_,_,_,e,_⟩|⟨a',k,kvs,e1,e2,h,l,q⟩)
  ·cases e
  ·cases e1
   cases k with
   | inl i=>cases e2
   | inr x=>cases e2;exact ⟨kvs,h,l,q⟩
 ·rintro ⟨kvs,h,l,q⟩;exact .inr ⟨a,.inr z,kvs,rfl,rfl,h,l,q⟩
theorem zta{a:Addr}{i:Int}{v:V}{H:Hp}{Q:Hp->Prop}:zeF (.ref a) (.int i) v H Q=((∃xs j,H a=some (.lst xs)/\ixN xs.length i=some j/\Q (upd H a (.lst (xs.set j v))))\/∃kvs,H a=some (.dK kvs)/\kvs.length<sizeLine/\Q (upd H a (.dK (zal kvs (.inl i) v)))):=by
 apply propext
 unfold zeF
 rw [zjH]
 constructor
 ·rintro (h|⟨a',k,kvs,e1,e2,h,l,q⟩)
  ·exact .inl h
  ·cases e1
   cases k with
   | inl i=>cases e2;exact .inr ⟨kvs,h,l,q⟩
   | inr x=>cases e2
 ·rintro (h|⟨kvs,h,l,q⟩)
  ·exact .inl h
  ·exact .inr ⟨a,.inl i,kvs,rfl,rfl,h,l,q⟩
def zfJ(td ty:TE):TS:=λD σ H=>td σ H λx H1=>ty σ H1 λy H2=>uR x λa=>uK y λk=>∃kvs,H2 a=some (.dK kvs)/\(zJ kvs k).isSome=true/\D.nx σ (upd H2 a (.dK (zay kvs k)))
theorem zli{o i:Expr}{td ty:TE}{tpos pos:Pos}(ho:PE X o td)(hi:PE X i ty):PS X (.Delete [.Subscript o i tpos] pos) (zfJ td ty):=by
 intro Ga s σ H D I h
 refine wpAny_Delete (wpAny_deleteEach_cons (wpAny_delete_Subscript (thn (ho Ga s σ H _ I h) λu s1 ⟨x,H1,I1,rx,q1⟩=>thn (hi Ga s1 σ H1 _ I1 q1) λiv s2 ⟨y,H2,I2,ry,a,ex,k,ey,kvs,e,l,q2⟩=>?_)))
 subst ex ey
 obtain rfl:u=Value.ref a:=rx
 exact zr4 I2 e ry l λs3 I3=>wpAny_deleteEach_nil ⟨σ,_,I3,q2⟩
theorem zro{td ty:TE}{D:zad}{σ:St}{H:Hp}:zfJ td ty D σ H=td σ H λx H1=>ty σ H1 λy H2=>uR x λa=>uK y λk=>∃kvs,H2 a=some (.dK kvs)/\(zJ kvs k).isSome=true/\D.nx σ (upd H2 a (.dK (zay kvs k))):=rfl
def zfF(td ty tx:TE):TE:=λσ H Q=>td σ H λx H1=>uR x λa=>(∃kvs,Rd H1 a (.dK kvs))/\ty σ H1 λy H2=>tx σ H2 λz H3=>uK y λk=>∃kvs,Rd H3 a (.dK kvs)/\Q ((zJ kvs k).getD z) H3
theorem zrL{td ty tx:TE}{σ:St}{H:Hp}{Q:VK}:zfF td ty tx σ H Q=td σ H λx H1=>uR x λa=>(∃kvs,Rd H1 a (.dK kvs))/\ty σ H1 λy H2=>tx σ H2 λz H3=>uK y λk=>∃kvs,Rd H3 a (.dK kvs)/\Q ((zJ kvs k).getD z) H3:=rfl
theorem zs6{o e f:Expr}{td ty tx:TE}{apos cpos:Pos}(hu:X.A.units+1<cLine)(ho:PE X o td)(he:PE X e ty)(hf:PE X f tx)(m:M2 X o "get" apos e f cpos:=by exact ⟨rfl,rfl,rfl,rfl⟩):PE X (.Call (.Attribute o "get" apos) [e,f] [] cpos) (zfF td ty tx):=by
 intro Ga s σ H Q I h
 refine wpAny_Call_method m.base m.few m.line plainAttrs_dict slot_dict_get PySem.F.type_dict_get (thn (ho Ga s σ H _ I h) λu s1 ⟨x,H1,I1,rx,a,ex,d,q1⟩=>?_)
 subst ex
 obtain rfl:u=Value.ref a:=rx
 obtain ⟨t1,t2,_⟩:=zed I1 (.inl d)
 refine ⟨t1,t2,?_⟩
 rw [m.trees]
 refine Calls.callWith_builtin rfl (Calls.evalArgs_plain (Calls.spliced_cons (thn (he Ga s1 σ H1 _ I1 q1) λiv s2 ⟨y,H2,I2,ry,q2⟩ =>
  Calls.spliced_cons (thn (hf Ga s2 σ H2 _ I2 q2) λfv s3 ⟨z,H3,I3,rz,k,ey,kvs,g,q3⟩=>Calls.spliced_nil ?_))))
 subst ey
 exact zmQ hu I3 (.inl ⟨kvs,k,g,rfl,rfl⟩) ry rz λw' s4 I4 rw'=>⟨_,H3,I4,rw',q3⟩
def zgG(td ty:TE):TE:=λσ H Q=>td σ H λx H1=>uR x λa=>(∃kvs,Rd H1 a (.dK kvs))/\ty σ H1 λy H2=>uK y λk=>∃kvs,H2 a=some (.dK kvs)/\∃v,zJ kvs k=some v/\Q v (upd H2 a (.dK (zay kvs k)))
theorem zlR{td ty:TE}{σ:St}{H:Hp}{Q:VK}:zgG td ty σ H Q=td σ H λx H1=>uR x λa=>(∃kvs,Rd H1 a (.dK kvs))/\ty σ H1 λy H2=>uK y λk=>∃kvs,H2 a=some (.dK kvs)/\∃v,zJ kvs k=some v/\Q v (upd H2 a (.dK (zay kvs k))):=rfl
theorem zqN{o e:Expr}{td ty:TE}{apos cpos:Pos}(ho:PE X o td)(he:PE X e ty)(m:M1 X o "pop" apos e cpos:=by exact ⟨rfl,rfl,rfl,rfl⟩):PE X (.Call (.Attribute o "pop" apos) [e] [] cpos) (zgG td ty):=by
 intro Ga s σ H Q I h
 refine wpAny_Call_method m.base m.few m.line plainAttrs_dict PySem.F.slot_dict_pop PySem.F.type_dict_pop (thn (ho Ga s σ H _ I h) λu s1 ⟨x,H1,I1,rx,a,ex,d,q1⟩=>?_)
 subst ex
 obtain rfl:u=Value.ref a:=rx
 obtain ⟨t1,t2,_⟩:=zed I1 (.inl d)
 refine ⟨t1,t2,?_⟩
 rw [m.trees]
 refine Calls.callWith_builtin rfl (Calls.evalArgs_plain (Calls.spliced_cons (thn (he Ga s1 σ H1 _ I1 q1) λiv s2 ⟨y,H2,I2,ry,k,ey,kvs,ea,v,l,q2⟩=>Calls.spliced_nil ?_)))
 subst ey
 exact zkL I2 ea ry l (.inl rfl) λw' s3 I3 rw'=>⟨v,_,I3,rw',q2⟩
end
end L2
namespace L2
open PySem PySem.Spec PyProof.Rows PySem.W PySem.Calls
def leS(a b:Str):Prop:=ltCps b.cps.toList a.cps.toList=false
theorem zq6{a b:Str}(h1:leS a b)(h2:leS b a):a=b:=by
 unfold leS at h1 h2
 rw [ltCps_eq] at h1 h2
 exact zmc (PyProof.Rows.strKind.total a.cps.toList b.cps.toList h2 h1)
theorem ziV:∀{l:List Str},sortedS l=true->l.Pairwise leS:=by
 have key:∀(r:List Str)(x:Str),risingS x r=true->(x::r).Pairwise leS:=by
  intro r
  induction r with
  | nil=>intro x _;simp
  | cons y r ih =>
   intro x h
   have h':(!ltCps y.cps.toList x.cps.toList&&risingS y r)=true:=h
   rw [and_eq_true,not_eq_true'] at h'
   have ihy:=ih y h'.2
   refine pairwise_cons.mpr ⟨λz hz=>?_,ihy⟩
   rcases mem_cons.mp hz with rfl|hz
   ·exact h'.1
   ·have yz:=(pairwise_cons.mp ihy).1 z hz
    unfold leS at yz ⊢
    have xy:=h'.1
    rw [ltCps_eq] at yz xy ⊢
    exact KeyOrd.kle_trans (O:=PyProof.Rows.strKind.toKeyOrd) xy yz
 intro l h
 cases l with
 | nil=>exact .nil
 | cons x r=>exact key r x h
theorem zgv:∀{l m:List Str},l.Perm m->l.Pairwise leS->m.Pairwise leS->l=m
 | [],m,p,_,_=>(Perm.nil_eq p)
 | x::l,[],p,_,_=>absurd p.length_eq (by simp)
 | x::l,y::m,p,hl,hm=>by
  have e:x=y:=by
   have h1:x∈y::m:=p.mem_iff.mp (mem_cons_self ..)
   have h2:y∈x::l:=p.mem_iff.mpr (mem_cons_self ..)
   rcases mem_cons.mp h1 with e|h1
   ·exact e
   ·rcases mem_cons.mp h2 with e|h2
    ·exact e.symm
    ·exact zq6 ((pairwise_cons.mp hl).1 y h2) ((pairwise_cons.mp hm).1 x h1)
  subst e
  rw [zgv ((List.perm_cons x).mp p) (pairwise_cons.mp hl).2 (pairwise_cons.mp hm).2]
open Classical in
noncomputable def zaR(ks:List Str):List Str:=if h:∃ss:List Str,ss.Perm ks/\sortedS ss=true then h.choose else ks
theorem zjj{ks ss:List Str}(p:ss.Perm ks)(h:sortedS ss=true):ss=zaR ks:=by
 have ex:∃ss:List Str,ss.Perm ks/\sortedS ss=true:=⟨ss,p,h⟩
 unfold zaR
 rw [dif_pos ex]
 exact zgv (p.trans ex.choose_spec.1.symm) (ziV h) (ziV ex.choose_spec.2)
section
variable {X:Cx}
def zhR:List V->Hp->VK->Prop:=λxs H Q=>uR1 xs λa=>∃kvs,Rd H a (.dK kvs)/\∀p H2,New H p (.dK kvs) H2->Q (.ref p) H2
theorem zlu{a:Addr}{H:Hp}{Q:VK}:zhR [.ref a] H Q = ∃kvs,Rd H a (.dK kvs)/\∀p H2,New H p (.dK kvs) H2->Q (.ref p) H2:=za3
theorem zcz:zR X (.type "dict") zhR:=by
 intro Ga s σ H xs us Q I r h
 obtain ⟨a,rfl,kvs,ha,q⟩:=h
 obtain ⟨u,rfl,ru⟩:=zbx r
 cases ru
 exact zqT I ha λp s' hn I'=>⟨.ref p,_,I',rfl,q _ _ (.mk' hn)⟩
def sk(kvs:List (Str×V)):List (Key×V):=kvs.map λp=>(.inr p.1,p.2)
def ziG:List V->Hp->VK->Prop:=λxs H Q=>uR1 xs λa=>∃kvs:List (Str×V),Rd H a (.dK (sk kvs))/\kvs.length<64/\∀p H2,New H p (.lst ((zaR (kvs.map (·.1))).map V.str)) H2->Q (.ref p) H2
theorem zlb{a:Addr}{H:Hp}{Q:VK}:ziG [.ref a] H Q = ∃kvs:List (Str×V),Rd H a (.dK (sk kvs))/\kvs.length<64/\∀p H2,New H p (.lst ((zaR (kvs.map (·.1))).map V.str)) H2->Q (.ref p) H2:=za3
theorem zhi:∀{vs:List Value}{ss:List Str},vs.length=ss.length->(∀(j:Nat)(v:Value),vs[j]?=some v->∃t,v=Value.str (ss.getD j "") t)->StrsAre vs ss
 | [],[],_,_=>.nil
 | [],_::_,h,_=>absurd h (by simp)
 | _::_,[],h,_=>absurd h (by simp)
 | v::vs,x::ss,h,f=>by
  obtain ⟨t,e⟩:=f 0 v rfl
  have e':v=Value.str x t:=e
  rw [e']
  exact .cons x t (zhi (by simpa using h) λj u hu=>f (j+1) u hu)
theorem zi9:∀{vs:List Value}{ss:List Str},StrsAre vs ss->zk (ss.map V.str) vs
 | _,_,.nil=>.nil
 | _,_,.cons x t h=>.cons ⟨t,rfl⟩ (zi9 h)
theorem zdm(hc:X.calm=true):zR X (.builtin "sorted") ziG:=by
 intro Ga s σ H xs us Q I r h
 obtain ⟨a,rfl,kvs,hq,h64,q⟩:=h
 obtain ⟨u,rfl,ru⟩:=zbx r
 cases ru
 obtain ⟨z,hd,vs,rel,dd⟩:=za6 I.hok hq
 obtain ⟨ep,hat⟩:=dd.dictAt
 have hlen:vs.length=kvs.length:=by rw [<- rel.length];simp [sk]
 refine call_function_entry kind_sorted plain_sorted entry_sorted (args_sorted1 _) ?_
 unfold Builtin.«sorted»
 refine wpAny_bind (m:=checkCount "sorted" 1 1 _) (wpAny_pure ?_)
 refine wpAny_bind (kdu_collect (A:=X.A.in1) (kdl_dict (knd:=zae X.prog X.w) (kvs:=vs) (ep:=ep) hd) (I.ok.hd hc) hat (by rw [hlen,sizeLine_eq];omega) λh' tk acc hk hacc=>?_)
 have hl:acc.toList.length=kvs.length:=by rw [length_toList,<- hlen];exact hacc.1
 have hS:StrsAre acc.toList (kvs.map (·.1)):=zhi (by rw [hl,length_map]) λj v hv=>by
  obtain ⟨k,x,hx,hk⟩:=hacc.2 j v (by rw [<- getElem?_toList];exact hv)
  have hj:j<vs.length:=(List.getElem?_eq_some_iff.mp hx).1
  have hj':j<kvs.length:=by omega
  have e2:(sk kvs)[j]?=some (.inr kvs[j].1,kvs[j].2):=by simp [sk,hj']
  obtain ⟨u',hu',_⟩:=rel.at e2
  rw [hx] at hu'
  cases hu'
  rcases za9 (show zbJ (Sum.inr kvs[j].1) v=true from hk) with ⟨i,t,e1,e2⟩|⟨y,t,e1,e2⟩
  ·cases e1
  ·cases e1
   exact ⟨t,by rw [e2,getD_eq_getElem?_getD,getElem?_map,List.getElem?_eq_getElem hj'];rfl⟩
 have I1:Inv X Ga σ H { s with heap:=h',toks:=tk }:=I.kept hk
 refine wpAny_bind (wpAny_newList ?_ (by rw [hl,sizeLine_eq];omega))
 have hoL:(h'.push (seqObj "list" acc.toList.toArray 0)).get? h'.objs.size=some (seqObj "list" acc.toList.toArray 0):=get?_push_size _ rfl
 refine wpAny_bind (wpAny_holding (wpAny_call_entry slot_list_sort ⟨_,hoL,rfl⟩ entry_list_sort (list_sort_treeK strKind_oneLt hoL hS.keysOf (λv₁ v₂ z8 e=>keyKind_strs (by rw [<- e];exact hS)) (by rw [hl];exact h64) λst' a1 a2=>⟨_,rfl,?_⟩) (args_list_sort _)))
 obtain ⟨ss',b1,b2,b3⟩:=sorted_out_str hS a1 a2
 have e3:=zjj b2 b3
 subst e3
 obtain ⟨c,hcz⟩:=sortedHeap_at (vs:=acc.toList) (out:=(arrOf st').map (·.2)) hoL
 refine wpAny_pure ⟨_,rfl,.ref h'.objs.size,upd H h'.objs.size (.lst ((zaR (kvs.map (·.1))).map V.str)),I1.laid (a:=h'.objs.size) (t':=tk) (λb o e=>?_) (le_refl _) ⟨?_,((arrOf st').map (·.2)).toList,c,zi9 b1,by rw [Array.toArray_toList];exact hcz⟩,rfl,q _ _ (.mk' (I1.hok.fresh (le_refl _)))⟩
 ·have hb:b<h'.objs.size:=lt_size e
  rw [sortedHeap_old (ne_of_lt hb) (by rw [size_push'];exact lt_succ_of_lt hb)]
  exact get?_push_of_some _ e
 ·have:=b2.length_eq
  rw [length_map,this,length_map,sizeLine_eq]
  omega
def zfX(to:TE):TE:=λσ H Q=>to σ H λx H1=>uR x λa=>∃kvs,Rd H1 a (.dK kvs)/\∀v H2,New H1 v (.ext λh=>h.IsValuesView v a) H2->Q (.ref v) H2
theorem zsb{to:TE}{σ:St}{H:Hp}{Q:VK}:zfX to σ H Q=to σ H λx H1=>uR x λa=>∃kvs,Rd H1 a (.dK kvs)/\∀v H2,New H1 v (.ext λh=>h.IsValuesView v a) H2->Q (.ref v) H2:=rfl
theorem zk2{l:Expr}{tl:TE}{apos cpos:Pos}(ho:PE X l tl)(hbase:attributeBase l "values" X.env (eval l X.env)=eval l X.env:=by rfl)(hline:(apos.endLine==cpos.line)=true:=by rfl):PE X (.Call (.Attribute l "values" apos) [] [] cpos) (zfX tl):=by
 intro Ga s σ H Q I h
 refine wpAny_Call_method0_late hbase hline (thn (ho Ga s σ H _ I h) λv s1 ⟨x,H1,I1,r1,a,ex,kvs,hq,q⟩=>?_)
 subst ex
 cases r1
 obtain ⟨z,hm,vs,rel,dd⟩:=za6 I1.hok hq
 obtain ⟨t1,t2,_⟩:=zed I1 (.inl ⟨kvs,hq⟩)
 refine ⟨"dict","dict.values",plainAttrs_dict,slot_dict_values,PySem.F.type_dict_values,t1,t2,Calls.callWith_builtin rfl (PySem.evalArgs_none ?_)⟩
 refine call_meetsIn slot_dict_values dd.typeIs PySem.F.entry_dict_values (PySem.F.args_dict_values_1 _) (meets_dict_values (zae X.prog X.w) a hm) ⟨⟨vs,dd⟩,?_⟩
 have hv:(s1.heap.push { cls:=.type "dict_values",data:=.fields #[.ref a] }).IsValuesView s1.heap.objs.size a:=⟨_,get?_push_size _ rfl,rfl,rfl⟩
 exact ⟨.ref s1.heap.objs.size,_,I1.laid (t':=s1.toks) (o:=.ext λh=>h.IsValuesView s1.heap.objs.size a) (λb o e=>get?_push_of_some _ e) (le_refl _) ⟨hv,⟨_,get?_push_size _ rfl⟩,λh1 h2 ⟨o,e,r⟩ k=>⟨o,k o e,r⟩⟩,rfl,q _ _ (.mk' (I1.hok.fresh (le_refl _)))⟩
def zjh:List V->Hp->VK->Prop:=λxs H Q=>uR1 xs λv=>∃a kvs,H v=some (.ext λh=>h.IsValuesView v a)/\Rd H a (.dK kvs)/\∀p H2,New H p (.lst (kvs.map (·.2))) H2->Q (.ref p) H2
theorem zl0{v:Addr}{H:Hp}{Q:VK}:zjh [.ref v] H Q = ∃a kvs,H v=some (.ext λh=>h.IsValuesView v a)/\Rd H a (.dK kvs)/\∀p H2,New H p (.lst (kvs.map (·.2))) H2->Q (.ref p) H2:=za3
theorem ziL:∀{xs:List V}{us:List Value},xs.length=us.length->(∀(j:Nat)(u:Value),us[j]?=some u->∃x,xs[j]?=some x/\zi x u)->zk xs us
 | [],[],_,_=>.nil
 | [],_::_,h,_=>absurd h (by simp)
 | _::_,[],h,_=>absurd h (by simp)
 | x::xs,u::us,h,f=>by
  obtain ⟨y,e,r⟩:=f 0 u rfl
  cases e
  exact .cons r (ziL (by simpa using h) λj w hw=>f (j+1) w hw)
theorem zsk(hc:X.calm=true):zR X (.type "list") zjh:=by
 intro Ga s σ H xs us Q I r h
 obtain ⟨v,rfl,a,kvs,hv,hq,q⟩:=h
 obtain ⟨u,rfl,ru⟩:=zbx r
 cases ru
 obtain ⟨z,hd,vs,rel,dd⟩:=za6 I.hok hq
 obtain ⟨ep,hat⟩:=dd.dictAt
 obtain ⟨hvv,_,_⟩:=I.hok v _ hv
 have hlen:=rel.length
 refine kdl_call (kdl_values (knd:=zae X.prog X.w) (kvs:=vs) (ep:=ep)) (I.ok.hd hc) ⟨hvv,hat⟩ (by rw [<- hlen];exact z) λh' tk acc' c' hk hS' hacc=>?_
 have I1:Inv X Ga σ H { s with heap:=h',toks:=tk }:=I.kept hk
 refine ⟨.ref s.heap.objs.size,upd H s.heap.objs.size (.lst (kvs.map (·.2))),I.laid (a:=s.heap.objs.size) (t':=tk) hk (le_refl _) ⟨by rw [length_map];exact z,acc'.toList,c',ziL ?_ λj u hu=>?_,by rw [Array.toArray_toList];exact hS'⟩,rfl,q _ _ (.mk' (I.hok.fresh (le_refl _)))⟩
 ·have h3:=hacc.1
  have h4:acc'.toList.length=acc'.size:=length_toList ..
  rw [length_map]
  omega
 ·obtain ⟨k,hx⟩:=hacc.2 j u (by rw [<- getElem?_toList];exact hu)
  have hj:j<vs.length:=(List.getElem?_eq_some_iff.mp hx).1
  have hj':j<kvs.length:=by omega
  obtain ⟨u',hu',r'⟩:=rel.at (List.getElem?_eq_getElem hj')
  rw [hx] at hu'
  cases hu'
  exact ⟨_,by rw [getElem?_map,List.getElem?_eq_getElem hj'];rfl,r'⟩
end
end L2
namespace HT
open PySem PySem.Spec PyProof.Rows PySem.Calls
section
variable {prog:Program}{w:World}{A:Around}{E:Value->Shared->Prop}{s:Shared}
theorem getItem_tuple_whole{t sl:Addr}{items:Array Value}{vl vu:Value}{lo hi:Option Int}{Q:Value->Shared->Prop}(ht:IsTup s.heap t items)(hs:s.heap.IsSliceOf sl vl vu .none)(pl:IsPart vl lo)(pu:IsPart vu hi)
  (h0:sIx items.size 0 lo=0) (h1:sIx items.size items.size hi=items.size)
  (h:Q (.ref t) s):wpAny (model prog w) A (getItem (.ref t) (.ref sl)) Q E s:=by
 obtain ⟨os,hos,hcs,hds⟩:=id hs
 have hTs:s.TypeIs (.ref sl) "slice":=⟨os,hos,hcs⟩
 unfold getItem
 try with_reducible refine wpAny_holding ?_
 first|refine wpAny_bind (wpAny_pure ?_)|skip
 refine wpAny_bind (wpAny_sequenceKey ht.typeIs (by decide) ?_)
 refine wpAny_bind (wpAny_callSpecial?_slot (name:=Str.ofString "__getitem__") ht.typeIs PyProof.Rows.slot_tuple_getitem
  (wpAny_call_entry PyProof.Rows.slot_tuple_getitem ht.typeIs entry_tuple_getitem ?_ (args_tuple_getitem _ _)))
 show wpAny _ _ (Builtin.Tuple.tupleItemsOf (.ref t)>>=_) _ _ s
 refine wpAny_bind (tupleItemsOf_ ht ?_)
 refine wpAny_bind (wpAny_typeOf hTs ?_)
 rw [if_pos (by decide)]
 refine wpAny_bind (zix hs pl pu ?_)
 have hyes:(((sIx items.size 0 lo:Nat):Int)==0&&(1:Int)==1&&(sIx items.size items.size hi-sIx items.size 0 lo)==items.size)=true:=by
  rw [h0,h1];simp
 show wpAny _ _ (if (((sIx items.size 0 lo:Nat):Int)==0&&(1:Int)==1&&(sIx items.size items.size hi-sIx items.size 0 lo)==items.size)=true then _ else _) _ _ s
 rw [if_pos hyes]
 have hex:∀{R:Bool->Shared->Prop}{A':Around}{E':Value->Shared->Prop},R true s->wpAny (model prog w) A' (Builtin.Tuple.tupleIsExact (.ref t)) R E' s:=λ{R A' E'} hr=>by
  unfold Builtin.Tuple.tupleIsExact
  first
   | exact wpAny_bind (wpAny_typeOf ht.typeIs (wpAny_pure hr))
   | exact wpAny_map (wpAny_typeOf ht.typeIs hr)
 refine wpAny_bind (hex ?_)
 first
  | exact wpAny_bind (wpAny_rule (wpAny_bind (wpAny_pure (wpAny_pure ⟨_,rfl,wpAny_pure h⟩))))
  | exact wpAny_bind (wpAny_rule (wpAny_pure ⟨_,rfl,wpAny_pure h⟩))
  | exact wpAny_bind (wpAny_rule (wpAny_bind (wpAny_pure ⟨_,rfl,wpAny_pure h⟩)))
end
end HT
namespace L2
open PySem PySem.Spec PyProof.Rows PySem.W PySem.Calls
section
variable {X:Cx}
def zdo:V->Option Int->Option Int->Hp->VK->Prop:=λx lo hi H Q=>uSl x lo hi H Q\/∃a xs,x = .ref a/\H a=some (.tup xs)/\∀p H2,zg H H2->H2 p=some (.tup (zau xs lo hi))->Q (.ref p) H2
theorem zfg:SlR X zdo:=by
 intro Ga s σ H x v vl vu lo hi sl Q I rx hs pl pu h
 rcases h with h|⟨a,xs,rfl,hx,q⟩
 ·exact ze2 Ga s σ H x v vl vu lo hi sl Q I rx hs pl pu h
 ·by_cases hw:HT.sIx xs.length 0 lo=0/\HT.sIx xs.length xs.length hi=xs.length
  ·cases rx
   obtain ⟨its,r,ht,hz⟩:=I.tuple (SqT.of hx)
   have hlen:its.toArray.size=xs.length:=by rw [size_toArray];exact r.length.symm
   refine ⟨"tuple",_,PyProof.Rows.slot_tuple_getitem.lookup,ht.typeIs,?_⟩
   refine HT.getItem_tuple_whole ht hs pl pu (by rw [hlen];exact hw.1) (by rw [hlen];exact hw.2) ⟨.ref a,H,I,rfl,q a H (zg.refl _) ?_⟩
   rw [hx]
   unfold zau
   rw [hw.1,hw.2]
   simp
  ·exact zlD Ga s σ H _ v vl vu lo hi sl Q I rx hs pl pu ⟨a,xs,rfl,SqT.of hx,hw,λp hp=>q p _ (New.mk' (o:=.tup (zau xs lo hi)) hp).same zp⟩
theorem zog{z:Str}{lo hi:Option Int}{H:Hp}{Q:VK}:zdo (.str z) lo hi H Q=(z.length<=sizeLine/\Q (.str (Txt.slice z lo hi)) H):=by simp [zdo,zhy]
theorem zsA{a:Addr}{lo hi:Option Int}{H:Hp}{Q:VK}:zdo (.ref a) lo hi H Q=((∃xs,H a=some (.lst xs)/\∀p H2,New H p (.lst (zau xs lo hi)) H2->Q (.ref p) H2)\/∃xs,H a=some (.tup xs)/\∀p H2,zg H H2->H2 p=some (.tup (zau xs lo hi))->Q (.ref p) H2):=by
 unfold zdo
 rw [zhz]
 apply propext;constructor
 ·rintro (h|⟨a',xs,e,h⟩)
  ·exact .inl h
  ·cases e;exact .inr ⟨xs,h⟩
 ·rintro (h|⟨xs,h⟩)
  ·exact .inl h
  ·exact .inr ⟨a,xs,rfl,h⟩
def zdg:R2:=λx y H Q=>∃a b xs ys,x = .ref a/\y = .ref b/\H a=some (.tup xs)/\H b=some (.tup ys)/\xs.length+ys.length<=sizeLine/\∀p H2,zg H H2->H2 p=some (.tup (xs++ys))->Q (.ref p) H2
theorem zj4:OpR X (binaryOp .Add) zdg:=by
 intro Ga s σ H x y v u Q I rx ry h
 obtain ⟨a,b,xs,ys,rfl,rfl,ha,hb,hz,q⟩:=h
 by_cases hx:xs=[]
 ·cases rx
  cases ry
  obtain ⟨its,r1,p1,_⟩:=I.tuple (SqT.of ha)
  obtain ⟨its2,r2,p2,_⟩:=I.tuple (SqT.of hb)
  obtain ⟨⟨cls,dd,data,sl⟩,ho,hc,n,hd⟩:=id p1
  obtain ⟨⟨cls2,dd2,data2,sl2⟩,ho2,hc2,n2,hd2⟩:=id p2
  simp only at hc hd hc2 hd2
  subst hc hd hc2 hd2
  have hi:its=[]:=r1.nil_iff.mpr hx
  exact concat_meets ⟨_,ho,rfl⟩ ⟨_,ho2,rfl⟩ noFill_tuple_add seq_tuple_add slot_tuple_add entry_tuple_add (args_tuple_add_2 _ _)
   (tuple_addW0 a b its.toArray its2.toArray n n2 dd dd2 sl sl2 (by simp [hi])) ⟨ho,ho2,⟨.ref b,H,I,rfl,q b H (zg.refl _) (by rw [hb,hx];rfl)⟩⟩
 ·exact zss Ga s σ H _ _ v u Q I rx ry ⟨a,b,xs,ys,rfl,rfl,SqT.of ha,SqT.of hb,hx,hz,λe=>q a H (zg.refl _) (by rw [ha,e,append_nil]),λ_ p hp=>q p _ (New.mk' (o:=.tup (xs++ys)) hp).same zp⟩
def zcf:R2:=λx y H Q=>zbd x y H Q\/zdg x y H Q
theorem zfl:OpR X (binaryOp .Add) zcf:=zan.or zj4
theorem zoY{i j:Int}{H:Hp}{Q:VK}:zcf (.int i) (.int j) H Q=Q (.int (i+j)) H:=by simp [zcf,zdg,zbd]
theorem znG{i j:Str}{H:Hp}{Q:VK}:zcf (.str i) (.str j) H Q=(i.length+j.length<=sizeLine/\Q (.str (i++j)) H):=by simp [zcf,zdg,zbd]
theorem zoX{a b:Addr}{H:Hp}{Q:VK}:zcf (.ref a) (.ref b) H Q=((∃xs zs,H a=some (.lst xs)/\H b=some (.lst zs)/\xs.length+zs.length<=sizeLine/\∀p H2,New H p (.lst (xs++zs)) H2->Q (.ref p) H2) \/
  ∃xs ys,H a=some (.tup xs)/\H b=some (.tup ys)/\xs.length+ys.length<=sizeLine/\∀p H2,zg H H2->H2 p=some (.tup (xs++ys))->Q (.ref p) H2):=by
 unfold zcf
 rw [zhV]
 apply propext;constructor
 ·rintro (h|⟨a',b',xs,ys,e1,e2,h⟩)
  ·exact .inl h
  ·cases e1;cases e2;exact .inr ⟨xs,ys,h⟩
 ·rintro (h|⟨xs,ys,h⟩)
  ·exact .inl h
  ·exact .inr ⟨a,b,xs,ys,rfl,rfl,h⟩
def zhe:List V->Hp->VK->Prop:=λxs H Q=>∃i j,xs=[.int i,.int j]/\(0<j/\j<2 ^ 64)/\∀p H2,New H p (.tup [.int (i / j),.int (i % j)]) H2->Q (.ref p) H2
theorem znq{i j:Int}{H:Hp}{Q:VK}:zhe [.int i,.int j] H Q=((0<j/\j<2 ^ 64)/\∀p H2,New H p (.tup [.int (i / j),.int (i % j)]) H2->Q (.ref p) H2):=by
 apply propext;constructor
 ·rintro ⟨i',j',e,h⟩;cases e;exact h
 ·exact λh=>⟨i,j,rfl,h⟩
theorem zl3:zR X (.builtin "divmod") zhe:=by
 intro Ga s σ H xs us Q I r h
 obtain ⟨i,j,rfl,⟨h1,h2⟩,q⟩:=h
 obtain ⟨u,w',rfl,⟨t,rfl⟩,⟨t',rfl⟩⟩:=zgs r
 have hlog:j.natAbs.log2<9000:=by
  have:j.natAbs.log2<64:=(Nat.log2_lt (by omega)).mpr (by omega)
  omega
 refine divmod_int (by omega) ?_ (.inl (PyProof.noPylong_of_log2 hlog))
 rw [Int.fdiv_eq_ediv_of_nonneg i (by omega),Int.fmod_eq_emod_of_nonneg i (by omega)]
 have hn:H s.heap.objs.size=none:=I.hok.fresh (le_refl _)
 refine ⟨.ref s.heap.objs.size,_,?_,rfl,q _ _ (.mk' hn)⟩
 refine I.laid (λb o e=>get?_push_of_some _ e) (le_refl _) ⟨by simp only [length_cons,length_nil];rw [sizeLine_eq];decide,[.int (i / j) s.toks,.int (i % j) (s.toks+1)],.cons ⟨_,rfl⟩ (.cons ⟨_,rfl⟩ .nil),?_⟩
 exact ⟨_,get?_push_size s.heap rfl,rfl,0,rfl⟩
def zd1:R2:=λx y H Q=>rI0 (λi j=>.bl (decide (i<=j))) x y H Q\/∃i j,x = .str i/\y = .str j/\Q (.bl (!decide (j.cps.toList<i.cps.toList))) H
theorem zmG{i j:Int}{H:Hp}{Q:VK}:zd1 (.int i) (.int j) H Q=Q (.bl (decide (i<=j))) H:=by simp [zd1,rI0]
theorem zow{i j:Str}{H:Hp}{Q:VK}:zd1 (.str i) (.str j) H Q=Q (.bl (!decide (j.cps.toList<i.cps.toList))) H:=by simp [zd1,rI0]
def zn7:TS:=λ_ _ _=>False
def zpY(to te:TE):TE:=λσ H Q=>to σ H λx H1=>uR x λl=>(∃xs,H1 l=some (.lst xs))/\te σ H1 λy H2=>uR y λb=>∃xs zs,H2 l=some (.lst xs)/\H2 b=some (.lst zs)/\xs.length+zs.length<=sizeLine/\Q .non (upd H2 l (.lst (xs++zs)))
theorem zks{to te:TE}{σ:St}{H:Hp}{Q:VK}:zpY to te σ H Q=to σ H λx H1=>uR x λl=>(∃xs,H1 l=some (.lst xs))/\te σ H1 λy H2=>uR y λb=>∃xs zs,H2 l=some (.lst xs)/\H2 b=some (.lst zs)/\xs.length+zs.length<=sizeLine/\Q .non (upd H2 l (.lst (xs++zs))):=rfl
end
section
variable {K:PySem.W.Frag}{g:TG}{tb:TS}{D:zad}{σ:St}{H:Hp}{tl:TE}{R:It->Hp->Prop}{tt:TT}{te:TE}{Q:VK}{a:Addr}{o:Obj}{kvs:List (Key×V)}
theorem zlJ:zeu tl σ H R=tl σ H λx H1=>uR x λa=>∃o kvs,H1 a=some (.frz o (.dK kvs))/\R (Itd a o kvs) H1:=by
 unfold zeu uR
 congr;funext x H1
 apply propext;constructor
 ·rintro ⟨a,o,kvs,e,h⟩;exact ⟨a,e,o,kvs,h⟩
 ·rintro ⟨a,e,o,kvs,h⟩;exact ⟨a,o,kvs,e,h⟩
theorem zjY:zeh tl σ H R=tl σ H λx H1=>uR x λa=>∃o kvs,H1 a=some (.frz o (.dK kvs))/\R (Itw a o kvs) H1:=by
 unfold zeh uR
 congr;funext x H1
 apply propext;constructor
 ·rintro ⟨a,o,kvs,e,h⟩;exact ⟨a,e,o,kvs,h⟩
 ·rintro ⟨a,e,o,kvs,h⟩;exact ⟨a,o,kvs,e,h⟩
theorem zaw.dct(Pv:Nat->St->Hp->Prop)(h0:Pv 0 σ H)(hl:∀i σ H,i<=kvs.length->Pv i σ H->H a=some (.frz o (.dK kvs)))
  (hs:∀i p σ H,kvs[i]?=some p->Pv i σ H->g (kV p.1) σ H λσ2 H2=>tb { D with nx:=Pv (i+1),ct:=Pv (i+1),bk:=D.nx } σ2 H2) (hd:∀σ H,Pv kvs.length σ H->D.nx σ H):zaw (Itd a o kvs) g tb D σ H:=by
 refine ⟨λi m σ H=>m=kvs.length-i/\i<=kvs.length/\Pv i σ H,⟨kvs.length,by simp,zero_le _,h0⟩,?_⟩
 rintro i m σ H ⟨rfl,hi,p⟩
 have q:=hl i σ H hi p
 by_cases hlt:i<kvs.length
 ·refine .inr ⟨⟨q,hlt⟩,Pv (i+1),λσ' H' p'=>⟨kvs.length-(i+1),by omega,rfl,hlt,p'⟩,λx H' y=>?_⟩
  obtain ⟨e,z,hz,ex⟩:=y
  subst e ex
  exact hs i z σ _ hz p
 ·have e:i=kvs.length:=by omega
  subst e
  exact .inl ⟨⟨q,le_refl _⟩,hd σ H p⟩
theorem zaw.vls(Pv:Nat->St->Hp->Prop)(h0:Pv 0 σ H)(hl:∀i σ H,i<=kvs.length->Pv i σ H->H a=some (.frz o (.dK kvs)))
  (hs:∀i p σ H,kvs[i]?=some p->Pv i σ H->g p.2 σ H λσ2 H2=>tb { D with nx:=Pv (i+1),ct:=Pv (i+1),bk:=D.nx } σ2 H2) (hd:∀σ H,Pv kvs.length σ H->D.nx σ H):zaw (Itw a o kvs) g tb D σ H:=by
 refine ⟨λi m σ H=>m=kvs.length-i/\i<=kvs.length/\Pv i σ H,⟨kvs.length,by simp,zero_le _,h0⟩,?_⟩
 rintro i m σ H ⟨rfl,hi,p⟩
 have q:=hl i σ H hi p
 by_cases hlt:i<kvs.length
 ·refine .inr ⟨⟨q,hlt⟩,Pv (i+1),λσ' H' p'=>⟨kvs.length-(i+1),by omega,rfl,hlt,p'⟩,λx H' y=>?_⟩
  obtain ⟨e,z,hz,ex⟩:=y
  subst e ex
  exact hs i z σ _ hz p
 ·have e:i=kvs.length:=by omega
  subst e
  exact .inl ⟨⟨q,le_refl _⟩,hd σ H p⟩
theorem zat.dct{τ:St}(Pv:Nat->St->List V->Hp->Prop)(hz:∀i τ ys H,Pv i τ ys H->ys.length<sizeLine)(ha:∀i τ ys H,Pv i τ ys H->H a=some (.frz o (.dK kvs)))(h0:Pv 0 τ [] H)
  (hs:∀(N:St->List V->Hp->Prop) i p τ ys H,kvs[i]?=some p->Pv i τ ys H->(∀τ ys H,Pv (i+1) τ ys H->N τ ys H)->g (kV p.1) τ H λτ1 H4=>tt τ1 H4 λok H5=>zbt N ys τ1 te ok H5) (hd:∀τ ys H,Pv kvs.length τ ys H->∀D H',New H D (.lst ys) H'->Q (.ref D) H'):zat (Itd a o kvs) g tt te τ H Q:=by
 refine ⟨λi m τ ys H=>m=kvs.length-i/\i<=kvs.length/\Pv i τ ys H,⟨kvs.length,by simp,zero_le _,h0⟩,?_⟩
 rintro i m τ ys H2 ⟨rfl,hi,p⟩
 refine ⟨hz i τ ys H2 p,?_⟩
 have q:=ha i τ ys H2 p
 by_cases hlt:i<kvs.length
 ·refine .inr ⟨⟨q,hlt⟩,λx H' y=>?_⟩
  obtain ⟨e,z,hz,ex⟩:=y
  subst e ex
  exact hs (λτ1 ys H=>∃m',m'<kvs.length-i/\m'=kvs.length-(i+1)/\i+1<=kvs.length/\Pv (i+1) τ1 ys H) i z τ ys _ hz p λτ1 zs H q=>⟨kvs.length-(i+1),by omega,rfl,hlt,q⟩
 ·have e:i=kvs.length:=by omega
  subst e
  exact .inl ⟨⟨q,le_refl _⟩,λD hD _=>hd τ ys H2 p D _ (.mk' hD)⟩
theorem zkz{t:TS}:tFz t D σ H = ∃a kvs,H a=some (.dK kvs)/\∀o,t (D.thaw a kvs) σ (upd H a (.frz o (.dK kvs))):=rfl
theorem zmv{t:TE}:zgT t σ H Q = ∃a kvs,H a=some (.dK kvs)/\∀o,t σ (upd H a (.frz o (.dK kvs))) λv H'=>zby a kvs H' (Q v):=rfl
end
end L2
namespace L2
open PySem PySem.Spec PyProof.Rows
section
variable {X:Cx}
theorem zhL{tg:Expr}{l:Expr}{tl:TE}(hl:W (PE X l tl)):W (PI X tg l (zeu tl)):=⟨znR (hl:=hl.h)⟩
theorem zgM{tg:Expr}{l:Expr}{tl:TE}{apos cpos:Pos}(ho:W (PE X l tl))(hbase:attributeBase l "values" X.env (eval l X.env)=eval l X.env:=by rfl)(hline:(apos.endLine==cpos.line)=true:=by rfl):W (PI X tg (.Call (.Attribute l "values" apos) [] [] cpos) (zeh tl)):=⟨znY (ho:=ho.h) (hbase:=hbase) (hline:=hline)⟩
theorem zjo{X:Cx}{st:Stmt}{t:TS}(h:W (PS X st t)):W (PS X st (tFz t)):=⟨znw (h:=h.h)⟩
theorem zhS{X:Cx}{e:Expr}{t:TE}(h:W (PE X e t)):W (PE X e (zgT t)):=⟨zkA (h:=h.h)⟩
theorem ziv{o i:Expr}{td ty:TE}{tpos pos:Pos}(ho:W (PE X o td))(hi:W (PE X i ty)):W (PS X (.Delete [.Subscript o i tpos] pos) (zfJ td ty)):=⟨zli (ho:=ho.h) (hi:=hi.h)⟩
theorem zd9{o e f:Expr}{td ty tx:TE}{apos cpos:Pos}(hu:X.A.units+1<cLine)(ho:W (PE X o td))(he:W (PE X e ty))(hf:W (PE X f tx))(m:M2 X o "get" apos e f cpos:=by exact ⟨rfl,rfl,rfl,rfl⟩):W (PE X (.Call (.Attribute o "get" apos) [e,f] [] cpos) (zfF td ty tx)):=⟨zs6 (hu:=hu) (ho:=ho.h) (he:=he.h) (hf:=hf.h) (m:=m)⟩
theorem zhG{o e:Expr}{td ty:TE}{apos cpos:Pos}(ho:W (PE X o td))(he:W (PE X e ty))(m:M1 X o "pop" apos e cpos:=by exact ⟨rfl,rfl,rfl,rfl⟩):W (PE X (.Call (.Attribute o "pop" apos) [e] [] cpos) (zgG td ty)):=⟨zqN (ho:=ho.h) (he:=he.h) (m:=m)⟩
theorem zoC{l:Expr}{tl:TE}{apos cpos:Pos}(ho:W (PE X l tl))(hbase:attributeBase l "values" X.env (eval l X.env)=eval l X.env:=by rfl)(hline:(apos.endLine==cpos.line)=true:=by rfl):W (PE X (.Call (.Attribute l "values" apos) [] [] cpos) (zfX tl)):=⟨zk2 (ho:=ho.h) (hbase:=hbase) (hline:=hline)⟩
end
section
variable {α β:Type}
def look(t:List (Str×α))(n:Str):Option α:=(t.find? λp=>decide (p.1=n)).map (·.2)
def zA(t:List (Str×α))(n:Str)(a:α):List (Str×α):=if (look t n).isSome then t.map λp=>if p.1=n then (p.1,a) else p else t++[(n,a)]
def zE(t:List (Str×α))(n:Str):List (Str×α):=t.filter λp=>!decide (p.1=n)
def names(t:List (Str×α)):List Str:=t.map (·.1)
theorem zhc{n:Str}:look ([]:List (Str×α)) n=none:=rfl
theorem zaG{p:Str×α}{t:List (Str×α)}{n:Str}:look (p::t) n=if p.1=n then some p.2 else look t n:=by
 unfold look
 by_cases h:p.1=n
 ·rw [List.find?_cons_of_pos (by simpa using h),if_pos h];rfl
 ·rw [List.find?_cons_of_neg (by simpa using h),if_neg h]
theorem zbw{t:List (Str×α)}{n:Str}{a:α}(h:look t n=some a):(n,a)∈t:=by
 induction t with
 | nil=>cases h
 | cons p t ih =>
  rw [zaG] at h
  by_cases e:p.1=n
  ·rw [if_pos e] at h
   cases h
   subst e
   exact mem_cons_self ..
  ·rw [if_neg e] at h
   exact mem_cons_of_mem _ (ih h)
theorem zaN{t:List (Str×α)}{n:Str}:look t n=none↔n∉names t:=by
 induction t with
 | nil=>simp [look,names]
 | cons p t ih =>
  rw [zaG]
  by_cases e:p.1=n
  ·rw [if_pos e];simp [names,e]
  ·rw [if_neg e,ih]
   simp [names]
   exact λ_=>λh=>e h.symm
theorem zbG{t:List (Str×α)}(nd:(names t).Nodup){n:Str}{a:α}(h:(n,a)∈t):look t n=some a:=by
 induction t with
 | nil=>cases h
 | cons p t ih =>
  rw [zaG]
  have nd':p.1∉names t/\(names t).Nodup:=nodup_cons.mp nd
  rcases mem_cons.mp h with e|h
  ·rw [<- e,if_pos rfl]
  ·have:p.1≠n:=λe=>nd'.1 (by rw [e];exact List.mem_map_of_mem (f:=(·.1)) h)
   rw [if_neg this]
   exact ih nd'.2 h
theorem zjt{t:List (Str×α)}{n:Str}{a:α}:names (zA t n a)=if (look t n).isSome then names t else names t++[n]:=by
 unfold zA names
 by_cases h:(look t n).isSome
 ·rw [if_pos h,if_pos h,map_map]
  refine List.map_congr_left λp _=>?_
  show (if p.1=n then (p.1,a) else p).1=p.1
  split<;>rfl
 ·rw [if_neg h,if_neg h,map_append];rfl
theorem zcA{t:List (Str×α)}{n:Str}{a:α}(nd:(names t).Nodup):(names (zA t n a)).Nodup:=by
 rw [zjt]
 by_cases h:(look t n).isSome
 ·rw [if_pos h];exact nd
 ·rw [if_neg h]
  have:look t n=none:=by simpa using h
  rw [zaN] at this
  rw [List.nodup_append]
  refine ⟨nd,by simp,λx hx y hy e=>?_⟩
  have:y=n:=by simpa using hy
  subst this
  subst e
  contradiction
theorem zeq{t:List (Str×α)}{n:Str}(nd:(names t).Nodup):(names (zE t n)).Nodup:=by
 unfold names zE
 exact nd.sublist (List.Sublist.map _ List.filter_sublist)
theorem zpH{t:List (Str×α)}{n m:Str}{a:α}:look (t.map λp=>if p.1=n then (p.1,a) else p) m=if m=n then (if (look t n).isSome then some a else none) else look t m:=by
 induction t with
 | nil=>by_cases h:m=n<;>simp [look,h]
 | cons p t ih =>
  rw [map_cons,zaG,ih,zaG,zaG]
  by_cases e:p.1=n
  ·rw [if_pos e,if_pos e]
   show (if p.1=m then some a else _)=_
   by_cases h:m=n
   ·rw [if_pos (by rw [e,h]),if_pos h];rfl
   ·rw [if_neg (λz=>h (by rw [<- z,e])),if_neg h,if_neg h,if_neg (λz=>h (by rw [<- z,e]))]
  ·rw [if_neg e,if_neg e]
   by_cases h:m=n
   ·rw [if_pos h,if_pos h,if_neg (λz=>e (by rw [z,h]))]
   ·rw [if_neg h,if_neg h]
theorem znv{t u:List (Str×α)}{m:Str}:look (t++u) m=(look t m).or (look u m):=by
 induction t with
 | nil=>simp [zhc]
 | cons p t ih =>
  rw [List.cons_append,zaG,zaG,ih]
  by_cases h:p.1=m
  ·rw [if_pos h,if_pos h];rfl
  ·rw [if_neg h,if_neg h]
theorem zbi{t:List (Str×α)}{n m:Str}{a:α}:look (zA t n a) m=if m=n then some a else look t m:=by
 unfold zA
 by_cases h:(look t n).isSome
 ·rw [if_pos h,zpH,if_pos h]
 ·rw [if_neg h,znv,zaG]
  have hn:look t n=none:=by simpa using h
  by_cases e:m=n
  ·rw [if_pos e,e,hn,if_pos rfl];rfl
  ·rw [if_neg e,if_neg (λz=>e z.symm),zhc,Option.or_none]
theorem zc0{t:List (Str×α)}{n m:Str}:look (zE t n) m=if m=n then none else look t m:=by
 induction t with
 | nil=>by_cases h:m=n<;>simp [look,zE,h]
 | cons p t ih =>
  by_cases e:p.1=n
  ·have:zE (p::t) n=zE t n:=by unfold zE;rw [List.filter_cons_of_neg (by simpa using e)]
   rw [this,ih,zaG]
   by_cases h:m=n
   ·rw [if_pos h,if_pos h]
   ·rw [if_neg h,if_neg h,if_neg (λz=>h (by rw [<- z,e]))]
  ·have:zE (p::t) n=p::zE t n:=by unfold zE;rw [List.filter_cons_of_pos (by simpa using e)]
   rw [this,zaG,zaG,ih]
   by_cases h:m=n
   ·rw [if_pos h,if_pos h,if_neg (λz=>e (by rw [z,h]))]
   ·rw [if_neg h,if_neg h]
def zaf(t u:List (Str×α)):Prop:=∀n,look t n=look u n
theorem zaf.put{t u:List (Str×α)}(h:zaf t u)(n:Str)(a:α):zaf (zA t n a) (zA u n a):=λm=>by rw [zbi,zbi,h m]
theorem zaf.names{t u:List (Str×α)}(h:zaf t u)(ht:(names t).Nodup)(hu:(L2.names u).Nodup):(L2.names t).Perm (L2.names u):=by
 refine (List.perm_ext_iff_of_nodup ht hu).mpr λn=>?_
 have h1:=h n
 constructor
 ·intro hn
  refine Classical.byContradiction λz=>?_
  rw [zaN.mpr z] at h1
  exact zaN.mp h1 hn
 ·intro hn
  refine Classical.byContradiction λz=>?_
  rw [zaN.mpr z] at h1
  exact zaN.mp h1.symm hn
def Dct(R:V->α->Prop):List (Str×V)->List (Str×α)->Prop:=Paired λp q=>p.1=q.1/\R p.2 q.2
theorem Dct.names{R:V->α->Prop}{kvs:List (Str×V)}{t:List (Str×α)}(h:Dct R kvs t):kvs.map (·.1)=L2.names t:=by
 induction h with
 | nil=>rfl
 | @cons p q l m r _ ih=>show p.1::l.map (·.1)=q.1::m.map (·.1);rw [r.1,ih];rfl
theorem Dct.length{R:V->α->Prop}{kvs:List (Str×V)}{t:List (Str×α)}(h:Dct R kvs t):kvs.length=t.length:=Paired.length h
theorem Dct.imp{R S:V->α->Prop}{kvs:List (Str×V)}{t:List (Str×α)}(h:Dct R kvs t)(f:∀v a,R v a->S v a):Dct S kvs t:=Paired.mapP h λp q z=>⟨z.1,f _ _ z.2⟩
theorem Dct.look{R:V->α->Prop}{kvs:List (Str×V)}{t:List (Str×α)}(h:Dct R kvs t)(n:Str):(∃v a,L2.look kvs n=some v/\L2.look t n=some a/\R v a)\/(L2.look kvs n=none/\L2.look t n=none):=by
 induction h with
 | nil=>exact .inr ⟨rfl,rfl⟩
 | cons r _ ih =>
  rw [zaG,zaG,<- r.1]
  split
  ·exact .inl ⟨_,_,rfl,rfl,r.2⟩
  ·exact ih
theorem Dct.put{R:V->α->Prop}{kvs:List (Str×V)}{t:List (Str×α)}(h:Dct R kvs t)(n:Str){v:V}{a:α}(r:R v a):Dct R (zA kvs n v) (zA t n a):=by
 have hs:(L2.look kvs n).isSome=(L2.look t n).isSome:=by
  rcases h.look n with ⟨v,a,e1,e2,_⟩|⟨e1,e2⟩<;>rw [e1,e2]<;>rfl
 have hm:Dct R (kvs.map λp=>if p.1=n then (p.1,v) else p) (t.map λp=>if p.1=n then (p.1,a) else p):=by
  clear hs
  induction h with
  | nil=>exact .nil
  | @cons p q _ _ r' _ ih =>
   refine .cons ?_ ih
   show (if p.1=n then (p.1,v) else p).1=(if q.1=n then (q.1,a) else q).1/\R (if p.1=n then (p.1,v) else p).2 (if q.1=n then (q.1,a) else q).2
   by_cases e:p.1=n
   ·rw [if_pos e,if_pos (by rw [<- r'.1];exact e)];exact ⟨r'.1,r⟩
   ·rw [if_neg e,if_neg (by rw [<- r'.1];exact e)];exact r'
 have ha:Dct R (kvs++[(n,v)]) (t++[(n,a)]):=by
  clear hs hm
  induction h with
  | nil=>exact .cons ⟨rfl,r⟩ .nil
  | cons r' _ ih=>exact .cons r' ih
 unfold zA
 rw [hs]
 split
 ·exact hm
 ·exact ha
theorem Dct.drop{R:V->α->Prop}{kvs:List (Str×V)}{t:List (Str×α)}(h:Dct R kvs t)(n:Str):Dct R (zE kvs n) (zE t n):=by
 induction h with
 | nil=>exact .nil
 | @cons p q _ _ r _ ih =>
  unfold zE at ih ⊢
  by_cases e:p.1=n
  ·rw [List.filter_cons_of_neg (by simpa using e),List.filter_cons_of_neg (by rw [<- r.1];simpa using e)];exact ih
  ·rw [List.filter_cons_of_pos (by simpa using e),List.filter_cons_of_pos (by rw [<- r.1];simpa using e)];exact .cons r ih
theorem Dct.at{R:V->α->Prop}{kvs:List (Str×V)}{t:List (Str×α)}(h:Dct R kvs t):∀{i:Nat}{p:Str×V},kvs[i]?=some p->∃a,t[i]?=some (p.1,a)/\R p.2 a:=by
 induction h with
 | nil=>intro i p e;simp at e
 | @cons x y _ _ r _ ih =>
  intro i p e
  cases i with
  | zero =>
   have e':x=p:=by simpa using e
   subst e'
   exact ⟨y.2,by rw [r.1];rfl,r.2⟩
  | succ i=>exact ih (by simpa using e)
end
theorem zah{kvs:List (Str×V)}{n:Str}:zJ (sk kvs) (.inr n)=look kvs n:=by
 induction kvs with
 | nil=>rfl
 | cons p t ih =>
  rw [zaG]
  by_cases e:p.1=n
  ·rw [if_pos e]
   exact zd0 (show (Sum.inr p.1:Key)=Sum.inr n by rw [e])
  ·rw [if_neg e,<- ih]
   exact zeX (λz=>e (by injection z))
theorem zcI{kvs:List (Str×V)}{n:Str}{v:V}:zal (sk kvs) (.inr n) v=sk (zA kvs n v):=by
 unfold zal zA
 have hs:((sk kvs).any λkv=>decide (kv.1 = .inr n))=(look kvs n).isSome:=by rw [zfb,zah]
 rw [hs]
 split
 ·unfold sk
  rw [map_map,map_map]
  refine List.map_congr_left λp _=>?_
  by_cases e:p.1=n
  ·simp [e]
  ·simp [e]
 ·simp [sk]
theorem zeM{kvs:List (Str×V)}{n:Str}:zay (sk kvs) (.inr n)=sk (zE kvs n):=by
 induction kvs with
 | nil=>rfl
 | cons p t ih =>
  by_cases e:p.1=n
  ·have:zE (p::t) n=zE t n:=by unfold zE;rw [List.filter_cons_of_neg (by simpa using e)]
   rw [this,<- ih]
   exact znX (show (Sum.inr p.1:Key)=Sum.inr n by rw [e])
  ·have:zE (p::t) n=p::zE t n:=by unfold zE;rw [List.filter_cons_of_pos (by simpa using e)]
   rw [this]
   show zay ((Sum.inr p.1,p.2)::sk t) (Sum.inr n)=(Sum.inr p.1,p.2)::sk (zE t n)
   rw [<- ih]
   exact zkh (λz=>e (by injection z))
theorem zsi{a:Addr}{z:Str}{H:Hp}{Q:VK}:zej (.ref a) (.str z) H Q = ∃kvs,Rd H a (.dK kvs)/\∃v,zJ kvs (.inr z)=some v/\Q v H:=by
 apply propext;constructor
 ·rintro ⟨a',k,kvs,v,e1,e2,h1,h2,q⟩
  cases e1
  cases k with
  | inl i=>cases e2
  | inr x=>cases e2;exact ⟨kvs,h1,v,h2,q⟩
 ·rintro ⟨kvs,h1,v,h2,q⟩
  exact ⟨a,.inr z,kvs,v,rfl,rfl,h1,h2,q⟩
theorem zpC{a b:Addr}{H:Hp}{Q:VK}:zdg (.ref a) (.ref b) H Q = ∃xs ys,H a=some (.tup xs)/\H b=some (.tup ys)/\xs.length+ys.length<=sizeLine/\∀p H2,zg H H2->H2 p=some (.tup (xs++ys))->Q (.ref p) H2:=by
 apply propext;constructor
 ·rintro ⟨a',b',xs,ys,e1,e2,h⟩;cases e1;cases e2;exact ⟨xs,ys,h⟩
 ·rintro ⟨xs,ys,h⟩;exact ⟨a,b,xs,ys,rfl,rfl,h⟩
def zpt:List V->Hp->VK->Prop:=λxs H Q=>uR1 xs λa=>∃kvs,Rd H a (.dK kvs)/\Q (.int kvs.length) H
theorem zrK{a:Addr}{H:Hp}{Q:VK}:zpt [.ref a] H Q = ∃kvs,Rd H a (.dK kvs)/\Q (.int kvs.length) H:=za3
theorem zmj{X:Cx}{cm:Bool}{k j:Nat}{x:Str}{C:Addr}{ps:List Str}{sp:Sp}{p pos:Pos}(G:GC X.prog X.w X.K X.mg X.base cm j x C ps sp)(hr:zD cm k X.A)(hg:Gl X x)(hj:j+1<=k:=by decide)(hdb:(x==("__debug__":Str))=false:=by decide) :
  PE X (.Call (.Name x p) [] [] pos) (ze7 C sp zbn):=by
 obtain ⟨f,fd,F,hm,M,hb⟩:=G.ex
 intro Ga s σ H Q I h
 exact zpa M F (hr.mono hj) hg hm hb .nil zdY hdb Ga s σ H Q I (λy dx hx hd ne=>h y dx _ (.mk' hx hd ne))
theorem ziz{X:Cx}{cm:Bool}{k j:Nat}{x:Str}{C:Addr}{ps:List Str}{sp:Sp}{p pos:Pos}(G:GC X.prog X.w X.K X.mg X.base cm j x C ps sp)(hr:zD cm k X.A)(hg:Gl X x)(hj:j+1<=k:=by decide)(hdb:(x==("__debug__":Str))=false:=by decide) :
  W (PE X (.Call (.Name x p) [] [] pos) (ze7 C sp zbn)):=⟨zmj G hr hg hj hdb⟩
def ze0:R2:=λx y H Q=>∃p xs,y = .ref p/\(H p=some (.lst xs)\/H p=some (.tup xs))/\zC x=true/\xs.all zC=true/\Q (.bl (!inV x xs)) H
theorem ztx{X:Cx}(hu:X.A.units<cLine):OpR X (compareOp .NotIn) ze0:=ztt.weak λx y H Q h=>by
 obtain ⟨p,xs,e,h,f1,f2,q⟩:=h
 exact ⟨p,xs,e,h.elim (λh=>.inl (SqL.of h)) (λh=>.inr (SqT.of h)),f1,f2,by simpa using q⟩
theorem zmt{x:V}{p:Addr}{H:Hp}{Q:VK}:ze0 x (.ref p) H Q = ∃xs,(H p=some (.lst xs)\/H p=some (.tup xs))/\zC x=true/\xs.all zC=true/\Q (.bl (!inV x xs)) H:=by simp [ze0]
theorem zbF{kvs:List (Str×V)}:(sk kvs).length=kvs.length:=by simp [sk]
theorem zil{kvs:List (Str×V)}{i:Nat}{p:Key×V}(h:(sk kvs)[i]?=some p):∃q,kvs[i]?=some q/\p=(.inr q.1,q.2):=by
 unfold sk at h
 rw [getElem?_map] at h
 obtain ⟨q,h1,h2⟩:=map_eq_some_iff.mp h
 exact ⟨q,h1,h2.symm⟩
section
variable {M:Model}{A:Around}{E:Value->Shared->Prop}{s:Shared}
end
def zea(pos:Pos)(qual:Str)(H:Hp)(P:Addr):Prop :=
 H P=some (.tbl #[])\/∃c' oc vs t,H P=some (.tbl #[rawInt pos.line,rawInt pos.col,.ref c'])/\H c'=some (.frz oc (.own 0))/\oc.data = .fields vs/\vs[1]?=some (.str qual t)
def zhY(H H':Hp)(P:Addr):Prop:=∀a o,a≠P->H a=some o->H' a=some o
def zhK(H:Hp)(a:Addr)(k:Int):Prop:=∃r z8 y ys,H a=some (.tup (.ref r::z8))/\H r=some (.tup (y::.int k::ys))
def zfD(P:Addr)(pos:Pos)(qual:Str)(v:V)(H1:Hp)(Q:VK):Prop:=uR v λl=>∃(as:List Addr)(ks:List Int),H1 l=some (.lst (as.map V.ref))/\zea pos qual H1 P/\as.length<64/\Paired (zhK H1) as ks /\
 ∀(D:Addr)(zs:List (Int×Addr))(H2:Hp),zhY H1 H2 P->zea pos qual H2 P->H1 D=none->D≠P->D≠sysModules->H2 D=some (.lst (zs.map λz=>V.ref z.2))->zs.Perm (ks.zip as)->zs.Pairwise (λp q=>p.1<=q.1)->Q (.ref D) H2
def zoA(P:Addr)(pos:Pos)(qual:Str)(ta:TE):TE:=λσ H Q=>ta σ H λv H1=>zfD P pos qual v H1 Q
theorem zmg{P:Addr}{pos:Pos}{qual:Str}{ta:TE}{σ:St}{H:Hp}{Q:VK}:zoA P pos qual ta σ H Q=ta σ H λv H1=>zfD P pos qual v H1 Q:=rfl
theorem zsS{P:Addr}{pos:Pos}{qual:Str}{l:Addr}{H1:Hp}{Q:VK}:zfD P pos qual (.ref l) H1 Q = ∃(as:List Addr)(ks:List Int),H1 l=some (.lst (as.map V.ref))/\zea pos qual H1 P/\as.length<64/\Paired (zhK H1) as ks /\
 ∀(D:Addr)(zs:List (Int×Addr))(H2:Hp),zhY H1 H2 P->zea pos qual H2 P->H1 D=none->D≠P->D≠sysModules->H2 D=some (.lst (zs.map λz=>V.ref z.2))->zs.Perm (ks.zip as)->zs.Pairwise (λp q=>p.1<=q.1)->Q (.ref D) H2:=zjA
theorem zgp{α β:Type}{R:α->β->Prop}:∀{l:List α}{m:List β},Paired R l m->∀{i:Nat}{a:α}{b:β},l[i]?=some a->m[i]?=some b->R a b
 | _,_,.nil,i,a,b,h,_=>by simp at h
 | _,_,.cons r t,0,a,b,h,h'=>by
  simp at h h'
  subst h h'
  exact r
 | _,_,.cons r t,i+1,a,b,h,h'=>zgp t (by simpa using h) (by simpa using h')
section
variable {X:Cx}
def zrd(K:PySem.W.Frag)(D:Addr)(tb:(Addr->St->Hp->Prop)->TS)(ts:TS):TS:=λZ σ H =>
 tb (λC σ' H'=>zaB K C/\PySem.W.mroIn K C (.ref D)=some true/\∀ea oe,H' ea=none->zca C oe->ts Z σ' (upd H' ea (.frz oe (.own 0)))) Z σ H
theorem zon{K:PySem.W.Frag}{D:Addr}{tb:(Addr->St->Hp->Prop)->TS}{ts:TS}{Z:zad}{σ:St}{H:Hp}:zrd K D tb ts Z σ H=tb (λC σ' H'=>zaB K C/\PySem.W.mroIn K C (.ref D)=some true/\∀ea oe,H' ea=none->zca C oe->ts Z σ' (upd H' ea (.frz oe (.own 0)))) Z σ H:=rfl
def zgC(neg:Bool):R2:=λx y H Q=>∃a b xs ys,x = .ref a/\y = .ref b/\H a=some (.lst xs)/\H b=some (.lst ys)/\(xs.length=0\/ys.length=0)/\Q (.bl (if neg then !decide (xs.length=ys.length) else decide (xs.length=ys.length))) H
theorem zlE(hu:X.A.units<cLine):OpR X (compareOp .Eq) (zgC false):=by
 intro Ga s σ H x y v u Q I rx ry h
 obtain ⟨a,b,xs,ys,rfl,rfl,ha,hb,h0,q⟩:=h
 cases rx
 cases ry
 by_cases hz:xs.length=ys.length
 ·have h1:xs=[]:=length_eq_zero_iff.mp (by omega)
  have h2:ys=[]:=length_eq_zero_iff.mp (by omega)
  subst h1 h2
  exact zjD hu Ga s σ H (.ref a) (.ref b) (.ref a) (.ref b) Q I rfl rfl ⟨a,b,[],[],rfl,rfl,SqL.of ha,SqL.of hb,rfl,rfl,q⟩
 ·obtain ⟨is,r1,p1,_⟩:=I.list (SqL.of (K:=X.K) ha)
  obtain ⟨js,r2,p2,_⟩:=I.list (SqL.of (K:=X.K) hb)
  have l1:=r1.length
  have l2:=r2.length
  refine SeqAt.eq_list_lengthsAt p1.isList p2.isList (by simp;omega) hu ⟨.bl false,H,I,rfl,?_⟩
  have q':Q (.bl (decide (xs.length=ys.length))) H:=q
  rw [decide_eq_false hz] at q'
  exact q'
theorem zqG(hu:X.A.units<cLine):OpR X (compareOp .NotEq) (zgC true):=by
 intro Ga s σ H x y v u Q I rx ry h
 obtain ⟨a,b,xs,ys,rfl,rfl,ha,hb,h0,q⟩:=h
 cases rx
 cases ry
 by_cases hz:xs.length=ys.length
 ·have h1:xs=[]:=length_eq_zero_iff.mp (by omega)
  have h2:ys=[]:=length_eq_zero_iff.mp (by omega)
  subst h1 h2
  exact ziW hu Ga s σ H (.ref a) (.ref b) (.ref a) (.ref b) Q I rfl rfl ⟨a,b,[],[],rfl,rfl,SqL.of ha,SqL.of hb,rfl,rfl,q⟩
 ·obtain ⟨is,r1,p1,_⟩:=I.list (SqL.of (K:=X.K) ha)
  obtain ⟨js,r2,p2,_⟩:=I.list (SqL.of (K:=X.K) hb)
  have l1:=r1.length
  have l2:=r2.length
  refine SeqAt.RcNeAt.lists_lengths p1.isList p2.isList (by simp;omega) hu _ _ _ _ ⟨.bl true,H,I,rfl,?_⟩
  have q':Q (.bl (!decide (xs.length=ys.length))) H:=q
  rw [decide_eq_false hz] at q'
  exact q'
theorem zmq{neg:Bool}{a b:Addr}{H:Hp}{Q:VK}:zgC neg (.ref a) (.ref b) H Q = ∃xs ys,H a=some (.lst xs)/\H b=some (.lst ys)/\(xs.length=0\/ys.length=0)/\Q (.bl (if neg then !decide (xs.length=ys.length) else decide (xs.length=ys.length))) H:=by
 apply propext;constructor
 ·rintro ⟨a',b',xs,ys,e1,e2,h⟩;cases e1;cases e2;exact ⟨xs,ys,h⟩
 ·rintro ⟨xs,ys,h⟩;exact ⟨a,b,xs,ys,rfl,rfl,h⟩
def ziu:List V->Hp->VK->Prop:=λxs H Q=>∃i,xs=[.int i]/\Q (.int (if i<0 then -i else i)) H
theorem zsc{i:Int}{H:Hp}{Q:VK}:ziu [.int i] H Q=Q (.int (if i<0 then -i else i)) H:=by simp [ziu]
end
section
variable {K:PySem.W.Frag}{g:TG}{tt:TT}{te:TE}{H:Hp}{Q:VK}
end
theorem zqP{c:Bool}{i:Int}{p:Addr}{H:Hp}{Q:VK}:zdB c (.int i) (.ref p) H Q = ∃kvs,Rd H p (.dK kvs)/\Q (.bl (if c then !(zJ kvs (.inl i)).isSome else (zJ kvs (.inl i)).isSome)) H:=by
 apply propext;constructor
 ·rintro ⟨a,k,kvs,e1,e2,h,q⟩
  cases e1
  cases k with
  | inl i=>cases e2;exact ⟨kvs,h,q⟩
  | inr x=>cases e2
 ·rintro ⟨kvs,h,q⟩;exact ⟨p,.inl i,kvs,rfl,rfl,h,q⟩
def zdv(f:Nat->Int):Nat->Option Int
 | 0=>none
 | j+1=>some (match zdv f j with|none=>f j|some m=>if f j>m then f j else m)
section
variable {prog:Program}{w:World}{A:Around}{E:Value->Shared->Prop}{s:Shared}
end
section
variable {X:Cx}
def oi:Option Int->V|none=>.non|some m=>.int m
def zje:List V->Hp->VK->Prop:=λxs H Q=>zfT xs H Q\/∃(l:Addr)(ks:List Int),xs=[.ref l]/\H l=some (.lst (ks.map V.int))/\0<ks.length/\Q (oi (zdv (λi=>ks.getD i 0) ks.length)) H
def zns(ta:TE):TE:=λσ H Q=>ta σ H λv H1=>uR v λl=>∃ks:List Int,H1 l=some (.lst (ks.map V.int))/\Q (oi (zdv (λi=>ks.getD i 0) ks.length)) H1
theorem zmC{ta:TE}{σ:St}{H:Hp}{Q:VK}:zns ta σ H Q=ta σ H λv H1=>uR v λl=>∃ks:List Int,H1 l=some (.lst (ks.map V.int))/\Q (oi (zdv (λi=>ks.getD i 0) ks.length)) H1:=rfl
theorem zm8{i j:Int}{H:Hp}{Q:VK}:zje [.int i,.int j] H Q=Q (.int (if j>i then j else i)) H:=by
 apply propext;constructor
 ·rintro (h|⟨l,ks,e,_⟩)
  ·rw [zfe] at h;exact h
  ·cases e
 ·exact λq=>.inl (by rw [zfe];exact q)
theorem zp4{l:Addr}{H:Hp}{Q:VK}:zje [.ref l] H Q = ∃ks:List Int,H l=some (.lst (ks.map V.int))/\0<ks.length/\Q (oi (zdv (λi=>ks.getD i 0) ks.length)) H:=by
 apply propext;constructor
 ·rintro (⟨i,j,e,_⟩|⟨l',ks,e,h⟩)
  ·cases e
  ·cases e;exact ⟨ks,h⟩
 ·rintro ⟨ks,h⟩;exact .inr ⟨l,ks,rfl,h⟩
def zp8(to te:TE):TE:=λσ H Q=>to σ H λx H1=>uR x λl=>(∃xs,H1 l=some (.lst xs))/\te σ H1 λy H2=>∃(xs:List V)(k:Nat)(v:V),y = .int k/\H2 l=some (.lst xs)/\xs[k]?=some v/\Q v (upd H2 l (.lst (xs.eraseIdx k)))
theorem zsT{to te:TE}{σ:St}{H:Hp}{Q:VK}:zp8 to te σ H Q=to σ H λx H1=>uR x λl=>(∃xs,H1 l=some (.lst xs))/\te σ H1 λy H2=>∃(xs:List V)(k:Nat)(v:V),y = .int k/\H2 l=some (.lst xs)/\xs[k]?=some v/\Q v (upd H2 l (.lst (xs.eraseIdx k))):=rfl
end
end L2
namespace L2
open PySem PySem.Spec PyProof.Rows PySem.W
section
variable {α β:Type}{lt:Nat->Nat->Bool}{N:Nat}
structure PM(N:Nat)(p:Array Nat):Prop where
 perm:p.Perm (List.toArray (List.range N))
theorem PM.size{p:Array Nat}(h:PM N p):p.size=N:=by have:=h.perm.size_eq;simpa using this
end
end L2
namespace L2
open PySem PySem.Spec PyProof.Rows
def tDC(ix:List (Option Nat))(wi:TI)(g:TG)(tt:TT)(tk tv:TE):TE:=λσ H Q=>wi σ H λJ H1=>∃W:Nat->Nat->St->List (Key×V)->Hp->Prop,(∃m,W 0 m (zaQ ix σ) [] H1)/\∀i m τ ys H2,W i m τ ys H2->ys.length<sizeLine /\
 ((J.stop i H2 ∧ ∀ D, H2 D = none → D ≠ sysModules → Q (.ref D) (upd H2 D (.dK ys))) ∨
  (J.go i H2 ∧ ∀ x H3, J.yld i H2 x H3 → g x τ H3 fun τ1 H4 => tt τ1 H4 fun ok H5 => if ok = true then tk τ1 H5 fun y H6 => tv τ1 H6 fun z H7 => uK y fun k => ∃ m', m' < m ∧ W (i + 1) m' τ1 (zal ys k z) H7 else ∃ m', m' < m ∧ W (i + 1) m' τ1 ys H5))
end L2
namespace L2
open PySem PySem.Spec PyProof.Rows PySem.W PySem.Calls
section
variable {prog:Program}{w:World}{A:Around}{E:Value->Shared->Prop}{s:Shared}
end
def ltP(p q:Int×Int):Bool:=decide (p.1<q.1)||(decide (p.1=q.1)&&decide (p.2<q.2))
def zeO(H:Hp)(a:Addr)(p:Int×Int):Prop:=H a=some (.tup [.int p.1,.int p.2])
theorem PM.mem{N:Nat}{p:Array Nat}(h:PM N p):∀i∈p.toList,i<N:=λi hi=>by
 have m:i∈List.toArray (List.range N):=h.perm.mem_iff.mp (by simpa using hi)
 simpa using m
def zs0:List V->Hp->VK->Prop:=λxs H Q=>uR1 xs λl=>∃(as:List Addr)(ps:List (Int×Int)),H l=some (.lst (as.map V.ref))/\Paired (zeO H) as ps/\as.length<64 /\
 ∀D as' ps' H2,New H D (.lst (as'.map V.ref)) H2->D≠sysModules->Paired (zeO H) as' ps'->ps'.Perm ps->ps'.Pairwise (λa b=>ltP b a=false)->Q (.ref D) H2
theorem zoo{l:Addr}{H:Hp}{Q:VK}:zs0 [.ref l] H Q = ∃(as:List Addr)(ps:List (Int×Int)),H l=some (.lst (as.map V.ref))/\Paired (zeO H) as ps/\as.length<64 /\
 ∀D as' ps' H2,New H D (.lst (as'.map V.ref)) H2->D≠sysModules->Paired (zeO H) as' ps'->ps'.Perm ps->ps'.Pairwise (λa b=>ltP b a=false)->Q (.ref D) H2:=za3
section
variable {X:Cx}
def ik(kvs:List (Int×V)):List (Key×V):=kvs.map λp=>(.inl p.1,p.2)
def zr5:List V->Hp->VK->Prop:=λxs H Q=>uR1 xs λa=>∃kvs:List (Int×V),Rd H a (.dK (ik kvs))/\kvs.length<64/\∀p (ns:List Int) H2,New H p (.lst (ns.map V.int)) H2->ns.Perm (kvs.map (·.1))->ns.Pairwise (·<=·)->Q (.ref p) H2
theorem zqj{a:Addr}{H:Hp}{Q:VK}:zr5 [.ref a] H Q = ∃kvs:List (Int×V),Rd H a (.dK (ik kvs))/\kvs.length<64/\∀p (ns:List Int) H2,New H p (.lst (ns.map V.int)) H2->ns.Perm (kvs.map (·.1))->ns.Pairwise (·<=·)->Q (.ref p) H2:=za3
end
theorem zlp{a:Addr}{i:Int}{H:Hp}{Q:VK}:zej (.ref a) (.int i) H Q = ∃kvs,Rd H a (.dK kvs)/\∃v,zJ kvs (.inl i)=some v/\Q v H:=by
 apply propext;constructor
 ·rintro ⟨a',k,kvs,v,e1,e2,h1,h2,q⟩
  cases e1
  cases k with
  | inl j=>cases e2;exact ⟨kvs,h1,v,h2,q⟩
  | inr x=>cases e2
 ·rintro ⟨kvs,h1,v,h2,q⟩
  exact ⟨a,.inl i,kvs,v,rfl,rfl,h1,h2,q⟩
section
variable {K:PySem.W.Frag}{g:TG}{tt:TT}{te tk tv:TE}{σ:St}{H:Hp}{wi:TI}{ix:List (Option Nat)}{Q:VK}
def zdl(J:It)(g:TG)(tt:TT)(tk tv:TE)(τ:St)(H:Hp)(Q:VK):Prop:=∃W:Nat->Nat->St->List (Key×V)->Hp->Prop,(∃m,W 0 m τ [] H)/\∀i m τ ys H2,W i m τ ys H2->ys.length<sizeLine /\
 ((J.stop i H2 ∧ ∀ D, H2 D = none → D ≠ sysModules → Q (.ref D) (upd H2 D (.dK ys))) ∨
  (J.go i H2 ∧ ∀ x H3, J.yld i H2 x H3 → g x τ H3 fun τ1 H4 => tt τ1 H4 fun ok H5 => if ok = true then tk τ1 H5 fun y H6 => tv τ1 H6 fun z H7 => uK y fun k => ∃ m', m' < m ∧ W (i + 1) m' τ1 (zal ys k z) H7 else ∃ m', m' < m ∧ W (i + 1) m' τ1 ys H5))
theorem zoI:tDC ix wi g tt tk tv σ H Q=wi σ H λJ H1=>zdl J g tt tk tv (zaQ ix σ) H1 Q:=rfl
def zeD(N:St->List (Key×V)->Hp->Prop)(ys:List (Key×V))(τ1:St)(tk tv:TE)(ok:Bool)(H5:Hp):Prop:=if ok=true then tk τ1 H5 λy H6=>tv τ1 H6 λz H7=>uK y λk=>N τ1 (zal ys k z) H7 else N τ1 ys H5
theorem zjO{N:St->List (Key×V)->Hp->Prop}{ys:List (Key×V)}{τ:St}:zeD N ys τ tk tv true H=tk τ H λy H6=>tv τ H6 λz H7=>uK y λk=>N τ (zal ys k z) H7:=rfl
theorem zrm{N:St->List (Key×V)->Hp->Prop}{ys:List (Key×V)}{τ:St}:zeD N ys τ tk tv false H=N τ ys H:=rfl
theorem zdl.lst{a:Addr}{xs:List V}{τ:St}(Pv:Nat->St->List (Key×V)->Hp->Prop)(hz:∀i τ ys H,Pv i τ ys H->ys.length<sizeLine)(ha:∀i τ ys H,Pv i τ ys H->SqL K H a xs)(h0:Pv 0 τ [] H)
  (hs:∀(N:St->List (Key×V)->Hp->Prop) i x τ ys H,xs[i]?=some x->Pv i τ ys H->(∀τ ys H,Pv (i+1) τ ys H->N τ ys H)->g x τ H λτ1 H4=>tt τ1 H4 λok H5=>zeD N ys τ1 tk tv ok H5) (hd:∀τ ys H,Pv xs.length τ ys H->∀D H',New H D (.dK ys) H'->Q (.ref D) H'):zdl (Itl K a) g tt tk tv τ H Q:=by
 refine ⟨λi m τ ys H=>m=xs.length-i/\i<=xs.length/\Pv i τ ys H,⟨xs.length,by simp,zero_le _,h0⟩,?_⟩
 rintro i m τ ys H2 ⟨rfl,hi,p⟩
 refine ⟨hz i τ ys H2 p,?_⟩
 have q:=ha i τ ys H2 p
 by_cases hlt:i<xs.length
 ·refine .inr ⟨⟨xs,xs[i],q,by simp [hlt]⟩,λx H' y=>?_⟩
  obtain ⟨e,y⟩:=y
  subst e
  exact hs (λτ1 ys H=>∃m',m'<xs.length-i/\m'=xs.length-(i+1)/\i+1<=xs.length/\Pv (i+1) τ1 ys H) i x τ ys _ (y xs q) p λτ1 zs H q=>⟨xs.length-(i+1),by omega,rfl,hlt,q⟩
 ·have e:i=xs.length:=by omega
  subst e
  exact .inl ⟨⟨xs,q,le_refl _⟩,λD hD _=>hd τ ys H2 p D _ (.mk' hD)⟩
end
end L2
namespace L2
open PySem PySem.Spec PyProof.Rows
def Ris(xs:Array Nat):Prop:=∀i j,i<j->j<xs.size->xs.getD i 0<xs.getD j 0
theorem zof{xs:Array Nat}{i a b:Nat}(h:i<xs.size):xs.getD i a=xs.getD i b:=by simp [getD,h]
structure zhC(xs:Array Nat)(j b:Nat):Prop where
 le:b<=xs.size
 lo:∀i,i<b->xs.getD i 0<j
 hi:∀i,b<=i->i<xs.size->j<=xs.getD i 0
theorem zeZ{xs:Array Nat}{j:Nat}(r:Ris xs):∀(f lo hi:Nat),lo<=hi->hi<=xs.size->hi<=lo+f->(∀i,i<lo->xs.getD i 0<j)->(∀i,hi<=i->i<xs.size->j<=xs.getD i 0)->zhC xs j (SetTable.below.go xs j f lo hi)
 | 0,lo,hi,h1,h2,h3,a,b=>by
  have e:lo=hi:=by omega
  subst e
  exact ⟨h2,a,b⟩
 | f+1,lo,hi,h1,h2,h3,a,b=>by
  unfold SetTable.below.go
  split
  ·rename_i h
   have hm:(lo+hi) / 2<xs.size:=by omega
   dsimp only
   rw [zof (a:=j) (b:=0) hm]
   by_cases c:xs.getD ((lo+hi) / 2) 0<j
   ·rw [if_pos c]
    refine zeZ r f ((lo+hi) / 2+1) hi (by omega) h2 (by omega) (λi hi'=>?_) b
    by_cases e:i=(lo+hi) / 2
    ·subst e;exact c
    ·have hlt:i<(lo+hi) / 2:=by omega
     exact lt_trans (r i ((lo+hi) / 2) hlt hm) c
   ·rw [if_neg c]
    refine zeZ r f lo ((lo+hi) / 2) (by omega) (by omega) (by omega) a λi hi' hs=>?_
    by_cases e:i=(lo+hi) / 2
    ·subst e;omega
    ·have hlt:(lo+hi) / 2<i:=by omega
     have:=r ((lo+hi) / 2) i hlt hs
     omega
  ·have e:lo=hi:=by omega
   subst e
   exact ⟨h2,a,b⟩
theorem zgw{xs:Array Nat}(r:Ris xs)(j:Nat):zhC xs j (SetTable.below xs j):=zeZ r _ _ _ (zero_le _) (le_refl _) (by omega) (λi h=>by omega) λi h1 h2=>by omega
theorem zjv{xs:Array Nat}{p x i:Nat}(hp:p<=xs.size):(SetTable.insertAt xs p x).getD i 0=if i<p then xs.getD i 0 else if i=p then x else xs.getD (i-1) 0:=by
 have hl:(xs.toList.take p).length=p:=by rw [length_take,length_toList];omega
 rw [getD_eq_getD_getElem?,<- getElem?_toList,SetTable.toList_insertAt]
 by_cases h:i<p
 ·rw [if_pos h,List.getElem?_append_left (by omega),List.getElem?_take_of_lt h,getElem?_toList,getD_eq_getD_getElem?]
 ·rw [if_neg h,List.getElem?_append_right (by omega),hl]
  by_cases e:i=p
  ·rw [if_pos e,e,Nat.sub_self];rfl
  ·rw [if_neg e,show i-p=(i-1-p)+1 by omega,List.getElem?_cons_succ,List.getElem?_drop,getElem?_toList,getD_eq_getD_getElem?]
   congr 2;omega
theorem zm0{xs:Array Nat}{p x:Nat}:(SetTable.insertAt xs p x).size=xs.size+1:=by
 have:=(SetTable.insertAt_perm xs p x).length_eq
 simpa using this
theorem zpV{xs:Array Nat}{j:Nat}(r:Ris xs)(hn : ¬ xs[SetTable.below xs j]?=some j):Ris (SetTable.insertAt xs (SetTable.below xs j) j):=by
 have B:=zgw r j
 generalize SetTable.below xs j=p at B hn
 have hle:=B.le
 intro a b hab hb
 rw [zm0] at hb
 rw [zjv hle,zjv hle]
 have hi':∀i,p<=i->i<xs.size->j<xs.getD i 0:=λi h1 h2=>by
  have h3:=B.hi i h1 h2
  by_cases e:i=p
  ·subst e
   rcases Nat.lt_or_eq_of_le h3 with z|z
   ·exact z
   ·exact absurd (by rw [Array.getElem?_eq_getElem h2]; have : xs.getD i 0 = xs[i] := by simp [getD, h2]
                     rw [z, this]) hn
  ·have:=r p i (by omega) h2
   have:=B.hi p (le_refl _) (by omega)
   omega
 by_cases h1:b<p
 ·rw [if_pos h1,if_pos (by omega)]
  exact r a b hab (by omega)
 ·rw [if_neg h1]
  by_cases h2:b=p
  ·rw [if_pos h2,if_pos (by omega)]
   exact B.lo a (by omega)
  ·rw [if_neg h2]
   by_cases h3:a<p
   ·rw [if_pos h3]
    exact lt_trans (B.lo a h3) (hi' (b-1) (by omega) (by omega))
   ·rw [if_neg h3]
    by_cases h4:a=p
    ·rw [if_pos h4];exact hi' (b-1) (by omega) (by omega)
    ·rw [if_neg h4];exact r (a-1) (b-1) (by omega) (by omega)
structure zaY(bt:Bool)(t:SetTable):Prop where
 led:t.led = !bt
 dum:t.dummies = #[]
 ris:Ris t.place
theorem zh7{j:Nat}:SetTable.has #[] j=false:=by simp [SetTable.has]
theorem zoj(n:Nat):Ris (Array.range n):=λi j h hj=>by
 have hj':j<n:=by simpa using hj
 have hi':i<n:=by omega
 simp [getD,hi',hj',h]
theorem zet{bt:Bool}{t:SetTable}(h:zaY bt t)(n:Nat):zaY bt (t.standIn n):=⟨h.led,rfl,zoj n⟩
theorem ztg{bt:Bool}{t:SetTable}(h:zaY bt t)(n:Nat):zaY bt (t.orStandIn n):=by
 unfold SetTable.orStandIn
 split
 ·exact h
 ·exact zet h n
theorem zoS{t:SetTable}(h:t.dummies = #[])(j:Nat):(t.slot j = .empty/\¬ t.place[SetTable.below t.place j]?=some j)\/∃i,t.slot j = .live i:=by
 unfold SetTable.slot
 dsimp only
 split
 ·exact .inr ⟨_,rfl⟩
 ·rename_i hc
  rw [h,zh7]
  exact .inl ⟨rfl,by simpa using hc⟩
theorem zir{t:SetTable}{g:Nat->Int}{h:Int}(hd:t.dummies = #[]):∀(f:Nat)(p:SetTable.Probe)(j:Nat)(d:Option Nat),p.dummy=none->SetTable.probe.go t g h f p=some (.empty j d)->d=none/\¬ t.place[SetTable.below t.place j]?=some j
 | 0,p,j,d,_,e=>by cases e
 | f+1,p,j,d,hp,e=>by
  have adv:∀q:SetTable.Probe,(t.advance q).dummy=q.dummy:=λq=>by
   unfold SetTable.advance
   split
   ·rfl
   ·rfl
  unfold SetTable.probe.go at e
  rcases zoS hd p.j with ⟨h1,h2⟩|⟨i,h1⟩
  ·rw [h1] at e
   cases e
   exact ⟨hp,h2⟩
  ·rw [h1] at e
   dsimp only at e
   split at e
   ·cases e
   ·exact zir hd f _ j d (by rw [adv];exact hp) e
theorem zsJ{bt:Bool}{t:SetTable}(h:zaY bt t)(es:Array (Int×Value))(hh:Int)(x:Value):zaY bt (layNew t es hh x).2.1:=by
 unfold layNew
 split
 ·rename_i slot wd e
  refine ztg ?_ _
  unfold SetTable.freeSlot at e
  split at e
  ·rename_i j d e2
   obtain ⟨rfl,hn⟩:=zir h.dum _ _ _ _ rfl e2
   cases e
   refine ⟨h.led,?_,zpV h.ris hn⟩
   show (if SetTable.has t.dummies j=true then _ else t.dummies) = #[]
   rw [h.dum,zh7]
   rfl
  ·cases e
 ·exact zet h _
theorem zr3{bt:Bool}{t:SetTable}(h:zaY bt t)(es:Array (Int×Value))(n:Nat):zaY bt (relayAll t es n).2.1:=by
 unfold relayAll
 split
 ·rename_i t' order e
  dsimp only
  split
  ·unfold SetTable.relaid SetTable.laid at e
   obtain ⟨owner,_,e⟩:=Option.bind_eq_some_iff.mp e
   cases e
   refine ⟨h.led,rfl,λi j hij hj=>?_⟩
   have pw:(((List.range (SetTable.sizeAbove n-1+1)).filterMap λj=>(owner.getD j none).map (j,·)).map (·.1)).Pairwise (· < ·):=by
    rw [List.pairwise_map]
    refine List.Pairwise.filterMap _ (λa a' haa b hb b' hb'=>?_) List.pairwise_lt_range
    obtain ⟨_,_,rfl⟩:=map_eq_some_iff.mp hb
    obtain ⟨_,_,rfl⟩:=map_eq_some_iff.mp hb'
    exact haa
   rw [size_toArray] at hj
   have:=List.pairwise_iff_getElem.mp pw i j (by omega) hj hij
   rw [getD_eq_getD_getElem?,getD_eq_getD_getElem?,List.getElem?_toArray,List.getElem?_toArray,List.getElem?_eq_getElem hj,List.getElem?_eq_getElem (lt_trans hij hj)]
   exact this
  ·exact zet h _
 ·exact zet h _
def btW(w:World):Bool:=w.params.followText "set-order"
def zbk(e:Int×Value):Int:=numOf e.2
structure zB(prog:Program)(w:World)(h:Heap)(a:Addr)(ns:List Int):Prop where
 ex:∃o es ep t,h.get? a=some o/\o.ExactSet/\o.data = .set es ep t/\ElemsOf (PySem.intKind prog w) es.toList/\t.fits es.size=true/\zaY (btW w) t/\(es.toList.map zbk).Perm ns
 few:ns.length<4000
section
variable {prog:Program}{w:World}{A:Around}{E:Value->Shared->Prop}{s:Shared}
theorem zB.size{h:Heap}{a:Addr}{ns:List Int}{es:Array (Int×Value)}(p:(es.toList.map zbk).Perm ns):es.size=ns.length:=by
 have:=p.length_eq
 rw [length_map,length_toList] at this
 exact this
theorem zB.at{h h':Heap}{a:Addr}{ns:List Int}(x:zB prog w h a ns)(k:∀o,h.get? a=some o->h'.get? a=some o):zB prog w h' a ns :=
 let ⟨o,es,ep,t,ho,r⟩:=x.ex;⟨⟨o,es,ep,t,k o ho,r⟩,x.few⟩
theorem zgj{n:Int}{v:Value}(h:(PySem.intKind prog w).is n v=true):∃t,v = .int n t:=by
 cases v with
 | int m t =>
  have e:(m==n)=true:=by simpa [PySem.intKind,Value.isInt] using h
  have e:m=n:=by simpa using e
  exact ⟨t,by rw [e]⟩
 | _=>exact absurd h (by simp [PySem.intKind,Value.isInt])
theorem zle(n:Int)(t:Tok):(PySem.intKind prog w).is n (.int n t)=true:=by simp [PySem.intKind,Value.isInt]
theorem zkm{Q:Value->Shared->Prop}(h:∀o,zB prog w (s.heap.push o) s.heap.objs.size []->(∀v,o.data≠.cell v)->Q (.ref s.heap.objs.size) { s with heap:=s.heap.push o }) :
  wpAny (model prog w) A (newSet (.type "set")) Q E s:=by
 unfold newSet setsByText
 refine wpAny_bind (wpAny_bind (wpAny_askSetting (wpAny_pure ?_)))
 dsimp only
 simp only [newObj]
 refine wpAny_bind (wpAny_alloc (wpAny_pure (h _ ⟨⟨_,#[],0,_,get?_push_size _ rfl,⟨rfl,rfl,rfl⟩,rfl,λe he=>by simp at he,by rfl,⟨rfl,rfl,λi j _ hj=>by simp [SetTable.fresh] at hj⟩,Perm.refl _⟩,by decide⟩ λv z=>by cases z)))
theorem zjp{h:Heap}{a:Addr}{o:Obj}{es:Array (Int×Value)}{ep:Nat}{t:SetTable}(ho:h.get? a=some o)(hd:o.data = .set es ep t)(es':Array (Int×Value))(t':SetTable) :
  (h.update a (Obj.putSet es' t')).get? a=some { o with data:=.set es' (ep+1) t' }:=by
 have:=get?_update_self (Obj.putSet es' t') ho (by rw [putSet_of es' t' hd];rfl)
 rw [putSet_of es' t' hd] at this;exact this
theorem zjK{a:Addr}{ns:List Int}{n:Int}{tk:Tok}{Q:Bool->Shared->Prop}(hS:zB prog w s.heap a ns)(hr:ns.length<3000)
  (h:∀h' b,SameBut a s.heap h'->zB prog w h' a (if n∈ns then ns else ns++[n])->Q b { s with heap:=h',toks:=s.toks+1 }) :
  wpAny (model prog w) A (setAdd a (.int n tk)) Q E s:=by
 obtain ⟨o,es,ep,t,ho,hex,hd,hel,hf,gt,pm⟩:=hS.ex
 have hsz:=zB.size (h:=s.heap) (a:=a) pm
 have hb:es.size<scanBound:=by rw [hsz];exact lt_trans hr (by decide)
 have hkey:=zle (prog:=prog) (w:=w) n tk
 unfold setAdd
 refine wpAny_holding (wpAny_bind ((PySem.intKind prog w).pyHash hkey ?_))
 have fin:∀h',SameBut a s.heap h'->zB prog w h' a (if n∈ns then ns else ns++[n])->∀b:Bool,Q b { s with heap:=h',toks:=s.toks+1 }:=λh' sb hS' b=>h h' b sb hS'
 unfold setAddHashed setAddHashedIn
 refine wpAny_holding (wpAny_bind (wpAny_setState_of (s:={ s with toks:=s.toks+1 }) ho hd hf ?_))
 dsimp only
 rw [byScan_of (x:=.int n tk) rfl hb hel]
 simp only [↓reduceIte]
 unfold setAddByScan
 refine wpAny_bind (wpAny_bind (wpAny_rule (wpAny_bind (wpAny_setScan_of (s:={ s with toks:=s.toks+1 }) hkey ho hd hf hel ?_))))
 cases hr0:List.findIdx? (λe=>(PySem.intKind prog w).is n e.2) es.toList with
 | some j =>
  dsimp only
  obtain ⟨hj,hpj,_⟩:=List.findIdx?_eq_some_iff_getElem.mp hr0
  have hin:n∈ns:=by
   refine pm.mem_iff.mp (mem_map.mpr ⟨_,getElem_mem hj,?_⟩)
   obtain ⟨t',e⟩:=zgj hpj
   show numOf (es.toList[j]).2=n
   rw [e];rfl
  refine wpAny_pure (wpAny_pure ?_)
  have:=fin s.heap (SameBut.refl a s.heap) (by rw [if_pos hin];exact hS) false
  exact this
 | none =>
  dsimp only
  have hni:n∉ns:=λhin=>by
   obtain ⟨e,he,ev⟩:=mem_map.mp (pm.mem_iff.mpr hin)
   obtain ⟨⟨k,hk,_⟩,_⟩:=hel e he
   obtain ⟨t',e2⟩:=zgj hk
   have:k=n:=by rw [<- ev];show k=numOf e.2;rw [e2];rfl
   subst this
   have:=List.findIdx?_eq_none_iff.mp hr0 e he
   rw [hk] at this;cases this
  rw [if_neg hni] at fin
  have hperm:=layNew_perm t es ((PySem.intKind prog w).hash n) (.int n tk)
  have hfits:=layNew_fits t es ((PySem.intKind prog w).hash n) (.int n tk)
  have hgood:=zsJ gt es ((PySem.intKind prog w).hash n) (.int n tk)
  generalize hL:layNew t es ((PySem.intKind prog w).hash n) (.int n tk)=L at hperm hfits hgood ⊢
  obtain ⟨es1,t1,wasDummy,gave⟩:=L
  dsimp only at hperm hfits hgood ⊢
  rw [Array.toList_push] at hperm
  have hel1:ElemsOf (PySem.intKind prog w) es1.toList:=(hel.push hkey rfl).perm hperm
  have pm1:(es1.toList.map zbk).Perm (ns++[n]):=by
   have:=hperm.map zbk
   rw [map_append] at this
   exact this.trans (pm.append (Perm.refl _))
  have hsz1:es1.size=ns.length+1:=by have:=zB.size (h:=s.heap) (a:=a) pm1;simpa using this
  have mk:∀{h':Heap}{es2:Array (Int×Value)}{t2:SetTable}{e:Nat},h'.get? a=some { o with data:=.set es2 e t2 }->es2.toList.Perm es1.toList->t2.fits es2.size=true->zaY (btW w) t2->zB prog w h' a (ns++[n]):=λ{h' es2 t2 e} ho' p f g=>⟨⟨_,es2,e,t2,ho',hex,rfl,hel1.perm p,f,g,(p.map zbk).trans pm1⟩,by rw [length_append,length_singleton];omega⟩
  have big:es1.size<=sizeLine:=fits_of_scanBound (by rw [hsz1];exact Nat.lt_of_le_of_lt (Nat.succ_le_of_lt hr) (by decide))
  have hgw:∀(b:Bool){s₁:Shared}{Q':Unit->Shared->Prop},Q' () s₁->wpAny (model prog w) A (match b with|true=>rule "set.scan.the-table-gave-way" | false=>pure ()) Q' E s₁:=λb s₁ Q' hq=>by cases b<;>first|exact wpAny_pure hq|exact wpAny_rule hq
  refine wpAny_bind (hgw _ ?_)
  have tail:∀(t2:SetTable),t2.fits es1.size=true->zaY (btW w) t2->wpAny (model prog w) A (do
    storeSet a es1 t2
    if (!wasDummy&&t2.tooFull)=true then do
      (match (relayAll t2 es1 (SetTable.grown es1.size)).2.2 with|true=>rule "set.scan.the-table-gave-way" | false=>pure ())
      storeSet a (relayAll t2 es1 (SetTable.grown es1.size)).1 (relayAll t2 es1 (SetTable.grown es1.size)).2.1
      pure (some true)
     else pure (some true)) (λr s'=>r=some true/\∃h',SameBut a s.heap h'/\zB prog w h' a (ns++[n])/\s'={ s with heap:=h',toks:=s.toks+1 }) E { s with toks:=s.toks+1 }:=λt2 f2 g2=>by
   refine wpAny_bind (wpAny_storeSet_of (s:={ s with toks:=s.toks+1 }) ho hd ?_ big)
   have ho1:=zjp ho hd es1 t2
   have hsb1:=SameBut.update s.heap a (Obj.putSet es1 t2)
   split
   ·have hp:=relayAll_perm t2 es1 (SetTable.grown es1.size)
    have hfr:=relayAll_fits t2 es1 (SetTable.grown es1.size)
    have hgr:=zr3 g2 es1 (SetTable.grown es1.size)
    generalize hRl:relayAll t2 es1 (SetTable.grown es1.size)=Rl at hp hfr hgr ⊢
    obtain ⟨es2,t3,gave2⟩:=Rl
    dsimp only at hp hfr hgr ⊢
    have hsz:es2.size=es1.size:=by rw [<- length_toList,hp.length_eq,length_toList]
    refine wpAny_bind (hgw _ ?_)
    refine wpAny_bind (wpAny_storeSet_of ho1 rfl ?_ (by rw [hsz];exact big))
    exact wpAny_pure ⟨rfl,_,hsb1.trans (SameBut.update _ a _),mk (zjp ho1 rfl es2 t3) hp hfr hgr,rfl⟩
   ·exact wpAny_pure ⟨rfl,_,hsb1,mk ho1 (Perm.refl _) f2 g2,rfl⟩
  split
  ·refine wpAny_bind ?_
   rw [hashByValue_scannable 8 rfl]
   refine wpAny_pure ?_
   try simp only [↓reduceIte]
   refine wpAny_mono (tail t1 hfits hgood) ?_ (λ_ _ q=>q)
   rintro r s' ⟨rfl,h',sb,hS',rfl⟩
   dsimp only
   exact wpAny_pure (fin h' sb hS' true)
  ·refine wpAny_bind (wpAny_pure ?_)
   try simp only [↓reduceIte]
   refine wpAny_mono (tail t1 hfits hgood) ?_ (λ_ _ q=>q)
   rintro r s' ⟨rfl,h',sb,hS',rfl⟩
   dsimp only
   exact wpAny_pure (fin h' sb hS' true)
theorem add_int{a:Addr}{ns:List Int}{n:Int}{tk:Tok}{Q:Value->Shared->Prop}(hS:zB prog w s.heap a ns)(hr:ns.length<3000)
  (h:∀h',SameBut a s.heap h'->zB prog w h' a (if n∈ns then ns else ns++[n])->Q .none { s with heap:=h',toks:=s.toks+1 }) :
  wpAny (model prog w) A (call (.builtin "set.add") [.ref a,.int n tk]) Q E s:=by
 obtain ⟨o,es,ep,t,ho,hex,hd,_⟩:=hS.ex
 have typ:s.TypeIs (.ref a) "set":=⟨o,ho,hex.1⟩
 refine wpAny_call_entry F.slot_set_add typ F.entry_set_add ?_ (F.args_set_add_2 _ _)
 unfold Builtin.«set.add» Builtin.Frozenset.oneOther
 simp only [List.isEmpty_nil,bind_assoc]
 unfold Builtin.Frozenset.addrOf
 refine wpAny_bind (wpAny_pure (wpAny_bind (wpAny_pure (wpAny_bind (zjK hS hr λh' b sb hS'=>wpAny_pure ⟨_,rfl,h h' sb hS'⟩)))))
end
def inB(e:Expr)(d:Nat)(iter:Expr)(acc:Value)(env:Env):Sem Unit:=do
 let x<-eval iter env
 standAt iter.pos
 let x<-foldedSetIterable iter env x
 let _<-runOwn (.compStart e d (<- holding [x] (pyIter x)) acc env) env
def emB(elt:Expr)(acc:Value)(env:Env):Sem Unit:=do
 let v<-eval elt env
 standAt elt.pos
 let _<-call (.builtin "set.add") [acc,v]
def zbl(e:Expr)(d:Nat)(tg iter:Expr)(body:Sem Unit)(it acc:Value)(env:Env):Sem Fin:=do
 standAt iter.pos
 match<-pyNext it with
 | none=>pure (.done .next)
 | some v =>
  letOwnedTupleGo tg it v
  assign tg env v
  body
  again (.compLoop e d it acc env)
section
variable {elt t0 i0 t1 i1 t2 i2:Expr}{sc:Scope}{pos:Pos}{it acc:Value}{env:Env}
theorem zqW{e:Expr}(he:e = .SetComp elt [⟨t0,i0,[],0⟩,⟨t1,i1,[],0⟩,⟨t2,i2,[],0⟩] sc pos):compTurn e 0 it acc env=zbl e 0 t0 i0 (inB e 1 i1 acc env) it acc env:=by
 subst he
 unfold zbl inB
 simp only [bind_assoc]
 rfl
theorem zrj{e:Expr}(he:e = .SetComp elt [⟨t0,i0,[],0⟩,⟨t1,i1,[],0⟩,⟨t2,i2,[],0⟩] sc pos):compTurn e 1 it acc env=zbl e 1 t1 i1 (inB e 2 i2 acc env) it acc env:=by
 subst he
 unfold zbl inB
 simp only [bind_assoc]
 rfl
theorem zsG{e:Expr}(he:e = .SetComp elt [⟨t0,i0,[],0⟩,⟨t1,i1,[],0⟩,⟨t2,i2,[],0⟩] sc pos):compTurn e 2 it acc env=zbl e 2 t2 i2 (emB elt acc env) it acc env:=by
 subst he
 unfold zbl emB
 rfl
theorem ziB{prog:Program}{w:World}{A:Around}{R:Result->Shared->Prop}{s:Shared}{e:Expr}{gs:List Comprehension}(he:e = .SetComp elt gs sc pos){d:Nat}{tg iter:Expr}(hd:(clausesOf e)[d]?=some ⟨tg,iter,[],0⟩)
  (h0:codeAny (model prog w) A (.compLoop e d it acc env) R s)
  (h:wpAny (model prog w) A (pyIter it) (λit' s'=>codeAny (model prog w) A (.compLoop e d it' acc env) R s') (notedBy (model prog w) A env λx s'=>R (.error x) s') s) :
  codeAny (model prog w) A (.compStart e d it acc env) R s:=by
 subst he
 refine codeAny_of_tree ?_
 show wpAny _ A ((compStart _ d it acc env).onRaise (λx=>do noteFrame x env;standAt theWindowsPlace)) _ _ s
 refine wpAny_notedAt ?_
 unfold compStart
 rw [hd]
 show wpAny _ A (ask>>=_) _ _ s
 refine wpAny_bind (wpAny_askSetting (wpAny_ite ?_))
 split
 ·first
   | exact wpAny_bind (wpAny_pure (wpAny_pure (And.intro rfl h0)))
   | exact wpAny_pure (And.intro rfl h0)
 ·first
   | exact wpAny_bind (wpAny_rule (wpAny_bind (wpAny_standAt (wpAny_bind (wpAny_mono h (λit' s' h'=>wpAny_pure (And.intro rfl h')) λ_ _ x=>x)))))
   | (refine wpAny_bind (wpAny_rule ?_);show wpAny _ _ (standAt iter.pos>>=_) _ _ s;exact wpAny_bind (wpAny_standAt (wpAny_bind (wpAny_mono h (λit' s' h'=>wpAny_pure (And.intro rfl h')) λ_ _ x=>x))))
theorem zno{prog:Program}{w:World}{A:Around}{R:Result->Shared->Prop}{s:Shared}{e:Expr}{gs:List Comprehension}(he:e = .SetComp elt gs sc pos){d:Nat}{tg iter:Expr}{body:Sem Unit}(ht:compTurn e d it acc env=zbl e d tg iter body it acc env)(I:Nat->Shared->Prop)
  (turn:∀n s,I n s->wpAny (model prog w) A (pyNext it) (λr s₁=>match r with
   | none=>R (.ok .next) s₁
   | some v=>wpAny (model prog w) A (letOwnedTupleGo tg it v) (λ_ s₁'=>wpAny (model prog w) A (assign tg env v) (λ_ s₂ =>
     wpAny (model prog w) A body (λ_ s₃=>∃m,m<n/\I m s₃) (λ_ _=>False) s₂) (λ_ _=>False) s₁') (λ_ _=>False) s₁) (λ_ _=>False) s)
  (n:Nat) (h:I n s):codeAny (model prog w) A (.compLoop e d it acc env) R s:=by
 subst he
 refine codeAny_loop rfl I (λn s hI=>?_) n h
 show wpAny _ A ((compTurn _ d it acc env).onRaise (λx=>do noteFrame x env;theTreesLotGoes x)) _ _ s
 refine wpAny_noted (wpAny_mono (E:=λ_ _=>False) ?_ (λ_ _ q=>q) λ_ _ z=>z.elim)
 rw [ht]
 unfold zbl
 refine wpAny_bind (wpAny_standAt (wpAny_bind (wpAny_mono (turn n s hI) (λr s₁ h₁=>?_) λ_ _ h'=>h')))
 cases r with
 | none=>exact wpAny_pure h₁
 | some v =>
  refine wpAny_bind (wpAny_mono h₁ (λ_ s₁' h₁'=>?_) λ_ _ h'=>h')
  exact wpAny_bind (wpAny_mono h₁' (λ_ s₂ h₂=>wpAny_bind (wpAny_mono h₂ (λok s₃ h₃=>wpAny_pure ⟨rfl,h₃⟩) λ_ _ h'=>h')) λ_ _ h'=>h')
end
abbrev TB:=St->List Int->Hp->(St->List Int->Hp->Prop)->Prop
def zy(ns:List Int)(n:Int):List Int:=if n∈ns then ns else ns++[n]
def BP(X:Cx)(D:Addr)(Ga:List (Addr×Obj))(Q:St->List Int->Hp->Prop)(s':Shared):Prop :=
 ∃σ ns H,Inv X Ga σ H s'/\H D=none/\zB X.prog X.w s'.heap D ns/\Q σ ns H
def PB(X:Cx)(D:Addr)(m:Sem Unit)(tb:TB):Prop :=
 ∀(Ga:List (Addr×Obj))(s:Shared)(σ:St)(H:Hp)(ns:List Int)(Q:St->List Int->Hp->Prop),Inv X Ga σ H s->z7 X Ga H D->zB X.prog X.w s.heap D ns->tb σ ns H Q ->
  wpAny (model X.prog X.w) X.A m (λ_ s'=>BP X D Ga Q s') (λ_ _=>False) s
theorem z7.to{X:Cx}{Ga:List (Addr×Obj)}{H H':Hp}{b:Addr}(f:z7 X Ga H b)(h:H' b=none):z7 X Ga H' b:=⟨h,f.2⟩
theorem z7.more{X:Cx}{Ga pl:List (Addr×Obj)}{H:Hp}{b:Addr}(f:z7 X Ga H b)(h:∀p∈pl,p.1≠b):z7 X (Ga++pl) H b :=
 ⟨f.1,f.2.1,f.2.2.1,f.2.2.2.1,f.2.2.2.2.1,λp hp=>by
  rcases mem_append.mp hp with z|z
  ·exact f.2.2.2.2.2 p (mem_append_left _ z)
  ·rcases mem_append.mp z with z|z
   ·exact f.2.2.2.2.2 p (mem_append_right _ z)
   ·exact h p z⟩
theorem zB.obj{P:Program}{w:World}{h:Heap}{D:Addr}{ns:List Int}(x:zB P w h D ns):∃o,h.get? D=some o/\∀v,o.data≠.cell v:=by
 obtain ⟨o,es,ep,t,ho,_,hd,_⟩:=x.ex
 exact ⟨o,ho,λv z=>by rw [hd] at z;cases z⟩
section
variable {X:Cx}{D:Addr}
theorem Inv.holds{Ga:List (Addr×Obj)}{σ:St}{H:Hp}{s:Shared}{o:Obj}(I:Inv X Ga σ H s)(f:z7 X Ga H D)(ho:s.heap.get? D=some o)(hn:∀v,o.data≠.cell v):Inv X (Ga++[(D,o)]) σ H s :=
 I.pins_of λp hp=>(mem_append.mp hp).elim (λz=>I.pin p (mem_append_right _ z)) λz=>by
  have e:p=(D,o):=by simpa using z
  subst e
  exact ⟨ho,f.1,f.2.1,f.2.2.1,hn⟩
theorem Inv.held{Ga:List (Addr×Obj)}{σ:St}{H:Hp}{s:Shared}{o:Obj}(I:Inv X (Ga++[(D,o)]) σ H s):s.heap.get? D=some o/\H D=none :=
 let q:=I.pin (D,o) (mem_append_right _ (mem_append_right _ (mem_singleton.mpr rfl)));⟨q.1,q.2.1⟩
def zb1(te:TE):TB:=λσ ns H Q=>te σ H λv H1=>∃n,v = .int n/\ns.length<3000/\Q σ (zy ns n) H1
theorem zqJ{elt:Expr}{te:TE}(hx:X.xe=λ_ _=>False)(he:PE X elt te):PB X D (emB elt (.ref D) X.env) (zb1 te):=by
 intro Ga s σ H ns Q I f hS h
 obtain ⟨o,ho,hn⟩:=hS.obj
 unfold emB
 have:=he (Ga++[(D,o)]) s σ H _ (I.holds f ho hn) h
 rw [hx] at this
 refine wpAny_bind (thn this λv s1 ⟨x,H1,I1,r1,n,e,hl,q⟩=>?_)
 subst e
 obtain ⟨tk,rfl⟩:=r1
 obtain ⟨ho1,hn1⟩:=I1.held
 have hS1:zB X.prog X.w s1.heap D ns:=hS.at λo' e=>by rw [ho] at e;cases e;exact ho1
 refine wpAny_bind (wpAny_standAt (wpAny_bind (add_int hS1 hl λh' sb hS'=>wpAny_pure ?_)))
 obtain ⟨_,g1,_,g3,g4,g5⟩:=f.to hn1
 exact ⟨σ,_,H1,(I1.unpinned (Ga:=Ga)).turned (t':=s1.toks+1) (λb o hb e=>(sb.2 b hb).trans e) hn1 g1 g3 g4 g5,hn1,hS',q⟩
def zex(W:Nat->Nat->St->List Int->Hp->Prop)(J:It)(g:TG)(tb:TB)(Fin:St->List Int->Hp->Prop):Prop :=
 ∀i m τ ns H2,W i m τ ns H2->(J.stop i H2/\Fin τ ns H2)\/(J.go i H2/\∀x H3,J.yld i H2 x H3->g x τ H3 λτ1 H4=>tb τ1 ns H4 λτ2 ns2 H5=>∃m',m'<m/\W (i+1) m' τ2 ns2 H5)
def zb0(wi:TI)(g:TG)(tb:TB):TB:=λσ ns H Q=>wi σ H λJ H1=>∃W:Nat->Nat->St->List Int->Hp->Prop,(∃m,W 0 m σ ns H1)/\zex W J g tb Q
theorem zhH{c:Bool}{elt e tg iter:Expr}{gs:List Comprehension}{sc:Scope}{pos:Pos}{d:Nat}{body:Sem Unit}{g:TG}{tb:TB}{J:It}{fp:List Addr}{it:Addr}{tn:Nat->Heap->Prop}{W:Nat->Nat->St->List Int->Hp->Prop}{Fin:St->List Int->Hp->Prop}
  (he:e = .SetComp elt gs sc pos) (ht:compTurn e d (.ref it) (.ref D) X.env=zbl e d tg iter body (.ref it) (.ref D) X.env) (hx:X.xe=λ_ _=>False) (hc:c=true->X.calm=true) (hg:PG X tg g) (hb:PB X D body tb)
  (T:zbQ c X.prog X.w X.K tg J fp it tn) (hDfp:D∉fp) (step:zex W J g tb Fin) {Ga:List (Addr×Obj)}{s:Shared}{σ:St}{H:Hp}{ns:List Int}{m:Nat} (I:Inv X Ga σ H s) (st:tn 0 s.heap) (ff:∀b∈fp,z7 X Ga H b) (fD:z7 X Ga H D)
  (hS:zB X.prog X.w s.heap D ns) (w0:W 0 m σ ns H) :
  codeAny (model X.prog X.w) X.A (.compLoop e d (.ref it) (.ref D) X.env) (λr s'=>r = .ok .next/\∃σ' ns' H',Inv X Ga σ' H' s'/\(∀b∈fp,H' b=none)/\H' D=none/\zB X.prog X.w s'.heap D ns'/\Fin σ' ns' H') s:=by
 refine zno he ht (λn s'=>∃i τ ys H',Inv X Ga τ H' s'/\tn i s'.heap/\(∀b∈fp,H' b=none)/\H' D=none/\zB X.prog X.w s'.heap D ys/\W i n τ ys H') ?_ m ⟨0,σ,ns,H,I,st,λb hb=>(ff b hb).1,fD.1,hS,w0⟩
 rintro n s4 ⟨i,τ,ys,H4,I4,st4,fr4,dn4,hS4,w4⟩
 obtain ⟨ob,dg,noc⟩:=hS4.obj
 have I4':=I4.holds (fD.to dn4) dg noc
 have ff4:∀b∈fp,z7 X (Ga++[(D,ob)]) H4 b:=λb hb=>((ff b hb).to (fr4 b hb)).more λp hp=>by
  have e:p=(D,ob):=by simpa using hp
  subst e
  exact λq=>hDfp (by have q':D=b:=q;rw [q'];exact hb)
 rcases step i n τ ys H4 w4 with ⟨stop,fin⟩|⟨go,step⟩
 ·refine thn (T.done X rfl rfl rfl hc i (Ga++[(D,ob)]) s4 τ H4 (λ_ _=>False) I4' ff4 st4 stop) λr s5 ⟨hr,I5⟩=>?_
  subst hr
  exact ⟨rfl,τ,ys,H4,I5.unpinned,fr4,dn4,hS4.at λo' e=>by rw [dg] at e;cases e;exact I5.held.1,fin⟩
 ·refine thn (T.item X rfl rfl rfl hc i (Ga++[(D,ob)]) s4 τ H4 (λ_ _=>False) I4' ff4 st4 go) λr s5 ⟨u,hr,h5⟩=>?_
  subst hr
  refine thn h5 λ_ s6 ⟨x,H6,I6,r6,y6,st6,fr6⟩=>?_
  obtain ⟨dg6,dn6⟩:=I6.held
  have all6:∀b∈D::fp,z7 X Ga H6 b:=λb hb=>by
   rcases mem_cons.mp hb with z|z
   ·subst z;exact fD.to dn6
   ·exact (ff b z).to (fr6 b z)
  have obj6:∀b∈D::fp,∃o,s6.heap.get? b=some o/\∀v,o.data≠.cell v:=λb hb=>by
   rcases mem_cons.mp hb with z|z
   ·subst z;exact ⟨_,dg6,noc⟩
   ·exact T.obj _ _ st6 b z
  have I6':=(I6.unpinned (Ga:=Ga)).pinned all6 obj6
  have hg':=hg _ s6 τ H6 x u _ I6' r6 (step x H6 y6)
  rw [hx] at hg'
  refine thn hg' λ_ s7 ⟨τ7,H7,I7,q7⟩=>?_
  have pin7:∀b o,b∈D::fp->s6.heap.get? b=some o->s7.heap.get? b=some o/\H7 b=none:=λb o hb e=>by
   have q:=I7.pin (b,o) (mem_append_right _ (mem_append_right _ (zcM hb e)))
   exact ⟨q.1,q.2.1⟩
  have I7':Inv X (Ga++zcn fp s6.heap) τ7 H7 s7:=I7.pins_of λp hp=>I7.pin p (mem_append_right _ ((mem_append.mp hp).elim (λz=>mem_append_left _ z) λz=>mem_append_right _ (by
   obtain ⟨z1,z2⟩:=zgF z
   exact zcM (mem_cons_of_mem _ z1) z2)))
  have fD7:z7 X (Ga++zcn fp s6.heap) H7 D:=(fD.to (pin7 D _ mem_cons_self dg6).2).more λp hp z=>hDfp (by rw [<- z];exact (zgF hp).1)
  have hS7:zB X.prog X.w s7.heap D ys:=hS4.at λo' e=>by rw [dg] at e;cases e;exact (pin7 D _ mem_cons_self dg6).1
  refine thn (hb _ s7 τ7 H7 ys _ I7' fD7 hS7 q7) λ_ s8 ⟨τ8,ns8,H8,I8,dn8,hS8,m',hm,w'⟩=>?_
  have pin8:∀b o,b∈fp->s6.heap.get? b=some o->s8.heap.get? b=some o/\H8 b=none:=λb o hb e=>by
   have q:=I8.pin (b,o) (mem_append_right _ (mem_append_right _ (zcM hb e)))
   exact ⟨q.1,q.2.1⟩
  refine ⟨m',hm,i+1,τ8,ns8,H8,I8.unpinned,T.keep _ _ _ st6 λb hb o e=>(pin8 b o hb e).1,λb hb=>?_,dn8,hS8,w'⟩
  obtain ⟨o,e,_⟩:=T.obj _ _ st6 b hb
  exact (pin8 b o hb e).2
theorem pb_loop{c:Bool}{elt e tg iter:Expr}{gs:List Comprehension}{sc:Scope}{pos:Pos}{d:Nat}{body:Sem Unit}{wi:TI}{g:TG}{tb:TB}
  (he:e = .SetComp elt gs sc pos) (hd:(clausesOf e)[d]?=some ⟨tg,iter,[],0⟩) (ht:∀it,compTurn e d (.ref it) (.ref D) X.env=zbl e d tg iter body (.ref it) (.ref D) X.env) (hx:X.xe=λ_ _=>False) (hm:X.A.mark none=X.A) (hc:c=true->X.calm=true) (hi:PIc c X tg iter wi) (hg:PG X tg g) (hb:PB X D body tb)
  (hs:∀x,foldedSetIterable iter X.env x=pure x):PB X D (inB e d iter (.ref D) X.env) (zb0 wi g tb):=by
 intro Ga s σ H ns Q I f hS h
 obtain ⟨o,ho,hn⟩:=hS.obj
 unfold inB
 have hi':=hi (Ga++[(D,o)]) s σ H _ (I.holds f ho hn) h
 rw [hx] at hi'
 refine wpAny_bind (thn hi' λv s1 h1=>wpAny_bind (wpAny_standAt ?_))
 rw [hs]
 refine wpAny_bind (wpAny_pure (wpAny_bind (wpAny_holding (thn h1 λitv s2 h2=>?_))))
 obtain ⟨it,fp,tn,J,H2,e',I2,T,st2,f2,W,⟨m0,w0⟩,step⟩:=h2
 subst e'
 obtain ⟨ho2,hn2⟩:=I2.held
 have hDfp:D∉fp:=λz=>(f2 D z).2.2.2.2.2 (D,o) (mem_append_right _ (mem_append_right _ (mem_singleton.mpr rfl))) rfl
 have hS2:zB X.prog X.w s2.heap D ns:=hS.at λo' e=>by rw [ho] at e;cases e;exact ho2
 have ff:∀b∈fp,z7 X Ga H2 b:=λb hb=>by
  obtain ⟨g0,g1,g2,g3,g4,g5⟩:=f2 b hb
  exact ⟨g0,g1,g2,g3,g4,λp hp=>g5 p ((mem_append.mp hp).elim (mem_append_left _) λz=>mem_append_right _ (mem_append_left _ z))⟩
 have L:=zhH he (ht it) hx hc hg hb T hDfp step (I2.unpinned (Ga:=Ga)) st2 ff (f.to hn2) hS2 w0
 refine wpAny_bind (wpAny_runOwn ?_)
 rw [hm]
 have L':=codeAny_mono L (R':=λr s'=>match r with | .ok f=>wpAny (model X.prog X.w) X.A (pure ()) (λ_ s'=>BP X D Ga Q s') (λ_ _=>False) s' | .error e=>cameBackBy (model X.prog X.w) X.A X.env (λ_ _=>False) e s') λr s' ⟨hr,σ',ns',H',a,b,c,d,q⟩=>by
  subst hr
  exact wpAny_pure ⟨σ',ns',H',a,c,d,q⟩
 exact ziB he hd L' (T.self _ 0 _ _ _ st2 L')
def zeH(tb:TB):TB:=λσ ns H Q=>tb σ ns H Q\/∃a kvs,H a=some (.dK kvs)/\∀o,tb σ ns (upd H a (.frz o (.dK kvs))) λσ' ns' H'=>zby a kvs H' (Q σ' ns')
theorem zmd{m:Sem Unit}{tb:TB}(h:PB X D m tb):PB X D m (zeH tb):=by
 intro Ga s σ H ns Q I f hS hq
 rcases hq with hq|⟨a,kvs,e,q⟩
 ·exact h Ga s σ H ns Q I f hS hq
 obtain ⟨h5,o,I'⟩:=I.freeze e
 have Da:D≠a:=λz=>by have:=f.1;rw [z,e] at this;cases this
 refine thn (h Ga s σ _ ns _ I' (f.to (by rw [ze Da];exact f.1)) hS (q o)) λ_ s1 ⟨σ1,ns1,H1,I1,d1,S1,o1,e1,q1⟩=>?_
 exact ⟨σ1,ns1,_,I1.thaw e1 h5,by rw [ze Da];exact d1,S1,q1⟩
end
def zbf(P:Program)(w:World)(D:Addr)(ns:List Int):HO:=.ext λh=>zB P w h D ns
theorem zjJ{P:Program}{w:World}{H:Hp}{h:Heap}{D:Addr}{ns:List Int}(x:zB P w h D ns):zX P w H h D (zbf P w D ns) :=
 ⟨x,let ⟨o,e,_⟩:=x.obj;⟨o,e⟩,λh1 h2 x1 k=>x1.at k⟩
theorem zoV{P:Program}{w:World}{H:Hp}{h:Heap}{D:Addr}{ns:List Int}(x:HOk P w H h)(e:H D=some (zbf P w D ns)):zB P w h D ns:=(x D _ e).1
def tSC(P:Program)(w:World)(ix:List (Option Nat))(wi:TI)(g:TG)(tb:TB):TE:=λσ H Q=>wi σ H λJ H1=>∃W:Nat->Nat->St->List Int->Hp->Prop,(∃m,W 0 m (zaQ ix σ) [] H1) /\
 zex W J g tb λ_ ns H2=>∀D,H2 D=none->D≠sysModules->Q (.ref D) (upd H2 D (zbf P w D ns))
theorem zlt{c c1 c2:Bool}{X:Cx}{elt t0 i0 t1 i1 t2 i2:Expr}{sc:Scope}{pos:Pos}{N':List Str}{ix:List (Option Nat)}{wi w1 w2:TI}{g g1 g2:TG}{te:TE}(hc:c=true->X.calm=true)(hc1:c1=true->X.calm=true)(hc2:c2=true->X.calm=true)(L:za2 X sc N' ix)(hi:PIc c X t0 i0 wi)
  (hg:∀Ga C fp s H,PG (zN X sc N' Ga C fp s H) t0 g) (hi1:∀Ga C fp s H,PIc c1 (zN X sc N' Ga C fp s H) t1 i1 w1) (hg1:∀Ga C fp s H,PG (zN X sc N' Ga C fp s H) t1 g1)
  (hi2:∀Ga C fp s H,PIc c2 (zN X sc N' Ga C fp s H) t2 i2 w2) (hg2:∀Ga C fp s H,PG (zN X sc N' Ga C fp s H) t2 g2) (he:∀Ga C fp s H,PE (zN X sc N' Ga C fp s H) elt te)
  (hs:∀x,foldedSetIterable i0 X.env x=pure x:=by intro _;rfl) (hs1:∀env x,foldedSetIterable i1 env x=pure x:=by intro _ _;rfl) (hs2:∀env x,foldedSetIterable i2 env x=pure x:=by intro _ _;rfl) :
  PE X (.SetComp elt [⟨t0,i0,[],0⟩,⟨t1,i1,[],0⟩,⟨t2,i2,[],0⟩] sc pos) (tSC X.prog X.w ix wi g (zeH (zb0 w1 g1 (zb0 w2 g2 (zb1 te))))):=by
 intro Ga s σ H Q I h
 rw [arm_eval_SetComp]
 have hclos:closureFor sc X.env=pure (zar X.env.cells sc.names []):=ziE λy hy hk=>I.ok.has y.1 (.inl (L.free y hy hk).1)
 refine wpAny_comprehension_free (use:=none) rfl hs hclos L.kind L.names (thn (hi Ga s σ H _ I h) λv s1 h1=>thn h1 λitv s2 h2=>?_)
 obtain ⟨it,fp,tn,J,H2,e,I2,T,st2,f2,W,⟨m0,w0⟩,turn⟩:=h2
 subst e
 refine zkm λon hnew nocn=>wpAny_newFunctionEnv L.cell (by intro y hy;simp at hy) (λh₁ hns₁ hsb₁=>?_) L.kind
 dsimp only at hns₁ hsb₁ ⊢
 generalize hH2:s2.heap.push on=G2 at hns₁ hsb₁ hnew ⊢
 have hC:G2.objs.size=s2.heap.objs.size+1:=by rw [<- hH2,size_push]
 have hDC:s2.heap.objs.size≠G2.objs.size:=by rw [hC];exact ne_of_lt (lt_succ_self _)
 have hCle:s2.heap.objs.size<=G2.objs.size:=by rw [hC];exact le_succ _
 have below:∀b,b<s2.heap.objs.size->b≠G2.objs.size/\b≠s2.heap.objs.size:=λb hb=>⟨by rw [hC];exact ne_of_lt (lt_succ_of_lt hb),ne_of_lt hb⟩
 have old:∀b o,s2.heap.get? b=some o->h₁.get? b=some o:=λb o e=>hsb₁.extBut b o (below b (lt_size e)).1 (get?_push_of_some _ (hH2 ▸ get?_push_of_some _ e))
 have hacc:zB X.prog X.w h₁ s2.heap.objs.size []:=hnew.at λo e=>hsb₁.extBut _ _ hDC (get?_push_of_some _ e)
 have fl:∀b∈fp,b<s2.heap.objs.size:=λb hb=>by
  obtain ⟨o,e,_⟩:=T.obj 0 _ st2 b hb
  exact lt_size e
 have hDfp:s2.heap.objs.size∉fp:=λz=>lt_irrefl _ (fl _ z)
 generalize hD:s2.heap.objs.size=D at *
 generalize hCe:G2.objs.size=C at *
 have cof:∀x c,(zar X.env.cells sc.names []).lookup x=some c->X.env.cells.lookup x=some c:=λx c h=>by
  rcases zd7 h with h|h
  ·cases h
  ·exact h.1
 have st1:tn 0 h₁:=T.keep _ _ _ st2 λb _ o e=>old b o e
 have I3:Inv (zN X sc N' Ga C fp s2 H2) [] (zaQ ix σ) H2 { s2 with heap:=h₁,toks:=s2.toks+([]:List (Str×Value)).length }:=zhW I2 L f2 (λb hb=>by rw [hD];exact fl b hb) (by rw [hD];exact hCle) hns₁ old
 have D0:H2 D=none:=I2.hok.fresh (le_of_eq hD)
 have fD:z7 (zN X sc N' Ga C fp s2 H2) [] H2 D:=by
  refine ⟨D0,hDC,λz=>?_,.inr (le_of_eq hD),λx c hx z=>?_,λp hp z=>?_⟩
  ·obtain ⟨_,o,ho,_⟩:=I2.stack.mem (show D∈frs X.stack from z)
   exact absurd (lt_size ho) (by rw [hD];exact lt_irrefl _)
  ·obtain ⟨v,q⟩:=I2.cell x c (cof x c hx)
   have:=q.lt
   rw [z,hD] at this
   exact lt_irrefl _ this
  ·have hp':p∈X.pn++Ga:=by
    have:p∈(X.pn++Ga)++[]:=hp
    simpa using this
   have:=lt_size (I2.pin p hp').1
   rw [z,hD] at this
   exact lt_irrefl _ this
 have fF:∀b∈fp,z7 (zN X sc N' Ga C fp s2 H2) [] H2 b:=λb hb=>by
  obtain ⟨g0,g1,g2,g3,g4,g5⟩:=f2 b hb
  refine ⟨g0,(below b (fl b hb)).1,λz=>?_,.inl hb,λx c hx=>g4 x c (cof x c hx),λp hp=>g5 p ?_⟩
  ·rcases mem_cons.mp (I2.stkSub b z) with e|e
   ·exact g1 e
   ·exact g2 e
  ·have:p∈(X.pn++Ga)++[]:=hp
   simpa using this
 generalize hE:Expr.SetComp elt [⟨t0,i0,[],0⟩,⟨t1,i1,[],0⟩,⟨t2,i2,[],0⟩] sc pos=E
 have hb:=zmd <| pb_loop (X:=zN X sc N' Ga C fp s2 H2) (D:=D) (c:=c1) hE.symm (d:=1) (by rw [<- hE];rfl) (λ_=>zrj hE.symm) rfl rfl hc1 (hi1 Ga C fp s2 H2) (hg1 Ga C fp s2 H2) (pb_loop (c:=c2) hE.symm (d:=2) (by rw [<- hE];rfl) (λ_=>zsG hE.symm) rfl rfl hc2 (hi2 Ga C fp s2 H2) (hg2 Ga C fp s2 H2) (zqJ rfl (he Ga C fp s2 H2)) (hs2 _)) (hs1 _)
 have loop:=zhH (X:=zN X sc N' Ga C fp s2 H2) hE.symm (zqW hE.symm) rfl hc (hg Ga C fp s2 H2) hb T hDfp turn I3 st1 fF fD hacc w0
 have loop':=codeAny_mono loop (R':=compPost (model X.prog X.w) X.A X.xe none (EP X Ga σ Q) (.ref D) C) λr s5 ⟨hr,τ5,ns,H5,I5,fr5,dn5,hS5,fin⟩=>by
  subst hr
  obtain ⟨m5,hn5,_⟩:=id I5.loc
  refine ⟨m5,hn5,λh' hsb=>?_⟩
  have kb:∀b u,b≠C->s5.heap.get? b=some u->h'.get? b=some u:=λb u hb e=>(hsb.2 b hb).trans e
  have hlt:∀b o,s2.heap.get? b=some o->b≠C/\b≠D:=λb o e=>by
   have:=lt_size e
   rw [hD] at this
   exact below b this
  have nsm:D≠sysModules:=by have h:mainGlobals<s2.heap.objs.size:=(I2.mod.glob.keeps I2.bk).lt;rw [hD] at h;exact ne_of_gt (lt_trans (by decide) h)
  have U:=I5.base
  refine ⟨.ref D,upd H5 D (zbf X.prog X.w D ns),I2.call' (s':={ s5 with heap:=h' }) (ch:=fp) I5.os ⟨λb o e n hb hx=>kb b o (hlt b o e).1 (U.keep b o e n hb hx),λb o e n hb hx=>?_,λb o e n hx=>?_,λb o e hx=>?_,λb xs e=>?_,λb o u e=>?_,λb ps e=>?_⟩ ?_ I5.bare (λb hb=>?_),rfl,fin D dn5 nsm⟩
  ·obtain ⟨sl,q⟩:=U.slot b o e n hb hx
   exact ⟨sl,kb b _ (hlt b o e).1 q⟩
  ·rw [ze (hlt b o e).2]
   exact U.free b o e n hx
  ·obtain ⟨o',q⟩:=U.there b o e hx
   exact ⟨o',kb b _ (hlt b o e).1 q⟩
  ·have q:=U.tups b xs e
   rw [ze (zM q dn5)]
   exact q
  ·have q:=U.frzs b o u e
   rw [ze (zM q dn5)]
   exact q
  ·obtain ⟨more,q⟩:=U.tbls b ps e
   exact ⟨more,by rw [ze (zM q dn5)];exact q⟩
  ·exact (I5.hok.but I5.free kb).add dn5 (zjJ (hS5.at λo e=>kb D o hDC e))
  ·obtain ⟨_,g1,g2,g3,g4,g5⟩:=f2 b hb
   exact ⟨g3,g1,g4,g5⟩
 exact ziB hE.symm (by rw [<- hE];rfl) loop' (T.self _ 0 _ _ _ st1 loop')
theorem zh6:Manifest.owners.lookup (String.ofList ['r','o','t','a','r','e','t','i','_','t','e','s'].reverse)=some Manifest.sig_set_iterator:=by kernel_rfl
theorem zdq:Slot "set_iterator" "__next__" "set_iterator.__next__" :=
 .of (owner:="set_iterator") (n:="__next__") (by rw [typeLookup_type,builtinLookup_eq_fast];kernel_rfl) (f!"") (f!"") (f!"")
  (by first|exact .inl (f!"")|exact .inr (f!"")) (by rw [isSubtype_type];kernel_rfl)
theorem zqf:entryFor table "set_iterator.__next__"=some Builtin.«set_iterator.__next__»:=entryFor_of_tree (by kernel_rfl)
theorem zs4(a:Value):argsOk "set_iterator.__next__" ⟨[a],[]⟩:=by
 unfold argsOk;rw [signature?_of (id:="set_iterator.__next__") (n:=['_','_','t','x','e','n','_','_']) (o:=['r','o','t','a','r','e','t','i','_','t','e','s']) (by kernel_rfl) zh6];kernel_rfl
theorem zhm:Slot "set_iterator" "__iter__" "set_iterator.__iter__" :=
 .of (owner:="set_iterator") (n:="__iter__") (by rw [typeLookup_type,builtinLookup_eq_fast];kernel_rfl) (f!"") (f!"") (f!"")
  (by first|exact .inl (f!"")|exact .inr (f!"")) (by rw [isSubtype_type];kernel_rfl)
theorem zqk:entryFor table "set_iterator.__iter__"=some Builtin.«dict_keyiterator.__iter__»:=entryFor_alias (id':="dict_keyiterator.__iter__") (by kernel_rfl) rfl (f!"") (by kernel_rfl)
theorem zrI(a:Value):argsOk "set_iterator.__iter__" ⟨[a],[]⟩:=by
 unfold argsOk;rw [signature?_of (id:="set_iterator.__iter__") (n:=['_','_','r','e','t','i','_','_']) (o:=['r','o','t','a','r','e','t','i','_','t','e','s']) (by kernel_rfl) zh6];kernel_rfl
theorem zs1:entryFor table "set.__iter__"=some Builtin.«frozenset.__iter__»:=entryFor_alias (id':="frozenset.__iter__") (by kernel_rfl) rfl (f!"") (by kernel_rfl)
section
variable {prog:Program}{w:World}{A:Around}{E:Value->Shared->Prop}{s:Shared}
theorem zo6{src:Source}{n:Nat}{Q:Nat->Shared->Prop}(hn:n≠0)(h:∀i d,i<n->Q i { s with drawn:=d }):wpAny (model prog w) A (choose src n) Q E s:=by
 intro Γ p hΓ
 unfold choose
 rw [Sem.wp_choose]
 exact ⟨hn,h _ _ (Nat.mod_lt _ (Nat.pos_of_ne_zero hn))⟩
theorem zgy{α:Type}:∀{xs:List α}{i:Nat}(h:i<xs.length),(xs[i]::xs.eraseIdx i).Perm xs
 | x::xs,0,h=>Perm.refl _
 | x::xs,i+1,h=>by
  have:=zgy (xs:=xs) (i:=i) (by simpa using h)
  exact (Perm.swap _ _ _).trans (this.cons x)
theorem ziJ{α:Type}:∀(n:Nat)(xs:List α)(s:Shared)(Q:List α->Shared->Prop),xs.length=n->(∀l d,l.Perm xs->Q l { s with drawn:=d })->wpAny (model prog w) A (drawOrder n xs) Q E s
 | 0,xs,s,Q,hl,h=>by
  have:xs=[]:=length_eq_zero_iff.mp hl
  subst this
  exact wpAny_pure (h [] s.drawn (Perm.refl _))
 | n+1,[],s,Q,hl,h=>by cases hl
 | n+1,x::xs,s,Q,hl,h=>by
  unfold drawOrder
  refine wpAny_bind (zo6 (by simp) λi d hi=>?_)
  rw [List.getElem?_eq_getElem hi]
  dsimp only
  have le:((x::xs).eraseIdx i).length=n:=by rw [List.length_eraseIdx_of_lt hi];simpa using hl
  refine wpAny_bind (ziJ n _ _ _ le λl d' p=>wpAny_pure ?_)
  exact h _ _ ((p.cons _).trans (zgy hi))
def itO(a:Addr)(n ep:Nat)(first:Value)(i:Nat):Obj:={ cls:=.type "set_iterator",data:=.fields #[first,.int i 0,.ref a,.int n 0,.int ep 0] }
structure SIt(h:Heap)(I a:Addr)(n ep:Nat)(first:Value)(i:Nat):Prop where
 ex:∃o,h.get? I=some o/\o.cls = .type "set_iterator"/\o.data = .fields #[first,.int i 0,.ref a,.int n 0,.int ep 0]
theorem SIt.at{h h':Heap}{I a:Addr}{n ep:Nat}{first:Value}{i:Nat}(x:SIt h I a n ep first i)(k:∀o,h.get? I=some o->h'.get? I=some o):SIt h' I a n ep first i:=let ⟨o,ho,r⟩:=x.ex;⟨⟨o,k o ho,r⟩⟩
theorem SIt.typ{I a:Addr}{n ep:Nat}{first:Value}{i:Nat}(x:SIt s.heap I a n ep first i):s.TypeIs (.ref I) "set_iterator":=let ⟨o,ho,hc,_⟩:=x.ex;⟨o,ho,hc⟩
section
variable {a:Addr}{o:Obj}{es:Array (Int×Value)}{ep:Nat}{t:SetTable}
theorem zkk{Q:Value->Shared->Prop}(ho:s.heap.get? a=some o)(hex:o.ExactSet)(hd:o.data = .set es ep t)(hf:t.fits es.size=true)(hz:es.size<=sizeLine)
  (h1:(btW w=true\/t.plain=true\/es.size<=1)->Q (.ref s.heap.objs.size) { s with heap:=s.heap.push (itO a es.size ep (.int 0 0) 0) })
  (h2:∀(ps:List Nat) d,btW w=false->ps.Perm (List.range es.size)->Q (.ref (s.heap.objs.size+1)) { s with heap:=(s.heap.push { cls:=.type "tuple",data:=.seq (ps.map λ(i:Nat)=>rawInt i).toArray }).push (itO a es.size ep (.ref s.heap.objs.size) 0),drawn:=d }) :
  wpAny (model prog w) A (pyIter (.ref a)) Q E s:=by
 have hT:s.TypeIs (.ref a) "set":=⟨o,ho,hex.1⟩
 refine wpAny_pyIter_slot hT F.slot_set_iter (wpAny_call_entry F.slot_set_iter hT zs1 ?_ (F.args_set_iter_1 _))
 unfold Builtin.«frozenset.__iter__» Builtin.Frozenset.slot0 slotArgs
 simp only [List.isEmpty_nil,Bool.not_true,false_eq_true,↓reduceIte,bind_assoc,length_nil,bne_self_eq_false]
 unfold Builtin.Frozenset.addrOf Builtin.Frozenset.sizeOf
 refine wpAny_bind (wpAny_pure ?_)
 try dsimp only
 refine wpAny_bind (wpAny_pure ?_)
 refine wpAny_bind (wpAny_bind (wpAny_setEntries_of ho hd hf (wpAny_pure ?_)))
 unfold setDrawn
 refine wpAny_bind (wpAny_bind (wpAny_setState_of ho hd hf ?_))
 dsimp only
 unfold setsByText
 refine wpAny_bind (wpAny_bind (wpAny_askSetting (wpAny_pure (wpAny_pure ?_))))
 show wpAny _ _ (if (!btW w&&(!t.plain&&decide (es.size>1)))=true then _ else _) _ _ _
 by_cases c:(!btW w&&(!t.plain&&decide (es.size>1)))=true
 ·rw [if_pos c]
  simp only [and_eq_true,not_eq_true',decide_eq_true_eq] at c
  refine wpAny_bind (ziJ es.size _ s _ List.length_range λps d pm=>wpAny_bind (wpAny_newTuple ?_ (by rw [length_map,pm.length_eq,List.length_range];exact hz)))
  have hk:((s.heap.push { cls:=.type "tuple",data:=.seq (ps.map λ(i:Nat)=>rawInt i).toArray }).get? a)=some o:=get?_push_of_some _ ho
  unfold setEpoch
  refine wpAny_bind (wpAny_bind (wpAny_setState_of hk hd hf (wpAny_pure ?_)))
  refine wpAny_bind (wpAny_newObj_type (wpAny_pure ⟨_,rfl,"set_iterator",_,⟨_,get?_push_size _ rfl,rfl⟩,zdq.lookup,?_⟩))
  have:=h2 ps d c.1 pm
  rw [<- size_push] at this
  exact this
 ·rw [if_neg c]
  have c':btW w=true\/t.plain=true\/es.size<=1:=by
   cases e1:btW w
   ·cases e2:t.plain
    ·rw [e1,e2] at c
     right;right
     simpa using c
    ·right;left;rfl
   ·left;rfl
  refine wpAny_bind (wpAny_pure ?_)
  unfold setEpoch
  refine wpAny_bind (wpAny_bind (wpAny_setState_of ho hd hf (wpAny_pure ?_)))
  exact wpAny_bind (wpAny_newObj_type (wpAny_pure ⟨_,rfl,"set_iterator",_,⟨_,get?_push_size _ rfl,rfl⟩,zdq.lookup,h1 c'⟩))
def zaP(w:World)(a:Addr)(es:Array (Int×Value))(ep:Nat):Array (Int×Value):=if btW w=true then pickOrder (w.params.setOrder a ep) es else es
theorem zkI{k i:Nat}{Q:Option (Value×Nat)->Shared->Prop}(ho:s.heap.get? a=some o)(hd:o.data = .set es ep t)(hf:t.fits es.size=true)(g:zaY (btW w) t)(c:btW w=true\/t.plain=true\/es.size<=1)(hb:btW w=false->SetTable.below t.place k=i)
  (h1:∀e k',(zaP w a es ep)[i]?=some e->(btW w=false->SetTable.below t.place k'=i+1)->Q (some (e.2,k')) s) (h2:(zaP w a es ep)[i]?=none->Q none s) :
  wpAny (model prog w) A (setNext a k i ep) Q E s:=by
 unfold setNext
 refine wpAny_bind (wpAny_setState_of ho hd hf ?_)
 dsimp only
 unfold setsByText
 refine wpAny_bind (wpAny_bind (wpAny_askSetting (wpAny_pure ?_)))
 show wpAny _ _ (if btW w=true then _ else _) _ _ _
 have hpl:t.place.size=es.size:=by
  unfold SetTable.fits at hf
  simp only [and_eq_true,beq_iff_eq] at hf
  exact hf.1
 cases hbt:btW w
 ·rw [if_neg Bool.false_ne_true]
  have c2:t.plain=true\/es.size<=1:=c.resolve_left (by rw [hbt];exact Bool.false_ne_true)
  show wpAny _ _ (if (!t.plain&&decide (es.size>1))=true then _ else _) _ _ _
  rw [if_neg (show ¬ ((!t.plain&&decide (es.size>1))=true) from by
   simp only [and_eq_true,not_eq_true',decide_eq_true_eq,not_and]
   intro h3
   rcases c2 with h4|h4
   ·rw [h3] at h4;cases h4
   ·omega)]
  have hled:t.led=true:=by rw [g.led,hbt];rfl
  have eo:zaP w a es ep=es:=by unfold zaP;rw [if_neg (by rw [hbt];exact Bool.false_ne_true)]
  rw [eo] at h1 h2
  refine wpAny_bind ?_
  show wpAny _ _ (if (!t.led && !es.isEmpty)=true then _ else _) _ _ _
  rw [if_neg (show ¬ ((!t.led && !es.isEmpty)=true) from by rw [hled];simp)]
  refine wpAny_pure (wpAny_pure ?_)
  rw [hb hbt]
  cases e:es[i]? with
  | none=>exact h2 e
  | some x =>
   have hi:i<es.size:=(Array.getElem?_eq_some_iff.mp e).1
   have e2:t.place[i]?=some t.place[i]:=Array.getElem?_eq_getElem (by omega)
   rw [e2]
   refine h1 x _ e λ_=>?_
   have B:=zgw g.ris (t.place[i]+1)
   have gi:t.place.getD i 0=t.place[i]:=by simp [getD,show i<t.place.size by omega]
   have lo:i<SetTable.below t.place (t.place[i]+1):=by
    rcases Nat.lt_or_ge i (SetTable.below t.place (t.place[i]+1)) with z|z
    ·exact z
    ·have:=B.hi i z (by omega)
     omega
   rcases Nat.lt_or_ge (i+1) (SetTable.below t.place (t.place[i]+1)) with z|z
   ·have l1:=B.lo (i+1) z
    have l2:=g.ris i (i+1) (by omega) (by have:=B.le;omega)
    omega
   ·omega
 ·rw [if_pos rfl]
  rw [if_neg (by simp)]
  unfold setWalk
  refine wpAny_bind (wpAny_bind (wpAny_setState_of ho hd hf ?_))
  dsimp only
  unfold setsByText
  refine wpAny_bind (wpAny_bind (wpAny_askSetting (wpAny_pure ?_)))
  show wpAny _ _ (if btW w=true then _ else _) _ _ _
  rw [if_pos hbt]
  refine wpAny_bind (wpAny_askSetting (wpAny_pure (wpAny_pure ?_)))
  have eo:zaP w a es ep=pickOrder (w.params.setOrder a ep) es:=by unfold zaP;rw [if_pos hbt]
  rw [eo] at h1 h2
  show Q (((pickOrder (w.params.setOrder a ep) es)[i]?).map λe=>(e.2,k)) s
  cases e:(pickOrder (w.params.setOrder a ep) es)[i]? with
  | none=>exact h2 e
  | some x=>exact h1 x k e λz=>by rw [hbt] at z;cases z
end
end
section
variable {prog:Program}{w:World}{A:Around}{E:Value->Shared->Prop}{s:Shared}
variable {a I:Addr}{o:Obj}{es:Array (Int×Value)}{ep:Nat}{t:SetTable}{i:Nat}
theorem SIt.set0{n k':Nat}{first:Value}(x:SIt s.heap I a n ep first i):∀h':Heap,h'=s.heap.update I (mapFields (·.setIfInBounds 0 (rawInt k')))->SIt h' I a n ep (.int k' 0) i/\SameBut I s.heap h':=λh' e=>by
 subst e
 obtain ⟨o,ho,hc,hd⟩:=x.ex
 exact ⟨⟨⟨_,get?_update_self _ ho (Obj.isFreed_of_fields (data_mapFields hd _)),(Obj.cls_mapFields ..).trans hc,by rw [data_mapFields hd];simp [rawInt]⟩⟩,SameBut.update ..⟩
theorem SIt.set1{n:Nat}{first:Value}(x:SIt s.heap I a n ep first i):∀h':Heap,h'=s.heap.update I (mapFields (·.setIfInBounds 1 (rawInt ((i:Int)+1))))->SIt h' I a n ep first (i+1)/\SameBut I s.heap h':=λh' e=>by
 subst e
 obtain ⟨o,ho,hc,hd⟩:=x.ex
 exact ⟨⟨⟨_,get?_update_self _ ho (Obj.isFreed_of_fields (data_mapFields hd _)),(Obj.cls_mapFields ..).trans hc,by rw [data_mapFields hd];simp [rawInt]⟩⟩,SameBut.update ..⟩
theorem ziO{first:Value}{Q:Option Value->Shared->Prop}(hit:SIt s.heap I a es.size ep first i)(ho:s.heap.get? a=some o)(hd:o.data = .set es ep t)(hf:t.fits es.size=true)
  (h:wpAny (model prog w) A.in1 (match first with
   | .int slot _=>do
    match<-setNext a slot.toNat i ep with
    | some (x,next) =>
     setField (.ref I) 0 (rawInt next)
     setField (.ref I) 1 (rawInt ((i:Int)+1))
     ret x
    | none=>setField (.ref I) 2 .none;raiseNew (<- newExc (.type "StopIteration") [])
   | _=>do
    let some places<-seqItems? first|unsupported "internal:set_iterator"
    match places[i]? with
    | some (.int place _) =>
     let x<-setNextDrawn a place.toNat ep
     setField (.ref I) 1 (rawInt ((i:Int)+1))
     ret x
    | some _=>unsupported "internal:set_iterator"
    | none=>setField (.ref I) 0 (rawInt 0);setField (.ref I) 2 .none;raiseNew (<- newExc (.type "StopIteration") []))
   (λfin s'=>∃v,fin = .done (.ret v)/\Q (some v) s') (λe s'=>wpAny (model prog w) A (do if<-isInstance e (.type "StopIteration") then pure none else throw e) Q E s') s) :
  wpAny (model prog w) A (pyNext (.ref I)) Q E s:=by
 obtain ⟨oi,hoi,hci,hdi⟩:=hit.ex
 unfold pyNext
 refine wpAny_bind (wpAny_attempt (wpAny_callSpecial?_slot (name:=Str.ofString "__next__") hit.typ zdq (wpAny_call_entry zdq hit.typ zqf ?_ (zs4 _))))
 unfold Builtin.«set_iterator.__next__»
 refine wpAny_bind (wpAny_pure ?_)
 refine wpAny_bind (wpAny_fieldsOf hoi hdi ?_)
 dsimp only
 refine wpAny_bind (wpAny_setEntries_of ho hd hf ?_)
 rw [if_neg (by simp)]
 simp only [Int.toNat_natCast]
 refine wpAny_mono h ?_ ?_
 ·rintro fin s' ⟨v,rfl,q⟩
  exact ⟨_,rfl,wpAny_pure q⟩
 ·intro e s' q
  exact q
theorem zh8{Q:Option Value->Shared->Prop}(hh:A.handled=none){h1:Heap}(hk:ExtBut I s.heap h1)(hQ:∀h',ExtBut I s.heap h'->Q none { s with heap:=h' }) :
  wpAny (model prog w) A.in1 (do raiseNew (<- newExc (.type "StopIteration") []):Sem Fin) (λfin s'=>∃v,fin = .done (.ret v)/\Q (some v) s') (λe s'=>wpAny (model prog w) A (do if<-isInstance e (.type "StopIteration") then pure none else throw e) Q E s') { s with heap:=h1 }:=by
 refine wpAny_bind ?_
 simp only [newExc,newTuple]
 refine wpAny_bind (wpAny_newObj_type ?_ (by size_fits))
 refine wpAny_bind (m:=firstArgMember _ _) (wpAny_of_eq (a:=Value.none) (by first|rfl|(simp only [firstArgMember];rfl)) ?_)
 refine wpAny_newObj_type ?_ (by size_fits)
 simp only [raiseNew]
 refine wpAny_bind (wpAny_handled ?_)
 rw [show A.in1.handled=none from hh]
 refine wpAny_bind (wpAny_pure (wpAny_throw ?_))
 refine wpAny_bind (wpAny_isInstance (T:="StopIteration") (b:=true) ⟨_,get?_push_size _ rfl,rfl⟩ isSubtype_stop ?_)
 exact wpAny_pure (hQ _ ((hk.push _).push _))
theorem zh3{k:Nat}{Q:Option Value->Shared->Prop}(hh:A.handled=none)(hit:SIt s.heap I a es.size ep (.int k 0) i)(ho:s.heap.get? a=some o)(hd:o.data = .set es ep t)(hf:t.fits es.size=true)(g:zaY (btW w) t)(c:btW w=true\/t.plain=true\/es.size<=1)(hb:btW w=false->SetTable.below t.place k=i)
  (h1:∀e k' h',(zaP w a es ep)[i]?=some e->(btW w=false->SetTable.below t.place k'=i+1)->SIt h' I a es.size ep (.int k' 0) (i+1)->SameBut I s.heap h'->Q (some e.2) { s with heap:=h' })
  (h2:(zaP w a es ep)[i]?=none->∀h',ExtBut I s.heap h'->Q none { s with heap:=h' }):wpAny (model prog w) A (pyNext (.ref I)) Q E s:=by
 refine ziO hit ho hd hf ?_
 dsimp only
 refine wpAny_bind (zkI ho hd hf g c (by simpa using hb) (λe k' he hk'=>?_) λhe=>?_)
 ·dsimp only
  obtain ⟨oi,hoi,hci,hdi⟩:=hit.ex
  refine wpAny_bind (wpAny_setField hoi hdi (by simp) ?_)
  obtain ⟨x1,sb1⟩:=hit.set0 (k':=k') _ rfl
  obtain ⟨oj,hoj,hcj,hdj⟩:=x1.ex
  refine wpAny_bind (wpAny_setField hoj hdj (by simp) ?_)
  obtain ⟨x2,sb2⟩:=SIt.set1 (s:={ s with heap:=s.heap.update I (mapFields (·.setIfInBounds 0 (rawInt k'))) }) x1 _ rfl
  exact wpAny_pure ⟨_,rfl,h1 e k' _ he hk' x2 (sb1.trans sb2)⟩
 ·dsimp only
  obtain ⟨oi,hoi,hci,hdi⟩:=hit.ex
  refine wpAny_bind (wpAny_setField hoi hdi (by simp) ?_)
  exact zh8 hh (SameBut.update ..).extBut (h2 he)
theorem zia{T:Addr}{ot:Obj}{c:Nat}{ps:List Nat}{Q:Option Value->Shared->Prop}(hh:A.handled=none)(hit:SIt s.heap I a es.size ep (.ref T) i)(ho:s.heap.get? a=some o)(hd:o.data = .set es ep t)(hf:t.fits es.size=true)(hT:s.heap.get? T=some ot)(htd:ot.data = .seq (ps.map λ(i:Nat)=>rawInt i).toArray c)(pm:ps.Perm (List.range es.size))
  (h1:∀p e h',ps[i]?=some p->es[p]?=some e->SIt h' I a es.size ep (.ref T) (i+1)->SameBut I s.heap h'->Q (some e.2) { s with heap:=h' })
  (h2:ps[i]?=none->∀h',ExtBut I s.heap h'->Q none { s with heap:=h' }):wpAny (model prog w) A (pyNext (.ref I)) Q E s:=by
 refine ziO hit ho hd hf ?_
 dsimp only
 refine wpAny_bind (wpAny_seqItems hT htd ?_)
 dsimp only
 obtain ⟨oi,hoi,hci,hdi⟩:=hit.ex
 rw [List.getElem?_toArray,getElem?_map]
 cases e:ps[i]? with
 | none =>
  dsimp only [Option.map_none]
  refine wpAny_bind (wpAny_setField hoi hdi (by simp) ?_)
  obtain ⟨x1,sb1⟩:=hit.set0 (k':=0) _ rfl
  obtain ⟨oj,hoj,hcj,hdj⟩:=x1.ex
  refine wpAny_bind (wpAny_setField hoj hdj (by simp) ?_)
  exact zh8 (s:=s) (I:=I) hh (sb1.trans (SameBut.update ..)).extBut (h2 e)
 | some p =>
  have hp:p<es.size:=by
   have:=pm.mem_iff.mp (mem_of_getElem? e)
   simpa using this
  have he:es[p]?=some es[p]:=Array.getElem?_eq_getElem hp
  dsimp only [Option.map_some,rawInt]
  unfold setNextDrawn
  refine wpAny_bind (wpAny_bind (wpAny_setState_of ho hd hf ?_))
  dsimp only
  rw [if_neg (by simp),Int.toNat_natCast,he]
  refine wpAny_pure ?_
  refine wpAny_bind (wpAny_setField hoi hdi (by simp) ?_)
  obtain ⟨x2,sb2⟩:=hit.set1 _ rfl
  exact wpAny_pure ⟨_,rfl,h1 p es[p] _ e he x2 sb2⟩
theorem zjy{n:Nat}{first:Value}{Q:Value->Shared->Prop}(hit:SIt s.heap I a n ep first i)(h:Q (.ref I) s):wpAny (model prog w) A (pyIter (.ref I)) Q E s:=by
 refine wpAny_pyIter_slot hit.typ zhm (wpAny_call_entry zhm hit.typ zqk ?_ (zrI _))
 show wpAny _ _ (ret (.ref I)) _ _ s
 exact wpAny_pure ⟨_,rfl,"set_iterator",_,hit.typ,zdq.lookup,h⟩
end
theorem zhw{α:Type}(nx:Nat->Nat):∀(f k:Nat)(left:List α)(out:Array α),left.length=f->(pickOrder.go nx f k left out).toList.Perm (out.toList++left)
 | 0,k,left,out,h=>by
  have:left=[]:=length_eq_zero_iff.mp h
  subst this
  unfold pickOrder.go
  simp
 | f+1,k,left,out,h=>by
  have hp:0<left.length:=by omega
  have hi:nx k % left.length<left.length:=Nat.mod_lt _ hp
  unfold pickOrder.go
  rw [List.getElem?_eq_getElem hi]
  dsimp only
  refine (zhw nx f (k+1) _ _ (by rw [List.length_eraseIdx_of_lt hi,h];rfl)).trans ?_
  rw [Array.toList_push,List.append_assoc]
  exact Perm.append_left _ (zgy hi)
theorem zo2{α:Type}(nx:Nat->Nat)(xs:Array α):(pickOrder nx xs).toList.Perm xs.toList:=by
 have:=zhw nx xs.size 0 xs.toList #[] (by simp)
 unfold pickOrder
 simpa using this
theorem zlX{w:World}{a:Addr}{es:Array (Int×Value)}{ep:Nat}:(zaP w a es ep).toList.Perm es.toList:=by
 unfold zaP
 split
 ·exact zo2 _ _
 ·exact Perm.refl _
theorem zgU{prog:Program}{w:World}:∀{l:List (Int×Value)},ElemsOf (PySem.intKind prog w) l->IntsAre (l.map (·.2)) (l.map zbk)
 | [],_=>.nil
 | e::l,h=>by
  obtain ⟨⟨k,hk,_⟩,_⟩:=h e mem_cons_self
  obtain ⟨t,ev⟩:=zgj hk
  have:=zgU (l:=l) λx hx=>h x (mem_cons_of_mem _ hx)
  show IntsAre (e.2::_) (numOf e.2::_)
  rw [ev]
  exact .cons _ _ this
structure zlG(prog:Program)(w:World)(A:Around)(h0 h:Heap)(a I:Addr)(ns:List Int):Prop where
 new:h0.objs.size<=I
 old:∀b o,h0.get? b=some o->h.get? b=some o
 ex:∃(L:List Value)(ms:List Int)(fp:List Addr)(St:Nat->Heap->Prop),IntsAre L ms/\ms.Perm ns/\(∀b∈fp,b=a\/h0.objs.size<=b)/\Walks prog w A I fp [I] L.length (λi v=>L[i]?=some v) St/\St 0 h
section
variable {prog:Program}{w:World}{A:Around}{E:Value->Shared->Prop}{s:Shared}
theorem zsH{a:Addr}{ns:List Int}{Q:Value->Shared->Prop}(hh:A.handled=none)(hS:zB prog w s.heap a ns)
  (h:∀I h' d,zlG prog w A s.heap h' a I ns->Q (.ref I) { s with heap:=h',drawn:=d }):wpAny (model prog w) A (pyIter (.ref a)) Q E s:=by
 obtain ⟨o,es,ep,t,ho,hex,hd,hel,hf,gt,pm⟩:=hS.ex
 have hsz:=zB.size (h:=s.heap) (a:=a) pm
 have hz:es.size<=sizeLine:=by rw [hsz,sizeLine_eq];have:=hS.few;omega
 have halt:=lt_size ho
 refine zkk ho hex hd hf hz (λc=>?_) λps d hbt pp=>?_
 ·have op:=zlX (w:=w) (a:=a) (es:=es) (ep:=ep)
  have oel:=hel.perm op
  have olen:(zaP w a es ep).toList.length=es.size:=by rw [op.length_eq,length_toList]
  have oget:∀i,(zaP w a es ep)[i]?=(zaP w a es ep).toList[i]?:=λi=>(getElem?_toList).symm
  have:=h s.heap.objs.size (s.heap.push (itO a es.size ep (.int 0 0) 0)) s.drawn ⟨le_refl _,λb o e=>get?_push_of_some _ e,(zaP w a es ep).toList.map (·.2),(zaP w a es ep).toList.map zbk,[s.heap.objs.size,a],λi h=>(∃k:Nat,SIt h s.heap.objs.size a es.size ep (.int k 0) i/\(btW w=false->SetTable.below t.place k=i))/\h.get? a=some o,zgU oel,(op.map zbk).trans pm,λb hb=>?_,?_,?_⟩
  ·exact this
  ·simp only [mem_cons,not_mem_nil,or_false] at hb
   rcases hb with rfl|rfl
   ·exact .inr (le_refl _)
   ·exact .inl rfl
  ·have aI:a≠s.heap.objs.size:=ne_of_lt halt
   refine ⟨λb hb=>?_,λi h h' st hk=>?_,λi s' Q E hi st hQ=>?_,λs' Q E st hQ=>?_,λi s' Q E st hQ=>?_⟩
   ·simp at hb;simp [hb]
   ·obtain ⟨⟨k,x,hb⟩,ha⟩:=st
    exact ⟨⟨k,x.at λo e=>hk _ (by simp) o e,hb⟩,hk a (by simp) o ha⟩
   ·obtain ⟨⟨k,x,hb⟩,ha⟩:=st
    rw [length_map,olen] at hi
    refine zh3 hh x ha hd hf gt c hb (λe k' h' he hk' x' sb=>?_) λhe=>?_
    ·refine hQ _ h' s'.toks ?_ ⟨⟨k',x',hk'⟩,sb.extBut a _ aI ha⟩ λb o hb e=>sb.extBut b o (λz=>hb (by simp [z])) e
     rw [getElem?_map,<- oget,he]
     rfl
    ·rw [oget] at he
     exact absurd (List.getElem?_eq_none_iff.mp he) (by omega)
   ·obtain ⟨⟨k,x,hb⟩,ha⟩:=st
    rw [length_map,olen] at x hb
    refine zh3 hh x ha hd hf gt c hb (λe k' h' he hk' x' sb=>?_) λhe h' eb=>?_
    ·rw [oget] at he
     exact absurd (List.getElem?_eq_some_iff.mp he).1 (by omega)
    ·exact hQ h' s'.toks λb o hb e=>eb b o (λz=>hb (by simp [z])) e
   ·obtain ⟨⟨k,x,hb⟩,ha⟩:=st
    exact zjy x hQ
  ·exact ⟨⟨0,⟨⟨_,get?_push_size _ rfl,rfl,rfl⟩⟩,λ_=>by
    have B:=zgw gt.ris 0
    rcases Nat.eq_zero_or_pos (SetTable.below t.place 0) with z|z
    ·exact z
    ·exact absurd (B.lo 0 z) (Nat.not_lt_zero _)⟩,get?_push_of_some _ ho⟩
 ·have hT0:s.heap.objs.size=s.heap.objs.size:=rfl
  let f:Nat->Int×Value:=λp=>es.getD p (0,.none)
  have hfe:∀p,p<es.size->es[p]?=some (f p):=λp hp=>by rw [Array.getElem?_eq_getElem hp];simp [f,getD,hp]
  have op:(ps.map f).Perm es.toList:=by
   have e:(List.range es.size).map f=es.toList:=by
    apply List.ext_getElem?
    intro i
    rw [getElem?_map,show es.toList[i]?=es[i]? from getElem?_toList]
    by_cases hi:i<es.size
    ·rw [List.getElem?_range hi,hfe i hi];rfl
    ·rw [Array.getElem?_eq_none (by omega),List.getElem?_eq_none (by simpa using hi)];rfl
   rw [<- e]
   exact pp.map f
  have oel:=hel.perm op
  have olen:ps.length=es.size:=by rw [pp.length_eq,List.length_range]
  have:=h (s.heap.objs.size+1) ((s.heap.push { cls:=.type "tuple",data:=.seq (ps.map λ(i:Nat)=>rawInt i).toArray }).push (itO a es.size ep (.ref s.heap.objs.size) 0)) d ⟨le_succ _,λb o e=>get?_push_of_some _ (get?_push_of_some _ e),(ps.map f).map (·.2),(ps.map f).map zbk,[s.heap.objs.size+1,a,s.heap.objs.size],λi h=>SIt h (s.heap.objs.size+1) a es.size ep (.ref s.heap.objs.size) i/\h.get? a=some o/\h.get? s.heap.objs.size=some { cls:=.type "tuple",data:=.seq (ps.map λ(i:Nat)=>rawInt i).toArray },zgU oel,(op.map zbk).trans pm,λb hb=>?_,?_,?_⟩
  ·exact this
  ·simp only [mem_cons,not_mem_nil,or_false] at hb
   rcases hb with rfl|rfl|rfl
   ·exact .inr (le_succ _)
   ·exact .inl rfl
   ·exact .inr (le_refl _)
  ·have aI:a≠s.heap.objs.size+1:=ne_of_lt (lt_succ_of_lt halt)
   have tI:s.heap.objs.size≠s.heap.objs.size+1:=ne_of_lt (lt_succ_self _)
   refine ⟨λb hb=>?_,λi h h' st hk=>?_,λi s' Q E hi st hQ=>?_,λs' Q E st hQ=>?_,λi s' Q E st hQ=>?_⟩
   ·simp at hb;simp [hb]
   ·obtain ⟨x,ha,ht⟩:=st
    exact ⟨x.at λo e=>hk _ (by simp) o e,hk a (by simp) o ha,hk _ (by simp) _ ht⟩
   ·obtain ⟨x,ha,ht⟩:=st
    rw [length_map,length_map] at hi
    refine zia hh x ha hd hf ht rfl pp (λp e h' hp he x' sb=>?_) λhe=>?_
    ·refine hQ _ h' s'.toks ?_ ⟨x',sb.extBut a _ aI ha,sb.extBut _ _ tI ht⟩ λb o hb e=>sb.extBut b o (λz=>hb (by simp [z])) e
     have hpl:p<es.size:=(Array.getElem?_eq_some_iff.mp he).1
     rw [hfe p hpl] at he
     cases he
     rw [getElem?_map,getElem?_map,hp]
     rfl
    ·exact absurd (List.getElem?_eq_none_iff.mp he) (by omega)
   ·obtain ⟨x,ha,ht⟩:=st
    rw [length_map,length_map] at x
    refine zia hh x ha hd hf ht rfl pp (λp e h' hp he x' sb=>?_) λhe h' eb=>?_
    ·exact absurd (List.getElem?_eq_some_iff.mp hp).1 (by omega)
    ·exact hQ h' s'.toks λb o hb e=>eb b o (λz=>hb (by simp [z])) e
   ·exact zjy st.1 hQ
  ·refine ⟨⟨⟨itO a es.size ep (.ref s.heap.objs.size) 0,?_,rfl,rfl⟩⟩,get?_push_of_some _ (get?_push_of_some _ ho),get?_push_of_some _ (get?_push_size _ rfl)⟩
   have:=get?_push_size (s.heap.push { cls:=.type "tuple",data:=.seq (ps.map λ(i:Nat)=>rawInt i).toArray }) (o:=itO a es.size ep (.ref s.heap.objs.size) 0) rfl
   rw [size_push] at this
   exact this
theorem zmE{a:Addr}{Q:Bool->Shared->Prop}(hT:s.TypeIs (.ref a) "set")(h:Q false s):wpAny (model prog w) A (Builtin.List.listLengthHint (.ref a)) Q E s:=by
 unfold Builtin.List.listLengthHint
 refine wpAny_bind (wpAny_specialOf hT PySem.F.slot_set_len.lookup ?_)
 generalize hid:("set.__len__":String)=id0
 wp_delta
 rw [show splitId id0=some ("set","__len__") from by subst hid;decide +kernel]
 subst hid
 refine wpAny_bind (wpAny_isInstance (T:="set") (b:=true) hT (by rw [isSubtype_type];kernel_rfl) ?_)
 refine wpAny_ite_split (λhab=>absurd hab (by decide)) (λ_=>?_)
 refine wpAny_ite_split (λ_=>?_) (λhab=>absurd (f!"") hab)
 refine wpAny_bind (wpAny_typeOf hT ?_)
 exact wpAny_pure h
theorem zB.typ{a:Addr}{ns:List Int}(x:zB prog w s.heap a ns):s.TypeIs (.ref a) "set":=let ⟨o,_,_,_,ho,hex,_⟩:=x.ex;⟨o,ho,hex.1⟩
theorem zo4{L:List Value}{acc:Array Value}(h:ItemsOf (λi v=>L[i]?=some v) acc L.length):acc.toList=L:=by
 apply List.ext_getElem?
 intro i
 by_cases hi:i<L.length
 ·have hs:i<acc.size:=by rw [h.1];exact hi
  have e:acc[i]?=some acc[i]:=Array.getElem?_eq_getElem hs
  rw [getElem?_toList,e,h.2 i _ e]
 ·rw [getElem?_toList,Array.getElem?_eq_none (by rw [h.1];omega),List.getElem?_eq_none (by omega)]
theorem zkD{R:Result->Shared->Prop}{a S:Addr}{ns:List Int}(hh:A.handled=none)(hS:zB prog w s.heap a ns)(hSa:S≠a)(res:Value)(c₀:Nat)(hl:s.heap.get? S=some { cls:=.type "list",data:=.seq #[] c₀ })
  (hR:∀h' tk d acc' c' ms,(∀b o,b≠S->s.heap.get? b=some o->h'.get? b=some o)->h'.get? S=some { cls:=.type "list",dict:=none,data:=.seq acc' c',slots:=#[] }->IntsAre acc'.toList ms->ms.Perm ns->R (.ok (.ret res)) { s with heap:=h',toks:=tk,drawn:=d }) :
  wpAny (model prog w) A.in1 (Builtin.List.listExtendWith (.ref S) (.ref a) res)
   (λfin s'=>match fin with | .done f=>R (.ok f) s' | .again c'=>c'.quiet=true/\codeAny (model prog w) A c' R s') (λe s'=>R (.error e) s') s:=by
 unfold Builtin.List.listExtendWith
 refine wpAny_bind (wpAny_typeOf (T:="set") hS.typ ?_)
 have h1:Builtin.List.listSameRef (.ref S) (.ref a)=false:=by simp [Builtin.List.listSameRef,hSa]
 have n1:(type "set" == type "list")=false:=by decide
 have n2:(type "set" == type "tuple")=false:=by decide
 simp only [h1,n1,n2,Bool.or_false,false_eq_true,if_false]
 refine wpAny_bind (zsH hh hS λI h2 d sw=>?_)
 obtain ⟨L,ms,fp,St,hL,hp,hfp,W,st⟩:=sw.ex
 have hlen:L.length<=sizeLine:=by
  have e1:L.length=ms.length:=by
   clear W st hp
   induction hL with
   | nil=>rfl
   | cons _ _ _ ih=>simp [ih]
  rw [e1,hp.length_eq,sizeLine_eq]
  have:=hS.few
  omega
 have hSlt:=lt_size hl
 have hSf:S∉fp:=λz=>by
  rcases hfp S z with q|q
  ·exact hSa q
  ·exact lt_irrefl _ (lt_of_lt_of_le hSlt q)
 have hSI:S≠I:=ne_of_lt (lt_of_lt_of_le hSlt sw.new)
 have key:∀(h:Heap)(c₁ tk:Nat),St 0 h->(∀b o,b≠S->s.heap.get? b=some o->h.get? b=some o) ->
   h.get? S=some { cls:=.type "list",data:=.seq #[] c₁ }->codeAny (model prog w) A (.builtin "list.extend.loop" ⟨[.ref S,.ref I,res],[]⟩) R { s with heap:=h,toks:=tk,drawn:=d }:=by
  intro h c₁ tk hst hk hS₁
  refine codeAny_extend_loopS W.toS hlen S hSf res L.length 0 _ #[] c₁ rfl (zero_le _) hst hS₁ (ItemsOf.nil _) λs' acc' c' hm hS' hacc=>?_
  rw [Moved.eq_with hm]
  refine hR s'.heap s'.toks d acc' c' ms (λb o hb e=>hm.heap b o (λhmem=>?_) (hk b o hb e)) hS' (by rw [zo4 hacc];exact hL) hp
  rcases mem_cons.mp hmem with e'|hmem
  ·exact hb e'
  ·have e3:=mem_singleton.mp hmem
   exact absurd (lt_size e) (by rw [e3];exact Nat.not_lt.mpr sw.new)
 have hS₁:=sw.old _ _ hl
 refine wpAny_bind (wpAny_holding (zmE (zB.typ (s:={ s with heap:=h2,drawn:=d }) (hS.at λo e=>sw.old _ _ e)) ?_))
 refine wpAny_ite_split (λ_=>?_) (λ_=>wpAny_pure ⟨plainId_quiet PySem.F.plain_extend_loop _,key _ c₀ _ st (λb o _ e=>sw.old _ _ e) hS₁⟩)
 refine wpAny_bind (wpAny_rule ?_)
 refine wpAny_bind ?_
 show wpAny _ _ (updateSeq S (·.push .none)>>=λ_=>updateSeq S (·.pop)) _ _ _
 refine wpAny_bind (wpAny_updateSeq hS₁ rfl ?_)
 have hS₂:=get?_update_self (mapSeq (·.push Value.none)) hS₁ rfl
 refine wpAny_updateSeq (hz:=by seq_fits) hS₂ rfl ?_
 have hS₃:=get?_update_self (mapSeq (·.pop)) hS₂ rfl
 refine wpAny_pure ⟨plainId_quiet PySem.F.plain_extend_loop _,key _ _ _ ?_ (λb o hb e=>?_) hS₃⟩
 ·refine W.frame 0 _ _ st λb hb o e=>?_
  have hbS:b≠S:=λh=>hSf (h ▸ hb)
  exact (get?_update_other _ _ (Ne.symm hbS)).trans ((get?_update_other _ _ (Ne.symm hbS)).trans e)
 ·exact (get?_update_other _ _ (Ne.symm hb)).trans ((get?_update_other _ _ (Ne.symm hb)).trans (sw.old _ _ e))
theorem zo8{R:List Value->Shared->Prop}{a:Addr}{ns:List Int}(hh:A.handled=none)(hS:zB prog w s.heap a ns)
  (h:∀(h':Heap)(tk:Nat) d (acc:List Value) ms,(∀b o,s.heap.get? b=some o->h'.get? b=some o)->IntsAre acc ms->ms.Perm ns->R acc { s with heap:=h',toks:=tk,drawn:=d }) :
  wpAny (model prog w) A (collect (.ref a)) R E s:=by
 have hlt:a<s.heap.objs.size:=let ⟨o,e,_⟩:=hS.obj;lt_size e
 unfold collect
 refine wpAny_bind (wpAny_runValue (codeAny_builtin entry_proto_collect' ?_))
 rw [Around.under_plainId PySem.F.plain_proto_collect _]
 show wpAny _ A.in1 (newList []>>=λl=>again (.builtin "list.__iadd__" ⟨[l,.ref a],[]⟩)) _ _ s
 refine wpAny_bind (wpAny_newObj_type ?_)
 refine wpAny_pure ⟨plainId_quiet PySem.F.plain_list_iadd _,codeAny_builtin entry_list_iadd' ?_⟩
 rw [Around.under_plainId PySem.F.plain_list_iadd _]
 have hS₁:(s.heap.push { cls:=.type "list",data:=.seq ([]:List Value).toArray }).get? s.heap.objs.size=some { cls:=.type "list",data:=.seq #[] }:=get?_push_size _ rfl
 show wpAny _ A.in1 (Builtin.List.listExtendWith (.ref s.heap.objs.size) (.ref a) (.ref s.heap.objs.size)) _ _ _
 have key:=zkD (A:=A) (s:={ s with heap:=s.heap.push { cls:=.type "list",data:=.seq ([]:List Value).toArray } })
  (R:=λ(q:Result)(s':Shared)=>∃(h':Heap)(tk:Nat)(d:Drawn)(acc':Array Value)(c':Nat)(ms:List Int),q = .ok (.ret (.ref s.heap.objs.size))/\s'={ s with heap:=h',toks:=tk,drawn:=d } /\
   (∀b o,s.heap.get? b=some o->h'.get? b=some o)/\h'.get? s.heap.objs.size=some { cls:=.type "list",dict:=none,data:=.seq acc' c',slots:=#[] }/\IntsAre acc'.toList ms/\ms.Perm ns)
  hh (hS.at λo e=>get?_push_of_some _ e) (ne_of_gt hlt) (.ref s.heap.objs.size) 0 hS₁
  (λh' tk d acc' c' ms hk hS' hacc hp=>⟨h',tk,d,acc',c',ms,rfl,rfl,λb o e=>hk b o (ne_of_lt (lt_size e)) (get?_push_of_some _ e),hS',hacc,hp⟩)
 refine wpAny_mono key (λfin s' x=>?_) λe s' x=>?_
 ·cases fin with
  | done f =>
   obtain ⟨h',tk,d,acc',c',ms,e,rfl,hk,hS',hacc,hp⟩:=x
   cases e
   show wpAny _ A (load s.heap.objs.size>>=_) _ _ _
   refine wpAny_bind (wpAny_load hS' ?_)
   exact wpAny_pure (h h' tk d _ ms hk hacc hp)
  | again c₁ =>
   refine ⟨x.1,codeAny_mono x.2 λq s₂ y=>?_⟩
   obtain ⟨h',tk,d,acc',c',ms,rfl,rfl,hk,hS',hacc,hp⟩:=y
   show wpAny _ A (load s.heap.objs.size>>=_) _ _ _
   refine wpAny_bind (wpAny_load hS' ?_)
   exact wpAny_pure (h h' tk d _ ms hk hacc hp)
 ·obtain ⟨_,_,_,_,_,_,e',_⟩:=x
  cases e'
end
end L2
namespace L2
open PySem PySem.Spec PyProof.Rows PySem.W PySem.Calls
def zis(P:Program)(w:World):List V->Hp->VK->Prop:=λxs H Q=>uR1 xs λa=>∃ms:List Int,H a=some (zbf P w a ms)/\ms.length<64/\∀p (ns:List Int) H2,New H p (.lst (ns.map V.int)) H2->ns.Perm ms->ns.Pairwise (·<=·)->Q (.ref p) H2
theorem zni{P:Program}{w:World}{a:Addr}{H:Hp}{Q:VK}:zis P w [.ref a] H Q = ∃ms:List Int,H a=some (zbf P w a ms)/\ms.length<64/\∀p (ns:List Int) H2,New H p (.lst (ns.map V.int)) H2->ns.Perm ms->ns.Pairwise (·<=·)->Q (.ref p) H2:=za3
theorem zh5{vs:List Value}{ns:List Int}(h:IntsAre vs ns):vs.length=ns.length:=by
 induction h with
 | nil=>rfl
 | cons _ _ _ ih=>simp [ih]
theorem Inv.drew{X:Cx}{Ga:List (Addr×Obj)}{σ:St}{H:Hp}{s:Shared}{d:Drawn}(I:Inv X Ga σ H s):Inv X Ga σ H { s with drawn:=d }:=⟨I.ok,I.os,I.bare,I.base,I.loc,I.cell,I.free,I.freeC,I.pin,I.hok,I.len,I.hdk⟩
section
variable {X:Cx}
theorem ziR(hc:X.calm=true):zR X (.builtin "sorted") (zis X.prog X.w):=by
 intro Ga s σ H xs us Q I r h
 obtain ⟨a,rfl,ms,hq,h64,q⟩:=h
 obtain ⟨u,rfl,ru⟩:=zbx r
 cases ru
 have hS:=zoV I.hok hq
 refine call_function_entry kind_sorted plain_sorted entry_sorted (args_sorted1 _) ?_
 unfold Builtin.«sorted»
 refine wpAny_bind (m:=checkCount "sorted" 1 1 _) (wpAny_pure (wpAny_bind (zo8 (A:=X.A.in1) (I.ok.hd hc) hS λh' tk d acc ns hk hacc pm=>?_)))
 have hl:acc.length=ms.length:=by rw [zh5 hacc,pm.length_eq]
 have I1:Inv X Ga σ H { s with heap:=h',toks:=tk,drawn:=d }:=(I.kept (t':=tk) hk).drew
 refine wpAny_bind (wpAny_newList ?_ (by rw [hl,sizeLine_eq];omega))
 have hoL:(h'.push (seqObj "list" acc.toArray 0)).get? h'.objs.size=some (seqObj "list" acc.toArray 0):=get?_push_size _ rfl
 refine wpAny_bind (wpAny_holding (wpAny_call_entry slot_list_sort ⟨_,hoL,rfl⟩ entry_list_sort (list_sort_tree hoL hacc (by rw [hl];exact h64) λout ns' b1 b2 b3=>⟨_,rfl,?_⟩) (args_list_sort _)))
 obtain ⟨c,hcz⟩:=sortedHeap_at (vs:=acc) (out:=out) hoL
 refine wpAny_pure ⟨_,rfl,.ref h'.objs.size,upd H h'.objs.size (.lst (ns'.map V.int)),I1.laid (a:=h'.objs.size) (t':=tk) (λb o e=>?_) (le_refl _) ⟨?_,out.toList,c,zff b1,by rw [Array.toArray_toList];exact hcz⟩,rfl,q _ ns' _ (.mk' (I1.hok.fresh (le_refl _))) (b2.trans pm) b3⟩
 ·have hb:b<h'.objs.size:=lt_size e
  rw [sortedHeap_old (ne_of_lt hb) (by rw [size_push'];exact lt_succ_of_lt hb)]
  exact get?_push_of_some _ e
 ·have:=b2.length_eq
  rw [length_map,this,pm.length_eq,sizeLine_eq]
  omega
end
theorem zq0{c c1 c2:Bool}{X:Cx}{elt t0 i0 t1 i1 t2 i2:Expr}{sc:Scope}{pos:Pos}{N':List Str}{ix:List (Option Nat)}{wi w1 w2:TI}{g g1 g2:TG}{te:TE}(hc:c=true->X.calm=true)(hc1:c1=true->X.calm=true)(hc2:c2=true->X.calm=true)(L:za2 X sc N' ix)(hi:W (PIc c X t0 i0 wi))
  (hg:∀Ga C fp s H,W (PG (zN X sc N' Ga C fp s H) t0 g)) (hi1:∀Ga C fp s H,W (PIc c1 (zN X sc N' Ga C fp s H) t1 i1 w1)) (hg1:∀Ga C fp s H,W (PG (zN X sc N' Ga C fp s H) t1 g1))
  (hi2:∀Ga C fp s H,W (PIc c2 (zN X sc N' Ga C fp s H) t2 i2 w2)) (hg2:∀Ga C fp s H,W (PG (zN X sc N' Ga C fp s H) t2 g2)) (he:∀Ga C fp s H,W (PE (zN X sc N' Ga C fp s H) elt te))
  (hs:∀x,foldedSetIterable i0 X.env x=pure x:=by intro _;rfl) (hs1:∀env x,foldedSetIterable i1 env x=pure x:=by intro _ _;rfl) (hs2:∀env x,foldedSetIterable i2 env x=pure x:=by intro _ _;rfl) :
  W (PE X (.SetComp elt [⟨t0,i0,[],0⟩,⟨t1,i1,[],0⟩,⟨t2,i2,[],0⟩] sc pos) (tSC X.prog X.w ix wi g (zeH (zb0 w1 g1 (zb0 w2 g2 (zb1 te)))))) :=
 ⟨zlt hc hc1 hc2 L hi.h (λa b c d e=>(hg a b c d e).h) (λa b c d e=>(hi1 a b c d e).h) (λa b c d e=>(hg1 a b c d e).h) (λa b c d e=>(hi2 a b c d e).h) (λa b c d e=>(hg2 a b c d e).h) (λa b c d e=>(he a b c d e).h) hs hs1 hs2⟩
theorem zk9(a:Value):checkTypeCall "set" ⟨[a],[]⟩=pure ():=by kernel_rfl
theorem zkq(a:Value):checkBuiltinCall "set.__new__" ⟨[.type "set",a],[]⟩=pure ():=by kernel_rfl
theorem zfj:plainId "set.update.loop"=true:=by decide +kernel
theorem ziU:entryFor table "set.update.loop"=some Builtin.«set.update.loop»:=entryFor_of_fast (by kernel_rfl)
theorem zpL:isSubtype (.type "list") (.type "set")=pure false:=by rw [isSubtype_type];kernel_rfl
theorem zqs:isSubtype (.type "list") (.type "frozenset")=pure false:=by rw [isSubtype_type];kernel_rfl
section
variable {prog:Program}{w:World}{A:Around}{E:Value->Shared->Prop}{s:Shared}
def zap(led:Bool):Obj:={ cls:=.type "set",dict:=none,data:=.set #[] 0 (.fresh 0 0 led) }
theorem znP(a:Value){Q₁:Value->Shared->Prop}(h:∀led,zB prog w (s.heap.push (zap led)) s.heap.objs.size []->Q₁ (.ref s.heap.objs.size) { s with heap:=s.heap.push (zap led) }) :
  codeAny (model prog w) A (.call (.builtin "set.__new__") ⟨[.type "set",a],[]⟩) (wants Q₁ E) s:=by
 refine codeAny_of_tree ?_
 show wpAny _ A.in1 (do checkBuiltinCall "set.__new__" ⟨[.type "set",a],[]⟩;again (.builtin "set.__new__" ⟨[.type "set",a],[]⟩)) _ _ s
 refine wpAny_bind (wpAny_of_eq (zkq a) (wpAny_pure ⟨plainId_quiet PySem.F.plain_set_new _,codeAny_builtin PySem.F.entry_set_new ?_⟩))
 rw [Around.under_plainId PySem.F.plain_set_new _]
 unfold Builtin.«set.__new__» Builtin.Frozenset.newClass
 have hsub:=sub_set_self
 wp_walk
 refine wpAny_askSetting (wpAny_pure ?_)
 dsimp only
 simp only [newObj]
 refine wpAny_bind (wpAny_alloc (wpAny_pure ?_))
 exact wpAny_pure (h _ ⟨⟨_,#[],0,_,get?_push_size _ rfl,⟨rfl,rfl,rfl⟩,rfl,λe he=>by simp at he,by rfl,⟨rfl,rfl,λi j _ hj=>by simp [SetTable.fresh] at hj⟩,Perm.refl _⟩,by decide⟩)
theorem zqX{a:Addr}{n:Nat}{Q:String->Shared->Prop}(hT:s.TypeIs (.ref a) "set")(h:Q "set" s):wpAny (model prog w) A (typeNameOfCut n (.ref a)) Q E s:=by
 unfold typeNameOfCut shownTypeOf
 refine wpAny_bind (wpAny_bind (wpAny_typeOf hT ?_))
 simp only [show (type "set" == type "builtin_function_or_method")=false by decide,false_eq_true,if_false]
 refine wpAny_pure ?_
 have e:typeName (.type "set")=pure "set":=by unfold typeName;rw [find?_eq_fast];kernel_rfl
 rw [show typeNameCut n (.type "set")=typeName (.type "set") from rfl,e]
 exact wpAny_pure h
theorem zsK{M:Model}{self a:Value}{Q:Unit->Shared->Prop}(hT:s.TypeIs self "set")(hQ:Q () s) :
  wpAny M A (checkBuiltinCall "set.__init__" ⟨[self,a],[]⟩) Q E s:=by
 simp only [checkBuiltinCall,kind_set_init,split_set_init,sig_set_init]
 refine wpAny_bind (wpAny_isInstance hT sub_set_self ?_)
 simp only [Bool.not_true,false_eq_true,if_false]
 unfold Bind.checkArgs
 dsimp only
 refine wpAny_bind (m:=Bind.printed "set" true _ _) (PyProof.Rows.printed_name (by decide) ?_)
 refine wpAny_bind (m:=Bind.printed "*" false _ _) (PyProof.Rows.printed_star (self:=self) rfl hT λshort=>?_)
 have hrn:(Manifest.Receiver.self==Manifest.Receiver.none)=false:=by decide
 have hn:(if (Manifest.Receiver.self==Manifest.Receiver.none)=true then [self,a].length else [self,a].length-1)=1:=by simp [hrn]
 rw [hn]
 simp only [map_nil]
 have hc:Bind.check ⟨.positional,"set","*",.self,[⟨"iterable",.posOnly,false⟩]⟩ "set" short 1 []=pure ():=by
  simp [Bind.check,Bind.checkCount,Bind.isPositional,show (Manifest.ParamKind.posOnly==Manifest.ParamKind.posOnly)=true from rfl]
 rw [hc]
 exact wpAny_pure hQ
def uniq(ns:List Int):List Int:=ns.foldl zy []
theorem znf{ms:List Int}{n:Int}:(zy ms n).length<=ms.length+1:=by
 unfold zy
 split
 ·exact le_succ _
 ·simp
theorem zhj:∀{ns ms:List Int},(ns.foldl zy ms).length<=ms.length+ns.length
 | [],ms=>le_refl _
 | n::ns,ms=>by
  have h1:=zhj (ns:=ns) (ms:=zy ms n)
  have h2:=znf (ms:=ms) (n:=n)
  show (ns.foldl zy (zy ms n)).length<=_
  simp only [length_cons]
  omega
theorem zrJ{ns:List Int}{i:Nat}(h:i<ns.length):(ns.take (i+1)).foldl zy []=zy ((ns.take i).foldl zy []) ns[i]:=by
 rw [take_add_one,List.getElem?_eq_getElem h,foldl_append]
 rfl
theorem znV{vs:List Value}{ns:List Int}(h:IntsAre vs ns):∀{i:Nat}{v:Value},vs[i]?=some v->∃(hi:i<ns.length)(t:Tok),v = .int ns[i] t:=by
 induction h with
 | nil=>intro i v e;simp at e
 | cons n t _ ih =>
  intro i v e
  cases i with
  | zero=>simp at e;exact ⟨by simp,t,e.symm⟩
  | succ i =>
   obtain ⟨hi,t',e'⟩:=ih (i:=i) (v:=v) (by simpa using e)
   exact ⟨by simpa using hi,t',by simpa using e'⟩
theorem zst{R:Result->Shared->Prop}{D I:Addr}{L:List Value}{ns:List Int}{fp:List Addr}{St:Nat->Heap->Prop}(hL:IntsAre L ns)(hn:ns.length<3000)(W:Walks prog w A.in1 I fp [I] L.length (λi v=>L[i]?=some v) St)(hDf:D∉fp)(hDI:D≠I) :
  ∀(k i:Nat)(s:Shared),L.length-i=k->i<=L.length->zB prog w s.heap D ((ns.take i).foldl zy [])->St i s.heap ->
  (∀h' tk,(∀b o,b≠D->b≠I->s.heap.get? b=some o->h'.get? b=some o)->zB prog w h' D (uniq ns)->R (.ok (.ret .none)) { s with heap:=h',toks:=tk }) ->
  codeAny (model prog w) A (.builtin "set.update.loop" ⟨[.ref D,.ref I],[]⟩) R s:=by
 have hlen:=zh5 hL
 intro k
 induction k with
 | zero =>
  intro i s hk hi hS st hR
  have e:i=L.length:=by omega
  subst e
  refine codeAny_builtin ziU ?_
  rw [Around.under_plainId zfj _]
  show wpAny _ A.in1 (pyNext (.ref I)>>=_) _ _ s
  refine wpAny_bind (W.done s _ _ st λh1 tk1 hk1=>?_)
  refine wpAny_pure (hR h1 tk1 (λb o n1 n2 e=>hk1 b o (by simp [n2]) e) ?_)
  have:=hS.at (h':=h1) λo e=>hk1 D o (by simp [hDI]) e
  rw [hlen,take_of_length_le (le_refl _)] at this
  exact this
 | succ k ih =>
  intro i s hk hi hS st hR
  have hlt:i<L.length:=by omega
  refine codeAny_builtin ziU ?_
  rw [Around.under_plainId zfj _]
  show wpAny _ A.in1 (pyNext (.ref I)>>=_) _ _ s
  refine wpAny_bind (W.item i s _ _ hlt st λv h1 tk1 hv st1 hk1=>?_)
  obtain ⟨hi',t,rfl⟩:=znV hL hv
  have hS1:zB prog w h1 D ((ns.take i).foldl zy []):=hS.at λo e=>hk1 D o (by simp [hDI]) e
  have few:((ns.take i).foldl zy []).length<3000:=by
   have:=zhj (ns:=ns.take i) (ms:=[])
   rw [length_take] at this
   simp only [length_nil] at this
   omega
  show wpAny _ A.in1 (holding [.int ns[i] t] (setAdd D (.int ns[i] t))>>=_) _ _ _
  refine wpAny_bind (wpAny_holding (zjK (s:={ s with heap:=h1,toks:=tk1 }) hS1 few λh2 b sb hS2=>?_))
  refine wpAny_pure ⟨plainId_quiet zfj _,ih (i+1) _ (by omega) hlt (by rw [zrJ hi'];exact hS2) (W.frame _ _ _ st1 λb hb o e=>sb.extBut b o (λz=>hDf (z ▸ hb)) e) λh' tk hk' hS'=>?_⟩
  exact hR h' tk (λb o n1 n2 e=>hk' b o n1 n2 (sb.extBut b o n1 (hk1 b o (by simp [n2]) e))) hS'
theorem zke{l:Addr}{c:Nat}{L:List Value}{ns:List Int}{Q:Value->Shared->Prop}(hh:A.handled=none)(ho:s.heap.get? l=some { cls:=.type "list",data:=.seq L.toArray c })(hL:IntsAre L ns)(hn:ns.length<3000)
  (h:∀h' tk,(∀b o,s.heap.get? b=some o->h'.get? b=some o)->zB prog w h' s.heap.objs.size (uniq ns)->Q (.ref s.heap.objs.size) { s with heap:=h',toks:=tk }) :
  wpAny (model prog w) A (call (.type "set") [.ref l]) Q E s:=by
 obtain ⟨cm,tl,hmro⟩:=called_set.mro
 have hmade:=called_set.made
 have hsub:=called_set.sub
 refine wpAny_call (codeAny_of_tree ?_)
 show wpAny _ _ (callAny (.type "set") _) _ _ _
 refine wpAny_pure ⟨Code.quiet_builtin _ (f!""),codeAny_builtin PySem.F.entry_type_call ?_⟩
 rw [Around.under_plain (weight_type_call_type "set" [.ref l] []) rfl]
 have h1:=called_set.notType
 have h2:=called_set.canCreate
 have hct:=zk9 (.ref l)
 repeat (any_goals (first|assumption|wp_step))
 refine codeAny_mono (znP (E:=E) (.ref l) (Q₁:=λobj s₁=>∃led,obj = .ref s.heap.objs.size/\s₁={ s with heap:=s.heap.push (zap led) }/\zB prog w (s.heap.push (zap led)) s.heap.objs.size []) λled hS=>⟨led,rfl,rfl,hS⟩) λr s₁ hr=>?_
 cases r with
 | error e=>exact hr
 | ok fl =>
  cases fl with
  | ret obj =>
   obtain ⟨led,rfl,rfl,hS⟩:=hr
   have hT:Shared.TypeIs { s with heap:=s.heap.push (zap led) } (.ref s.heap.objs.size) "set":=zB.typ (s:={ s with heap:=s.heap.push (zap led) }) hS
   have hli:=called_set.init.lookup
   have hbi:=called_set.init.bind (.ref s.heap.objs.size)
   repeat (any_goals (first|assumption|wp_step))
   refine codeAny_mono (codeAny_call_builtin (R:=wants (λr s₂=>r = .none/\Q (.ref s.heap.objs.size) s₂) E) called_set.init.plain PySem.F.entry_set_init (zsK hT ?_)) λr₂ s₂ hr₂=>?_
   ·have hN:(s.heap.push (zap led)).get? s.heap.objs.size=some (zap led):=get?_push_size _ rfl
    unfold Builtin.«set.__init__» noKeywords
    dsimp only
    refine wpAny_bind (wpAny_pure ?_)
    refine wpAny_bind (zqX hT ?_)
    refine wpAny_bind (m:=checkCount _ _ _ _) (wpAny_pure ?_)
    unfold Builtin.Frozenset.addrOf
    refine wpAny_bind (wpAny_pure ?_)
    unfold setUsed
    refine wpAny_bind (wpAny_bind (wpAny_setState_of (es:=#[]) (ep:=0) (t:=.fresh 0 0 led) hN rfl rfl (wpAny_pure ?_)))
    rw [if_neg (show ¬ (((SetTable.fresh 0 0 led).fill != 0)=true) from by simp [SetTable.fresh,SetTable.fill])]
    show wpAny _ _ (Builtin.Frozenset.updateFrom "set.__init__" s.heap.objs.size (.ref l)>>=λ_=>ret .none) _ _ _
    unfold Builtin.Frozenset.updateFrom Builtin.Frozenset.isAnySet
    have hl1:(s.heap.push (zap led)).get? l=some { cls:=.type "list",data:=.seq L.toArray c }:=get?_push_of_some _ ho
    have hTl:Shared.TypeIs { s with heap:=s.heap.push (zap led) } (.ref l) "list":=⟨_,hl1,rfl⟩
    have hlt:=lt_size ho
    refine wpAny_bind (wpAny_bind ?_)
    show wpAny _ _ (isInstance (.ref l) (.type "set")>>=λb=>_) _ _ _
    refine wpAny_bind (wpAny_isInstance (T:="list") (b:=false) hTl zpL ?_)
    show wpAny _ _ (isInstance (.ref l) (.type "frozenset")) _ _ _
    refine wpAny_isInstance (T:="list") (b:=false) hTl zqs ?_
    rw [if_neg Bool.false_ne_true]
    refine wpAny_bind (wpAny_typeOf hTl ?_)
    rw [if_neg (by decide)]
    have hli1:Heap.IsList (s.heap.push (zap led)) l L.toArray:=⟨_,hl1,rfl,c,rfl⟩
    refine wpAny_bind (wpAny_pyIter_list hli1 ?_)
    have hI:(s.heap.push (zap led)).objs.size=s.heap.objs.size+1:=size_push _ _
    have hlI:l≠(s.heap.push (zap led)).objs.size:=by rw [hI];exact ne_of_lt (lt_succ_of_lt hlt)
    have W:=Walks.list (prog:=prog) (w:=w) (A:=A.in1.in1.in1) hh (s.heap.push (zap led)).objs.size l hlI L.toArray
    have hDI:s.heap.objs.size≠(s.heap.push (zap led)).objs.size:=by rw [hI];exact ne_of_lt (lt_succ_self _)
    have e1:L.toArray.size=L.length:=size_toArray
    have W':Walks prog w A.in1.in1.in1 (s.heap.push (zap led)).objs.size [(s.heap.push (zap led)).objs.size,l] [(s.heap.push (zap led)).objs.size] L.length (λi v=>L[i]?=some v) (λi h=>h.IsListIter (s.heap.push (zap led)).objs.size l i/\h.IsList l L.toArray):=by
     rw [e1] at W
     simpa using W
    refine wpAny_bind (wpAny_runValue (zst (A:=A.in1.in1) (D:=s.heap.objs.size) hL hn W' (by simp only [mem_cons,not_mem_nil,or_false,not_or];exact ⟨hDI,ne_of_gt hlt⟩) hDI L.length 0 _ rfl (zero_le _) (hS.at λo e=>get?_push_of_some _ e) ⟨⟨_,get?_push_size _ rfl,rfl,rfl⟩,⟨_,get?_push_of_some _ hl1,rfl,c,rfl⟩⟩ λh' tk hk' hS'=>?_))
    refine wpAny_pure (wpAny_pure ?_)
    refine ⟨rfl,h h' tk (λb o e=>?_) hS'⟩
    have hb:=lt_size e
    exact hk' b o (ne_of_lt hb) (by rw [hI];exact ne_of_lt (lt_succ_of_lt hb)) (get?_push_of_some _ (get?_push_of_some _ e))
   ·cases r₂ with
    | error e=>exact hr₂
    | ok fl₂ =>
     cases fl₂ with
     | ret r =>
      obtain ⟨rfl,hq⟩:=hr₂
      repeat (any_goals (first|assumption|wp_step))
     | _=>exact hr₂.elim
  | _=>exact hr.elim
end
theorem zjw:∀{ns:List Int}{its:List Value},zk (ns.map V.int) its->IntsAre its ns
 | [],_,h=>by cases h;exact .nil
 | n::ns,_,h=>by
  cases h with
  | cons r rr =>
   obtain ⟨t,rfl⟩:=r
   exact .cons n t (zjw rr)
theorem zsu{ms:List Int}{n k:Int}:k∈zy ms n↔k∈ms\/k=n:=by
 unfold zy
 split
 ·rename_i h
  constructor
  ·exact .inl
  ·rintro (h'|rfl)
   ·exact h'
   ·exact h
 ·simp
theorem zm3{ms:List Int}{n:Int}(h:ms.Nodup):(zy ms n).Nodup:=by
 unfold zy
 split
 ·exact h
 ·rename_i hn
  rw [List.nodup_append]
  refine ⟨h,by simp,λa ha b hb=>?_⟩
  have e:b=n:=by simpa using hb
  subst e
  exact λz=>hn (z ▸ ha)
theorem zjm{k:Int}:∀{ns ms:List Int},k∈ns.foldl zy ms↔k∈ms\/k∈ns
 | [],ms=>by simp
 | n::ns,ms=>by
  show k∈ns.foldl zy (zy ms n)↔_
  rw [zjm,zsu,mem_cons,or_assoc]
theorem zjx:∀{ns ms:List Int},ms.Nodup->(ns.foldl zy ms).Nodup
 | [],ms,h=>h
 | n::ns,ms,h=>zjx (ns:=ns) (zm3 h)
theorem zdS{k:Int}{ns:List Int}:k∈uniq ns↔k∈ns:=by
 unfold uniq
 rw [zjm]
 simp
theorem zeK{ns:List Int}:(uniq ns).Nodup:=zjx List.nodup_nil
theorem znT{xs ys:List Int}(hx:xs.Pairwise (·<=·))(hy:ys.Pairwise (·<=·))(nx:xs.Nodup)(ny:ys.Nodup)(h:∀k,k∈xs↔k∈ys):xs=ys:=by
 have p:xs.Perm ys:=(List.perm_ext_iff_of_nodup nx ny).mpr h
 exact p.eq_of_pairwise (λa b _ _ h1 h2=>Int.le_antisymm h1 h2) hx hy
def zi0(P:Program)(w:World):List V->Hp->VK->Prop:=λxs H Q=>uR1 xs λa=>∃ns:List Int,Rd H a (.lst (ns.map V.int))/\ns.length<3000/\∀p H2,New H p (zbf P w p (uniq ns)) H2->Q (.ref p) H2
theorem zn2{P:Program}{w:World}{a:Addr}{H:Hp}{Q:VK}:zi0 P w [.ref a] H Q = ∃ns:List Int,Rd H a (.lst (ns.map V.int))/\ns.length<3000/\∀p H2,New H p (zbf P w p (uniq ns)) H2->Q (.ref p) H2:=za3
section
variable {X:Cx}
theorem zk1(hc:X.calm=true):zR X (.type "set") (zi0 X.prog X.w):=by
 intro Ga s σ H xs us Q I r h
 obtain ⟨a,rfl,ns,hq,hn,q⟩:=h
 obtain ⟨u,rfl,ru⟩:=zbx r
 cases ru
 obtain ⟨z,its,n,rv,e⟩:=hq.ok I.hok
 refine zke (I.ok.hd hc) e (zjw rv) hn λh' tk hk hS=>?_
 exact ⟨.ref s.heap.objs.size,upd H s.heap.objs.size (zbf X.prog X.w s.heap.objs.size (uniq ns)),I.laid (a:=s.heap.objs.size) (t':=tk) hk (le_refl _) (zjJ hS),rfl,q _ _ (.mk' (I.hok.fresh (le_refl _)))⟩
end
end L2
namespace L2
open PySem PySem.Spec PyProof.Rows
def uN(v:V)(k:Int->Prop):Prop:=match v with | .int n=>k n|_=>False
theorem zpf{n:Int}{k:Int->Prop}:uN (.int n) k=k n:=rfl
def zaT(J:It)(g:TG)(tb:TB)(σ:St)(ns:List Int)(H:Hp)(Q:St->List Int->Hp->Prop):Prop:=∃W:Nat->Nat->St->List Int->Hp->Prop,(∃m,W 0 m σ ns H)/\zex W J g tb Q
section
variable {P:Program}{w:World}{K:PySem.W.Frag}{ix:List (Option Nat)}{wi:TI}{g:TG}{tb:TB}{te:TE}{σ:St}{ns:List Int}{H:Hp}{Q:St->List Int->Hp->Prop}{R:VK}
theorem zkT:tSC P w ix wi g tb σ H R=wi σ H λJ H1=>zaT J g tb (zaQ ix σ) [] H1 λ_ ns H2=>∀D,H2 D=none->D≠sysModules->R (.ref D) (upd H2 D (zbf P w D ns)):=rfl
theorem zoK:zb0 wi g tb σ ns H Q=wi σ H λJ H1=>zaT J g tb σ ns H1 Q:=rfl
theorem zr8:zeH tb σ ns H Q=(tb σ ns H Q\/∃a kvs,H a=some (.dK kvs)/\∀o,tb σ ns (upd H a (.frz o (.dK kvs))) λσ' ns' H'=>zby a kvs H' (Q σ' ns')):=rfl
theorem ztr:zb1 te σ ns H Q=te σ H λv H1=>uN v λn=>ns.length<3000/\Q σ (zy ns n) H1:=by
 unfold zb1
 congr 1
 funext v H1
 apply propext;constructor
 ·rintro ⟨n,rfl,h⟩;exact h
 ·intro h
  cases v with
  | int n=>exact ⟨n,rfl,h⟩
  | _=>exact h.elim
theorem zaT.lst{a:Addr}{xs:List V}(Pv:Nat->St->List Int->Hp->Prop)(ha:∀i τ ns H,Pv i τ ns H->SqL K H a xs)(h0:Pv 0 σ ns H)
  (hs:∀(N:St->List Int->Hp->Prop) i x τ ns H,xs[i]?=some x->Pv i τ ns H->(∀τ ns H,Pv (i+1) τ ns H->N τ ns H)->g x τ H λτ1 H4=>tb τ1 ns H4 N) (hd:∀τ ns H,Pv xs.length τ ns H->Q τ ns H):zaT (Itl K a) g tb σ ns H Q:=by
 refine ⟨λi m τ ns H=>m=xs.length-i/\i<=xs.length/\Pv i τ ns H,⟨xs.length,by simp,zero_le _,h0⟩,?_⟩
 rintro i m τ ys H2 ⟨rfl,hi,p⟩
 have q:=ha i τ ys H2 p
 by_cases hlt:i<xs.length
 ·refine .inr ⟨⟨xs,xs[i],q,by simp [hlt]⟩,λx H' y=>?_⟩
  obtain ⟨e,y⟩:=y
  subst e
  exact hs (λτ1 ys H=>∃m',m'<xs.length-i/\m'=xs.length-(i+1)/\i+1<=xs.length/\Pv (i+1) τ1 ys H) i x τ ys _ (y xs q) p λτ1 zs H q=>⟨xs.length-(i+1),by omega,rfl,hlt,q⟩
 ·have e:i=xs.length:=by omega
  subst e
  exact .inl ⟨⟨xs,q,le_refl _⟩,hd τ ys H2 p⟩
theorem zaT.tup{a:Addr}{xs:List V}(Pv:Nat->St->List Int->Hp->Prop)(ha:∀i τ ns H,Pv i τ ns H->SqT K H a xs)(h0:Pv 0 σ ns H)
  (hs:∀(N:St->List Int->Hp->Prop) i x τ ns H,xs[i]?=some x->Pv i τ ns H->(∀τ ns H,Pv (i+1) τ ns H->N τ ns H)->g x τ H λτ1 H4=>tb τ1 ns H4 N) (hd:∀τ ns H,Pv xs.length τ ns H->Q τ ns H):zaT (Itt K a) g tb σ ns H Q:=by
 refine ⟨λi m τ ns H=>m=xs.length-i/\i<=xs.length/\Pv i τ ns H,⟨xs.length,by simp,zero_le _,h0⟩,?_⟩
 rintro i m τ ys H2 ⟨rfl,hi,p⟩
 have q:=ha i τ ys H2 p
 by_cases hlt:i<xs.length
 ·refine .inr ⟨⟨xs,xs[i],q,by simp [hlt]⟩,λx H' y=>?_⟩
  obtain ⟨e,y⟩:=y
  subst e
  exact hs (λτ1 ys H=>∃m',m'<xs.length-i/\m'=xs.length-(i+1)/\i+1<=xs.length/\Pv (i+1) τ1 ys H) i x τ ys _ (y xs q) p λτ1 zs H q=>⟨xs.length-(i+1),by omega,rfl,hlt,q⟩
 ·have e:i=xs.length:=by omega
  subst e
  exact .inl ⟨⟨xs,q,le_refl _⟩,hd τ ys H2 p⟩
theorem zaT.vals{a:Addr}{o:Obj}{kvs:List (Key×V)}(Pv:Nat->St->List Int->Hp->Prop)(ha:∀i τ ns H,Pv i τ ns H->H a=some (.frz o (.dK kvs)))(h0:Pv 0 σ ns H)
  (hs:∀(N:St->List Int->Hp->Prop) i p τ ns H,kvs[i]?=some p->Pv i τ ns H->(∀τ ns H,Pv (i+1) τ ns H->N τ ns H)->g p.2 τ H λτ1 H4=>tb τ1 ns H4 N) (hd:∀τ ns H,Pv kvs.length τ ns H->Q τ ns H):zaT (Itw a o kvs) g tb σ ns H Q:=by
 refine ⟨λi m τ ns H=>m=kvs.length-i/\i<=kvs.length/\Pv i τ ns H,⟨kvs.length,by simp,zero_le _,h0⟩,?_⟩
 rintro i m τ ys H2 ⟨rfl,hi,p⟩
 have q:=ha i τ ys H2 p
 by_cases hlt:i<kvs.length
 ·refine .inr ⟨⟨q,hlt⟩,λx H' y=>?_⟩
  obtain ⟨e,z,hz,ex⟩:=y
  subst e ex
  exact hs (λτ1 ys H=>∃m',m'<kvs.length-i/\m'=kvs.length-(i+1)/\i+1<=kvs.length/\Pv (i+1) τ1 ys H) i z τ ys _ hz p λτ1 zs H q=>⟨kvs.length-(i+1),by omega,rfl,hlt,q⟩
 ·have e:i=kvs.length:=by omega
  subst e
  exact .inl ⟨⟨q,le_refl _⟩,hd τ ys H2 p⟩
theorem zat.vals{a:Addr}{o:Obj}{kvs:List (Key×V)}{τ:St}{tt:TT}(Pv:Nat->St->List V->Hp->Prop)(hz:∀i τ ys H,Pv i τ ys H->ys.length<sizeLine)(ha:∀i τ ys H,Pv i τ ys H->H a=some (.frz o (.dK kvs)))(h0:Pv 0 τ [] H)
  (hs:∀(N:St->List V->Hp->Prop) i p τ ys H,kvs[i]?=some p->Pv i τ ys H->(∀τ ys H,Pv (i+1) τ ys H->N τ ys H)->g p.2 τ H λτ1 H4=>tt τ1 H4 λok H5=>zbt N ys τ1 te ok H5) (hd:∀τ ys H,Pv kvs.length τ ys H->∀D H',New H D (.lst ys) H'->R (.ref D) H'):zat (Itw a o kvs) g tt te τ H R:=by
 refine ⟨λi m τ ys H=>m=kvs.length-i/\i<=kvs.length/\Pv i τ ys H,⟨kvs.length,by simp,zero_le _,h0⟩,?_⟩
 rintro i m τ ys H2 ⟨rfl,hi,p⟩
 refine ⟨hz i τ ys H2 p,?_⟩
 have q:=ha i τ ys H2 p
 by_cases hlt:i<kvs.length
 ·refine .inr ⟨⟨q,hlt⟩,λx H' y=>?_⟩
  obtain ⟨e,z,hz,ex⟩:=y
  subst e ex
  exact hs (λτ1 ys H=>∃m',m'<kvs.length-i/\m'=kvs.length-(i+1)/\i+1<=kvs.length/\Pv (i+1) τ1 ys H) i z τ ys _ hz p λτ1 zs H q=>⟨kvs.length-(i+1),by omega,rfl,hlt,q⟩
 ·have e:i=kvs.length:=by omega
  subst e
  exact .inl ⟨⟨q,le_refl _⟩,λD hD _=>hd τ ys H2 p D _ (.mk' hD)⟩
theorem zm5{X:Cx}{sc:Scope}{N':List Str}{Ga:List (Addr×Obj)}{C:Addr}{fp:List Addr}{s:Shared}{H:Hp}{tg l:Expr}{tl:TE}(hl:W (PE (zN X sc N' Ga C fp s H) l tl)):W (PIc true (zN X sc N' Ga C fp s H) tg l (zd6 X.K tl)):=⟨zsa (hl:=hl.h)⟩
end
section
variable {Y:Cx}{sc:Scope}{N':List Str}{Ga:List (Addr×Obj)}{D:Addr}{fp:List Addr}{s:Shared}{H:Hp}
end
section
variable {K:PySem.W.Frag}{g:TG}{tt:TT}{tk tv:TE}{H:Hp}{Q:VK}
theorem zdl.tup{a:Addr}{xs:List V}{τ:St}(Pv:Nat->St->List (Key×V)->Hp->Prop)(hz:∀i τ ys H,Pv i τ ys H->ys.length<sizeLine)(ha:∀i τ ys H,Pv i τ ys H->SqT K H a xs)(h0:Pv 0 τ [] H)
  (hs:∀(N:St->List (Key×V)->Hp->Prop) i x τ ys H,xs[i]?=some x->Pv i τ ys H->(∀τ ys H,Pv (i+1) τ ys H->N τ ys H)->g x τ H λτ1 H4=>tt τ1 H4 λok H5=>zeD N ys τ1 tk tv ok H5) (hd:∀τ ys H,Pv xs.length τ ys H->∀D H',New H D (.dK ys) H'->Q (.ref D) H'):zdl (Itt K a) g tt tk tv τ H Q:=by
 refine ⟨λi m τ ys H=>m=xs.length-i/\i<=xs.length/\Pv i τ ys H,⟨xs.length,by simp,zero_le _,h0⟩,?_⟩
 rintro i m τ ys H2 ⟨rfl,hi,p⟩
 refine ⟨hz i τ ys H2 p,?_⟩
 have q:=ha i τ ys H2 p
 by_cases hlt:i<xs.length
 ·refine .inr ⟨⟨xs,xs[i],q,by simp [hlt]⟩,λx H' y=>?_⟩
  obtain ⟨e,y⟩:=y
  subst e
  exact hs (λτ1 ys H=>∃m',m'<xs.length-i/\m'=xs.length-(i+1)/\i+1<=xs.length/\Pv (i+1) τ1 ys H) i x τ ys _ (y xs q) p λτ1 zs H q=>⟨xs.length-(i+1),by omega,rfl,hlt,q⟩
 ·have e:i=xs.length:=by omega
  subst e
  exact .inl ⟨⟨xs,q,le_refl _⟩,λD hD _=>hd τ ys H2 p D _ (.mk' hD)⟩
end
section
variable {X:Cx}
def zlV(td ty:TE):TE:=λσ H Q=>td σ H λx H1=>uR x λa=>(∃kvs,Rd H1 a (.dK kvs))/\ty σ H1 λy H2=>uK y λk=>∃kvs,Rd H2 a (.dK kvs)/\Q ((zJ kvs k).getD .non) H2
theorem zkH{td ty:TE}{σ:St}{H:Hp}{Q:VK}:zlV td ty σ H Q=td σ H λx H1=>uR x λa=>(∃kvs,Rd H1 a (.dK kvs))/\ty σ H1 λy H2=>uK y λk=>∃kvs,Rd H2 a (.dK kvs)/\Q ((zJ kvs k).getD .non) H2:=rfl
def zqI:R2:=λx y H Q=>∃a b kvs,x = .ref a/\y = .ref b/\Rd H a (.dK kvs)/\H b=some (.dK [])/\Q (.bl (!decide (kvs=[]))) H
theorem zo7{a b:Addr}{H:Hp}{Q:VK}:zqI (.ref a) (.ref b) H Q = ∃kvs,Rd H a (.dK kvs)/\H b=some (.dK [])/\Q (.bl (!decide (kvs=[]))) H:=by
 apply propext;constructor
 ·rintro ⟨a',b',kvs,e1,e2,h⟩;cases e1;cases e2;exact ⟨kvs,h⟩
 ·rintro ⟨kvs,h⟩;exact ⟨a,b,kvs,rfl,rfl,h⟩
def zoz:List V->Hp->VK->Prop:=λxs H Q=>∃j:Int,xs=[.int j]/\∀p H2,New H p (.rng 0 j) H2->Q (.ref p) H2
theorem zng{j:Int}{H:Hp}{Q:VK}:zoz [.int j] H Q = ∀p H2,New H p (.rng 0 j) H2->Q (.ref p) H2:=by
 apply propext;constructor
 ·rintro ⟨j',e,h⟩;cases e;exact h
 ·exact λh=>⟨j,rfl,h⟩
def znS:List V->Hp->VK->Prop:=λxs H Q=>uR1 xs λr=>∃n:Nat,H r=some (.rng 0 n)/\n<=1000000/\∀p H2,New H p (.lst ((List.range n).map λ(i:Nat)=>V.int i)) H2->Q (.ref p) H2
theorem ztv{r:Addr}{H:Hp}{Q:VK}:znS [.ref r] H Q = ∃n:Nat,H r=some (.rng 0 n)/\n<=1000000/\∀p H2,New H p (.lst ((List.range n).map λ(i:Nat)=>V.int i)) H2->Q (.ref p) H2:=za3
def EqR(H:Hp)(x y:V)(b:Bool):Prop:=∃p q zs ws,x = .ref p/\y = .ref q/\H p=some (.tup zs)/\H q=some (.tup ws)/\zs.all zC=true/\ws.all zC=true/\b=eqL zs ws
theorem EqR.at{Ga:List (Addr×Obj)}{σ:St}{H:Hp}{s:Shared}{x y:V}{u v:Value}{b:Bool}{A:Around}(I:Inv X Ga σ H s)(h:EqR H x y b)(rx:zi x u)(ry:zi y v)(hu:A.units<cLine):SeqAt.EqAt A s u v b:=by
 obtain ⟨p,q,xs,ys,rfl,rfl,ha,hb,fx,fy,rfl⟩:=h
 cases rx
 cases ry
 by_cases hpq:p=q
 ·subst hpq
  rw [ha] at hb
  cases hb
  rw [zgK fx λx hx b e=>by have:=all_eq_true.mp fx x hx;rw [e] at this;cases this]
  exact SeqAt.EqAt.same _
 obtain ⟨is,r1,p1,_⟩:=I.tuple (SqT.of (K:=X.K) ha)
 obtain ⟨js,r2,p2,_⟩:=I.tuple (SqT.of (K:=X.K) hb)
 have l1:=r1.length
 have l2:=r2.length
 have z:=SeqAt.RcAt.tuples (A:=A) (e:=λj=>eqV (xs.getD j .non) (ys.getD j .non)) p1 p2 hu λj h1 h2=>by
  simp only [size_toArray] at h1 h2
  have e1:xs[j]?=some (xs.getD j .non):=by rw [getD_eq_getElem?_getD,List.getElem?_eq_getElem (by omega)];rfl
  have e2:ys[j]?=some (ys.getD j .non):=by rw [getD_eq_getElem?_getD,List.getElem?_eq_getElem (by omega)];rfl
  obtain ⟨u,g1,q1⟩:=r1.get e1
  obtain ⟨v,g2,q2⟩:=r2.get e2
  rw [List.getElem?_eq_getElem h1] at g1
  rw [List.getElem?_eq_getElem h2] at g2
  have w1:is.toArray[j]=u:=by simpa using Option.some.inj g1
  have w2:js.toArray[j]=v:=by simpa using Option.some.inj g2
  rw [w1,w2]
  exact zf2 q1 q2 (all_eq_true.mp fx _ (mem_of_getElem? e1)) (all_eq_true.mp fy _ (mem_of_getElem? e2))
 have e:eqL xs ys=((List.range (min is.toArray.size js.toArray.size)).all (λj=>eqV (xs.getD j .non) (ys.getD j .non))&&is.toArray.size==js.toArray.size):=by
  unfold eqL
  simp only [size_toArray]
  rw [l1,l2]
  by_cases hz:is.length=js.length
  ·rw [hz];simp
  ·have z:(is.length==js.length)=false:=by simpa using hz
   rw [z,Bool.false_and,Bool.and_false]
 rw [e]
 exact .of_refs hpq z
def zq2(neg:Bool):R2:=λx y H Q=>∃a b xs ys,x = .ref a/\y = .ref b/\H a=some (.lst xs)/\H b=some (.lst ys)/\((xs.length≠ys.length/\Q (.bl neg) H)\/(xs.length=ys.length/\∃e:Nat->Bool,(∀j p q,xs[j]?=some p->ys[j]?=some q->EqR H p q (e j))/\Q (.bl (if neg then !(List.range xs.length).all e else (List.range xs.length).all e)) H))
theorem zmO{neg:Bool}{a b:Addr}{H:Hp}{Q:VK}:zq2 neg (.ref a) (.ref b) H Q = ∃xs ys,H a=some (.lst xs)/\H b=some (.lst ys)/\((xs.length≠ys.length/\Q (.bl neg) H)\/(xs.length=ys.length/\∃e:Nat->Bool,(∀j p q,xs[j]?=some p->ys[j]?=some q->EqR H p q (e j))/\Q (.bl (if neg then !(List.range xs.length).all e else (List.range xs.length).all e)) H)):=by
 apply propext;constructor
 ·rintro ⟨a',b',xs,ys,e1,e2,h⟩;cases e1;cases e2;exact ⟨xs,ys,h⟩
 ·rintro ⟨xs,ys,h⟩;exact ⟨a,b,xs,ys,rfl,rfl,h⟩
end
def isB(b:Bool):Value->Bool | .bool a=>a==b|_=>false
theorem zhp(b:Bool):∀bs:List Bool,(bs.map Value.bool).countP (isB b)=bs.count b
 | []=>rfl
 | c::bs=>by
  rw [map_cons,List.countP_cons,List.count_cons,zhp b bs]
  rfl
section
variable {X:Cx}
def zeE:V->List V->Hp->VK->Prop:=λx vs H Q=>∃l b,x = .ref l/\vs=[.bl b]/\∃bs:List Bool,H l=some (.lst (bs.map V.bl))/\Q (.int (bs.count b:Nat)) H
def zeT:V->List V->Hp->VK->Prop:=λx vs H Q=>∃l b,x = .ref l/\vs=[.bl b]/\∃bs:List Bool,H l=some (.lst (bs.map V.bl))/\∃j,bs[j]?=some b/\(∀m,m<j->bs[m]?≠some b)/\Q (.int (j:Nat)) H
theorem zmM{l:Addr}{b:Bool}{H:Hp}{Q:VK}:zeE (.ref l) [.bl b] H Q = ∃bs:List Bool,H l=some (.lst (bs.map V.bl))/\Q (.int (bs.count b:Nat)) H:=by
 apply propext;constructor
 ·rintro ⟨l',b',e1,e2,h⟩;cases e1;cases e2;exact h
 ·exact λh=>⟨l,b,rfl,rfl,h⟩
theorem zlO{l:Addr}{b:Bool}{H:Hp}{Q:VK}:zeT (.ref l) [.bl b] H Q = ∃bs:List Bool,H l=some (.lst (bs.map V.bl))/\∃j,bs[j]?=some b/\(∀m,m<j->bs[m]?≠some b)/\Q (.int (j:Nat)) H:=by
 apply propext;constructor
 ·rintro ⟨l',b',e1,e2,h⟩;cases e1;cases e2;exact h
 ·exact λh=>⟨l,b,rfl,rfl,h⟩
theorem zhg{A:Around}{s:Shared}{bs:List Bool}{b:Bool}(y:Value)(hy:y∈(bs.map Value.bool).toArray):SeqAt.EqAt A s y (.bool b) (isB b y):=by
 rw [List.mem_toArray] at hy
 obtain ⟨a,_,rfl⟩:=mem_map.mp hy
 exact SeqAt.EqAt.bool_bool a b
theorem zre:MtM X "list.count" zeE:=by
 intro Ga s σ H x vs v us Q I rx rv h
 obtain ⟨l,b,rfl,rfl,bs,hH,q⟩:=h
 cases rx
 obtain ⟨u,rfl,ru⟩:=rv.one
 obtain rfl:u=Value.bool b:=ru
 obtain ⟨z,its,n,r,hl,e⟩:=I.lstM hH
 obtain rfl:=zfO r
 refine call_meets F.slot_list_count ⟨_,e,rfl⟩ F.entry_list_count (F.args_list_count_2 _ _) (SeqAt.list_countAt l (bs.map Value.bool).toArray n none #[] (.bool b) (isB b)) ⟨e,λy hy=>zhg y hy,?_⟩
 rw [show (bs.map Value.bool).toArray.toList=bs.map Value.bool from rfl,zhp]
 exact ⟨.int _,H,I.tok _,⟨_,rfl⟩,q⟩
theorem zqc:MtM X "list.index" zeT:=by
 intro Ga s σ H x vs v us Q I rx rv h
 obtain ⟨l,b,rfl,rfl,bs,hH,j,hj,hno,q⟩:=h
 cases rx
 obtain ⟨u,rfl,ru⟩:=rv.one
 obtain rfl:u=Value.bool b:=ru
 obtain ⟨z,its,n,r,hl,e⟩:=I.lstM hH
 obtain rfl:=zfO r
 obtain ⟨hlt,ej⟩:=List.getElem?_eq_some_iff.mp hj
 rw [length_map,sizeLine_eq] at z
 refine call_meets F.slot_list_index ⟨_,e,rfl⟩ F.entry_list_index (F.args_list_index_2 _ _) (SeqAt.list_indexAt l (bs.map Value.bool).toArray n none #[] (.bool b) (isB b) j (by simpa using hlt) (by omega) ?_ ?_) ⟨e,λy hy=>zhg y hy,⟨.int _,H,I.tok _,⟨_,rfl⟩,q⟩⟩
 ·show isB b ((bs.map Value.bool).toArray[j]'(by simpa using hlt))=true
  simp [isB,ej]
 ·intro m hm hlt'
  have hm':m<bs.length:=by simpa using hm
  have hne:bs[m]≠b:=λz=>hno m hlt' (by rw [List.getElem?_eq_getElem hm',z])
  show isB b ((bs.map Value.bool).toArray[m]'hm)=false
  simp [isB,hne]
def uLm(R:V->List V->Hp->VK->Prop)(to te:TE):TE:=λσ H Q=>to σ H λx H1=>uR x λl=>(∃xs,H1 l=some (.lst xs))/\te σ H1 λy H2=>R (.ref l) [y] H2 Q
theorem zoi{R:V->List V->Hp->VK->Prop}{to te:TE}{σ:St}{H:Hp}{Q:VK}:uLm R to te σ H Q=to σ H λx H1=>uR x λl=>(∃xs,H1 l=some (.lst xs))/\te σ H1 λy H2=>R (.ref l) [y] H2 Q:=rfl
theorem zik{R:V->List V->Hp->VK->Prop}{nm:Str}{id:String}(slot:Slot "list" nm id)(ty:typeOf (.builtin id)=pure (.type "method_descriptor"))(hm:MtM X id R){o e:Expr}{to te:TE}{apos cpos:Pos}(ho:PE X o to)(he:PE X e te)
  (hbase:attributeBase o nm X.env (eval o X.env)=eval o X.env) (hline:(apos.endLine==cpos.line)=true) (hp:zZ e=true):PE X (.Call (.Attribute o nm apos) [e] [] cpos) (uLm R to te):=by
 intro Ga s σ H Q I h
 have hs:starEach [e] X.env=[(false,eval e X.env)]:=zd8 hp
 refine wpAny_Call_method_late hbase (by rw [hs];rfl) hline rfl (thn (ho Ga s σ H _ I h) λv s1 ⟨x,H1,I1,r1,l,ex,⟨xs,hx⟩,q1⟩=>?_)
 subst ex
 obtain ⟨h1,h2⟩:=zgh (T:="list") I1 r1 (.inl ⟨rfl,xs,SqL.of hx⟩)
 refine ⟨"list",id,PySem.F.plainAttrs_list,slot,ty,h1,h2,?_⟩
 rw [hs]
 refine Calls.callWith_builtin rfl (Calls.evalArgs_plain ?_)
 have hA:=zdT he zdL (hs:=hs) cpos Ga s1 σ H1 (λys H2=>match ys with|[y]=>R (.ref l) [y] H2 Q|_=>False) I1 q1
 rw [hs] at hA
 refine thn hA λus s2 ⟨vs,H2,I2,r2,q2⟩=>?_
 match vs,q2,r2 with
 | [_],q2,r2=>exact hm Ga s2 σ H2 (.ref l) _ v us Q I2 r1 r2 q2
theorem ztd{o e:Expr}{to te:TE}{apos cpos:Pos}(ho:PE X o to)(he:PE X e te)(hbase:attributeBase o "count" X.env (eval o X.env)=eval o X.env:=by rfl)(hline:(apos.endLine==cpos.line)=true:=by rfl)(hp:zZ e=true:=by rfl):PE X (.Call (.Attribute o "count" apos) [e] [] cpos) (uLm zeE to te):=zik PySem.F.slot_list_count PySem.F.type_list_count zre ho he hbase hline hp
theorem zrH{o e:Expr}{to te:TE}{apos cpos:Pos}(ho:PE X o to)(he:PE X e te)(hbase:attributeBase o "index" X.env (eval o X.env)=eval o X.env:=by rfl)(hline:(apos.endLine==cpos.line)=true:=by rfl)(hp:zZ e=true:=by rfl):PE X (.Call (.Attribute o "index" apos) [e] [] cpos) (uLm zeT to te):=zik PySem.F.slot_list_index PySem.F.type_list_index zqc ho he hbase hline hp
theorem zmL{o e:Expr}{to te:TE}{apos cpos:Pos}(ho:W (PE X o to))(he:W (PE X e te))(hbase:attributeBase o "count" X.env (eval o X.env)=eval o X.env:=by rfl)(hline:(apos.endLine==cpos.line)=true:=by rfl)(hp:zZ e=true:=by rfl):W (PE X (.Call (.Attribute o "count" apos) [e] [] cpos) (uLm zeE to te)):=⟨ztd ho.h he.h hbase hline hp⟩
theorem zp3{o e:Expr}{to te:TE}{apos cpos:Pos}(ho:W (PE X o to))(he:W (PE X e te))(hbase:attributeBase o "index" X.env (eval o X.env)=eval o X.env:=by rfl)(hline:(apos.endLine==cpos.line)=true:=by rfl)(hp:zZ e=true:=by rfl):W (PE X (.Call (.Attribute o "index" apos) [e] [] cpos) (uLm zeT to te)):=⟨zrH ho.h he.h hbase hline hp⟩
theorem zn3{i j:Nat}{ta:TA}{D:zad}{σ:St}{H:Hp}:zln i j ta D σ H=ta σ H λvs H1=>∃v w,vs=[v,w]/\D.nx ((σ.set i (some v)).set j (some w)) H1:=rfl
end
end L2
namespace K25
open PySem PySem.Spec PyProof.Rows L2
open PySem.W (Frag OpenLaw WalkO findIn kitOne mroIn)
local macro_rules | `(tactic| simp_all only [$ls,*])=>`(tactic| try simp only [zb6,tC,zgH,tOr,zfm,tIf,ze5,zeY,ztl,zmp,zfx,zgl,zl2,zf6,zbm,zq7,zrQ,zdj,zpb,ipI,tOp,tUn,zbn,zeQ,zfa,zfv,zf4,zeW,ze7,zsB,zot,tCB,zeo,zsV,zq4,zhV,zhD,zqS,zec,zfc,zgz,zjF,zjN,zkQ,zrB,zna,zpk,zpI,zdF,zlP,zlj,zrr,zfe,zmI,zqM,zk0,zpm,zsF,zlI,zqn,znt,zls,zkb,zl7,zoN,zjA,zpx,zlz,zqe,znr,ze4,zrz,zrb,zmr,znU,zoF,zms,zsR,zj7,zol,zrM,zaQ,bind_some,Option.bind_none,Option.join_some,zgb,and_assoc,exists_and_left,exists_and_right,exists_eq_left',exists_eq_left,exists_eq,exists_eq',exists_eq_right,exists_eq_right',and_true,true_and,and_false,false_and,or_false,false_or,exists_false,exists_const,Option.some.injEq,V.int.injEq,V.str.injEq,V.ref.injEq,V.bl.injEq,V.ty.injEq,HO.lst.injEq,HO.tup.injEq,HO.ins.injEq,List.cons.injEq,reduceCtorEq,reduceIte,false_eq_true,List.getElem?_cons_zero,List.getElem?_cons_succ,List.set_cons_zero,List.set_cons_succ,List.nil_append,List.cons_append,append_nil,length_cons,length_nil,L2.start,map_cons,map_nil,replicate,Nat.reduceSub,Nat.reduceAdd,Bool.not_true,Bool.not_false,zmR,zrV,zsg,zs3,zlY,zqu,zpJ,zs9,zhy,zhz,tSl,zfI,zrP,zkf,zjH,zgr,zki,zr9,zfp,zeC,zin,zkF,zld,za3,zlm,zq1,zjP,zsU,zoQ,zqo,znx,ztp,zph,zlh,zlC,zsp,zts,zji,ziw,zqx,zqg,zj1,zny,zmU,zjV,zoq,zsx,zkR,zqd,zqZ,zsW,zi6,zid,zqy,zqv,zhs,zsC,znJ,zsr,zmN,zqY,zrx,zoa,zkj,znN,zkl,zmo,zmK,zsi,zma,zmk,zl6,zs8,zrt,zrK,zlA,zta,zro,zo1,zs7,zrL,zlR,zlu,zlb,zsb,zl0,zog,zsA,zoY,znG,zoX,zpC,znq,zmG,zow,zks,zlJ,zjY,zkz,zmv,zn7,zmt,zmg,zsS,zon,zmq,zsc,zqP,zmC,zm8,zp4,zsT,zoo,zqj,zlp,zoI,zjO,zrm,zni,zn2,zkT,zoK,zr8,ztr,zpf,zkH,zo7,zng,ztv,zmO,zoi,zmM,zlO,zn3,$ls,*])
def top(i:Nat):Stmt:=PySem.Challenge.pw_cleanrows_k25_whole_apart.main.body.getD i (.Pass ⟨0,0,0,0⟩)
structure zh where
 CleanError:Addr
 NoRow:Addr
 NoDisk:Addr
 Full:Addr
 Stopped:Addr
 NoFile:Addr
 NoPlace:Addr
 HeldAlready:Addr
 NotHeld:Addr
 NoFiles:Addr
 NoMark:Addr
 NoRoom:Addr
 Gone:Addr
 NotClosed:Addr
 NotBlank:Addr
 NoDeed:Addr
 NoHouse:Addr
 Files:Addr
structure Txt(K:Frag)(mg:Str->Option Value)(A:zh):Prop where
 n_ValueError:mg "ValueError"=none
 n_all:mg "all"=none
 n_bool:mg "bool"=none
 n_dict:mg "dict"=none
 n_divmod:mg "divmod"=none
 n_int:mg "int"=none
 n_isinstance:mg "isinstance"=none
 n_len:mg "len"=none
 n_list:mg "list"=none
 n_max:mg "max"=none
 n_min:mg "min"=none
 n_range:mg "range"=none
 n_set:mg "set"=none
 n_sorted:mg "sorted"=none
 mg_CleanError:mg "CleanError"=some (.ref A.CleanError)
 mg_NoRow:mg "NoRow"=some (.ref A.NoRow)
 mg_NoDisk:mg "NoDisk"=some (.ref A.NoDisk)
 mg_Full:mg "Full"=some (.ref A.Full)
 mg_Stopped:mg "Stopped"=some (.ref A.Stopped)
 mg_NoFile:mg "NoFile"=some (.ref A.NoFile)
 mg_NoPlace:mg "NoPlace"=some (.ref A.NoPlace)
 mg_HeldAlready:mg "HeldAlready"=some (.ref A.HeldAlready)
 mg_NotHeld:mg "NotHeld"=some (.ref A.NotHeld)
 mg_NoFiles:mg "NoFiles"=some (.ref A.NoFiles)
 mg_NoMark:mg "NoMark"=some (.ref A.NoMark)
 mg_NoRoom:mg "NoRoom"=some (.ref A.NoRoom)
 mg_Gone:mg "Gone"=some (.ref A.Gone)
 mg_NotClosed:mg "NotClosed"=some (.ref A.NotClosed)
 mg_NotBlank:mg "NotBlank"=some (.ref A.NotBlank)
 mg_NoDeed:mg "NoDeed"=some (.ref A.NoDeed)
 mg_NoHouse:mg "NoHouse"=some (.ref A.NoHouse)
 mg_Files:mg "Files"=some (.ref A.Files)
 ek_CleanError:zaB K A.CleanError
 ek_NoFile:zaB K A.NoFile
 ek_NoPlace:zaB K A.NoPlace
 ek_HeldAlready:zaB K A.HeldAlready
 ek_NotHeld:zaB K A.NotHeld
 ec_NoFile:zbA K A.NoFile
 mro_NoFile:mroIn K A.NoFile (.ref A.CleanError)=some true
 k_NoFile_ValueError:kitOne K (.ref A.NoFile) (.type "ValueError")=some true
 k_NoFile_NoRow:kitOne K (.ref A.NoFile) (.ref A.NoRow)=some false
 k_NoFile_NoDisk:kitOne K (.ref A.NoFile) (.ref A.NoDisk)=some false
 k_NoFile_Full:kitOne K (.ref A.NoFile) (.ref A.Full)=some false
 k_NoFile_Stopped:kitOne K (.ref A.NoFile) (.ref A.Stopped)=some false
 k_NoFile_NoFile:kitOne K (.ref A.NoFile) (.ref A.NoFile)=some true
 k_NoFile_NoPlace:kitOne K (.ref A.NoFile) (.ref A.NoPlace)=some false
 k_NoFile_HeldAlready:kitOne K (.ref A.NoFile) (.ref A.HeldAlready)=some false
 k_NoFile_NotHeld:kitOne K (.ref A.NoFile) (.ref A.NotHeld)=some false
 k_NoFile_NoFiles:kitOne K (.ref A.NoFile) (.ref A.NoFiles)=some false
 k_NoFile_NoMark:kitOne K (.ref A.NoFile) (.ref A.NoMark)=some false
 k_NoFile_NoRoom:kitOne K (.ref A.NoFile) (.ref A.NoRoom)=some false
 k_NoFile_Gone:kitOne K (.ref A.NoFile) (.ref A.Gone)=some false
 k_NoFile_NotClosed:kitOne K (.ref A.NoFile) (.ref A.NotClosed)=some false
 k_NoFile_NotBlank:kitOne K (.ref A.NoFile) (.ref A.NotBlank)=some false
 k_NoFile_NoDeed:kitOne K (.ref A.NoFile) (.ref A.NoDeed)=some false
 k_NoFile_NoHouse:kitOne K (.ref A.NoFile) (.ref A.NoHouse)=some false
 ec_NoPlace:zbA K A.NoPlace
 mro_NoPlace:mroIn K A.NoPlace (.ref A.CleanError)=some true
 k_NoPlace_ValueError:kitOne K (.ref A.NoPlace) (.type "ValueError")=some true
 k_NoPlace_NoRow:kitOne K (.ref A.NoPlace) (.ref A.NoRow)=some false
 k_NoPlace_NoDisk:kitOne K (.ref A.NoPlace) (.ref A.NoDisk)=some false
 k_NoPlace_Full:kitOne K (.ref A.NoPlace) (.ref A.Full)=some false
 k_NoPlace_Stopped:kitOne K (.ref A.NoPlace) (.ref A.Stopped)=some false
 k_NoPlace_NoFile:kitOne K (.ref A.NoPlace) (.ref A.NoFile)=some false
 k_NoPlace_NoPlace:kitOne K (.ref A.NoPlace) (.ref A.NoPlace)=some true
 k_NoPlace_HeldAlready:kitOne K (.ref A.NoPlace) (.ref A.HeldAlready)=some false
 k_NoPlace_NotHeld:kitOne K (.ref A.NoPlace) (.ref A.NotHeld)=some false
 k_NoPlace_NoFiles:kitOne K (.ref A.NoPlace) (.ref A.NoFiles)=some false
 k_NoPlace_NoMark:kitOne K (.ref A.NoPlace) (.ref A.NoMark)=some false
 k_NoPlace_NoRoom:kitOne K (.ref A.NoPlace) (.ref A.NoRoom)=some false
 k_NoPlace_Gone:kitOne K (.ref A.NoPlace) (.ref A.Gone)=some false
 k_NoPlace_NotClosed:kitOne K (.ref A.NoPlace) (.ref A.NotClosed)=some false
 k_NoPlace_NotBlank:kitOne K (.ref A.NoPlace) (.ref A.NotBlank)=some false
 k_NoPlace_NoDeed:kitOne K (.ref A.NoPlace) (.ref A.NoDeed)=some false
 k_NoPlace_NoHouse:kitOne K (.ref A.NoPlace) (.ref A.NoHouse)=some false
 ec_HeldAlready:zbA K A.HeldAlready
 mro_HeldAlready:mroIn K A.HeldAlready (.ref A.CleanError)=some true
 k_HeldAlready_ValueError:kitOne K (.ref A.HeldAlready) (.type "ValueError")=some true
 k_HeldAlready_NoRow:kitOne K (.ref A.HeldAlready) (.ref A.NoRow)=some false
 k_HeldAlready_NoDisk:kitOne K (.ref A.HeldAlready) (.ref A.NoDisk)=some false
 k_HeldAlready_Full:kitOne K (.ref A.HeldAlready) (.ref A.Full)=some false
 k_HeldAlready_Stopped:kitOne K (.ref A.HeldAlready) (.ref A.Stopped)=some false
 k_HeldAlready_NoFile:kitOne K (.ref A.HeldAlready) (.ref A.NoFile)=some false
 k_HeldAlready_NoPlace:kitOne K (.ref A.HeldAlready) (.ref A.NoPlace)=some false
 k_HeldAlready_HeldAlready:kitOne K (.ref A.HeldAlready) (.ref A.HeldAlready)=some true
 k_HeldAlready_NotHeld:kitOne K (.ref A.HeldAlready) (.ref A.NotHeld)=some false
 k_HeldAlready_NoFiles:kitOne K (.ref A.HeldAlready) (.ref A.NoFiles)=some false
 k_HeldAlready_NoMark:kitOne K (.ref A.HeldAlready) (.ref A.NoMark)=some false
 k_HeldAlready_NoRoom:kitOne K (.ref A.HeldAlready) (.ref A.NoRoom)=some false
 k_HeldAlready_Gone:kitOne K (.ref A.HeldAlready) (.ref A.Gone)=some false
 k_HeldAlready_NotClosed:kitOne K (.ref A.HeldAlready) (.ref A.NotClosed)=some false
 k_HeldAlready_NotBlank:kitOne K (.ref A.HeldAlready) (.ref A.NotBlank)=some false
 k_HeldAlready_NoDeed:kitOne K (.ref A.HeldAlready) (.ref A.NoDeed)=some false
 k_HeldAlready_NoHouse:kitOne K (.ref A.HeldAlready) (.ref A.NoHouse)=some false
 ec_NotHeld:zbA K A.NotHeld
 mro_NotHeld:mroIn K A.NotHeld (.ref A.CleanError)=some true
 k_NotHeld_ValueError:kitOne K (.ref A.NotHeld) (.type "ValueError")=some true
 k_NotHeld_NoRow:kitOne K (.ref A.NotHeld) (.ref A.NoRow)=some false
 k_NotHeld_NoDisk:kitOne K (.ref A.NotHeld) (.ref A.NoDisk)=some false
 k_NotHeld_Full:kitOne K (.ref A.NotHeld) (.ref A.Full)=some false
 k_NotHeld_Stopped:kitOne K (.ref A.NotHeld) (.ref A.Stopped)=some false
 k_NotHeld_NoFile:kitOne K (.ref A.NotHeld) (.ref A.NoFile)=some false
 k_NotHeld_NoPlace:kitOne K (.ref A.NotHeld) (.ref A.NoPlace)=some false
 k_NotHeld_HeldAlready:kitOne K (.ref A.NotHeld) (.ref A.HeldAlready)=some false
 k_NotHeld_NotHeld:kitOne K (.ref A.NotHeld) (.ref A.NotHeld)=some true
 k_NotHeld_NoFiles:kitOne K (.ref A.NotHeld) (.ref A.NoFiles)=some false
 k_NotHeld_NoMark:kitOne K (.ref A.NotHeld) (.ref A.NoMark)=some false
 k_NotHeld_NoRoom:kitOne K (.ref A.NotHeld) (.ref A.NoRoom)=some false
 k_NotHeld_Gone:kitOne K (.ref A.NotHeld) (.ref A.Gone)=some false
 k_NotHeld_NotClosed:kitOne K (.ref A.NotHeld) (.ref A.NotClosed)=some false
 k_NotHeld_NotBlank:kitOne K (.ref A.NotHeld) (.ref A.NotBlank)=some false
 k_NotHeld_NoDeed:kitOne K (.ref A.NotHeld) (.ref A.NoDeed)=some false
 k_NotHeld_NoHouse:kitOne K (.ref A.NotHeld) (.ref A.NoHouse)=some false
 cl_Files:Cls K A.Files
 na_Files_births:zbe K A.Files "births"
 na_Files_kept:zbe K A.Files "kept"
theorem Txt.c_NoRow{K:Frag}{mg:Str->Option Value}{A:zh}(T:Txt K mg A):∃u,mg "NoRow"=some u/\zi (.ref A.NoRow) u:=⟨_,T.mg_NoRow,rfl⟩
theorem Txt.c_NoDisk{K:Frag}{mg:Str->Option Value}{A:zh}(T:Txt K mg A):∃u,mg "NoDisk"=some u/\zi (.ref A.NoDisk) u:=⟨_,T.mg_NoDisk,rfl⟩
theorem Txt.c_Full{K:Frag}{mg:Str->Option Value}{A:zh}(T:Txt K mg A):∃u,mg "Full"=some u/\zi (.ref A.Full) u:=⟨_,T.mg_Full,rfl⟩
theorem Txt.c_Stopped{K:Frag}{mg:Str->Option Value}{A:zh}(T:Txt K mg A):∃u,mg "Stopped"=some u/\zi (.ref A.Stopped) u:=⟨_,T.mg_Stopped,rfl⟩
theorem Txt.c_NoFile{K:Frag}{mg:Str->Option Value}{A:zh}(T:Txt K mg A):∃u,mg "NoFile"=some u/\zi (.ref A.NoFile) u:=⟨_,T.mg_NoFile,rfl⟩
theorem Txt.c_NoPlace{K:Frag}{mg:Str->Option Value}{A:zh}(T:Txt K mg A):∃u,mg "NoPlace"=some u/\zi (.ref A.NoPlace) u:=⟨_,T.mg_NoPlace,rfl⟩
theorem Txt.c_HeldAlready{K:Frag}{mg:Str->Option Value}{A:zh}(T:Txt K mg A):∃u,mg "HeldAlready"=some u/\zi (.ref A.HeldAlready) u:=⟨_,T.mg_HeldAlready,rfl⟩
theorem Txt.c_NotHeld{K:Frag}{mg:Str->Option Value}{A:zh}(T:Txt K mg A):∃u,mg "NotHeld"=some u/\zi (.ref A.NotHeld) u:=⟨_,T.mg_NotHeld,rfl⟩
theorem Txt.c_NoFiles{K:Frag}{mg:Str->Option Value}{A:zh}(T:Txt K mg A):∃u,mg "NoFiles"=some u/\zi (.ref A.NoFiles) u:=⟨_,T.mg_NoFiles,rfl⟩
theorem Txt.c_NoMark{K:Frag}{mg:Str->Option Value}{A:zh}(T:Txt K mg A):∃u,mg "NoMark"=some u/\zi (.ref A.NoMark) u:=⟨_,T.mg_NoMark,rfl⟩
theorem Txt.c_NoRoom{K:Frag}{mg:Str->Option Value}{A:zh}(T:Txt K mg A):∃u,mg "NoRoom"=some u/\zi (.ref A.NoRoom) u:=⟨_,T.mg_NoRoom,rfl⟩
theorem Txt.c_Gone{K:Frag}{mg:Str->Option Value}{A:zh}(T:Txt K mg A):∃u,mg "Gone"=some u/\zi (.ref A.Gone) u:=⟨_,T.mg_Gone,rfl⟩
theorem Txt.c_NotClosed{K:Frag}{mg:Str->Option Value}{A:zh}(T:Txt K mg A):∃u,mg "NotClosed"=some u/\zi (.ref A.NotClosed) u:=⟨_,T.mg_NotClosed,rfl⟩
theorem Txt.c_NotBlank{K:Frag}{mg:Str->Option Value}{A:zh}(T:Txt K mg A):∃u,mg "NotBlank"=some u/\zi (.ref A.NotBlank) u:=⟨_,T.mg_NotBlank,rfl⟩
theorem Txt.c_NoDeed{K:Frag}{mg:Str->Option Value}{A:zh}(T:Txt K mg A):∃u,mg "NoDeed"=some u/\zi (.ref A.NoDeed) u:=⟨_,T.mg_NoDeed,rfl⟩
theorem Txt.c_NoHouse{K:Frag}{mg:Str->Option Value}{A:zh}(T:Txt K mg A):∃u,mg "NoHouse"=some u/\zi (.ref A.NoHouse) u:=⟨_,T.mg_NoHouse,rfl⟩
theorem ztC:(("births":Str) == "kept")=false:=by decide +kernel
theorem zmf:(("kept":Str) == "births")=false:=by decide +kernel
theorem zs5:(("names":Str) == "births")=false:=by decide +kernel
theorem zpn:(("names":Str) == "kept")=false:=by decide +kernel
theorem zsf:(("many":Str) == "births")=false:=by decide +kernel
theorem ztu:(("many":Str) == "kept")=false:=by decide +kernel
theorem zlB:(("birth":Str) == "births")=false:=by decide +kernel
theorem zmX:(("birth":Str) == "kept")=false:=by decide +kernel
theorem zn4:(("put":Str) == "births")=false:=by decide +kernel
theorem zn1:(("put":Str) == "kept")=false:=by decide +kernel
theorem zla:(("cut":Str) == "births")=false:=by decide +kernel
theorem zoM:(("cut":Str) == "kept")=false:=by decide +kernel
theorem zlZ:(("hold":Str) == "births")=false:=by decide +kernel
theorem zme:(("hold":Str) == "kept")=false:=by decide +kernel
theorem zpd:(("free":Str) == "births")=false:=by decide +kernel
theorem zsN:(("free":Str) == "kept")=false:=by decide +kernel
theorem zp0:(("held":Str) == "births")=false:=by decide +kernel
theorem zqQ:(("held":Str) == "kept")=false:=by decide +kernel
theorem zti:(("of_held":Str) == "births")=false:=by decide +kernel
theorem zmy:(("of_held":Str) == "kept")=false:=by decide +kernel
theorem zpv:(("living":Str) == "births")=false:=by decide +kernel
theorem zmJ:(("living":Str) == "kept")=false:=by decide +kernel
theorem zpo:(("copied":Str) == "births")=false:=by decide +kernel
theorem zpT:(("copied":Str) == "kept")=false:=by decide +kernel
theorem zkW:(("bare":Str) == "births")=false:=by decide +kernel
theorem zqE:(("bare":Str) == "kept")=false:=by decide +kernel
theorem zlr:(("keep":Str) == "births")=false:=by decide +kernel
theorem zkX:(("keep":Str) == "kept")=false:=by decide +kernel
theorem zmS:(("refuse_if_none":Str) == "births")=false:=by decide +kernel
theorem zrs:(("refuse_if_none":Str) == "kept")=false:=by decide +kernel
theorem zoW:(("refuse_if_not_held":Str) == "births")=false:=by decide +kernel
theorem zrl:(("refuse_if_not_held":Str) == "kept")=false:=by decide +kernel
theorem zh9:(("births":Str)="kept")=False:=by simpa using ztC
theorem zcZ{n:Nat}(h:n<=1000000):n<=sizeLine:=le_trans h (by decide)
abbrev zcC:Stmt:=top 19
abbrev zdd:Stmt:=top 20
inductive Thg(H:Hp):V->Prop
 | non:Thg H .non
 | bl (b:Bool):Thg H (.bl b)
 | int (i:Int):Thg H (.int i)
 | str (x:Str):Thg H (.str x)
 | lst {a:Addr}{xs:List V}:H a=some (.lst xs)->Thg H (.ref a)
 | tup {a:Addr}{xs:List V}:H a=some (.tup xs)->Thg H (.ref a)
 | dic {a:Addr}{kvs:List (Key×V)}:H a=some (.dK kvs)->Thg H (.ref a)
theorem Thg.same{H H':Hp}{v:V}(t:Thg H v)(s:zg H H'):Thg H' v:=by
 cases t with
 | non=>exact .non
 | bl b=>exact .bl b
 | int i=>exact .int i
 | str x=>exact .str x
 | lst h=>exact .lst (s _ _ h)
 | tup h=>exact .tup (s _ _ h)
 | dic h=>exact .dic (s _ _ h)
def zlo:V->Bool | .int _=>true|_=>false
def zcO(v:V)(a b:Int):Bool:=match v with | .int i=>decide (a<=i)&&decide (i<=b)|_=>false
def zg0:Sp:=λvs H Q _=>∃v,vs=[v]/\Thg H v/\Q (.bl (zlo v)) H
def zdG:Sp:=λvs H Q _=>∃v a b,vs=[v,.int a,.int b]/\Thg H v/\Q (.bl (zcO v a b)) H
section
variable {P:Program}{w:World}{K:Frag}{mg:Str->Option Value}{base:Heap}{A:zh}
theorem zmB{X:Cx}{H:Hp}{v:V}{Q:VK}(t:Thg H v)(q:Q (.bl (match v with | .int _=>true | .bl _=>true|_=>false)) H):zdH X.K [v,.ty "int"] H Q:=by
 cases t with
 | non=>exact ⟨_,_,_,_,_,rfl,rfl,.of .non,rfl,q⟩
 | bl b=>exact ⟨_,_,_,_,_,rfl,rfl,.of (.bl b),rfl,q⟩
 | int i=>exact ⟨_,_,_,_,_,rfl,rfl,.of (.int i),rfl,q⟩
 | str x=>exact ⟨_,_,_,_,_,rfl,rfl,.of (.str x),rfl,q⟩
 | lst h=>exact ⟨_,_,_,_,_,rfl,rfl,.of (.lst h),rfl,q⟩
 | tup h=>exact ⟨_,_,_,_,_,rfl,rfl,.of (.tup h),rfl,q⟩
 | dic h=>exact ⟨_,_,_,_,_,rfl,rfl,.of (.dK h),rfl,q⟩
theorem zjB{X:Cx}{H:Hp}{v:V}{Q:VK}(t:Thg H v)(q:Q (.bl (match v with | .bl _=>true|_=>false)) H):zdH X.K [v,.ty "bool"] H Q:=by
 cases t with
 | non=>exact ⟨_,_,_,_,_,rfl,rfl,.of .non,rfl,q⟩
 | bl b=>exact ⟨_,_,_,_,_,rfl,rfl,.of (.bl b),rfl,q⟩
 | int i=>exact ⟨_,_,_,_,_,rfl,rfl,.of (.int i),rfl,q⟩
 | str x=>exact ⟨_,_,_,_,_,rfl,rfl,.of (.str x),rfl,q⟩
 | lst h=>exact ⟨_,_,_,_,_,rfl,rfl,.of (.lst h),rfl,q⟩
 | tup h=>exact ⟨_,_,_,_,_,rfl,rfl,.of (.tup h),rfl,q⟩
 | dic h=>exact ⟨_,_,_,_,_,rfl,rfl,.of (.dK h),rfl,q⟩
theorem zrF:zG ["value"] ["value"] (zj zcC):=⟨rfl,rfl,rfl,f!"",rfl,f!"",f!""⟩
theorem zpp{f:Addr}{fd:FuncData}{cm:Bool}(F:Fun K "is_whole" "is_whole" zcC f fd)(T:Txt K mg A):zt P w K mg base CX0 cm 1 f fd ["value"] zg0:=by
 refine F.ok zrF (λvs H Q E h=>?_) (λcdv Ar outer s H vs Q E hr h=>?_)
 ·obtain ⟨v,rfl,_⟩:=h;rfl
 ·obtain ⟨v,rfl,th,q⟩:=h
  refine ⟨_,(W.h (zm (zx (ziA (zI zgx rfl T.n_isinstance boot_isinstance (zb (za 0) (zb (zfi rfl T.n_int boot_int (v:=.ty "int") rfl) zd))) (zih (zkv (zI zgx rfl T.n_isinstance boot_isinstance (zb (za 0) (zb (zfi rfl T.n_bool boot_bool (v:=.ty "bool") rfl) zd))))))))),?_⟩
  simp_all only []
  refine zmB th ?_
  cases th with
  | int i=>exact ⟨true,rfl,zfH (zjB (.int i) ⟨false,rfl,q⟩)⟩
  | bl i=>exact ⟨true,rfl,zfH (zjB (.bl i) ⟨true,rfl,q⟩)⟩
  | _=>exact ⟨false,rfl,zhQ q⟩
theorem zsE:zG ["value","least","most"] ["value","least","most"] (zj zdd):=⟨rfl,rfl,rfl,f!"",rfl,f!"",f!""⟩
theorem zqw{f:Addr}{fd:FuncData}{cm:Bool}(F:Fun K "is_within" "is_within" zdd f fd)(T:Txt K mg A)(Gg:GF P w K mg base cm 1 "is_whole" ["value"] zg0):zt P w K mg base CX0 cm 2 f fd ["value","least","most"] zdG:=by
 refine F.ok zsE (λvs H Q E h=>?_) (λcdv Ar outer s H vs Q E hr h=>?_)
 ·obtain ⟨v,a,b,rfl,_⟩:=h;rfl
 ·obtain ⟨v,a,b,rfl,th,q⟩:=h
  refine ⟨_,(W.h (zm (zx (ziA (zH Gg hr rfl (zb (za 0) zd)) (zih (zpl zhF zhF (za 1) (za 0) (za 2))))))),?_⟩
  simp_all only []
  refine ⟨_,rfl,th,?_⟩
  cases th with
  | int i =>
   refine ⟨true,rfl,zfH ?_⟩
   simp_all only []
   refine zaS (λh=>?_) (λh=>?_)
   ·have e:zcO (.int i) a b=decide (i<=b):=by show (decide (a<=i)&&_)=_;rw [h];rfl
    rw [<- e];exact q
   ·have e:zcO (.int i) a b=false:=by show (decide (a<=i)&&_)=_;rw [Bool.eq_false_iff.mpr h];rfl
    rw [<- e];exact q
  | _=>exact ⟨false,rfl,zhQ q⟩
end
abbrev zc7:Stmt:=top 24
abbrev zcW:Stmt:=top 25
abbrev zcB:Stmt:=top 26
abbrev zc4:Stmt:=top 27
abbrev zcw:Stmt:=top 30
def But(b:Addr)(H H':Hp):Prop:=∀a o,a≠b->H a=some o->H' a=some o
theorem But.of{b:Addr}{H H':Hp}(s:zg H H'):But b H H':=λa o _ e=>s a o e
theorem But.trans{b:Addr}{H H1 H2:Hp}(x:But b H H1)(y:But b H1 H2):But b H H2:=λa o n e=>y a o n (x a o n e)
theorem zdE{n:Nat}(h:n<=1000000):n<sizeLine:=Nat.lt_of_le_of_lt h (by decide)
section
variable {P:Program}{w:World}{K:Frag}{mg:Str->Option Value}{base:Heap}{A:zh}
def atD(ns:List Int)(k:Int):Int:=if k<ns.length then ns.getD k.toNat 0 else 0
def zgX(K:Frag):Sp:=λvs H Q _=>∃(a:Addr)(ns:List Int)(k:Int),vs=[.ref a,.int k]/\SqL K H a (ns.map V.int)/\0<=k/\Q (.int (atD ns k)) H
theorem zp7:zG ["_law_script","_law_k"] ["_law_script","_law_k"] (zj zc7):=⟨rfl,rfl,rfl,f!"",rfl,f!"",f!""⟩
theorem zp2{f:Addr}{fd:FuncData}(F:Fun K "_law_at" "_law_at" zc7 f fd)(T:Txt K mg A):zt P w K mg base CX0 true 1 f fd ["_law_script","_law_k"] (zgX K):=by
 refine F.ok zp7 (λvs H Q E h=>?_) (λcdv Ar outer s H vs Q E hr h=>?_)
 ·obtain ⟨a,ns,k,rfl,_⟩:=h;rfl
 ·obtain ⟨a,ns,k,rfl,hS,hk,q⟩:=h
  refine ⟨_,zhN (ziZ (zlq (zha zdM (pv 1) (zi4 zge rfl T.n_len PySem.boot_len (zdT (pv 0) zdL)) (zaa _))
   (zhX zjg (pv 0) (pv 1) (λ_ _=>rfl)) zhf)),?_⟩
  simp_all only []
  refine ⟨_,.inl hS,?_⟩
  rw [length_map]
  refine zaS (λh=>?_) (λh=>?_)
  ·have h':k<(ns.length:Int):=of_decide_eq_true h
   have hn:k.toNat<ns.length:=by omega
   have e:atD ns k=ns[k.toNat]:=by unfold atD;rw [if_pos h',getD_eq_getElem?_getD,List.getElem?_eq_getElem hn];rfl
   refine ⟨a,ns.map V.int,k,.int (ns[k.toNat]),rfl,rfl,hS,?_,by rw [<- e];exact q⟩
   have z:atI (ns.map V.int) ((k.toNat:Nat):Int)=some (.int (ns[k.toNat])):=zew (by rw [getElem?_map,List.getElem?_eq_getElem hn];rfl)
   have kz:((k.toNat:Nat):Int)=k:=by omega
   rw [kz] at z;exact z
  ·have h' : ¬ k<(ns.length:Int):=λz=>h (decide_eq_true z)
   have e:atD ns k=0:=by unfold atD;rw [if_neg h']
   rw [<- e];exact q
theorem zh0{a b:V}:atI [a,b] 0=some a:=rfl
theorem zhU{a b:V}:atI [a,b] 1=some b:=rfl
theorem zrX:ixN 2 0=some 0:=rfl
theorem zpE:ixN 2 1=some 1:=rfl
structure Pot(H:Hp)(a:Addr):Prop where
 ex:∃x y:Int,H a=some (.lst [.int x,.int y])/\0<=x/\0<=y/\y<2147483629
theorem Pot.same{H H':Hp}{a:Addr}(h:Pot H a)(s:zg H H'):Pot H' a:=let ⟨x,y,e,r⟩:=h.ex;⟨⟨x,y,s _ _ e,r⟩⟩
theorem Pot.ne{H:Hp}{a l:Addr}(h:Pot H a)(n:H l=none):l≠a:=λz=>by
 obtain ⟨x,y,e,_⟩:=h.ex
 rw [z,e] at n;cases n
def zgW(K:Frag):Sp:=λvs H Q _=>∃(a:Addr)(ns:List Int)(k:Int),vs=[.ref a,.int k]/\SqL K H a (ns.map V.int)/\0<=k/\∀l H',zg H H'->H l=none->Pot H' l->Q (.ref l) H'
theorem zjq:zG ["_law_script","_law_k","_law_cell"] ["_law_script","_law_k"] (zj zcW):=⟨rfl,rfl,rfl,f!"",rfl,f!"",f!""⟩
theorem zn9{f:Addr}{fd:FuncData}(F:Fun K "_law_pot" "_law_pot" zcW f fd)(T:Txt K mg A)(Gh:GF P w K mg base true 1 "_law_at" ["_law_script","_law_k"] (zgX K)):zt P w K mg base CX0 true 2 f fd ["_law_script","_law_k"] (zgW K):=by
 refine F.ok zjq (λvs H Q E h=>?_) (λcdv Ar outer s H vs Q E hr h=>?_)
 ·obtain ⟨a,ns,k,rfl,_⟩:=h;rfl
 ·obtain ⟨a,ns,k,rfl,hS,hk,q⟩:=h
  refine ⟨_,(W.h (zo (zY (i:=2) zjq.nd rfl (Or.inl rfl) (zH Gh hr rfl (zb (za 0) (zb (za 1) zd))))
   (zm (zx (zag (zb (zI (zhx rfl) rfl T.n_max boot_max (zb zq (zb (zK zf8 (za 2) (zK zjL zq zq)) zd))) (zb (zK zdw (zK zan (zK zdw (za 2) zq) (zK zev zq (zK zan (za 1) zq))) zq) zd))))))),?_⟩
  simp_all only []
  refine ⟨a,ns,k,rfl,hS,hk,?_⟩
  simp_all only []
  refine ⟨⟨by decide,by decide,by decide⟩,by decide,.inl ⟨by decide,by decide⟩,by decide,by decide,λl H1 n1 _=>q l H1 n1.same n1.no ⟨⟨_,_,n1.at_,?_,?_,?_⟩⟩⟩
  ·split<;>omega
  ·omega
  ·omega
def zbb:Sp:=λvs H Q _=>∃(a:Addr)(m:Int),vs=[.ref a,.int m]/\Pot H a/\0<m/\m<2 ^ 64/\∀(r:Int) H',But a H H'->Pot H' a->0<=r->r<m->Q (.int r) H'
theorem zho:zG ["_law_pot_here","_law_many","_law_digit"] ["_law_pot_here","_law_many"] (zj zcB):=⟨rfl,rfl,rfl,f!"",rfl,f!"",f!""⟩
theorem zkK{f:Addr}{fd:FuncData}(F:Fun K "_law_take" "_law_take" zcB f fd)(T:Txt K mg A):zt P w K mg base CX0 true 1 f fd ["_law_pot_here","_law_many"] zbb:=by
 refine F.ok zho (λvs H Q E h=>?_) (λcdv Ar outer s H vs Q E hr h=>?_)
 ·obtain ⟨a,m,rfl,_⟩:=h;rfl
 ·obtain ⟨a,m,rfl,⟨x,y,e,x0,y0,y1⟩,m0,m1,q⟩:=h
  refine ⟨_,(W.h (zo (zS (zV zjz (zaj zaO (za 0) zq (λ_ _=>rfl)) zq (zaa _))
   (zo (za4 (zI zl3 rfl T.n_divmod boot_divmod (zb (zaj zaO (za 0) zq (λ_ _=>rfl)) (zb (za 1) zd))) (zc8 (n:=2) (zav (zbP (za 0) zq zgq) (zav (zU (i:=2) zho.nd rfl (Or.inl rfl)) zcY))))
   (zm (zx (za 2))))
   z6)
   (zo (za4 (zK zdw (zK zan (zK zev (zaj zaO (za 0) zq (λ_ _=>rfl)) zq) zq) zq) (zbP (za 0) zq zgq))
   (zm (zx (zK zdw (zK zq8 (zK zdw (zK zev (zaj zaO (za 0) zq (λ_ _=>rfl)) (zaj zaO (za 0) zq (λ_ _=>rfl))) zq) zq) (za 1))))))),?_⟩
  simp_all only [e,zh0,zhU]
  refine zaS (λh=>?_) (λh=>?_)
  ·refine ⟨m0,m1,λp H2 n2=>⟨p,_,rfl,SqT.of n2.at_,rfl,?_⟩⟩
   have e2:=n2.same _ _ e
   simp_all only [e2,zrX,zh0]
   refine q _ _ (λc o nc ec=>by rw [ze nc];exact n2.same _ _ ec) ⟨⟨_,_,zp,Int.ediv_nonneg x0 (by omega),y0,y1⟩⟩ (Int.emod_nonneg _ (by omega)) (Int.emod_lt_of_pos _ m0)
  ·simp_all only [zpE,zp,zhU]
   refine ⟨.inr ⟨by decide,by decide⟩,by decide,.inl ⟨by omega,by omega⟩,by decide,⟨by decide,by decide⟩,m0,q _ _ (λc o nc ec=>by rw [ze nc];exact ec) ⟨⟨_,_,zp,x0,by omega,by omega⟩⟩ (Int.emod_nonneg _ (by omega)) (Int.emod_lt_of_pos _ m0)⟩
def zcm:Sp:=λvs H Q _=>∃(a:Addr),Pot H a/\((∃(l:Addr)(xs:List V),vs=[.ref a,.ref l]/\l≠a/\(H l=some (.lst xs)\/H l=some (.tup xs))/\0<xs.length/\xs.length<=1000/\∀v H',v∈xs->But a H H'->Pot H' a->Q v H') \/
 ∃z:Str,vs=[.ref a,.str z]/\0<z.length/\z.length<=1000/\∀c H',c∈sg z->But a H H'->Pot H' a->Q (.str (c1 c)) H')
theorem zfB{α:Type}{xs:List α}{i:Int}(h0:0<=i)(h1:i<xs.length):∃v,atI xs i=some v/\v∈xs:=by
 have hn:i.toNat<xs.length:=by omega
 have z:atI xs ((i.toNat:Nat):Int)=some xs[i.toNat]:=zew (List.getElem?_eq_getElem hn)
 rw [show ((i.toNat:Nat):Int)=i by omega] at z
 exact ⟨_,z,getElem_mem hn⟩
theorem zrg:zG ["_law_pot_here","_law_some"] ["_law_pot_here","_law_some"] (zj zc4):=⟨rfl,rfl,rfl,f!"",rfl,f!"",f!""⟩
theorem znz{f:Addr}{fd:FuncData}(F:Fun K "_law_drawn" "_law_drawn" zc4 f fd)(T:Txt K mg A)(Gb:GF P w K mg base true 1 "_law_take" ["_law_pot_here","_law_many"] zbb):zt P w K mg base CX0 true 2 f fd ["_law_pot_here","_law_some"] zcm:=by
 refine F.ok zrg (λvs H Q E h=>?_) (λcdv Ar outer s H vs Q E hr h=>?_)
 ·obtain ⟨a,_,⟨l,xs,rfl,_⟩|⟨z,rfl,_⟩⟩:=h<;>rfl
 ·refine ⟨_,(W.h (zm (zx (zaj zaO (za 1) (zH Gb hr rfl (zb (za 0) (zb (zI zck rfl T.n_len PySem.boot_len (zb (za 1) zd)) zd))) (λ_ _=>rfl))))),?_⟩
  obtain ⟨a,hP,⟨l,xs,rfl,ne,hl,x0,x1,q⟩|⟨z,rfl,z0,z1,q⟩⟩:=h
  ·simp_all only []
   refine ⟨xs,hl,a,_,rfl,hP,by omega,Int.lt_of_le_of_lt (show (xs.length:Int)<=1000 by omega) (by decide),λr H' bt hP' r0 r1=>?_⟩
   obtain ⟨v,ev,hv⟩:=zfB (xs:=xs) r0 r1
   rw [zec]
   exact ⟨xs,hl.imp (bt _ _ ne) (bt _ _ ne),v,ev,q v H' hv bt hP'⟩
  ·simp_all only []
   refine ⟨zcZ (by omega),a,_,rfl,hP,by omega,Int.lt_of_le_of_lt (show (z.length:Int)<=1000 by omega) (by decide),λr H' bt hP' r0 r1=>?_⟩
   obtain ⟨c,ec,hc⟩:=zfB (xs:=sg z) r0 (by rw [zjX];exact r1)
   rw [zfc]
   exact ⟨zcZ (by omega),c,ec,q c H' hc bt hP'⟩
def zgd:Sp:=λvs H Q _=>∃(a:Addr),vs=[.ref a]/\Pot H a/\∀(r:Int) H',But a H H'->Pot H' a->0<=r->r<10 ^ 18->Q (.int r) H'
theorem zm6:zG ["_law_pot_here"] ["_law_pot_here"] (zj zcw):=⟨rfl,rfl,rfl,f!"",rfl,f!"",f!""⟩
theorem znC{f:Addr}{fd:FuncData}(F:Fun K "_law_birth" "_law_birth" zcw f fd)(T:Txt K mg A)(Gb:GF P w K mg base true 1 "_law_take" ["_law_pot_here","_law_many"] zbb)(Gc:GF P w K mg base true 2 "_law_drawn" ["_law_pot_here","_law_some"] zcm):zt P w K mg base CX0 true 3 f fd ["_law_pot_here"] zgd:=by
 refine F.ok zm6 (λvs H Q E h=>?_) (λcdv Ar outer s H vs Q E hr h=>?_)
 ·obtain ⟨a,rfl,_⟩:=h;rfl
 ·obtain ⟨a,rfl,hP,q⟩:=h
  refine ⟨_,(W.h (zm (zx (zH Gb hr rfl (zb (za 0) (zb (zH Gc hr rfl (zb (za 0) (zb (zag (zb zq (zb zq (zb zq (zb (zK zjL zq zq) zd))))) zd))) zd)))))),?_⟩
  simp_all only []
  refine ⟨⟨by decide,by decide,by decide⟩,by decide,λp H2 n2 _=>⟨a,hP.same n2.same,.inl ⟨p,_,rfl,hP.ne n2.no,.inl n2.at_,by decide,by decide,λv H3 hv bt hP3=>?_⟩⟩⟩
  have fin:∀m:Int,0<m->m<=10 ^ 18->zbb [.ref a,.int m] H3 Q E0:=λm h1 h2=>⟨a,m,rfl,hP3,h1,Int.lt_of_le_of_lt h2 (by decide),λr H4 b4 hP4 r0 r1=>q r H4 ((But.of n2.same).trans (bt.trans b4)) hP4 r0 (by omega)⟩
  simp only [mem_cons,not_mem_nil,or_false] at hv
  rcases hv with rfl|rfl|rfl|rfl
  ·exact fin 12 (by decide) (by decide)
  ·exact fin 12 (by decide) (by decide)
  ·exact fin 1000 (by decide) (by decide)
  ·exact fin _ (by decide) (by decide)
end
abbrev zcg:Stmt:=top 28
abbrev zcK:Stmt:=top 29
section
variable {P:Program}{w:World}{K:Frag}{mg:Str->Option Value}{base:Heap}{A:zh}
abbrev LET:Str:="abcdefghijklmnopqrstuvwxyz"
structure znW(H:Hp)(a:Addr)(i:Nat)(τ:L2.St)(ys:List V)(H':Hp):Prop where
 ex:∃t,τ=[t,some (V.ref a),some (.str LET)]
 ys:∃cs:List Nat,ys=(cs.map c1).map V.str/\cs.length=i
 but:But a H H'
 pot:Pot H' a
 le:i<=10
def zgB:Sp:=λvs H Q _=>∃(a:Addr),vs=[.ref a]/\Pot H a/\∀(z:Str) H',But a H H'->Pot H' a->Q (.str z) H'
theorem zio:zG ["_law_pot_here","_law_letters"] ["_law_pot_here"] (zj zcg):=⟨rfl,rfl,rfl,f!"",rfl,f!"",f!""⟩
theorem zjS:zci { kind:=.function,names:=[(Str.ofString ".0",.local),(Str.ofString "_law_k",.local),(Str.ofString "_law_drawn",.globalImplicit),(Str.ofString "_law_pot_here",.free),(Str.ofString "_law_letters",.free)],isGenerator:=false,isCoroutine:=false,more:=[] } (zj zcg).names ["_law_pot_here","_law_letters"] ["_law_k","_law_pot_here","_law_letters"] [none,some 0,some 1]=true:=by decide +kernel
theorem zpF:(["_law_k","_law_pot_here","_law_letters"]:List Str).Nodup:=by decide +kernel
theorem zqO{f:Addr}{fd:FuncData}(F:Fun K "_law_name" "_law_name" zcg f fd)(T:Txt K mg A)(Gb:GF P w K mg base true 1 "_law_take" ["_law_pot_here","_law_many"] zbb)(Gc:GF P w K mg base true 2 "_law_drawn" ["_law_pot_here","_law_some"] zcm):zt P w K mg base CX0 true 3 f fd ["_law_pot_here"] zgB:=by
 refine F.ok zio (λvs H Q E h=>?_) (λcdv Ar outer s H vs Q E hr h=>?_)
 ·obtain ⟨a,rfl,_⟩:=h;rfl
 ·obtain ⟨a,rfl,hP,q⟩:=h
  refine ⟨_,(W.h (zo (zS (zV zdM (zH Gb hr rfl (zb (za 0) (zb zq zd))) zq (zaa _))
   (zm (zx (zH Gc hr rfl (zb (za 0) (zb (zag (zb zv (zb zv (zb zv (zb zv zd))))) zd)))))
   z6)
   (zo (zY (i:=1) zio.nd rfl (Or.inr rfl) zv)
   (zm (zx (ztq zv (zem (λ_=>rfl) (za2.of zjS) (zdy rfl T.n_range (zb (zK zan zq (zH Gb hr rfl (zb (za 0) (zb zq zd)))) zd)) (λ_ _ _ _ _=>(zU (i:=0) zpF rfl (Or.inl rfl))) (λ_ _ _ _ _=>zeR) (λ_ _ _ _ _=>(zH Gc hr rfl (zb (za 1) (zb (za 2) zd))))))))))),?_⟩
  simp_all only []
  refine ⟨a,_,rfl,hP,by decide,by decide,λr H1 b1 hP1 r0 r1=>?_⟩
  simp_all only []
  refine zaS (λh=>?_) (λh=>?_)
  ·refine ⟨by decide,λp H2 n2 _=>⟨a,hP1.same n2.same,.inl ⟨p,_,rfl,hP1.ne n2.no,.inl n2.at_,by decide,by decide,λv H3 hv bt hP3=>?_⟩⟩⟩
   have bA:=(b1.trans (But.of n2.same)).trans bt
   simp only [mem_cons,not_mem_nil,or_false] at hv
   rcases hv with rfl|rfl|rfl|rfl<;>exact q _ _ bA hP3
  ·refine ⟨a,_,rfl,hP1,by decide,by decide,λm H2 b2 hP2 m0 m1=>?_⟩
   simp_all only []
   refine ⟨by omega,by omega,zat.rng (znW H2 a) (λi τ ys H' I=>?_) ⟨⟨_,rfl⟩,⟨[],rfl,rfl⟩,λ_ _ _ e=>e,hP2,by omega⟩ ?_ ?_⟩
   ·obtain ⟨cs,e,e2⟩:=I.ys
    rw [e,length_map,length_map,e2]
    exact zdE (by have:=I.le;omega)
   ·intro N i τ ys H' hi I hN
    obtain ⟨t,rfl⟩:=I.ex
    obtain ⟨cs,e,e2⟩:=I.ys
    simp_all only []
    refine ⟨a,I.pot,.inr ⟨LET,rfl,by decide,by decide,λc H3 hcc b3 hP3=>hN _ _ _ ⟨⟨_,rfl⟩,⟨cs++[c],by rw [e];simp,by simp [e2]⟩,I.but.trans b3,hP3,by omega⟩⟩⟩
   ·intro τ ys H' I D H3 n3
    obtain ⟨cs,e,e2⟩:=I.ys
    rw [zin]
    refine ⟨cs.map c1,by rw [n3.at_,e],?_,?_⟩
    ·rw [map_map,show ("":Str).length=0 by decide,Nat.mul_zero,Nat.add_zero]
     have:∀l:List Nat,(l.map ((λx:Str=>x.length)∘c1)).sum=l.length:=λl=>by
      induction l with
      | nil=>rfl
      | cons a l ih=>rw [map_cons,List.sum_cons,ih];show 1+_=_;simp;omega
     rw [this]
     omega
    ·exact q _ H3 (((b1.trans b2).trans I.but).trans (But.of n3.same)) (I.pot.same n3.same)
structure ztf(H:Hp)(a l:Addr)(i:Nat)(σ:L2.St)(H':Hp):Prop where
 ex:∃t1 t2,σ=[some (V.ref a),some (.ref l),t1,t2]
 ns:∃zs:List Str,H' l=some (.lst (zs.map V.str))/\zs.length<=i/\(0<i->zs≠[])
 but:But a H H'
 pot:Pot H' a
 ne:H l=none
theorem zhI{z:Str}{zs:List Str}:inV (.str z) (zs.map V.str)=decide (z∈zs):=by
 unfold inV
 rw [List.any_map,Bool.eq_iff_iff]
 simp only [List.any_eq_true,decide_eq_true_eq,Function.comp]
 constructor
 ·rintro ⟨y,hy,h⟩
  have:y=z:=by simpa [eqV] using h
  rw [<- this];exact hy
 ·intro h
  exact ⟨z,h,by simp [eqV]⟩
theorem zc9{zs:List Str}:(zs.map V.str).all zC=true:=by simp [zC]
theorem But.free{b:Addr}{H H':Hp}(e:But b H H'){l:Addr}(h:H' l=Option.none)(n:l≠b):H l=Option.none:=by
 cases q:H l with
 | none=>rfl
 | some o=>rw [e l o n q] at h;cases h
def zgt:Sp:=λvs H Q _=>∃(a:Addr),vs=[.ref a]/\Pot H a/\∀(l:Addr)(zs:List Str) H',But a H H'->Pot H' a->H l=none->H' l=some (.lst (zs.map V.str))->zs.length<=4->zs≠[]->Q (.ref l) H'
theorem zep:zG ["_law_pot_here","_law_found","_law_k","_law_name_here"] ["_law_pot_here"] (zj zcK):=⟨rfl,rfl,rfl,f!"",rfl,f!"",f!""⟩
theorem zrN{f:Addr}{fd:FuncData}(F:Fun K "_law_names" "_law_names" zcK f fd)(T:Txt K mg A)(Gb:GF P w K mg base true 1 "_law_take" ["_law_pot_here","_law_many"] zbb)(Gi:GF P w K mg base true 3 "_law_name" ["_law_pot_here"] zgB):zt P w K mg base CX0 true 4 f fd ["_law_pot_here"] zgt:=by
 refine F.ok zep (λvs H Q E h=>?_) (λcdv Ar outer s H vs Q E hr h=>?_)
 ·obtain ⟨a,rfl,_⟩:=h;rfl
 ·obtain ⟨a,rfl,hP,q⟩:=h
  have hu:_<cLine:=lt_of_succ_lt (zP hr)
  refine ⟨_,(W.h (zo (zY (i:=1) zep.nd rfl (Or.inl rfl) (zag zd))
   (zo (zcp PassesOwn.never (λ_=>rfl) (zdy rfl T.n_range (zb (zK zan zq (zH Gb hr rfl (zb (za 0) (zb zq zd)))) zd)) (zU (i:=2) zep.nd rfl (Or.inl rfl))
   (zo (zY (i:=3) zep.nd rfl (Or.inl rfl) (zH Gi hr rfl (zb (za 0) zd)))
   (zm (zS (zV (ztx hu) (za 3) (za 1) rfl)
   (zm (zaW (zhA (za 1) (za 3))))
   z6))))
   (zm (zx (za 1)))))),?_⟩
  simp_all only []
  refine ⟨by decide,λl H1 n1 _=>⟨a,_,rfl,hP.same n1.same,by decide,by decide,λr H2 b2 hP2 r0 r1=>?_⟩⟩
  simp_all only []
  have la:l≠a:=hP.ne n1.no
  refine ⟨by omega,by omega,zaw.rng (ztf H a l) ⟨⟨_,_,rfl⟩,⟨[],b2 _ _ la n1.at_,by simp,λz=>absurd z (by decide)⟩,(But.of n1.same).trans b2,hP2,n1.no⟩ ?_ ?_⟩
  ·rintro i σ H' hi ⟨⟨t1,t2,rfl⟩,⟨zs,ez,zl,zn⟩,bt,hP',_⟩
   simp_all only []
   refine ⟨a,rfl,hP',λz H3 b3 hP3=>?_⟩
   have e3:=b3 _ _ la ez
   have hz1:(zs.map V.str).length<sizeLine:=by rw [length_map];exact zdE (by omega)
   simp_all only [e3]
   refine ⟨rfl,zc9,?_⟩
   rw [zhI]
   by_cases hm:z∈zs
   ·rw [decide_eq_true hm]
    simp_all only []
    exact ⟨⟨_,_,rfl⟩,⟨zs,e3,by omega,λ_ z=>by subst z;cases hm⟩,bt.trans b3,hP3,n1.no⟩
   ·rw [decide_eq_false hm]
    simp_all only [e3]
    refine ⟨hz1,⟨_,_,rfl⟩,⟨zs++[z],by rw [zp];simp,by simp;omega,λ_=>by simp⟩,λc o nc ec=>?_,?_,n1.no⟩
    ·rw [ze (λz=>by subst z;rw [n1.no] at ec;cases ec)];exact (bt.trans b3) c o nc ec
    ·obtain ⟨x,y,ep,r⟩:=hP3.ex
     exact ⟨⟨x,y,by rw [ze (Ne.symm la)];exact ep,r⟩⟩
  ·rintro σ H' ⟨⟨t1,t2,rfl⟩,⟨zs,ez,zl,zn⟩,bt,hP',_⟩
   simp_all only []
   exact q l zs H' bt hP' n1.no ez (by omega) (zn (by omega))
end
abbrev zc6:Stmt:=zaD (top 22) 0
abbrev zcy:Stmt:=zaD (top 22) 1
abbrev zcR:Stmt:=zaD (top 22) 2
abbrev zcd:Stmt:=zaD (top 22) 14
abbrev zbU:Stmt:=zaD (top 22) 15
theorem zjc{b:Bool}(h : ¬ (!b)=true):b=true:=by cases b;exact absurd rfl h;rfl
theorem zib{b:Bool}(h:(!b)=true):b=false:=by cases b;rfl;cases h
abbrev Tab:=List (Str×List Int)
def zas(H:Hp)(v:V)(l:List Int):Prop:=∃p,v = .ref p/\H p=some (.tup (l.map V.int))
def zu(b k:Addr):List (Str×V):=[("births",.ref b),("kept",.ref k)]
structure za0(H:Hp)(b:Addr)(t:Tab):Prop where
 ex:∃kvs,H b=some (.dK (sk kvs))/\Dct (zas H) kvs t
 nd:(names t).Nodup
structure zaZ(H:Hp)(b:Addr)(t:Tab):Prop where
 ex:∃kvs,Rd H b (.dK (sk kvs))/\Dct (zas H) kvs t
 nd:(names t).Nodup
theorem za0.r{H:Hp}{b:Addr}{t:Tab}(h:za0 H b t):zaZ H b t:=let ⟨kvs,e,d⟩:=h.ex;⟨⟨kvs,.inl e,d⟩,h.nd⟩
structure zak(A:zh)(H:Hp)(q b k:Addr)(t:Tab):Prop where
 ob:∃dx,H q=some (.ins A.Files dx (zu b k))
 births:zaZ H b t
 kept:Rd H k (.dK (sk []))
def zaU(A:zh)(H:Hp)(b k:Addr)(v:V)(t:Tab):Prop:=∃q b' k',v = .ref q/\zak A H q b' k' t/\b'≠b/\b'≠k/\k'≠b/\k'≠k
structure zr(A:zh)(H:Hp)(p b k:Addr)(t:Tab)(ks:List (Str×Tab)):Prop where
 ob:∃dx,H p=some (.ins A.Files dx (zu b k))
 births:za0 H b t
 kept:∃kk,H k=some (.dK (sk kk))/\Dct (zaU A H b k) kk ks
 ndk:(names ks).Nodup
 ne:b≠k
structure zaM(A:zh)(H:Hp)(p b k:Addr)(t:Tab)(ks:List (Str×Tab)):Prop where
 ob:∃dx,H p=some (.ins A.Files dx (zu b k))
 births:zaZ H b t
 kept:∃kk,Rd H k (.dK (sk kk))/\Dct (zaU A H b k) kk ks
 ndk:(names ks).Nodup
theorem zr.r{A:zh}{H:Hp}{p b k:Addr}{t:Tab}{ks:List (Str×Tab)}(h:zr A H p b k t ks):zaM A H p b k t ks:=let ⟨kk,e,d⟩:=h.kept;⟨h.ob,h.births.r,⟨kk,.inl e,d⟩,h.ndk⟩
structure FS(H H':Hp):Prop where
 oth:∀a o,(∀kvs,o≠.dK kvs)->(∀ob kvs,o≠.frz ob (.dK kvs))->H a=some o->H' a=some o
 dic:∀a kvs,Rd H a (.dK kvs)->Rd H' a (.dK kvs)
theorem FS.of{H H':Hp}(s:zg H H'):FS H H':=⟨λa o _ _ e=>s a o e,λa kvs r=>r.elim (λe=>.inl (s _ _ e)) (λ⟨o,e⟩=>.inr ⟨o,s _ _ e⟩)⟩
theorem FS.trans{H H1 H2:Hp}(x:FS H H1)(y:FS H1 H2):FS H H2:=⟨λa o n m e=>y.oth a o n m (x.oth a o n m e),λa kvs r=>y.dic a kvs (x.dic a kvs r)⟩
theorem Rd.same{H H':Hp}{a:Addr}{u:HO}(h:Rd H a u)(s:zg H H'):Rd H' a u:=h.elim (λe=>.inl (s _ _ e)) (λ⟨o,e⟩=>.inr ⟨o,s _ _ e⟩)
theorem But.upd{b:Addr}{H:Hp}{o:HO}:But b H (upd H b o):=λa u n e=>by rw [ze n];exact e
theorem zas.but{b:Addr}{H H':Hp}{v:V}{l:List Int}(h:zas H v l)(s:But b H H')(hb:∀xs,H b≠some (.tup xs)):zas H' v l:=by
 obtain ⟨p,e,hp⟩:=h
 exact ⟨p,e,s p _ (λz=>by subst z;exact hb _ hp) hp⟩
theorem zas.same{H H':Hp}{v:V}{l:List Int}(h:zas H v l)(s:zg H H'):zas H' v l:=let ⟨p,e,hp⟩:=h;⟨p,e,s p _ hp⟩
theorem za0.but{x:Addr}{H H':Hp}{b:Addr}{t:Tab}(h:za0 H b t)(s:But x H H')(hx:∀xs,H x≠some (.tup xs))(n:b≠x):za0 H' b t:=by
 obtain ⟨kvs,e,d⟩:=h.ex
 exact ⟨⟨kvs,s _ _ n e,d.imp λv a r=>r.but s hx⟩,h.nd⟩
theorem za0.same{H H':Hp}{b:Addr}{t:Tab}(h:za0 H b t)(s:zg H H'):za0 H' b t:=by
 obtain ⟨kvs,e,d⟩:=h.ex
 exact ⟨⟨kvs,s _ _ e,d.imp λv a r=>r.same s⟩,h.nd⟩
theorem zaZ.but{x:Addr}{H H':Hp}{b:Addr}{t:Tab}(h:zaZ H b t)(s:But x H H')(hx:∀xs,H x≠some (.tup xs))(n:b≠x):zaZ H' b t:=by
 obtain ⟨kvs,e,d⟩:=h.ex
 exact ⟨⟨kvs,e.elim (λe=>.inl (s _ _ n e)) (λ⟨o,e⟩=>.inr ⟨o,s _ _ n e⟩),d.imp λv a r=>r.but s hx⟩,h.nd⟩
theorem zas.fs{H H':Hp}{v:V}{l:List Int}(h:zas H v l)(s:FS H H'):zas H' v l:=let ⟨p,e,hp⟩:=h;⟨p,e,s.oth p _ (λ_=>nofun) (λ_ _=>nofun) hp⟩
theorem zaZ.fs{H H':Hp}{b:Addr}{t:Tab}(h:zaZ H b t)(s:FS H H'):zaZ H' b t:=by
 obtain ⟨kvs,e,d⟩:=h.ex
 exact ⟨⟨kvs,s.dic _ _ e,d.imp λv a r=>r.fs s⟩,h.nd⟩
theorem zak.but{A:zh}{x:Addr}{H H':Hp}{q b k:Addr}{t:Tab}{kvs:List (Key×V)}(h:zak A H q b k t)(s:But x H H')(hx:H x=some (.dK kvs))(n1:b≠x)(n2:k≠x):zak A H' q b k t:=by
 obtain ⟨dx,e⟩:=h.ob
 exact ⟨⟨dx,s _ _ (λz=>by subst z;rw [e] at hx;cases hx) e⟩,h.births.but s (λxs z=>by rw [z] at hx;cases hx) n1,h.kept.elim (λe=>.inl (s _ _ n2 e)) (λ⟨o,e⟩=>.inr ⟨o,s _ _ n2 e⟩)⟩
theorem zak.fs{A:zh}{H H':Hp}{q b k:Addr}{t:Tab}(h:zak A H q b k t)(s:FS H H'):zak A H' q b k t:=let ⟨dx,e⟩:=h.ob;⟨⟨dx,s.oth _ _ (λ_=>nofun) (λ_ _=>nofun) e⟩,h.births.fs s,s.dic _ _ h.kept⟩
theorem zak.same{A:zh}{H H':Hp}{q b k:Addr}{t:Tab}(h:zak A H q b k t)(s:zg H H'):zak A H' q b k t:=h.fs (.of s)
theorem zaU.fs{A:zh}{H H':Hp}{b k:Addr}{v:V}{t:Tab}(h:zaU A H b k v t)(s:FS H H'):zaU A H' b k v t:=let ⟨q,b',k',e,r,n⟩:=h;⟨q,b',k',e,r.fs s,n⟩
theorem zaM.fs{A:zh}{H H':Hp}{p b k:Addr}{t:Tab}{ks:List (Str×Tab)}(h:zaM A H p b k t ks)(s:FS H H'):zaM A H' p b k t ks:=by
 obtain ⟨dx,e⟩:=h.ob
 obtain ⟨kk,e2,d⟩:=h.kept
 exact ⟨⟨dx,s.oth _ _ (λ_=>nofun) (λ_ _=>nofun) e⟩,h.births.fs s,⟨kk,s.dic _ _ e2,d.imp λv a r=>r.fs s⟩,h.ndk⟩
theorem zaM.same{A:zh}{H H':Hp}{p b k:Addr}{t:Tab}{ks:List (Str×Tab)}(h:zaM A H p b k t ks)(s:zg H H'):zaM A H' p b k t ks:=h.fs (.of s)
theorem zr.fs{A:zh}{H H':Hp}{p b k d:Addr}{t:Tab}{ks:List (Str×Tab)}(h:zr A H p b k t ks)(s:FS H H')(bt:But d H H')(n1:b≠d)(n2:k≠d):zr A H' p b k t ks:=by
 obtain ⟨dx,e⟩:=h.ob
 obtain ⟨kk,e2,d⟩:=h.kept
 obtain ⟨kvs,e3,d3⟩:=h.births.ex
 exact ⟨⟨dx,s.oth _ _ (λ_=>nofun) (λ_ _=>nofun) e⟩,⟨⟨kvs,bt _ _ n1 e3,d3.imp λv a r=>r.fs s⟩,h.births.nd⟩,⟨kk,bt _ _ n2 e2,d.imp λv a r=>r.fs s⟩,h.ndk,h.ne⟩
theorem zaU.same{A:zh}{H H':Hp}{b k:Addr}{v:V}{t:Tab}(h:zaU A H b k v t)(s:zg H H'):zaU A H' b k v t:=let ⟨q,b',k',e,r,n⟩:=h;⟨q,b',k',e,r.same s,n⟩
theorem zr.same{A:zh}{H H':Hp}{p b k:Addr}{t:Tab}{ks:List (Str×Tab)}(h:zr A H p b k t ks)(s:zg H H'):zr A H' p b k t ks:=by
 obtain ⟨dx,e⟩:=h.ob
 obtain ⟨kk,e2,d⟩:=h.kept
 exact ⟨⟨dx,s _ _ e⟩,h.births.same s,⟨kk,s _ _ e2,d.imp λv a r=>r.same s⟩,h.ndk,h.ne⟩
theorem zr.setB{A:zh}{H H':Hp}{p b k:Addr}{t t':Tab}{ks:List (Str×Tab)}{kvs':List (Str×V)}(h:zr A H p b k t ks)(s:But b H H')(e:H' b=some (.dK (sk kvs')))(d':Dct (zas H') kvs' t')(nd:(names t').Nodup):zr A H' p b k t' ks:=by
 obtain ⟨dx,e1⟩:=h.ob
 obtain ⟨kk,e2,d⟩:=h.kept
 obtain ⟨kvs,e3,_⟩:=h.births.ex
 exact ⟨⟨dx,s _ _ (λz=>by subst z;rw [e1] at e3;cases e3) e1⟩,⟨⟨kvs',e,d'⟩,nd⟩,⟨kk,s _ _ (Ne.symm h.ne) e2,d.imp λv a ⟨q,b',k',ev,r,n1,n2,n3,n4⟩=>⟨q,b',k',ev,r.but s e3 n1 n3,n1,n2,n3,n4⟩⟩,h.ndk,h.ne⟩
theorem zr.setK{A:zh}{H H':Hp}{p b k:Addr}{t:Tab}{ks ks':List (Str×Tab)}{kk':List (Str×V)}(h:zr A H p b k t ks)(s:But k H H')(e:H' k=some (.dK (sk kk')))(d':Dct (zaU A H' b k) kk' ks')(nd:(names ks').Nodup):zr A H' p b k t ks':=by
 obtain ⟨dx,e1⟩:=h.ob
 obtain ⟨kk,e2,d⟩:=h.kept
 exact ⟨⟨dx,s _ _ (λz=>by subst z;rw [e1] at e2;cases e2) e1⟩,h.births.but s (λxs z=>by rw [z] at e2;cases e2) h.ne,⟨kk',e,d'⟩,nd,h.ne⟩
theorem zaU.but{A:zh}{H H':Hp}{b k:Addr}{v:V}{t:Tab}{kvs:List (Key×V)}(h:zaU A H b k v t)(s:But k H H')(hx:H k=some (.dK kvs)):zaU A H' b k v t:=let ⟨q,b',k',ev,r,n1,n2,n3,n4⟩:=h;⟨q,b',k',ev,r.but s hx n2 n4,n1,n2,n3,n4⟩
section
variable {P:Program}{w:World}{K:Frag}{mg:Str->Option Value}{base:Heap}{A:zh}{b k:Addr}
theorem zaz:(zu b k).lookup ("births":Str)=some (.ref b):=by simp only [zu,List.lookup,beq_self_eq_true]
theorem za7:(zu b k).lookup ("kept":Str)=some (.ref k):=by simp only [zu,List.lookup,beq_self_eq_true,zmf]
theorem zmT:(zu b k).lookup ("names":Str)=none:=by simp only [zu,List.lookup,zs5,zpn]
theorem zbM:(zu b k).lookup ("many":Str)=none:=by simp only [zu,List.lookup,zsf,ztu]
theorem zoD:(zu b k).lookup ("birth":Str)=none:=by simp only [zu,List.lookup,zlB,zmX]
theorem zrc:(zu b k).lookup ("put":Str)=none:=by simp only [zu,List.lookup,zn4,zn1]
theorem zqU:(zu b k).lookup ("cut":Str)=none:=by simp only [zu,List.lookup,zla,zoM]
theorem zrf:(zu b k).lookup ("hold":Str)=none:=by simp only [zu,List.lookup,zlZ,zme]
theorem zqA:(zu b k).lookup ("free":Str)=none:=by simp only [zu,List.lookup,zpd,zsN]
theorem zl9:(zu b k).lookup ("held":Str)=none:=by simp only [zu,List.lookup,zp0,zqQ]
theorem zhJ:(zu b k).lookup ("of_held":Str)=none:=by simp only [zu,List.lookup,zti,zmy]
theorem zsv:(zu b k).lookup ("living":Str)=none:=by simp only [zu,List.lookup,zpv,zmJ]
theorem zlW:(zu b k).lookup ("copied":Str)=none:=by simp only [zu,List.lookup,zpo,zpT]
theorem zgk:(zu b k).lookup ("bare":Str)=none:=by simp only [zu,List.lookup,zkW,zqE]
theorem zsn:(zu b k).lookup ("keep":Str)=none:=by simp only [zu,List.lookup,zlr,zkX]
theorem zes:(zu b k).lookup ("refuse_if_none":Str)=none:=by simp only [zu,List.lookup,zmS,zrs]
theorem zdW:(zu b k).lookup ("refuse_if_not_held":Str)=none:=by simp only [zu,List.lookup,zoW,zrl]
def zdX(A:zh):Sp:=λvs H Q _=>∃(p dx:Addr),vs=[.ref p]/\H p=some (.ins A.Files dx [])/\∀b k H',But p H H'->H b=none->H k=none->H' b=some (.dK (sk []))->H' k=some (.dK (sk []))->b≠k->H' p=some (.ins A.Files dx (zu b k))->Q .non H'
theorem zsZ:zG ["self"] ["self"] (zj zc6):=⟨rfl,rfl,rfl,f!"",rfl,f!"",f!""⟩
theorem zlv{f:Addr}{fd:FuncData}(F:Fun K "__init__" "Files.__init__" zc6 f fd)(T:Txt K mg A):zt P w K mg base CX0 true 1 f fd ["self"] (zdX A):=by
 refine F.ok zsZ (λvs H Q E h=>?_) (λcdv Ar outer s H vs Q E hr h=>?_)
 ·obtain ⟨p,dx,rfl,_⟩:=h;rfl
 ·obtain ⟨p,dx,rfl,hp,q⟩:=h
  refine ⟨_,(W.h (zo (zey T.cl_Files T.na_Files_births (za 0) zdt)
   (zm (zey T.cl_Files T.na_Files_kept (za 0) zdt)))),?_⟩
  simp_all only []
  refine λb H1 n1=>⟨dx,[],n1.same _ _ hp,by decide,λk H2 n2=>⟨dx,_,n2.same _ _ zp,by show 1<1000;decide,?_⟩⟩
  have bp:b≠p:=λz=>by have:=n1.no;rw [z,hp] at this;cases this
  have kp:k≠p:=λz=>by have:=n2.no;rw [z,zp] at this;cases this
  have k1:H1 k=none:=by have:=n2.no;rw [ze kp] at this;exact this
  have eF:zab ("kept":Str) (V.ref k) (zab ("births":Str) (V.ref b) [])=zu b k:=by simp only [zab,zu,zh9,if_false]
  have e2:H2 b=some (.dK []):=n2.same _ _ (by rw [ze bp];exact n1.at_)
  rw [eF]
  refine q b k _ (λa o n e=>?_) n1.no (n1.same.free k1) (by rw [ze bp];exact e2) (by rw [ze kp];exact n2.at_) (λz=>?_) zp
  ·rw [ze n]
   exact n2.same _ _ (by rw [ze n];exact n1.same _ _ e)
  ·have:=n2.no
   rw [<- z,ze bp,n1.at_] at this
   cases this
def zgO(A:zh):Sp:=λvs H Q _=>∃(p b k:Addr)(t:Tab)(ks:List (Str×Tab)),vs=[.ref p]/\zaM A H p b k t ks/\t.length<64/\∀l H',New H l (.lst ((zaR (names t)).map V.str)) H'->Q (.ref l) H'
theorem zlk:zG ["self"] ["self"] (zj zcy):=⟨rfl,rfl,rfl,f!"",rfl,f!"",f!""⟩
theorem zly{f:Addr}{fd:FuncData}(F:Fun K "names" "Files.names" zcy f fd)(T:Txt K mg A):zt P w K mg base CX0 true 1 f fd ["self"] (zgO A):=by
 refine F.ok zlk (λvs H Q E h=>?_) (λcdv Ar outer s H vs Q E hr h=>?_)
 ·obtain ⟨p,b,k,t,ks,rfl,_⟩:=h;rfl
 ·obtain ⟨p,b,k,t,ks,rfl,hF,hl,q⟩:=h
  refine ⟨_,(W.h (zm (zx (zI (zdm rfl) rfl T.n_sorted boot_sorted (zb (zam T.cl_Files T.na_Files_births (za 0)) zd))))),?_⟩
  obtain ⟨dx,e1⟩:=hF.ob
  obtain ⟨kvs,e2,d⟩:=hF.births.ex
  simp_all only [e1,zaz]
  refine ⟨kvs,e2,by rw [d.length];exact hl,?_⟩
  rw [d.names]
  exact q
def lk(t:Tab)(n:Str):List Int:=(look t n).getD []
def zcu(A:zh):Sp:=λvs H Q _=>∃(p b k:Addr)(t:Tab)(ks:List (Str×Tab))(n:Str),vs=[.ref p,.str n]/\zaM A H p b k t ks/\∀H',zg H H'->Q (.int (lk t n).length) H'
theorem za0.get{H:Hp}{t:Tab}{kvs:List (Str×V)}(d:Dct (zas H) kvs t)(n:Str){p:Addr}{H':Hp}(s:zg H H')(hp:H' p=some (.tup [])):∃a,(look kvs n).getD (.ref p) = .ref a/\H' a=some (.tup ((lk t n).map V.int)):=by
 rcases d.look n with ⟨v,l,e1,e2,a,ev,ha⟩|⟨e1,e2⟩
 ·exact ⟨a,by rw [e1,ev];rfl,by unfold lk;rw [e2];exact s _ _ ha⟩
 ·exact ⟨p,by rw [e1];rfl,by unfold lk;rw [e2];exact hp⟩
theorem znZ:zG ["self","file"] ["self","file"] (zj zcR):=⟨rfl,rfl,rfl,f!"",rfl,f!"",f!""⟩
theorem zmF{f:Addr}{fd:FuncData}(F:Fun K "many" "Files.many" zcR f fd)(T:Txt K mg A):zt P w K mg base CX0 true 1 f fd ["self","file"] (zcu A):=by
 refine F.ok znZ (λvs H Q E h=>?_) (λcdv Ar outer s H vs Q E hr h=>?_)
 ·obtain ⟨p,b,k,t,ks,n,rfl,_⟩:=h;rfl
 ·obtain ⟨p,b,k,t,ks,n,rfl,hF,q⟩:=h
  refine ⟨_,(W.h (zm (zx (zI zck rfl T.n_len PySem.boot_len (zb (zd9 (zP hr) (zam T.cl_Files T.na_Files_births (za 0)) (za 1) (zbj zd)) zd))))),?_⟩
  obtain ⟨dx,e1⟩:=hF.ob
  obtain ⟨kvs,e2,d⟩:=hF.births.ex
  simp_all only [e1,zaz]
  refine ⟨⟨_,e2⟩,zero_le _,λp' H2 n2=>⟨_,Rd.same e2 n2.same,?_⟩⟩
  obtain ⟨a,ea,ha⟩:=za0.get d n n2.same n2.at_
  rw [zah,ea,zgz]
  exact ⟨_,.inr ha,by rw [length_map];exact q H2 n2.same⟩
theorem Dct.some_iff{α:Type}{R:V->α->Prop}{kvs:List (Str×V)}{t:List (Str×α)}(d:Dct R kvs t)(n:Str):(look kvs n).isSome=(look t n).isSome:=by
 rcases d.look n with ⟨v,l,e1,e2,_⟩|⟨e1,e2⟩<;>rw [e1,e2]<;>rfl
def zef(A:zh):Sp:=λvs H Q E=>∃(p b k:Addr)(t:Tab)(ks:List (Str×Tab))(n:Str),vs=[.ref p,.str n]/\zaM A H p b k t ks/\((look t n).isSome=true->Q .non H)/\((look t n).isSome=false->E (.ref A.NoFile) none H)
theorem zpP:zG ["self","file"] ["self","file"] (zj zcd):=⟨rfl,rfl,rfl,f!"",rfl,f!"",f!""⟩
theorem zll{f:Addr}{fd:FuncData}(F:Fun K "refuse_if_none" "Files.refuse_if_none" zcd f fd)(T:Txt K mg A):zt P w K mg base (CXW P w) true 1 f fd ["self","file"] (zef A):=by
 refine F.okW zpP (λvs H Q E h=>?_) (λcdv Ar outer s H vs Q E hr h=>?_)
 ·obtain ⟨p,b,k,t,ks,n,rfl,_⟩:=h;rfl
 ·obtain ⟨p,b,k,t,ks,n,rfl,hF,q,qe⟩:=h
  have Th:=zbI (cm:=true) (P:=P) (w:=w) (K:=K) (mg:=mg) (base:=base) (N:=["self","file"]) (qual:="Files.refuse_if_none") (scope:=zj zcd) (f:=f) (cd:=cdv) (A:=Ar) (outer:=outer) (s:=s) (H:=H) (E:=E)
  refine ⟨_,(W.h (zm (zS (zV (zeU (zP hr)) (za 1) (zam T.cl_Files T.na_Files_births (za 0)) rfl)
   (zm (zcT rfl Th T.ek_NoFile rfl T.mg_NoFile (zb zv zd)))
   z6))),?_⟩
  obtain ⟨dx,e1⟩:=hF.ob
  obtain ⟨kvs,e2,d⟩:=hF.births.ex
  simp_all only [e1,zaz]
  refine ⟨_,e2,?_⟩
  rw [zah,Dct.some_iff d n]
  refine zaS (λh=>⟨by decide,qe (zib h)⟩) (λh=>q (zjc h))
def zeB(A:zh):Sp:=λvs H Q E=>∃(p b k:Addr)(t:Tab)(ks:List (Str×Tab))(n:Str),vs=[.ref p,.str n]/\zaM A H p b k t ks/\((look ks n).isSome=true->Q .non H)/\((look ks n).isSome=false->E (.ref A.NotHeld) none H)
theorem zkN:zG ["self","name"] ["self","name"] (zj zbU):=⟨rfl,rfl,rfl,f!"",rfl,f!"",f!""⟩
theorem zpA{f:Addr}{fd:FuncData}(F:Fun K "refuse_if_not_held" "Files.refuse_if_not_held" zbU f fd)(T:Txt K mg A):zt P w K mg base (CXW P w) true 1 f fd ["self","name"] (zeB A):=by
 refine F.okW zkN (λvs H Q E h=>?_) (λcdv Ar outer s H vs Q E hr h=>?_)
 ·obtain ⟨p,b,k,t,ks,n,rfl,_⟩:=h;rfl
 ·obtain ⟨p,b,k,t,ks,n,rfl,hF,q,qe⟩:=h
  have Th:=zbI (cm:=true) (P:=P) (w:=w) (K:=K) (mg:=mg) (base:=base) (N:=["self","name"]) (qual:="Files.refuse_if_not_held") (scope:=zj zbU) (f:=f) (cd:=cdv) (A:=Ar) (outer:=outer) (s:=s) (H:=H) (E:=E)
  refine ⟨_,(W.h (zm (zS (zV (zeU (zP hr)) (za 1) (zam T.cl_Files T.na_Files_kept (za 0)) rfl)
   (zm (zcT rfl Th T.ek_NotHeld rfl T.mg_NotHeld (zb zv zd)))
   z6))),?_⟩
  obtain ⟨dx,e1⟩:=hF.ob
  obtain ⟨kk,e2,d⟩:=hF.kept
  simp_all only [e1,za7]
  refine ⟨_,e2,?_⟩
  rw [zah,Dct.some_iff d n]
  refine zaS (λh=>⟨by decide,qe (zib h)⟩) (λh=>q (zjc h))
end
abbrev zb8:Stmt:=zaD (top 22) 3
abbrev zcc:Stmt:=zaD (top 22) 4
abbrev zbZ:Stmt:=zaD (top 22) 5
section
variable {P:Program}{w:World}{K:Frag}{mg:Str->Option Value}{base:Heap}{A:zh}{b k:Addr}
theorem zfL{i a b:Int}(h1:a<=i)(h2:i<=b):zcO (.int i) a b=true:=by
 show (decide (a<=i)&&decide (i<=b))=true
 rw [decide_eq_true h1,decide_eq_true h2];rfl
theorem zfW{xs:List V}{i:Int}(h0:0<=i)(h1:i<=xs.length):zau xs none (some i)=xs.take i.toNat:=by
 have e1:HT.sIx xs.length 0 none=0:=rfl
 have e2:HT.sIx xs.length xs.length (some i)=i.toNat:=by
  unfold HT.sIx
  simp only
  split<;>omega
 unfold zau
 rw [e1,e2];simp
theorem zjC{xs:List V}{i:Int}(h0:0<=i)(h1:i<=xs.length+1):zau xs (some i) none=xs.drop i.toNat:=by
 have e1:HT.sIx xs.length xs.length none=xs.length:=rfl
 have e2:HT.sIx xs.length 0 (some i)=min i.toNat xs.length:=by
  unfold HT.sIx
  simp only
  split<;>omega
 unfold zau
 rw [e1,e2]
 by_cases h:i.toNat<=xs.length
 ·rw [Nat.min_eq_left h,take_of_length_le (by rw [length_drop];omega)]
 ·rw [Nat.min_eq_right (by omega),List.drop_eq_nil_of_le (le_refl _),List.drop_eq_nil_of_le (by omega)];simp
def zg1(A:zh):Sp:=λvs H Q _=>∃(p b k:Addr)(t:Tab)(ks:List (Str×Tab))(n:Str)(l:List Int)(i:Int),vs=[.ref p,.str n,.int i]/\zaM A H p b k t ks/\look t n=some l/\0<=i/\i<l.length/\∀H',zg H H'->Q (.int (l.getD i.toNat 0)) H'
theorem znI:zG ["self","file","place"] ["self","file","place"] (zj zb8):=⟨rfl,rfl,rfl,f!"",rfl,f!"",f!""⟩
theorem zsw{f:Addr}{fd:FuncData}(F:Fun K "birth" "Files.birth" zb8 f fd)(T:Txt K mg A)(M_Files_refuse_if_none:GMX P w K mg base true 1 A.Files "refuse_if_none" ["self","file"] (zef A))(M_Files_many:GM P w K mg base true 1 A.Files "many" ["self","file"] (zcu A))(Gd:GF P w K mg base true 2 "is_within" ["value","least","most"] zdG):zt P w K mg base (CXW P w) true 4 f fd ["self","file","place"] (zg1 A):=by
 refine F.okW znI (λvs H Q E h=>?_) (λcdv Ar outer s H vs Q E hr h=>?_)
 ·obtain ⟨p,b,k,t,ks,n,l,i,rfl,_⟩:=h;rfl
 ·obtain ⟨p,b,k,t,ks,n,l,i,rfl,hF,hn,i0,i1,q⟩:=h
  have Th:=zbI (cm:=true) (P:=P) (w:=w) (K:=K) (mg:=mg) (base:=base) (N:=["self","file","place"]) (qual:="Files.birth") (scope:=zj zb8) (f:=f) (cd:=cdv) (A:=Ar) (outer:=outer) (s:=s) (H:=H) (E:=E)
  refine ⟨_,(W.h (zo (zaW (za5 (za 0) T.cl_Files Th M_Files_refuse_if_none hr (zb (za 1) zd)))
   (zo (zS (zb2 (zcr (zH Gd hr rfl (zb (za 2) (zb zq (zb (zK zf8 (zdx (za 0) T.cl_Files M_Files_many hr (zb (za 1) zd)) zq) zd))))))
   (zm (zcT rfl Th T.ek_NoPlace rfl T.mg_NoPlace (zb zv zd)))
   z6)
   (zm (zx (zaj zaO (zaj (zbW (zP hr)) (zam T.cl_Files T.na_Files_births (za 0)) (za 1) (λ_ _=>rfl)) (za 2) (λ_ _=>rfl))))))),?_⟩
  obtain ⟨dx,e1⟩:=hF.ob
  simp_all only [e1,zaz,zes,zbM]
  refine ⟨p,b,k,t,ks,n,rfl,hF,λ_=>?_,λz=>by rw [hn] at z;cases z⟩
  simp_all only [e1,zaz,zes,zbM]
  refine ⟨p,b,k,t,ks,n,rfl,hF,λH1 s1=>?_⟩
  have F1:=hF.same s1
  obtain ⟨dx',e1'⟩:=F1.ob
  obtain ⟨kvs,e2,d⟩:=F1.births.ex
  have el:lk t n=l:=by unfold lk;rw [hn];rfl
  simp_all only []
  refine ⟨_,_,_,rfl,.int i,?_⟩
  rw [zfL i0 (by rw [el];omega)]
  simp_all only [e1',zaz]
  refine ⟨_,e2,?_⟩
  rcases d.look n with ⟨v,l',d1,d2,a,ev,ha⟩|⟨_,d2⟩
  ·rw [hn] at d2
   cases d2
   subst ev
   refine ⟨.ref a,by rw [zah];exact d1,?_⟩
   rw [zec]
   have hi:i.toNat<l.length:=by omega
   refine ⟨_,.inr ha,.int (l.getD i.toNat 0),?_,q H1 s1⟩
   have z:atI (l.map V.int) ((i.toNat:Nat):Int)=some (.int (l[i.toNat])):=zew (by rw [getElem?_map,List.getElem?_eq_getElem hi];rfl)
   rw [show ((i.toNat:Nat):Int)=i by omega] at z
   rw [z,getD_eq_getElem?_getD,List.getElem?_eq_getElem hi];rfl
  ·rw [hn] at d2;cases d2
def zfP(A:zh):Sp:=λvs H Q E=>∃(p b k:Addr)(t:Tab)(ks:List (Str×Tab))(n:Str)(i x:Int),vs=[.ref p,.str n,.int i,.int x]/\zr A H p b k t ks/\0<=i/\(lk t n).length<=1000/\t.length<=1000 /\
 (i<=(lk t n).length->∀H',But b H H'->zr A H' p b k (zA t n ((lk t n).take i.toNat++[x]++(lk t n).drop (i.toNat+1))) ks->Q .non H')/\((lk t n).length<i->∀H',zg H H'->E (.ref A.NoPlace) none H')
theorem zi7:zG ["self","file","place","birth","births"] ["self","file","place","birth"] (zj zcc):=⟨rfl,rfl,rfl,f!"",rfl,f!"",f!""⟩
theorem zqD{f:Addr}{fd:FuncData}(F:Fun K "put" "Files.put" zcc f fd)(T:Txt K mg A)(M_Files_many:GM P w K mg base true 1 A.Files "many" ["self","file"] (zcu A))(Gd:GF P w K mg base true 2 "is_within" ["value","least","most"] zdG):zt P w K mg base (CXW P w) true 4 f fd ["self","file","place","birth"] (zfP A):=by
 refine F.okW zi7 (λvs H Q E h=>?_) (λcdv Ar outer s H vs Q E hr h=>?_)
 ·obtain ⟨p,b,k,t,ks,n,i,x,rfl,_⟩:=h;rfl
 ·obtain ⟨p,b,k,t,ks,n,i,x,rfl,hF,i0,l1,t1,q,qe⟩:=h
  have Th:=zbI (cm:=true) (P:=P) (w:=w) (K:=K) (mg:=mg) (base:=base) (N:=["self","file","place","birth","births"]) (qual:="Files.put") (scope:=zj zcc) (f:=f) (cd:=cdv) (A:=Ar) (outer:=outer) (s:=s) (H:=H) (E:=E)
  refine ⟨_,(W.h (zo (zS (zb2 (zcr (zH Gd hr rfl (zb (za 2) (zb zq (zb (zdx (za 0) T.cl_Files M_Files_many hr (zb (za 1) zd)) zd))))))
   (zm (zcT rfl Th T.ek_NoPlace rfl T.mg_NoPlace (zb zv zd)))
   z6)
   (zo (zY (i:=4) zi7.nd rfl (Or.inl rfl) (zd9 (zP hr) (zam T.cl_Files T.na_Files_births (za 0)) (za 1) (zbj zd)))
   (zm (za4 (zK zfl (zK zfl (zdu zfg (za 4) zdQ (zdr (za 2))) (zbj (zb (za 3) zd))) (zdu zfg (za 4) (zdr (zK zfl (za 2) zq)) zdQ)) (zbP (zam T.cl_Files T.na_Files_births (za 0)) (za 1) (zdJ (zP hr)))))))),?_⟩
  obtain ⟨dx,e1⟩:=hF.ob
  simp_all only [e1,zaz,zbM]
  refine ⟨p,b,k,t,ks,n,rfl,hF.r,λH1 s1=>?_⟩
  have F1:=hF.same s1
  obtain ⟨dx',e1'⟩:=F1.ob
  obtain ⟨kvs,e2,d⟩:=F1.births.ex
  simp_all only []
  refine ⟨_,_,_,rfl,.int i,?_⟩
  by_cases i1:i<=((lk t n).length:Int)
  case neg =>
   rw [show zcO (.int i) 0 ((lk t n).length:Int)=false by show (decide (0<=i)&&decide (i<=((lk t n).length:Int)))=false;rw [decide_eq_false i1,Bool.and_false]]
   simp_all only []
   exact ⟨by decide,qe (by omega) H1 s1⟩
  have q:=q i1
  rw [zfL i0 i1]
  simp_all only [e1',zaz]
  refine ⟨⟨_,.inl e2⟩,zero_le _,λp1 H2 n2=>⟨_,.inl (n2.same _ _ e2),?_⟩⟩
  obtain ⟨a,ea,ha⟩:=za0.get d n n2.same n2.at_
  rw [zah,ea]
  simp_all only [ha]
  intro p2 H3 s3 e3
  refine ⟨by decide,λp3 H4 n4=>?_⟩
  rw [zfW i0 (by rw [length_map];exact i1)] at e3
  have big:∀n:Nat,n<=100000->n<=sizeLine:=λn h=>le_trans h (by decide)
  refine .inr ⟨_,n4.same _ _ e3,_,n4.at_,big _ (by simp;omega),λp4 H5 s5 e5=>?_⟩
  have ha5:=s5 _ _ (n4.same _ _ (s3 _ _ ha))
  refine .inr ⟨_,ha5,λp6 H6 s6 e6=>?_⟩
  rw [zjC (by omega) (by rw [length_map];omega)] at e6
  refine .inr ⟨_,s6 _ _ e5,_,e6,big _ (by simp;omega),λp7 H7 s7 e7=>?_⟩
  have sB:zg H1 H7:=((((n2.same.trans s3).trans n4.same).trans s5).trans s6).trans s7
  have F7:=F1.same sB
  obtain ⟨dx7,e17⟩:=F7.ob
  simp_all only [e17,zaz]
  refine ⟨_,sB _ _ e2,by rw [zbF,d.length];exact Nat.lt_of_le_of_lt t1 (by decide),?_⟩
  rw [zcI]
  have bt:∀xs,H7 b≠some (.tup xs):=λxs z=>by rw [sB _ _ e2] at z;cases z
  have et:(i+1).toNat=i.toNat+1:=by omega
  have d7:Dct (zas H7) kvs t:=d.imp λv a r=>r.same sB
  have r7:zas H7 (.ref p7) ((lk t n).take i.toNat++[x]++(lk t n).drop (i.toNat+1)):=⟨p7,rfl,by rw [e7,et];simp [List.map_take,List.map_drop]⟩
  refine q _ (λc o nc e=>by rw [ze nc];exact sB _ _ (s1 _ _ e)) (F7.setB But.upd zp ((d7.put n r7).imp λv a r=>r.but But.upd bt) (zcA hF.births.nd))
def zaL(t:Tab)(n:Str)(m:Int):Tab:=if m=0 then zE t n else zA t n ((lk t n).take m.toNat)
def zg2(A:zh):Sp:=λvs H Q E=>∃(p b k:Addr)(t:Tab)(ks:List (Str×Tab))(n:Str)(m:Int),vs=[.ref p,.str n,.int m]/\zr A H p b k t ks/\0<=m/\t.length<=1000/\(look t n=none->E (.ref A.NoFile) none H)/\∀l,look t n=some l->(l.length<m->∀H',zg H H'->E (.ref A.NoPlace) none H')/\(m<=l.length->∀H',But b H H'->zr A H' p b k (zaL t n m) ks->Q .non H')
theorem zrG:zG ["self","file","many"] ["self","file","many"] (zj zbZ):=⟨rfl,rfl,rfl,f!"",rfl,f!"",f!""⟩
theorem zoZ{f:Addr}{fd:FuncData}(F:Fun K "cut" "Files.cut" zbZ f fd)(T:Txt K mg A)(M_Files_refuse_if_none:GMX P w K mg base true 1 A.Files "refuse_if_none" ["self","file"] (zef A))(M_Files_many:GM P w K mg base true 1 A.Files "many" ["self","file"] (zcu A))(Gd:GF P w K mg base true 2 "is_within" ["value","least","most"] zdG):zt P w K mg base (CXW P w) true 4 f fd ["self","file","many"] (zg2 A):=by
 refine F.okW zrG (λvs H Q E h=>?_) (λcdv Ar outer s H vs Q E hr h=>?_)
 ·obtain ⟨p,b,k,t,ks,n,m,rfl,_⟩:=h;rfl
 ·obtain ⟨p,b,k,t,ks,n,m,rfl,hF,m0,t1,qn,q⟩:=h
  have hu:_<cLine:=lt_of_succ_lt (zP hr)
  have Th:=zbI (cm:=true) (P:=P) (w:=w) (K:=K) (mg:=mg) (base:=base) (N:=["self","file","many"]) (qual:="Files.cut") (scope:=zj zbZ) (f:=f) (cd:=cdv) (A:=Ar) (outer:=outer) (s:=s) (H:=H) (E:=E)
  refine ⟨_,(W.h (zo (zaW (za5 (za 0) T.cl_Files Th M_Files_refuse_if_none hr (zb (za 1) zd)))
   (zo (zS (zb2 (zcr (zH Gd hr rfl (zb (za 2) (zb zq (zb (zdx (za 0) T.cl_Files M_Files_many hr (zb (za 1) zd)) zd))))))
   (zm (zcT rfl Th T.ek_NoPlace rfl T.mg_NoPlace (zb zv zd)))
   z6)
   (zm (zS (zV (zbv hu) (za 2) zq (zaa _))
   (zm (ziv (zam T.cl_Files T.na_Files_births (za 0)) (za 1)))
   (zm (za4 (zdu zfg (zaj (zbW (zP hr)) (zam T.cl_Files T.na_Files_births (za 0)) (za 1) (λ_ _=>rfl)) zdQ (zdr (za 2))) (zbP (zam T.cl_Files T.na_Files_births (za 0)) (za 1) (zdJ (zP hr)))))))))),?_⟩
  obtain ⟨dx,e1⟩:=hF.ob
  simp_all only [e1,zaz,zes,zbM]
  refine ⟨p,b,k,t,ks,n,rfl,hF.r,λhs=>?_,λhs=>⟨_,rfl,qn (by cases e:look t n with|none=>rfl|some _=>rw [e] at hs;cases hs)⟩⟩
  obtain ⟨l,hn⟩:=isSome_iff_exists.mp hs
  obtain ⟨qe,q⟩:=q l hn
  simp_all only [e1,zaz,zes,zbM]
  refine ⟨p,b,k,t,ks,n,rfl,hF.r,λH1 s1=>?_⟩
  have F1:=hF.same s1
  obtain ⟨dx',e1'⟩:=F1.ob
  obtain ⟨kvs,e2,d⟩:=F1.births.ex
  have el:lk t n=l:=by unfold lk;rw [hn];rfl
  simp_all only []
  refine ⟨_,_,_,rfl,.int m,?_⟩
  by_cases m1:m<=(l.length:Int)
  case neg =>
   rw [el,show zcO (.int m) 0 (l.length:Int)=false by show (decide (0<=m)&&decide (m<=(l.length:Int)))=false;rw [decide_eq_false m1,Bool.and_false]]
   simp_all only []
   exact ⟨by decide,qe (by omega) H1 s1⟩
  have q:=q m1
  rw [zfL m0 (by rw [el];omega)]
  simp_all only [e1',zaz]
  have bt:∀xs,H1 b≠some (.tup xs):=λxs z=>by rw [e2] at z;cases z
  obtain ⟨v,l',d1,d2,a,ev,ha⟩:∃v l',look kvs n=some v/\look t n=some l'/\zas H1 v l':=by
   rcases d.look n with ⟨v,l',d1,d2,r⟩|⟨_,d2⟩
   ·exact ⟨v,l',d1,d2,r⟩
   ·rw [hn] at d2;cases d2
  rw [hn] at d2
  cases d2
  subst ev
  refine zaS (λh=>?_) (λh=>?_)
  ·have hm:m=0:=of_decide_eq_true h
   refine ⟨_,e2,by rw [zah,d1];rfl,?_⟩
   rw [zeM]
   have ec:zaL t n m=zE t n:=if_pos hm
   refine q _ (λc o nc e=>by rw [ze nc];exact s1 _ _ e) ?_
   rw [ec]
   exact F1.setB But.upd zp ((d.drop n).imp λv a r=>r.but But.upd bt) (zeq hF.births.nd)
  ·have hm : ¬ m=0:=λz=>h (decide_eq_true z)
   refine ⟨_,.inl e2,.ref a,by rw [zah];exact d1,?_⟩
   simp_all only [ha]
   intro p2 H2 s2 ep
   rw [zfW m0 (by rw [length_map];exact m1)] at ep
   have F2:=F1.same s2
   obtain ⟨dx2,e12⟩:=F2.ob
   simp_all only [e12,zaz]
   refine ⟨_,s2 _ _ e2,by rw [zbF,d.length];exact Nat.lt_of_le_of_lt t1 (by decide),?_⟩
   rw [zcI]
   have bt2:∀xs,H2 b≠some (.tup xs):=λxs z=>by rw [s2 _ _ e2] at z;cases z
   have d2:Dct (zas H2) kvs t:=d.imp λv a r=>r.same s2
   have r2:zas H2 (.ref p2) ((lk t n).take m.toNat):=⟨p2,rfl,by rw [ep,el,List.map_take]⟩
   have ec:zaL t n m=zA t n ((lk t n).take m.toNat):=if_neg hm
   refine q _ (λc o nc e=>by rw [ze nc];exact s2 _ _ (s1 _ _ e)) ?_
   rw [ec]
   exact F2.setB But.upd zp ((d2.put n r2).imp λv a r=>r.but But.upd bt2) (zcA hF.births.nd)
end
abbrev zbS:Stmt:=zaD (top 22) 6
abbrev zcb:Stmt:=zaD (top 22) 7
abbrev zcs:Stmt:=zaD (top 22) 8
abbrev zch:Stmt:=zaD (top 22) 9
abbrev zcD:Stmt:=zaD (top 22) 12
abbrev zcP:Stmt:=zaD (top 22) 13
section
variable {P:Program}{w:World}{K:Frag}{mg:Str->Option Value}{base:Heap}{A:zh}{b k:Addr}
def zf5(A:zh):Sp:=λvs H Q _=>∃(p b k:Addr)(t:Tab)(ks:List (Str×Tab)),vs=[.ref p]/\zaM A H p b k t ks/\ks.length<64/\∀l H',New H l (.lst ((zaR (names ks)).map V.str)) H'->Q (.ref l) H'
theorem zou:zG ["self"] ["self"] (zj zcs):=⟨rfl,rfl,rfl,f!"",rfl,f!"",f!""⟩
theorem zlM{f:Addr}{fd:FuncData}(F:Fun K "held" "Files.held" zcs f fd)(T:Txt K mg A):zt P w K mg base CX0 true 1 f fd ["self"] (zf5 A):=by
 refine F.ok zou (λvs H Q E h=>?_) (λcdv Ar outer s H vs Q E hr h=>?_)
 ·obtain ⟨p,b,k,t,ks,rfl,_⟩:=h;rfl
 ·obtain ⟨p,b,k,t,ks,rfl,hF,hl,q⟩:=h
  refine ⟨_,(W.h (zm (zx (zI (zdm rfl) rfl T.n_sorted boot_sorted (zb (zam T.cl_Files T.na_Files_kept (za 0)) zd))))),?_⟩
  obtain ⟨dx,e1⟩:=hF.ob
  obtain ⟨kk,e2,d⟩:=hF.kept
  simp_all only [e1,za7]
  refine ⟨kk,e2,by rw [d.length];exact hl,?_⟩
  rw [d.names]
  exact q
structure Has(A:zh)(H:Hp)(p:Addr)(t:Tab):Prop where
 ob:∃b k dx,H p=some (.ins A.Files dx (zu b k))/\zaZ H b t
theorem zr.has{H:Hp}{p:Addr}{t:Tab}{ks:List (Str×Tab)}(h:zr A H p b k t ks):Has A H p t:=let ⟨dx,e⟩:=h.ob;⟨b,k,dx,e,h.births.r⟩
theorem zak.has{H:Hp}{p:Addr}{t:Tab}(h:zak A H p b k t):Has A H p t:=let ⟨dx,e⟩:=h.ob;⟨b,k,dx,e,h.births⟩
def zdi(A:zh):Sp:=λvs H Q _=>∃(p:Addr)(t:Tab),vs=[.ref p]/\Has A H p t/\∀q b' k' H',zg H H'->H b'=none->H k'=none->H q=none->zak A H' q b' k' t->zr A H' q b' k' t []->Q (.ref q) H'
theorem zjf:zG ["self","other"] ["self"] (zj zcD):=⟨rfl,rfl,rfl,f!"",rfl,f!"",f!""⟩
theorem zsX{f:Addr}{fd:FuncData}(F:Fun K "bare" "Files.bare" zcD f fd)(T:Txt K mg A)(Ge:GC P w K mg base true 1 "Files" A.Files ["self"] (zdX A)):zt P w K mg base CX0 true 3 f fd ["self"] (zdi A):=by
 refine F.ok zjf (λvs H Q E h=>?_) (λcdv Ar outer s H vs Q E hr h=>?_)
 ·obtain ⟨p,t,rfl,_⟩:=h;rfl
 ·obtain ⟨p,t,rfl,⟨b,k,dx,e1,hB⟩,q⟩:=h
  refine ⟨_,(W.h (zo (zY (i:=1) zjf.nd rfl (Or.inl rfl) (ziz Ge hr rfl))
   (zo (zey T.cl_Files T.na_Files_births (za 1) (zbp zcz rfl T.n_dict boot_dict (zb (zam T.cl_Files T.na_Files_births (za 0)) zd)))
   (zm (zx (za 1)))))),?_⟩
  obtain ⟨kvs,e2,d⟩:=hB.ex
  simp_all only [e1,zaz]
  refine λx dx2 H2 nI=>⟨x,dx2,rfl,nI.at_,λb1 k1 H3 s3 nb nk eb ek nbk ex=>⟨rfl,?_⟩⟩
  have px:∀c o,H c=some o->c≠x:=λc o e z=>by have:=nI.no;rw [<- z,e] at this;cases this
  have s03:∀c o,H c=some o->H3 c=some o:=λc o e=>s3 c o (px c o e) (nI.same c o e)
  have e13:=s03 _ _ e1
  simp_all only [e13,zaz]
  refine ⟨_,Rd.same e2 s03,λb2 H4 n4=>⟨dx2,_,n4.same _ _ ex,by show 2<1000;decide,?_⟩⟩
  have eF:zab ("births":Str) (V.ref b2) (zu b1 k1)=zu b2 k1:=by simp only [zab,zu,if_true]
  rw [eF]
  have b2x:b2≠x:=λz=>by have:=n4.no;rw [z,ex] at this;cases this
  have k1x:k1≠x:=λz=>by rw [z,ex] at ek;cases ek
  have sF:zg H (upd H4 x (.ins A.Files dx2 (zu b2 k1))):=λc o e=>by rw [ze (px c o e)];exact n4.same _ _ (s03 c o e)
  have fr:∀c,H3 c=none->H c=none:=λc e=>by
   cases h:H c with
   | none=>rfl
   | some o=>rw [s03 c o h] at e;cases e
  have k0:H k1=none:=nI.same.free nk
  refine q x b2 k1 _ sF (fr b2 n4.no) k0 nI.no ⟨⟨dx2,zp⟩,⟨⟨kvs,.inl (by rw [ze b2x];exact n4.at_),d.imp λv a r=>r.same sF⟩,hB.nd⟩,.inl (by rw [ze k1x];exact n4.same _ _ ek)⟩ ⟨⟨dx2,zp⟩,⟨⟨kvs,by rw [ze b2x];exact n4.at_,d.imp λv a r=>r.same sF⟩,hB.nd⟩,⟨[],by rw [ze k1x];exact n4.same _ _ ek,.nil⟩,by simp [names],λz=>by have:=n4.no;rw [z,ek] at this;cases this⟩
theorem zcJ{α:Type}{t:List (Str×α)}{n:Str}{a:α}{p:Str×α}(h:p∈zA t n a):p∈t\/p=(n,a):=by
 unfold zA at h
 split at h
 ·obtain ⟨q,hq,e⟩:=mem_map.mp h
  by_cases c:q.1=n
  ·rw [if_pos c] at e;right;rw [<- e,c]
  ·rw [if_neg c] at e;left;rw [<- e];exact hq
 ·rcases mem_append.mp h with h|h
  ·exact .inl h
  ·exact .inr (by simpa using h)
def zO(A:zh)(H:Hp)(k c:Addr):Prop:=∀kvs,H k=some (.dK kvs)->∀pv∈kvs,∀q b' k' dx,pv.2 = .ref q->H q=some (.ins A.Files dx (zu b' k'))->b'≠c/\k'≠c
theorem zde{b k b' k':Addr}(h:zu b k=zu b' k'):b=b'/\k=k':=by
 unfold zu at h
 injection h with h1 h2
 injection h1 with _ h1
 injection h2 with h2 _
 injection h2 with _ h2
 injection h1 with h1
 injection h2 with h2
 exact ⟨h1,h2⟩
def zfR(A:zh):Sp:=λvs H Q _=>∃(p b k:Addr)(t:Tab)(ks:List (Str×Tab))(n:Str)(q:Addr)(u:Tab),vs=[.ref p,.str n,.ref q]/\zr A H p b k t ks/\Has A H q u/\ks.length<=1000/\∀H',But k H H'->zr A H' p b k t (zA ks n u)->(∀c,H c≠none->zO A H k c->zO A H' k c)->Q .non H'
theorem znp:zG ["self","name","files"] ["self","name","files"] (zj zcP):=⟨rfl,rfl,rfl,f!"",rfl,f!"",f!""⟩
theorem zrn{f:Addr}{fd:FuncData}(F:Fun K "keep" "Files.keep" zcP f fd)(T:Txt K mg A)(M_Files_bare:GM P w K mg base true 3 A.Files "bare" ["self"] (zdi A)):zt P w K mg base CX0 true 4 f fd ["self","name","files"] (zfR A):=by
 refine F.ok znp (λvs H Q E h=>?_) (λcdv Ar outer s H vs Q E hr h=>?_)
 ·obtain ⟨p,b,k,t,ks,n,q,u,rfl,_⟩:=h;rfl
 ·obtain ⟨p,b,k,t,ks,n,qa,u,rfl,hF,hQ,kl,q⟩:=h
  refine ⟨_,(W.h (zm (za4 (zcj (za 2) T.cl_Files M_Files_bare hr) (zbP (zam T.cl_Files T.na_Files_kept (za 0)) (za 1) (zdJ (zP hr)))))),?_⟩
  obtain ⟨dx,e1⟩:=hF.ob
  obtain ⟨bq,kq,dxq,eq1,_⟩:=hQ.ob
  simp_all only [eq1,zgk]
  refine ⟨qa,u,rfl,hQ,λx b' k' H1 s1 nb nk nx hB _=>?_⟩
  have F1:=hF.same s1
  obtain ⟨dx1,e11⟩:=F1.ob
  obtain ⟨kk,e2,d⟩:=F1.kept
  obtain ⟨kvb,eb,_⟩:=hF.births.ex
  obtain ⟨kk0,ek,_⟩:=hF.kept
  simp_all only [e11,za7]
  refine ⟨_,e2,by rw [zbF,d.length];exact Nat.lt_of_le_of_lt kl (by decide),?_⟩
  rw [zcI]
  have ne:∀c o,H c=some o->∀e,H e=none->e≠c:=λc o h e he z=>by rw [z,h] at he;cases he
  have r:zaU A H1 b k (.ref x) u:=⟨x,b',k',rfl,hB,ne _ _ eb _ nb,ne _ _ ek _ nb,ne _ _ eb _ nk,ne _ _ ek _ nk⟩
  refine q _ (λc o nc e=>by rw [ze nc];exact s1 _ _ e) (F1.setK But.upd zp ((d.put n r).imp λv a r=>r.but But.upd e2) (zcA hF.ndk)) λc hc av kvs hk pv hpv q1 b1 k1 dx1 ev eq2=>?_
  rw [zp] at hk
  cases hk
  have qk:q1≠k:=λz=>by rw [z,zp] at eq2;cases eq2
  rw [ze qk] at eq2
  unfold sk at hpv
  obtain ⟨pv',hpv',rfl⟩:=mem_map.mp hpv
  have ev:pv'.2 = .ref q1:=ev
  rcases zcJ hpv' with h|rfl
  ·obtain ⟨kk1,ek1,dk1⟩:=hF.kept
   have:=s1 _ _ ek1
   rw [e2] at this
   have hkk:kk1.map (·.2)=kk.map (·.2):=by
    have h2:sk kk1=sk kk:=by injection this with this;injection this with this;exact this.symm
    have h3:=congrArg (List.map (·.2)) h2
    unfold sk at h3
    rw [map_map,map_map] at h3
    exact h3
   have hm:pv'.2∈kk1.map (·.2):=by rw [hkk];exact mem_map.mpr ⟨_,h,rfl⟩
   obtain ⟨pw,hpw,epw⟩:=mem_map.mp hm
   obtain ⟨j,hj,ej⟩:=getElem_of_mem hpw
   obtain ⟨a2,_,q2,b2,k2,ev2,hB2,_⟩:=Dct.at dk1 (List.getElem?_eq_getElem hj)
   rw [ej,epw,ev] at ev2
   cases ev2
   obtain ⟨dx2,e22⟩:=hB2.ob
   have e33:=s1 _ _ e22
   rw [eq2] at e33
   injection e33 with e33
   injection e33 with _ _ e33
   obtain ⟨r1,r2⟩:=zde e33
   subst r1 r2
   exact av _ ek1 _ (by unfold sk;exact mem_map.mpr ⟨pw,hpw,rfl⟩) q1 b1 k1 dx2 (show pw.2=_ by rw [epw,ev]) e22
  ·have ev:V.ref x = .ref q1:=ev
   cases ev
   obtain ⟨dx2,e22⟩:=hB.ob
   rw [eq2] at e22
   injection e22 with e22
   injection e22 with _ _ e22
   obtain ⟨r1,r2⟩:=zde e22
   subst r1 r2
   exact ⟨λz=>hc (by rw [<- z];exact nb),λz=>hc (by rw [<- z];exact nk)⟩
def zfd(A:zh):Sp:=λvs H Q E=>∃(p b k:Addr)(t:Tab)(ks:List (Str×Tab))(n:Str),vs=[.ref p,.str n]/\zr A H p b k t ks/\ks.length<=1000/\((look ks n).isSome=true->E (.ref A.HeldAlready) none H)/\(look ks n=none->∀H',But k H H'->zr A H' p b k t (zA ks n t)->(∀c,H c≠none->zO A H k c->zO A H' k c)->Q .non H')
theorem zqF:zG ["self","name"] ["self","name"] (zj zbS):=⟨rfl,rfl,rfl,f!"",rfl,f!"",f!""⟩
theorem zsq{f:Addr}{fd:FuncData}(F:Fun K "hold" "Files.hold" zbS f fd)(T:Txt K mg A)(M_Files_keep:GM P w K mg base true 4 A.Files "keep" ["self","name","files"] (zfR A)):zt P w K mg base (CXW P w) true 5 f fd ["self","name"] (zfd A):=by
 refine F.okW zqF (λvs H Q E h=>?_) (λcdv Ar outer s H vs Q E hr h=>?_)
 ·obtain ⟨p,b,k,t,ks,n,rfl,_⟩:=h;rfl
 ·obtain ⟨p,b,k,t,ks,n,rfl,hF,kl,qe,q⟩:=h
  have Th:=zbI (cm:=true) (P:=P) (w:=w) (K:=K) (mg:=mg) (base:=base) (N:=["self","name"]) (qual:="Files.hold") (scope:=zj zbS) (f:=f) (cd:=cdv) (A:=Ar) (outer:=outer) (s:=s) (H:=H) (E:=E)
  refine ⟨_,(W.h (zo (zS (zV (zju (zP hr)) (za 1) (zam T.cl_Files T.na_Files_kept (za 0)) rfl)
   (zm (zcT rfl Th T.ek_HeldAlready rfl T.mg_HeldAlready (zb zv zd)))
   z6)
   (zm (zaW (zdx (za 0) T.cl_Files M_Files_keep hr (zb (za 1) (zb (za 0) zd))))))),?_⟩
  obtain ⟨dx,e1⟩:=hF.ob
  obtain ⟨kk,e2,d⟩:=hF.kept
  simp_all only [e1,za7,zsn]
  refine ⟨_,.inl e2,?_⟩
  rw [zah,Dct.some_iff d n]
  refine zaS (λh=>⟨by decide,qe h⟩) (λh=>⟨p,b,k,t,ks,n,p,t,rfl,hF,hF.has,kl,q (by cases e:look ks n with|none=>rfl|some _=>rw [e] at h;exact absurd rfl h)⟩)
def zgZ(A:zh):Sp:=λvs H Q E=>∃(p b k:Addr)(t:Tab)(ks:List (Str×Tab))(n:Str),vs=[.ref p,.str n]/\zr A H p b k t ks/\((look ks n).isSome=false->E (.ref A.NotHeld) none H)/\((look ks n).isSome=true->∀H',But k H H'->zr A H' p b k t (zE ks n)->(∀c,zO A H k c->zO A H' k c)->Q .non H')
theorem zqh:zG ["self","name"] ["self","name"] (zj zcb):=⟨rfl,rfl,rfl,f!"",rfl,f!"",f!""⟩
theorem zrw{f:Addr}{fd:FuncData}(F:Fun K "free" "Files.free" zcb f fd)(T:Txt K mg A)(M_Files_refuse_if_not_held:GMX P w K mg base true 1 A.Files "refuse_if_not_held" ["self","name"] (zeB A)):zt P w K mg base (CXW P w) true 3 f fd ["self","name"] (zgZ A):=by
 refine F.okW zqh (λvs H Q E h=>?_) (λcdv Ar outer s H vs Q E hr h=>?_)
 ·obtain ⟨p,b,k,t,ks,n,rfl,_⟩:=h;rfl
 ·obtain ⟨p,b,k,t,ks,n,rfl,hF,qe,q⟩:=h
  have Th:=zbI (cm:=true) (P:=P) (w:=w) (K:=K) (mg:=mg) (base:=base) (N:=["self","name"]) (qual:="Files.free") (scope:=zj zcb) (f:=f) (cd:=cdv) (A:=Ar) (outer:=outer) (s:=s) (H:=H) (E:=E)
  refine ⟨_,(W.h (zo (zaW (za5 (za 0) T.cl_Files Th M_Files_refuse_if_not_held hr (zb (za 1) zd)))
   (zm (ziv (zam T.cl_Files T.na_Files_kept (za 0)) (za 1))))),?_⟩
  obtain ⟨dx,e1⟩:=hF.ob
  obtain ⟨kk,e2,d⟩:=hF.kept
  simp_all only [e1,za7,zdW]
  refine ⟨p,b,k,t,ks,n,rfl,hF.r,λhn=>?_,λhn=>⟨_,rfl,qe hn⟩⟩
  have q:=q hn
  simp_all only [e1,za7,zdW]
  refine ⟨_,e2,by rw [zah,Dct.some_iff d n];exact hn,?_⟩
  rw [zeM]
  refine q _ But.upd (hF.setK But.upd zp ((d.drop n).imp λv a r=>r.but But.upd e2) (zeq hF.ndk)) λc av kvs hk pv hpv q1 b1 k1 dx1 ev eq2=>?_
  rw [zp] at hk
  cases hk
  have qk:q1≠k:=λz=>by rw [z,zp] at eq2;cases eq2
  rw [ze qk] at eq2
  refine av _ e2 pv ?_ q1 b1 k1 dx1 ev eq2
  unfold sk zE at hpv
  obtain ⟨pv',hpv',rfl⟩:=mem_map.mp hpv
  unfold sk
  exact mem_map.mpr ⟨pv',(mem_filter.mp hpv').1,rfl⟩
def zd2(A:zh):Sp:=λvs H Q E=>∃(p b k:Addr)(t:Tab)(ks:List (Str×Tab))(n:Str),vs=[.ref p,.str n]/\zaM A H p b k t ks/\(look ks n=none->E (.ref A.NotHeld) none H)/\∀u,look ks n=some u->∀q b' k' H',zg H H'->H b'=none->H k'=none->H q=none->zak A H' q b' k' u->zr A H' q b' k' u []->Q (.ref q) H'
theorem zod:zG ["self","name"] ["self","name"] (zj zch):=⟨rfl,rfl,rfl,f!"",rfl,f!"",f!""⟩
theorem zpy{f:Addr}{fd:FuncData}(F:Fun K "of_held" "Files.of_held" zch f fd)(T:Txt K mg A)(M_Files_refuse_if_not_held:GMX P w K mg base true 1 A.Files "refuse_if_not_held" ["self","name"] (zeB A))(M_Files_bare:GM P w K mg base true 3 A.Files "bare" ["self"] (zdi A)):zt P w K mg base (CXW P w) true 4 f fd ["self","name"] (zd2 A):=by
 refine F.okW zod (λvs H Q E h=>?_) (λcdv Ar outer s H vs Q E hr h=>?_)
 ·obtain ⟨p,b,k,t,ks,n,rfl,_⟩:=h;rfl
 ·obtain ⟨p,b,k,t,ks,n,rfl,hF,qe,q⟩:=h
  have Th:=zbI (cm:=true) (P:=P) (w:=w) (K:=K) (mg:=mg) (base:=base) (N:=["self","name"]) (qual:="Files.of_held") (scope:=zj zch) (f:=f) (cd:=cdv) (A:=Ar) (outer:=outer) (s:=s) (H:=H) (E:=E)
  refine ⟨_,(W.h (zo (zaW (za5 (za 0) T.cl_Files Th M_Files_refuse_if_not_held hr (zb (za 1) zd)))
   (zm (zx (zcj (zaj (zbW (zP hr)) (zam T.cl_Files T.na_Files_kept (za 0)) (za 1) (λ_ _=>rfl)) T.cl_Files M_Files_bare hr))))),?_⟩
  obtain ⟨dx,e1⟩:=hF.ob
  obtain ⟨kk,e2,d⟩:=hF.kept
  simp_all only [e1,za7,zdW]
  refine ⟨p,b,k,t,ks,n,rfl,hF,λhs=>?_,λhs=>⟨_,rfl,qe (by cases e:look ks n with|none=>rfl|some _=>rw [e] at hs;cases hs)⟩⟩
  obtain ⟨u,hn⟩:=isSome_iff_exists.mp hs
  have q:=q u hn
  simp_all only [e1,za7,zdW]
  refine ⟨_,e2,?_⟩
  rcases d.look n with ⟨v,u',d1,d2,x,b',k',ev,hB,_⟩|⟨_,d2⟩
  ·rw [hn] at d2
   cases d2
   subst ev
   obtain ⟨dxx,exx⟩:=hB.ob
   refine ⟨.ref x,by rw [zah];exact d1,x,rfl,dxx,_,exx,zgk,x,u,rfl,hB.has,q⟩
  ·rw [hn] at d2;cases d2
end
theorem zpN(a b:Str):leS a b\/leS b a:=by
 unfold leS
 rw [ltCps_eq,ltCps_eq]
 by_cases h:PyProof.Rows.strKind.blt b.cps.toList a.cps.toList=true
 ·exact .inr (KeyOrd.klt_asymm (O:=PyProof.Rows.strKind.toKeyOrd) h)
 ·exact .inl (by simpa using h)
theorem zoR{a b c:Str}(h1:leS a b)(h2:leS b c):leS a c:=by
 unfold leS at *
 rw [ltCps_eq] at *
 exact KeyOrd.kle_trans (O:=PyProof.Rows.strKind.toKeyOrd) h1 h2
theorem ziq(x:Str):∀l:List Str,l.Pairwise leS->∃m:List Str,m.Perm (x::l)/\m.Pairwise leS
 | [],_=>⟨[x],Perm.refl _,by simp⟩
 | y::l,h=>by
  rcases zpN x y with hx|hx
  ·refine ⟨x::y::l,Perm.refl _,pairwise_cons.mpr ⟨λz hz=>?_,h⟩⟩
   rcases mem_cons.mp hz with rfl|hz
   ·exact hx
   ·exact zoR hx ((pairwise_cons.mp h).1 z hz)
  ·obtain ⟨m,p,hm⟩:=ziq x l (pairwise_cons.mp h).2
   refine ⟨y::m,(Perm.cons y p).trans (Perm.swap x y l),pairwise_cons.mpr ⟨λz hz=>?_,hm⟩⟩
   rcases mem_cons.mp (p.mem_iff.mp hz) with rfl|hz
   ·exact hx
   ·exact (pairwise_cons.mp h).1 z hz
theorem zjl:∀ks:List Str,∃ss:List Str,ss.Perm ks/\ss.Pairwise leS
 | []=>⟨[],Perm.refl _,.nil⟩
 | x::ks=>by
  obtain ⟨ss,p,h⟩:=zjl ks
  obtain ⟨m,p2,h2⟩:=ziq x ss h
  exact ⟨m,p2.trans (Perm.cons x p),h2⟩
theorem zcN(ks:List Str):(zaR ks).Perm ks/\(zaR ks).Pairwise leS:=by
 obtain ⟨ss,p,h⟩:=zjl ks
 have e:=zjj p (sortedS_of_pairwise ss h)
 rw [<- e];exact ⟨p,h⟩
theorem zjn{ks ls:List Str}(p:ks.Perm ls):zaR ks=zaR ls:=zgv (((zcN ks).1.trans p).trans (zcN ls).1.symm) (zcN ks).2 (zcN ls).2
theorem zkJ{α:Type}{t u:List (Str×α)}(h:zaf t u)(ht:(names t).Nodup)(hu:(names u).Nodup):zaR (names t)=zaR (names u):=zjn (h.names ht hu)
theorem zgo{α:Type}{t u:List (Str×α)}(h:zaf t u)(ht:(names t).Nodup)(hu:(names u).Nodup):t.length=u.length:=by
 have:=(h.names ht hu).length_eq
 simpa [names] using this
section
variable {P:Program}{w:World}{K:Frag}{mg:Str->Option Value}{base:Heap}{A:zh}{b k:Addr}
end
abbrev zbC:Stmt:=zaD (top 22) 10
theorem FS.freeze{H:Hp}{d:Addr}{o:Obj}{kvs:List (Key×V)}(e:H d=some (.dK kvs)):FS H (upd H d (.frz o (.dK kvs))):=by
 refine ⟨λa u n m h=>?_,λa xs r=>?_⟩
 ·rw [ze (λz=>by subst z;rw [e] at h;cases h;exact n _ rfl)];exact h
 ·by_cases z:a=d
  ·subst z
   rcases r with r|⟨o',r⟩
   ·rw [e] at r;cases r;exact .inr ⟨o,zp⟩
   ·rw [e] at r;cases r
  ·unfold Rd;rw [ze z];exact r
theorem FS.thaw{H:Hp}{d:Addr}{o:Obj}{kvs:List (Key×V)}(e:H d=some (.frz o (.dK kvs))):FS H (upd H d (.dK kvs)):=by
 refine ⟨λa u n m h=>?_,λa xs r=>?_⟩
 ·rw [ze (λz=>by subst z;rw [e] at h;cases h;exact m _ _ rfl)];exact h
 ·by_cases z:a=d
  ·subst z
   rcases r with r|⟨o',r⟩
   ·rw [e] at r;cases r
   ·rw [e] at r;cases r;exact .inl zp
  ·unfold Rd;rw [ze z];exact r
theorem zoy{α β:Type}{R:α->β->Prop}{l1 l2:List α}{m1 m2:List β}(h1:Paired R l1 m1)(h2:Paired R l2 m2):Paired R (l1++l2) (m1++m2):=by
 induction h1 with
 | nil=>exact h2
 | cons r _ ih=>exact .cons r ih
def zw(t:Tab):List Int:=t.flatMap (·.2)
def zac(t:Tab)(ks:List (Str×Tab)):List Int:=zw t++ks.flatMap λp=>zw p.2
section
variable {P:Program}{w:World}{K:Frag}{mg:Str->Option Value}{base:Heap}{A:zh}
def zgP(H:Hp)(v:V)(t:Tab):Prop:=∃b,v = .ref b/\zaZ H b t
theorem zkc{ns:List Int}{n:Int}:ns.length<=(zy ns n).length:=by
 unfold zy
 split
 ·exact le_refl _
 ·simp
theorem zer:∀{l ns:List Int},ns.length<=(l.foldl zy ns).length
 | [],ns=>le_refl _
 | n::l,ns=>le_trans (zkc (n:=n)) (zer (l:=l) (ns:=zy ns n))
theorem zqi{l ns:List Int}{i:Nat}:((l.take i).foldl zy ns).length<=(l.foldl zy ns).length:=by
 have h:=zer (l:=l.drop i) (ns:=(l.take i).foldl zy ns)
 rw [<- foldl_append,List.take_append_drop] at h
 exact h
theorem zmz{l ns:List Int}{i:Nat}{n:Int}(h:l[i]?=some n):(l.take (i+1)).foldl zy ns=zy ((l.take i).foldl zy ns) n:=by
 rw [take_add_one,h,foldl_append]
 rfl
theorem zpD{Hx:Hp}{a:Addr}{l:List Int}(h:Hx a=some (.tup (l.map V.int))){x y z:Option V}{ns:List Int}(few:(l.foldl zy ns).length<3000){N:L2.St->List Int->Hp->Prop}(hN:∀z',N [x,y,z'] (l.foldl zy ns) Hx) :
  zaT (Itt K a) (zbm 2) (zb1 (zb6 2)) [x,y,z] ns Hx N:=by
 refine zaT.tup (xs:=l.map V.int) (λi τ ns' H'=>H'=Hx/\(∃z',τ=[x,y,z'])/\ns'=(l.take i).foldl zy ns) (λi τ ns H ⟨e,_⟩=>e ▸ .inl (.inl h)) ⟨rfl,⟨z,rfl⟩,rfl⟩ ?_ ?_
 ·rintro N' i v τ ns' H' hv ⟨rfl,⟨z',rfl⟩,rfl⟩ hN'
  rw [getElem?_map] at hv
  obtain ⟨n,hn,rfl⟩:=map_eq_some_iff.mp hv
  simp_all only []
  exact ⟨Nat.lt_of_le_of_lt zqi few,hN' _ _ _ ⟨rfl,⟨_,rfl⟩,(zmz hn).symm⟩⟩
 ·rintro τ ns' H' ⟨rfl,⟨z',rfl⟩,rfl⟩
  rw [length_map,take_of_length_le (le_refl _)]
  exact hN z'
theorem zfM{u:Tab}{i:Nat}{p:Str×List Int}(h:u[i]?=some p):zw (u.take (i+1))=zw (u.take i)++p.2:=by
 unfold zw
 rw [take_add_one,h,flatMap_append]
 simp
theorem ziy{u:Tab}{i:Nat}:∃r,zw u=zw (u.take i)++r:=⟨zw (u.drop i),by unfold zw;rw [<- flatMap_append,List.take_append_drop]⟩
theorem zhT{Hx:Hp}{d:Addr}{o:Obj}{kvs:List (Str×V)}{u:Tab}(h:Hx d=some (.frz o (.dK (sk kvs))))(dc:Dct (zas Hx) kvs u){x y z:Option V}{ns:List Int}(few:((zw u).foldl zy ns).length<3000){N:L2.St->List Int->Hp->Prop}(hN:∀y' z',N [x,y',z'] ((zw u).foldl zy ns) Hx) :
  zaT (Itw d o (sk kvs)) (zbm 1) (zb0 (zd6 K (zb6 1)) (zbm 2) (zb1 (zb6 2))) [x,y,z] ns Hx N:=by
 have hl:=dc.length
 refine zaT.vals (λi τ ns' H'=>H'=Hx/\(∃y' z',τ=[x,y',z'])/\ns'=(zw (u.take i)).foldl zy ns) (λi τ ns H ⟨e,_⟩=>e ▸ h) ⟨rfl,⟨y,z,rfl⟩,rfl⟩ ?_ ?_
 ·rintro N' i p τ ns' H' hp ⟨rfl,⟨y',z',rfl⟩,rfl⟩ hN'
  obtain ⟨pv,hpv,rfl⟩:∃pv,kvs[i]?=some pv/\p=(.inr pv.1,pv.2):=by
   unfold sk at hp
   rw [getElem?_map] at hp
   obtain ⟨pv,e1,e2⟩:=map_eq_some_iff.mp hp
   exact ⟨pv,e1,e2.symm⟩
  obtain ⟨l,hu,a,ea,ha⟩:=Dct.at dc hpv
  simp_all only [ea]
  have fw:(l.foldl zy ((zw (u.take i)).foldl zy ns)).length<3000:=by
   have hs:=zfM hu
   rw [<- foldl_append,<- hs]
   obtain ⟨r,e⟩:=ziy (u:=u) (i:=i+1)
   rw [e,foldl_append] at few
   exact Nat.lt_of_le_of_lt zer few
  refine ⟨⟨_,.inl (.inl ha)⟩,zpD ha fw λz2=>hN' _ _ _ ⟨rfl,⟨_,_,rfl⟩,?_⟩⟩
  have hs:=zfM hu
  rw [<- foldl_append,<- hs]
 ·rintro τ ns' H' ⟨rfl,⟨y',z',rfl⟩,rfl⟩
  have e:(sk kvs).length=u.length:=by rw [<- hl];simp [sk]
  rw [e,take_of_length_le (le_refl _)]
  exact hN y' z'
structure LvI(Hf:Hp)(k:Addr)(o:Obj)(kk:List (Str×V))(ks:List (Str×Tab))(i:Nat)(τ:L2.St)(ys:List V)(H':Hp):Prop where
 ex:∃t1,τ=[t1]
 ys:Paired (zgP Hf) ys ((ks.take i).map (·.2))
 same:zg Hf H'
structure OuI(H4:Hp)(us:List Tab)(i:Nat)(τ:L2.St)(ns:List Int)(H':Hp):Prop where
 ex:∃x y z,τ=[x,y,z]
 ns:ns=((us.take i).flatMap zw).foldl zy []
 same:zg H4 H'
def zgf(A:zh):Sp:=λvs H Q _=>∃(p b k:Addr)(t:Tab)(ks:List (Str×Tab)),vs=[.ref p]/\zr A H p b k t ks/\(uniq (zac t ks)).length<64/\ks.length<=1000 /\
 ∀l (ns:List Int) H',zg H H'->H l=none->H' l=some (.lst (ns.map V.int))->ns.Perm (uniq (zac t ks))->ns.Pairwise (·<=·)->Q (.ref l) H'
theorem zg7:zG ["self","tables"] ["self"] (zj zbC):=⟨rfl,rfl,rfl,f!"",rfl,f!"",f!""⟩
theorem ztw:zci { kind:=.function,names:=[(Str.ofString ".0",.local),(Str.ofString "files",.local)],isGenerator:=false,isCoroutine:=false,more:=[] } (zj zbC).names ["self","tables"] ["files"] [none]=true:=by decide +kernel
theorem zlg:(["files"]:List Str).Nodup:=by decide +kernel
theorem zlf:zci { kind:=.function,names:=[(Str.ofString ".0",.local),(Str.ofString "table",.local),(Str.ofString "births",.local),(Str.ofString "birth",.local)],isGenerator:=false,isCoroutine:=false,more:=[] } (zj zbC).names ["self","tables"] ["table","births","birth"] [none,none,none]=true:=by decide +kernel
theorem zf9:(["table","births","birth"]:List Str).Nodup:=by decide +kernel
theorem zru{f:Addr}{fd:FuncData}(F:Fun K "living" "Files.living" zbC f fd)(T:Txt K mg A):zt P w K mg base CX0 true 1 f fd ["self"] (zgf A):=by
 refine F.ok zg7 (λvs H Q E h=>?_) (λcdv Ar outer s H vs Q E hr h=>?_)
 ·obtain ⟨p,b,k,t,ks,rfl,_⟩:=h;rfl
 ·obtain ⟨p,b,k,t,ks,rfl,hF,h64,hk,q⟩:=h
  refine ⟨_,(W.h (zo (zY (i:=1) zg7.nd rfl (Or.inl rfl) (zK zan (zag (zb (zam T.cl_Files T.na_Files_births (za 0)) zd)) (zhS (zem (λ_=>rfl) (za2.of ztw) (zgM (zam T.cl_Files T.na_Files_kept (za 0))) (λ_ _ _ _ _=>(zU (i:=0) zlg rfl (Or.inl rfl))) (λ_ _ _ _ _=>zeR) (λ_ _ _ _ _=>(zam T.cl_Files T.na_Files_births (za 0)))))))
   (zm (zx (zI (ziR rfl) rfl T.n_sorted boot_sorted (zb (zq0 (λ_=>rfl) (λ_=>rfl) (λ_=>rfl) (za2.of zlf) (zfz (za 1)) (λ_ _ _ _ _=>(zU (i:=0) zf9 rfl (Or.inl rfl))) (λ_ _ _ _ _=>(zgM (za 0))) (λ_ _ _ _ _=>(zU (i:=1) zf9 rfl (Or.inl rfl))) (λ_ _ _ _ _=>(zm5 (za 1))) (λ_ _ _ _ _=>(zU (i:=2) zf9 rfl (Or.inl rfl))) (λ_ _ _ _ _=>(za 2))) zd)))))),?_⟩
  obtain ⟨dx,e1⟩:=hF.ob
  obtain ⟨kk,e2,d⟩:=hF.kept
  simp_all only [e1,zaz,za7]
  refine ⟨by decide,λlb H1 n1 nsm=>⟨k,sk kk,n1.same _ _ e2,λo=>?_⟩⟩
  have pk:p≠k:=λz=>by rw [z,e2] at e1;cases e1
  have hf:upd H1 k (.frz o (.dK (sk kk))) p=some (.ins A.Files dx (zu b k)):=by rw [ze pk];exact n1.same _ _ e1
  have fs:FS H (upd H1 k (.frz o (.dK (sk kk)))):=(FS.of n1.same).trans (.freeze (n1.same _ _ e2))
  simp_all only [hf,za7]
  refine ⟨o,sk kk,zp,zat.vals (LvI (upd H1 k (.frz o (.dK (sk kk)))) k o kk ks) (λi τ ys H' I=>?_) (λi τ ys H' I=>I.same _ _ zp) ⟨⟨_,rfl⟩,by rw [List.take_zero];exact .nil,zg.refl _⟩ ?_ ?_⟩
  ·have:=I.ys.length
   have h2:=List.length_take_le' i ks
   rw [length_map] at this
   exact Nat.lt_of_le_of_lt (show ys.length<=1000 by omega) (by decide)
  ·intro N i pv τ ys H' hp I hN
   obtain ⟨t1,rfl⟩:=I.ex
   obtain ⟨qv,hqv,rfl⟩:∃qv,kk[i]?=some qv/\pv=(.inr qv.1,qv.2):=by
    unfold sk at hp
    rw [getElem?_map] at hp
    obtain ⟨pv,e1,e2⟩:=map_eq_some_iff.mp hp
    exact ⟨pv,e1,e2.symm⟩
   obtain ⟨u,hu,q1,b1,k1,eq1,hB,n1b,n1k,_⟩:=Dct.at d hqv
   have hB':=hB.fs fs
   obtain ⟨dx1,e11⟩:=hB'.ob
   have e12:=I.same _ _ e11
   simp_all only [eq1,e12,zaz]
   refine hN _ _ _ ⟨⟨_,rfl⟩,?_,I.same⟩
   rw [take_add_one,hu,map_append]
   exact zoy I.ys (.cons ⟨b1,rfl,hB'.births⟩ .nil)
  ·intro τ ys H' I D H2 n2
   have hz:H2 k=some (.frz o (.dK (sk kk))):=n2.same _ _ (I.same _ _ zp)
   refine ⟨o,hz,?_⟩
   have e21:=n1.same _ _ e2
   have s3:zg H1 (upd H2 k (.dK (sk kk))):=λc u eu=>by
    by_cases z:c=k
    ·subst z;rw [e21] at eu;cases eu;exact zp
    ·rw [ze z];exact n2.same _ _ (I.same _ _ (by rw [ze z];exact eu))
   have Dk:D≠k:=λz=>by have:=n2.no;rw [z,I.same _ _ zp] at this;cases this
   have hD:upd H2 k (.dK (sk kk)) D=some (.lst ys):=by rw [ze Dk];exact n2.at_
   have hlb:=s3 _ _ n1.at_
   have fs3:FS (upd H1 k (.frz o (.dK (sk kk)))) (upd H2 k (.dK (sk kk))):=((FS.of I.same).trans (FS.of n2.same)).trans (.thaw hz)
   have py:Paired (zgP (upd H2 k (.dK (sk kk)))) ys (ks.map (·.2)):=by
    have:=I.ys
    rw [show (sk kk).length=ks.length by rw [<- d.length];simp [sk],take_of_length_le (le_refl _)] at this
    exact Paired.mapP this λv t ⟨b,e,hb⟩=>⟨b,e,hb.fs fs3⟩
   have hb3:zaZ (upd H2 k (.dK (sk kk))) b t:=hF.births.r.fs ((FS.of n1.same).trans (.of s3))
   generalize upd H2 k (.dK (sk kk))=H3 at s3 hD hlb py hb3
   simp_all only []
   have ly:=py.length
   rw [length_map] at ly
   refine ⟨[.ref b],hlb,ys,hD,by rw [length_singleton];exact le_trans (show 1+ys.length<=1001 by omega) (by decide),λtl H4 n4=>⟨⟨_,.inl (.inl n4.at_)⟩,?_⟩⟩
   have pall:Paired (zgP H4) ([.ref b]++ys) (t::ks.map (·.2)):=.cons ⟨b,rfl,hb3.fs (.of n4.same)⟩ (Paired.mapP py λv t ⟨b,e,hb⟩=>⟨b,e,hb.fs (.of n4.same)⟩)
   have eU:(t::ks.map (·.2)).flatMap zw=zac t ks:=by
    unfold zac
    rw [List.flatMap_cons,List.flatMap_map]
   have hUl:=pall.length
   generalize hus:t::ks.map (·.2)=us at pall eU hUl
   refine zaT.lst (xs:=[.ref b]++ys) (OuI H4 us) (λi τ ns H' I=>.inl (.inl (I.same _ _ n4.at_))) ⟨⟨_,_,_,rfl⟩,rfl,zg.refl _⟩ ?_ ?_
   ·intro N i v τ ns H' hv I hN
    obtain ⟨x,y,z,rfl⟩:=I.ex
    have hi:i<us.length:=by rw [<- hUl];exact (List.getElem?_eq_some_iff.mp hv).1
    have hu:us[i]?=some us[i]:=List.getElem?_eq_getElem hi
    obtain ⟨bi,rfl,hb⟩:=zgp pall hv hu
    have hb':=hb.fs (.of I.same)
    obtain ⟨kvs,hr',dc⟩:=hb'.ex
    have es:(zw us[i]).foldl zy ns=((us.take (i+1)).flatMap zw).foldl zy []:=by
     rw [I.ns,<- foldl_append,take_add_one,hu,flatMap_append]
     simp
    have few:((zw us[i]).foldl zy ns).length<3000:=by
     rw [es]
     have h1:=zer (l:=(us.drop (i+1)).flatMap zw) (ns:=((us.take (i+1)).flatMap zw).foldl zy [])
     rw [<- foldl_append,<- flatMap_append,List.take_append_drop,eU] at h1
     exact Nat.lt_of_le_of_lt h1 (lt_trans h64 (by decide))
    simp_all only []
    rcases hr' with e|⟨o',e⟩
    ·refine .inr ⟨bi,sk kvs,e,λo'=>⟨o',sk kvs,zp,zhT zp (dc.imp λv l ⟨a,ea,ha⟩=>⟨a,ea,by rw [ze (λz=>by rw [z,e] at ha;cases ha)];exact ha⟩) few λy' z'=>⟨o',zp,hN _ _ _ ⟨⟨_,_,_,rfl⟩,es,λc u eu=>?_⟩⟩⟩⟩
     by_cases zc:c=bi
     ·subst zc
      have:=I.same _ _ eu
      rw [e] at this;cases this
      exact zp
     ·rw [ze zc,ze zc];exact I.same _ _ eu
    ·exact .inl ⟨o',sk kvs,e,zhT e dc few λy' z'=>hN _ _ _ ⟨⟨_,_,_,rfl⟩,es,I.same⟩⟩
   ·intro τ ns H' I D' hD' _
    have en:ns=uniq (zac t ks):=by
     rw [I.ns,hUl,take_of_length_le (le_refl _),eU]
     rfl
    subst en
    refine ⟨_,zp,h64,λl ns' H5 n5 pm so=>?_⟩
    have sA:∀{o:HO},zg H (upd H' D' o):=λ{o} c u eu=>by
     have h1:=I.same _ _ (n4.same _ _ (s3 _ _ (n1.same _ _ eu)))
     rw [ze (λz=>by rw [z,hD'] at h1;cases h1)]
     exact h1
    exact q l ns' H5 (sA.trans n5.same) (sA.free n5.no) n5.at_ pm so
end
structure zeL(u:HO):Prop where
 d:∀kvs,u≠.dK kvs
 f:∀o kvs,u≠.frz o (.dK kvs)
 t:∀xs,u≠.tup xs
 i:∀C dx b k,u≠.ins C dx (zu b k)
theorem zeL.lst{xs:List V}:zeL (.lst xs):=⟨λ_ z=>HO.noConfusion z,λ_ _ z=>HO.noConfusion z,λ_ z=>HO.noConfusion z,λ_ _ _ _ z=>HO.noConfusion z⟩
theorem zak.putX{A:zh}{H H':Hp}{x q b k:Addr}{t:Tab}{u:HO}(h:zak A H q b k t)(s:But x H H')(hx:H x=some u)(np:zeL u):zak A H' q b k t:=by
 have ne:∀{c:Addr}{o:HO},H c=some o->o≠u->H' c=some o:=λ{c o} e n=>s _ _ (λz=>n (by rw [z,hx] at e;exact (Option.some.inj e).symm)) e
 have rd:∀{c:Addr}{kvs:List (Key×V)},Rd H c (.dK kvs)->Rd H' c (.dK kvs):=λ{c kvs} r=>r.elim (λe=>.inl (ne e λz=>np.d _ z.symm)) λ⟨o,e⟩=>.inr ⟨o,ne e λz=>np.f _ _ z.symm⟩
 obtain ⟨dx,e⟩:=h.ob
 obtain ⟨kvs,e1,d⟩:=h.births.ex
 exact ⟨⟨dx,ne e λz=>np.i _ _ _ _ z.symm⟩,⟨⟨kvs,rd e1,d.imp λv l ⟨a,ea,ha⟩=>⟨a,ea,ne ha λz=>np.t _ z.symm⟩⟩,h.births.nd⟩,rd h.kept⟩
theorem zr.putX{A:zh}{H H':Hp}{x p b k:Addr}{t:Tab}{ks:List (Str×Tab)}{u:HO}(h:zr A H p b k t ks)(s:But x H H')(hx:H x=some u)(np:zeL u):zr A H' p b k t ks:=by
 have ne:∀{c:Addr}{o:HO},H c=some o->o≠u->H' c=some o:=λ{c o} e n=>s _ _ (λz=>n (by rw [z,hx] at e;exact (Option.some.inj e).symm)) e
 obtain ⟨dx,e⟩:=h.ob
 obtain ⟨kvs,e1,d⟩:=h.births.ex
 obtain ⟨kk,e2,d2⟩:=h.kept
 exact ⟨⟨dx,ne e λz=>np.i _ _ _ _ z.symm⟩,⟨⟨kvs,ne e1 λz=>np.d _ z.symm,d.imp λv l ⟨a,ea,ha⟩=>⟨a,ea,ne ha λz=>np.t _ z.symm⟩⟩,h.births.nd⟩,⟨kk,ne e2 λz=>np.d _ z.symm,d2.imp λv u ⟨q,b',k',ev,r,n⟩=>⟨q,b',k',ev,r.putX s hx np,n⟩⟩,h.ndk,h.ne⟩
def MdP(H:Hp)(a:Addr)(v:V)(l:List Int):Prop:=∃p,v = .ref p/\H p=some (.lst (l.map V.int))/\p≠a
structure zQ(H:Hp)(a d:Addr)(u:Tab):Prop where
 ex:∃kvs,H d=some (.dK (sk kvs))/\Dct (MdP H a) kvs u
 nd:(names u).Nodup
def zbK(a b d:Addr)(H H':Hp):Prop:=∀c o,c≠a->c≠b->c≠d->H c=some o->H' c=some o
theorem zbK.of{a b d:Addr}{H H':Hp}(s:zg H H'):zbK a b d H H':=λc o _ _ _ e=>s c o e
theorem zbK.a{a b d:Addr}{H H':Hp}(s:But a H H'):zbK a b d H H':=λc o n _ _ e=>s c o n e
theorem zbK.b{a b d:Addr}{H H':Hp}(s:But b H H'):zbK a b d H H':=λc o _ n _ e=>s c o n e
theorem zbK.d{a b d:Addr}{H H':Hp}(s:But d H H'):zbK a b d H H':=λc o _ _ n e=>s c o n e
section
variable {P:Program}{w:World}{K:Frag}{mg:Str->Option Value}{base:Heap}{A:zh}
theorem zQ.same{H H':Hp}{a d:Addr}{u:Tab}(h:zQ H a d u)(s:zg H H'):zQ H' a d u:=let ⟨kvs,e,r⟩:=h.ex;⟨⟨kvs,s _ _ e,r.imp λv l ⟨p,e,hp,n⟩=>⟨p,e,s _ _ hp,n⟩⟩,h.nd⟩
theorem zQ.dic{H H':Hp}{a d c:Addr}{u:Tab}{kv:List (Key×V)}(h:zQ H a d u)(s:But c H H')(hc:H c=some (.dK kv))(n:d≠c):zQ H' a d u :=
 let ⟨kvs,e,r⟩:=h.ex;⟨⟨kvs,s _ _ n e,r.imp λv l ⟨p,ev,hp,n⟩=>⟨p,ev,s _ _ (λz=>by rw [z,hc] at hp;cases hp) hp,n⟩⟩,h.nd⟩
theorem zQ.pot{H H':Hp}{a d:Addr}{u:Tab}(h:zQ H a d u)(s:But a H H')(hP:Pot H a):zQ H' a d u :=
 let ⟨kvs,e,r⟩:=h.ex;let ⟨_,_,ea,_⟩:=hP.ex;⟨⟨kvs,s _ _ (λz=>by rw [z,ea] at e;cases e) e,r.imp λv l ⟨p,ev,hp,n⟩=>⟨p,ev,s _ _ n hp,n⟩⟩,h.nd⟩
theorem zr.pot{H H':Hp}{p b k a:Addr}{t:Tab}{ks:List (Str×Tab)}(h:zr A H p b k t ks)(s:But a H H')(hP:Pot H a):zr A H' p b k t ks:=let ⟨_,_,e,_⟩:=hP.ex;h.putX s e .lst
theorem Pot.dic{H H':Hp}{a c:Addr}{kvs:List (Key×V)}(hP:Pot H a)(s:But c H H')(e:H c=some (.dK kvs)):Pot H' a:=let ⟨x,y,ea,r⟩:=hP.ex;⟨⟨x,y,s _ _ (λz=>by rw [z,e] at ea;cases ea) ea,r⟩⟩
theorem zO.keep{H H':Hp}{p b k c:Addr}{t:Tab}{ks:List (Str×Tab)}(h:zr A H p b k t ks)(av:zO A H k c)(s1:∀kv,H k=some (.dK kv)->H' k=some (.dK kv))(s2:∀{q C dx:Addr}{fs:List (Str×V)},H q=some (.ins C dx fs)->H' q=some (.ins C dx fs)):zO A H' k c:=by
 obtain ⟨kk,e2,d2⟩:=h.kept
 intro kvs' hk pv hpv q b' k' dx' ev eq
 have h2:=s1 _ e2
 rw [h2] at hk
 cases hk
 unfold sk at hpv
 obtain ⟨p',hp',rfl⟩:=mem_map.mp hpv
 have hq:∃dx0 b0 k0,H q=some (.ins A.Files dx0 (zu b0 k0)):=by
  obtain ⟨j,hj,ej⟩:=getElem_of_mem hp'
  obtain ⟨a2,_,q2,b2,k2,ev2,hB2,_⟩:=Dct.at d2 (List.getElem?_eq_getElem hj)
  have ev:p'.2 = .ref q:=ev
  rw [ej,ev] at ev2
  cases ev2
  obtain ⟨dx2,e22⟩:=hB2.ob
  exact ⟨_,_,_,e22⟩
 obtain ⟨dx0,b0,k0,e0⟩:=hq
 have e3:=s2 e0
 rw [e3] at eq
 injection eq with eq
 injection eq with _ _ eq
 obtain ⟨r1,r2⟩:=zde eq
 subst r1 r2
 exact av _ e2 _ (by unfold sk;exact mem_map.mpr ⟨p',hp',rfl⟩) q b0 k0 dx0 ev e0
theorem zO.same{H H':Hp}{p b k c:Addr}{t:Tab}{ks:List (Str×Tab)}(h:zr A H p b k t ks)(av:zO A H k c)(s:zg H H'):zO A H' k c:=av.keep h (λ_ e=>s _ _ e) λe=>s _ _ e
theorem zO.pot{H H':Hp}{p b k c a:Addr}{t:Tab}{ks:List (Str×Tab)}(h:zr A H p b k t ks)(av:zO A H k c)(s:But a H H')(hP:Pot H a):zO A H' k c :=
 let ⟨_,_,ea,_⟩:=hP.ex;av.keep h (λ_ e=>s _ _ (λz=>by rw [z,ea] at e;cases e) e) λe=>s _ _ (λz=>by rw [z,ea] at e;cases e) e
theorem zO.dic{H H':Hp}{p b k c x:Addr}{t:Tab}{ks:List (Str×Tab)}{kv:List (Key×V)}(h:zr A H p b k t ks)(av:zO A H k c)(s:But x H H')(hx:H x=some (.dK kv))(n:k≠x):zO A H' k c :=
 av.keep h (λ_ e=>s _ _ n e) λe=>s _ _ (λz=>by rw [z,hx] at e;cases e) e
theorem zQ.get{H H':Hp}{a:Addr}{u:Tab}{kvs:List (Str×V)}(d:Dct (MdP H a) kvs u)(n:Str){p:Addr}(s:zg H H')(hp:H' p=some (.lst []))(pa:p≠a):∃r,(look kvs n).getD (.ref p) = .ref r/\H' r=some (.lst ((lk u n).map V.int))/\r≠a:=by
 unfold lk
 rcases d.look n with ⟨v,l,e1,e2,r,ev,hr,ra⟩|⟨e1,e2⟩
 ·rw [e1,e2];exact ⟨r,ev,s _ _ hr,ra⟩
 ·rw [e1,e2];exact ⟨p,rfl,hp,pa⟩
theorem zr.dic{H H':Hp}{p b k c:Addr}{t:Tab}{ks:List (Str×Tab)}{kv:List (Key×V)}(h:zr A H p b k t ks)(av:zO A H k c)(s:But c H H')(hc:H c=some (.dK kv))(n1:b≠c)(n2:k≠c):zr A H' p b k t ks/\zO A H' k c:=by
 obtain ⟨dx,e⟩:=h.ob
 obtain ⟨kvs,e1,d⟩:=h.births.ex
 obtain ⟨kk,e2,d2⟩:=h.kept
 have ni:∀{q C dx:Addr}{fs:List (Str×V)},H q=some (.ins C dx fs)->H' q=some (.ins C dx fs):=λ{q C dx fs} e=>s _ _ (λz=>by rw [z,hc] at e;cases e) e
 refine ⟨⟨⟨dx,ni e⟩,h.births.but s (λxs z=>by rw [hc] at z;cases z) n1,⟨kk,s _ _ n2 e2,?_⟩,h.ndk,h.ne⟩,?_⟩
 ·have mem:∀p∈kk,∀q b' k' dx,p.2 = .ref q->H q=some (.ins A.Files dx (zu b' k'))->b'≠c/\k'≠c:=λp hp q b' k' dx ev eq=>av _ e2 (.inr p.1,p.2) (by unfold sk;exact mem_map.mpr ⟨p,hp,rfl⟩) q b' k' dx ev eq
  clear e2 av h
  induction d2 with
  | nil=>exact .nil
  | cons z _ ih =>
   refine .cons ⟨z.1,?_⟩ (ih λp hp=>mem p (mem_cons_of_mem _ hp))
   obtain ⟨q,b',k',ev,hB,nn⟩:=z.2
   obtain ⟨dxq,eq⟩:=hB.ob
   obtain ⟨m1,m2⟩:=mem _ mem_cons_self q b' k' dxq ev eq
   exact ⟨q,b',k',ev,hB.but s hc m1 m2,nn⟩
 ·intro kvs' hk pv hpv q b' k' dx' ev eq
  have h2:=s _ _ n2 e2
  rw [h2] at hk
  cases hk
  unfold sk at hpv
  obtain ⟨p',hp',rfl⟩:=mem_map.mp hpv
  have hq:∃dx0 b0 k0,H q=some (.ins A.Files dx0 (zu b0 k0)):=by
   obtain ⟨j,hj,ej⟩:=getElem_of_mem hp'
   obtain ⟨a2,_,q2,b2,k2,ev2,hB2,_⟩:=Dct.at d2 (List.getElem?_eq_getElem hj)
   have ev:p'.2 = .ref q:=ev
   rw [ej,ev] at ev2
   cases ev2
   obtain ⟨dx2,e22⟩:=hB2.ob
   exact ⟨_,_,_,e22⟩
  obtain ⟨dx0,b0,k0,e0⟩:=hq
  have e3:=ni e0
  rw [e3] at eq
  injection eq with eq
  injection eq with _ _ eq
  obtain ⟨r1,r2⟩:=zde eq
  subst r1 r2
  exact av _ e2 _ (by unfold sk;exact mem_map.mpr ⟨p',hp',rfl⟩) q b0 k0 dx0 ev e0
structure Bud(t:Tab)(ks:List (Str×Tab))(B:Nat):Prop where
 few:t.length<=B
 row:∀n,(lk t n).length<=B
 live:∃L:List Int,L.length<=B/\∀y∈zac t ks,y∈L
 ne:∀n l,look t n=some l->l≠[]
 old:∀p∈ks,p.2.length<=B/\∀m,(lk p.2 m).length<=B
theorem zsy{α:Type}{t:List (Str×α)}{n:Str}{a:α}:(zA t n a).length<=t.length+1:=by
 unfold zA
 split<;>simp
theorem zig{t:Tab}{n m:Str}{l:List Int}:lk (zA t n l) m=if m=n then l else lk t m:=by
 unfold lk
 rw [zbi]
 split<;>rfl
theorem zbs{t:Tab}{y:Int}:y∈zw t↔∃p∈t,y∈p.2:=by unfold zw;exact List.mem_flatMap
theorem zml{t:Tab}{z:Str}{i:Nat}{x y:Int}(h:y∈zw (zA t z ((lk t z).take i++[x]++(lk t z).drop (i+1)))):y∈zw t\/y=x:=by
 obtain ⟨p,hp,hy⟩:=zbs.mp h
 have inl:y∈lk t z->y∈zw t:=λhl=>by
  unfold lk at hl
  cases e:look t z with
  | none=>rw [e] at hl;cases hl
  | some l=>rw [e] at hl;exact zbs.mpr ⟨_,zbw e,hl⟩
 rcases zcJ hp with hp|rfl
 ·exact .inl (zbs.mpr ⟨p,hp,hy⟩)
 ·rcases mem_append.mp hy with hy|hy
  ·rcases mem_append.mp hy with hy|hy
   ·exact .inl (inl (List.mem_of_mem_take hy))
   ·exact .inr (by simpa using hy)
  ·exact .inl (inl (List.mem_of_mem_drop hy))
theorem Bud.put{t:Tab}{ks:List (Str×Tab)}{B:Nat}{z:Str}{i:Nat}{x:Int}(h:Bud t ks B)(hi:i<=(lk t z).length):Bud (zA t z ((lk t z).take i++[x]++(lk t z).drop (i+1))) ks (B+1):=by
 refine ⟨le_trans zsy (Nat.succ_le_succ h.few),λn=>?_,?_,λn l e=>?_,λp hp=>⟨le_succ_of_le (h.old p hp).1,λm=>le_succ_of_le ((h.old p hp).2 m)⟩⟩
 ·rw [zig]
  split
  ·have:=h.row z
   simp only [length_append,length_take,length_drop,length_singleton]
   omega
  ·exact le_succ_of_le (h.row n)
 ·obtain ⟨L,hL,hm⟩:=h.live
  refine ⟨L++[x],by rw [length_append,length_singleton];omega,λy hy=>?_⟩
  unfold zac at hy hm
  rcases mem_append.mp hy with hy|hy
  ·rcases zml hy with hy|rfl
   ·exact mem_append_left _ (hm y (mem_append_left _ hy))
   ·exact mem_append_right _ (by simp)
  ·exact mem_append_left _ (hm y (mem_append_right _ hy))
 ·rw [zbi] at e
  split at e
  ·cases e
   simp
  ·exact h.ne n l e
theorem zmZ{t:Tab}{n:Str}{p:Str×List Int}(h:p∈zE t n):p∈t:=by unfold zE at h;exact (mem_filter.mp h).1
theorem zk8{t:Tab}{n:Str}{l a:List Int}(h:look t n=some l):(zA t n a).length=t.length:=by
 have e:names (zA t n a)=names t:=by rw [zjt,h];rfl
 have:=congrArg length e
 unfold names at this
 rw [length_map,length_map] at this
 exact this
theorem Bud.cut{t:Tab}{ks:List (Str×Tab)}{B:Nat}{z:Str}{l:List Int}{m:Int}(h:Bud t ks B)(hl:look t z=some l)(m0:0<=m)(m1:m<=l.length):Bud (zaL t z m) ks B:=by
 have lkz:lk t z=l:=by unfold lk;rw [hl];rfl
 have sub:∀y∈zw (zaL t z m),y∈zw t:=λy hy=>by
  obtain ⟨p,hp,hyp⟩:=zbs.mp hy
  unfold zaL at hp
  split at hp
  ·exact zbs.mpr ⟨p,zmZ hp,hyp⟩
  ·rcases zcJ hp with hp|rfl
   ·exact zbs.mpr ⟨p,hp,hyp⟩
   ·rw [lkz] at hyp
    exact zbs.mpr ⟨_,zbw hl,List.mem_of_mem_take hyp⟩
 obtain ⟨L,hL,hm⟩:=h.live
 refine ⟨?_,λn=>?_,⟨L,hL,λy hy=>?_⟩,λn l' e=>?_,h.old⟩
 ·unfold zaL
  split
  ·unfold zE
   exact le_trans (List.length_filter_le ..) h.few
  ·rw [zk8 hl];exact h.few
 ·unfold zaL
  split
  ·unfold lk
   rw [zc0]
   split
   ·exact zero_le _
   ·exact h.row n
  ·rw [zig]
   split
   ·rw [length_take]
    exact le_trans (Nat.min_le_right _ _) (h.row z)
   ·exact h.row n
 ·unfold zac at hy hm
  rcases mem_append.mp hy with hy|hy
  ·exact hm y (mem_append_left _ (sub y hy))
  ·exact hm y (mem_append_right _ hy)
 ·unfold zaL at e
  split at e
  ·rw [zc0] at e
   split at e
   ·cases e
   ·exact h.ne n l' e
  ·rename_i hm0
   rw [zbi] at e
   split at e
   ·cases e
    rw [lkz]
    intro e0
    have:=congrArg length e0
    rw [length_take,length_nil] at this
    have hne:=length_pos_iff.mpr (h.ne z l hl)
    omega
   ·exact h.ne n l' e
def KvR(H:Hp)(a:Addr)(X:List Addr)(v:V)(u:Tab):Prop:=∃e,v = .ref e/\e∉X/\zQ H a e u
structure zaE(H:Hp)(a:Addr)(X:List Addr)(kd:Addr)(ku:List (Str×Tab)):Prop where
 ex:∃kvs,H kd=some (.dK (sk kvs))/\Dct (KvR H a X) kvs ku
 nd:(names ku).Nodup
def KAl(ks ku:List (Str×Tab)):Prop:=∀n,(∃v w,look ks n=some v/\look ku n=some w/\zaf v w/\(names v).Nodup)\/(look ks n=none/\look ku n=none)
def zaC(X:List Addr)(H H':Hp):Prop:=∀c o,c∉X->H c=some o->H' c=some o
theorem zaC.of{X:List Addr}{H H':Hp}(s:zg H H'):zaC X H H':=λc o _ e=>s c o e
theorem Pot.ned{H:Hp}{a c:Addr}{kvs:List (Key×V)}(hP:Pot H a)(e:H c=some (.dK kvs)):c≠a:=λz=>by obtain ⟨x,y,ea,_⟩:=hP.ex;rw [z,ea] at e;cases e
theorem zQ.butL{H H':Hp}{a e:Addr}{X:List Addr}{u:Tab}(h:zQ H a e u)(s:zaC (a::X) H H')(hX:∀x∈X,∃kvs,H x=some (.dK kvs))(ne:e∉X)(ea:e≠a):zQ H' a e u:=by
 obtain ⟨kvs,e1,d⟩:=h.ex
 refine ⟨⟨kvs,s _ _ (by simp only [mem_cons,not_or];exact ⟨ea,ne⟩) e1,d.imp λv l ⟨p,ev,hp,n⟩=>⟨p,ev,s _ _ ?_ hp,n⟩⟩,h.nd⟩
 simp only [mem_cons,not_or]
 refine ⟨n,λz=>?_⟩
 obtain ⟨kv,ex⟩:=hX p z
 rw [hp] at ex
 cases ex
theorem KvR.butL{H H':Hp}{a:Addr}{X Y:List Addr}{v:V}{u:Tab}(h:KvR H a Y v u)(s:zaC (a::X) H H')(hP:Pot H a)(hX:∀x∈X,∃kvs,H x=some (.dK kvs))(sub:∀x∈X,x∈Y):KvR H' a Y v u:=by
 obtain ⟨e,ev,ne,pl⟩:=h
 obtain ⟨kvs,e1,_⟩:=pl.ex
 exact ⟨e,ev,ne,pl.butL s hX (λz=>ne (sub e z)) (hP.ned e1)⟩
theorem zr.dicts{H:Hp}{p b k:Addr}{t:Tab}{ks:List (Str×Tab)}(h:zr A H p b k t ks):(∃kvs,H b=some (.dK kvs))/\∃kvs,H k=some (.dK kvs):=⟨let ⟨_,e,_⟩:=h.births.ex;⟨_,e⟩,let ⟨_,e,_⟩:=h.kept;⟨_,e⟩⟩
theorem zaE.butL{H H':Hp}{a kd:Addr}{X Y:List Addr}{ku:List (Str×Tab)}(h:zaE H a Y kd ku)(s:zaC (a::X) H H')(hP:Pot H a)(hX:∀x∈X,∃kvs,H x=some (.dK kvs))(sub:∀x∈X,x∈Y)(nk:kd∉X):zaE H' a Y kd ku :=
 let ⟨kvs,e,d⟩:=h.ex;⟨⟨kvs,s _ _ (by simp only [mem_cons,not_or];exact ⟨hP.ned e,nk⟩) e,d.imp λv u r=>r.butL s hP hX sub⟩,h.nd⟩
theorem Bud.up{t:Tab}{ks:List (Str×Tab)}{B:Nat}(h:Bud t ks B):Bud t ks (B+1) :=
 let ⟨L,hL,hm⟩:=h.live;⟨le_succ_of_le h.few,λn=>le_succ_of_le (h.row n),⟨L,le_succ_of_le hL,hm⟩,h.ne,λp hp=>⟨le_succ_of_le (h.old p hp).1,λm=>le_succ_of_le ((h.old p hp).2 m)⟩⟩
theorem KAl.drop{ks ku:List (Str×Tab)}(h:KAl ks ku)(z:Str):KAl (zE ks z) (zE ku z):=λn=>by
 rw [zc0,zc0]
 by_cases e:n=z
 ·rw [if_pos e,if_pos e];exact .inr ⟨rfl,rfl⟩
 ·rw [if_neg e,if_neg e];exact h n
theorem KAl.put{ks ku:List (Str×Tab)}{t u:Tab}(h:KAl ks ku)(z:Str)(al:zaf t u)(nd:(names t).Nodup):KAl (zA ks z t) (zA ku z u):=λn=>by
 rw [zbi,zbi]
 by_cases e:n=z
 ·rw [if_pos e,if_pos e];exact .inl ⟨t,u,rfl,rfl,al,nd⟩
 ·rw [if_neg e,if_neg e];exact h n
theorem KAl.len{ks ku:List (Str×Tab)}(h:KAl ks ku)(n1:(names ks).Nodup)(n2:(names ku).Nodup):ks.length=ku.length:=by
 have p:(names ks).Perm (names ku):=(List.perm_ext_iff_of_nodup n1 n2).mpr λn=>by
  rcases h n with ⟨v,w,e1,e2,_⟩|⟨e1,e2⟩
  ·exact ⟨λ_=>Classical.byContradiction λz=>(by rw [zaN.mpr z] at e2;cases e2),λ_=>Classical.byContradiction λz=>(by rw [zaN.mpr z] at e1;cases e1)⟩
  ·exact ⟨λz=>absurd z (zaN.mp e1),λz=>absurd z (zaN.mp e2)⟩
 have:=p.length_eq
 unfold names at this
 rw [length_map,length_map] at this
 exact this
theorem zcq{t:Tab}{ks:List (Str×Tab)}{y:Int}:y∈zac t ks↔y∈zw t\/∃p∈ks,y∈zw p.2:=by
 unfold zac
 rw [mem_append,List.mem_flatMap]
theorem Bud.sub{t:Tab}{ks ks':List (Str×Tab)}{B:Nat}(h:Bud t ks B)(s:∀p∈ks',p∈ks\/p.2=t):Bud t ks' B:=by
 obtain ⟨L,hL,hm⟩:=h.live
 refine ⟨h.few,h.row,⟨L,hL,λy hy=>?_⟩,h.ne,λp hp=>(s p hp).elim (h.old p) λe=>by rw [e];exact ⟨h.few,h.row⟩⟩
 rcases zcq.mp hy with hy|⟨p,hp,hy⟩
 ·exact hm y (zcq.mpr (.inl hy))
 ·rcases s p hp with hp|e
  ·exact hm y (zcq.mpr (.inr ⟨p,hp,hy⟩))
  ·rw [e] at hy;exact hm y (zcq.mpr (.inl hy))
end
theorem zgg:∀{xs L:List Int},xs.Nodup->(∀y∈xs,y∈L)->xs.length<=L.length
 | [],_,_,_=>zero_le _
 | x::xs,L,nd,s=>by
  have nd':=nodup_cons.mp nd
  have hx:x∈L:=s x mem_cons_self
  have h1:=zgg (xs:=xs) (L:=L.erase x) nd'.2 λy hy=>(List.mem_erase_of_ne (λz:y=x=>nd'.1 (by rw [<- z];exact hy))).mpr (s y (mem_cons_of_mem _ hy))
  rw [List.length_erase_of_mem hx] at h1
  have:=List.length_pos_of_mem hx
  rw [length_cons]
  omega
theorem Bud.uniq{t:Tab}{ks:List (Str×Tab)}{B:Nat}(h:Bud t ks B):(L2.uniq (zac t ks)).length<=B:=let ⟨L,hL,hm⟩:=h.live;le_trans (zgg zeK λy hy=>hm y (zdS.mp hy)) hL
theorem zd5{t u:Tab}(al:zaf t u)(nt:(names t).Nodup){y:Int}(h:y∈zw t):y∈zw u:=by
 obtain ⟨p,hp,hy⟩:=zbs.mp h
 have e:=zbG nt (show (p.1,p.2)∈t from hp)
 rw [al] at e
 exact zbs.mpr ⟨_,zbw e,hy⟩
theorem zhk{t u:Tab}(h:zaf t u):zaf u t:=λn=>(h n).symm
theorem zoB{t u:Tab}{ks ku:List (Str×Tab)}(al:zaf t u)(nt:(names t).Nodup)(nu:(names u).Nodup)(kal:KAl ks ku)(nks:(names ks).Nodup)(nku:(names ku).Nodup)(nw:∀p∈ku,(names p.2).Nodup)(y:Int):y∈zac t ks↔y∈zac u ku:=by
 rw [zcq,zcq]
 constructor
 ·rintro (h|⟨p,hp,h⟩)
  ·exact .inl (zd5 al nt h)
  ·have e:=zbG nks (show (p.1,p.2)∈ks from hp)
   rcases kal p.1 with ⟨v,w,e1,e2,a1,nv⟩|⟨e1,_⟩
   ·rw [e] at e1
    cases e1
    exact .inr ⟨_,zbw e2,zd5 a1 nv h⟩
   ·rw [e] at e1;cases e1
 ·rintro (h|⟨p,hp,h⟩)
  ·exact .inl (zd5 (zhk al) nu h)
  ·have e:=zbG nku (show (p.1,p.2)∈ku from hp)
   rcases kal p.1 with ⟨v,w,e1,e2,a1,nv⟩|⟨_,e2⟩
   ·rw [e] at e2
    cases e2
    exact .inr ⟨_,zbw e1,zd5 (zhk a1) (nw p hp) h⟩
   ·rw [e] at e2;cases e2
theorem KAl.names{ks ku:List (Str×Tab)}(h:KAl ks ku)(n1:(L2.names ks).Nodup)(n2:(L2.names ku).Nodup):(L2.names ks).Perm (L2.names ku):=(List.perm_ext_iff_of_nodup n1 n2).mpr λn=>by
 rcases h n with ⟨v,w,e1,e2,_⟩|⟨e1,e2⟩
 ·exact ⟨λ_=>Classical.byContradiction λz=>(by rw [zaN.mpr z] at e2;cases e2),λ_=>Classical.byContradiction λz=>(by rw [zaN.mpr z] at e1;cases e1)⟩
 ·exact ⟨λz=>absurd z (zaN.mp e1),λz=>absurd z (zaN.mp e2)⟩
theorem zaE.nds{H:Hp}{a kd:Addr}{X:List Addr}{ku:List (Str×Tab)}(h:zaE H a X kd ku):∀p∈ku,(names p.2).Nodup:=λp hp=>by
 obtain ⟨kvs,_,d⟩:=h.ex
 obtain ⟨j,hj,ej⟩:=getElem_of_mem hp
 have hk:j<kvs.length:=by rw [d.length];exact hj
 obtain ⟨a',e,q,_,_,pl⟩:=Dct.at d (List.getElem?_eq_getElem hk)
 rw [List.getElem?_eq_getElem hj,ej] at e
 cases e
 exact pl.nd
theorem zaE.same{H H':Hp}{a kd:Addr}{X:List Addr}{ku:List (Str×Tab)}(h:zaE H a X kd ku)(s:zg H H'):zaE H' a X kd ku :=
 let ⟨kvs,e,d⟩:=h.ex;⟨⟨kvs,s _ _ e,d.imp λv u ⟨q,ev,nX,pl⟩=>⟨q,ev,nX,pl.same s⟩⟩,h.nd⟩
theorem zij(zs:List Str):eqL (zs.map V.str) (zs.map V.str)=true:=zgK zc9 λx hx b e=>by
 obtain ⟨y,_,rfl⟩:=mem_map.mp hx
 cases e
theorem zdz{zs:List Int}:(zs.map V.int).all zC=true:=by simp [zC]
theorem zjr(zs:List Int):eqL (zs.map V.int) (zs.map V.int)=true:=zgK zdz λx hx b e=>by
 obtain ⟨y,_,rfl⟩:=mem_map.mp hx
 cases e
def zfs(H:Hp)(N:List Addr):Prop:=∀c∈N,(∃kv,H c=some (.dK kv))\/∃xs,H c=some (.lst xs)
theorem zak.fr{A:zh}{H H':Hp}{N:List Addr}{q b k:Addr}{t:Tab}(h:zak A H q b k t)(s:zaC N H H')(hN:zfs H N)(nb:b∉N)(nk:k∉N):zak A H' q b k t:=by
 have out:∀{c:Addr}{o:HO},H c=some o->(∀kv,o≠.dK kv)->(∀xs,o≠.lst xs)->H' c=some o:=λ{c o} e n1 n2=>s _ _ (λz=>by
  rcases hN c z with ⟨kv,ek⟩|⟨xs,ek⟩
  ·rw [e] at ek;exact n1 _ (Option.some.inj ek)
  ·rw [e] at ek;exact n2 _ (Option.some.inj ek)) e
 have rd:∀{c:Addr}{kvs:List (Key×V)},c∉N->Rd H c (.dK kvs)->Rd H' c (.dK kvs):=λ{c kvs} n r=>r.elim (λe=>.inl (s _ _ n e)) λ⟨o,e⟩=>.inr ⟨o,s _ _ n e⟩
 obtain ⟨dx,e⟩:=h.ob
 obtain ⟨kvs,e1,d⟩:=h.births.ex
 exact ⟨⟨dx,out e (λ_ z=>HO.noConfusion z) (λ_ z=>HO.noConfusion z)⟩,⟨⟨kvs,rd nb e1,d.imp λv l ⟨a,ea,ha⟩=>⟨a,ea,out ha (λ_ z=>HO.noConfusion z) (λ_ z=>HO.noConfusion z)⟩⟩,h.births.nd⟩,rd nk h.kept⟩
theorem zO.at{A:zh}{H:Hp}{p b k c:Addr}{t:Tab}{ks:List (Str×Tab)}(h:zr A H p b k t ks)(av:zO A H k c){kk:List (Str×V)}(e:H k=some (.dK (sk kk))){j:Nat}{pv:Str×V}(hj:kk[j]?=some pv){q b' k':Addr}{u:Tab}(ev:pv.2 = .ref q)(hB:zak A H q b' k' u):b'≠c/\k'≠c :=
 let ⟨dx,eo⟩:=hB.ob;av _ e (.inr pv.1,pv.2) (by unfold sk;exact mem_map.mpr ⟨pv,mem_of_getElem? hj,rfl⟩) q b' k' dx ev eo
theorem Dct.impAt{α:Type}{R S:V->α->Prop}{kvs:List (Str×V)}{t:List (Str×α)}(d:Dct R kvs t)(f:∀p∈kvs,∀a,R p.2 a->S p.2 a):Dct S kvs t:=by
 induction d with
 | nil=>exact .nil
 | cons z _ ih=>exact .cons ⟨z.1,f _ mem_cons_self _ z.2⟩ (ih λp hp=>f p (mem_cons_of_mem _ hp))
theorem zr.fr{A:zh}{H H':Hp}{N:List Addr}{p b k:Addr}{t:Tab}{ks:List (Str×Tab)}(h:zr A H p b k t ks)(s:zaC N H H')(hN:zfs H N)(nb:b∉N)(nk:k∉N)(av:∀c∈N,zO A H k c):zr A H' p b k t ks/\∀c,zO A H k c->zO A H' k c:=by
 have out:∀{c:Addr}{o:HO},H c=some o->(∀kv,o≠.dK kv)->(∀xs,o≠.lst xs)->H' c=some o:=λ{c o} e n1 n2=>s _ _ (λz=>by
  rcases hN c z with ⟨kv,ek⟩|⟨xs,ek⟩
  ·rw [e] at ek;exact n1 _ (Option.some.inj ek)
  ·rw [e] at ek;exact n2 _ (Option.some.inj ek)) e
 obtain ⟨dx,e⟩:=h.ob
 obtain ⟨kvs,e1,d⟩:=h.births.ex
 obtain ⟨kk,e2,d2⟩:=h.kept
 refine ⟨⟨⟨dx,out e (λ_ z=>HO.noConfusion z) (λ_ z=>HO.noConfusion z)⟩,⟨⟨kvs,s _ _ nb e1,d.imp λv l ⟨a,ea,ha⟩=>⟨a,ea,out ha (λ_ z=>HO.noConfusion z) (λ_ z=>HO.noConfusion z)⟩⟩,h.births.nd⟩,⟨kk,s _ _ nk e2,Dct.impAt d2 λpv hpv u ⟨q,b',k',ev,hB,n⟩=>⟨q,b',k',ev,hB.fr s hN (λz=>?_) (λz=>?_),n⟩⟩,h.ndk,h.ne⟩,λc hc=>hc.keep h (λ_ e=>s _ _ nk e) λe=>out e (λ_ z=>HO.noConfusion z) (λ_ z=>HO.noConfusion z)⟩
 ·obtain ⟨j,hj⟩:=List.getElem?_of_mem hpv
  exact (zO.at h (av b' z) e2 hj ev hB).1 rfl
 ·obtain ⟨j,hj⟩:=List.getElem?_of_mem hpv
  exact (zO.at h (av k' z) e2 hj ev hB).2 rfl
structure zaI(A:zh)(H:Hp)(a:Addr)(M:List Addr)(p d kd b k:Addr)(t u:Tab)(ks ku:List (Str×Tab)):Prop where
 files:zr A H p b k t ks
 plain:zQ H a d u
 kept:zaE H a M kd ku
 av:∀c∈M,zO A H k c
 mb:b∈M
 mkk:k∈M
 md:d∈M
 mkd:kd∈M
 ap:d≠b/\d≠k/\kd≠b/\kd≠k/\d≠kd
def Dcs(H:Hp)(M:List Addr):Prop:=∀x∈M,∃kvs,H x=some (.dK kvs)
theorem Dcs.hull{H:Hp}{M N:List Addr}(h:Dcs H M)(s:∀x∈N,x∈M):zfs H N:=λc hc=>.inl (h c (s c hc))
theorem Dcs.same{H H':Hp}{M:List Addr}(h:Dcs H M)(s:zg H H'):Dcs H' M:=λx hx=>let ⟨kv,e⟩:=h x hx;⟨kv,s _ _ e⟩
theorem Dcs.pot{H H':Hp}{M:List Addr}{a:Addr}(h:Dcs H M)(s:But a H H')(P:Pot H a):Dcs H' M:=λx hx=>let ⟨kv,e⟩:=h x hx;⟨kv,s _ _ (P.ned e) e⟩
theorem zaI.same{A:zh}{H H':Hp}{a:Addr}{M:List Addr}{p d kd b k:Addr}{t u:Tab}{ks ku:List (Str×Tab)}(o:zaI A H a M p d kd b k t u ks ku)(s:zg H H'):zaI A H' a M p d kd b k t u ks ku :=
 ⟨o.files.same s,o.plain.same s,o.kept.same s,λc hc=>(o.av c hc).same o.files s,o.mb,o.mkk,o.md,o.mkd,o.ap⟩
theorem zaI.pot{A:zh}{H H':Hp}{a:Addr}{M:List Addr}{p d kd b k:Addr}{t u:Tab}{ks ku:List (Str×Tab)}(o:zaI A H a M p d kd b k t u ks ku)(s:But a H H')(P:Pot H a):zaI A H' a M p d kd b k t u ks ku :=
 ⟨o.files.pot s P,o.plain.pot s P,o.kept.butL (X:=[]) (λc o n e=>s c o (λz=>n (by simp [z])) e) P (λ_ h=>by cases h) (λ_ h=>by cases h) (λh=>by cases h),λc hc=>(o.av c hc).pot o.files s P,o.mb,o.mkk,o.md,o.mkd,o.ap⟩
theorem zaI.fr{A:zh}{H H':Hp}{a:Addr}{M N:List Addr}{p d kd b k:Addr}{t u:Tab}{ks ku:List (Str×Tab)}(o:zaI A H a M p d kd b k t u ks ku)(P:Pot H a)(D:Dcs H M)(s:zaC N H H')(sub:∀x∈N,x∈M)(n1:b∉N)(n2:k∉N)(n3:d∉N)(n4:kd∉N):zaI A H' a M p d kd b k t u ks ku:=by
 obtain ⟨F,Av⟩:=o.files.fr s (D.hull sub) n1 n2 λc hc=>o.av c (sub c hc)
 have s':zaC (a::N) H H':=λc u n e=>s c u (λz=>n (mem_cons_of_mem _ z)) e
 obtain ⟨kv,ed⟩:=D d o.md
 exact ⟨F,o.plain.butL s' (λx hx=>D x (sub x hx)) n3 (P.ned ed),o.kept.butL s' P (λx hx=>D x (sub x hx)) sub n4,λc hc=>Av c (o.av c hc),o.mb,o.mkk,o.md,o.mkd,o.ap⟩
abbrev zcU:Stmt:=top 34
section
variable {P:Program}{w:World}{K:Frag}{mg:Str->Option Value}{base:Heap}{A:zh}
theorem zf3:1000<=sizeLine:=by decide
theorem zpZ:bootBuiltins "ValueError"=some (.type "ValueError"):=by decide +kernel
theorem zaA{K:Frag}{H:Hp}{e C:Addr}{o:Obj}{c:V}{u:Value}{b:Bool}{Q:VK}(he:H e=some (.frz o (.own 0)))(ho:zca C o)(O:zbA K C)(hk:kitOne K (.ref C) u=some b)(hc:zh2 c=some u)(q:Q (.bl b) H):zdH K [.ref e,c] H Q :=
 ⟨_,_,_,_,_,rfl,hc,.exc he ho O,hk,q⟩
structure KC(K:Frag)(A:zh)(C:Addr)(n:Nat):Prop where
 ec:zbA K C
 lt:n<16
 k_ValueError:kitOne K (.ref C) (.type "ValueError")=some true
 k_Full:kitOne K (.ref C) (.ref A.Full)=some (decide (0=n))
 k_Gone:kitOne K (.ref C) (.ref A.Gone)=some (decide (1=n))
 k_HeldAlready:kitOne K (.ref C) (.ref A.HeldAlready)=some (decide (2=n))
 k_NoDeed:kitOne K (.ref C) (.ref A.NoDeed)=some (decide (3=n))
 k_NoDisk:kitOne K (.ref C) (.ref A.NoDisk)=some (decide (4=n))
 k_NoFile:kitOne K (.ref C) (.ref A.NoFile)=some (decide (5=n))
 k_NoFiles:kitOne K (.ref C) (.ref A.NoFiles)=some (decide (6=n))
 k_NoHouse:kitOne K (.ref C) (.ref A.NoHouse)=some (decide (7=n))
 k_NoMark:kitOne K (.ref C) (.ref A.NoMark)=some (decide (8=n))
 k_NoPlace:kitOne K (.ref C) (.ref A.NoPlace)=some (decide (9=n))
 k_NoRoom:kitOne K (.ref C) (.ref A.NoRoom)=some (decide (10=n))
 k_NoRow:kitOne K (.ref C) (.ref A.NoRow)=some (decide (11=n))
 k_NotBlank:kitOne K (.ref C) (.ref A.NotBlank)=some (decide (12=n))
 k_NotClosed:kitOne K (.ref C) (.ref A.NotClosed)=some (decide (13=n))
 k_NotHeld:kitOne K (.ref C) (.ref A.NotHeld)=some (decide (14=n))
 k_Stopped:kitOne K (.ref C) (.ref A.Stopped)=some (decide (15=n))
def fnb(n:Nat):List Bool:=[decide (0=n),decide (1=n),decide (2=n),decide (3=n),decide (4=n),decide (5=n),decide (6=n),decide (7=n),decide (8=n),decide (9=n),decide (10=n),decide (11=n),decide (12=n),decide (13=n),decide (14=n),decide (15=n)]
def wds:List V:=[.str "Full",.str "Gone",.str "HeldAlready",.str "NoDeed",.str "NoDisk",.str "NoFile",.str "NoFiles",.str "NoHouse",.str "NoMark",.str "NoPlace",.str "NoRoom",.str "NoRow",.str "NotBlank",.str "NotClosed",.str "NotHeld",.str "Stopped"]
theorem zpB:∀n,n<16->(fnb n).count true=1:=by decide
theorem zsz:∀n,n<16->(fnb n)[n]?=some true/\∀m,m<n->(fnb n)[m]?≠some true:=by decide
theorem zoe:∀n,n<16->∃z:Str,wds[n]?=some (.str z):=λn h=>by
 have:n=0\/n=1\/n=2\/n=3\/n=4\/n=5\/n=6\/n=7\/n=8\/n=9\/n=10\/n=11\/n=12\/n=13\/n=14\/n=15:=by omega
 rcases this with rfl|rfl|rfl|rfl|rfl|rfl|rfl|rfl|rfl|rfl|rfl|rfl|rfl|rfl|rfl|rfl<;>exact ⟨_,rfl⟩
def zgE(K:Frag)(A:zh):Sp:=λvs H Q _=>∃(e C:Addr)(o:Obj)(n:Nat),vs=[.ref e]/\H e=some (.frz o (.own 0))/\zca C o/\KC K A C n/\∀(v:V)(H':Hp),wds[n]?=some v->zg H H'->Q v H'
theorem zbO:zG ["_law_e","_law_some","_law_names_here"] ["_law_e"] (zj zcU):=⟨rfl,rfl,rfl,f!"",rfl,f!"",f!""⟩
theorem zo5{f:Addr}{fd:FuncData}(F:Fun K "_law_refusal" "_law_refusal" zcU f fd)(T:Txt K mg A):zt P w K mg base CX0 false 1 f fd ["_law_e"] (zgE K A):=by
 refine F.ok zbO (λvs H Q E h=>?_) (λcdv Ar outer s H vs Q E hr h=>?_)
 ·obtain ⟨e,C,o,n,rfl,_⟩:=h;rfl
 ·obtain ⟨e,C,o,n,rfl,he,ho,KN,q⟩:=h
  have hu:_<cLine:=lt_of_succ_lt (zP hr)
  refine ⟨_,(W.h (zo (zY (i:=1) zbO.nd rfl (Or.inl rfl) (zag (zb (zI (zax (K:=K) rfl) rfl T.n_isinstance boot_isinstance (zb (za 0) (zb (zaF rfl T.c_Full) zd))) (zb (zI (zax (K:=K) rfl) rfl T.n_isinstance boot_isinstance (zb (za 0) (zb (zaF rfl T.c_Gone) zd))) (zb (zI (zax (K:=K) rfl) rfl T.n_isinstance boot_isinstance (zb (za 0) (zb (zaF rfl T.c_HeldAlready) zd))) (zb (zI (zax (K:=K) rfl) rfl T.n_isinstance boot_isinstance (zb (za 0) (zb (zaF rfl T.c_NoDeed) zd))) zd))))))
   (zo (zY (i:=1) zbO.nd rfl (Or.inl rfl) (zK zan (za 1) (zag (zb (zI (zax (K:=K) rfl) rfl T.n_isinstance boot_isinstance (zb (za 0) (zb (zaF rfl T.c_NoDisk) zd))) (zb (zI (zax (K:=K) rfl) rfl T.n_isinstance boot_isinstance (zb (za 0) (zb (zaF rfl T.c_NoFile) zd))) (zb (zI (zax (K:=K) rfl) rfl T.n_isinstance boot_isinstance (zb (za 0) (zb (zaF rfl T.c_NoFiles) zd))) (zb (zI (zax (K:=K) rfl) rfl T.n_isinstance boot_isinstance (zb (za 0) (zb (zaF rfl T.c_NoHouse) zd))) zd)))))))
   (zo (zY (i:=1) zbO.nd rfl (Or.inl rfl) (zK zan (za 1) (zag (zb (zI (zax (K:=K) rfl) rfl T.n_isinstance boot_isinstance (zb (za 0) (zb (zaF rfl T.c_NoMark) zd))) (zb (zI (zax (K:=K) rfl) rfl T.n_isinstance boot_isinstance (zb (za 0) (zb (zaF rfl T.c_NoPlace) zd))) (zb (zI (zax (K:=K) rfl) rfl T.n_isinstance boot_isinstance (zb (za 0) (zb (zaF rfl T.c_NoRoom) zd))) (zb (zI (zax (K:=K) rfl) rfl T.n_isinstance boot_isinstance (zb (za 0) (zb (zaF rfl T.c_NoRow) zd))) zd)))))))
   (zo (zY (i:=1) zbO.nd rfl (Or.inl rfl) (zK zan (za 1) (zag (zb (zI (zax (K:=K) rfl) rfl T.n_isinstance boot_isinstance (zb (za 0) (zb (zaF rfl T.c_NotBlank) zd))) (zb (zI (zax (K:=K) rfl) rfl T.n_isinstance boot_isinstance (zb (za 0) (zb (zaF rfl T.c_NotClosed) zd))) (zb (zI (zax (K:=K) rfl) rfl T.n_isinstance boot_isinstance (zb (za 0) (zb (zaF rfl T.c_NotHeld) zd))) (zb (zI (zax (K:=K) rfl) rfl T.n_isinstance boot_isinstance (zb (za 0) (zb (zaF rfl T.c_Stopped) zd))) zd)))))))
   (zo (zY (i:=2) zbO.nd rfl (Or.inl rfl) (zag (zb zv (zb zv (zb zv (zb zv (zb zv (zb zv (zb zv (zb zv (zb zv (zb zv zd))))))))))))
   (zo (zY (i:=2) zbO.nd rfl (Or.inl rfl) (zK zan (za 2) (zag (zb zv (zb zv (zb zv (zb zv (zb zv (zb zv zd)))))))))
   (zo (zS (zct (zgL (zb2 (zcr (zI (zax (K:=K) rfl) rfl T.n_isinstance boot_isinstance (zb (za 0) (zb (zfi rfl T.n_ValueError zpZ (v:=.ty "ValueError") rfl) zd))))) (zfw (zV (zbX hu) (zmL (za 1) za1) zq (zaa _)))))
   (zm (zx zv))
   z6)
   (zm (zx (zaj zaO (za 2) (zp3 (za 1) za1) (λ_ _=>rfl)))))))))))),?_⟩
  simp_all only []
  refine zaA he ho KN.ec KN.k_Full rfl (zaA he ho KN.ec KN.k_Gone rfl (zaA he ho KN.ec KN.k_HeldAlready rfl (zaA he ho KN.ec KN.k_NoDeed rfl ⟨by decide,λp1 H1 n1 _=>?_⟩)))
  have he:=n1.same _ _ he
  refine zaA he ho KN.ec KN.k_NoDisk rfl (zaA he ho KN.ec KN.k_NoFile rfl (zaA he ho KN.ec KN.k_NoFiles rfl (zaA he ho KN.ec KN.k_NoHouse rfl ⟨by decide,λp2 H2 n2 _=>?_⟩)))
  have he:=n2.same _ _ he
  refine ⟨_,n2.same _ _ n1.at_,_,n2.at_,le_trans (show 8<=1000 by decide) zf3,λp3 H3 n3=>?_⟩
  have he:=n3.same _ _ he
  refine zaA he ho KN.ec KN.k_NoMark rfl (zaA he ho KN.ec KN.k_NoPlace rfl (zaA he ho KN.ec KN.k_NoRoom rfl (zaA he ho KN.ec KN.k_NoRow rfl ⟨by decide,λp4 H4 n4 _=>?_⟩)))
  have he:=n4.same _ _ he
  refine ⟨_,n4.same _ _ n3.at_,_,n4.at_,le_trans (show 12<=1000 by decide) zf3,λp5 H5 n5=>?_⟩
  have he:=n5.same _ _ he
  refine zaA he ho KN.ec KN.k_NotBlank rfl (zaA he ho KN.ec KN.k_NotClosed rfl (zaA he ho KN.ec KN.k_NotHeld rfl (zaA he ho KN.ec KN.k_Stopped rfl ⟨by decide,λp6 H6 n6 _=>?_⟩)))
  have he:=n6.same _ _ he
  refine ⟨_,n6.same _ _ n5.at_,_,n6.at_,le_trans (show 16<=1000 by decide) zf3,λp7 H7 n7=>?_⟩
  have he:=n7.same _ _ he
  refine ⟨by decide,λp8 H8 n8 _=>⟨by decide,λp9 H9 n9 _=>⟨_,n9.same _ _ n8.at_,_,n9.at_,by decide,λp10 H10 n10=>?_⟩⟩⟩
  have he:=n10.same _ _ (n9.same _ _ (n8.same _ _ he))
  have e1:H10 p10=some (.lst wds):=n10.at_
  have e2:H10 p7=some (.lst ((fnb n).map V.bl)):=n10.same _ _ (n9.same _ _ (n8.same _ _ n7.at_))
  have s10:zg H H10:=n1.same.trans (n2.same.trans (n3.same.trans (n4.same.trans (n5.same.trans (n6.same.trans (n7.same.trans (n8.same.trans (n9.same.trans n10.same))))))))
  refine zaA he ho KN.ec KN.k_ValueError rfl ?_
  simp_all only []
  refine ⟨⟨_,e2⟩,fnb n,e2,?_⟩
  rw [zpB n KN.lt,if_neg (by decide)]
  obtain ⟨a1,a2⟩:=zsz n KN.lt
  obtain ⟨z,hz⟩:=zoe n KN.lt
  exact ⟨⟨_,e2⟩,fnb n,e2,n,a1,a2,wds,.inl e1,.str z,zew hz,q _ _ hz s10⟩
theorem Txt.kc_NoFile(T:Txt K mg A):KC K A A.NoFile 5:=⟨T.ec_NoFile,by decide,T.k_NoFile_ValueError,T.k_NoFile_Full,T.k_NoFile_Gone,T.k_NoFile_HeldAlready,T.k_NoFile_NoDeed,T.k_NoFile_NoDisk,T.k_NoFile_NoFile,T.k_NoFile_NoFiles,T.k_NoFile_NoHouse,T.k_NoFile_NoMark,T.k_NoFile_NoPlace,T.k_NoFile_NoRoom,T.k_NoFile_NoRow,T.k_NoFile_NotBlank,T.k_NoFile_NotClosed,T.k_NoFile_NotHeld,T.k_NoFile_Stopped⟩
theorem Txt.kc_NoPlace(T:Txt K mg A):KC K A A.NoPlace 9:=⟨T.ec_NoPlace,by decide,T.k_NoPlace_ValueError,T.k_NoPlace_Full,T.k_NoPlace_Gone,T.k_NoPlace_HeldAlready,T.k_NoPlace_NoDeed,T.k_NoPlace_NoDisk,T.k_NoPlace_NoFile,T.k_NoPlace_NoFiles,T.k_NoPlace_NoHouse,T.k_NoPlace_NoMark,T.k_NoPlace_NoPlace,T.k_NoPlace_NoRoom,T.k_NoPlace_NoRow,T.k_NoPlace_NotBlank,T.k_NoPlace_NotClosed,T.k_NoPlace_NotHeld,T.k_NoPlace_Stopped⟩
theorem Txt.kc_HeldAlready(T:Txt K mg A):KC K A A.HeldAlready 2:=⟨T.ec_HeldAlready,by decide,T.k_HeldAlready_ValueError,T.k_HeldAlready_Full,T.k_HeldAlready_Gone,T.k_HeldAlready_HeldAlready,T.k_HeldAlready_NoDeed,T.k_HeldAlready_NoDisk,T.k_HeldAlready_NoFile,T.k_HeldAlready_NoFiles,T.k_HeldAlready_NoHouse,T.k_HeldAlready_NoMark,T.k_HeldAlready_NoPlace,T.k_HeldAlready_NoRoom,T.k_HeldAlready_NoRow,T.k_HeldAlready_NotBlank,T.k_HeldAlready_NotClosed,T.k_HeldAlready_NotHeld,T.k_HeldAlready_Stopped⟩
theorem Txt.kc_NotHeld(T:Txt K mg A):KC K A A.NotHeld 14:=⟨T.ec_NotHeld,by decide,T.k_NotHeld_ValueError,T.k_NotHeld_Full,T.k_NotHeld_Gone,T.k_NotHeld_HeldAlready,T.k_NotHeld_NoDeed,T.k_NotHeld_NoDisk,T.k_NotHeld_NoFile,T.k_NotHeld_NoFiles,T.k_NotHeld_NoHouse,T.k_NotHeld_NoMark,T.k_NotHeld_NoPlace,T.k_NotHeld_NoRoom,T.k_NotHeld_NoRow,T.k_NotHeld_NotBlank,T.k_NotHeld_NotClosed,T.k_NotHeld_NotHeld,T.k_NotHeld_Stopped⟩
end
abbrev zdf:Stmt:=top 31
section
variable {P:Program}{w:World}{K:Frag}{mg:Str->Option Value}{base:Heap}{A:zh}
def HN:List Str:=["a","b","held","z"]
structure zdC(w n:Str)(i:Int):Prop where
 word:w="put"\/w="cut"\/w="hold"\/w="free"
 nn:0<=i
 lt:i<=1000
 held:w="hold"->n∈HN
def ze1:Sp:=λvs H Q _=>∃(a nl d:Addr)(u:Tab)(zs:List Str),vs=[.ref a,.ref nl,.ref d]/\Pot H a/\H nl=some (.lst (zs.map V.str))/\zs≠[]/\zs.length<=4/\zQ H a d u/\(∀n,(lk u n).length<=100) /\
 ∀g w n i x H',But a H H'->Pot H' a->H' g=some (.tup [.str w,.str n,.int i,.int x])->zdC w n i->(w="put"->n∈zs)->Q (.ref g) H'
theorem zd4:zG ["_law_pot_here","_law_names_here","_law_model","_law_file","_law_many","_law_way"] ["_law_pot_here","_law_names_here","_law_model"] (zj zdf):=⟨rfl,rfl,rfl,f!"",rfl,f!"",f!""⟩
theorem zq5{f:Addr}{fd:FuncData}(F:Fun K "_law_deed" "_law_deed" zdf f fd)(T:Txt K mg A)(Gb:GF P w K mg base true 1 "_law_take" ["_law_pot_here","_law_many"] zbb)(Gc:GF P w K mg base true 2 "_law_drawn" ["_law_pot_here","_law_some"] zcm)(Gj:GF P w K mg base true 3 "_law_birth" ["_law_pot_here"] zgd):zt P w K mg base CX0 true 4 f fd ["_law_pot_here","_law_names_here","_law_model"] ze1:=by
 refine F.ok zd4 (λvs H Q E h=>?_) (λcdv Ar outer s H vs Q E hr h=>?_)
 ·obtain ⟨a,nl,d,u,zs,rfl,_⟩:=h;rfl
 ·obtain ⟨a,nl,d,u,zs,rfl,hP,hn,zne,zl,hD,rows,q⟩:=h
  have hu:_<cLine:=lt_of_succ_lt (zP hr)
  refine ⟨_,(W.h (zo (zY (i:=3) zd4.nd rfl (Or.inl rfl) (zH Gc hr rfl (zb (za 0) (zb (za 1) zd))))
   (zo (zY (i:=4) zd4.nd rfl (Or.inl rfl) (zI zck rfl T.n_len PySem.boot_len (zb (zd9 (zP hr) (za 2) (za 3) (zag zd)) zd)))
   (zo (zY (i:=5) zd4.nd rfl (Or.inl rfl) (zH Gb hr rfl (zb (za 0) (zb zq zd))))
   (zo (zS (zV zdM (za 5) zq (zaa _))
   (zm (zx (zbj (zb zv (zb (za 3) (zb (zH Gc hr rfl (zb (za 0) (zb (zag (zb (za 4) (zb (za 4) (zb (zK zan (za 4) zq) (zb (zH Gb hr rfl (zb (za 0) (zb (zK zan (za 4) zq) zd))) zd))))) zd))) (zb (zH Gj hr rfl (zb (za 0) zd)) zd)))))))
   z6)
   (zo (zS (zV zdM (za 5) zq (zaa _))
   (zm (zx (zbj (zb zv (zb (za 3) (zb (zH Gb hr rfl (zb (za 0) (zb (zK zan (za 4) zq) zd))) (zb zq zd)))))))
   z6)
   (zm (zx (zbj (zb (zaj zaO (zag (zb zv (zb zv (zb zv zd)))) (zK zf8 (za 5) zq) (λ_ _=>rfl)) (zb (zH Gc hr rfl (zb (za 0) (zb (zag (zb zv (zb zv (zb zv (zb zv zd))))) zd))) (zb zq (zb zq zd))))))))))))),?_⟩
  simp_all only []
  have nla:nl≠a:=λz=>by
   obtain ⟨x,y,ea,_⟩:=hP.ex
   rw [z,ea] at hn
   cases zs with
   | nil=>exact zne rfl
   | cons c zs=>injection hn with hn;injection hn with hn;injection hn with hn;cases hn
  have zpos:=length_pos_iff.mpr zne
  refine ⟨a,hP,.inl ⟨nl,_,rfl,nla,.inl hn,by rw [length_map];exact zpos,by rw [length_map];omega,λv H1 hv b1 P1=>?_⟩⟩
  obtain ⟨z,hz,rfl⟩:=mem_map.mp hv
  have D1:=hD.pot b1 hP
  obtain ⟨kvs,e1,dd⟩:=D1.ex
  simp_all only []
  refine ⟨⟨_,.inl e1⟩,zero_le _,λl2 H2 n2 _=>⟨_,.inl (n2.same _ _ e1),?_⟩⟩
  obtain ⟨r,er,hr2,ra⟩:=zQ.get dd z n2.same n2.at_ (P1.ne n2.no)
  rw [zah,er]
  have P2:=P1.same n2.same
  have b2:But a H H2:=b1.trans (.of n2.same)
  have lz:=rows z
  simp_all only []
  refine ⟨_,.inl hr2,?_⟩
  rw [length_map]
  refine ⟨a,9,rfl,P2,by decide,by decide,λway H3 b3 P3 w0 w1=>?_⟩
  have bb3:But a H H3:=b2.trans b3
  simp_all only []
  refine zaS (λh=>?_) (λh=>?_)
  ·refine ⟨a,_,rfl,P3,by omega,by omega,λi H4 b4 P4 i0 i1=>⟨by decide,λl5 H5 n5 _=>⟨a,P4.same n5.same,.inl ⟨l5,_,rfl,P4.ne n5.no,.inl n5.at_,by simp,by simp,λv H6 hv b6 P6=>?_⟩⟩⟩⟩
   obtain ⟨j,rfl,j0,j1⟩:∃j:Int,v = .int j/\0<=j/\j<=1000:=by
    simp only [mem_cons,not_mem_nil,or_false] at hv
    rcases hv with rfl|rfl|rfl|rfl<;>exact ⟨_,rfl,by omega,by omega⟩
   refine ⟨a,rfl,P6,λx H7 b7 P7 x0 x1=>⟨by decide,λg H8 n8=>?_⟩⟩
   exact q g _ _ j x H8 ((((bb3.trans b4).trans (.of n5.same)).trans b6).trans b7 |>.trans (.of n8.same)) (P7.same n8.same) n8.at_ ⟨.inl rfl,j0,j1,λz=>absurd z (f!"")⟩ λ_=>hz
  ·refine zaS (λh=>?_) (λh=>?_)
   ·refine ⟨a,_,rfl,P3,by omega,by omega,λi H4 b4 P4 i0 i1=>⟨by decide,λg H5 n5=>?_⟩⟩
    exact q g _ _ i 0 H5 ((bb3.trans b4).trans (.of n5.same)) (P4.same n5.same) n5.at_ ⟨.inr (.inl rfl),i0,by omega,λz=>absurd z (f!"")⟩ λ_=>hz
   ·have h6 : ¬ way<6:=λz=>h (decide_eq_true z)
    refine ⟨by decide,λl4 H4 n4 _=>?_⟩
    obtain ⟨v,ev,hv⟩:=zfB (xs:=[V.str "hold",.str "hold",.str "free"]) (i:=way-6) (by omega) (by show way-6<((3:Nat):Int);omega)
    refine ⟨_,.inl n4.at_,v,ev,by decide,λl5 H5 n5 _=>?_⟩
    have P5:=(P3.same n4.same).same n5.same
    refine ⟨a,P5,.inl ⟨l5,_,rfl,(P3.same n4.same).ne n5.no,.inl n5.at_,by simp,by simp,λv2 H6 hv2 b6 P6=>⟨by decide,λg H7 n7=>?_⟩⟩⟩
    obtain ⟨n2',nn,rfl⟩:=mem_map.mp (show v2∈HN.map V.str from hv2)
    obtain ⟨w2,rfl,ww⟩:∃w':Str,v = .str w'/\(w' = "hold"\/w' = "free"):=by
     simp only [mem_cons,not_mem_nil,or_false] at hv
     rcases hv with rfl|rfl|rfl
     ·exact ⟨_,rfl,.inl rfl⟩
     ·exact ⟨_,rfl,.inl rfl⟩
     ·exact ⟨_,rfl,.inr rfl⟩
    exact q g _ _ 0 0 H7 ((((bb3.trans (.of n4.same)).trans (.of n5.same)).trans b6).trans (.of n7.same)) (P6.same n7.same) n7.at_ ⟨ww.elim (λz=>.inr (.inr (.inl z))) (λz=>.inr (.inr (.inr z))),by decide,by decide,λ_=>nn⟩ λz=>by rcases ww with e|e <;> · rw [e] at z;exact absurd z (f!"")
end
abbrev zcv:Stmt:=top 32
def zao(u:Tab)(w n:Str)(i x:Int):List Int:=(lk u n).take i.toNat++(if w="put" then [x]++(lk u n).drop (i.toNat+1) else [])
def zbg(u:Tab)(w n:Str)(i x:Int):Str×Tab :=
 if w="cut"/\look u n=none then ("NoFile",u) else if ((lk u n).length:Int)<i then ("NoPlace",u) else
 ("done",if zao u w n i x=[] then zE (zA u n (zao u w n i x)) n else zA u n (zao u w n i x))
section
variable {P:Program}{w:World}{K:Frag}{mg:Str->Option Value}{base:Heap}{A:zh}
def zf0:Sp:=λvs H Q _=>∃(a d g:Addr)(u:Tab)(w n:Str)(i x:Int),vs=[.ref d,.ref g]/\Pot H a/\zQ H a d u/\H g=some (.tup [.str w,.str n,.int i,.int x])/\(w="put"\/w="cut")/\0<=i/\(lk u n).length<=1000/\u.length<=1000 /\
 ∀H',But d H H'->zQ H' a d (zbg u w n i x).2->Q (.str (zbg u w n i x).1) H'
theorem zcH:zG ["_law_model","_law_deed_here","_law_word","_law_file","_law_place","_law_birth_here","_law_row"] ["_law_model","_law_deed_here"] (zj zcv):=⟨rfl,rfl,rfl,f!"",rfl,f!"",f!""⟩
theorem zr0{f:Addr}{fd:FuncData}(F:Fun K "_law_files_due" "_law_files_due" zcv f fd)(T:Txt K mg A):zt P w K mg base CX0 true 1 f fd ["_law_model","_law_deed_here"] zf0:=by
 refine F.ok zcH (λvs H Q E h=>?_) (λcdv Ar outer s H vs Q E hr h=>?_)
 ·obtain ⟨a,d,g,u,w,n,i,x,rfl,_⟩:=h;rfl
 ·obtain ⟨a,d,g,u,w,n,i,x,rfl,hP,hD,hg,hw,i0,l1,u1,q⟩:=h
  have hu:_<cLine:=lt_of_succ_lt (zP hr)
  refine ⟨_,(W.h (zo (za4 (za 1) (zc8 (n:=4) (zav (zU (i:=2) zcH.nd rfl (Or.inl rfl)) (zav (zU (i:=3) zcH.nd rfl (Or.inl rfl)) (zav (zU (i:=4) zcH.nd rfl (Or.inl rfl)) (zav (zU (i:=5) zcH.nd rfl (Or.inl rfl)) zcY))))))
   (zo (zY (i:=6) zcH.nd rfl (Or.inl rfl) (zd9 (zP hr) (za 0) (za 3) (zag zd)))
   (zo (zfq (zS (zct (zfA (zV (zbv hu) (za 2) zv (zaa _)) (zgV (zV (zeU (zP hr)) (za 3) (za 0) rfl))))
   (zm (zx zv))
   z6))
   (zo (zS (zV zjz (za 4) (zI zck rfl T.n_len PySem.boot_len (zb (za 6) zd)) (zaa _))
   (zm (zx zv))
   z6)
   (zo (za4 (zK zan (zdu ze2 (za 6) zdQ (zdr (za 4))) (zK zev (zK zan (zag (zb (za 5) zd)) (zdu ze2 (za 6) (zdr (zK zan (za 4) zq)) zdQ)) (zbp zoO rfl T.n_int boot_int (zb (ztD (zbv hu) (za 2) zv (zaa _)) zd)))) (zbP (za 0) (za 3) (zdJ (zP hr))))
   (zo (zS (zV (zlE hu) (zaj (zbW (zP hr)) (za 0) (za 3) (λ_ _=>rfl)) (zag zd) (zaa _))
   (zm (zaW (zhG (za 0) (za 3))))
   z6)
   (zm (zx zv))))))))),?_⟩
  simp_all only []
  refine ⟨g,_,rfl,SqT.of hg,rfl,?_⟩
  obtain ⟨kvs,e1,dd⟩:=hD.ex
  simp_all only []
  refine ⟨⟨_,.inl e1⟩,zero_le _,λl2 H2 n2 _=>⟨_,.inl (n2.same _ _ e1),?_⟩⟩
  obtain ⟨r,er,hr2,ra⟩:=zQ.get dd n n2.same n2.at_ (hP.ne n2.no)
  rw [zah,er]
  have e2:=n2.same _ _ e1
  rw [zgI]
  refine ⟨λσ' H'=>σ'=[some (.ref d),some (.ref g),some (.str w),some (.str n),some (.int i),some (.int x),some (.ref r)]/\H'=H2/\¬ (w="cut"/\look u n=none),?_,?_⟩
  ·simp_all only []
   by_cases hc:w="cut"
   ·rw [if_pos (decide_eq_true hc)]
    refine ⟨_,.inl e2,?_⟩
    rw [zah,Dct.some_iff dd n]
    cases hn:look u n with
    | none =>
     have e:zbg u w n i x=(("NoFile":Str),u):=if_pos ⟨hc,hn⟩
     rw [e] at q
     exact q H2 (.of n2.same) (hD.same n2.same)
    | some l=>exact λz=>nomatch z.2
   ·rw [if_neg (by simpa using hc)]
    exact λz=>hc z.1
  ·rintro σ' H' ⟨rfl,rfl,hnc⟩
   have q:∀H',But d H H'->zQ H' a d (if ((lk u n).length:Int)<i then (("NoPlace":Str),u) else ("done",if zao u w n i x=[] then zE (zA u n (zao u w n i x)) n else zA u n (zao u w n i x))).2->Q (.str (if ((lk u n).length:Int)<i then (("NoPlace":Str),u) else ("done",if zao u w n i x=[] then zE (zA u n (zao u w n i x)) n else zA u n (zao u w n i x))).1) H':=by
    have e:zbg u w n i x=_:=if_neg hnc
    rw [e] at q
    exact q
   simp_all only []
   refine ⟨_,.inl hr2,?_⟩
   rw [length_map]
   try simp_all only []
   by_cases hl:((lk u n).length:Int)<i
   ·rw [if_pos (decide_eq_true hl)]
    rw [if_pos hl] at q
    exact q H' (.of n2.same) (hD.same n2.same)
   rw [if_neg (by simpa using hl)]
   rw [if_neg hl] at q
   have c1:zau ((lk u n).map V.int) none (some i)=((lk u n).take i.toNat).map V.int:=by rw [zfW i0 (by rw [length_map];omega),List.map_take]
   have c2:zau ((lk u n).map V.int) (some (i+1)) none=((lk u n).drop (i.toNat+1)).map V.int:=by rw [zjC (by omega) (by rw [length_map];omega),show (i+1).toNat=i.toNat+1 by omega,List.map_drop]
   try simp_all only []
   refine ⟨_,hr2,λl3 H3 n3=>⟨by decide,λl4 H4 n4 _=>⟨_,n4.same _ _ (n3.same _ _ hr2),λl5 H5 n5=>?_⟩⟩⟩
   rw [c1] at n3
   rw [c2] at n5
   refine ⟨_,n5.same _ _ n4.at_,_,n5.at_,zcZ (by simp;omega),λl6 H6 n6=>?_⟩
   have em:∃m:Nat,m<=1/\(if decide (w="put")=true then (1:Int) else 0)=m/\(replicate m ([V.int x]++((lk u n).drop (i.toNat+1)).map V.int)).flatten=(if w="put" then [x]++(lk u n).drop (i.toNat+1) else []).map V.int:=by
    by_cases hw:w="put"
    ·rw [if_pos (decide_eq_true hw),if_pos hw];exact ⟨1,by decide,rfl,by simp⟩
    ·rw [if_neg (by simpa using hw),if_neg hw];exact ⟨0,by decide,rfl,rfl⟩
   obtain ⟨m,m1,em,er⟩:=em
   rw [em,Int.toNat_natCast]
   refine ⟨_,n6.at_,by omega,by omega,le_trans (Nat.mul_le_mul (le_refl _) m1) (zcZ (by simp;omega)),λl7 H7 n7=>?_⟩
   rw [er] at n7
   refine ⟨_,n7.same _ _ (n6.same _ _ (n5.same _ _ (n4.same _ _ n3.at_))),_,n7.at_,zcZ ?_,λl8 H8 n8=>?_⟩
   ·rw [length_map,length_map,length_take]
    split
    ·simp;omega
    ·simp;omega
   have s7:zg H' H7:=(((n3.same.trans n4.same).trans n5.same).trans n6.same).trans n7.same
   have s8:zg H' H8:=s7.trans n8.same
   have P7:Pot H7 a:=(hP.same n2.same).same s7
   have l8a:l8≠a:=P7.ne n8.no
   have e8:H8 l8=some (.lst ((zao u w n i x).map V.int)):=by rw [n8.at_,<- map_append];rfl
   have ed8:=s8 _ _ e2
   have l8d:l8≠d:=λz=>by rw [z,ed8] at e8;cases e8
   refine ⟨_,ed8,by rw [zbF,dd.length];exact Nat.lt_of_le_of_lt u1 (by decide),_,.inl zp,.ref l8,by rw [zcI,zah,zbi,if_pos rfl],by decide,λl9 H9 n9 _=>?_⟩
   rw [zcI] at n9
   have s0:zg H H8:=n2.same.trans s8
   have bt:But d H H9:=λc o nc e=>n9.same _ _ (by rw [ze nc];exact s0 _ _ e)
   have h98:H9 l8=some (.lst ((zao u w n i x).map V.int)):=n9.same _ _ (by rw [ze l8d];exact e8)
   have e9:=n9.same _ _ (zp (H:=H8) (a:=d))
   have dd9:Dct (MdP H9 a) (zA kvs n (.ref l8)) (zA u n (zao u w n i x)):=(dd.imp λv l ⟨p,ev,hp,np⟩=>(⟨p,ev,bt _ _ (λz=>by rw [z,e1] at hp;cases hp) hp,np⟩:MdP H9 a v l)).put n ⟨l8,rfl,h98,l8a⟩
   try simp_all only []
   refine ⟨_,h98,_,n9.at_,.inr rfl,?_⟩
   by_cases hr0:zao u w n i x=[]
   ·rw [if_pos (by rw [hr0];rfl)]
    rw [if_pos hr0] at q
    refine ⟨⟨_,.inl e9⟩,_,e9,⟨.ref l8,by rw [zah,zbi,if_pos rfl]⟩,?_⟩
    rw [zeM]
    exact q _ (λc o nc e=>by rw [ze nc];exact bt _ _ nc e) ⟨⟨_,zp,(dd9.drop n).imp λv l ⟨p,ev,hp,np⟩=>⟨p,ev,by rw [ze (λz=>by rw [z,e9] at hp;cases hp)];exact hp,np⟩⟩,zeq (zcA hD.nd)⟩
   ·rw [if_neg (by
     have:=length_pos_iff.mpr hr0
     simp only [length_map,length_nil,decide_eq_true_eq];omega)]
    rw [if_neg hr0] at q
    exact q H9 bt ⟨⟨_,e9,dd9⟩,zcA hD.nd⟩
end
abbrev zcx:Stmt:=top 33
def zai(u:Tab)(ku:List (Str×Tab))(w n:Str)(i x:Int):Str×Tab×List (Str×Tab) :=
 if w="put"\/w="cut" then ((zbg u w n i x).1,(zbg u w n i x).2,ku)
 else if w="hold" then if (look ku n).isSome then ("HeldAlready",u,ku) else ("done",u,zA ku n u)
 else if (look ku n).isSome then ("done",u,zE ku n) else ("NotHeld",u,ku)
section
variable {P:Program}{w:World}{K:Frag}{mg:Str->Option Value}{base:Heap}{A:zh}
theorem Dcs.upd{H:Hp}{M:List Addr}{c:Addr}{kv:List (Key×V)}(h:Dcs H M):Dcs (upd H c (.dK kv)) M:=λx hx=>by
 by_cases z:x=c
 ·subst z;exact ⟨kv,zp⟩
 ·rw [ze z];exact h x hx
theorem zfy{H:Hp}{c:Addr}{kv:List (Key×V)}(e:H c=some (.dK kv)):∀x∈[c],∃kvs,H x=some (.dK kvs):=λx hx=>by
 simp only [mem_cons,not_mem_nil,or_false] at hx;subst hx;exact ⟨_,e⟩
theorem zfn{M:List Addr}{c:Addr}(e:c∈M):∀x∈[c],x∈M:=λx hx=>by
 simp only [mem_cons,not_mem_nil,or_false] at hx;subst hx;exact e
theorem zgN{a c:Addr}{H H':Hp}(s:But c H H'):zaC (a::[c]) H H':=λx o n e=>s x o (λz=>n (by simp [z])) e
def zfG:Sp:=λvs H Q _=>∃(a d kd g:Addr)(M:List Addr)(u:Tab)(ku:List (Str×Tab))(w n:Str)(i x:Int),vs=[.ref d,.ref kd,.ref g]/\Pot H a/\zQ H a d u/\zaE H a M kd ku/\Dcs H M/\d∈M/\kd∈M/\d≠kd/\H g=some (.tup [.str w,.str n,.int i,.int x])/\zdC w n i/\(∀n,(lk u n).length<=1000)/\u.length<=1000/\ku.length<=1000 /\
 ∀H',zaC [d,kd] H H'->zQ H' a d (zai u ku w n i x).2.1->zaE H' a M kd (zai u ku w n i x).2.2->Dcs H' M->Q (.str (zai u ku w n i x).1) H'
theorem zsI:zG ["_law_model","_law_kept","_law_deed_here"] ["_law_model","_law_kept","_law_deed_here"] (zj zcx):=⟨rfl,rfl,rfl,f!"",rfl,f!"",f!""⟩
theorem zo9{f:Addr}{fd:FuncData}(F:Fun K "_law_due" "_law_due" zcx f fd)(T:Txt K mg A)(Gk:GF P w K mg base true 1 "_law_files_due" ["_law_model","_law_deed_here"] zf0):zt P w K mg base CX0 true 2 f fd ["_law_model","_law_kept","_law_deed_here"] zfG:=by
 refine F.ok zsI (λvs H Q E h=>?_) (λcdv Ar outer s H vs Q E hr h=>?_)
 ·obtain ⟨a,d,kd,g,M,u,ku,w,n,i,x,rfl,_⟩:=h;rfl
 ·obtain ⟨a,d,kd,g,M,u,ku,w,n,i,x,rfl,hP,hD,hK,D,dM,kM,dkd,hg,ok,rows,u1,k1,q⟩:=h
  have hu:_<cLine:=lt_of_succ_lt (zP hr)
  refine ⟨_,(W.h (zo (zS (zV (zkZ hu) (zaj zaO (za 2) zq (λ_ _=>rfl)) (zbj (zb zv (zb zv zd))) rfl)
   (zm (zx (zH Gk hr rfl (zb (za 0) (zb (za 2) zd)))))
   z6)
   (zo (zS (zV (zbv hu) (zaj zaO (za 2) zq (λ_ _=>rfl)) zv (zaa _))
   (zo (zS (zV (zju (zP hr)) (zaj zaO (za 2) zq (λ_ _=>rfl)) (za 1) rfl)
   (zm (zx zv))
   z6)
   (zo (za4 (zbp zcz rfl T.n_dict boot_dict (zb (za 0) zd)) (zbP (za 1) (zaj zaO (za 2) zq (λ_ _=>rfl)) (zdJ (zP hr))))
   (zm (zx zv))))
   z6)
   (zo (zS (zV (zeU (zP hr)) (zaj zaO (za 2) zq (λ_ _=>rfl)) (za 1) rfl)
   (zm (zx zv))
   z6)
   (zo (zaW (zhG (za 1) (zaj zaO (za 2) zq (λ_ _=>rfl))))
   (zm (zx zv))))))),?_⟩
  obtain ⟨kv,ek,dk⟩:=hK.ex
  obtain ⟨kvs,e1,dd⟩:=hD.ex
  have a0:atI [V.str w,.str n,.int i,.int x] 0=some (.str w):=rfl
  have a1:atI [V.str w,.str n,.int i,.int x] 1=some (.str n):=rfl
  simp_all only [hg,a0,a1]
  refine ⟨by decide,λtp H2 n2=>⟨_,.inr n2.at_,rfl,rfl,?_⟩⟩
  have P2:=hP.same n2.same
  have D2:=hD.same n2.same
  have K2:=hK.same n2.same
  have g2:=n2.same _ _ hg
  have ek2:=n2.same _ _ ek
  have e12:=n2.same _ _ e1
  have DD2:=D.same n2.same
  have ein:inV (V.str w) [V.str "put",V.str "cut"]=decide (w∈(["put","cut"]:List Str)):=zhI (zs:=["put","cut"])
  have sL:∀{H3:Hp}{c:Addr},c=d\/c=kd->But c H2 H3->zaC [d,kd] H H3:=λ{H3 c} hc b x o nx e=>b x o (λz=>nx (by rcases hc with rfl|rfl<;>simp [z])) (n2.same _ _ e)
  rw [ein]
  by_cases hw:w="put"\/w="cut"
  ·rw [if_pos (by simpa using hw)]
   have e:zai u ku w n i x=((zbg u w n i x).1,(zbg u w n i x).2,ku):=if_pos hw
   rw [e] at q
   refine ⟨a,d,g,u,w,n,i,x,rfl,P2,D2,g2,hw,ok.nn,rows n,u1,λH3 b3 D3=>q H3 (sL (.inl rfl) b3) D3 (K2.butL (zgN b3) P2 (zfy e12) (zfn dM) (by simpa using dkd.symm)) λy hy=>?_⟩
   by_cases z:y=d
   ·subst z;obtain ⟨kv3,e3,_⟩:=D3.ex;exact ⟨_,e3⟩
   ·obtain ⟨kvy,ey⟩:=DD2 y hy;exact ⟨_,b3 _ _ z ey⟩
  rw [if_neg (by simpa using hw)]
  refine ⟨_,.inr g2,_,a0,?_⟩
  simp_all only []
  by_cases hh:w="hold"
  ·rw [if_pos (decide_eq_true hh)]
   refine ⟨_,.inr g2,_,a1,?_⟩
   simp_all only []
   refine ⟨_,.inl ek2,?_⟩
   rw [zah,Dct.some_iff dk n]
   cases hs:(look ku n).isSome with
   | true =>
    have e:zai u ku w n i x=(("HeldAlready":Str),u,ku):=by unfold zai;rw [if_neg hw,if_pos hh,if_pos hs]
    rw [e] at q
    exact q H2 (.of n2.same) D2 K2 DD2
   | false =>
    have e:zai u ku w n i x=(("done":Str),u,zA ku n u):=by unfold zai;rw [if_neg hw,if_pos hh,if_neg (by rw [hs];decide)]
    rw [e] at q
    refine ⟨_,.inl e12,λpn H3 n3=>⟨_,.inr (n3.same _ _ g2),_,a1,?_⟩⟩
    have ek3:=n3.same _ _ ek2
    simp_all only []
    refine ⟨_,ek3,by rw [zbF,dk.length];exact Nat.lt_of_le_of_lt k1 (by decide),?_⟩
    rw [zcI]
    have P3:=P2.same n3.same
    have pM:pn∉M:=λz=>by obtain ⟨kvz,ez⟩:=DD2 pn z;have:=n3.no;rw [ez] at this;cases this
    have pkd:pn≠kd:=λz=>pM (z ▸ kM)
    have dd2:Dct (MdP H3 a) kvs u:=dd.imp λv l ⟨p,ev,hp,np⟩=>⟨p,ev,n3.same _ _ (n2.same _ _ hp),np⟩
    have pl3:zQ H3 a pn u:=⟨⟨kvs,n3.at_,dd2⟩,hD.nd⟩
    have rn:KvR H3 a M (.ref pn) u:=⟨pn,rfl,pM,pl3⟩
    have dk3:Dct (KvR H3 a M) kv ku:=dk.imp λv t r=>r.butL (X:=[]) (.of (n2.same.trans n3.same)) hP (λ_ h=>by cases h) (λ_ h=>by cases h)
    exact q _ (λc o nc e=>by rw [ze (λz=>nc (by simp [z]))];exact n3.same _ _ (n2.same _ _ e)) ((D2.same n3.same).dic But.upd ek3 dkd) ⟨⟨_,zp,(dk3.put n rn).imp λv t r=>r.butL (zgN But.upd) P3 (zfy ek3) (zfn kM)⟩,zcA hK.nd⟩ (DD2.same n3.same).upd
  ·rw [if_neg (by simpa using hh)]
   refine ⟨_,.inr g2,_,a1,?_⟩
   simp_all only []
   refine ⟨_,.inl ek2,?_⟩
   rw [zah,Dct.some_iff dk n]
   cases hs:(look ku n).isSome with
   | false =>
    have e:zai u ku w n i x=(("NotHeld":Str),u,ku):=by unfold zai;rw [if_neg hw,if_neg hh,if_neg (by rw [hs];decide)]
    rw [e] at q
    exact q H2 (.of n2.same) D2 K2 DD2
   | true =>
    have e:zai u ku w n i x=(("done":Str),u,zE ku n):=by unfold zai;rw [if_neg hw,if_neg hh,if_pos hs]
    rw [e] at q
    refine ⟨⟨_,.inl ek2⟩,_,.inr g2,_,a1,?_⟩
    simp_all only []
    refine ⟨_,ek2,isSome_iff_exists.mp (by rw [zah,Dct.some_iff dk n];exact hs),?_⟩
    rw [zeM]
    have dk2:Dct (KvR H2 a M) kv ku:=dk.imp λv t r=>r.butL (X:=[]) (.of n2.same) hP (λ_ h=>by cases h) (λ_ h=>by cases h)
    exact q _ (sL (.inr rfl) But.upd) (D2.dic But.upd ek2 dkd) ⟨⟨_,zp,(dk2.drop n).imp λv t r=>r.butL (zgN But.upd) P2 (zfy ek2) (zfn kM)⟩,zeq hK.nd⟩ DD2.upd
end
abbrev zda:Stmt:=top 35
def zW(t:Tab)(ks:List (Str×Tab))(w n:Str)(i x:Int):Str×Tab×List (Str×Tab) :=
 if w="put" then if ((lk t n).length:Int)<i then ("NoPlace",t,ks) else ("done",zA t n ((lk t n).take i.toNat++[x]++(lk t n).drop (i.toNat+1)),ks)
 else if w="cut" then if look t n=none then ("NoFile",t,ks) else if ((lk t n).length:Int)<i then ("NoPlace",t,ks) else ("done",zaL t n i,ks)
 else if w="hold" then if (look ks n).isSome then ("HeldAlready",t,ks) else ("done",t,zA ks n t)
 else if (look ks n).isSome then ("done",t,zE ks n) else ("NotHeld",t,ks)
section
variable {P:Program}{w:World}{K:Frag}{mg:Str->Option Value}{base:Heap}{A:zh}
def zg3(A:zh):Sp:=λvs H Q _=>∃(p b k g:Addr)(t:Tab)(ks:List (Str×Tab))(w n:Str)(i x:Int),vs=[.ref p,.ref g]/\zr A H p b k t ks/\H g=some (.tup [.str w,.str n,.int i,.int x])/\zdC w n i/\(∀n,(lk t n).length<=1000)/\t.length<=1000/\ks.length<=1000 /\
 ∀H',zaC [b,k] H H'->zr A H' p b k (zW t ks w n i x).2.1 (zW t ks w n i x).2.2->(∀c,H c≠none->zO A H k c->zO A H' k c)->Q (.str (zW t ks w n i x).1) H'
theorem zbH:zG ["_law_files","_law_deed_here","_law_word","_law_name_here","_law_place","_law_birth_here","_law_told_here","_law_e"] ["_law_files","_law_deed_here"] (zj zda):=⟨rfl,rfl,rfl,f!"",rfl,f!"",f!""⟩
theorem zqt{f:Addr}{fd:FuncData}(F:Fun K "_law_told" "_law_told" zda f fd)(T:Txt K mg A)(M_Files_put:GMX P w K mg base true 4 A.Files "put" ["self","file","place","birth"] (zfP A))(M_Files_cut:GMX P w K mg base true 4 A.Files "cut" ["self","file","many"] (zg2 A))(M_Files_hold:GMX P w K mg base true 5 A.Files "hold" ["self","name"] (zfd A))(M_Files_free:GMX P w K mg base true 3 A.Files "free" ["self","name"] (zgZ A))(Gm:GF P w K mg base false 1 "_law_refusal" ["_law_e"] (zgE K A)):zt P w K mg base CX0 true 6 f fd ["_law_files","_law_deed_here"] (zg3 A):=by
 refine F.ok zbH (λvs H Q E h=>?_) (λcdv Ar outer s H vs Q E hr h=>?_)
 ·obtain ⟨p,b,k,g,t,ks,w,n,i,x,rfl,_⟩:=h;rfl
 ·obtain ⟨p,b,k,g,t,ks,w,n,i,x,rfl,hF,hg,ok,rows,t1,k1,q⟩:=h
  have hu:_<cLine:=lt_of_succ_lt (zP hr)
  refine ⟨_,(W.h (zo (za4 (za 1) (zc8 (n:=4) (zav (zU (i:=2) zbH.nd rfl (Or.inl rfl)) (zav (zU (i:=3) zbH.nd rfl (Or.inl rfl)) (zav (zU (i:=4) zbH.nd rfl (Or.inl rfl)) (zav (zU (i:=5) zbH.nd rfl (Or.inl rfl)) zcY))))))
   (zo (zY (i:=6) zbH.nd rfl (Or.inl rfl) zv)
   (zo (zq3 (i:=7) rfl rfl ⟨rfl,rfl⟩ zbH.nd rfl rfl T.ek_CleanError rfl T.mg_CleanError (λGa Ex=>(zm (zS (zV (zbv hu) (za 2) zv (zaa _))
   (zm (zaW (za5 (za 0) T.cl_Files zeG M_Files_put hr (zb (za 3) (zb (za 4) (zb (za 5) zd))))))
   (zm (zS (zV (zbv hu) (za 2) zv (zaa _))
   (zm (zaW (za5 (za 0) T.cl_Files zeG M_Files_cut hr (zb (za 3) (zb (za 4) zd)))))
   (zm (zS (zV (zbv hu) (za 2) zv (zaa _))
   (zm (zaW (za5 (za 0) T.cl_Files zeG M_Files_hold hr (zb (za 3) zd))))
   (zm (zaW (za5 (za 0) T.cl_Files zeG M_Files_free hr (zb (za 3) zd))))))))))) (λGa ea=>by
   have hr:=hr.mark (v:=some (.ref ea))
   exact (zm (zY (i:=6) zbH.nd rfl (Or.inl rfl) (zH Gm hr rfl (zb (za 7) zd))))))
   (zm (zx (za 6))))))),?_⟩
  obtain ⟨dx,e1⟩:=hF.ob
  simp_all only [zeg]
  refine ⟨g,_,rfl,SqT.of hg,rfl,?_⟩
  simp_all only [zeg,e1,zrc,zqU,zrf,zqA]
  obtain ⟨⟨kvb,eb⟩,kvk,ek⟩:=hF.dicts
  have same_q:∀(z:Str) H2,zW t ks w n i x=(z,t,ks)->zg H H2->Q (.str z) H2:=λz H2 e s=>by
   rw [e] at q
   exact q H2 (.of s) (hF.same s) λc _ av=>av.same hF s
  have bL:∀{c:Addr}{H1:Hp},c=b\/c=k->But c H H1->zaC [b,k] H H1:=λ{c H1} hc s y o ny e=>s y o (λz=>ny (by rcases hc with rfl|rfl<;>simp [z])) e
  refine zaS (λhw=>?_) (λhw=>?_)
  ·have hw:=of_decide_eq_true hw
   refine ⟨p,b,k,t,ks,n,i,x,rfl,hF,ok.nn,rows n,t1,λhi H1 b1 F1=>?_,λhi H1 s1=>?_⟩
   ·have e:zW t ks w n i x=(("done":Str),zA t n ((lk t n).take i.toNat++[x]++(lk t n).drop (i.toNat+1)),ks):=by unfold zW;rw [if_pos hw,if_neg (by omega)]
    rw [e] at q
    exact q H1 (bL (.inl rfl) b1) F1 λc _ av=>av.dic hF b1 eb hF.ne.symm
   ·refine ⟨A.NoPlace,rfl,T.ek_NoPlace,T.mro_NoPlace,λea oe he ho=>⟨_,rfl,ea,A.NoPlace,oe,9,rfl,zp,ho,T.kc_NoPlace,λv H2 ev s2=>⟨v,rfl,?_⟩⟩⟩
    cases ev
    exact same_q _ H2 (by unfold zW;rw [if_pos hw,if_pos hi]) (s1.trans ((New.mk' he).same.trans s2))
  have hw:=λz=>hw (decide_eq_true z)
  refine zaS (λhc=>?_) (λhc=>?_)
  ·have hc:=of_decide_eq_true hc
   refine ⟨p,b,k,t,ks,n,i,rfl,hF,ok.nn,t1,λhn=>?_,λl hn=>?_⟩
   ·refine ⟨A.NoFile,rfl,T.ek_NoFile,T.mro_NoFile,λea oe he ho=>⟨_,rfl,ea,A.NoFile,oe,5,rfl,zp,ho,T.kc_NoFile,λv H2 ev s2=>⟨v,rfl,?_⟩⟩⟩
    cases ev
    exact same_q _ H2 (by unfold zW;rw [if_neg hw,if_pos hc,if_pos hn]) (((New.mk' he).same.trans s2))
   have hl:lk t n=l:=by unfold lk;rw [hn];rfl
   refine ⟨λhi H1 s1=>?_,λhi H1 b1 F1=>?_⟩
   ·refine ⟨A.NoPlace,rfl,T.ek_NoPlace,T.mro_NoPlace,λea oe he ho=>⟨_,rfl,ea,A.NoPlace,oe,9,rfl,zp,ho,T.kc_NoPlace,λv H2 ev s2=>⟨v,rfl,?_⟩⟩⟩
    cases ev
    exact same_q _ H2 (by unfold zW;rw [if_neg hw,if_pos hc,if_neg (by rw [hn];exact nofun),if_pos (by rw [hl];exact hi)]) (s1.trans ((New.mk' he).same.trans s2))
   ·have e:zW t ks w n i x=(("done":Str),zaL t n i,ks):=by unfold zW;rw [if_neg hw,if_pos hc,if_neg (by rw [hn];exact nofun),if_neg (by rw [hl];omega)]
    rw [e] at q
    exact q H1 (bL (.inl rfl) b1) F1 λc _ av=>av.dic hF b1 eb hF.ne.symm
  have hc:=λz=>hc (decide_eq_true z)
  refine zaS (λhh=>?_) (λhh=>?_)
  ·have hh:=of_decide_eq_true hh
   refine ⟨p,b,k,t,ks,n,rfl,hF,k1,λhs=>?_,λhs H1 b1 F1 av1=>?_⟩
   ·refine ⟨A.HeldAlready,rfl,T.ek_HeldAlready,T.mro_HeldAlready,λea oe he ho=>⟨_,rfl,ea,A.HeldAlready,oe,2,rfl,zp,ho,T.kc_HeldAlready,λv H2 ev s2=>⟨v,rfl,?_⟩⟩⟩
    cases ev
    exact same_q _ H2 (by unfold zW;rw [if_neg hw,if_neg hc,if_pos hh,if_pos hs]) (((New.mk' he).same.trans s2))
   ·have e:zW t ks w n i x=(("done":Str),t,zA ks n t):=by unfold zW;rw [if_neg hw,if_neg hc,if_pos hh,if_neg (by rw [hs];exact nofun)]
    rw [e] at q
    exact q H1 (bL (.inr rfl) b1) F1 av1
  have hh:=λz=>hh (decide_eq_true z)
  refine ⟨p,b,k,t,ks,n,rfl,hF,λhs=>?_,λhs H1 b1 F1 av1=>?_⟩
  ·refine ⟨A.NotHeld,rfl,T.ek_NotHeld,T.mro_NotHeld,λea oe he ho=>⟨_,rfl,ea,A.NotHeld,oe,14,rfl,zp,ho,T.kc_NotHeld,λv H2 ev s2=>⟨v,rfl,?_⟩⟩⟩
   cases ev
   exact same_q _ H2 (by unfold zW;rw [if_neg hw,if_neg hc,if_neg hh,if_neg (by rw [hs];exact nofun)]) (((New.mk' he).same.trans s2))
  ·have e:zW t ks w n i x=(("done":Str),t,zE ks n):=by unfold zW;rw [if_neg hw,if_neg hc,if_neg hh,if_pos hs]
   rw [e] at q
   exact q H1 (bL (.inr rfl) b1) F1 λc _ av=>av1 c av
end
abbrev zb3:Stmt:=top 36
section
variable {P:Program}{w:World}{K:Frag}{mg:Str->Option Value}{base:Heap}{A:zh}
structure zlU(H:Hp)(p d:Addr)(i:Nat)(σ:L2.St)(H':Hp):Prop where
 ex:∃t1 t2,σ=[some (V.ref p),some (.ref d),t1,t2]
 same:zg H H'
structure IMc(H:Hp)(p:Addr)(n:Str)(l:List Int)(i:Nat)(τ:L2.St)(ys:List V)(H':Hp):Prop where
 ex:∃t,τ=[t,some (V.ref p),some (.str n)]
 ys:ys=(l.take i).map V.int
 same:zg H H'
 le:i<=60
def zeA(A:zh):Sp:=λvs H Q _=>∃(p b k d a:Addr)(t u:Tab)(ks:List (Str×Tab)),vs=[.ref p,.ref d]/\zaM A H p b k t ks/\zQ H a d u/\t.length<60/\(∀n,(lk t n).length<=60)/\zaf t u/\∀H',zg H H'->Q (.bl true) H'
theorem zfE:zG ["_law_files","_law_model","_law_file","_law_row"] ["_law_files","_law_model"] (zj zb3):=⟨rfl,rfl,rfl,f!"",rfl,f!"",f!""⟩
theorem zrD:zci { kind:=.function,names:=[(Str.ofString ".0",.local),(Str.ofString "_law_place",.local),(Str.ofString "_law_files",.free),(Str.ofString "_law_file",.free)],isGenerator:=false,isCoroutine:=false,more:=[] } (zj zb3).names ["_law_files","_law_model","_law_file","_law_row"] ["_law_place","_law_files","_law_file"] [none,some 0,some 2]=true:=by decide +kernel
theorem zkV:(["_law_place","_law_files","_law_file"]:List Str).Nodup:=by decide +kernel
theorem zqr{f:Addr}{fd:FuncData}(F:Fun K "_law_is_model" "_law_is_model" zb3 f fd)(T:Txt K mg A)(M_Files_names:GM P w K mg base true 1 A.Files "names" ["self"] (zgO A))(M_Files_many:GM P w K mg base true 1 A.Files "many" ["self","file"] (zcu A))(M_Files_birth:GMX P w K mg base true 4 A.Files "birth" ["self","file","place"] (zg1 A)):zt P w K mg base CX0 true 5 f fd ["_law_files","_law_model"] (zeA A):=by
 refine F.ok zfE (λvs H Q E h=>?_) (λcdv Ar outer s H vs Q E hr h=>?_)
 ·obtain ⟨p,b,k,d,a,t,u,ks,rfl,_⟩:=h;rfl
 ·obtain ⟨p,b,k,d,a,t,u,ks,rfl,hF,hM,tl,rows,al,q⟩:=h
  have hu:_<cLine:=lt_of_succ_lt (zP hr)
  refine ⟨_,(W.h (zo (zS (zV (zbX hu) (zcj (za 0) T.cl_Files M_Files_names hr) (zI (zdm rfl) rfl T.n_sorted boot_sorted (zb (za 1) zd)) (zaa _))
   (zm (zx za1))
   z6)
   (zo (zjo (zcp PassesOwn.never (λ_=>rfl) (zhL (za 1)) (zU (i:=2) zfE.nd rfl (Or.inr rfl))
   (zo (zY (i:=3) zfE.nd rfl (Or.inl rfl) (zaj (zbW (zP hr)) (za 1) (za 2) (λ_ _=>rfl)))
   (zm (zS (zct (zgL (zV (zbX hu) (zdx (za 0) T.cl_Files M_Files_many hr (zb (za 2) zd)) (zI zck rfl T.n_len PySem.boot_len (zb (za 3) zd)) (zaa _)) (zfw (zV (zbX hu) (zem (λ_=>rfl) (za2.of zrD) (zdy rfl T.n_range (zb (zI zck rfl T.n_len PySem.boot_len (zb (za 3) zd)) zd)) (λ_ _ _ _ _=>(zU (i:=0) zkV rfl (Or.inl rfl))) (λ_ _ _ _ _=>zeR) (λ_ _ _ _ _=>(za5 (za 1) T.cl_Files zgJ M_Files_birth hr (zb (za 2) (zb (za 0) zd))))) (za 3) (zaa _)))))
   (zm (zx za1))
   z6)))))
   (zm (zx za1))))),?_⟩
  obtain ⟨dx,e1⟩:=hF.ob
  obtain ⟨kvs,ed,dc⟩:=hM.ex
  have hlu:=zgo al hF.births.nd hM.nd
  simp_all only [e1,zmT]
  refine ⟨p,b,k,t,ks,rfl,hF,by omega,λnl H1 n1=>⟨kvs,.inl (n1.same _ _ ed),by rw [dc.length];omega,λml H2 n2=>?_⟩⟩
  rw [dc.names,<- zkJ al hF.births.nd hM.nd] at n2
  have nl2:=n2.same _ _ n1.at_
  simp_all only [nl2,n2.at_]
  refine ⟨zc9,zc9,?_⟩
  rw [zij]
  simp_all only []
  have s2:zg H H2:=n1.same.trans n2.same
  have ed2:=s2 _ _ ed
  refine ⟨d,sk kvs,ed2,λo=>⟨o,sk kvs,zp,zaw.dct (zlU (upd H2 d (.frz o (.dK (sk kvs)))) p d) ⟨⟨_,_,rfl⟩,zg.refl _⟩ (λi σ H _ I=>I.same _ _ zp) ?_ ?_⟩⟩
  ·rintro i pr σ H3 hpr ⟨⟨t1,t2,rfl⟩,sm⟩
   have F3:=(hF.same s2).fs ((FS.freeze ed2).trans (FS.of sm))
   have hd3:=sm _ _ (zp (H:=H2) (a:=d))
   obtain ⟨q0,hq0,rfl⟩:=zil hpr
   obtain ⟨l,hul,_⟩:=dc.at hq0
   generalize q0.1=n at hul
   have hlu:look u n=some l:=zbG hM.nd (mem_of_getElem? hul)
   have hlt:look t n=some l:=by rw [al n];exact hlu
   have l2:l.length<=60:=by have:=rows n;unfold lk at this;rw [hlt] at this;exact this
   obtain ⟨v,l',d1,d2,pl,ev,hpl,_⟩:∃v l',look kvs n=some v/\look u n=some l'/\MdP H a v l':=by
    rcases dc.look n with z|⟨_,d2⟩
    ·exact z
    ·rw [hlu] at d2;cases d2
   rw [hlu] at d2
   cases d2
   subst ev
   have hpl3:H3 pl=some (.lst (l.map V.int)):=((FS.freeze ed2).trans (FS.of sm)).oth _ _ (λ_=>nofun) (λ_ _=>nofun) (s2 _ _ hpl)
   obtain ⟨dx3,e3⟩:=F3.ob
   show zbm 2 (V.str n) _ H3 _
   simp_all only [e3,zbM]
   refine ⟨_,.inr ⟨o,hd3⟩,.ref pl,by rw [zah];exact d1,?_⟩
   try simp_all only [e3,zbM]
   refine ⟨p,b,k,t,ks,n,rfl,F3,λH4 s4=>?_⟩
   have ell:lk t n=l:=by unfold lk;rw [hlt];rfl
   rw [ell]
   have h4:=s4 _ _ hpl3
   try simp_all only []
   refine ⟨_,.inl h4,?_⟩
   rw [length_map]
   try simp_all only []
   rw [if_neg (by simp)]
   refine ⟨_,.inl h4,?_⟩
   rw [length_map]
   refine ⟨by omega,by omega,zat.rng (IMc H4 p n l) (λj τ ys H6 I=>?_) ⟨⟨_,rfl⟩,by simp,zg.refl _,by omega⟩ ?_ ?_⟩
   ·rw [I.ys,length_map,length_take]
    exact zdE (by have:=I.le;omega)
   ·intro N j τ ys H6 hj I hN
    obtain ⟨tt,rfl⟩:=I.ex
    have F6:=(F3.same s4).same I.same
    obtain ⟨dx6,e6⟩:=F6.ob
    have hj':j<l.length:=by omega
    simp_all only [e6,zoD]
    refine ⟨p,b,k,t,ks,n,l,_,rfl,F6,hlt,by omega,by omega,λH7 s7=>?_⟩
    have ej:(0+(j:Int)).toNat=j:=by omega
    have eg:l.getD j 0=l[j]:=by rw [getD_eq_getElem?_getD,List.getElem?_eq_getElem hj'];rfl
    rw [ej,eg]
    refine hN _ _ _ ⟨⟨_,rfl⟩,?_,I.same.trans s7,by omega⟩
    rw [I.ys,take_add_one,List.getElem?_eq_getElem hj',map_append]
    rfl
   ·intro τ ys H6 I D H7 n7
    have s37:zg H3 H7:=(s4.trans I.same).trans n7.same
    have e7:=s37 _ _ hpl3
    have ey:ys=l.map V.int:=by rw [I.ys,take_of_length_le (by omega)]
    rw [ey] at n7
    simp_all only [n7.at_,e7]
    refine ⟨zdz,zdz,?_⟩
    rw [zjr]
    simp_all only []
    exact ⟨⟨_,_,rfl⟩,sm.trans s37⟩
  ·rintro σ H3 ⟨⟨t1,t2,rfl⟩,sm⟩
   have hd3:=sm _ _ (zp (H:=H2) (a:=d))
   refine ⟨o,hd3,?_⟩
   simp_all only []
   refine q _ λa oo e=>?_
   by_cases z:a=d
   ·subst z;rw [zp,<- e,ed]
   ·rw [ze z];exact sm _ _ (by rw [ze z];exact s2 _ _ e)
end
abbrev zcS:Stmt:=top 37
theorem zcE{α:Type}(f:α->List Int)(C:Nat):∀l:List α,(∀x∈l,(f x).length<=C)->(l.flatMap f).length<=l.length*C
 | [],_=>zero_le _
 | x::l,h=>by
  have h1:=h x mem_cons_self
  have h2:=zcE f C l λy hy=>h y (mem_cons_of_mem _ hy)
  rw [List.flatMap_cons,length_append,length_cons,Nat.succ_mul]
  omega
def PlR(H:Hp)(a:Addr)(v:V)(u:Tab):Prop:=∃e,v = .ref e/\zQ H a e u
structure LoI(d kd:Addr)(H5:Hp)(us:List Tab)(i:Nat)(σ:L2.St)(H':Hp):Prop where
 ex:∃fo t3 t4,σ=[some (.ref d),some (.ref kd),some (.ref fo),t3,t4]/\H' fo=some (.lst (((us.take i).flatMap zw).map V.int))
 same:zg H5 H'
structure MiI(d kd e:Addr)(Hf:Hp)(ns:List Int)(u:Tab)(i:Nat)(σ:L2.St)(H':Hp):Prop where
 ex:∃fo t4,σ=[some (.ref d),some (.ref kd),some (.ref fo),some (.ref e),t4]/\H' fo=some (.lst ((ns++zw (u.take i)).map V.int))
 same:zg Hf H'
section
variable {P:Program}{w:World}{K:Frag}{mg:Str->Option Value}{base:Heap}{A:zh}
def zgu:Sp:=λvs H Q _=>∃(a d kd:Addr)(X:List Addr)(u:Tab)(ku:List (Str×Tab)),vs=[.ref d,.ref kd]/\zQ H a d u/\zaE H a X kd ku/\(uniq (zac u ku)).length<64/\(zac u ku).length<3000/\ku.length<=1000 /\
 ∀l (ns:List Int) H',zg H H'->H l=none->H' l=some (.lst (ns.map V.int))->ns.Perm (uniq (zac u ku))->ns.Pairwise (·<=·)->Q (.ref l) H'
theorem zdR:zG ["_law_model","_law_kept","_law_found","_law_files","_law_row"] ["_law_model","_law_kept"] (zj zcS):=⟨rfl,rfl,rfl,f!"",rfl,f!"",f!""⟩
theorem zpG{f:Addr}{fd:FuncData}(F:Fun K "_law_living" "_law_living" zcS f fd)(T:Txt K mg A):zt P w K mg base CX0 true 1 f fd ["_law_model","_law_kept"] zgu:=by
 refine F.ok zdR (λvs H Q E h=>?_) (λcdv Ar outer s H vs Q E hr h=>?_)
 ·obtain ⟨a,d,kd,X,u,ku,rfl,_⟩:=h;rfl
 ·obtain ⟨a,d,kd,X,u,ku,rfl,hD,hK,h64,hall,hk,q⟩:=h
  refine ⟨_,(W.h (zo (zY (i:=2) zdR.nd rfl (Or.inl rfl) (zag zd))
   (zo (zcp PassesOwn.never (λ_=>rfl) (zfz (zK zan (zag (zb (za 0) zd)) (zbp (zsk rfl) rfl T.n_list boot_list (zb (zoC (za 1)) zd)))) (zU (i:=3) zdR.nd rfl (Or.inl rfl))
   (zm (zjo (zcp PassesOwn.never (λ_=>rfl) (zgM (za 3)) (zU (i:=4) zdR.nd rfl (Or.inl rfl))
   (zm (zY (i:=2) zdR.nd rfl (Or.inl rfl) (zK zan (za 2) (za 4))))))))
   (zm (zx (zI (ziR rfl) rfl T.n_sorted boot_sorted (zb (zbp (zk1 rfl) rfl T.n_set boot_set (zb (za 2) zd)) zd))))))),?_⟩
  simp_all only []
  obtain ⟨kv,ekd,dk⟩:=hK.ex
  obtain ⟨kvd,ed,_⟩:=hD.ex
  refine ⟨by decide,λfo H1 n1 _=>⟨by decide,λl2 H2 n2 _=>⟨⟨_,.inl (n2.same _ _ (n1.same _ _ ekd))⟩,λv H3 n3=>⟨_,n3.at_,_,.inl (n3.same _ _ (n2.same _ _ (n1.same _ _ ekd))),λl4 H4 n4=>⟨_,n4.same _ _ (n3.same _ _ n2.at_),_,n4.at_,?_,λl5 H5 n5=>⟨⟨_,SqL.of n5.at_⟩,?_⟩⟩⟩⟩⟩⟩
  ·rw [length_map,zbF,dk.length,length_singleton];exact le_trans (show 1+ku.length<=1001 by omega) (by decide)
  have s15:zg H1 H5:=((n2.same.trans n3.same).trans n4.same).trans n5.same
  have s05:zg H H5:=n1.same.trans s15
  have efo:=s15 _ _ n1.at_
  have exs:[V.ref d]++(sk kv).map (·.2)=V.ref d::kv.map (·.2):=by unfold sk;rw [map_map];rfl
  have pall:Paired (PlR H5 a) ([V.ref d]++(sk kv).map (·.2)) (u::ku.map (·.2)):=by
   rw [exs]
   refine .cons ⟨d,rfl,hD.same s05⟩ ?_
   clear n4 n5 exs
   have hh:=dk
   clear hK ekd dk h64 hk q hall
   induction hh with
   | nil=>exact .nil
   | cons z _ ih =>
    refine .cons ?_ ih
    obtain ⟨e,ev,_,pl⟩:=z.2
    exact ⟨e,ev,pl.same s05⟩
  have eU:(u::ku.map (·.2)).flatMap zw=zac u ku:=by
   unfold zac
   rw [List.flatMap_cons,List.flatMap_map]
  have hUl:=pall.length
  generalize u::ku.map (·.2)=us at pall eU hUl
  have small:∀i,((us.take i).flatMap zw).length<3000:=λi=>by
   have h1:(us.take i).flatMap zw++(us.drop i).flatMap zw=zac u ku:=by rw [<- flatMap_append,List.take_append_drop,eU]
   have:=congrArg length h1
   rw [length_append] at this
   omega
  refine zaw.lst (xs:=[V.ref d]++(sk kv).map (·.2)) (LoI d kd H5 us) ⟨⟨_,_,_,rfl,efo⟩,zg.refl _⟩ (λi σ H' _ I=>SqL.of (I.same _ _ n5.at_)) ?_ ?_
  ·rintro i x σ H6 hx ⟨⟨fo6,t3,t4,rfl,efo6⟩,sm⟩
   have hi:i<us.length:=by rw [<- hUl];exact (List.getElem?_eq_some_iff.mp hx).1
   have hus:us[i]?=some us[i]:=List.getElem?_eq_getElem hi
   obtain ⟨e,rfl,pl⟩:=zgp pall hx hus
   have pl6:=pl.same sm
   obtain ⟨kve,ee,de⟩:=pl6.ex
   have es:(us.take i).flatMap zw++zw us[i]=(us.take (i+1)).flatMap zw:=by
    rw [take_add_one,hus,flatMap_append]
    simp
   simp_all only []
   refine ⟨e,_,ee,λo=>?_⟩
   try simp_all only []
   have foe:fo6≠e:=λz=>by rw [z,ee] at efo6;cases efo6
   refine ⟨o,sk kve,zp,zaw.vls (MiI d kd e (upd H6 e (.frz o (.dK (sk kve)))) ((us.take i).flatMap zw) us[i]) ⟨⟨_,_,rfl,by rw [ze foe,efo6];simp [zw]⟩,zg.refl _⟩ (λj σ H' _ I=>I.same _ _ zp) ?_ ?_⟩
   ·rintro j pv σ H7 hp ⟨⟨fo7,t4',rfl,efo7⟩,sm7⟩
    obtain ⟨qv,hqv,rfl⟩:∃qv,kve[j]?=some qv/\pv=(.inr qv.1,qv.2):=by
     unfold sk at hp
     rw [getElem?_map] at hp
     obtain ⟨pv,e1,e2⟩:=map_eq_some_iff.mp hp
     exact ⟨pv,e1,e2.symm⟩
    obtain ⟨l,hul,r,ev,hr,ra⟩:=Dct.at de hqv
    have re:r≠e:=λz=>by rw [z,ee] at hr;cases hr
    have hr7:=sm7 _ _ (show upd H6 e (.frz o (.dK (sk kve))) r=some (.lst (l.map V.int)) by rw [ze re];exact hr)
    have hsn:=zfM hul
    simp_all only [ev]
    refine ⟨_,efo7,_,hr7,zcZ ?_,λfo8 H8 n8=>⟨⟨_,_,rfl,by rw [n8.at_,hsn,<- map_append,List.append_assoc]⟩,sm7.trans n8.same⟩⟩
    have h2:=small (i+1)
    rw [<- es,length_append] at h2
    obtain ⟨rr,er⟩:=ziy (u:=us[i]) (i:=j+1)
    have h3:=congrArg length er
    rw [hsn,length_append,length_append] at h3
    rw [length_map,length_map,length_append]
    have h3:(zw us[i]).length=(zw (us[i].take j)).length+l.length+rr.length:=h3
    omega
   ·rintro σ H7 ⟨⟨fo7,t4',rfl,efo7⟩,sm7⟩
    rw [show (sk kve).length=us[i].length by rw [zbF,de.length],take_of_length_le (le_refl _),es] at efo7
    have e7:=sm7 _ _ (zp (H:=H6) (a:=e))
    have foe7:fo7≠e:=λz=>by rw [z,e7] at efo7;cases efo7
    refine ⟨o,e7,⟨⟨_,_,_,rfl,by rw [ze foe7];exact efo7⟩,λc u' ec=>?_⟩⟩
    by_cases z:c=e
    ·subst z
     have h6:=sm _ _ ec
     rw [ee] at h6
     cases h6
     exact zp
    ·rw [ze z]
     exact sm7 _ _ (by rw [ze z];exact sm _ _ ec)
  ·rintro σ H6 ⟨⟨fo6,t3,t4,rfl,efo6⟩,sm⟩
   rw [hUl,take_of_length_le (le_refl _),eU] at efo6
   simp_all only []
   refine ⟨_,.inl efo6,hall,λp7 H7 n7=>⟨_,n7.at_,h64,λl ns H8 n8 pm so=>?_⟩⟩
   have s6:zg H H7:=(s05.trans sm).trans n7.same
   exact q l ns H8 (s6.trans n8.same) (s6.free n8.no) n8.at_ pm so
end
theorem zcL:∀{xs L:List Str},xs.Nodup->(∀y∈xs,y∈L)->xs.length<=L.length
 | [],_,_,_=>zero_le _
 | x::xs,L,nd,s=>by
  have nd':=nodup_cons.mp nd
  have hx:x∈L:=s x mem_cons_self
  have h1:=zcL (xs:=xs) (L:=L.erase x) nd'.2 λy hy=>(List.mem_erase_of_ne (λz:y=x=>nd'.1 (by rw [<- z];exact hy))).mpr (s y (mem_cons_of_mem _ hy))
  rw [List.length_erase_of_mem hx] at h1
  have:=List.length_pos_of_mem hx
  rw [length_cons]
  omega
theorem zdh{α:Type}{t:List (Str×α)}:(names t).length=t.length:=by unfold names;rw [length_map]
theorem zf7{α:Type}{t:List (Str×α)}{n m:Str}{a:α}(h:m∈names (zA t n a)):m∈names t\/m=n:=by
 unfold names at h ⊢
 obtain ⟨p,hp,rfl⟩:=mem_map.mp h
 rcases zcJ hp with hp|rfl
 ·exact .inl (mem_map.mpr ⟨p,hp,rfl⟩)
 ·exact .inr rfl
theorem zi1{α:Type}{t:List (Str×α)}{n m:Str}(h:m∈names (zE t n)):m∈names t:=by
 unfold names zE at h
 unfold names
 obtain ⟨p,hp,rfl⟩:=mem_map.mp h
 exact mem_map.mpr ⟨p,(mem_filter.mp hp).1,rfl⟩
theorem zhu{α:Type}{t:List (Str×α)}{n:Str}{p:Str×α}(h:p∈zE t n):p∈t:=by unfold zE at h;exact (mem_filter.mp h).1
structure Fct(zs:List Str)(t:Tab)(ks:List (Str×Tab))(B:Nat):Prop where
 bud:Bud t ks B
 nm:∀m∈names t,m∈zs
 old:∀p∈ks,(names p.2).Nodup/\(∀m∈names p.2,m∈zs)/\∀n l,look p.2 n=some l->l≠[]
 hn:∀m∈names ks,m∈HN
theorem Fct.up{zs:List Str}{t:Tab}{ks:List (Str×Tab)}{B:Nat}(h:Fct zs t ks B):Fct zs t ks (B+1):=⟨h.bud.up,h.nm,h.old,h.hn⟩
theorem zqL{t:Tab}{n m:Str}{i:Int}{l:List Int}(hl:look t n=some l)(h:m∈names (zaL t n i)):m∈names t:=by
 unfold zaL at h
 split at h
 ·exact zi1 h
 ·rcases zf7 h with h|rfl
  ·exact h
  ·exact Classical.byContradiction λz=>by rw [zaN.mpr z] at hl;cases hl
theorem Fct.step{zs:List Str}{t:Tab}{ks:List (Str×Tab)}{B:Nat}{w n:Str}{i x:Int}(h:Fct zs t ks B)(nt:(names t).Nodup)(ok:zdC w n i)(hp:w="put"->n∈zs):Fct zs (zW t ks w n i x).2.1 (zW t ks w n i x).2.2 (B+1):=by
 unfold zW
 by_cases hw:w="put"
 ·rw [if_pos hw]
  by_cases hi:((lk t n).length:Int)<i
  ·rw [if_pos hi];exact h.up
  ·rw [if_neg hi]
   refine ⟨h.bud.put (by have:=ok.nn;omega),λm hm=>?_,h.old,h.hn⟩
   rcases zf7 hm with hm|rfl
   ·exact h.nm m hm
   ·exact hp hw
 rw [if_neg hw]
 by_cases hc:w="cut"
 ·rw [if_pos hc]
  cases hl:look t n with
  | none=>rw [if_pos rfl];exact h.up
  | some l =>
   rw [if_neg nofun]
   have el:lk t n=l:=by unfold lk;rw [hl];rfl
   by_cases hi:((lk t n).length:Int)<i
   ·rw [if_pos hi];exact h.up
   ·rw [if_neg hi]
    exact ⟨(h.bud.cut hl ok.nn (by rw [el] at hi;omega)).up,λm hm=>h.nm m (zqL hl hm),h.old,h.hn⟩
 rw [if_neg hc]
 by_cases hh:w="hold"
 ·rw [if_pos hh]
  by_cases hs:(look ks n).isSome=true
  ·rw [if_pos hs];exact h.up
  ·rw [if_neg hs]
   refine ⟨(h.bud.sub λp hp=>?_).up,h.nm,λp hp=>?_,λm hm=>?_⟩
   ·rcases zcJ hp with hp|rfl
    ·exact .inl hp
    ·exact .inr rfl
   ·rcases zcJ hp with hp|rfl
    ·exact h.old p hp
    ·exact ⟨nt,h.nm,h.bud.ne⟩
   ·rcases zf7 hm with hm|rfl
    ·exact h.hn m hm
    ·exact ok.held hh
 rw [if_neg hh]
 by_cases hs:(look ks n).isSome=true
 ·rw [if_pos hs]
  exact ⟨(h.bud.sub λp hp=>.inl (zhu hp)).up,h.nm,λp hp=>h.old p (zhu hp),λm hm=>h.hn m (zi1 hm)⟩
 ·rw [if_neg hs];exact h.up
theorem KAl.is{ks ku:List (Str×Tab)}(h:KAl ks ku)(n:Str):(look ks n).isSome=(look ku n).isSome:=by
 rcases h n with ⟨v,w,e1,e2,_⟩|⟨e1,e2⟩<;>rw [e1,e2]<;>rfl
theorem zqa{t u:Tab}{ks ku:List (Str×Tab)}{w n:Str}{i x:Int}(al:zaf t u)(kal:KAl ks ku)(nt:(names t).Nodup)(ok:zdC w n i)(ne:∀n l,look t n=some l->l≠[]) :
  (zW t ks w n i x).1=(zai u ku w n i x).1/\zaf (zW t ks w n i x).2.1 (zai u ku w n i x).2.1/\KAl (zW t ks w n i x).2.2 (zai u ku w n i x).2.2:=by
 have lu:lk u n=lk t n:=by unfold lk;rw [al n]
 unfold zW zai
 by_cases hw:w="put"
 ·have hc : ¬ (w="cut"/\look u n=none):=λz=>by rw [hw] at z;exact absurd z.1 (f!"")
  rw [if_pos hw,if_pos (Or.inl hw:w="put"\/w="cut")]
  unfold zbg
  rw [if_neg hc,lu]
  by_cases hi:((lk t n).length:Int)<i
  ·rw [if_pos hi,if_pos hi];exact ⟨rfl,al,kal⟩
  ·rw [if_neg hi,if_neg hi]
   have er:zao u w n i x=(lk t n).take i.toNat++[x]++(lk t n).drop (i.toNat+1):=by unfold zao;rw [if_pos hw,lu,List.append_assoc]
   have en:zao u w n i x≠[]:=by rw [er];simp
   refine ⟨rfl,?_,kal⟩
   show zaf _ (if zao u w n i x=[] then _ else _)
   rw [if_neg en,er]
   exact al.put n _
 rw [if_neg hw]
 by_cases hc:w="cut"
 ·rw [if_pos hc,if_pos (Or.inr hc:w="put"\/w="cut")]
  unfold zbg
  rw [<- al n,lu]
  cases hl:look t n with
  | none=>rw [if_pos rfl,if_pos (⟨hc,rfl⟩:w="cut"/\(none:Option (List Int))=none)];exact ⟨rfl,al,kal⟩
  | some l =>
   rw [if_neg nofun,if_neg (λz:w="cut"/\some l=none=>nomatch z.2)]
   have el:lk t n=l:=by unfold lk;rw [hl];rfl
   have lne:=length_pos_iff.mpr (ne n l hl)
   by_cases hi:((lk t n).length:Int)<i
   ·rw [if_pos hi,if_pos hi];exact ⟨rfl,al,kal⟩
   ·rw [if_neg hi,if_neg hi]
    have er:zao u w n i x=l.take i.toNat:=by unfold zao;rw [if_neg hw,lu,el,append_nil]
    refine ⟨rfl,?_,kal⟩
    show zaf (zaL t n i) (if zao u w n i x=[] then _ else _)
    rw [er]
    unfold zaL
    rw [el]
    by_cases h0:i=0
    ·subst h0
     rw [if_pos rfl,if_pos (show List.take (Int.toNat 0) l=[] from rfl)]
     intro m
     rw [zc0,zc0,zbi]
     by_cases hm:m=n
     ·rw [if_pos hm,if_pos hm]
     ·rw [if_neg hm,if_neg hm,if_neg hm,al m]
    ·have h1:l.take i.toNat≠[]:=λz=>by
      have:=congrArg length z
      rw [length_take,length_nil] at this
      have:=ok.nn
      omega
     rw [if_neg h0,if_neg h1]
     exact al.put n _
 rw [if_neg hc,if_neg (not_or.mpr ⟨hw,hc⟩)]
 by_cases hh:w="hold"
 ·rw [if_pos hh,if_pos hh,kal.is n]
  by_cases hs:(look ku n).isSome=true
  ·rw [if_pos hs,if_pos hs];exact ⟨rfl,al,kal⟩
  ·rw [if_neg hs,if_neg hs];exact ⟨rfl,al,kal.put n al nt⟩
 ·rw [if_neg hh,if_neg hh,kal.is n]
  by_cases hs:(look ku n).isSome=true
  ·rw [if_pos hs,if_pos hs];exact ⟨rfl,al,kal.drop n⟩
  ·rw [if_neg hs,if_neg hs];exact ⟨rfl,al,kal⟩
theorem zmb{zs:List Str}{t u:Tab}{ks ku:List (Str×Tab)}{B:Nat}(h:Fct zs t ks B)(al:zaf t u)(kal:KAl ks ku)(nt:(names t).Nodup)(nu:(names u).Nodup)(nks:(names ks).Nodup)(nku:(names ku).Nodup)(nw:∀p∈ku,(names p.2).Nodup):(zac u ku).length<=zs.length*B+HN.length*(zs.length*B):=by
 have one:∀v w:Tab,zaf v w->(names v).Nodup->(names w).Nodup->(∀m∈names v,m∈zs)->(∀n,(lk v n).length<=B)->(zw w).length<=zs.length*B:=λv w al nv nw hz hr=>by
  have l1:w.length<=zs.length:=by
   rw [<- zgo al nv nw,<- zdh]
   exact zcL nv hz
  refine le_trans (zcE (·.2) B w λp hp=>?_) (Nat.mul_le_mul l1 (le_refl _))
  have e:look w p.1=some p.2:=zbG nw hp
  have:=hr p.1
  unfold lk at this
  rw [al p.1,e] at this
  exact this
 unfold zac
 rw [length_append]
 refine Nat.add_le_add (one t u al nt nu h.nm h.bud.row) ?_
 have lk2:ku.length<=HN.length:=by
  rw [<- kal.len nks nku,<- zdh]
  exact zcL nks h.hn
 refine le_trans (zcE (λp:Str×Tab=>zw p.2) (zs.length*B) ku λp hp=>?_) (Nat.mul_le_mul lk2 (le_refl _))
 have e:look ku p.1=some p.2:=zbG nku hp
 rcases kal p.1 with ⟨v,w,e1,e2,a1,nv⟩|⟨_,e2⟩
 ·rw [e] at e2
  cases e2
  have m1:=zbw e1
  exact one v p.2 a1 nv (nw p hp) (h.old _ m1).2.1 (h.bud.old _ m1).2
 ·rw [e] at e2;cases e2
abbrev zdb:Stmt:=zaD (top 22) 11
section
variable {P:Program}{w:World}{K:Frag}{mg:Str->Option Value}{base:Heap}{A:zh}{b k:Addr}
def zgR(A:zh):Sp:=λvs H Q _=>∃(p b k:Addr)(t:Tab)(ks:List (Str×Tab)),vs=[.ref p]/\zr A H p b k t ks /\
 ∀q b' k' H',zg H H'->H q=none->H b'=none->H k'=none->zr A H' q b' k' t ks->H' k'=H k->Q (.ref q) H'
theorem zg8:zG ["self","other"] ["self"] (zj zdb):=⟨rfl,rfl,rfl,f!"",rfl,f!"",f!""⟩
theorem zsD{f:Addr}{fd:FuncData}(F:Fun K "copied" "Files.copied" zdb f fd)(T:Txt K mg A)(M_Files_bare:GM P w K mg base true 3 A.Files "bare" ["self"] (zdi A)):zt P w K mg base CX0 true 4 f fd ["self"] (zgR A):=by
 refine F.ok zg8 (λvs H Q E h=>?_) (λcdv Ar outer s H vs Q E hr h=>?_)
 ·obtain ⟨p,b,k,t,ks,rfl,_⟩:=h;rfl
 ·obtain ⟨p,b,k,t,ks,rfl,hF,q⟩:=h
  refine ⟨_,(W.h (zo (zY (i:=1) zg8.nd rfl (Or.inl rfl) (zcj (za 0) T.cl_Files M_Files_bare hr))
   (zo (zey T.cl_Files T.na_Files_kept (za 1) (zbp zcz rfl T.n_dict boot_dict (zb (zam T.cl_Files T.na_Files_kept (za 0)) zd)))
   (zm (zx (za 1)))))),?_⟩
  obtain ⟨dx,e1⟩:=hF.ob
  simp_all only [e1,zgk]
  refine ⟨p,t,rfl,hF.has,λx b' k' H1 s1 nb nk nx hB hF1=>?_⟩
  obtain ⟨dx1,ex1⟩:=hB.ob
  have F1:=hF.same s1
  obtain ⟨dx',e1'⟩:=F1.ob
  obtain ⟨kk0,e20,d0⟩:=hF.kept
  have e2:=s1 _ _ e20
  simp_all only [e1',za7]
  refine ⟨_,.inl e2,λkd H2 n2=>⟨dx1,_,n2.same _ _ ex1,by show 2<1000;decide,?_⟩⟩
  have eF:zab ("kept":Str) (V.ref kd) (zu b' k')=zu b' kd:=by simp only [zab,zu,zh9,if_false,if_true]
  rw [eF]
  have px:∀c o,H c=some o->c≠x:=λc o e=>zM e nx
  have sA:zg H (upd H2 x (.ins A.Files dx1 (zu b' kd))):=λa o e=>by rw [ze (px a o e)];exact n2.same _ _ (s1 _ _ e)
  have kdx:kd≠x:=λz=>by have:=n2.no;rw [z,ex1] at this;cases this
  have bx:b'≠x:=λz=>by obtain ⟨kvs,er,_⟩:=hB.births.ex;rw [z] at er;rcases er with e|⟨o,e⟩ <;> · rw [ex1] at e;cases e
  have kd0:H kd=none:=s1.free n2.no
  obtain ⟨kvs,eb,dd⟩:=hF1.births.ex
  have bkd:b'≠kd:=λz=>by have:=n2.no;rw [<- z,eb] at this;cases this
  refine q x b' kd _ sA nx nb kd0 ⟨⟨dx1,zp⟩,⟨⟨kvs,by rw [ze bx];exact n2.same _ _ eb,dd.imp λv l ⟨a,ea,ha⟩=>⟨a,ea,by rw [ze (λz=>by rw [z,ex1] at ha;cases ha)];exact n2.same _ _ ha⟩⟩,hB.births.nd⟩,⟨kk0,by rw [ze kdx];exact n2.at_,d0.imp λv u r=>?_⟩,hF.ndk,bkd⟩ (by rw [ze kdx,n2.at_,e20])
  obtain ⟨q1,b1,k1,ev,hr1,_⟩:=r
  have hh:=hr1.same sA
  obtain ⟨kv1,er1,_⟩:=hr1.births.ex
  have live:∀{c:Addr}{u:HO},Rd H c u->∃o,H c=some o:=λh=>h.elim (λe=>⟨_,e⟩) λ⟨o,e⟩=>⟨_,e⟩
  obtain ⟨o1,l1⟩:=live er1
  obtain ⟨o2,l2⟩:=live hr1.kept
  exact ⟨q1,b1,k1,ev,hh,zM l1 nb,zM l1 kd0,zM l2 nb,zM l2 kd0⟩
end
abbrev zb5:Stmt:=top 38
section
variable {P:Program}{w:World}{K:Frag}{mg:Str->Option Value}{base:Heap}{A:zh}
structure ArI(H:Hp)(p kd:Addr)(i:Nat)(τ:L2.St)(ys:List V)(H':Hp):Prop where
 ex:∃t,τ=[t,some (V.ref p),some (.ref kd)]
 ys:ys=replicate i (V.bl true)
 same:zg H H'
 le:i<=60
def zgQ(A:zh):Sp:=λvs H Q _=>∃(p b k kd a:Addr)(M:List Addr)(t:Tab)(ks ku:List (Str×Tab)),vs=[.ref p,.ref kd]/\zr A H p b k t ks/\zaE H a M kd ku/\kd∈M/\KAl ks ku/\ks.length<=10/\(∀p∈ks,p.2.length<=50/\∀m,(lk p.2 m).length<=50)/\∀H',zg H H'->Q (.bl true) H'
theorem zrA:zG ["_law_files","_law_kept"] ["_law_files","_law_kept"] (zj zb5):=⟨rfl,rfl,rfl,f!"",rfl,f!"",f!""⟩
theorem zj9:zci { kind:=.function,names:=[(Str.ofString ".0",.local),(Str.ofString "_law_name_here",.local),(Str.ofString "_law_is_model",.globalImplicit),(Str.ofString "_law_files",.free),(Str.ofString "_law_kept",.free)],isGenerator:=false,isCoroutine:=false,more:=[] } (zj zb5).names ["_law_files","_law_kept"] ["_law_name_here","_law_files","_law_kept"] [none,some 0,some 1]=true:=by decide +kernel
theorem zk5:(["_law_name_here","_law_files","_law_kept"]:List Str).Nodup:=by decide +kernel
theorem zrS{f:Addr}{fd:FuncData}(F:Fun K "_law_are_held" "_law_are_held" zb5 f fd)(T:Txt K mg A)(M_Files_held:GM P w K mg base true 1 A.Files "held" ["self"] (zf5 A))(M_Files_of_held:GMX P w K mg base true 4 A.Files "of_held" ["self","name"] (zd2 A))(Gf:GF P w K mg base true 5 "_law_is_model" ["_law_files","_law_model"] (zeA A)):zt P w K mg base CX0 true 6 f fd ["_law_files","_law_kept"] (zgQ A):=by
 refine F.ok zrA (λvs H Q E h=>?_) (λcdv Ar outer s H vs Q E hr h=>?_)
 ·obtain ⟨p,b,k,kd,a,M,t,ks,ku,rfl,_⟩:=h;rfl
 ·obtain ⟨p,b,k,kd,a,M,t,ks,ku,rfl,hF,hK,kM,kal,few,old,q⟩:=h
  have hu:_<cLine:=lt_of_succ_lt (zP hr)
  refine ⟨_,(W.h (zo (zS (zV (zbX hu) (zcj (za 0) T.cl_Files M_Files_held hr) (zI (zdm rfl) rfl T.n_sorted boot_sorted (zb (za 1) zd)) (zaa _))
   (zm (zx za1))
   z6)
   (zm (zx (zI (zpS rfl) rfl T.n_all boot_all (zb (zhS (zem (λ_=>rfl) (za2.of zj9) (zhL (za 1)) (λ_ _ _ _ _=>(zU (i:=0) zk5 rfl (Or.inl rfl))) (λ_ _ _ _ _=>zeR) (λ_ _ _ _ _=>(zH Gf hr rfl (zb (za5 (za 1) T.cl_Files zgJ M_Files_of_held hr (zb (za 0) zd)) (zb (zaj (zbW (zP hr)) (za 2) (za 0) (λ_ _=>rfl)) zd)))))) zd)))))),?_⟩
  obtain ⟨dx,e1⟩:=hF.ob
  obtain ⟨kv,ekd,dk⟩:=hK.ex
  have klen:=kal.len hF.ndk hK.nd
  have lk0:=dk.length
  simp_all only [e1,zl9]
  refine ⟨p,b,k,t,ks,rfl,hF.r,by omega,λtl H2 n2=>⟨kv,.inl (n2.same _ _ ekd),by omega,λsl H3 n3=>?_⟩⟩
  rw [dk.names,<- zjn (kal.names hF.ndk hK.nd)] at n3
  have tl3:=n3.same _ _ n2.at_
  simp_all only [tl3,n3.at_]
  refine ⟨zc9,zc9,?_⟩
  rw [zij]
  simp_all only []
  have s3:zg H H3:=n2.same.trans n3.same
  have ekd3:=s3 _ _ ekd
  have F3:=hF.same s3
  have kvnd:(names kv).Nodup:=by show (kv.map (·.1)).Nodup;rw [dk.names];exact hK.nd
  refine ⟨kd,sk kv,ekd3,λo=>⟨o,sk kv,zp,zat.dct (ArI (upd H3 kd (.frz o (.dK (sk kv)))) p kd) (λj τ ys H6 I=>?_) (λj τ ys H6 I=>I.same _ _ zp) ⟨⟨_,rfl⟩,rfl,zg.refl _,by omega⟩ ?_ ?_⟩⟩
  ·rw [I.ys,List.length_replicate]
   exact zdE (by have:=I.le;omega)
  ·intro N i pr τ ys H7 hpr I hN
   obtain ⟨tt,rfl⟩:=I.ex
   have F7:=F3.r.fs ((FS.freeze ekd3).trans (FS.of I.same))
   have hil:i<kv.length:=by have:=(List.getElem?_eq_some_iff.mp hpr).1;rw [zbF] at this;exact this
   obtain ⟨q0,hq0,rfl⟩:=zil hpr
   obtain ⟨w',hul,e',ev',nX,pl⟩:=Dct.at dk hq0
   have hlk:look kv q0.1=some (.ref e'):=by rw [<- ev'];exact zbG kvnd (mem_of_getElem? hq0)
   generalize q0.1=n at hul hlk
   have hlu:look ku n=some w':=zbG hK.nd (mem_of_getElem? hul)
   obtain ⟨v1,hv1,al1,_⟩:∃v1,look ks n=some v1/\zaf v1 w'/\(names v1).Nodup:=by
    rcases kal n with ⟨v,w,e1,e2,a1,nv⟩|⟨_,e2⟩
    ·rw [hlu] at e2;cases e2;exact ⟨v,e1,a1,nv⟩
    ·rw [hlu] at e2;cases e2
   have o1:v1.length<=50:=(old _ (zbw hv1)).1
   have o2:∀m,(lk v1 m).length<=50:=(old _ (zbw hv1)).2
   have nek:e'≠kd:=λz=>nX (z ▸ kM)
   have kd7:=I.same _ _ (zp (H:=H3) (a:=kd))
   have pl7:zQ H7 a e' w':=((pl.same s3).dic (But.upd (o:=.frz o (.dK (sk kv)))) ekd3 nek).same I.same
   obtain ⟨dx7,e7⟩:=F7.ob
   show zbm 0 (V.str n) _ H7 _
   simp_all only [e7,zhJ]
   refine ⟨p,b,k,t,ks,n,rfl,F7,λz=>(by rw [hv1] at z;cases z),λu hu q' b' k' H8 s8 nb nk nq hB hF8=>?_⟩
   rw [hv1] at hu
   cases hu
   try simp_all only []
   refine ⟨_,.inr ⟨o,s8 _ _ kd7⟩,.ref e',by rw [zah];exact hlk,?_⟩
   refine ⟨q',b',k',e',a,v1,w',[],rfl,hF8.r,pl7.same s8,by omega,λm=>by have:=o2 m;omega,al1,λH9 s9=>?_⟩
   refine hN _ _ _ ⟨⟨_,rfl⟩,by rw [I.ys,<- List.replicate_succ'],(I.same.trans s8).trans s9,by omega⟩
  ·intro τ ys H4 I D H5 n5
   have hd5:=n5.same _ _ (I.same _ _ (zp (H:=H3) (a:=kd)))
   have Dk:D≠kd:=λz=>by have:=n5.no;rw [z,I.same _ _ (zp (H:=H3) (a:=kd))] at this;cases this
   refine ⟨o,hd5,?_⟩
   show zfY [V.ref D] _ Q
   rw [zhs]
   refine ⟨replicate _ true,by rw [ze Dk,n5.at_,I.ys,List.map_replicate],?_⟩
   have et:(replicate (sk kv).length true).all id=true:=by simp
   rw [et]
   refine q _ λa oo e=>?_
   by_cases z:a=kd
   ·subst z;rw [zp,<- e,ekd]
   ·rw [ze z];exact n5.same _ _ (I.same _ _ (by rw [ze z];exact s3 _ _ e))
end
abbrev zc5:Stmt:=top 39
structure Ent where
 tp:Addr
 p:Addr
 d:Addr
 kd:Addr
 b:Addr
 k:Addr
 t:Tab
 u:Tab
 ks:List (Str×Tab)
 ku:List (Str×Tab)
def Ent.own(e:Ent):List Addr:=[e.b,e.k,e.d,e.kd]
structure z5(A:zh)(H:Hp)(a:Addr)(M:List Addr)(zs:List Str)(B:Nat)(e:Ent):Prop where
 tup:H e.tp=some (.tup [.ref e.p,.ref e.d,.ref e.kd])
 one:zaI A H a M e.p e.d e.kd e.b e.k e.t e.u e.ks e.ku
 al:zaf e.t e.u
 kal:KAl e.ks e.ku
 fc:Fct zs e.t e.ks B
theorem z5.same{A:zh}{H H':Hp}{a:Addr}{M:List Addr}{zs:List Str}{B:Nat}{e:Ent}(h:z5 A H a M zs B e)(s:zg H H'):z5 A H' a M zs B e:=⟨s _ _ h.tup,h.one.same s,h.al,h.kal,h.fc⟩
theorem z5.pot{A:zh}{H H':Hp}{a:Addr}{M:List Addr}{zs:List Str}{B:Nat}{e:Ent}(h:z5 A H a M zs B e)(s:But a H H')(P:Pot H a):z5 A H' a M zs B e :=
 ⟨s _ _ (λz=>by obtain ⟨_,_,ea,_⟩:=P.ex;have:=h.tup;rw [z,ea] at this;cases this) h.tup,h.one.pot s P,h.al,h.kal,h.fc⟩
theorem z5.up{A:zh}{H:Hp}{a:Addr}{M:List Addr}{zs:List Str}{B:Nat}{e:Ent}(h:z5 A H a M zs B e):z5 A H a M zs (B+1) e:=⟨h.tup,h.one,h.al,h.kal,h.fc.up⟩
theorem zr.avN{A:zh}{H H':Hp}{p b k k1 c:Addr}{t:Tab}{ks:List (Str×Tab)}(h:zr A H p b k t ks)(s:zg H H')(e:H' k1=H k)(n:H c=none):zO A H' k1 c:=by
 obtain ⟨kk,e2,d2⟩:=h.kept
 intro kvs hk pv hpv q b' k' dx ev eq
 rw [e,e2] at hk
 cases hk
 unfold sk at hpv
 obtain ⟨p',hp',rfl⟩:=mem_map.mp hpv
 obtain ⟨j,hj,ej⟩:=getElem_of_mem hp'
 obtain ⟨a2,_,q2,b2,k2,ev2,hB2,_⟩:=Dct.at d2 (List.getElem?_eq_getElem hj)
 have ev:p'.2 = .ref q:=ev
 rw [ej,ev] at ev2
 cases ev2
 obtain ⟨dx2,e22⟩:=hB2.ob
 rw [s _ _ e22] at eq
 injection eq with eq
 injection eq with _ _ eq
 obtain ⟨r1,r2⟩:=zde eq
 subst r1 r2
 have live:∀{c:Addr}{u:HO},Rd H c u->∃o,H c=some o:=λh=>h.elim (λe=>⟨_,e⟩) λ⟨o,e⟩=>⟨_,e⟩
 obtain ⟨kvs,er,_⟩:=hB2.births.ex
 obtain ⟨o1,l1⟩:=live er
 obtain ⟨o2,l2⟩:=live hB2.kept
 exact ⟨zM l1 n,zM l2 n⟩
theorem zr.avC{A:zh}{H H':Hp}{p b k k1 c:Addr}{t:Tab}{ks:List (Str×Tab)}(h:zr A H p b k t ks)(s:zg H H')(e:H' k1=H k)(av:zO A H k c):zO A H' k1 c:=by
 obtain ⟨kk,e2,d2⟩:=h.kept
 intro kvs hk pv hpv q b' k' dx ev eq
 rw [e,e2] at hk
 cases hk
 have hpv':=hpv
 unfold sk at hpv
 obtain ⟨p',hp',rfl⟩:=mem_map.mp hpv
 obtain ⟨j,hj,ej⟩:=getElem_of_mem hp'
 obtain ⟨a2,_,q2,b2,k2,ev2,hB2,_⟩:=Dct.at d2 (List.getElem?_eq_getElem hj)
 have ev:p'.2 = .ref q:=ev
 rw [ej,ev] at ev2
 cases ev2
 obtain ⟨dx2,e22⟩:=hB2.ob
 rw [s _ _ e22] at eq
 injection eq with eq
 injection eq with _ _ eq
 obtain ⟨r1,r2⟩:=zde eq
 subst r1 r2
 exact av _ e2 _ hpv' q b2 k2 dx2 ev e22
theorem zQ.live{H:Hp}{a d:Addr}{u:Tab}(h:zQ H a d u):∃kv,H d=some (.dK kv):=let ⟨_,e,_⟩:=h.ex;⟨_,e⟩
theorem zaE.more{H H':Hp}{a kd:Addr}{M N:List Addr}{ku:List (Str×Tab)}(h:zaE H a M kd ku)(s:zg H H')(n:∀c∈N,H c=none):zaE H' a (M++N) kd ku:=by
 obtain ⟨kvs,e,d⟩:=h.ex
 refine ⟨⟨kvs,s _ _ e,d.imp λv u ⟨q,ev,nX,pl⟩=>⟨q,ev,λz=>?_,pl.same s⟩⟩,h.nd⟩
 obtain ⟨kv,eq⟩:=pl.live
 rcases mem_append.mp z with z|z
 ·exact nX z
 ·rw [n q z] at eq;cases eq
theorem zaI.more{A:zh}{H H':Hp}{a:Addr}{M N:List Addr}{p d kd b k:Addr}{t u:Tab}{ks ku:List (Str×Tab)}(o:zaI A H a M p d kd b k t u ks ku)(s:zg H H')(n:∀c∈N,H c=none):zaI A H' a (M++N) p d kd b k t u ks ku :=
 have ek:H' k=H k:=by obtain ⟨_,kv,e⟩:=o.files.dicts;rw [s _ _ e,e]
 ⟨o.files.same s,o.plain.same s,o.kept.more s n,λc hc=>(mem_append.mp hc).elim (λz=>o.files.avC s ek (o.av c z)) λz=>o.files.avN s ek (n c z),mem_append_left _ o.mb,mem_append_left _ o.mkk,mem_append_left _ o.md,mem_append_left _ o.mkd,o.ap⟩
theorem Fct.held{zs:List Str}{t v:Tab}{ks:List (Str×Tab)}{B:Nat}{n:Str}(h:Fct zs t ks B)(e:look ks n=some v):Fct zs v [] B:=by
 have m:=zbw e
 obtain ⟨L,hL,hm⟩:=h.bud.live
 refine ⟨⟨(h.bud.old _ m).1,(h.bud.old _ m).2,⟨L,hL,λy hy=>?_⟩,(h.old _ m).2.2,(λp hp=>by cases hp)⟩,(h.old _ m).2.1,(λp hp=>by cases hp),λm hm=>by simp [names] at hm⟩
 have hy:y∈zw v:=by simpa [zac] using hy
 exact hm y (zcq.mpr (.inr ⟨_,m,hy⟩))
section
variable {P:Program}{w:World}{K:Frag}{mg:Str->Option Value}{base:Heap}{A:zh}
def zgm(A:zh):Sp:=λvs H Q _=>∃(a rl:Addr)(M:List Addr)(zs:List Str)(B:Nat)(es:List Ent),vs=[.ref a,.ref rl]/\Pot H a/\H rl=some (.lst (es.map λe=>V.ref e.tp))/\es≠[]/\es.length<=10/\(∀e∈es,z5 A H a M zs B e)/\Dcs H M/\B<=50 /\
 ∀(e:Ent) H',But a H H'->Pot H' a->(∀x∈e.own,H x=none)->z5 A H' a (M++e.own) zs B e->(∀f∈es,z5 A H' a (M++e.own) zs B f)->Dcs H' (M++e.own)->Q (.ref e.tp) H'
theorem zcF:zG ["_law_pot_here","_law_row","_law_files","_law_model","_law_kept","_law_names_here","_law_name_here"] ["_law_pot_here","_law_row"] (zj zc5):=⟨rfl,rfl,rfl,f!"",rfl,f!"",f!""⟩
theorem zkr{f:Addr}{fd:FuncData}(F:Fun K "_law_more" "_law_more" zc5 f fd)(T:Txt K mg A)(Gb:GF P w K mg base true 1 "_law_take" ["_law_pot_here","_law_many"] zbb)(Gc:GF P w K mg base true 2 "_law_drawn" ["_law_pot_here","_law_some"] zcm)(M_Files_of_held:GMX P w K mg base true 4 A.Files "of_held" ["self","name"] (zd2 A))(M_Files_copied:GM P w K mg base true 4 A.Files "copied" ["self"] (zgR A)):zt P w K mg base CX0 true 5 f fd ["_law_pot_here","_law_row"] (zgm A):=by
 refine F.ok zcF (λvs H Q E h=>?_) (λcdv Ar outer s H vs Q E hr h=>?_)
 ·obtain ⟨a,rl,M,zs,B,es,rfl,_⟩:=h;rfl
 ·obtain ⟨a,rl,M,zs,B,es,rfl,hP,hrl,ene,el,he,D,hB,q⟩:=h
  have hu:_<cLine:=lt_of_succ_lt (zP hr)
  refine ⟨_,(W.h (zo (za4 (zH Gc hr rfl (zb (za 0) (zb (za 1) zd))) (zc8 (n:=3) (zav (zU (i:=2) zcF.nd rfl (Or.inl rfl)) (zav (zU (i:=3) zcF.nd rfl (Or.inl rfl)) (zav (zU (i:=4) zcF.nd rfl (Or.inl rfl)) zcY)))))
   (zo (zY (i:=5) zcF.nd rfl (Or.inl rfl) (zI (zdm rfl) rfl T.n_sorted boot_sorted (zb (za 4) zd)))
   (zo (zfq (zS (zct (zfA (zV (zqG hu) (za 5) (zag zd) (zaa _)) (zgV (zV (zbv hu) (zH Gb hr rfl (zb (za 0) (zb zq zd))) zq (zaa _)))))
   (zo (zY (i:=6) zcF.nd rfl (Or.inl rfl) (zH Gc hr rfl (zb (za 0) (zb (za 5) zd))))
   (zm (zx (zbj (zb (za5 (za 2) T.cl_Files zgJ M_Files_of_held hr (zb (za 6) zd)) (zb (zbp zcz rfl T.n_dict boot_dict (zb (zaj (zbW (zP hr)) (za 4) (za 6) (λ_ _=>rfl)) zd)) (zb zdt zd)))))))
   z6))
   (zm (zx (zbj (zb (zcj (za 2) T.cl_Files M_Files_copied hr) (zb (zbp zcz rfl T.n_dict boot_dict (zb (za 3) zd)) (zb (zbp zcz rfl T.n_dict boot_dict (zb (za 4) zd)) zd)))))))))),?_⟩
  simp_all only []
  have epos:=length_pos_iff.mpr ene
  have rla:rl≠a:=λz=>by
   obtain ⟨x,y,ea,_⟩:=hP.ex
   rw [z,ea] at hrl
   cases es with
   | nil=>exact ene rfl
   | cons c es=>injection hrl with hrl;injection hrl with hrl;injection hrl with hrl;cases hrl
  refine ⟨a,hP,.inl ⟨rl,_,rfl,rla,.inl hrl,by rw [length_map];exact epos,by rw [length_map];omega,λv H1 hv b1 P1=>?_⟩⟩
  obtain ⟨e,hem,rfl⟩:=mem_map.mp hv
  have E1:=(he e hem).pot b1 hP
  refine ⟨e.tp,_,rfl,SqT.of E1.tup,rfl,?_⟩
  obtain ⟨kv,ekd,dk⟩:=E1.one.kept.ex
  obtain ⟨kvs,ed,dd⟩:=E1.one.plain.ex
  simp_all only []
  have fin:∀(H2 H':Hp)(e':Ent),But a H H2->Pot H2 a->zg H2 H'->(∀x∈e'.own,H2 x=none)->z5 A H' a (M++e'.own) zs B e'->(∀x∈e'.own,∃kvs,H' x=some (.dK kvs))->Q (.ref e'.tp) H':=λH2 H' e' bt P s n E' D' =>
   q e' H' (bt.trans (.of s)) (P.same s) (λx hx=>bt.free (n x hx) (P.ne (n x hx))) E' (λf hf=>by
    have Ef:=(he f hf).pot bt hP
    exact ⟨s _ _ Ef.tup,Ef.one.more s n,Ef.al,Ef.kal,Ef.fc⟩) λx hx=>(mem_append.mp hx).elim (λz=>((D.pot bt hP).same s) x z) (D' x)
  have klen:=E1.kal.len E1.one.files.ndk E1.one.kept.nd
  have kl:e.ks.length<=4:=by rw [<- zdh];exact zcL E1.one.files.ndk E1.fc.hn
  have lk0:=dk.length
  refine ⟨kv,.inl ekd,by omega,λnm H2 n2=>?_⟩
  have P2:=P1.same n2.same
  have b2:But a H H2:=b1.trans (.of n2.same)
  rw [zgI]
  refine ⟨λσ' H'=>∃t6,σ'=[some (.ref a),some (.ref rl),some (.ref e.p),some (.ref e.d),some (.ref e.kd),some (.ref nm),t6]/\But a H H'/\Pot H' a,?_,?_⟩
  ·try simp_all only []
   refine ⟨by decide,λl3 H3 n3 _=>⟨_,n3.same _ _ n2.at_,_,n3.at_,.inr rfl,?_⟩⟩
   have P3:=P2.same n3.same
   have b3:But a H H3:=b2.trans (.of n3.same)
   have sl:(zaR (kv.map (·.1))).length=kv.length:=by rw [(zcN _).1.length_eq,length_map]
   by_cases hk:kv=[]
   ·rw [if_neg (by rw [length_map,sl,hk];simp)]
    first|exact ⟨b3,P3⟩|exact ⟨_,rfl,b3,P3⟩
   rw [if_pos (by
    have:=length_pos_iff.mpr hk
    simp only [length_map,sl,length_nil,not_eq_true',decide_eq_false_iff_not];omega)]
   have kpos:=length_pos_iff.mpr hk
   refine ⟨a,2,rfl,P3,by decide,by decide,λr H4 b4 P4 r0 r1=>?_⟩
   have bb4:But a H H4:=b3.trans b4
   try simp_all only []
   refine zaS (λ_=>?_) (λ_=>by first|exact ⟨bb4,P4⟩|exact ⟨_,rfl,bb4,P4⟩)
   have nma:nm≠a:=P1.ne n2.no
   refine ⟨a,P4,.inl ⟨nm,_,rfl,nma,.inl (b4 _ _ nma (n3.same _ _ n2.at_)),by rw [length_map,sl];exact kpos,by rw [length_map,sl];omega,λv H5 hv b5 P5=>?_⟩⟩
   obtain ⟨n,hn,rfl⟩:=mem_map.mp hv
   have hn2:n∈names e.ku:=by rw [<- dk.names];exact (zcN _).1.mem_iff.mp hn
   have bb5:But a H H5:=bb4.trans b5
   have E5:=(he e hem).pot bb5 hP
   obtain ⟨kv5,ekd5,dk5⟩:=E5.one.kept.ex
   rcases E5.kal n with ⟨v1,w1,e1,e2,al1,nv⟩|⟨_,e2⟩
   case inr=>exact absurd hn2 (zaN.mp e2)
   rcases dk5.look n with ⟨vv,w2,d1,d2,e',ev,nX,pl⟩|⟨_,d2⟩
   case inr=>rw [e2] at d2;cases d2
   rw [e2] at d2
   cases d2
   subst ev
   obtain ⟨dx5,ob5⟩:=E5.one.files.ob
   simp_all only [ob5,zhJ]
   refine ⟨e.p,e.b,e.k,e.t,e.ks,n,rfl,E5.one.files.r,λz=>(by rw [e1] at z;cases z),λu hu q' b' k' H6 s6 nb nk nq hB F6=>?_⟩
   rw [e1] at hu
   cases hu
   try simp_all only []
   obtain ⟨kve,ee,de⟩:=pl.ex
   refine ⟨_,.inl (s6 _ _ ekd5),.ref e',by rw [zah];exact d1,?_⟩
   try simp_all only []
   refine ⟨_,.inl (s6 _ _ ee),λd' H7 n7 kd' H8 n8=>⟨by decide,λtp H9 n9=>?_⟩⟩
   have s79:zg H7 H9:=n8.same.trans n9.same
   have s69:zg H6 H9:=n7.same.trans s79
   have s59:zg H5 H9:=s6.trans s69
   obtain ⟨⟨kvb,eb6⟩,kvk,ek6⟩:=F6.dicts
   have d0:H5 d'=none:=s6.free n7.no
   have kd0:H5 kd'=none:=s6.free (n7.same.free n8.no)
   have k60:H6 k'=some (.dK (sk [])):=by
    obtain ⟨kk,ekk,dkk⟩:=F6.kept
    have:kk=[]:=length_eq_zero_iff.mp (by rw [dkk.length];rfl)
    rw [this] at ekk
    exact ekk
   have nw7:∀{c:Addr}{o:HO},H6 c=some o->d'≠c:=λ{c o} ec z=>by have:=n7.no;rw [z,ec] at this;cases this
   have nw8:∀{c:Addr}{o:HO},H7 c=some o->kd'≠c:=λ{c o} ec z=>by have:=n8.no;rw [z,ec] at this;cases this
   refine fin H5 H9 ⟨tp,q',d',kd',b',k',v1,w1,[],[]⟩ bb5 P5 s59 (λx hx=>?_) ⟨n9.at_,⟨F6.same s69,⟨⟨kve,s79 _ _ n7.at_,de.imp λv l ⟨r,ev,hr,ra⟩=>⟨r,ev,s59 _ _ hr,ra⟩⟩,pl.nd⟩,⟨⟨[],n9.same _ _ n8.at_,.nil⟩,by simp [names]⟩,λc _ kvs' hk pv hpv=>?_,by simp [Ent.own],by simp [Ent.own],by simp [Ent.own],by simp [Ent.own],nw7 eb6,nw7 ek6,nw8 (n7.same _ _ eb6),nw8 (n7.same _ _ ek6),(nw8 n7.at_).symm⟩,al1,λ_=>.inr ⟨rfl,rfl⟩,E5.fc.held e1⟩ (λx hx=>?_)
   ·simp only [Ent.own,mem_cons,not_mem_nil,or_false] at hx
    rcases hx with rfl|rfl|rfl|rfl
    ·exact nb
    ·exact nk
    ·exact d0
    ·exact kd0
   ·have hk:H9 k'=_:=hk
    rw [s69 _ _ k60] at hk
    cases hk
    cases hpv
   ·simp only [Ent.own,mem_cons,not_mem_nil,or_false] at hx
    rcases hx with rfl|rfl|rfl|rfl
    ·exact ⟨_,s69 _ _ eb6⟩
    ·exact ⟨_,s69 _ _ ek6⟩
    ·exact ⟨_,s79 _ _ n7.at_⟩
    ·exact ⟨_,n9.same _ _ n8.at_⟩
  ·rintro σ' H3 ⟨t6,rfl,b3,P3⟩
   have E3:=(he e hem).pot b3 hP
   obtain ⟨dx3,ob3⟩:=E3.one.files.ob
   obtain ⟨kv3,ekd3,dk3⟩:=E3.one.kept.ex
   obtain ⟨kvs3,ed3,dd3⟩:=E3.one.plain.ex
   simp_all only [ob3,zlW]
   refine ⟨e.p,e.b,e.k,e.t,e.ks,rfl,E3.one.files,λq' b' k' H6 s6 nq nb nk F6 ek6=>?_⟩
   try simp_all only []
   refine ⟨_,.inl (s6 _ _ ed3),λd' H7 n7=>⟨_,.inl (n7.same _ _ (s6 _ _ ekd3)),λkd' H8 n8=>⟨by decide,λtp H9 n9=>?_⟩⟩⟩
   have s79:zg H7 H9:=n8.same.trans n9.same
   have s69:zg H6 H9:=n7.same.trans s79
   have s39:zg H3 H9:=s6.trans s69
   obtain ⟨⟨kvb,eb6⟩,kvk,ek60⟩:=F6.dicts
   have d0:H3 d'=none:=s6.free n7.no
   have kd0:H3 kd'=none:=s6.free (n7.same.free n8.no)
   have nw7:∀{c:Addr}{o:HO},H6 c=some o->d'≠c:=λ{c o} ec z=>by have:=n7.no;rw [z,ec] at this;cases this
   have nw8:∀{c:Addr}{o:HO},H7 c=some o->kd'≠c:=λ{c o} ec z=>by have:=n8.no;rw [z,ec] at this;cases this
   have ek9:H9 k'=H3 e.k:=by rw [s69 _ _ ek60,<- ek60,ek6]
   have none3:∀x∈[b',k',d',kd'],H3 x=none:=λx hx=>by
    simp only [mem_cons,not_mem_nil,or_false] at hx
    rcases hx with rfl|rfl|rfl|rfl
    ·exact nb
    ·exact nk
    ·exact d0
    ·exact kd0
   refine fin H3 H9 ⟨tp,q',d',kd',b',k',e.t,e.u,e.ks,e.ku⟩ b3 P3 s39 none3 ⟨n9.at_,⟨F6.same s69,⟨⟨kvs3,s79 _ _ n7.at_,dd3.imp λv l ⟨r,ev,hr,ra⟩=>⟨r,ev,s39 _ _ hr,ra⟩⟩,E3.one.plain.nd⟩,⟨⟨kv3,n9.same _ _ n8.at_,dk3.imp λv u ⟨r,ev,nX,pl⟩=>⟨r,ev,λz=>?_,pl.same s39⟩⟩,E3.one.kept.nd⟩,λc hc=>?_,by simp [Ent.own],by simp [Ent.own],by simp [Ent.own],by simp [Ent.own],nw7 eb6,nw7 ek60,nw8 (n7.same _ _ eb6),nw8 (n7.same _ _ ek60),(nw8 n7.at_).symm⟩,E3.al,E3.kal,E3.fc⟩ (λx hx=>?_)
   ·obtain ⟨kvr,er⟩:=pl.live
    rcases mem_append.mp z with z|z
    ·exact nX z
    ·rw [none3 r z] at er;cases er
   ·rcases mem_append.mp hc with z|z
    ·exact E3.one.files.avC s39 ek9 (E3.one.av c z)
    ·exact E3.one.files.avN s39 ek9 (none3 c z)
   ·simp only [Ent.own,mem_cons,not_mem_nil,or_false] at hx
    rcases hx with rfl|rfl|rfl|rfl
    ·exact ⟨_,s69 _ _ eb6⟩
    ·exact ⟨_,s69 _ _ ek60⟩
    ·exact ⟨_,s79 _ _ n7.at_⟩
    ·exact ⟨_,n9.same _ _ n8.at_⟩
end
abbrev zcG:Stmt:=top 40
section
variable {P:Program}{w:World}{K:Frag}{mg:Str->Option Value}{base:Heap}{A:zh}
structure SoI(H:Hp)(rl:Addr)(i:Nat)(σ:L2.St)(H':Hp):Prop where
 ex:∃t1 t2 t3,σ=[some (.ref rl),t1,t2,t3]
 same:zg H H'
def zfC(A:zh):Sp:=λvs H Q _=>∃(a rl:Addr)(M:List Addr)(zs:List Str)(B:Nat)(es:List Ent),vs=[.ref rl]/\H rl=some (.lst (es.map λe=>V.ref e.tp))/\(∀e∈es,z5 A H a M zs B e)/\zs.length<=4/\B<=50/\∀H',zg H H'->Q (.bl true) H'
theorem zeI:zG ["_law_row","_law_files","_law_model","_law_kept"] ["_law_row"] (zj zcG):=⟨rfl,rfl,rfl,f!"",rfl,f!"",f!""⟩
theorem zlS{f:Addr}{fd:FuncData}(F:Fun K "_law_all_so" "_law_all_so" zcG f fd)(T:Txt K mg A)(Gf:GF P w K mg base true 5 "_law_is_model" ["_law_files","_law_model"] (zeA A))(Gn:GF P w K mg base true 6 "_law_are_held" ["_law_files","_law_kept"] (zgQ A))(M_Files_living:GM P w K mg base true 1 A.Files "living" ["self"] (zgf A))(Go:GF P w K mg base true 1 "_law_living" ["_law_model","_law_kept"] zgu):zt P w K mg base CX0 true 7 f fd ["_law_row"] (zfC A):=by
 refine F.ok zeI (λvs H Q E h=>?_) (λcdv Ar outer s H vs Q E hr h=>?_)
 ·obtain ⟨a,rl,M,zs,B,es,rfl,_⟩:=h;rfl
 ·obtain ⟨a,rl,M,zs,B,es,rfl,hrl,he,zl,hB,q⟩:=h
  have hu:_<cLine:=lt_of_succ_lt (zP hr)
  refine ⟨_,(W.h (zo (zcp PassesOwn.never (λ_=>rfl) (zfz (za 0)) (zc8 (n:=3) (zav (zU (i:=1) zeI.nd rfl (Or.inl rfl)) (zav (zU (i:=2) zeI.nd rfl (Or.inl rfl)) (zav (zU (i:=3) zeI.nd rfl (Or.inl rfl)) zcY))))
   (zo (zS (zct (zgL (zb2 (zcr (zH Gf hr rfl (zb (za 1) (zb (za 2) zd))))) (zfw (zb2 (zcr (zH Gn hr rfl (zb (za 1) (zb (za 3) zd))))))))
   (zm (zx za1))
   z6)
   (zm (zS (zV (zbX hu) (zcj (za 1) T.cl_Files M_Files_living hr) (zH Go hr rfl (zb (za 2) (zb (za 3) zd))) (zaa _))
   (zm (zx za1))
   z6))))
   (zm (zx za1)))),?_⟩
  simp_all only []
  refine ⟨⟨_,SqL.of hrl⟩,zaw.lst (xs:=es.map λe=>V.ref e.tp) (SoI H rl) ⟨⟨_,_,_,rfl⟩,zg.refl _⟩ (λi σ H' _ I=>SqL.of (I.same _ _ hrl)) ?_ ?_⟩
  ·rintro i v σ H1 hv ⟨⟨t1,t2,t3,rfl⟩,sm⟩
   rw [getElem?_map] at hv
   obtain ⟨e,hei,rfl⟩:=map_eq_some_iff.mp hv
   have E:=(he e (mem_of_getElem? hei)).same sm
   have fc':=E.fc
   have al':=E.al
   have kal':=E.kal
   have O:=E.one
   refine ⟨e.tp,_,rfl,SqT.of E.tup,rfl,?_⟩
   have tl':=fc'.bud.few
   have kl':e.ks.length<=4:=by rw [<- zdh];exact zcL O.files.ndk fc'.hn
   have hkl':=kal'.len O.files.ndk O.kept.nd
   have hq:=fc'.bud.uniq
   have mem:=zoB al' O.files.births.nd O.plain.nd kal' O.files.ndk O.kept.nd O.kept.nds
   have hq2:(uniq (zac e.u e.ku)).length<=B:=le_trans (zgg zeK λy hy=>zdS.mpr ((mem y).mpr (zdS.mp hy))) hq
   have hal:=zmb fc' al' kal' O.files.births.nd O.plain.nd O.files.ndk O.kept.nd O.kept.nds
   have hal2:(zac e.u e.ku).length<3000:=by
    have h1:zs.length*B<=4*50:=Nat.mul_le_mul zl hB
    have h2:HN.length=4:=rfl
    rw [h2] at hal
    omega
   simp_all only []
   refine ⟨e.p,e.b,e.k,e.d,a,e.t,e.u,e.ks,rfl,O.files.r,O.plain,by omega,λn=>by have:=fc'.bud.row n;omega,al',λH12 s12=>?_⟩
   try simp_all only []
   refine ⟨e.p,e.b,e.k,e.kd,a,M,e.t,e.ks,e.ku,rfl,O.files.same s12,O.kept.same s12,O.mkd,kal',by omega,λy hy=>⟨le_trans (fc'.bud.old y hy).1 hB,λm=>le_trans ((fc'.bud.old y hy).2 m) hB⟩,λH13 s13=>?_⟩
   have O13:=(O.same s12).same s13
   obtain ⟨dx13,e13⟩:=O13.files.ob
   simp_all only [e13,zsv]
   refine ⟨e.p,e.b,e.k,e.t,e.ks,rfl,O13.files,by omega,by omega,λl ns' H14 s14 _ el pm so=>?_⟩
   have O14:=O13.same s14
   try simp_all only []
   refine ⟨a,e.d,e.kd,_,e.u,e.ku,rfl,O14.plain,O14.kept,by omega,hal2,by omega,λl2 ns2 H15 s15 _ el2 pm2 so2=>?_⟩
   have e15:=s15 _ _ el
   have hns:ns'=ns2:=znT so so2 (pm.nodup_iff.mpr zeK) (pm2.nodup_iff.mpr zeK) λy=>by
    rw [pm.mem_iff,pm2.mem_iff,zdS,zdS];exact mem y
   subst hns
   simp_all only [e15,el2]
   refine ⟨zdz,zdz,?_⟩
   rw [zjr]
   simp_all only []
   exact ⟨⟨_,_,_,rfl⟩,(((sm.trans s12).trans s13).trans s14).trans s15⟩
  ·rintro σ H1 ⟨⟨t1,t2,t3,rfl⟩,sm⟩
   simp_all only []
   exact q H1 sm
end
abbrev zbo:Stmt:=top 41
theorem SqL.sm{K:Frag}{H H':Hp}{a:Addr}{xs:List V}(h:SqL K H a xs)(s:zg H H'):SqL K H' a xs:=by
 rcases h with (h|⟨o,h⟩)|h
 ·exact .inl (.inl (s _ _ h))
 ·exact .inl (.inr ⟨o,s _ _ h⟩)
 ·exact .inr h
def Dis(es:List Ent):Prop:=∀(i j:Nat)(e f:Ent),i≠j->es[i]?=some e->es[j]?=some f->∀x∈e.own,x∉f.own
theorem zQ.app{H H':Hp}{a d rl:Addr}{u:Tab}{xs:List V}(h:zQ H a d u)(s:But rl H H')(hr:H rl=some (.lst xs))(hx:∀l:List Int,xs≠l.map V.int):zQ H' a d u:=by
 obtain ⟨kvs,e,r⟩:=h.ex
 exact ⟨⟨kvs,s _ _ (λz=>by rw [z,hr] at e;cases e) e,r.imp λv l ⟨p,ev,hp,n⟩=>⟨p,ev,s _ _ (λz=>by rw [z,hr] at hp;injection hp with hp;injection hp with hp;exact hx l hp) hp,n⟩⟩,h.nd⟩
theorem z5.app{A:zh}{H H':Hp}{a rl:Addr}{M:List Addr}{zs:List Str}{B:Nat}{e:Ent}{xs:List V}(h:z5 A H a M zs B e)(s:But rl H H')(hr:H rl=some (.lst xs))(hx:∀l:List Int,xs≠l.map V.int):z5 A H' a M zs B e:=by
 have out:∀{c:Addr}{o:HO},H c=some o->(∀ys,o≠.lst ys)->H' c=some o:=λ{c o} e n=>s _ _ (λz=>by rw [z,hr] at e;exact n _ (Option.some.inj e).symm) e
 have O:=h.one
 obtain ⟨kv,ek,dk⟩:=O.kept.ex
 exact ⟨out h.tup (λ_ z=>HO.noConfusion z),⟨O.files.putX s hr .lst,O.plain.app s hr hx,⟨⟨kv,out ek (λ_ z=>HO.noConfusion z),dk.imp λv u ⟨q,ev,nX,pl⟩=>⟨q,ev,nX,pl.app s hr hx⟩⟩,O.kept.nd⟩,λc hc=>(O.av c hc).keep O.files (λ_ e=>out e (λ_ z=>HO.noConfusion z)) λe=>out e (λ_ z=>HO.noConfusion z),O.mb,O.mkk,O.md,O.mkd,O.ap⟩,h.al,h.kal,h.fc⟩
theorem z5.fr{A:zh}{H H':Hp}{a:Addr}{M N:List Addr}{zs:List Str}{B:Nat}{e:Ent}(h:z5 A H a M zs B e)(P:Pot H a)(D:Dcs H M)(s:zaC N H H')(sub:∀x∈N,x∈M)(dis:∀x∈N,x∉e.own):z5 A H' a M zs B e :=
 have n:∀{x},x∈e.own->x∉N:=λhx hn=>dis _ hn hx
 ⟨s _ _ (λz=>by obtain ⟨kv,ez⟩:=D _ (sub _ z);have:=h.tup;rw [ez] at this;cases this) h.tup,h.one.fr P D s sub (n (by simp [Ent.own])) (n (by simp [Ent.own])) (n (by simp [Ent.own])) (n (by simp [Ent.own])),h.al,h.kal,h.fc⟩
theorem zpX{c d:Prop} [Decidable c] [Decidable d] {X Y:Prop} (h : ¬ (c/\d)):(if c then (if d then X else Y) else Y)=Y:=by
 by_cases hc:c
 ·rw [if_pos hc,if_neg (λz=>h ⟨hc,z⟩)]
 ·rw [if_neg hc]
theorem znO{es:List Ent}{i:Nat}{e' f:Ent}(h:f∈es.set i e'):f=e'\/∃j,j≠i/\es[j]?=some f:=by
 obtain ⟨j,hj⟩:=List.getElem?_of_mem h
 by_cases z:j=i
 ·subst z
  rw [List.getElem?_set] at hj
  split at hj
  ·split at hj
   ·exact .inl (Option.some.inj hj).symm
   ·cases hj
  ·exact absurd rfl (by assumption)
 ·rw [getElem?_set_ne (Ne.symm z)] at hj
  exact .inr ⟨j,z,hj⟩
theorem Dis.set{es:List Ent}{i:Nat}{e e':Ent}(h:Dis es)(he:es[i]?=some e)(ho:e'.own=e.own):Dis (es.set i e'):=by
 have g:∀(j:Nat)(f:Ent),(es.set i e')[j]?=some f->∃f0:Ent,es[j]?=some f0/\f.own=f0.own:=λj f hf=>by
  by_cases z:j=i
  ·subst z
   have hlt:=(List.getElem?_eq_some_iff.mp he).1
   rw [getElem?_set_self hlt] at hf
   cases hf
   exact ⟨e,he,ho⟩
  ·rw [getElem?_set_ne (Ne.symm z)] at hf
   exact ⟨f,hf,rfl⟩
 intro i j f f' ne hf hf' x hx
 obtain ⟨f0,h0,o0⟩:=g i f hf
 obtain ⟨f1,h1,o1⟩:=g j f' hf'
 rw [o0] at hx
 rw [o1]
 exact h i j f0 f1 ne h0 h1 x hx
theorem zkB{es:List Ent}{i:Nat}{e e':Ent}(he:es[i]?=some e)(ht:e'.tp=e.tp):(es.set i e').map (λe=>V.ref e.tp)=es.map λe=>V.ref e.tp:=by
 rw [List.map_set,ht]
 obtain ⟨hlt,rfl⟩:=List.getElem?_eq_some_iff.mp he
 refine List.ext_getElem? λj=>?_
 by_cases z:j=i
 ·subst z
  rw [getElem?_set_self (by rw [length_map];exact hlt),getElem?_map,List.getElem?_eq_getElem hlt];rfl
 ·rw [getElem?_set_ne (Ne.symm z)]
theorem zhr{es:List Ent}(h:es≠[])(l:List Int):es.map (λe=>V.ref e.tp)≠l.map V.int:=λz=>by
 cases es with
 | nil=>exact h rfl
 | cons e es =>
  cases l with
  | nil=>cases z
  | cons x l=>rw [map_cons,map_cons] at z;injection z with z;cases z
section
variable {P:Program}{w:World}{K:Frag}{mg:Str->Option Value}{base:Heap}{A:zh}
structure LwI(H0:Hp)(sc:Addr)(i:Nat)(σ:L2.St)(H':Hp):Prop where
 ex:∃t1 t2 t3 t4 t5 t6 t7 t8 t9,σ=[some (.ref sc),t1,t2,t3,t4,t5,t6,t7,t8,t9]
 same:zg H0 H'
structure InI(A:zh)(H0:Hp)(sc:Addr)(kk:Int)(a nl rl:Addr)(zs:List Str)(i:Nat)(σ:L2.St)(H':Hp):Prop where
 ex:∃t5 t6 t7 t8 t9,σ=[some (.ref sc),some (.int kk),some (.ref a),some (.ref nl),some (.ref rl),t5,t6,t7,t8,t9]
 pot:Pot H' a
 nl:H' nl=some (.lst (zs.map V.str))
 ent:∃(M:List Addr)(es:List Ent),H' rl=some (.lst (es.map λe=>V.ref e.tp))/\es≠[]/\es.length<=5/\(∀e∈es,z5 A H' a M zs i e)/\Dcs H' M/\Dis es/\(∀c∈M,H0 c=none)
 same:zg H0 H'
theorem InI.up{A:zh}{H0 H' H'':Hp}{sc a nl rl:Addr}{kk:Int}{zs:List Str}{i:Nat}{σ:L2.St}(I:InI A H0 sc kk a nl rl zs i σ H')(s:zg H' H''):InI A H0 sc kk a nl rl zs i σ H'' :=
 let ⟨M,es,h1,h2,h3,h4,h5,h6,h7⟩:=I.ent;⟨I.ex,I.pot.same s,s _ _ I.nl,⟨M,es,s _ _ h1,h2,h3,λe he=>(h4 e he).same s,h5.same s,h6,h7⟩,I.same.trans s⟩
def zen(K:Frag):Sp:=λvs H Q _=>∃(a:Addr)(ns:List Int),vs=[.ref a]/\SqL K H a (ns.map V.int)/\ns.length<=63/\∀H',Q (.bl true) H'
theorem zbc:zG ["_law_script","_law_k","_law_pot_here","_law_names_here","_law_row","_law_turn","_law_files","_law_model","_law_kept","_law_deed_here"] ["_law_script"] (zj zbo):=⟨rfl,rfl,rfl,f!"",rfl,f!"",f!""⟩
theorem zmh{f:Addr}{fd:FuncData}(F:Fun K "law" "law" zbo f fd)(T:Txt K mg A)(Gp:GF P w K mg base true 2 "_law_pot" ["_law_script","_law_k"] (zgW K))(Gq:GF P w K mg base true 4 "_law_names" ["_law_pot_here"] zgt)(Ge:GC P w K mg base true 1 "Files" A.Files ["self"] (zdX A))(Gb:GF P w K mg base true 1 "_law_take" ["_law_pot_here","_law_many"] zbb)(Gc:GF P w K mg base true 2 "_law_drawn" ["_law_pot_here","_law_some"] zcm)(Gr:GF P w K mg base true 4 "_law_deed" ["_law_pot_here","_law_names_here","_law_model"] ze1)(Gs:GF P w K mg base true 6 "_law_told" ["_law_files","_law_deed_here"] (zg3 A))(Gu:GF P w K mg base true 2 "_law_due" ["_law_model","_law_kept","_law_deed_here"] zfG)(Gv:GF P w K mg base true 5 "_law_more" ["_law_pot_here","_law_row"] (zgm A))(Gw:GF P w K mg base true 7 "_law_all_so" ["_law_row"] (zfC A)):zt P w K mg base CX0 true 9 f fd ["_law_script"] (zen K):=by
 refine F.ok zbc (λvs H Q E h=>?_) (λcdv Ar outer s H vs Q E hr h=>?_)
 ·obtain ⟨a,ns,rfl,_⟩:=h;rfl
 ·obtain ⟨sc,ns,rfl,hS,hl,q⟩:=h
  have hu:_<cLine:=lt_of_succ_lt (zP hr)
  refine ⟨_,(W.h (zo (zcp PassesOwn.never (λ_=>rfl) (zdy rfl T.n_range (zb (zI (zhx rfl) rfl T.n_max boot_max (zb zq (zb (zI (zoE rfl) rfl T.n_min boot_min (zb (zI zge rfl T.n_len PySem.boot_len (zb (za 0) zd)) (zb zq zd))) zd))) zd)) (zU (i:=1) zbc.nd rfl (Or.inl rfl))
   (zo (zY (i:=2) zbc.nd rfl (Or.inl rfl) (zH Gp hr rfl (zb (za 0) (zb (za 1) zd))))
   (zo (zY (i:=3) zbc.nd rfl (Or.inl rfl) (zH Gq hr rfl (zb (za 2) zd)))
   (zo (zY (i:=4) zbc.nd rfl (Or.inl rfl) (zag (zb (zbj (zb (ziz Ge hr rfl) (zb zdt (zb zdt zd)))) zd)))
   (zm (zcp PassesOwn.never (λ_=>rfl) (zdy rfl T.n_range (zb (zK zan zq (zH Gb hr rfl (zb (za 2) (zb zq zd)))) zd)) (zU (i:=5) zbc.nd rfl (Or.inl rfl))
   (zo (zfq (zS (zct (zfA (zV (zbv hu) (zH Gb hr rfl (zb (za 2) (zb zq zd))) zq (zaa _)) (zgV (zV zdM (zI zck rfl T.n_len PySem.boot_len (zb (za 4) zd)) zq (zaa _)))))
   (zm (zaW (zhA (za 4) (zH Gv hr rfl (zb (za 2) (zb (za 4) zd))))))
   (zo (za4 (zH Gc hr rfl (zb (za 2) (zb (za 4) zd))) (zc8 (n:=3) (zav (zU (i:=6) zbc.nd rfl (Or.inl rfl)) (zav (zU (i:=7) zbc.nd rfl (Or.inl rfl)) (zav (zU (i:=8) zbc.nd rfl (Or.inl rfl)) zcY)))))
   (zo (zY (i:=9) zbc.nd rfl (Or.inl rfl) (zH Gr hr rfl (zb (za 2) (zb (za 3) (zb (za 7) zd)))))
   (zm (zS (zV (zbX hu) (zH Gs hr rfl (zb (za 6) (zb (za 9) zd))) (zH Gu hr rfl (zb (za 7) (zb (za 8) (zb (za 9) zd)))) (zaa _))
   (zm (zx za1))
   z6))))))
   (zm (zS (zb2 (zcr (zH Gw hr rfl (zb (za 4) zd))))
   (zm (zx za1))
   z6)))))))))
   (zm (zx za1)))),?_⟩
  simp_all only []
  refine ⟨_,.inl hS,?_⟩
  rw [length_map]
  have hN:∃N:Nat,(if (if 4<(ns.length:Int) then 4 else (ns.length:Int))>1 then if 4<(ns.length:Int) then 4 else (ns.length:Int) else 1)=(N:Int)/\N<=4:=by
   by_cases h1:4<(ns.length:Int)
   ·rw [if_pos h1];exact ⟨4,rfl,by decide⟩
   ·rw [if_neg h1]
    split
    ·exact ⟨ns.length,rfl,by omega⟩
    ·exact ⟨1,rfl,by decide⟩
  obtain ⟨N,eN,hN3⟩:=hN
  rw [eN,Int.toNat_natCast]
  refine ⟨by omega,by omega,zaw.rng (LwI H sc) ⟨⟨_,_,_,_,_,_,_,_,_,rfl⟩,zg.refl _⟩ ?_ ?_⟩
  ·rintro i σ H0 hi ⟨⟨t1,t2,t3,t4,t5,t6,t7,t8,t9,rfl⟩,s0⟩
   have ej:(0+(i:Int))=((i:Nat):Int):=by omega
   simp_all only [ej]
   refine ⟨sc,ns,i,rfl,SqL.sm hS s0,by omega,λa H1 s1 a0 hP1=>?_⟩
   try simp_all only []
   refine ⟨a,rfl,hP1,λnl zs H2 b2 P2 n2 hnl zl zne=>?_⟩
   try simp_all only []
   refine λp dxp H3 nI=>⟨p,dxp,rfl,nI.at_,λb k H4 s4 nb nk eb ek nbk ex=>⟨rfl,λd H5 n5 kd H6 n6=>?_⟩⟩
   refine ⟨by decide,λtp H7 n7=>⟨by decide,λrl H8 n8 _=>?_⟩⟩
   have k24:zg H2 H4:=λc o e=>s4 _ _ (zM e nI.no) (nI.same _ _ e)
   have s68:zg H6 H8:=n7.same.trans n8.same
   have s48:zg H4 H8:=(n5.same.trans n6.same).trans s68
   have s28:zg H2 H8:=k24.trans s48
   have P8:Pot H8 a:=P2.same s28
   have ne3:∀{c:Addr}{o:HO},H4 c=some o->d≠c:=λ{c o} e z=>by have:=n5.no;rw [z,e] at this;cases this
   have ne4:∀{c:Addr}{o:HO},H5 c=some o->kd≠c:=λ{c o} e z=>by have:=n6.no;rw [z,e] at this;cases this
   have F8:zr A H8 p b k [] []:=zr.same ⟨⟨dxp,ex⟩,⟨⟨[],eb,.nil⟩,by simp [names]⟩,⟨[],ek,.nil⟩,by simp [names],nbk⟩ s48
   have noav:∀c,zO A H8 k c:=λc kvs hk pv hpv=>by
    rw [s48 _ _ ek] at hk
    cases hk
    cases hpv
   have O8:zaI A H8 a [b,k,d,kd] p d kd b k [] [] [] []:=⟨F8,⟨⟨[],s68 _ _ (n6.same _ _ n5.at_),.nil⟩,by simp [names]⟩,⟨⟨[],s68 _ _ n6.at_,.nil⟩,by simp [names]⟩,λc _=>noav c,by simp,by simp,by simp,by simp,ne3 eb,ne3 ek,ne4 (n5.same _ _ eb),ne4 (n5.same _ _ ek),(ne4 n5.at_).symm⟩
   have D8:Dcs H8 [b,k,d,kd]:=λx hx=>by
    simp only [mem_cons,not_mem_nil,or_false] at hx
    rcases hx with rfl|rfl|rfl|rfl
    ·exact ⟨_,s48 _ _ eb⟩
    ·exact ⟨_,s48 _ _ ek⟩
    ·exact ⟨_,s68 _ _ (n6.same _ _ n5.at_)⟩
    ·exact ⟨_,s68 _ _ n6.at_⟩
   have fc0:Fct zs [] [] 0:=⟨⟨le_refl _,λn=>by simp [lk,look],⟨[],le_refl _,λy hy=>by simp [zac,zw] at hy⟩,λn l e=>by simp [look] at e,λp hp=>by cases hp⟩,λm hm=>by simp [names] at hm,(λp hp=>by cases hp),λm hm=>by simp [names] at hm⟩
   have E8:z5 A H8 a [b,k,d,kd] zs 0 ⟨tp,p,d,kd,b,k,[],[],[],[]⟩:=⟨n8.same _ _ n7.at_,O8,λ_=>rfl,λ_=>.inr ⟨rfl,rfl⟩,fc0⟩
   have nla:nl≠a:=hP1.ne n2
   have rla:rl≠a:=(P2.same (k24.trans ((n5.same.trans n6.same).trans n7.same))).ne n8.no
   have nlrl:nl≠rl:=λz=>by have:=n8.no;rw [<- z,n7.same _ _ (n6.same _ _ (n5.same _ _ (k24 _ _ hnl)))] at this;cases this
   have free0:∀c,H2 c=none->c≠a->H0 c=none:=λc h n=>s1.free (b2.free h n)
   have M0:∀c∈[b,k,d,kd],H0 c=none:=λc hc=>by
    simp only [mem_cons,not_mem_nil,or_false] at hc
    have fr:∀x,H2 x=none->H0 x=none:=λx h=>free0 x h (P2.ne h)
    rcases hc with rfl|rfl|rfl|rfl
    ·exact fr _ (nI.same.free nb)
    ·exact fr _ (nI.same.free nk)
    ·exact fr _ (k24.free n5.no)
    ·exact fr _ (k24.free (n5.same.free n6.no))
   refine ⟨a,35,rfl,P8,by decide,by decide,λr H9 b9 P9 r0 r1=>?_⟩
   have same0:zg H0 H9:=λc o e=>by
    have ca:=zM e a0
    exact b9 _ _ ca (s28 _ _ (b2 _ _ ca (s1 _ _ e)))
   have rl0:H0 rl=none:=free0 rl (k24.free (((n5.same.trans n6.same).trans n7.same).free n8.no)) rla
   simp_all only []
   refine ⟨by omega,by omega,zaw.rng (InI A H0 sc i a nl rl zs) ⟨⟨_,_,_,_,_,rfl⟩,P9,b9 _ _ nla (s28 _ _ hnl),⟨[b,k,d,kd],[⟨tp,p,d,kd,b,k,[],[],[],[]⟩],b9 _ _ rla n8.at_,by simp,by simp,λe he=>by simp only [mem_cons,not_mem_nil,or_false] at he;subst he;exact E8.pot b9 P8,D8.pot b9 P8,λi j e f ne hi hj=>?_,M0⟩,same0⟩ ?_ ?_⟩
   ·have h1:=(List.getElem?_eq_some_iff.mp hi).1
    have h2:=(List.getElem?_eq_some_iff.mp hj).1
    simp only [length_cons,length_nil] at h1 h2
    omega
   ·rintro j σ H10 hj ⟨⟨t5,t6,t7,t8,t9,rfl⟩,P10,hnl10,⟨M,es,hrl,ene,el,he,DM,dis,mz⟩,s010⟩
    simp_all only [zgI]
    refine ⟨InI A H0 sc i a nl rl zs (j+1),?_,?_⟩
    ·try simp_all only []
     refine ⟨a,4,rfl,P10,by decide,by decide,λr2 H11 b11 P11 r20 r21=>?_⟩
     have hrl11:=b11 _ _ rla hrl
     have he11:∀e∈es,z5 A H11 a M zs j e:=λe h=>(he e h).pot b11 P10
     have DM11:=DM.pot b11 P10
     have hnl11:=b11 _ _ nla hnl10
     have s011:zg H0 H11:=λc o e=>b11 _ _ (zM e a0) (s010 _ _ e)
     simp_all only [hrl11]
     by_cases hc:decide (r2=3)=true/\decide (((es.map λe=>V.ref e.tp).length:Int)<5)=true
     ·rw [if_pos hc.1,if_pos hc.2]
      have hl5:=of_decide_eq_true hc.2
      rw [length_map] at hl5
      refine ⟨a,rl,M,zs,j,es,rfl,P11,hrl11,ene,by omega,he11,DM11,by omega,λe H12 b12 P12 nw E12 he12 DM12=>?_⟩
      have hrl12:=b12 _ _ rla hrl11
      refine ⟨_,hrl12,by rw [length_map];exact zdE (by omega),⟨⟨_,_,_,_,_,rfl⟩,?_,?_,⟨M++e.own,es++[e],?_,by simp,by rw [length_append];show es.length+1<=5;omega,λg hg=>?_,λx hx=>?_,λi1 i2 g g' ne h1 h2 x hx hx'=>?_,λc hcm=>?_⟩,λc o e0=>?_⟩⟩
      ·obtain ⟨x,y,ea,rr⟩:=P12.ex
       exact ⟨⟨x,y,by rw [ze rla.symm];exact ea,rr⟩⟩
      ·rw [ze nlrl];exact b12 _ _ nla hnl11
      ·rw [zp,map_append];rfl
      ·rcases mem_append.mp hg with hg|hg
       ·exact ((he12 g hg).app But.upd hrl12 (zhr ene)).up
       ·have:g=e:=by simpa using hg
        subst this
        exact (E12.app But.upd hrl12 (zhr ene)).up
      ·obtain ⟨kv,ex⟩:=DM12 x hx
       exact ⟨kv,by rw [ze (λz=>by rw [z,hrl12] at ex;cases ex)];exact ex⟩
      ·have old:∀{i:Nat}{g:Ent},(es++[e])[i]?=some g->(es[i]?=some g)\/(i=es.length/\g=e):=λ{i g} h=>by
        by_cases hi:i<es.length
        ·rw [List.getElem?_append_left hi] at h;exact .inl h
        ·rw [List.getElem?_append_right (by omega)] at h
         have h3:=(List.getElem?_eq_some_iff.mp h).1
         simp only [length_cons,length_nil] at h3
         have h4:i=es.length:=by omega
         rw [h4,Nat.sub_self] at h
         exact .inr ⟨h4,(Option.some.inj h).symm⟩
       have inM:∀{i:Nat}{g:Ent},es[i]?=some g->∀x∈g.own,H11 x≠none:=λ{i g} h x hx z=>by
        have O:=(he11 g (mem_of_getElem? h)).one
        have:x∈M:=by
         simp only [Ent.own,mem_cons,not_mem_nil,or_false] at hx
         rcases hx with rfl|rfl|rfl|rfl
         ·exact O.mb
         ·exact O.mkk
         ·exact O.md
         ·exact O.mkd
        obtain ⟨kv,ex⟩:=DM11 x this
        rw [ex] at z;cases z
       rcases old h1 with g1|⟨g1,rfl⟩
       ·rcases old h2 with g2|⟨g2,rfl⟩
        ·exact dis i1 i2 g g' ne g1 g2 x hx hx'
        ·exact inM g1 x hx (nw x hx')
       ·rcases old h2 with g2|⟨g2,rfl⟩
        ·exact inM g2 x hx' (nw x hx)
        ·exact ne (by rw [g1,g2])
      ·rcases mem_append.mp hcm with hcm|hcm
       ·exact mz c hcm
       ·exact s011.free (nw c hcm)
      ·rw [ze (zM e0 rl0)]
       exact b12 _ _ (zM e0 a0) (s011 _ _ e0)
     ·rw [zpX hc]
      have epos:=length_pos_iff.mpr ene
      refine ⟨a,P11,.inl ⟨rl,_,rfl,rla,.inl hrl11,by rw [length_map];exact epos,by rw [length_map];omega,λv H12 hv b12 P12=>?_⟩⟩
      obtain ⟨e,hem,rfl⟩:=mem_map.mp hv
      obtain ⟨ix,hix⟩:=List.getElem?_of_mem hem
      have he12:∀e∈es,z5 A H12 a M zs j e:=λe h=>(he11 e h).pot b12 P11
      have E12:=he12 e hem
      have DM12:=DM11.pot b12 P11
      have hrl12:=b12 _ _ rla hrl11
      have hnl12:=b12 _ _ nla hnl11
      have s012:zg H0 H12:=λc o e=>b12 _ _ (zM e a0) (s011 _ _ e)
      refine ⟨e.tp,_,rfl,SqT.of E12.tup,rfl,?_⟩
      have al:=E12.al
      have kal:=E12.kal
      have fc:=E12.fc
      have O:=E12.one
      have lu:∀n,lk e.u n=lk e.t n:=λn=>by unfold lk;rw [al n]
      have hul:=zgo al O.files.births.nd O.plain.nd
      have hkl:=kal.len O.files.ndk O.kept.nd
      have tl:=fc.bud.few
      have kl:e.ks.length<=4:=by rw [<- zdh];exact zcL O.files.ndk fc.hn
      obtain ⟨a1,a2,a3,a4,a5⟩:=O.ap
      simp_all only []
      refine ⟨a,nl,e.d,e.u,zs,rfl,P12,hnl12,zne,zl,O.plain,λn=>by rw [lu];have:=fc.bud.row n;omega,λg w n i' x H13 b13 P13 hg ok hput=>?_⟩
      have he13:∀e∈es,z5 A H13 a M zs j e:=λe h=>(he12 e h).pot b13 P12
      have O13:=(he13 e hem).one
      have D13:=DM12.pot b13 P12
      have hrl13:=b13 _ _ rla hrl12
      have hnl13:=b13 _ _ nla hnl12
      have s013:zg H0 H13:=λc o e=>b13 _ _ (zM e a0) (s012 _ _ e)
      try simp_all only []
      refine ⟨e.p,e.b,e.k,g,e.t,e.ks,w,n,i',x,rfl,O13.files,hg,ok,λn=>by have:=fc.bud.row n;omega,by omega,by omega,λH14 b14 F14 av14=>?_⟩
      have st:=zqa (x:=x) al kal O.files.births.nd ok fc.bud.ne
      have fc':=fc.step (x:=x) O.files.births.nd ok hput
      obtain ⟨⟨kvb,eb13⟩,kvk,ek13⟩:=O13.files.dicts
      obtain ⟨kvd,ed13⟩:=D13 e.d O.md
      obtain ⟨kvkd,ekd13⟩:=D13 e.kd O.mkd
      have hX:∀y∈[e.b,e.k],∃kvs,H13 y=some (.dK kvs):=λy hy=>by
       simp only [mem_cons,not_mem_nil,or_false] at hy
       rcases hy with rfl|rfl
       ·exact ⟨_,eb13⟩
       ·exact ⟨_,ek13⟩
      have sub2:∀y∈[e.b,e.k],y∈M:=λy hy=>by
       simp only [mem_cons,not_mem_nil,or_false] at hy
       rcases hy with rfl|rfl
       ·exact O.mb
       ·exact O.mkk
      have sub3:∀y∈[e.d,e.kd],y∈M:=λy hy=>by
       simp only [mem_cons,not_mem_nil,or_false] at hy
       rcases hy with rfl|rfl
       ·exact O.md
       ·exact O.mkd
      have own2:∀y∈[e.b,e.k],y∈e.own:=λy hy=>by
       simp only [mem_cons,not_mem_nil,or_false] at hy
       rcases hy with rfl|rfl<;>simp [Ent.own]
      have own3:∀y∈[e.d,e.kd],y∈e.own:=λy hy=>by
       simp only [mem_cons,not_mem_nil,or_false] at hy
       rcases hy with rfl|rfl<;>simp [Ent.own]
      have ndb:e.d∉[e.b,e.k]:=by simp only [mem_cons,not_mem_nil,or_false,not_or];exact ⟨a1,a2⟩
      have nkb:e.kd∉[e.b,e.k]:=by simp only [mem_cons,not_mem_nil,or_false,not_or];exact ⟨a3,a4⟩
      have sL:zaC (a::[e.b,e.k]) H13 H14:=λc o n e=>b14 c o (λz=>n (mem_cons_of_mem _ z)) e
      have PL14:=O13.plain.butL sL hX ndb (P13.ned ed13)
      have KP14:=O13.kept.butL sL P13 hX sub2 nkb
      have out14:∀{c:Addr}{o:HO},H13 c=some o->(∀kv,o≠.dK kv)->H14 c=some o:=λ{c o} e ne=>b14 _ _ (λz=>by
       obtain ⟨kv,ez⟩:=hX c z
       rw [e] at ez
       exact ne _ (Option.some.inj ez)) e
      have P14:Pot H14 a:=let ⟨x,y,ea,rr⟩:=P13.ex;⟨⟨x,y,out14 ea (λ_ z=>HO.noConfusion z),rr⟩⟩
      have hg14:=out14 hg (λ_ z=>HO.noConfusion z)
      obtain ⟨⟨kvb0,eb14⟩,kvk0,ek14⟩:=F14.dicts
      have D14:Dcs H14 M:=λy hy=>by
       by_cases z1:y=e.b
       ·subst z1;exact ⟨_,eb14⟩
       ·by_cases z2:y=e.k
        ·subst z2;exact ⟨_,ek14⟩
        ·obtain ⟨kv,ey⟩:=D13 y hy
         exact ⟨kv,b14 _ _ (by simp only [mem_cons,not_mem_nil,or_false,not_or];exact ⟨z1,z2⟩) ey⟩
      have oth14:∀i2 f,i2≠ix->es[i2]?=some f->z5 A H14 a M zs j f:=λi2 f ne hf=>(he13 f (mem_of_getElem? hf)).fr P13 D13 b14 sub2 λx hx=>dis ix i2 e f (Ne.symm ne) hix hf x (own2 x hx)
      try simp_all only []
      refine ⟨a,e.d,e.kd,g,M,e.u,e.ku,w,n,i',x,rfl,P14,PL14,KP14,D14,O.md,O.mkd,a5,hg14,ok,λn=>by rw [lu];have:=fc.bud.row n;omega,by omega,by omega,λH15 b15 PL15 KP15 D15=>?_⟩
      rw [st.1]
      simp_all only []
      rw [if_neg (by simp)]
      have ndp:∀y∈M,H13 y≠none:=λy hy z=>by obtain ⟨kv,ey⟩:=D13 y hy;rw [ey] at z;cases z
      obtain ⟨F15,av15⟩:=F14.fr b15 (D14.hull sub3) (by simp only [mem_cons,not_mem_nil,or_false,not_or];exact ⟨a1.symm,a3.symm⟩) (by simp only [mem_cons,not_mem_nil,or_false,not_or];exact ⟨a2.symm,a4.symm⟩) λc hc=>av14 c (ndp c (sub3 c hc)) (O13.av c (sub3 c hc))
      have out15:∀{c:Addr}{o:HO},H14 c=some o->(∀kv,o≠.dK kv)->H15 c=some o:=λ{c o} e ne=>b15 _ _ (λz=>by
       obtain ⟨kv,ez⟩:=D14 c (sub3 c z)
       rw [e] at ez
       exact ne _ (Option.some.inj ez)) e
      have O15:zaI A H15 a M e.p e.d e.kd e.b e.k _ _ _ _:=⟨F15,PL15,KP15,λc hc=>av15 c (av14 c (ndp c hc) (O13.av c hc)),O.mb,O.mkk,O.md,O.mkd,O.ap⟩
      have tup15:=out15 (out14 (he13 e hem).tup (λ_ z=>HO.noConfusion z)) (λ_ z=>HO.noConfusion z)
      have E15:z5 A H15 a M zs (j+1) { e with t:=(zW e.t e.ks w n i' x).2.1,u:=(zai e.u e.ku w n i' x).2.1,ks:=(zW e.t e.ks w n i' x).2.2,ku:=(zai e.u e.ku w n i' x).2.2 }:=⟨tup15,O15,st.2.1,st.2.2,fc'⟩
      refine ⟨⟨_,_,_,_,_,rfl⟩,let ⟨x,y,ea,rr⟩:=P14.ex;⟨⟨x,y,out15 ea (λ_ z=>HO.noConfusion z),rr⟩⟩,out15 (out14 hnl13 (λ_ z=>HO.noConfusion z)) (λ_ z=>HO.noConfusion z),⟨M,es.set ix { e with t:=(zW e.t e.ks w n i' x).2.1,u:=(zai e.u e.ku w n i' x).2.1,ks:=(zW e.t e.ks w n i' x).2.2,ku:=(zai e.u e.ku w n i' x).2.2 },?_,?_,by rw [List.length_set];exact el,λf hf=>?_,D15,dis.set hix rfl,mz⟩,λc o e0=>?_⟩
      ·rw [zkB (e':={ e with t:=(zW e.t e.ks w n i' x).2.1,u:=(zai e.u e.ku w n i' x).2.1,ks:=(zW e.t e.ks w n i' x).2.2,ku:=(zai e.u e.ku w n i' x).2.2 }) hix rfl]
       exact out15 (out14 hrl13 (λ_ z=>HO.noConfusion z)) (λ_ z=>HO.noConfusion z)
      ·intro z
       have:=congrArg length z
       rw [List.length_set,length_nil] at this
       omega
      ·rcases znO hf with rfl|⟨i2,ne,hf⟩
       ·exact E15
       ·exact ((oth14 i2 f ne hf).fr P14 D14 b15 sub3 λx hx=>dis ix i2 e f (Ne.symm ne) hix hf x (own3 x hx)).up
      ·have m0:∀y∈M,c≠y:=λy hy=>zM e0 (mz y hy)
       exact b15 _ _ (λz=>m0 c (sub3 c z) rfl) (b14 _ _ (λz=>m0 c (sub2 c z) rfl) (s013 _ _ e0))
    ·rintro σ' H11 I
     obtain ⟨t5,t6,t7,t8,t9,rfl⟩:=I.ex
     obtain ⟨M',es',hrl',ene',el',he',DM',dis',mz'⟩:=I.ent
     simp_all only []
     refine ⟨a,rl,M',zs,j+1,es',rfl,hrl',he',zl,by omega,λH12 s12=>?_⟩
     try simp_all only []
     exact I.up s12
   ·rintro σ H10 ⟨⟨t5,t6,t7,t8,t9,rfl⟩,_,_,_,s010⟩
    exact ⟨⟨_,_,_,_,_,_,_,_,_,rfl⟩,s0.trans s010⟩
  ·rintro σ H1 ⟨⟨t1,t2,t3,t4,t5,t6,t7,t8,t9,rfl⟩,s1⟩
   simp_all only []
   exact q H1
end
theorem all_mk{l:OpenLaw}{w:World}{K:Frag}{h:Heap}{mg:Str->Option Value}{fa:Addr}{x9 xL xk yo xc x8 x4 x3 x5 xf xl xm yp xa xb xn xg x6 f_0 f_1 f_2 f_3 f_4 f_5 f_6 f_7 f_8 f_9 uI uJ uL uM uO uP uQ uT vy vz vA vB vC vD vE vF vG vH vI vJ vK vL vM vN vO vP:Addr}{x36 x37 x38 x39 x3a x3b x3c x3d x3e x3f x3g x3h x3i x3j x3k x3l x3m x3n x3o x3p vV vW vX vY vZ q5 q9 qc qd qf qg qh qi qj ql qm qo qp qq qr qt qu qw qx qy qz qA qB qC qD qE qF qG qH qI qJ qK qL qM qN qO qP qQ qR qS qT qU qV qW qX qY uX:Option Addr}{x3q x3r x3s x3t x3u x3v x3w x3x x3y x3z qZ x00 x01 x02 x03 x04 x05 x06 x07 x08 x09 x0a x0b x0c x0d x0e x0f x0g x0h x0i x0j x0k x0l x0m x0n x0o:Array (Option Value)}{x3A x3B x3C x3D x0p x3E x3F x3G x3H x3I x0q x3J x3K x3L x3M x3N x0r x3O x3P x3Q x3R x3S x0s x3T x3U x3V x3W x3X x0t x3Y x3Z x40 x41 x42 x0u x43 x44 x45 x46 x47 x0v x48 x49 x4a x4b x4c x0w x4d x4e x4f x4g x4h x0x x4i x4j x4k x4l x4m x0y x4n x0z x0A x0B x0C uY x0D x0E x0F x0G x0H uZ x0I x0J x0K x0L x0M v0 x0N x0O x0P x0Q x0R v3 x0S x0T x0U x0V x0W v4 x0X x0Y x0Z x10 x11 v5 x12 x13 x14 x15 x16 v6 x17 x18 x19 x1a x1b v7 x1c x1d x1e x1f x1g v8 x1h x1i x1j x1k x1l v9 x1m x1n x1o x1p x1q va x1r x1s x1t x1u x1v vb x1w x1x x1y x1z x1A vc x1B x1C x1D x1E x1F vd x1G x1H x1I x1J x1K ve x1L x1M x1N x1O x1P vf x1Q x1R x1S x1T x1U vg x1V x1W x1X x1Y x1Z vh x20 x21 x22 x23 x24 vi x25 x26 x27 x28 x29 vj x2a x2b x2c x2d x2e vk x2f x2g x2h x2i x2j vm x2k x2l x2m x2n x2o vn x2p x2q x2r x2s x2t vo x2u x2v x2w x2x x2y vp x2z x2A vq vt vw uu vx:Value}(X:K.In h)(G:h.Ns mainGlobals mg)(hfa:mg "law"=some (.ref fa))
  (yS:nsIn K mainGlobals "CleanError"=some (some (.ref x9)))
  (uU:nsIn K mainGlobals "NoRow"=some (some (.ref xL)))
  (uv:nsIn K mainGlobals "NoDisk"=some (some (.ref xk)))
  (vQ:nsIn K mainGlobals "Full"=some (some (.ref yo)))
  (ug:nsIn K mainGlobals "Stopped"=some (some (.ref xc)))
  (uw:nsIn K mainGlobals "NoFile"=some (some (.ref x8)))
  (uh:nsIn K mainGlobals "NoPlace"=some (some (.ref x4)))
  (yP:nsIn K mainGlobals "HeldAlready"=some (some (.ref x3)))
  (ui:nsIn K mainGlobals "NotHeld"=some (some (.ref x5)))
  (uj:nsIn K mainGlobals "NoFiles"=some (some (.ref xf)))
  (ux:nsIn K mainGlobals "NoMark"=some (some (.ref xl)))
  (uy:nsIn K mainGlobals "NoRoom"=some (some (.ref xm)))
  (vR:nsIn K mainGlobals "Gone"=some (some (.ref yp)))
  (yV:nsIn K mainGlobals "NotClosed"=some (some (.ref xa)))
  (u0:nsIn K mainGlobals "NotBlank"=some (some (.ref xb)))
  (uz:nsIn K mainGlobals "NoDeed"=some (some (.ref xn)))
  (uk:nsIn K mainGlobals "NoHouse"=some (some (.ref xg)))
  (uf:nsIn K mainGlobals "Files"=some (some (.ref x6)))
  (a_0:nsIn K mainGlobals "is_whole"=some (some (.ref f_0)))
  (l_0:K.lookup f_0=some ⟨x3A,x36,.func (fnOf "is_whole" "is_whole" (zF zcC) (zz zcC) (zj zcC) .none x3B x3C x3D x37 x0p x3E),x3q⟩)
  (d_0:codeIn K x0p "is_whole"=true)
  (k_0:keepIn K (.ref f_0)=true)
  (a_1:nsIn K mainGlobals "is_within"=some (some (.ref f_1)))
  (l_1:K.lookup f_1=some ⟨x3F,x38,.func (fnOf "is_within" "is_within" (zF zdd) (zz zdd) (zj zdd) .none x3G x3H x3I x39 x0q x3J),x3r⟩)
  (d_1:codeIn K x0q "is_within"=true)
  (k_1:keepIn K (.ref f_1)=true)
  (a_2:findIn K (.ref x6) "__init__"=some (some (.ref f_2)))
  (i_2:isFn K (.ref f_2)=true)
  (l_2:K.lookup f_2=some ⟨x3K,x3a,.func (fnOf "__init__" "Files.__init__" (zF zc6) (zz zc6) (zj zc6) .none x3L x3M x3N x3b x0r x3O),x3s⟩)
  (d_2:codeIn K x0r "Files.__init__"=true)
  (k_2:keepIn K (.ref f_2)=true)
  (a_3:findIn K (.ref x6) "names"=some (some (.ref f_3)))
  (i_3:isFn K (.ref f_3)=true)
  (l_3:K.lookup f_3=some ⟨x3P,x3c,.func (fnOf "names" "Files.names" (zF zcy) (zz zcy) (zj zcy) .none x3Q x3R x3S x3d x0s x3T),x3t⟩)
  (d_3:codeIn K x0s "Files.names"=true)
  (k_3:keepIn K (.ref f_3)=true)
  (a_4:findIn K (.ref x6) "many"=some (some (.ref f_4)))
  (i_4:isFn K (.ref f_4)=true)
  (l_4:K.lookup f_4=some ⟨x3U,x3e,.func (fnOf "many" "Files.many" (zF zcR) (zz zcR) (zj zcR) .none x3V x3W x3X x3f x0t x3Y),x3u⟩)
  (d_4:codeIn K x0t "Files.many"=true)
  (k_4:keepIn K (.ref f_4)=true)
  (a_5:findIn K (.ref x6) "birth"=some (some (.ref f_5)))
  (i_5:isFn K (.ref f_5)=true)
  (l_5:K.lookup f_5=some ⟨x3Z,x3g,.func (fnOf "birth" "Files.birth" (zF zb8) (zz zb8) (zj zb8) .none x40 x41 x42 x3h x0u x43),x3v⟩)
  (d_5:codeIn K x0u "Files.birth"=true)
  (k_5:keepIn K (.ref f_5)=true)
  (a_6:findIn K (.ref x6) "put"=some (some (.ref f_6)))
  (i_6:isFn K (.ref f_6)=true)
  (l_6:K.lookup f_6=some ⟨x44,x3i,.func (fnOf "put" "Files.put" (zF zcc) (zz zcc) (zj zcc) .none x45 x46 x47 x3j x0v x48),x3w⟩)
  (d_6:codeIn K x0v "Files.put"=true)
  (k_6:keepIn K (.ref f_6)=true)
  (a_7:findIn K (.ref x6) "cut"=some (some (.ref f_7)))
  (i_7:isFn K (.ref f_7)=true)
  (l_7:K.lookup f_7=some ⟨x49,x3k,.func (fnOf "cut" "Files.cut" (zF zbZ) (zz zbZ) (zj zbZ) .none x4a x4b x4c x3l x0w x4d),x3x⟩)
  (d_7:codeIn K x0w "Files.cut"=true)
  (k_7:keepIn K (.ref f_7)=true)
  (a_8:findIn K (.ref x6) "hold"=some (some (.ref f_8)))
  (i_8:isFn K (.ref f_8)=true)
  (l_8:K.lookup f_8=some ⟨x4e,x3m,.func (fnOf "hold" "Files.hold" (zF zbS) (zz zbS) (zj zbS) .none x4f x4g x4h x3n x0x x4i),x3y⟩)
  (d_8:codeIn K x0x "Files.hold"=true)
  (k_8:keepIn K (.ref f_8)=true)
  (a_9:findIn K (.ref x6) "free"=some (some (.ref f_9)))
  (i_9:isFn K (.ref f_9)=true)
  (l_9:K.lookup f_9=some ⟨x4j,x3o,.func (fnOf "free" "Files.free" (zF zcb) (zz zcb) (zj zcb) .none x4k x4l x4m x3p x0y x4n),x3z⟩)
  (d_9:codeIn K x0y "Files.free"=true)
  (k_9:keepIn K (.ref f_9)=true)
  (x4o:findIn K (.ref x6) "held"=some (some (.ref uI)))
  (x4p:isFn K (.ref uI)=true)
  (x4q:K.lookup uI=some ⟨x0z,vV,.func (fnOf "held" "Files.held" (zF zcs) (zz zcs) (zj zcs) .none x0A x0B x0C vW uY x0D),qZ⟩)
  (x4r:codeIn K uY "Files.held"=true)
  (x2B:keepIn K (.ref uI)=true)
  (x4s:findIn K (.ref x6) "of_held"=some (some (.ref uJ)))
  (x4t:isFn K (.ref uJ)=true)
  (x4u:K.lookup uJ=some ⟨x0E,vX,.func (fnOf "of_held" "Files.of_held" (zF zch) (zz zch) (zj zch) .none x0F x0G x0H vY uZ x0I),x00⟩)
  (x4v:codeIn K uZ "Files.of_held"=true)
  (x2C:keepIn K (.ref uJ)=true)
  (x4w:findIn K (.ref x6) "living"=some (some (.ref uL)))
  (x4x:isFn K (.ref uL)=true)
  (x4y:K.lookup uL=some ⟨x0J,vZ,.func (fnOf "living" "Files.living" (zF zbC) (zz zbC) (zj zbC) .none x0K x0L x0M q5 v0 x0N),x01⟩)
  (x4z:codeIn K v0 "Files.living"=true)
  (x2D:keepIn K (.ref uL)=true)
  (x4A:findIn K (.ref x6) "copied"=some (some (.ref uM)))
  (x4B:isFn K (.ref uM)=true)
  (x4C:K.lookup uM=some ⟨x0O,q9,.func (fnOf "copied" "Files.copied" (zF zdb) (zz zdb) (zj zdb) .none x0P x0Q x0R qc v3 x0S),x02⟩)
  (x4D:codeIn K v3 "Files.copied"=true)
  (x2E:keepIn K (.ref uM)=true)
  (x4E:findIn K (.ref x6) "bare"=some (some (.ref uO)))
  (x4F:isFn K (.ref uO)=true)
  (x4G:K.lookup uO=some ⟨x0T,qd,.func (fnOf "bare" "Files.bare" (zF zcD) (zz zcD) (zj zcD) .none x0U x0V x0W qf v4 x0X),x03⟩)
  (x4H:codeIn K v4 "Files.bare"=true)
  (x2F:keepIn K (.ref uO)=true)
  (x4I:findIn K (.ref x6) "keep"=some (some (.ref uP)))
  (x4J:isFn K (.ref uP)=true)
  (x4K:K.lookup uP=some ⟨x0Y,qg,.func (fnOf "keep" "Files.keep" (zF zcP) (zz zcP) (zj zcP) .none x0Z x10 x11 qh v5 x12),x04⟩)
  (x4L:codeIn K v5 "Files.keep"=true)
  (x2G:keepIn K (.ref uP)=true)
  (x4M:findIn K (.ref x6) "refuse_if_none"=some (some (.ref uQ)))
  (x4N:isFn K (.ref uQ)=true)
  (x4O:K.lookup uQ=some ⟨x13,qi,.func (fnOf "refuse_if_none" "Files.refuse_if_none" (zF zcd) (zz zcd) (zj zcd) .none x14 x15 x16 qj v6 x17),x05⟩)
  (x4P:codeIn K v6 "Files.refuse_if_none"=true)
  (x2H:keepIn K (.ref uQ)=true)
  (x4Q:findIn K (.ref x6) "refuse_if_not_held"=some (some (.ref uT)))
  (x4R:isFn K (.ref uT)=true)
  (x4S:K.lookup uT=some ⟨x18,ql,.func (fnOf "refuse_if_not_held" "Files.refuse_if_not_held" (zF zbU) (zz zbU) (zj zbU) .none x19 x1a x1b qm v7 x1c),x06⟩)
  (x4T:codeIn K v7 "Files.refuse_if_not_held"=true)
  (x2I:keepIn K (.ref uT)=true)
  (x4U:nsIn K mainGlobals "_law_at"=some (some (.ref vy)))
  (x4V:K.lookup vy=some ⟨x1d,qo,.func (fnOf "_law_at" "_law_at" (zF zc7) (zz zc7) (zj zc7) .none x1e x1f x1g qp v8 x1h),x07⟩)
  (x4W:codeIn K v8 "_law_at"=true)
  (x2J:keepIn K (.ref vy)=true)
  (x4X:nsIn K mainGlobals "_law_pot"=some (some (.ref vz)))
  (x4Y:K.lookup vz=some ⟨x1i,qq,.func (fnOf "_law_pot" "_law_pot" (zF zcW) (zz zcW) (zj zcW) .none x1j x1k x1l qr v9 x1m),x08⟩)
  (x4Z:codeIn K v9 "_law_pot"=true)
  (x2K:keepIn K (.ref vz)=true)
  (x50:nsIn K mainGlobals "_law_take"=some (some (.ref vA)))
  (x51:K.lookup vA=some ⟨x1n,qt,.func (fnOf "_law_take" "_law_take" (zF zcB) (zz zcB) (zj zcB) .none x1o x1p x1q qu va x1r),x09⟩)
  (x52:codeIn K va "_law_take"=true)
  (x2L:keepIn K (.ref vA)=true)
  (x53:nsIn K mainGlobals "_law_drawn"=some (some (.ref vB)))
  (x54:K.lookup vB=some ⟨x1s,qw,.func (fnOf "_law_drawn" "_law_drawn" (zF zc4) (zz zc4) (zj zc4) .none x1t x1u x1v qx vb x1w),x0a⟩)
  (x55:codeIn K vb "_law_drawn"=true)
  (x2M:keepIn K (.ref vB)=true)
  (x56:nsIn K mainGlobals "_law_name"=some (some (.ref vC)))
  (x57:K.lookup vC=some ⟨x1x,qy,.func (fnOf "_law_name" "_law_name" (zF zcg) (zz zcg) (zj zcg) .none x1y x1z x1A qz vc x1B),x0b⟩)
  (x58:codeIn K vc "_law_name"=true)
  (x2N:keepIn K (.ref vC)=true)
  (x59:nsIn K mainGlobals "_law_names"=some (some (.ref vD)))
  (x5a:K.lookup vD=some ⟨x1C,qA,.func (fnOf "_law_names" "_law_names" (zF zcK) (zz zcK) (zj zcK) .none x1D x1E x1F qB vd x1G),x0c⟩)
  (x5b:codeIn K vd "_law_names"=true)
  (x2O:keepIn K (.ref vD)=true)
  (x5c:nsIn K mainGlobals "_law_birth"=some (some (.ref vE)))
  (x5d:K.lookup vE=some ⟨x1H,qC,.func (fnOf "_law_birth" "_law_birth" (zF zcw) (zz zcw) (zj zcw) .none x1I x1J x1K qD ve x1L),x0d⟩)
  (x5e:codeIn K ve "_law_birth"=true)
  (x2P:keepIn K (.ref vE)=true)
  (x5f:nsIn K mainGlobals "_law_deed"=some (some (.ref vF)))
  (x5g:K.lookup vF=some ⟨x1M,qE,.func (fnOf "_law_deed" "_law_deed" (zF zdf) (zz zdf) (zj zdf) .none x1N x1O x1P qF vf x1Q),x0e⟩)
  (x5h:codeIn K vf "_law_deed"=true)
  (x2Q:keepIn K (.ref vF)=true)
  (x5i:nsIn K mainGlobals "_law_files_due"=some (some (.ref vG)))
  (x5j:K.lookup vG=some ⟨x1R,qG,.func (fnOf "_law_files_due" "_law_files_due" (zF zcv) (zz zcv) (zj zcv) .none x1S x1T x1U qH vg x1V),x0f⟩)
  (x5k:codeIn K vg "_law_files_due"=true)
  (x2R:keepIn K (.ref vG)=true)
  (x5l:nsIn K mainGlobals "_law_due"=some (some (.ref vH)))
  (x5m:K.lookup vH=some ⟨x1W,qI,.func (fnOf "_law_due" "_law_due" (zF zcx) (zz zcx) (zj zcx) .none x1X x1Y x1Z qJ vh x20),x0g⟩)
  (x5n:codeIn K vh "_law_due"=true)
  (x2S:keepIn K (.ref vH)=true)
  (x5o:nsIn K mainGlobals "_law_refusal"=some (some (.ref vI)))
  (x5p:K.lookup vI=some ⟨x21,qK,.func (fnOf "_law_refusal" "_law_refusal" (zF zcU) (zz zcU) (zj zcU) .none x22 x23 x24 qL vi x25),x0h⟩)
  (x5q:codeIn K vi "_law_refusal"=true)
  (x2T:keepIn K (.ref vI)=true)
  (x5r:nsIn K mainGlobals "_law_told"=some (some (.ref vJ)))
  (x5s:K.lookup vJ=some ⟨x26,qM,.func (fnOf "_law_told" "_law_told" (zF zda) (zz zda) (zj zda) .none x27 x28 x29 qN vj x2a),x0i⟩)
  (x5t:codeIn K vj "_law_told"=true)
  (x2U:keepIn K (.ref vJ)=true)
  (x5u:nsIn K mainGlobals "_law_is_model"=some (some (.ref vK)))
  (x5v:K.lookup vK=some ⟨x2b,qO,.func (fnOf "_law_is_model" "_law_is_model" (zF zb3) (zz zb3) (zj zb3) .none x2c x2d x2e qP vk x2f),x0j⟩)
  (x5w:codeIn K vk "_law_is_model"=true)
  (x2V:keepIn K (.ref vK)=true)
  (x5x:nsIn K mainGlobals "_law_living"=some (some (.ref vL)))
  (x5y:K.lookup vL=some ⟨x2g,qQ,.func (fnOf "_law_living" "_law_living" (zF zcS) (zz zcS) (zj zcS) .none x2h x2i x2j qR vm x2k),x0k⟩)
  (x5z:codeIn K vm "_law_living"=true)
  (x2W:keepIn K (.ref vL)=true)
  (x5A:nsIn K mainGlobals "_law_are_held"=some (some (.ref vM)))
  (x5B:K.lookup vM=some ⟨x2l,qS,.func (fnOf "_law_are_held" "_law_are_held" (zF zb5) (zz zb5) (zj zb5) .none x2m x2n x2o qT vn x2p),x0l⟩)
  (x5C:codeIn K vn "_law_are_held"=true)
  (x2X:keepIn K (.ref vM)=true)
  (x5D:nsIn K mainGlobals "_law_more"=some (some (.ref vN)))
  (x5E:K.lookup vN=some ⟨x2q,qU,.func (fnOf "_law_more" "_law_more" (zF zc5) (zz zc5) (zj zc5) .none x2r x2s x2t qV vo x2u),x0m⟩)
  (x5F:codeIn K vo "_law_more"=true)
  (x2Y:keepIn K (.ref vN)=true)
  (x5G:nsIn K mainGlobals "_law_all_so"=some (some (.ref vO)))
  (x5H:K.lookup vO=some ⟨x2v,qW,.func (fnOf "_law_all_so" "_law_all_so" (zF zcG) (zz zcG) (zj zcG) .none x2w x2x x2y qX vp x2z),x0n⟩)
  (x5I:codeIn K vp "_law_all_so"=true)
  (x2Z:keepIn K (.ref vO)=true)
  (x5J:nsIn K mainGlobals "law"=some (some (.ref vP)))
  (x5K:K.lookup vP=some ⟨x2A,qY,.func (fnOf "law" "law" (zF zbo) (zz zbo) (zj zbo) .none vq vt vw uX uu vx),x0o⟩)
  (x5L:codeIn K uu "law"=true)
  (x5M:keepIn K (.ref vP)=true)
  (yT:nsIn K mainGlobals "ValueError"=some none)
  (x30:nsIn K mainGlobals "all"=some none)
  (vS:nsIn K mainGlobals "bool"=some none)
  (vT:nsIn K mainGlobals "dict"=some none)
  (uA:nsIn K mainGlobals "divmod"=some none)
  (x31:nsIn K mainGlobals "int"=some none)
  (yU:nsIn K mainGlobals "isinstance"=some none)
  (x32:nsIn K mainGlobals "len"=some none)
  (vU:nsIn K mainGlobals "list"=some none)
  (x33:nsIn K mainGlobals "max"=some none)
  (x34:nsIn K mainGlobals "min"=some none)
  (uV:nsIn K mainGlobals "range"=some none)
  (x35:nsIn K mainGlobals "set"=some none)
  (uC:nsIn K mainGlobals "sorted"=some none)
  (yQ:excIn K x9 [.type "ValueError",.type "Exception",.type "BaseException",.type "object"] "ValueError.__new__"=true)
  (yR:excIn K x8 [.type "ValueError",.type "Exception",.type "BaseException",.type "object"] "ValueError.__new__"=true)
  (yH:excIn K x4 [.type "ValueError",.type "Exception",.type "BaseException",.type "object"] "ValueError.__new__"=true)
  (xG:excIn K x3 [.type "ValueError",.type "Exception",.type "BaseException",.type "object"] "ValueError.__new__"=true)
  (yI:excIn K x5 [.type "ValueError",.type "Exception",.type "BaseException",.type "object"] "ValueError.__new__"=true)
  (ul:findIn K (.ref x8) "__getattribute__"=some (some (.builtin "BaseException.__getattribute__")))
  (um:findIn K (.ref x8) "__getattr__"=some none)
  (u5:findIn K (.ref x8) "__class__"=some (some (.builtin "object.__class__")))
  (uo:mroIn K x8 (.type "object")=some true)
  (uq:mroIn K x8 (.type "BaseException")=some true)
  (u6:mroIn K x8 (.ref x9)=some true)
  (xH:kitOne K (.ref x8) (.type "ValueError")=some true)
  (yA:kitOne K (.ref x8) (.ref xL)=some false)
  (yq:kitOne K (.ref x8) (.ref xk)=some false)
  (yJ:kitOne K (.ref x8) (.ref yo)=some false)
  (y9:kitOne K (.ref x8) (.ref xc)=some false)
  (yr:kitOne K (.ref x8) (.ref x8)=some true)
  (ya:kitOne K (.ref x8) (.ref x4)=some false)
  (xx:kitOne K (.ref x8) (.ref x3)=some false)
  (yb:kitOne K (.ref x8) (.ref x5)=some false)
  (yc:kitOne K (.ref x8) (.ref xf)=some false)
  (yt:kitOne K (.ref x8) (.ref xl)=some false)
  (yu:kitOne K (.ref x8) (.ref xm)=some false)
  (yK:kitOne K (.ref x8) (.ref yp)=some false)
  (xM:kitOne K (.ref x8) (.ref xa)=some false)
  (xR:kitOne K (.ref x8) (.ref xb)=some false)
  (yw:kitOne K (.ref x8) (.ref xn)=some false)
  (yd:kitOne K (.ref x8) (.ref xg)=some false)
  (u7:findIn K (.ref x4) "__getattribute__"=some (some (.builtin "BaseException.__getattribute__")))
  (u8:findIn K (.ref x4) "__getattr__"=some none)
  (yW:findIn K (.ref x4) "__class__"=some (some (.builtin "object.__class__")))
  (u9:mroIn K x4 (.type "object")=some true)
  (ua:mroIn K x4 (.type "BaseException")=some true)
  (yX:mroIn K x4 (.ref x9)=some true)
  (xz:kitOne K (.ref x4) (.type "ValueError")=some true)
  (yx:kitOne K (.ref x4) (.ref xL)=some false)
  (ye:kitOne K (.ref x4) (.ref xk)=some false)
  (yB:kitOne K (.ref x4) (.ref yo)=some false)
  (xS:kitOne K (.ref x4) (.ref xc)=some false)
  (yf:kitOne K (.ref x4) (.ref x8)=some false)
  (xT:kitOne K (.ref x4) (.ref x4)=some true)
  (xp:kitOne K (.ref x4) (.ref x3)=some false)
  (xU:kitOne K (.ref x4) (.ref x5)=some false)
  (xV:kitOne K (.ref x4) (.ref xf)=some false)
  (yg:kitOne K (.ref x4) (.ref xl)=some false)
  (yh:kitOne K (.ref x4) (.ref xm)=some false)
  (yC:kitOne K (.ref x4) (.ref yp)=some false)
  (xI:kitOne K (.ref x4) (.ref xa)=some false)
  (xN:kitOne K (.ref x4) (.ref xb)=some false)
  (yi:kitOne K (.ref x4) (.ref xn)=some false)
  (xW:kitOne K (.ref x4) (.ref xg)=some false)
  (yL:findIn K (.ref x3) "__getattribute__"=some (some (.builtin "BaseException.__getattribute__")))
  (yM:findIn K (.ref x3) "__getattr__"=some none)
  (yD:findIn K (.ref x3) "__class__"=some (some (.builtin "object.__class__")))
  (yN:mroIn K x3 (.type "object")=some true)
  (yO:mroIn K x3 (.type "BaseException")=some true)
  (yE:mroIn K x3 (.ref x9)=some true)
  (xi:kitOne K (.ref x3) (.type "ValueError")=some true)
  (xJ:kitOne K (.ref x3) (.ref xL)=some false)
  (xA:kitOne K (.ref x3) (.ref xk)=some false)
  (xO:kitOne K (.ref x3) (.ref yo)=some false)
  (xq:kitOne K (.ref x3) (.ref xc)=some false)
  (xB:kitOne K (.ref x3) (.ref x8)=some false)
  (xr:kitOne K (.ref x3) (.ref x4)=some false)
  (xh:kitOne K (.ref x3) (.ref x3)=some true)
  (xt:kitOne K (.ref x3) (.ref x5)=some false)
  (xu:kitOne K (.ref x3) (.ref xf)=some false)
  (xC:kitOne K (.ref x3) (.ref xl)=some false)
  (xD:kitOne K (.ref x3) (.ref xm)=some false)
  (xP:kitOne K (.ref x3) (.ref yp)=some false)
  (xj:kitOne K (.ref x3) (.ref xa)=some false)
  (xo:kitOne K (.ref x3) (.ref xb)=some false)
  (xE:kitOne K (.ref x3) (.ref xn)=some false)
  (xv:kitOne K (.ref x3) (.ref xg)=some false)
  (ub:findIn K (.ref x5) "__getattribute__"=some (some (.builtin "BaseException.__getattribute__")))
  (uc:findIn K (.ref x5) "__getattr__"=some none)
  (yY:findIn K (.ref x5) "__class__"=some (some (.builtin "object.__class__")))
  (ud:mroIn K x5 (.type "object")=some true)
  (ue:mroIn K x5 (.type "BaseException")=some true)
  (yZ:mroIn K x5 (.ref x9)=some true)
  (xF:kitOne K (.ref x5) (.type "ValueError")=some true)
  (yy:kitOne K (.ref x5) (.ref xL)=some false)
  (yj:kitOne K (.ref x5) (.ref xk)=some false)
  (yF:kitOne K (.ref x5) (.ref yo)=some false)
  (xX:kitOne K (.ref x5) (.ref xc)=some false)
  (yk:kitOne K (.ref x5) (.ref x8)=some false)
  (xY:kitOne K (.ref x5) (.ref x4)=some false)
  (xw:kitOne K (.ref x5) (.ref x3)=some false)
  (xZ:kitOne K (.ref x5) (.ref x5)=some true)
  (y7:kitOne K (.ref x5) (.ref xf)=some false)
  (yl:kitOne K (.ref x5) (.ref xl)=some false)
  (ym:kitOne K (.ref x5) (.ref xm)=some false)
  (yG:kitOne K (.ref x5) (.ref yp)=some false)
  (xK:kitOne K (.ref x5) (.ref xa)=some false)
  (xQ:kitOne K (.ref x5) (.ref xb)=some false)
  (yn:kitOne K (.ref x5) (.ref xn)=some false)
  (y8:kitOne K (.ref x5) (.ref xg)=some false)
  (uD:plainGet K x6 Str.empty=true)
  (ur:hasDictIn K x6=true)
  (uE:plainOver K x6=true)
  (uF:findIn K (.ref x6) "__setattr__"=some (some (.builtin "object.__setattr__")))
  (uG:makesIn K x6=true)
  (uH:keepIn K (.ref x6)=true)
  (ut:findIn K (.ref x6) "births"=some none)
  (uW:findIn K (.ref x6) "kept"=some none) :
  ∃fd:FuncData,(∀(s:Shared)(v:Value),BindsTo s fd ⟨[v],[]⟩ [("_law_script",v)])/\∀base:Heap,K.In base->base.Ns mainGlobals mg->zt l.prog w K mg base CX0 true 9 fa fd ["_law_script"] (zen K):=by
 have e:=hfa.symm.trans (mg_of X G x5J)
 cases e
 have T:Txt K mg ⟨x9,xL,xk,yo,xc,x8,x4,x3,x5,xf,xl,xm,yp,xa,xb,xn,xg,x6⟩:=⟨mg_none_of X G yT,mg_none_of X G x30,mg_none_of X G vS,mg_none_of X G vT,mg_none_of X G uA,mg_none_of X G x31,mg_none_of X G yU,mg_none_of X G x32,mg_none_of X G vU,mg_none_of X G x33,mg_none_of X G x34,mg_none_of X G uV,mg_none_of X G x35,mg_none_of X G uC,mg_of X G yS,mg_of X G uU,mg_of X G uv,mg_of X G vQ,mg_of X G ug,mg_of X G uw,mg_of X G uh,mg_of X G yP,mg_of X G ui,mg_of X G uj,mg_of X G ux,mg_of X G uy,mg_of X G vR,mg_of X G yV,mg_of X G u0,mg_of X G uz,mg_of X G uk,mg_of X G uf,yQ,yR,yH,xG,yI,⟨yR,ul,um,u5,uo,uq⟩,u6,xH,yA,yq,yJ,y9,yr,ya,xx,yb,yc,yt,yu,yK,xM,xR,yw,yd,⟨yH,u7,u8,yW,u9,ua⟩,yX,xz,yx,ye,yB,xS,yf,xT,xp,xU,xV,yg,yh,yC,xI,xN,yi,xW,⟨xG,yL,yM,yD,yN,yO⟩,yE,xi,xJ,xA,xO,xq,xB,xr,xh,xt,xu,xC,xD,xP,xj,xo,xE,xv,⟨yI,ub,uc,yY,ud,ue⟩,yZ,xF,yy,yj,yF,xX,yk,xY,xw,xZ,y7,yl,ym,yG,xK,xQ,yn,y8,⟨uD,ur,uE,uF⟩,ut,uW⟩
 have Fis_whole:=zL (st:=zcC) l_0 d_0 k_0
 have bis_whole:=Fis_whole.binds (ps:=["value"]) fun|_,_,_,_,_,_,[_],_=>rfl
 have Fis_within:=zL (st:=zdd) l_1 d_1 k_1
 have bis_within:=Fis_within.binds (ps:=["value","least","most"]) fun|_,_,_,_,_,_,[_,_,_],_=>rfl
 have FFiles___init__:=zL (st:=zc6) l_2 d_2 k_2
 have bFiles___init__:=FFiles___init__.binds (ps:=["self"]) fun|_,_,_,_,_,_,[_],_=>rfl
 have FFiles_names:=zL (st:=zcy) l_3 d_3 k_3
 have bFiles_names:=FFiles_names.binds (ps:=["self"]) fun|_,_,_,_,_,_,[_],_=>rfl
 have FFiles_many:=zL (st:=zcR) l_4 d_4 k_4
 have bFiles_many:=FFiles_many.binds (ps:=["self","file"]) fun|_,_,_,_,_,_,[_,_],_=>rfl
 have FFiles_birth:=zL (st:=zb8) l_5 d_5 k_5
 have bFiles_birth:=FFiles_birth.binds (ps:=["self","file","place"]) fun|_,_,_,_,_,_,[_,_,_],_=>rfl
 have FFiles_put:=zL (st:=zcc) l_6 d_6 k_6
 have bFiles_put:=FFiles_put.binds (ps:=["self","file","place","birth"]) fun|_,_,_,_,_,_,[_,_,_,_],_=>rfl
 have FFiles_cut:=zL (st:=zbZ) l_7 d_7 k_7
 have bFiles_cut:=FFiles_cut.binds (ps:=["self","file","many"]) fun|_,_,_,_,_,_,[_,_,_],_=>rfl
 have FFiles_hold:=zL (st:=zbS) l_8 d_8 k_8
 have bFiles_hold:=FFiles_hold.binds (ps:=["self","name"]) fun|_,_,_,_,_,_,[_,_],_=>rfl
 have FFiles_free:=zL (st:=zcb) l_9 d_9 k_9
 have bFiles_free:=FFiles_free.binds (ps:=["self","name"]) fun|_,_,_,_,_,_,[_,_],_=>rfl
 have FFiles_held:=zL (st:=zcs) x4q x4r x2B
 have bFiles_held:=FFiles_held.binds (ps:=["self"]) fun|_,_,_,_,_,_,[_],_=>rfl
 have FFiles_of_held:=zL (st:=zch) x4u x4v x2C
 have bFiles_of_held:=FFiles_of_held.binds (ps:=["self","name"]) fun|_,_,_,_,_,_,[_,_],_=>rfl
 have FFiles_living:=zL (st:=zbC) x4y x4z x2D
 have bFiles_living:=FFiles_living.binds (ps:=["self"]) fun|_,_,_,_,_,_,[_],_=>rfl
 have FFiles_copied:=zL (st:=zdb) x4C x4D x2E
 have bFiles_copied:=FFiles_copied.binds (ps:=["self"]) fun|_,_,_,_,_,_,[_],_=>rfl
 have FFiles_bare:=zL (st:=zcD) x4G x4H x2F
 have bFiles_bare:=FFiles_bare.binds (ps:=["self"]) fun|_,_,_,_,_,_,[_],_=>rfl
 have FFiles_keep:=zL (st:=zcP) x4K x4L x2G
 have bFiles_keep:=FFiles_keep.binds (ps:=["self","name","files"]) fun|_,_,_,_,_,_,[_,_,_],_=>rfl
 have FFiles_refuse_if_none:=zL (st:=zcd) x4O x4P x2H
 have bFiles_refuse_if_none:=FFiles_refuse_if_none.binds (ps:=["self","file"]) fun|_,_,_,_,_,_,[_,_],_=>rfl
 have FFiles_refuse_if_not_held:=zL (st:=zbU) x4S x4T x2I
 have bFiles_refuse_if_not_held:=FFiles_refuse_if_not_held.binds (ps:=["self","name"]) fun|_,_,_,_,_,_,[_,_],_=>rfl
 have F_law_at:=zL (st:=zc7) x4V x4W x2J
 have b_law_at:=F_law_at.binds (ps:=["_law_script","_law_k"]) fun|_,_,_,_,_,_,[_,_],_=>rfl
 have F_law_pot:=zL (st:=zcW) x4Y x4Z x2K
 have b_law_pot:=F_law_pot.binds (ps:=["_law_script","_law_k"]) fun|_,_,_,_,_,_,[_,_],_=>rfl
 have F_law_take:=zL (st:=zcB) x51 x52 x2L
 have b_law_take:=F_law_take.binds (ps:=["_law_pot_here","_law_many"]) fun|_,_,_,_,_,_,[_,_],_=>rfl
 have F_law_drawn:=zL (st:=zc4) x54 x55 x2M
 have b_law_drawn:=F_law_drawn.binds (ps:=["_law_pot_here","_law_some"]) fun|_,_,_,_,_,_,[_,_],_=>rfl
 have F_law_name:=zL (st:=zcg) x57 x58 x2N
 have b_law_name:=F_law_name.binds (ps:=["_law_pot_here"]) fun|_,_,_,_,_,_,[_],_=>rfl
 have F_law_names:=zL (st:=zcK) x5a x5b x2O
 have b_law_names:=F_law_names.binds (ps:=["_law_pot_here"]) fun|_,_,_,_,_,_,[_],_=>rfl
 have F_law_birth:=zL (st:=zcw) x5d x5e x2P
 have b_law_birth:=F_law_birth.binds (ps:=["_law_pot_here"]) fun|_,_,_,_,_,_,[_],_=>rfl
 have F_law_deed:=zL (st:=zdf) x5g x5h x2Q
 have b_law_deed:=F_law_deed.binds (ps:=["_law_pot_here","_law_names_here","_law_model"]) fun|_,_,_,_,_,_,[_,_,_],_=>rfl
 have F_law_files_due:=zL (st:=zcv) x5j x5k x2R
 have b_law_files_due:=F_law_files_due.binds (ps:=["_law_model","_law_deed_here"]) fun|_,_,_,_,_,_,[_,_],_=>rfl
 have F_law_due:=zL (st:=zcx) x5m x5n x2S
 have b_law_due:=F_law_due.binds (ps:=["_law_model","_law_kept","_law_deed_here"]) fun|_,_,_,_,_,_,[_,_,_],_=>rfl
 have F_law_refusal:=zL (st:=zcU) x5p x5q x2T
 have b_law_refusal:=F_law_refusal.binds (ps:=["_law_e"]) fun|_,_,_,_,_,_,[_],_=>rfl
 have F_law_told:=zL (st:=zda) x5s x5t x2U
 have b_law_told:=F_law_told.binds (ps:=["_law_files","_law_deed_here"]) fun|_,_,_,_,_,_,[_,_],_=>rfl
 have F_law_is_model:=zL (st:=zb3) x5v x5w x2V
 have b_law_is_model:=F_law_is_model.binds (ps:=["_law_files","_law_model"]) fun|_,_,_,_,_,_,[_,_],_=>rfl
 have F_law_living:=zL (st:=zcS) x5y x5z x2W
 have b_law_living:=F_law_living.binds (ps:=["_law_model","_law_kept"]) fun|_,_,_,_,_,_,[_,_],_=>rfl
 have F_law_are_held:=zL (st:=zb5) x5B x5C x2X
 have b_law_are_held:=F_law_are_held.binds (ps:=["_law_files","_law_kept"]) fun|_,_,_,_,_,_,[_,_],_=>rfl
 have F_law_more:=zL (st:=zc5) x5E x5F x2Y
 have b_law_more:=F_law_more.binds (ps:=["_law_pot_here","_law_row"]) fun|_,_,_,_,_,_,[_,_],_=>rfl
 have F_law_all_so:=zL (st:=zcG) x5H x5I x2Z
 have b_law_all_so:=F_law_all_so.binds (ps:=["_law_row"]) fun|_,_,_,_,_,_,[_],_=>rfl
 have Flaw:=zL (st:=zbo) x5K x5L x5M
 have blaw:=Flaw.binds (ps:=["_law_script"]) fun|_,_,_,_,_,_,[_],_=>rfl
 refine ⟨fnOf "law" "law" (zF zbo) (zz zbo) (zj zbo) .none vq vt vw uX uu vx,λs v=>.of_eq rfl,λbase _ _=>?_⟩
 have Gg:GF l.prog w K mg base true 1 "is_whole" ["value"] (zg0):=⟨_,_,zpp Fis_whole T,mg_of X G a_0,k_0,bis_whole⟩
 have Gd:GF l.prog w K mg base true 2 "is_within" ["value","least","most"] (zdG):=⟨_,_,zqw Fis_within T Gg,mg_of X G a_1,k_1,bis_within⟩
 have Gh:GF l.prog w K mg base true 1 "_law_at" ["_law_script","_law_k"] (zgX K):=⟨_,_,zp2 F_law_at T,mg_of X G x4U,x2J,b_law_at⟩
 have Gp:GF l.prog w K mg base true 2 "_law_pot" ["_law_script","_law_k"] (zgW K):=⟨_,_,zn9 F_law_pot T Gh,mg_of X G x4X,x2K,b_law_pot⟩
 have Gb:GF l.prog w K mg base true 1 "_law_take" ["_law_pot_here","_law_many"] (zbb):=⟨_,_,zkK F_law_take T,mg_of X G x50,x2L,b_law_take⟩
 have Gc:GF l.prog w K mg base true 2 "_law_drawn" ["_law_pot_here","_law_some"] (zcm):=⟨_,_,znz F_law_drawn T Gb,mg_of X G x53,x2M,b_law_drawn⟩
 have Gj:GF l.prog w K mg base true 3 "_law_birth" ["_law_pot_here"] (zgd):=⟨_,_,znC F_law_birth T Gb Gc,mg_of X G x5c,x2P,b_law_birth⟩
 have Gi:GF l.prog w K mg base true 3 "_law_name" ["_law_pot_here"] (zgB):=⟨_,_,zqO F_law_name T Gb Gc,mg_of X G x56,x2N,b_law_name⟩
 have Gq:GF l.prog w K mg base true 4 "_law_names" ["_law_pot_here"] (zgt):=⟨_,_,zrN F_law_names T Gb Gi,mg_of X G x59,x2O,b_law_names⟩
 have Ge:GC l.prog w K mg base true 1 "Files" x6 ["self"] (zdX _):=⟨_,_,zlv FFiles___init__ T,mg_of X G uf,⟨uG,a_2,i_2,uH⟩,bFiles___init__⟩
 have M_Files_names:GM l.prog w K mg base true 1 x6 "names" ["self"] (zgO _):=⟨_,_,zly FFiles_names T,⟨a_3,i_3,k_3⟩,bFiles_names⟩
 have M_Files_many:GM l.prog w K mg base true 1 x6 "many" ["self","file"] (zcu _):=⟨_,_,zmF FFiles_many T,⟨a_4,i_4,k_4⟩,bFiles_many⟩
 have M_Files_refuse_if_none:GMX l.prog w K mg base true 1 x6 "refuse_if_none" ["self","file"] (zef _):=⟨_,_,zll FFiles_refuse_if_none T,⟨x4M,x4N,x2H⟩,bFiles_refuse_if_none⟩
 have M_Files_refuse_if_not_held:GMX l.prog w K mg base true 1 x6 "refuse_if_not_held" ["self","name"] (zeB _):=⟨_,_,zpA FFiles_refuse_if_not_held T,⟨x4Q,x4R,x2I⟩,bFiles_refuse_if_not_held⟩
 have M_Files_birth:GMX l.prog w K mg base true 4 x6 "birth" ["self","file","place"] (zg1 _):=⟨_,_,zsw FFiles_birth T M_Files_refuse_if_none M_Files_many Gd,⟨a_5,i_5,k_5⟩,bFiles_birth⟩
 have M_Files_put:GMX l.prog w K mg base true 4 x6 "put" ["self","file","place","birth"] (zfP _):=⟨_,_,zqD FFiles_put T M_Files_many Gd,⟨a_6,i_6,k_6⟩,bFiles_put⟩
 have M_Files_cut:GMX l.prog w K mg base true 4 x6 "cut" ["self","file","many"] (zg2 _):=⟨_,_,zoZ FFiles_cut T M_Files_refuse_if_none M_Files_many Gd,⟨a_7,i_7,k_7⟩,bFiles_cut⟩
 have M_Files_held:GM l.prog w K mg base true 1 x6 "held" ["self"] (zf5 _):=⟨_,_,zlM FFiles_held T,⟨x4o,x4p,x2B⟩,bFiles_held⟩
 have M_Files_bare:GM l.prog w K mg base true 3 x6 "bare" ["self"] (zdi _):=⟨_,_,zsX FFiles_bare T Ge,⟨x4E,x4F,x2F⟩,bFiles_bare⟩
 have M_Files_keep:GM l.prog w K mg base true 4 x6 "keep" ["self","name","files"] (zfR _):=⟨_,_,zrn FFiles_keep T M_Files_bare,⟨x4I,x4J,x2G⟩,bFiles_keep⟩
 have M_Files_hold:GMX l.prog w K mg base true 5 x6 "hold" ["self","name"] (zfd _):=⟨_,_,zsq FFiles_hold T M_Files_keep,⟨a_8,i_8,k_8⟩,bFiles_hold⟩
 have M_Files_free:GMX l.prog w K mg base true 3 x6 "free" ["self","name"] (zgZ _):=⟨_,_,zrw FFiles_free T M_Files_refuse_if_not_held,⟨a_9,i_9,k_9⟩,bFiles_free⟩
 have M_Files_of_held:GMX l.prog w K mg base true 4 x6 "of_held" ["self","name"] (zd2 _):=⟨_,_,zpy FFiles_of_held T M_Files_refuse_if_not_held M_Files_bare,⟨x4s,x4t,x2C⟩,bFiles_of_held⟩
 have M_Files_living:GM l.prog w K mg base true 1 x6 "living" ["self"] (zgf _):=⟨_,_,zru FFiles_living T,⟨x4w,x4x,x2D⟩,bFiles_living⟩
 have Gm:GF l.prog w K mg base false 1 "_law_refusal" ["_law_e"] (zgE K _):=⟨_,_,zo5 F_law_refusal T,mg_of X G x5o,x2T,b_law_refusal⟩
 have Gr:GF l.prog w K mg base true 4 "_law_deed" ["_law_pot_here","_law_names_here","_law_model"] (ze1):=⟨_,_,zq5 F_law_deed T Gb Gc Gj,mg_of X G x5f,x2Q,b_law_deed⟩
 have Gk:GF l.prog w K mg base true 1 "_law_files_due" ["_law_model","_law_deed_here"] (zf0):=⟨_,_,zr0 F_law_files_due T,mg_of X G x5i,x2R,b_law_files_due⟩
 have Gu:GF l.prog w K mg base true 2 "_law_due" ["_law_model","_law_kept","_law_deed_here"] (zfG):=⟨_,_,zo9 F_law_due T Gk,mg_of X G x5l,x2S,b_law_due⟩
 have Gs:GF l.prog w K mg base true 6 "_law_told" ["_law_files","_law_deed_here"] (zg3 _):=⟨_,_,zqt F_law_told T M_Files_put M_Files_cut M_Files_hold M_Files_free Gm,mg_of X G x5r,x2U,b_law_told⟩
 have Gf:GF l.prog w K mg base true 5 "_law_is_model" ["_law_files","_law_model"] (zeA _):=⟨_,_,zqr F_law_is_model T M_Files_names M_Files_many M_Files_birth,mg_of X G x5u,x2V,b_law_is_model⟩
 have Go:GF l.prog w K mg base true 1 "_law_living" ["_law_model","_law_kept"] (zgu):=⟨_,_,zpG F_law_living T,mg_of X G x5x,x2W,b_law_living⟩
 have M_Files_copied:GM l.prog w K mg base true 4 x6 "copied" ["self"] (zgR _):=⟨_,_,zsD FFiles_copied T M_Files_bare,⟨x4A,x4B,x2E⟩,bFiles_copied⟩
 have Gn:GF l.prog w K mg base true 6 "_law_are_held" ["_law_files","_law_kept"] (zgQ _):=⟨_,_,zrS F_law_are_held T M_Files_held M_Files_of_held Gf,mg_of X G x5A,x2X,b_law_are_held⟩
 have Gv:GF l.prog w K mg base true 5 "_law_more" ["_law_pot_here","_law_row"] (zgm _):=⟨_,_,zkr F_law_more T Gb Gc M_Files_of_held M_Files_copied,mg_of X G x5D,x2Y,b_law_more⟩
 have Gw:GF l.prog w K mg base true 7 "_law_all_so" ["_law_row"] (zfC _):=⟨_,_,zlS F_law_all_so T Gf Gn M_Files_living Go,mg_of X G x5G,x2Z,b_law_all_so⟩
 exact zmh Flaw T Gp Gq Ge Gb Gc Gr Gs Gu Gv Gw
theorem walk{l:OpenLaw}{q:Program}{loose:List Str}{XP:(Str->Option Value)->Heap->Prop}{YP:World->Heap->Prop}{d:DefRec}{K:Params->Frag}(hn:l.most=some 63)(hdf:d.params.defaults=[])
  (hY:∀(w:World)(h:Heap),YP w h->(K w.params).In h)
  (F:∀(w:World)(mg:Str->Option Value)(fa:Addr)(h:Heap),(K w.params).In h->h.Ns mainGlobals mg->mg d.name=some (.ref fa) ->
   ∃fd:FuncData,(∀(s:Shared)(u:Value),BindsTo s fd ⟨[u],[]⟩ [("_law_script",u)])/\∀base:Heap,(K w.params).In base->base.Ns mainGlobals mg->zt l.prog w (K w.params) mg base CX0 true 9 fa fd ["_law_script"] (zen (K w.params))) :
  WalkO q loose XP YP l.row.toRowW d [] (λf vs=>PySem.call f vs) :=
 L2.walk_of (n:=63) (k:=9) (x:="_law_script") (CX:=λ_=>CX0) (sp:=λw=>zen (K w.params)) hn (by decide) hdf ⟨λ_=>rfl,by decide,by decide,rfl⟩ hY F (λ_ _ a ns hl _ hS=>⟨a,ns,rfl,hS,hl,λ_=>rfl⟩) λ_ _ _ _ _ z=>z
end K25
namespace PySem.W.Fast
def tw11922730916110106922:=0
def tw6491846875588590576:=0
def tw13262418727220666729:=0
def tw15950294770109586137:=0
def tw7138204612329155484:=0
def tw431377296684790046:=0
def tw17693848622304999620:=0
def tw9594880988065307942:=0
def tw14929429038173451625:=0
def tw3862955185272921788:=0
def tw9452849373521124177:=0
def tw5625974632728344412:=0
def tw487958319465677074:=0
def tw12076164054366457950:=0
def tw9125961250639209211:=0
def tw18169290229531731577:=0
def tw17152645444899021539:=0
def tw3027496350443915593:=0
def tw13492760608668811927:=0
def tw10025226137566770290:=0
def tw17192906949427368723:=0
def tw11628834867756369951:=0
def tw3275646546880249509:=0
def tw8173083355793413231:=0
def tw17605486115732093999:=0
def tw14919464186644693290:=0
def tw15567672509590552348:=0
def tw8139769850531850045:=0
def tw14518526621048118990:=0
def tw16773394271095427629:=0
def tw525921848546847432:=0
def tw811047885505023667:=0
def tw1443436093512966881:=0
def tw9854120952065143263:=0
def tw10270685184587279049:=0
def tw4744393405165318485:=0
def tw15760072802407264698:=0
def tw3441511645774031030:=0
def tw3262009340636226097:=0
def tw10073536330358537627:=0
def tw14296102793003183875:=0
def tw5063863326993178345:=0
def tw10272888069429671567:=0
def tw16908351299893201679:=0
def tw14120123737212934965:=0
def tw4368841919171096987:=0
def tw16855852682276363562:=0
def tw16328936789620195833:=0
def tw17718678148554608214:=0
def tw10608672800932475418:=0
def tw12652795461147932298:=0
def tw6865642711669130344:=0
def tw12850467904291823234:=0
def tw13618892237822087921:=0
def tw3081307179472895056:=0
def tw9189646731955943602:=0
def tw3513922714024968506:=0
def tw15362009673781331200:=0
def tw12758626489503007011:=0
def tw16777726457705185355:=0
def tw10733459148763762590:=0
def tw7741397252871048899:=0
def tw15680989499291183735:=0
def tw17570324672463057014:=0
def tw16154906278181329410:=0
def tw12608642989978701765:=0
def tw493248486182616104:=0
def tw5465353552998301343:=0
def tw15382067982337483593:=0
def tw14349346833646381947:=0
def tw8444048634813959846:=0
def tw1564386137435946671:=0
def tw16404091455717523594:=0
def tw17897225090252577051:=0
def tw10468237119698641289:=0
def tw2677368230710428066:=0
def tw5361013158060080449:=0
def tw6459086142685628586:=0
def tw6511446492629077449:=0
def tw9113663437203184332:=0
def tw3771182223784617556:=0
def tw16153449270590968583:=0
def tw6216371468398947633:=0
def tw13434932509575177143:=0
def tw7189965783094748662:=0
def tw1790290977684446923:=0
def tw3645220424810154176:=0
def tw5522737592528703740:=0
def tw13072651369295761080:=0
def tw3592266636427461221:=0
def tw12196287219928122609:=0
def tw13760126117523689786:=0
def tw1864092535429594147:=0
def tw11680310486771870650:=0
def tw6251437293274813423:=0
def tw392926724428384739:=0
def tw7261295044276159964:=0
def tw7241590835470063845:=0
def tw14752026171865031124:=0
def tw6664756420063130496:=0
def tw3635249787998718578:=0
def tw1123640455021573583:=0
def tw16767258886755775324:=0
def tw18270605973555699499:=0
def tw11006081921428523750:=0
def tw5213139827932193036:=0
def tw13588575102167620928:=0
def tw3499456153337073697:=0
def tw13818491196767335554:=0
def tw14111609072160156620:=0
def tw7869601963107130768:=0
def tw13204102476994446156:=0
def tw5246080576136266722:=0
def tw15784934518536338473:=0
def tw4146001058953222612:=0
def tw9845853216476994683:=0
def tw15239029211565081777:=0
def tw9355254033887283317:=0
def tw3297353875972417049:=0
def tw173660022119837076:=0
def tw1448855272728849760:=0
def tw18286295801471690941:=0
def tw10814327333568535737:=0
def tw17261118737339887509:=0
def tw14312556728446006043:=0
def tw16859440695978901201:=0
def tw13471664521607422795:=0
def tw92464369124526744:=0
def tw6324651700795585732:=0
def tw10538199911700997566:=0
def tw15790437419823530872:=0
def tw14388676168251617980:=0
def tw13442954219879970476:=0
def tw4062971388472323812:=0
def tw7624994138295868789:=0
def tw16116373296493689354:=0
def tw13233218531660740132:=0
def tw940550812370771573:=0
def tw6596468726233496255:=0
end PySem.W.Fast
open PySem PySem.W PyProof.Rows
set_option maxRecDepth 100000 in
set_option maxHeartbeats 0 in
theorem PySem.Challenge.cw_cleanrows_k25_whole_apart_holds : PySem.Challenge.rw_cleanrows_k25_whole_apart.Holds := by
 w_on;o_law;k_head;(case hw=>w_witness2)
 k_fill
 refine K25.walk (l:=PySem.Challenge.rw_cleanrows_k25_whole_apart) rfl rfl (λw h Y=>PySem.W.kIn_of Y) ?F
 case F =>
  intro w mg fa h KX G hmg
  refine' K25.all_mk KX G hmg ..
  all_goals first|k_is|kit_is|k_exc|rfl|decide +kernel|skip
