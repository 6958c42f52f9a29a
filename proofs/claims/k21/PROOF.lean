import PyProof.Rows.All
import Wide.All
import OpenK.AllK
import Wide.FinOn
import Lean
import PyProof.EqAt
import PyProof.EqKinds
import PyProof.TupleCall
import KE.KUnpack
import PyProof.NeKinds
import PyProof.EnumFor
import PyProof.EnumStmt
import PyProof.EnumMake
import PyProof.Draws
import PyProof.StrWalks
import PyProof.Rows.FStr
import PyProof.Rows.CallKw2
import PyProof.StrBlockL
import KE.KIntText
import PyProof.ConsumeWalk
import PyProof.StrBlockG
import PyProof.CallStr
import PyProof.Rows.Range3
import PyProof.MeetsDict
import PyProof.DictList
import PyProof.StrLawsChain
import PyProof.StrLawsNeg
import KE.IntTextLaws
import KE.IntTextText
import PyProof.CallFns
import PyProof.CompUse
import PyProof.DictWalks
import KE.KDictSum
import PyProof.FString5
import KE.KLam
import KE.KSortKey
import KE.KNestM
import PyProof.Rows.RuleN_abs
import PyProof.WalkInts
import KE.KMinKey
import KE.KSortTup
import PyProof.DictCompW
import PyProof.SetRoads
import PyProof.SetNew
import KE.KEqDict
import PyProof.ListRange
import PyProof.Rows.SortRuns
import PyProof.Rows.SortShell
import PySem.Challenge.RW_cleanrows_k21_whole_put_and_cut
local macro_rules | `(f!$_)=>`(by decide +kernel)
open PySem.W (instObj methodObj hideAll hideAll_get of_hideAll lookIn plainGet hasDictIn handedIn plainGet_of isFn plainOver takerIn makesIn emptyDict keepIn methodCall_KW takesIn callWith_K fnOf codeIn excIn clsIn nsIn mg_of mg_none_of)
open List (mem_cons_self mem_cons_of_mem mem_cons mem_append mem_append_left mem_append_right size_toArray length_cons map_cons length_map append_nil nodup_cons replicate length length_take getElem?_map getElem?_take_of_lt mem_of_getElem? length_append length_drop any_cons replicate_succ flatten_cons foldl map_nil lookup_cons all_eq_true getD_eq_getElem?_getD mem_singleton take_of_length_le not_mem_nil find?_cons length_nil filter_cons pairwise_cons map_map map_append length_eq_zero_iff getElem?_drop mem_map take_add_one foldl_append pairwise_append extract_eq_drop_take take_append_drop drop_eq_nil_of_le length_pos_iff getElem?_of_mem flatMap_append)
open PySem.Heap (lt_size SameBut get?_push_of_some get?_push_size size_push get?_update_self get?_update_other UpToSlots ExtBut)
open Nat (lt_irrefl ne_of_lt ne_of_gt zero_le le_of_eq lt_succ_self le_succ lt_succ_of_lt lt_trans lt_of_succ_lt zero_add)
open Array (length_toList getElem?_toList getD getD_eq_getD_getElem? toList_push toList_extract getElem_toList toList_append)
open Option (isSome_iff_exists getD_none bind_some isSome_map map_eq_some_iff map)
open Bool (and_eq_true false_eq_true not_eq_true')
open Int (toNat_natCast)
open PySem.Value (float type builtin)
open PyProof.Rows (KeyOrd)
open PySem.F (slot_tuple_add entry_tuple_add args_tuple_add_2 slot_dict_get plainAttrs_dict called_set)
open PySem.Obj (mapSeq isFreed_of_fields mapFields data_mapFields)
set_option Elab.async false
set_option linter.all false
set_option maxRecDepth 100000
namespace L2
open PySem PySem.Spec PyProof.Rows
abbrev Key:=Sum Int Str
def zbt:Key->Value->Bool
 | .inl k,v=>Value.isInt k v
 | .inr x,v=>Value.isStrOf x v
def zof(w:World):Key->Int
 | .inl k=>hashInt k
 | .inr x=>hashStr w x
theorem za4:∀{k:Key}{v:Value},zbt k v=true->(∃i t,k=Sum.inl i/\v=Value.int i t)\/(∃x t,k=Sum.inr x/\v=Value.str x t)
 | .inl i,v,h=>by
  obtain ⟨t,e⟩:=Value.isInt_shape (k:=i) (v:=v) h
  exact .inl ⟨i,t,rfl,e⟩
 | .inr x,v,h=>by
  obtain ⟨t,e⟩:=Value.isStrOf_shape (x:=x) (v:=v) h
  exact .inr ⟨x,t,rfl,e⟩
theorem zs1(i:Int)(t:Tok):zbt (.inl i) (.int i t)=true:=by simp [zbt,Value.isInt]
theorem zjw(x:Str)(t:Tok):zbt (.inr x) (.str x t)=true:=by simp [zbt,Value.isStrOf]
theorem zp3(a b:Int):decide ((Sum.inl a:Key)=Sum.inl b)=(a==b):=by
 by_cases e:a=b
 ·subst e;simp
 ·have h : ¬ (Sum.inl a:Key)=Sum.inl b:=λq=>e (Sum.inl.inj q)
  rw [decide_eq_false h]
  exact (beq_eq_false_iff_ne.mpr e).symm
theorem znc(a b:Str):decide ((Sum.inr a:Key)=Sum.inr b)=decide (a=b):=by
 by_cases e:a=b
 ·subst e;simp
 ·have h : ¬ (Sum.inr a:Key)=Sum.inr b:=λq=>e (Sum.inr.inj q)
  rw [decide_eq_false h,decide_eq_false e]
theorem zlZ(a:Int)(b:Str):decide ((Sum.inl a:Key)=Sum.inr b)=false:=decide_eq_false (λq=>nomatch q)
theorem zlE(a:Str)(b:Int):decide ((Sum.inr a:Key)=Sum.inl b)=false:=decide_eq_false (λq=>nomatch q)
def zaj(prog:Program)(w:World):PySem.KeyKind prog w Key where
 is:=zbt
 hash:=zof w
 inj:=λv a b ha hb=>by
  rcases za4 ha with ⟨i,t,rfl,rfl⟩|⟨x,t,rfl,rfl⟩
  ·rcases za4 hb with ⟨j,u,rfl,e⟩|⟨y,u,rfl,e⟩
   ·injection e with e1 _;rw [e1]
   ·exact nomatch e
  ·rcases za4 hb with ⟨j,u,rfl,e⟩|⟨y,u,rfl,e⟩
   ·exact nomatch e
   ·injection e with e1 _;rw [e1]
 byValue:=λk v h=>by
  rcases za4 h with ⟨i,t,rfl,rfl⟩|⟨x,t,rfl,rfl⟩<;>rfl
 pyHash:=λhv h=>by
  rcases za4 hv with ⟨i,t,rfl,rfl⟩|⟨x,t,rfl,rfl⟩
  ·exact wpAny_pyHash_int h
  ·exact wpAny_pyHash_str h
 eqBool:=λhu hv h=>by
  rcases za4 hu with ⟨i,t,rfl,rfl⟩|⟨x,t,rfl,rfl⟩
  ·rcases za4 hv with ⟨j,u,rfl,rfl⟩|⟨y,u,rfl,rfl⟩
   ·rw [zp3] at h;exact wpAny_eqBool_int h
   ·rw [zlZ] at h;exact SeqAt.EqAt.int_str i t y u _ _ _ _ h
  ·rcases za4 hv with ⟨j,u,rfl,rfl⟩|⟨y,u,rfl,rfl⟩
   ·rw [zlE] at h;exact SeqAt.EqAt.str_int x t j u _ _ _ _ h
   ·rw [znc] at h;exact wpAny_eqBool_str h
 «strs»:=λk x t v h=>by
  rcases za4 h with ⟨i,u,rfl,e⟩|⟨y,u,rfl,e⟩
  ·exact nomatch e
  ·injection e with e1 _
   subst e1
   cases v<;>rfl
theorem zs3(prog:Program)(w:World)(i:Int)(t:Tok):(zaj prog w).is (.inl i) (.int i t)=true:=zs1 i t
theorem zsv(prog:Program)(w:World)(x:Str)(t:Tok):(zaj prog w).is (.inr x) (.str x t)=true:=zjw x t
inductive V where
 | non|bl (b:Bool)|int (i:Int)|str (x:Str)|byt (b:Array UInt8)|flt (b:UInt64)|ref (a:Addr)|ty (n:String)
 deriving DecidableEq
def ze:V->Value->Prop
 | .non,u=>u=Value.none
 | .bl b,u=>u=Value.bool b
 | .int i,u=>∃t,u=Value.int i t
 | .str x,u=>∃t,u=Value.str x t
 | .byt b,u=>∃t,u=Value.bytes b t
 | .flt b,u=>∃t,u=float b t
 | .ref a,u=>u=Value.ref a
 | .ty n,u=>u=type n
abbrev zi:List V->List Value->Prop:=Paired ze
theorem zi.length{xs:List V}{us:List Value}(r:zi xs us):xs.length=us.length:=Paired.length r
theorem zi.get:∀{xs:List V}{us:List Value}{i:Nat}{x:V},zi xs us->xs[i]?=some x->∃u,us[i]?=some u/\ze x u
 | _,_,_,_,.nil,e=>by simp at e
 | _,_,0,_,.cons r _,e=>by simp at e;subst e;exact ⟨_,rfl,r⟩
 | _,_,i+1,x,.cons _ t,e=>by
  obtain ⟨u,h1,h2⟩:=zi.get (i:=i) (x:=x) t (by simpa using e)
  exact ⟨u,by simpa using h1,h2⟩
theorem zi.set{x:V}{u:Value}(r:ze x u):∀{xs:List V}{us:List Value}(i:Nat),zi xs us->zi (xs.set i x) (us.set i u)
 | _,_,_,.nil=>.nil
 | _,_,0,.cons _ t=>.cons r t
 | _,_,i+1,.cons q t=>.cons q (zi.set r i t)
theorem zi.append:∀{xs ys:List V}{us ws:List Value},zi xs us->zi ys ws->zi (xs++ys) (us++ws)
 | _,_,_,_,.nil,s=>s
 | _,_,_,_,.cons r t,s=>.cons r (zi.append t s)
theorem zi.take:∀{xs:List V}{us:List Value}(n:Nat),zi xs us->zi (xs.take n) (us.take n)
 | _,_,0,_=>.nil
 | _,_,_+1,.nil=>.nil
 | _,_,n+1,.cons r t=>.cons r (zi.take n t)
theorem zi.drop:∀{xs:List V}{us:List Value}(n:Nat),zi xs us->zi (xs.drop n) (us.drop n)
 | _,_,0,r=>r
 | _,_,_+1,.nil=>.nil
 | _,_,n+1,.cons _ t=>zi.drop n t
def zas:Option V->Option Value->Prop
 | some v,some u=>ze v u
 | none,none=>True
 | _,_=>False
def KV{κ:Type}:List (κ×V)->List (κ×Value)->Prop:=Paired λ(p:κ×V)(q:κ×Value)=>p.1=q.1/\ze p.2 q.2
def kV:Key->V
 | .inl i=>.int i
 | .inr x=>.str x
inductive HO where
 | lst (xs:List V)
 | tup (xs:List V)
 | dK (kvs:List (Key×V))|dT (kvs:List (List Key×V))
 | set (S:Int->Bool) (n:Nat)
 | ins (C dx:Addr) (fs:List (Str×V))
 | own (x:Addr)
 | xd (fs:List (Str×V))
 | met (f x:Addr)
 | rng (lo hi:Int)
 | frz (o:Obj) (u:HO)
 | tbl (ps:Array Value)
 | ext (φ:Heap->Prop)
abbrev Hp:=Addr->Option HO
def upd(H:Hp)(a:Addr)(o:HO):Hp:=λb=>if b=a then some o else H b
theorem zx{H:Hp}{a:Addr}{o:HO}:upd H a o a=some o:=by unfold upd;rw [if_pos rfl]
theorem zh{H:Hp}{a b:Addr}{o:HO}(h:b≠a):upd H a o b=H b:=by unfold upd;rw [if_neg h]
theorem zrf{H:Hp}{a b:Addr}{o u:HO}(h:H a=some o)(h':H b=some u)(d:o≠u):a≠b:=by
 intro e;subst e;rw [h] at h';exact d (Option.some.inj h')
theorem zT{H:Hp}{a b:Addr}{o:HO}(h:H a=some o)(h':H b=none):a≠b:=by
 intro e;subst e;rw [h] at h';cases h'
section
variable (P:Program) (w:World)
def zQ(H:Hp)(h:Heap)(a:Addr):HO->Prop
 | .lst xs=>xs.length<=sizeLine/\∃(its:List Value)(n:Nat),zi xs its/\h.get? a=some { cls:=.type "list",data:=.seq its.toArray n }
 | .tup xs=>xs.length<=sizeLine/\∃its:List Value,zi xs its/\IsTup h a its.toArray
 | .dK kvs=>kvs.length<=sizeLine/\(a==sysModules)=false/\∃vs,KV kvs vs/\h.DictOf (zaj P w) a vs
 | .dT kvs=>kvs.length<=sizeLine/\(a==sysModules)=false/\∃xs:List (List Key×Addr×Value),
   Paired (λ(p:List Key×V)(q:List Key×Addr×Value)=>p.1=q.1/\H q.2.1=some (.tup (p.1.map kV))/\ze p.2 q.2.2) kvs xs /\
   ∃o es ep,h.get? a=some o/\o.ExactDict/\o.data = .dict es ep/\es.toList=xs.map (entryOfKey (tupleKind (zaj P w)))/\(xs.map (·.1)).Nodup
 | .set S n=>h.SetOf (intKind P w) a S n
 | .ins C dx fs=>H dx=some (.own a)/\fs.length<=1000/\dx≠a/\h.get? a=some (instObj C dx) /\
   ∃mA,h.Ns1 dx mA/\(∀f,zas (fs.lookup f) (mA f))/\PySem.Within mA (fs.map (·.1))
 | .own _=>∃o,h.get? a=some o
 | .xd fs=>∃mA,h.Ns1 a mA/\∀f,zas (fs.lookup f) (mA f)
 | .rng lo hi=>∃t u v,h.get? a=some { cls:=.type "range",data:=.fields #[.int lo t,.int hi u,.int 1 v] }
 | .frz o u=>h.get? a=some o/\zQ H h a u
 | .tbl ps=>h.get? a=some { cls:=.none,data:=.fields ps }
 | .met f x=>h.get? a=some (methodObj (.ref f) (.ref x))
 | .ext φ=>φ h/\(∃o,h.get? a=some o)/\∀h1 h2:Heap,φ h1->(∀o,h1.get? a=some o->h2.get? a=some o)->φ h2
def HOk(H:Hp)(h:Heap):Prop:=∀a o,H a=some o->zQ P w H h a o
end
section
variable {P:Program}{w:World}{H H':Hp}{h h':Heap}{a:Addr}{o:HO}
theorem zQ.lt(x:zQ P w H h a o):a<h.objs.size:=by
 cases o with
 | lst xs=>obtain ⟨_,_,_,_,e⟩:=x;exact lt_size e
 | tup xs=>obtain ⟨_,_,_,p⟩:=x;exact p.lt
 | dK kvs=>obtain ⟨_,_,_,_,o,_,_,e,_⟩:=x;exact lt_size e
 | dT kvs=>obtain ⟨_,_,_,_,o,_,_,e,_⟩:=x;exact lt_size e
 | set S n=>obtain ⟨o,_,_,_,e,_⟩:=x;exact lt_size e
 | ins C dx fs=>obtain ⟨_,_,_,e,_⟩:=x;exact lt_size e
 | own y=>obtain ⟨_,e⟩:=x;exact lt_size e
 | xd fs=>obtain ⟨_,⟨_,_,_,e,_⟩,_⟩:=x;exact lt_size e
 | rng lo hi=>obtain ⟨_,_,_,e⟩:=x;exact lt_size e
 | frz ob u=>obtain ⟨e,_⟩:=x;exact lt_size e
 | tbl ps=>exact lt_size (show h.get? a=some _ from x)
 | met f y=>exact lt_size (show h.get? a=some _ from x)
 | ext φ=>obtain ⟨_,⟨_,e⟩,_⟩:=x;exact lt_size e
theorem Paired.mapP{α β:Type}{F G:α->β->Prop}:∀{l₁:List α}{l₂:List β},Paired F l₁ l₂->(∀a b,F a b->G a b)->Paired G l₁ l₂
 | _,_,.nil,_=>.nil
 | _,_,.cons r t,f=>.cons (f _ _ r) (Paired.mapP t f)
theorem zQ.stay(x:zQ P w H h a o)(k:∀b u,(b=a\/H b=some (.own a))->h.get? b=some u->h'.get? b=some u)
  (ho:∀b,H b=some (.own a)->H' b=some (.own a)) (ht:∀b xs,H b=some (.tup xs)->H' b=some (.tup xs)):zQ P w H' h' a o:=by
 induction o with
 | lst xs=>obtain ⟨z,its,n,r,e⟩:=x;exact ⟨z,its,n,r,k _ _ (.inl rfl) e⟩
 | tup xs=>obtain ⟨z,its,r,ob,e,c⟩:=x;exact ⟨z,its,r,ob,k _ _ (.inl rfl) e,c⟩
 | dK kvs=>obtain ⟨z,y,vs,r,ob,es,ep,e,c⟩:=x;exact ⟨z,y,vs,r,ob,es,ep,k _ _ (.inl rfl) e,c⟩
 | dT kvs =>
  obtain ⟨z,y,xs,r,ob,es,ep,e,c⟩:=x
  exact ⟨z,y,xs,Paired.mapP r λp q z=>⟨z.1,ht _ _ z.2.1,z.2.2⟩,ob,es,ep,k _ _ (.inl rfl) e,c⟩
 | set S n=>obtain ⟨ob,es,ep,t,e,c⟩:=x;exact ⟨ob,es,ep,t,k _ _ (.inl rfl) e,c⟩
 | ins C dx fs =>
  obtain ⟨d,z,ne,e,mA,⟨od,es,ep,e2,c⟩,r⟩:=x
  exact ⟨ho _ d,z,ne,k _ _ (.inl rfl) e,mA,⟨od,es,ep,k _ _ (.inr d) e2,c⟩,r⟩
 | own y=>obtain ⟨ob,e⟩:=x;exact ⟨ob,k _ _ (.inl rfl) e⟩
 | xd fs=>obtain ⟨mA,⟨od,es,ep,e,c⟩,r⟩:=x;exact ⟨mA,⟨od,es,ep,k _ _ (.inl rfl) e,c⟩,r⟩
 | rng lo hi=>obtain ⟨t,u,v,e⟩:=x;exact ⟨t,u,v,k _ _ (.inl rfl) e⟩
 | frz ob u ih=>obtain ⟨e,q⟩:=x;exact ⟨k _ _ (.inl rfl) e,ih q⟩
 | tbl ps =>
  have e:h.get? a=some { cls:=.none,data:=.fields ps }:=x
  show h'.get? a=some { cls:=.none,data:=.fields ps }
  exact k a _ (.inl rfl) e
 | met f y =>
  have e:h.get? a=some (methodObj (.ref f) (.ref y)):=x
  show h'.get? a=some (methodObj (.ref f) (.ref y))
  exact k a _ (.inl rfl) e
 | ext φ=>obtain ⟨p,⟨o,e⟩,st⟩:=x;exact ⟨st _ _ p λo q=>k _ _ (.inl rfl) q,⟨o,k _ _ (.inl rfl) e⟩,st⟩
theorem HOk.lt(x:HOk P w H h)(e:H a=some o):a<h.objs.size:=(x a o e).lt
theorem HOk.fresh(x:HOk P w H h)(e:h.objs.size<=a):H a=none:=by
 cases q:H a with
 | none=>rfl
 | some u=>exact absurd (Nat.lt_of_lt_of_le (x.lt q) e) (lt_irrefl _)
theorem HOk.kept(x:HOk P w H h)(k:∀b u,h.get? b=some u->h'.get? b=some u):HOk P w H h':=λa o e =>
 (x a o e).stay (λb u _ q=>k b u q) (λ_ q=>q) λ_ _ q=>q
theorem HOk.laid(x:HOk P w H h)(k:∀b u,h.get? b=some u->h'.get? b=some u)(hp:h.objs.size<=a)(new:zQ P w (upd H a o) h' a o):HOk P w (upd H a o) h':=λb u e=>by
 have hn:=x.fresh hp
 by_cases hb:b=a
 ·subst hb;rw [zx] at e;cases e;exact new
 ·rw [zh hb] at e
  exact (x b u e).stay (λc v _ q=>k c v q) (λc q=>by rw [zh (zT q hn)];exact q) λc xs q=>by rw [zh (zT q hn)];exact q
end
def Rd(H:Hp)(a:Addr)(u:HO):Prop:=H a=some u\/∃o,H a=some (.frz o u)
theorem Rd.of{H:Hp}{a:Addr}{u:HO}(h:H a=some u):Rd H a u:=.inl h
theorem Rd.ok{P:Program}{w:World}{H:Hp}{h:Heap}{a:Addr}{u:HO}(r:Rd H a u)(x:HOk P w H h):zQ P w H h a u:=by
 rcases r with r|⟨o,r⟩
 ·exact x a u r
 ·obtain ⟨_,q⟩:=x a _ r
  exact q
def Mut:Option HO->Prop
 | some (.lst _)=>True
 | some (.dK _)=>True
 | some (.dT _)=>True
 | some (.set _ _)=>True
 | some (.ins _ _ _)=>True
 | some (.ext _)=>True
 | _=>False
section
variable {P:Program}{w:World}{H:Hp}{h h':Heap}{x e:Addr}{o':HO}
theorem HOk.write(ok:HOk P w H h)(mu:Mut (H x))(he:e=x\/H e=some (.own x))(k:∀b u,b≠e->h.get? b=some u->h'.get? b=some u)(heo:∃u,h'.get? e=some u)
  (new:zQ P w (upd H x o') h' x o'):HOk P w (upd H x o') h':=λb u q=>by
 have nown:∀c y,H c=some (.own y)->c≠x:=λc y r z=>by subst z;rw [r] at mu;exact mu
 have ntup:∀c xs,H c=some (.tup xs)->c≠x:=λc xs r z=>by subst z;rw [r] at mu;exact mu
 by_cases hb:b=x
 ·subst hb;rw [zx] at q;cases q;exact new
 ·rw [zh hb] at q
  by_cases hbe:b=e
  ·have q':H b=some (.own x):=by
    rcases he with z|z
    ·exact absurd (hbe.trans z) hb
    ·rw [hbe];exact z
   rw [q] at q';cases q'
   obtain ⟨v,hv⟩:=heo
   exact ⟨v,by rw [hbe];exact hv⟩
  ·refine (ok b u q).stay (λc v hc r=>k c v ?_ r) (λc r=>by rw [zh (nown c b r)];exact r) λc xs r=>by rw [zh (ntup c xs r)];exact r
   rcases hc with rfl|hc
   ·exact hbe
   ·rintro rfl
    rcases he with z|z
    ·exact nown c b hc z
    ·rw [hc] at z;cases z;exact hb rfl
end
structure Un(fs ex:List Addr)(H H':Hp)(h h':Heap):Prop where
 keep:∀b o,h.get? b=some o->H b=none->b∉fs->b∉ex->h'.get? b=some o
 slot:∀b o,h.get? b=some o->H b=none->b∈fs->b∉ex->∃sl,h'.get? b=some { o with slots:=sl }
 free:∀b o,h.get? b=some o->H b=none->b∉ex->H' b=none
 there:∀b o,h.get? b=some o->b∉ex->∃o',h'.get? b=some o'
 tups:∀b xs,H b=some (.tup xs)->H' b=some (.tup xs)
 frzs:∀b o u,H b=some (.frz o u)->H' b=some (.frz o u)
 tbls:∀b ps,H b=some (.tbl ps)->∃more,H' b=some (.tbl (ps++more))
section
variable {fs fs' ex ex':List Addr}{H H1 H2:Hp}{h h1 h2 h':Heap}{a x e:Addr}{o:HO}
theorem Un.any(u:Un fs ex H H1 h h1){b:Addr}{ob:Obj}(q:h.get? b=some ob)(n:H b=none)(hx:b∉ex):∃sl,h1.get? b=some { ob with slots:=sl }:=by
 by_cases hb:b∈fs
 ·exact u.slot b ob q n hb hx
 ·exact ⟨ob.slots,u.keep b ob q n hb hx⟩
theorem Un.trans(a:Un fs ex H H1 h h1)(b:Un fs ex H1 H2 h1 h2):Un fs ex H H2 h h2 where
 keep:=λc ob q n hc hx=>b.keep c ob (a.keep c ob q n hc hx) (a.free c ob q n hx) hc hx
 slot:=λc ob q n hc hx=>by
  obtain ⟨sl,e1⟩:=a.slot c ob q n hc hx
  obtain ⟨sl',e2⟩:=b.slot c _ e1 (a.free c ob q n hx) hc hx
  exact ⟨sl',e2⟩
 free:=λc ob q n hx=>by
  obtain ⟨o',e1⟩:=a.there c ob q hx
  exact b.free c o' e1 (a.free c ob q n hx) hx
 there:=λc ob q hx=>by
  obtain ⟨o',e1⟩:=a.there c ob q hx
  exact b.there c o' e1 hx
 tups:=λc xs q=>b.tups c xs (a.tups c xs q)
 frzs:=λc ob xs q=>b.frzs c ob xs (a.frzs c ob xs q)
 tbls:=λc ps q=>by
  obtain ⟨m1,e1⟩:=a.tbls c ps q
  obtain ⟨m2,e2⟩:=b.tbls c _ e1
  exact ⟨m1++m2,by rw [e2,Array.append_assoc]⟩
theorem Un.kept(k:∀b u,h.get? b=some u->h'.get? b=some u):Un fs ex H H h h' :=
 ⟨λb ob q _ _ _=>k b ob q,λb ob q _ _ _=>⟨ob.slots,k b ob q⟩,λ_ _ _ n _=>n,λb ob q _=>⟨ob,k b ob q⟩,λ_ _ q=>q,λ_ _ _ q=>q,λ_ ps q=>⟨#[],by rw [q];simp⟩⟩
theorem Un.refl:Un fs ex H H h h:=Un.kept λ_ _ q=>q
theorem Un.laid(k:∀b u,h.get? b=some u->h'.get? b=some u)(hp:h.objs.size<=a)(hn:H a=none):Un fs ex H (upd H a o) h h' where
 keep:=λb u q _ _ _=>k b u q
 slot:=λb u q _ _ _=>⟨u.slots,k b u q⟩
 free:=λb u q n _=>by rw [zh (ne_of_lt (Nat.lt_of_lt_of_le (lt_size q) hp))];exact n
 there:=λb u q _=>⟨u,k b u q⟩
 tups:=λb xs q=>by rw [zh (zT q hn)];exact q
 frzs:=λb u xs q=>by rw [zh (zT q hn)];exact q
 tbls:=λb ps q=>⟨#[],by rw [zh (zT q hn),q];simp⟩
theorem Un.write(mu:Mut (H x))(he:e=x\/H e=some (.own x))(k:∀b u,b≠e->h.get? b=some u->h'.get? b=some u)(heo:∃u,h'.get? e=some u):Un fs ex H (upd H x o) h h':=by
 have hx:∀b,H b=none->b≠x:=λb n z=>by subst z;rw [n] at mu;exact mu
 have hb:∀b,H b=none->b≠e:=λb n z=>by
  subst z
  rcases he with r|r
  ·exact hx b n r
  ·rw [n] at r;cases r
 have hm:∀b u,H b=some u->¬ Mut (some u)->b≠x:=λb u q nm z=>by subst z;rw [q] at mu;exact nm mu
 refine ⟨λb u q n _ _=>k b u (hb b n) q,λb u q n _ _=>⟨u.slots,k b u (hb b n) q⟩,λb u q n _=>by rw [zh (hx b n)];exact n,λb u q _=>?_,
  λb xs q=>by rw [zh (hm b _ q λz=>z)];exact q,λb u xs q=>by rw [zh (hm b _ q λz=>z)];exact q,λb ps q=>⟨#[],by rw [zh (hm b _ q λz=>z),q];simp⟩⟩
 by_cases hbe:b=e
 ·subst hbe;exact heo
 ·exact ⟨u,k b u hbe q⟩
end
def trk(h:Heap)(H:Hp):List Addr:=(List.range h.objs.size).filter λa=>(H a).isSome
def zbj(h:Heap)(H:Hp):Heap:=hideAll h (trk h H)
theorem zqs(h:Heap)(H:Hp):(zbj h H).objs.size=h.objs.size:=PySem.W.hideAll_size _ _
theorem zsk{h:Heap}{H:Hp}{b:Addr}{o:Obj}(e:h.get? b=some o)(n:H b=none):(zbj h H).get? b=some o :=
 hideAll_get _ e λhm=>by
  have q:(H b).isSome=true:=(List.mem_filter.mp hm).2
  rw [n] at q;simp at q
theorem zjJ{h:Heap}{H:Hp}{b:Addr}{o:Obj}(e:(zbj h H).get? b=some o):h.get? b=some o/\H b=none:=by
 have e':h.get? b=some o:=of_hideAll (trk h H) e
 refine ⟨e',?_⟩
 cases q:H b with
 | none=>rfl
 | some x =>
  have hm:b∈trk h H:=List.mem_filter.mpr ⟨List.mem_range.mpr (lt_size e'),by simp [q]⟩
  have z:(zbj h H).get? b=none:=PySem.W.hideAll_none (trk h H) hm
  rw [z] at e;cases e
def zpY(g h:Heap)(L:Addr):List (Addr×Obj):=(List.range h.objs.size).filterMap λa=>if a=L\/(g.get? a).isSome=true then none else (h.get? a).map λo=>(a,o)
def zo(g h:Heap)(L d:Addr):List (Addr×Obj):=(zpY g h L).filter λp=>decide (p.1≠d)
structure Mod(K:PySem.W.Frag)(mg:Str->Option Value)(base:Heap):Prop where
 kin:K.In base
 glob:base.Ns mainGlobals mg
 blt:∃mb,base.Ns builtinsNs mb/\∀x:Str,x≠"__name__"->mb x=bootBuiltins x
 nolimit:base.NoLimit
def zdg(A:Around)(H:Hp):Prop:=A.handled=none\/∃(a:Addr)(o:Obj)(vs:Array Value),A.handled=some (.ref a)/\H a=some (.frz o (.own 0))/\o.data = .fields vs/\vs[2]?=some .none/\∃C,o.cls = .ref C
theorem zdg.same{A:Around}{H H':Hp}(x:zdg A H)(k:∀b o u,H b=some (.frz o u)->H' b=some (.frz o u)):zdg A H':=by
 rcases x with x|⟨a,o,vs,h1,h2,h3⟩
 ·exact .inl x
 ·exact .inr ⟨a,o,vs,h1,k _ _ _ h2,h3⟩
structure Cx where
 prog:Program
 w:World
 K:PySem.W.Frag
 mg:Str->Option Value
 base:Heap
 A:Around
 N:List Str
 s₀:Shared
 H₀:Hp
 env:Env
 outer:List Env
 stack:List Env
 ex:List Addr
 fn:Str->Bool
 calm:Bool
 pn:List (Addr×Obj)
 xe:Value->Shared->Prop
def frs(l:List Env):List Addr:=l.filterMap (·.frame)
abbrev Cx.fs(X:Cx):List Addr:=frs X.outer
def Vis(sc:Scope)(x:Str):Prop:=sc.names.lookup x=some .local\/sc.names.lookup x=some .cell\/sc.names.lookup x=some .free
def Loc(sc:Scope)(x:Str):Prop:=sc.names.lookup x=some .local\/sc.names.lookup x=some .cell
def ziP(env:Env)(h:Heap)(m:Str->Option Value)(x:Str)(u:Value):Prop :=
 (env.kindOf x=some .local/\m x=some u)\/((env.kindOf x=some .cell\/env.kindOf x=some .free)/\∃c,env.cells.lookup x=some c/\h.IsCell c (some u))
structure Cx.Ok(X:Cx):Prop where
 mod:Mod X.K X.mg X.base
 kind:X.env.scope.kind = .function
 glob:X.env.globals=mainGlobals
 blt:X.env.builtins=builtinsNs
 above:X.s₀.heap.objs.size<=X.env.locals
 inj:∀x y c,X.env.cells.lookup x=some c->X.env.cells.lookup y=some c->x=y
 has:∀x,(X.env.kindOf x=some .cell\/X.env.kindOf x=some .free)->∃c,X.env.cells.lookup x=some c
 cab:∀x c,X.fn x=true->X.env.cells.lookup x=some c->X.s₀.heap.objs.size<=c
 hd:X.calm=true->X.A.handled=none
 frames:X.A.frames=some X.stack
 stk:X.stack=X.outer\/(X.stack=X.env::X.outer/\X.env.frame=some X.env.locals)
 exf:∀b∈X.ex,b≠X.env.locals/\∀x c,X.env.cells.lookup x=some c->c≠b
 bs:∀b o,X.base.get? b=some o->X.s₀.heap.get? b=some o/\X.H₀ b=none
 bsz:X.base.objs.size<=X.s₀.heap.objs.size
 noex:∀b o,X.base.get? b=some o->b∉X.ex
 exfs:∀b∈X.ex,b∉X.fs
 funs:X.s₀.heap.FunFrames X.base X.outer
 frf:∀b∈X.fs,X.H₀ b=none
structure Inv(X:Cx)(Ga:List (Addr×Obj))(σ:List (Option V))(H:Hp)(s:Shared):Prop where
 ok:X.Ok
 os:s.os=X.s₀.os
 bare:AllBare s.gens
 base:Un X.fs X.ex X.H₀ H X.s₀.heap s.heap
 loc:∃m,s.heap.Ns X.env.locals m/\∀(i:Nat)(x:Str)(v:V),X.N[i]?=some x->σ[i]?=some (some v)->Vis X.env.scope x->∃u,ze v u/\ziP X.env s.heap m x u
 cell:∀x c,X.env.cells.lookup x=some c->∃v,s.heap.IsCell c v
 free:H X.env.locals=none
 freeC:∀x c,X.env.cells.lookup x=some c->H c=none
 pin:∀p∈X.pn++Ga,s.heap.get? p.1=some p.2/\H p.1=none/\p.1≠X.env.locals/\p.1∉X.fs/\∀v,p.2.data≠.cell v
 hok:HOk X.prog X.w H s.heap
 len:σ.length=X.N.length
 hdk:zdg X.A H
section
variable {X:Cx}{Ga:List (Addr×Obj)}{σ:List (Option V)}{H H':Hp}{s:Shared}{h':Heap}
theorem Cx.Ok.nofr(ok:X.Ok){b:Addr}{o:Obj}(e:X.base.get? b=some o):b∉X.fs:=λhb=>by
 have:=(ok.funs.mem hb).1
 rw [e] at this;cases this
theorem Inv.bs(I:Inv X Ga σ H s):∀b o,X.base.get? b=some o->s.heap.get? b=some o/\H b=none:=λb o e =>
 ⟨I.base.keep b o (I.ok.bs b o e).1 (I.ok.bs b o e).2 (I.ok.nofr e) (I.ok.noex b o e),I.base.free b o (I.ok.bs b o e).1 (I.ok.bs b o e).2 (I.ok.noex b o e)⟩
theorem Inv.bk(I:Inv X Ga σ H s):∀b o,X.base.get? b=some o->s.heap.get? b=some o:=λb o e=>(I.bs b o e).1
theorem Inv.mod(I:Inv X Ga σ H s):Mod X.K X.mg X.base:=I.ok.mod
theorem Inv.kIn(I:Inv X Ga σ H s):X.K.In s.heap:=I.ok.mod.kin.keeps I.bk
theorem Inv.lt(I:Inv X Ga σ H s):X.env.locals<s.heap.objs.size:=let ⟨_,hn,_⟩:=I.loc;hn.lt
theorem Inv.sz(I:Inv X Ga σ H s):X.s₀.heap.objs.size<=s.heap.objs.size:=Nat.le_trans I.ok.above (Nat.le_of_lt I.lt)
theorem Inv.nofs(I:Inv X Ga σ H s){a:Addr}(h:s.heap.objs.size<=a):a∉X.fs:=λhb=>by
 obtain ⟨_,o,ho,_⟩:=I.ok.funs.mem hb
 exact absurd (Nat.lt_of_lt_of_le (lt_size ho) (Nat.le_trans I.sz h)) (lt_irrefl _)
theorem Inv.cne(I:Inv X Ga σ H s):∀x c,X.env.cells.lookup x=some c->c≠X.env.locals:=λx c e z=>by
 obtain ⟨v,o,ho,hd⟩:=I.cell x c e
 obtain ⟨m,⟨o',es,ep,ho',hd',_⟩,_⟩:=I.loc
 rw [z,ho'] at ho;cases ho;rw [hd'] at hd;cases hd
theorem Inv.funs(I:Inv X Ga σ H s):s.heap.FunFrames X.base X.outer:=by
 have all:∀(l:List Env),(∀b∈frs l,b∈X.fs)->X.s₀.heap.FunFrames X.base l->s.heap.FunFrames X.base l:=by
  intro l
  induction l with
  | nil=>intro _ _;trivial
  | cons env r ih =>
   intro hs hl
   obtain ⟨hk,⟨L,o,hf,hn,ho,hd⟩,hr⟩:=hl
   have hL:L∈X.fs:=hs L (by unfold frs;rw [List.filterMap_cons,hf];exact mem_cons_self)
   obtain ⟨sl,e⟩:=I.base.slot L o ho (I.ok.frf L hL) hL λz=>I.ok.exfs L z hL
   exact ⟨hk,⟨L,_,hf,hn,e,hd⟩,ih (λb hb=>hs b (by unfold frs;rw [List.filterMap_cons,hf];exact mem_cons_of_mem _ hb)) hr⟩
 exact all X.outer (λ_ hb=>hb) I.ok.funs
theorem Inv.stack(I:Inv X Ga σ H s):s.heap.FunFrames X.base X.stack:=by
 rcases I.ok.stk with e|⟨e,hf⟩
 ·rw [e];exact I.funs
 ·rw [e]
  obtain ⟨m,hn,_⟩:=I.loc
  refine .cons (by rw [I.ok.kind];decide) hf hn ?_ I.funs
  exact Heap.get?_none_of_le (Nat.le_trans I.ok.bsz I.ok.above)
theorem Inv.stkSub(I:Inv X Ga σ H s):∀b∈frs X.stack,b∈X.env.locals::X.fs:=λb hb=>by
 rcases I.ok.stk with e|⟨e,hf⟩
 ·rw [e] at hb;exact mem_cons_of_mem _ hb
 ·rw [e] at hb
  unfold frs at hb
  rw [List.filterMap_cons,hf] at hb
  exact hb
theorem Inv.stkFree(I:Inv X Ga σ H s):∀b∈frs X.stack,H b=none:=λb hb=>by
 rcases mem_cons.mp (I.stkSub b hb) with e|hb
 ·rw [e];exact I.free
 ·obtain ⟨_,o,ho,_⟩:=I.ok.funs.mem hb
  exact I.base.free b o ho (I.ok.frf b hb) λz=>I.ok.exfs b z hb
theorem Inv.step{g':Array GenState}{t':Nat}{d':Drawn}{ch:List Addr}(I:Inv X Ga σ H s)
  (hch:∀b∈ch,(b∈X.ex\/X.s₀.heap.objs.size<=b)/\b≠X.env.locals/\(∀x c,X.env.cells.lookup x=some c->c≠b)/\∀p∈X.pn++Ga,p.1≠b)
  (keep:∀b o,b≠X.env.locals->b∉X.fs->b∉ch->s.heap.get? b=some o->H b=none->h'.get? b=some o)
  (slot:∀b o,b≠X.env.locals->b∈X.fs->b∉ch->s.heap.get? b=some o->H b=none->∃sl,h'.get? b=some { o with slots:=sl }) (free:∀b o,b∉ch->s.heap.get? b=some o->H b=none->H' b=none)
  (there:∀b o,b∉ch->s.heap.get? b=some o->∃o',h'.get? b=some o')
  (tups:∀b xs,H b=some (.tup xs)->H' b=some (.tup xs)) (frzs:∀b o u,H b=some (.frz o u)->H' b=some (.frz o u)) (tbls:∀b ps,H b=some (.tbl ps)->∃more,H' b=some (.tbl (ps++more)))
  (ns:∀m,s.heap.Ns X.env.locals m->h'.Ns X.env.locals m) (hok:HOk X.prog X.w H' h') (hg:AllBare g') :
  Inv X Ga σ H' { s with heap:=h',gens:=g',drawn:=d',toks:=t' }:=by
 have neL:∀b o,X.s₀.heap.get? b=some o->b≠X.env.locals:=λb o e=>ne_of_lt (Nat.lt_of_lt_of_le (lt_size e) I.ok.above)
 have neC:∀b o,X.s₀.heap.get? b=some o->b∉X.ex->b∉ch:=λb o e hx hb=>by
  rcases (hch b hb).1 with z|z
  ·exact hx z
  ·exact absurd (Nat.lt_of_lt_of_le (lt_size e) z) (lt_irrefl _)
 have cellK:∀x c,X.env.cells.lookup x=some c->∀v,s.heap.IsCell c v->h'.IsCell c v:=λx c e v ⟨o,ho,hd⟩=>by
  have nch:c∉ch:=λz=>(hch c z).2.2.1 x c e rfl
  by_cases hc:c∈X.fs
  ·obtain ⟨sl,q⟩:=slot c o (I.cne x c e) hc nch ho (I.freeC x c e)
   exact ⟨_,q,hd⟩
  ·exact ⟨o,keep c o (I.cne x c e) hc nch ho (I.freeC x c e),hd⟩
 refine ⟨I.ok,I.os,hg,⟨λb o e n hb hx=>?_,λb o e n hb hx=>?_,λb o e n hx=>?_,λb o e hx=>?_,λb xs e=>tups b xs (I.base.tups b xs e),λb o xs e=>frzs b o xs (I.base.frzs b o xs e),λb ps e=>?_⟩,?_,λx c e=>?_,?_,λx c e=>?_,λp hp=>?_,hok,I.len,I.hdk.same frzs⟩
 ·exact keep b o (neL b o e) hb (neC b o e hx) (I.base.keep b o e n hb hx) (I.base.free b o e n hx)
 ·obtain ⟨sl,e1⟩:=I.base.slot b o e n hb hx
  obtain ⟨sl',e2⟩:=slot b _ (neL b o e) hb (neC b o e hx) e1 (I.base.free b o e n hx)
  exact ⟨sl',e2⟩
 ·obtain ⟨o',e1⟩:=I.base.there b o e hx
  exact free b o' (neC b o e hx) e1 (I.base.free b o e n hx)
 ·obtain ⟨o',e1⟩:=I.base.there b o e hx
  exact there b o' (neC b o e hx) e1
 ·obtain ⟨m1,e1⟩:=I.base.tbls b ps e
  obtain ⟨m2,e2⟩:=tbls b _ e1
  exact ⟨m1++m2,by rw [e2,Array.append_assoc]⟩
 ·obtain ⟨m,hn,hl⟩:=I.loc
  refine ⟨m,ns m hn,λi x v e1 e2 e3=>?_⟩
  obtain ⟨u,r,l⟩:=hl i x v e1 e2 e3
  refine ⟨u,r,?_⟩
  rcases l with l|⟨k,c,e,z⟩
  ·exact .inl l
  ·exact .inr ⟨k,c,e,cellK x c e _ z⟩
 ·obtain ⟨v,z⟩:=I.cell x c e
  exact ⟨v,cellK x c e v z⟩
 ·obtain ⟨m,⟨o,_,_,ho,_⟩,_⟩:=I.loc
  exact free _ o (λz=>(hch _ z).2.1 rfl) ho I.free
 ·obtain ⟨v,o,ho,hd⟩:=I.cell x c e
  exact free c o (λz=>(hch c z).2.2.1 x c e rfl) ho (I.freeC x c e)
 ·obtain ⟨e,n,ne,nf,d⟩:=I.pin p hp
  have nch:p.1∉ch:=λz=>(hch p.1 z).2.2.2 p hp rfl
  exact ⟨keep p.1 p.2 ne nf nch e n,free p.1 p.2 nch e n,ne,nf,d⟩
theorem Inv.un{t':Nat}(I:Inv X Ga σ H s)(u:Un X.fs [] H H' s.heap h')(hok:HOk X.prog X.w H' h'):Inv X Ga σ H' { s with heap:=h',toks:=t' }:=by
 obtain ⟨m,⟨o,es,ep,ho,r⟩,_⟩:=id I.loc
 obtain ⟨sl,hL⟩:=u.any ho I.free (by simp)
 exact I.step (g':=s.gens) (d':=s.drawn) (ch:=[]) (λ_ z=>nomatch z) (λb o _ hb _ e n=>u.keep b o e n hb (by simp)) (λb o _ hb _ e n=>u.slot b o e n hb (by simp)) (λb o _ e n=>u.free b o e n (by simp)) (λb o _ e=>u.there b o e (by simp)) u.tups u.frzs u.tbls (λm' hm=>by
  obtain ⟨o',es',ep',ho',r'⟩:=hm
  rw [ho] at ho';cases ho'
  exact ⟨_,es',ep',hL,r'⟩) hok I.bare
theorem Inv.call{g':Array GenState}{t':Nat}{d':Drawn}{ch:List Addr}(I:Inv X Ga σ H s)(u:Un (frs X.stack) ch H H' s.heap h')(hok:HOk X.prog X.w H' h')(hg:AllBare g')
  (hch:∀b∈ch,(b∈X.ex\/X.s₀.heap.objs.size<=b)/\b≠X.env.locals/\(∀x c,X.env.cells.lookup x=some c->c≠b)/\∀p∈X.pn++Ga,p.1≠b) :
  Inv X Ga σ H' { s with heap:=h',gens:=g',drawn:=d',toks:=t' }:=by
 obtain ⟨m,⟨o,es,ep,ho,r⟩,_⟩:=id I.loc
 obtain ⟨sl,hL⟩:=u.any ho I.free λz=>(hch _ z).2.1 rfl
 exact I.step (ch:=ch) hch (λb o hL hb hc e n=>u.keep b o e n (λz=>(mem_cons.mp (I.stkSub b z)).elim hL hb) hc) (λb o _ _ hc e n=>u.any e n hc) (λb o hc e n=>u.free b o e n hc) (λb o hc e=>u.there b o e hc) u.tups u.frzs u.tbls (λm' hm=>by
  obtain ⟨o',es',ep',ho',r'⟩:=hm
  rw [ho] at ho';cases ho'
  exact ⟨_,es',ep',hL,r'⟩) hok hg
theorem Inv.turned{t':Nat}{it:Addr}(I:Inv X Ga σ H s)(k:∀b o,b≠it->s.heap.get? b=some o->h'.get? b=some o)(hn:H it=none)(hL:it≠X.env.locals)
  (h1:it∈X.ex\/X.s₀.heap.objs.size<=it) (h2:∀x c,X.env.cells.lookup x=some c->c≠it) (h3:∀p∈X.pn++Ga,p.1≠it):Inv X Ga σ H { s with heap:=h',toks:=t' }:=by
 have nit:∀b u,H b=some u->b≠it:=λb u e z=>by rw [z,hn] at e;cases e
 refine I.step (g':=s.gens) (d':=s.drawn) (ch:=[it]) (λb hb=>?_) (λb o _ _ hc e _=>k b o (λz=>hc (by simp [z])) e) (λb o _ _ hc e _=>⟨o.slots,k b o (λz=>hc (by simp [z])) e⟩) (λ_ _ _ _ n=>n)
  (λb o hc e=>⟨o,k b o (λz=>hc (by simp [z])) e⟩) (λ_ _ e=>e) (λ_ _ _ e=>e) (λb ps e=>⟨#[],by rw [e];simp⟩) (λm hm=>?_) (λb u e=>?_) I.bare
 ·have e:b=it:=by simpa using hb
  subst e
  exact ⟨h1,hL,h2,h3⟩
 ·obtain ⟨o,es,ep,ho,r⟩:=hm
  exact ⟨o,es,ep,k _ o (Ne.symm hL) ho,r⟩
 ·refine (I.hok b u e).stay (λc v hc q=>k c v ?_ q) (λ_ q=>q) λ_ _ q=>q
  rcases hc with z|z
  ·rw [z];exact nit b u e
  ·exact nit c _ z
theorem Inv.tok(I:Inv X Ga σ H s)(t:Nat):Inv X Ga σ H { s with toks:=t }:=I.un (h':=s.heap) (t':=t) Un.refl I.hok
theorem Inv.kept{t':Nat}(I:Inv X Ga σ H s)(k:∀b u,s.heap.get? b=some u->h'.get? b=some u):Inv X Ga σ H { s with heap:=h',toks:=t' }:=I.un (Un.kept k) (I.hok.kept k)
theorem Inv.laid{a:Addr}{o:HO}{t':Nat}(I:Inv X Ga σ H s)(k:∀b u,s.heap.get? b=some u->h'.get? b=some u)(hp:s.heap.objs.size<=a)(new:zQ X.prog X.w (upd H a o) h' a o) :
  Inv X Ga σ (upd H a o) { s with heap:=h',toks:=t' }:=I.un (Un.laid k hp (I.hok.fresh hp)) (I.hok.laid k hp new)
theorem Inv.write{x e:Addr}{o:HO}{t':Nat}(I:Inv X Ga σ H s)(mu:Mut (H x))(he:e=x\/H e=some (.own x))(k:∀b u,b≠e->s.heap.get? b=some u->h'.get? b=some u)(heo:∃u,h'.get? e=some u)
  (new:zQ X.prog X.w (upd H x o) h' x o):Inv X Ga σ (upd H x o) { s with heap:=h',toks:=t' }:=I.un (Un.write mu he k heo) (I.hok.write mu he k heo new)
theorem Inv.pins_of{pins':List (Addr×Obj)}(I:Inv X Ga σ H s)(h:∀p∈pins',s.heap.get? p.1=some p.2/\H p.1=none/\p.1≠X.env.locals/\p.1∉X.fs/\∀v,p.2.data≠.cell v):Inv X pins' σ H s :=
 ⟨I.ok,I.os,I.bare,I.base,I.loc,I.cell,I.free,I.freeC,λp hp=>(mem_append.mp hp).elim (λz=>I.pin p (mem_append_left _ z)) (h p),I.hok,I.len,I.hdk⟩
theorem zeW{N:List Str}(hN:N.Nodup){i j:Nat}{x:Str}(a:N[i]?=some x)(b:N[j]?=some x):i=j:=by
 obtain ⟨h1,e1⟩:=List.getElem?_eq_some_iff.mp a
 obtain ⟨h2,e2⟩:=List.getElem?_eq_some_iff.mp b
 exact (List.getElem_inj hN).mp (e1.trans e2.symm)
theorem znt{M:Model}{A:Around}{E:Value->Shared->Prop}{i:Nat}{x:Str}{v:V}{u:Value}{Q:Unit->Shared->Prop}(I:Inv X Ga σ H s)(hN:X.N.Nodup)(hi:X.N[i]?=some x)(hx:Loc X.env.scope x)(r:ze v u)
  (h:∀s',Inv X Ga (σ.set i (some v)) H s'->(∃a,SameBut a s.heap s'.heap/\(a=X.env.locals\/X.env.cells.lookup x=some a))->Q () s') (hf:X.fn x=true\/X.env.scope.names.lookup x=some .local:=by first|exact .inl rfl|exact .inr rfl|assumption):wpAny M A (storeName X.env x u) Q E s:=by
 obtain ⟨m,hn,hl⟩:=id I.loc
 have hcls:(X.env.scope.kind == .class||(X.env.scope.kind == .module&&X.env.locals != X.env.globals))=false:=by rw [I.ok.kind];rfl
 have hiσ:i<σ.length:=by rw [I.len];exact (List.getElem?_eq_some_iff.mp hi).1
 have cne:=I.cne
 have tracked:∀{a:Addr}{h':Heap},(∃o,s.heap.get? a=some o/\H a=none)->SameBut a s.heap h'->HOk X.prog X.w H h':=λ{a h'} ha hs b ob e=>by
  obtain ⟨_,_,hfree⟩:=ha
  refine (I.hok b ob e).stay (λc w' hc q=>(hs.2 c ?_).trans q) (λ_ q=>q) λ_ _ q=>q
  rintro rfl
  rcases hc with rfl|hc
  ·rw [hfree] at e;cases e
  ·rw [hfree] at hc;cases hc
 rcases hx with hk|hk
 ·refine wpAny_storeName_local hk hn (λh' hn' hs=>?_) hcls
  obtain ⟨oL,_,_,hoL,_⟩:=id hn
  refine h _ ⟨I.ok,I.os,I.bare,⟨λb o e n hb hx=>?_,λb o e n hb hx=>?_,I.base.free,λb o e hx=>?_,I.base.tups,I.base.frzs,I.base.tbls⟩,⟨_,hn',λj y v' e1 e2 e3=>?_⟩,λy c e=>?_,I.free,I.freeC,λp hp=>?_,tracked ⟨oL,hoL,I.free⟩ hs,by simpa using I.len,I.hdk⟩ ⟨_,hs,.inl rfl⟩
  ·exact (hs.2 b (ne_of_lt (Nat.lt_of_lt_of_le (lt_size e) I.ok.above))).trans (I.base.keep b o e n hb hx)
  ·obtain ⟨sl,e1⟩:=I.base.slot b o e n hb hx
   exact ⟨sl,(hs.2 b (ne_of_lt (Nat.lt_of_lt_of_le (lt_size e) I.ok.above))).trans e1⟩
  ·obtain ⟨o',e1⟩:=I.base.there b o e hx
   exact ⟨o',(hs.2 b (ne_of_lt (Nat.lt_of_lt_of_le (lt_size e) I.ok.above))).trans e1⟩
  ·by_cases hj:j=i
   ·subst hj
    rw [hi] at e1;cases e1
    rw [List.getElem?_set_self hiσ] at e2
    cases e2
    exact ⟨u,r,.inl ⟨hk,by simp⟩⟩
   ·rw [List.getElem?_set_ne (Ne.symm hj)] at e2
    obtain ⟨u',r',q⟩:=hl j y v' e1 e2 e3
    refine ⟨u',r',?_⟩
    rcases q with ⟨k,e⟩|⟨k,c,e,z⟩
    ·refine .inl ⟨k,?_⟩
     have:y≠x:=λe=>hj (zeW hN e1 (e ▸ hi))
     simp [this,e]
    ·exact .inr ⟨k,c,e,z.sameBut hs (cne y c e)⟩
  ·obtain ⟨w',z⟩:=I.cell y c e
   exact ⟨w',z.sameBut hs (cne y c e)⟩
  ·obtain ⟨e,n,ne,nf,d⟩:=I.pin p hp
   exact ⟨(hs.2 p.1 ne).trans e,n,ne,nf,d⟩
 ·have hfn:X.fn x=true:=by
   rcases hf with z|z
   ·exact z
   ·rw [z] at hk;cases hk
  obtain ⟨c,hc⟩:=I.ok.has x (.inl hk)
  obtain ⟨w',z⟩:=I.cell x c hc
  refine wpAny_storeName_cell I.ok.kind hk hc z (λh' hc' hs=>?_)
  obtain ⟨oc,hoc,hocd⟩:=id z
  refine h { s with heap:=h' } ⟨I.ok,I.os,I.bare,⟨λb o e n hb hx=>?_,λb o e n hb hx=>?_,I.base.free,λb o e hx=>?_,I.base.tups,I.base.frzs,I.base.tbls⟩,⟨m,hn.sameBut hs (Ne.symm (cne x c hc)),λj y v' e1 e2 e3=>?_⟩,λy c' e=>?_,I.free,I.freeC,λp hp=>?_,tracked ⟨oc,hoc,I.freeC x c hc⟩ hs,by simpa using I.len,I.hdk⟩ ⟨c,hs,.inr hc⟩
  ·exact (hs.2 b (ne_of_lt (Nat.lt_of_lt_of_le (lt_size e) (I.ok.cab x c hfn hc)))).trans (I.base.keep b o e n hb hx)
  ·obtain ⟨sl,e1⟩:=I.base.slot b o e n hb hx
   exact ⟨sl,(hs.2 b (ne_of_lt (Nat.lt_of_lt_of_le (lt_size e) (I.ok.cab x c hfn hc)))).trans e1⟩
  ·obtain ⟨o',e1⟩:=I.base.there b o e hx
   exact ⟨o',(hs.2 b (ne_of_lt (Nat.lt_of_lt_of_le (lt_size e) (I.ok.cab x c hfn hc)))).trans e1⟩
  ·by_cases hj:j=i
   ·subst hj
    rw [hi] at e1;cases e1
    rw [List.getElem?_set_self hiσ] at e2
    cases e2
    exact ⟨u,r,.inr ⟨.inl hk,c,hc,hc'⟩⟩
   ·rw [List.getElem?_set_ne (Ne.symm hj)] at e2
    obtain ⟨u',r',q⟩:=hl j y v' e1 e2 e3
    refine ⟨u',r',?_⟩
    rcases q with q|⟨k,c',e,z'⟩
    ·exact .inl q
    ·refine .inr ⟨k,c',e,z'.sameBut hs ?_⟩
     rintro rfl
     exact hj (zeW hN e1 (I.ok.inj _ _ _ e hc ▸ hi))
  ·by_cases hcc:c'=c
   ·subst hcc;exact ⟨_,hc'⟩
   ·obtain ⟨w2,z2⟩:=I.cell y c' e
    exact ⟨w2,z2.sameBut hs hcc⟩
  ·obtain ⟨e,n,ne,nf,d⟩:=I.pin p hp
   refine ⟨(hs.2 p.1 ?_).trans e,n,ne,nf,d⟩
   intro q
   rw [q,hoc] at e
   have q':oc=p.2:=Option.some.inj e
   exact d w' (by rw [<- q'];exact hocd)
theorem zfd{M:Model}{A:Around}{E:Value->Shared->Prop}{i:Nat}{x:Str}{v:V}{u:Value}{Q:Unit->Shared->Prop}(I:Inv X Ga σ H s)(hN:X.N.Nodup)(hi:X.N[i]?=some x)(hx:Loc X.env.scope x)(r:ze v u)
  (h:∀s',Inv X Ga (σ.set i (some v)) H s'->Q () s') (hf:X.fn x=true\/X.env.scope.names.lookup x=some .local:=by first|exact .inl rfl|exact .inr rfl|assumption):wpAny M A (storeName X.env x u) Q E s :=
 znt I hN hi hx r (λs' I' _=>h s' I') hf
theorem Inv.call'{s':Shared}{ch:List Addr}(I:Inv X Ga σ H s)(ho:s'.os=s.os)(u:Un (frs X.stack) ch H H' s.heap s'.heap)(hok:HOk X.prog X.w H' s'.heap)(hg:AllBare s'.gens)
  (hch:∀b∈ch,(b∈X.ex\/X.s₀.heap.objs.size<=b)/\b≠X.env.locals/\(∀x c,X.env.cells.lookup x=some c->c≠b)/\∀p∈X.pn++Ga,p.1≠b):Inv X Ga σ H' s':=by
 obtain ⟨h',g',d',t',o'⟩:=s'
 have e:o'=s.os:=ho
 subst e
 exact I.call (g':=g') (t':=t') (d':=d') u hok hg hch
end
abbrev XK:=Value->Option Addr->Hp->Prop
abbrev St:=List (Option V)
abbrev VK:=V->Hp->Prop
abbrev TE:=St->Hp->VK->Prop
abbrev TT:=St->Hp->(Bool->Hp->Prop)->Prop
abbrev TA:=St->Hp->(List V->Hp->Prop)->Prop
structure zY where
 nx:St->Hp->Prop
 rt:VK
 bk:St->Hp->Prop:=λ_ _=>False
 ct:St->Hp->Prop:=λ_ _=>False
abbrev TS:=zY->St->Hp->Prop
def EP(X:Cx)(Ga:List (Addr×Obj))(σ:St)(Q:VK)(u:Value)(s':Shared):Prop:=∃v H',Inv X Ga σ H' s'/\ze v u/\Q v H'
def TP(X:Cx)(Ga:List (Addr×Obj))(σ:St)(Q:Bool->Hp->Prop)(b:Bool)(s':Shared):Prop:=∃H',Inv X Ga σ H' s'/\Q b H'
def AP(X:Cx)(Ga:List (Addr×Obj))(σ:St)(Q:List V->Hp->Prop)(us:List Value)(s':Shared):Prop:=∃vs H',Inv X Ga σ H' s'/\zi vs us/\Q vs H'
def SP(X:Cx)(Ga:List (Addr×Obj))(D:zY)(f:Flow)(s':Shared):Prop :=
 match f with
 | .next=>∃σ' H',Inv X Ga σ' H' s'/\D.nx σ' H'
 | .brk=>∃σ' H',Inv X Ga σ' H' s'/\D.bk σ' H'
 | .cont=>∃σ' H',Inv X Ga σ' H' s'/\D.ct σ' H'
 | .ret u=>∃v σ' H',Inv X Ga σ' H' s'/\ze v u/\D.rt v H'
def PE(X:Cx)(e:Expr)(t:TE):Prop :=
 ∀(Ga:List (Addr×Obj))(s:Shared)(σ:St)(H:Hp)(Q:VK),Inv X Ga σ H s->t σ H Q->wpAny (model X.prog X.w) X.A (eval e X.env) (EP X Ga σ Q) X.xe s
def PT(X:Cx)(e:Expr)(t:TT):Prop :=
 ∀(Ga:List (Addr×Obj))(s:Shared)(σ:St)(H:Hp)(Q:Bool->Hp->Prop),Inv X Ga σ H s->t σ H Q->wpAny (model X.prog X.w) X.A (isTrue e X.env (eval e X.env)) (TP X Ga σ Q) X.xe s
def PW(X:Cx)(e:Expr)(t:TT):Prop :=
 ∀(whole:Sem Value)(Ga:List (Addr×Obj))(s:Shared)(σ:St)(H:Hp)(Q:Bool->Hp->Prop),Inv X Ga σ H s->t σ H Q->wpAny (model X.prog X.w) X.A (isTrue e X.env whole) (TP X Ga σ Q) X.xe s
theorem PW.pt{X:Cx}{e:Expr}{t:TT}(h:PW X e t):PT X e t:=h _
def PA(X:Cx)(es:List Expr)(t:TA):Prop :=
 ∀(pos:Pos)(Ga:List (Addr×Obj))(s:Shared)(σ:St)(H:Hp)(Q:List V->Hp->Prop),Inv X Ga σ H s->t σ H Q->wpAny (model X.prog X.w) X.A (spliced (backTo pos (starEach es X.env))) (AP X Ga σ Q) X.xe s
def PS(X:Cx)(st:Stmt)(t:TS):Prop :=
 ∀(Ga:List (Addr×Obj))(s:Shared)(σ:St)(H:Hp)(D:zY),Inv X Ga σ H s->t D σ H->wpAny (model X.prog X.w) X.A (exec st X.env) (SP X Ga D) X.xe s
def PSs(X:Cx)(st:List Stmt)(t:TS):Prop :=
 ∀(Ga:List (Addr×Obj))(s:Shared)(σ:St)(H:Hp)(D:zY),Inv X Ga σ H s->t D σ H->wpAny (model X.prog X.w) X.A (execs st X.env) (SP X Ga D) X.xe s
theorem thn{α:Type}{t:Sem α}{Q Q':α->Shared->Prop}{M:Model}{A:Around}{E:Value->Shared->Prop}{s:Shared}(h:wpAny M A t Q E s)(hQ:∀a s,Q a s->Q' a s):wpAny M A t Q' E s:=wpAny_mono h hQ λ_ _ x=>x
section
variable {X:Cx}
theorem bin{a b:Expr}{ta tb:TE}(ha:PE X a ta)(hb:PE X b tb){Ga:List (Addr×Obj)}{s:Shared}{σ:St}{H:Hp}{R:V->V->Hp->Prop}(I:Inv X Ga σ H s)(h:ta σ H λx H1=>tb σ H1 λy H2=>R x y H2)
  {α:Type}{Q:α->Shared->Prop}{f:Value->Value->Sem α}
  (hf:∀v u s2 x y H2,Inv X Ga σ H2 s2->ze x v->ze y u->R x y H2->wpAny (model X.prog X.w) X.A (f v u) Q X.xe s2) :
  wpAny (model X.prog X.w) X.A (eval a X.env) (λv s₁=>wpAny (model X.prog X.w) X.A (eval b X.env) (λu s₂=>wpAny (model X.prog X.w) X.A (f v u) Q X.xe s₂) X.xe s₁) X.xe s:=by
 refine thn (ha Ga s σ H _ I h) λv s1 ⟨x,H1,I1,r1,q1⟩=>?_
 refine thn (hb Ga s1 σ H1 _ I1 q1) λu s2 ⟨y,H2,I2,r2,q2⟩=>?_
 exact hf v u s2 x y H2 I2 r1 r2 q2
def zb5(i:Nat):TE:=λσ H Q=>∃v,σ[i]?=some (some v)/\Q v H
def tC(v:V):TE:=λ_ H Q=>Q v H
theorem zro{i:Nat}{x:Str}{pos:Pos}(hN:X.N[i]?=some x)(hv:Vis X.env.scope x)(hd:(x==("__debug__":Str))=false:=by decide)(hcd:(x==("__classdict__":Str))=false:=by decide):PE X (.Name x pos) (zb5 i):=by
 intro Ga s σ H Q I h
 obtain ⟨v,e,h⟩:=h
 obtain ⟨m,hn,hl⟩:=I.loc
 obtain ⟨u,r,l⟩:=hl i x v hN e hv
 have fin:EP X Ga σ Q u s:=⟨v,H,I,r,h⟩
 rcases l with ⟨hk,hm⟩|⟨hk,c,hc,hcell⟩
 ·exact wpAny_Name (wpAny_loadName_local I.ok.kind hk hn hm fin) hd
 ·rcases hk with hk|hk
  ·exact wpAny_Name (wpAny_loadName_cell I.ok.kind hk hc hcell fin) hd
  ·exact wpAny_Name (wpAny_loadName_free I.ok.kind hk hc hcell fin hcd) hd
theorem zhJ{i j pos}:PE X (.Constant (.int i) j pos) (tC (.int i)):=λ_ _ _ H _ I h=>wpAny_Constant_int ⟨.int i,H,I.tok _,⟨_,rfl⟩,h⟩
theorem zsd{b j pos}:PE X (.Constant (.bool b) j pos) (tC (.bl b)):=λ_ _ _ H _ I h=>Constant_bool ⟨.bl b,H,I,rfl,h⟩
theorem zoc{j pos}:PE X (.Constant .none j pos) (tC .non):=λ_ _ _ H _ I h=>Constant_none ⟨.non,H,I,rfl,h⟩
theorem zmZ{x j pos}:PE X (.Constant (.str x) j pos) (tC (.str x)):=λ_ _ _ H _ I h=>Calls.Constant_str ⟨.str x,H,I.tok _,⟨_,rfl⟩,h⟩
def Gl(X:Cx)(x:Str):Prop:=X.env.kindOf x=some .globalImplicit
theorem zdt{E:Value->Shared->Prop}{Ga:List (Addr×Obj)}{s:Shared}{σ:St}{H:Hp}{x:Str}{u:Value}{pos:Pos}{Q:Value->Shared->Prop}(I:Inv X Ga σ H s)(hg:Gl X x)(hm:X.mg x=some u)(h:Q u s)
  (hd:(x==("__debug__":Str))=false:=by decide):wpAny (model X.prog X.w) X.A (eval (.Name x pos) X.env) Q E s :=
 Calls.Name_function_global I.ok.kind hg (Calls.loadGlobal_global (by rw [I.ok.glob];exact I.mod.glob.keeps I.bk) hm h) hd
theorem zds{E:Value->Shared->Prop}{Ga:List (Addr×Obj)}{s:Shared}{σ:St}{H:Hp}{x:Str}{u:Value}{pos:Pos}{Q:Value->Shared->Prop}(I:Inv X Ga σ H s)(hg:Gl X x)(hm:X.mg x=none)(hv:bootBuiltins x=some u)(h:Q u s)
  (hn:x≠"__name__":=by decide) (hd:(x==("__debug__":Str))=false:=by decide):wpAny (model X.prog X.w) X.A (eval (.Name x pos) X.env) Q E s:=by
 obtain ⟨mb,h1,h2⟩:=I.mod.blt
 exact Calls.Name_function_global I.ok.kind hg (Calls.loadGlobal_builtin (by rw [I.ok.glob];exact I.mod.glob.keeps I.bk) hm (by rw [I.ok.blt];exact h1.keeps I.bk) ((h2 x hn).trans hv) h) hd
theorem zkC{x:Str}{v:V}{u:Value}{pos:Pos}(hg:Gl X x)(hm:X.mg x=some u)(r:ze v u)(hd:(x==("__debug__":Str))=false:=by decide):PE X (.Name x pos) (tC v) :=
 λ_ _ _ H _ I h=>zdt I hg hm ⟨v,H,I,r,h⟩ hd
theorem znd{x:Str}{v:V}{u:Value}{pos:Pos}(hg:Gl X x)(hm:X.mg x=none)(hv:bootBuiltins x=some u)(r:ze v u)(hn:x≠"__name__":=by decide)(hd:(x==("__debug__":Str))=false:=by decide):PE X (.Name x pos) (tC v) :=
 λ_ _ _ H _ I h=>zds I hg hm hv ⟨v,H,I,r,h⟩ hn hd
variable {a b:Expr}{ta tb:TE}{pos:Pos}
def tB(t:TE):TT:=λσ H Q=>t σ H λx H1=>∃c,x = .bl c/\Q c H1
variable {tA tB':TT}{zo:List Expr}
def zgu(t u:TT):TT:=λσ H Q=>t σ H λc H1=>if c=true then u σ H1 Q else Q false H1
def tOr(t u:TT):TT:=λσ H Q=>t σ H λc H1=>if c=true then Q true H1 else u σ H1 Q
def zgx(t:TT):TT:=λσ H Q=>t σ H λc H1=>Q (!c) H1
theorem zqV(ha:PT X a tA):PW X (.BoolOp .And [a] pos) tA:=by
 intro wh Ga s σ H Q I h
 refine isTrue_and (thn (ha Ga s σ H Q I h) λc s1 e=>?_)
 cases c with
 | true=>exact isTrue_and_nil e
 | false=>exact e
theorem zjS(ha:PT X a tA):PW X (.BoolOp .Or [a] pos) tA:=by
 intro wh Ga s σ H Q I h
 refine isTrue_or (thn (ha Ga s σ H Q I h) λc s1 e=>?_)
 cases c with
 | false=>exact isTrue_or_nil e
 | true=>exact e
theorem znb(ha:PT X a tA)(hb:PW X (.BoolOp .And (b::zo) pos) tB'):PW X (.BoolOp .And (a::b::zo) pos) (zgu tA tB'):=by
 intro wh Ga s σ H Q I h
 refine isTrue_and (thn (ha Ga s σ H _ I h) λc s1 ⟨H1,I1,q1⟩=>?_)
 cases c with
 | true=>exact hb wh Ga s1 σ H1 Q I1 q1
 | false=>exact ⟨H1,I1,q1⟩
theorem zry(ha:PT X a tA)(hb:PW X (.BoolOp .Or (b::zo) pos) tB'):PW X (.BoolOp .Or (a::b::zo) pos) (tOr tA tB'):=by
 intro wh Ga s σ H Q I h
 refine isTrue_or (thn (ha Ga s σ H _ I h) λc s1 ⟨H1,I1,q1⟩=>?_)
 cases c with
 | true=>exact ⟨H1,I1,q1⟩
 | false=>exact hb wh Ga s1 σ H1 Q I1 q1
theorem zrd(ha:PT X a tA):PT X (.UnaryOp .Not a pos) (zgx tA):=by
 intro Ga s σ H Q I h
 exact isTrue_not (ha Ga s σ H (λc H1=>Q (!c) H1) I h)
def zfS(ta tb:TE):TE:=λσ H Q=>ta σ H λx H1=>∃c,x = .bl c/\if c=true then tb σ H1 Q else Q (.bl false) H1
def zld(ta tb:TE):TE:=λσ H Q=>ta σ H λx H1=>∃c,x = .bl c/\if c=true then Q (.bl true) H1 else tb σ H1 Q
def zfs(ta:TE):TE:=λσ H Q=>ta σ H λx H1=>∃c,x = .bl c/\Q (.bl (!c)) H1
theorem zqM{op}{t:TE}(h:PE X a t):PE X (.BoolOp op [a] pos) t:=λGa s σ H Q I hw=>BoolOp_one (h Ga s σ H Q I hw)
theorem zjH(ha:PE X a ta)(hb:PE X (.BoolOp .And (b::zo) pos) tb):PE X (.BoolOp .And (a::b::zo) pos) (zfS ta tb):=by
 intro Ga s σ H Q I h
 refine BoolOp_and (thn (ha Ga s σ H _ I h) λv s1 ⟨x,H1,I1,r1,q1⟩=>?_)
 obtain ⟨c,rfl,q1⟩:=q1
 cases r1
 refine wpAny_truthy_bool ?_
 cases c with
 | true=>exact hb Ga s1 σ H1 Q I1 q1
 | false=>exact ⟨.bl false,H1,I1,rfl,q1⟩
theorem zrj(ha:PE X a ta):PE X (.UnaryOp .Not a pos) (zfs ta):=by
 intro Ga s σ H Q I h
 refine UnaryOp_ (thn (ha Ga s σ H _ I h) λv s1 ⟨x,H1,I1,r1,q1⟩=>?_)
 obtain ⟨c,rfl,q1⟩:=q1
 cases r1
 exact not_of (wpAny_truthy_bool ⟨.bl (!c),H1,I1,rfl,q1⟩)
def tIf(t:TT)(ta tb:TE):TE:=λσ H Q=>t σ H λc H1=>if c=true then ta σ H1 Q else tb σ H1 Q
theorem zgT{c:Expr}(hc:PT X c tA)(ha:PE X a ta)(hb:PE X b tb):PE X (.IfExp c a b pos) (tIf tA ta tb):=by
 intro Ga s σ H Q I h
 refine wpAny_IfExp (thn (hc Ga s σ H _ I h) λd s1 ⟨H1,I1,q1⟩=>?_)
 cases d with
 | true=>exact ha Ga s1 σ H1 Q I1 q1
 | false=>exact hb Ga s1 σ H1 Q I1 q1
end
def SqL(K:PySem.W.Frag)(H:Hp)(a:Addr)(xs:List V):Prop :=
 Rd H a (.lst xs) \/
  ∃(o:Obj)(its:Array Value)(n:Nat),K.lookup a=some o/\o.cls = .type "list"/\o.dict=none/\o.data = .seq its n/\its.size<=sizeLine/\zi xs its.toList
def SqT(K:PySem.W.Frag)(H:Hp)(a:Addr)(xs:List V):Prop :=
 Rd H a (.tup xs) \/
  ∃(o:Obj)(its:Array Value)(n:Nat),K.lookup a=some o/\o.cls = .type "tuple"/\o.data = .seq its n/\its.size<=sizeLine/\zi xs its.toList
def znr:Value->Option V
 | .none=>some .non
 | .bool b=>some (.bl b)
 | .int i _=>some (.int i)
 | .str x _=>some (.str x)
 | .bytes b _=>some (.byt b)
 | .float b _=>some (.flt b)
 | .ref a=>some (.ref a)
 | .type n=>some (.ty n)
 | _=>none
theorem ze.abs{x:V}{u:Value}(r:ze x u):znr u=some x:=by
 cases x with
 | non=>cases r;rfl
 | bl _=>cases r;rfl
 | int _=>obtain ⟨t,rfl⟩:=r;rfl
 | str _=>obtain ⟨t,rfl⟩:=r;rfl
 | byt _=>obtain ⟨t,rfl⟩:=r;rfl
 | flt _=>obtain ⟨t,rfl⟩:=r;rfl
 | ref _=>cases r;rfl
 | ty _=>cases r;rfl
theorem ze.inj{x y:V}{u:Value}(r:ze x u)(q:ze y u):x=y:=Option.some.inj (r.abs.symm.trans q.abs)
theorem zi.inj:∀{xs ys:List V}{us:List Value},zi xs us->zi ys us->xs=ys
 | _,_,_,.nil,.nil=>rfl
 | _,_,_,.cons r t,.cons r' t'=>by rw [r.inj r',zi.inj t t']
section
variable {X:Cx}{Ga:List (Addr×Obj)}{σ:St}{H:Hp}{s:Shared}{a:Addr}{xs ys:List V}
theorem SqL.of{K:PySem.W.Frag}(h:H a=some (.lst xs)):SqL K H a xs:=.inl (.inl h)
theorem SqT.of{K:PySem.W.Frag}(h:H a=some (.tup xs)):SqT K H a xs:=.inl (.inl h)
theorem Inv.list(I:Inv X Ga σ H s)(h:SqL X.K H a xs):∃its:List Value,zi xs its/\PlainL s.heap a its.toArray/\xs.length<=sizeLine:=by
 rcases h with h|⟨o,its,n,hk,hc,hd,hs,hz,r⟩
 ·obtain ⟨z,its,n,r,e⟩:=h.ok I.hok
  exact ⟨its,r,⟨_,n,e,rfl,rfl,rfl⟩,z⟩
 ·refine ⟨its.toList,r,⟨o,n,I.kIn a o hk,hc,hd,by simpa using hs⟩,?_⟩
  have e:=r.length
  simp only [length_toList] at e
  omega
theorem Inv.tuple(I:Inv X Ga σ H s)(h:SqT X.K H a xs):∃its:List Value,zi xs its/\IsTup s.heap a its.toArray/\xs.length<=sizeLine:=by
 rcases h with h|⟨o,its,n,hk,hc,hs,hz,r⟩
 ·obtain ⟨z,its,r,p⟩:=h.ok I.hok
  exact ⟨its,r,p,z⟩
 ·refine ⟨its.toList,r,⟨o,I.kIn a o hk,hc,n,by simpa using hs⟩,?_⟩
  have e:=r.length
  simp only [length_toList] at e
  omega
theorem Inv.list_inj(I:Inv X Ga σ H s)(h:SqL X.K H a xs)(h':SqL X.K H a ys):xs=ys:=by
 obtain ⟨its,r,⟨o,n,e,_,_,d⟩,_⟩:=I.list h
 obtain ⟨its',r',⟨o',n',e',_,_,d'⟩,_⟩:=I.list h'
 rw [e] at e';cases e'
 rw [d] at d'
 injection d' with d1 _
 have:its=its':=by simpa using congrArg Array.toList d1
 subst this
 exact r.inj r'
theorem Inv.tuple_inj(I:Inv X Ga σ H s)(h:SqT X.K H a xs)(h':SqT X.K H a ys):xs=ys:=by
 obtain ⟨its,r,⟨o,e,_,n,d⟩,_⟩:=I.tuple h
 obtain ⟨its',r',⟨o',e',_,n',d'⟩,_⟩:=I.tuple h'
 rw [e] at e';cases e'
 rw [d] at d'
 injection d' with d1 _
 have:its=its':=by simpa using congrArg Array.toList d1
 subst this
 exact r.inj r'
end
abbrev Cx.wish(X:Cx)(E:Value->Shared->Prop):Cx:={ X with xe:=E }
abbrev Cx.nox(X:Cx):Cx:=X.wish λ_ _=>False
theorem Cx.Ok.wish{X:Cx}(ok:X.Ok)(E:Value->Shared->Prop):(X.wish E).Ok :=
 ⟨ok.mod,ok.kind,ok.glob,ok.blt,ok.above,ok.inj,ok.has,ok.cab,ok.hd,ok.frames,ok.stk,ok.exf,ok.bs,ok.bsz,ok.noex,ok.exfs,ok.funs,ok.frf⟩
theorem Cx.Ok.unwish{X:Cx}{E:Value->Shared->Prop}(ok:(X.wish E).Ok):X.Ok :=
 ⟨ok.mod,ok.kind,ok.glob,ok.blt,ok.above,ok.inj,ok.has,ok.cab,ok.hd,ok.frames,ok.stk,ok.exf,ok.bs,ok.bsz,ok.noex,ok.exfs,ok.funs,ok.frf⟩
section
variable {X:Cx}{Ga:List (Addr×Obj)}{σ:St}{H:Hp}{s:Shared}{E:Value->Shared->Prop}
theorem Inv.wish(I:Inv X Ga σ H s)(E:Value->Shared->Prop):Inv (X.wish E) Ga σ H s:=⟨I.ok.wish E,I.os,I.bare,I.base,I.loc,I.cell,I.free,I.freeC,I.pin,I.hok,I.len,I.hdk⟩
theorem Inv.unwish(I:Inv (X.wish E) Ga σ H s):Inv X Ga σ H s:=⟨I.ok.unwish,I.os,I.bare,I.base,I.loc,I.cell,I.free,I.freeC,I.pin,I.hok,I.len,I.hdk⟩
theorem SP.unwish{D:zY}{f:Flow}{s':Shared}(h:SP (X.wish E) Ga D f s'):SP X Ga D f s':=by
 cases f with
 | next=>obtain ⟨σ',H',I,q⟩:=h;exact ⟨σ',H',I.unwish,q⟩
 | brk=>obtain ⟨σ',H',I,q⟩:=h;exact ⟨σ',H',I.unwish,q⟩
 | cont=>obtain ⟨σ',H',I,q⟩:=h;exact ⟨σ',H',I.unwish,q⟩
 | ret u=>obtain ⟨v,σ',H',I,r,q⟩:=h;exact ⟨v,σ',H',I.unwish,r,q⟩
theorem PSs.nox{st:List Stmt}{t:TS}(h:PSs X.nox st t):PSs X st t:=λGa s σ H D I hw =>
 wpAny_mono (h Ga s σ H D (I.wish _) hw) (λ_ _ q=>q.unwish) λ_ _ z=>False.elim z
end
section
variable {X:Cx}{st:Stmt}{zo:List Stmt}{t u:TS}{e:Expr}{te:TE}{pos:Pos}
def zgt:TS:=λD σ H=>D.nx σ H
def zfh(t u:TS):TS:=λD σ H=>t { D with nx:=u D } σ H
theorem znu:PSs X [] zgt:=λ_ _ σ H _ I h=>wpAny_execs_nil ⟨σ,H,I,h⟩
theorem zpc(h1:PS X st t)(h2:PSs X zo u):PSs X (st::zo) (zfh t u):=by
 intro Ga s σ H D I h
 refine wpAny_execs_cons (thn (h1 Ga s σ H { D with nx:=u D } I h) λf s1 q=>?_)
 cases f with
 | next =>
  obtain ⟨σ',H',I',q⟩:=q
  exact h2 Ga s1 σ' H' D I' q
 | ret v=>exact q
 | brk=>exact q
 | cont=>exact q
theorem zil(h1:PS X st t):PSs X [st] t:=by
 intro Ga s σ H D I h
 refine wpAny_execs_cons (thn (h1 Ga s σ H D I h) λf s1 q=>?_)
 cases f with
 | next=>exact wpAny_execs_nil q
 | ret v=>exact q
 | brk=>exact q
 | cont=>exact q
def zk7:TS:=λD σ H=>D.bk σ H
def zor:TS:=λD σ H=>D.ct σ H
theorem Inv.quiet{Ga:List (Addr×Obj)}{σ:St}{H:Hp}{s:Shared}(I:Inv X Ga σ H s):interactive X.env=false:=by simp [interactive,I.ok.kind]
def zeN(te:TE):TS:=λD σ H=>te σ H λ_ H1=>D.nx σ H1
theorem znL(he:PE X e te)(hs:swapsWith e none pos.line X.env=pure false:=by rfl):PS X (.Expr e pos) (zeN te):=by
 intro Ga s σ H D I h
 exact wpAny_Expr_any (thn (he Ga s σ H _ I h) λv s1 ⟨x,H1,I1,r1,q1⟩=>⟨σ,H1,I1,q1⟩) I.quiet hs
def zgm(te:TE):TS:=λD σ H=>te σ H D.rt
theorem zhO(he:PE X e te):PS X (.Return (some e) pos) (zgm te):=by
 intro Ga s σ H D I h
 exact wpAny_Return_some (thn (he Ga s σ H _ I h) λv s1 ⟨x,H1,I1,r1,q1⟩=>⟨x,σ,H1,I1,r1,q1⟩)
def zjA:TS:=λD _ H=>D.rt .non H
def zfu(c:TT)(t u:TS):TS:=λD σ H=>c σ H λb H1=>if b=true then t D σ H1 else u D σ H1
theorem zqK{c:Expr}{a b:List Stmt}{tc:TT}(hc:PT X c tc)(ha:PSs X a t)(hb:PSs X b u):PS X (.If c a b pos) (zfu tc t u):=by
 intro Ga s σ H D I h
 refine wpAny_If (thn (hc Ga s σ H _ I h) λd s1 ⟨H1,I1,q1⟩=>?_)
 cases d with
 | true=>exact ha Ga s1 σ H1 D I1 q1
 | false=>exact hb Ga s1 σ H1 D I1 q1
end
abbrev TG:=V->St->Hp->(St->Hp->Prop)->Prop
abbrev TGs:=List V->St->Hp->(St->Hp->Prop)->Prop
def PG(X:Cx)(target:Expr)(t:TG):Prop :=
 ∀(Ga:List (Addr×Obj))(s:Shared)(σ:St)(H:Hp)(v:V)(u:Value)(Q:St->Hp->Prop),Inv X Ga σ H s->ze v u->t v σ H Q ->
  wpAny (model X.prog X.w) X.A (assign target X.env u) (λ_ s'=>∃σ' H',Inv X Ga σ' H' s'/\Q σ' H') X.xe s
def PGs(X:Cx)(ts:List Expr)(t:TGs):Prop :=
 ∀(Ga:List (Addr×Obj))(s:Shared)(σ:St)(H:Hp)(vs:List V)(us:List Value)(Q:St->Hp->Prop),Inv X Ga σ H s->zi vs us->t vs σ H Q ->
  wpAny (model X.prog X.w) X.A (assignInOrder ((assignEach ts X.env).map (·.2)) us) (λ_ s'=>∃σ' H',Inv X Ga σ' H' s'/\Q σ' H') X.xe s
abbrev zdX:=V->V->V->Hp->(Hp->Prop)->Prop
def zer(X:Cx)(t:zdX):Prop :=
 ∀(Ga:List (Addr×Obj))(s:Shared)(σ:St)(H:Hp)(o i v:V)(ov iv u:Value)(Q:Hp->Prop),Inv X Ga σ H s->ze o ov->ze i iv->ze v u->t o i v H Q ->
  wpAny (model X.prog X.w) X.A (setItem ov iv u) (λ_ s'=>∃H',Inv X Ga σ H' s'/\Q H') X.xe s
abbrev TIp:=V->V->Hp->VK->Prop
section
variable {X:Cx}{pos:Pos}
def zbv(i:Nat):TG:=λv σ H Q=>Q (σ.set i (some v)) H
theorem zly{i:Nat}{x:Str}(hN:X.N.Nodup)(hi:X.N[i]?=some x)(hx:Loc X.env.scope x)(hf:X.fn x=true\/X.env.scope.names.lookup x=some .local:=by first|exact .inl rfl|exact .inr rfl|assumption):PG X (.Name x pos) (zbv i):=by
 intro Ga s σ H v u Q I r h
 exact wpAny_assign_Name (zfd I hN hi hx r (λs' I'=>⟨_,H,I',h⟩) hf)
def zfK:TGs:=λvs σ H Q=>vs=[]/\Q σ H
def zgn(t:TG)(u:TGs):TGs:=λvs σ H Q=>∃v r,vs=v::r/\t v σ H λσ' H'=>u r σ' H' Q
theorem zpL:PGs X [] zfK:=by
 intro Ga s σ H vs us Q I r h
 obtain ⟨e,h⟩:=h
 subst e
 cases r
 exact assignInOrder_nil ⟨σ,H,I,h⟩
theorem zjR{e:Expr}{es:List Expr}{t:TG}{u:TGs}(h1:PG X e t)(h2:PGs X es u)
  (hs:(assignEach (e::es) X.env).map (·.2)=assign e X.env::(assignEach es X.env).map (·.2):=by rfl):PGs X (e::es) (zgn t u):=by
 intro Ga s σ H vs us Q I r h
 obtain ⟨v,vr,e1,h⟩:=h
 subst e1
 cases r with
 | cons r rr =>
  rw [hs]
  refine assignInOrder_cons (thn (h1 Ga s σ H _ _ _ I r h) λ_ s1 ⟨σ1,H1,I1,q1⟩=>?_)
  exact h2 Ga s1 σ1 H1 _ _ Q I1 rr q1
def zfc(K:PySem.W.Frag)(n:Nat)(t:TGs):TG:=λv σ H Q=>∃a xs,v = .ref a/\SqT K H a xs/\xs.length=n/\t xs σ H Q
def zfF(to ti:TE)(t:zdX):TG:=λv σ H Q=>to σ H λo H1=>ti σ H1 λi H2=>t o i v H2 λH3=>Q σ H3
theorem zjL{o i:Expr}{to ti:TE}{t:zdX}(ho:PE X o to)(hi:PE X i ti)(hs:zer X t)
  (ha:∀v,assign (.Subscript o i pos) X.env v=(do
   let ov<-holding [v] (eval o X.env)
   let iv<-holding [v,ov] (eval i X.env)
   standAt pos
   holding [v,ov,iv] (setItem ov iv v)
   release [v,ov,iv] []):=by intro _;rfl):PG X (.Subscript o i pos) (zfF to ti t):=by
 intro Ga s σ H v u Q I r h
 rw [ha]
 refine wpAny_bind (wpAny_holding (thn (ho Ga s σ H _ I h) λov s1 ⟨x,H1,I1,r1,q1⟩=>?_))
 refine wpAny_bind (wpAny_holding (thn (hi Ga s1 σ H1 _ I1 q1) λiv s2 ⟨y,H2,I2,r2,q2⟩=>?_))
 refine wpAny_bind (wpAny_standAt (wpAny_bind (wpAny_holding (thn (hs Ga s2 σ H2 x y v ov iv u _ I2 r1 r2 r q2) λ_ s3 ⟨H3,I3,q3⟩=>?_))))
 exact wpAny_release ⟨σ,H3,I3,q3⟩
def zdA(te:TE)(g:TG):TS:=λD σ H=>te σ H λx H1=>g x σ H1 D.nx
theorem zoK{tg e:Expr}{te:TE}{g:TG}(he:PE X e te)(hg:PG X tg g)(hs:swapsWithSole [tg] e pos.line X.env=pure false:=by rfl)(hw:swappedStores [tg] e X.env=pure none:=by rfl)
  (h1:(assignEach [tg] X.env).map (·.2)=[assign tg X.env]:=by rfl):PS X (.Assign [tg] e pos) (zdA te g):=by
 intro Ga s σ H D I h
 refine wpAny_Assign_stores (thn (he Ga s σ H _ I h) λv s1 ⟨x,H1,I1,r1,q1⟩=>?_) hs hw
 rw [h1]
 exact thn (hg Ga s1 σ H1 x v _ I1 r1 q1) λ_ s2 q=>q
theorem zou{i:Nat}{x:Str}{e:Expr}{te:TE}{pos':Pos}(hN:X.N.Nodup)(hi:X.N[i]?=some x)(hx:Loc X.env.scope x)(he:PE X e te)(hs:swapsWith e (some (.Name x pos')) pos.line X.env=pure false:=by rfl)(hf:X.fn x=true\/X.env.scope.names.lookup x=some .local:=by first|exact .inl rfl|exact .inr rfl|assumption) :
  PS X (.Assign [.Name x pos'] e pos) (zdA te (zbv i)):=by
 intro Ga s σ H D I h
 refine wpAny_Assign_Name (thn (he Ga s σ H _ I h) λv s1 ⟨y,H1,I1,r1,q1⟩=>?_) hs
 exact zfd I1 hN hi hx r1 (λs2 I2=>⟨_,H1,I2,q1⟩) hf
def zkj(i j:Nat)(ta:TA):TS:=λD σ H=>ta σ H λvs H1=>∃v w,vs=[v,w]/\D.nx ((σ.set i (some v)).set j (some w)) H1
def zl1(i:Nat)(te:TE)(ti:TIp):TS:=λD σ H=>∃x,σ[i]?=some (some x)/\te σ H λy H1=>ti x y H1 λz H2=>D.nx (σ.set i (some z)) H2
def ipI(f:Int->Int->Int):TIp:=λx y H Q=>∃i j,x = .int i/\y = .int j/\Q (.int (f i j)) H
end
structure It where
 go:Nat->Hp->Prop
 yld:Nat->Hp->V->Hp->Prop
 stop:Nat->Hp->Prop
def zV(X:Cx)(Ga:List (Addr×Obj))(H:Hp)(b:Addr):Prop :=
 H b=none/\b≠X.env.locals/\b∉X.fs/\(b∈X.ex\/X.s₀.heap.objs.size<=b)/\(∀x c,X.env.cells.lookup x=some c->c≠b)/\∀p∈X.pn++Ga,p.1≠b
theorem Inv.fpOk{X:Cx}{Ga:List (Addr×Obj)}{σ:St}{H H':Hp}{s:Shared}{b:Addr}(I:Inv X Ga σ H s)(hb:s.heap.objs.size<=b)(hn:H' b=none):zV X Ga H' b:=by
 refine ⟨hn,ne_of_gt (Nat.lt_of_lt_of_le I.lt hb),I.nofs hb,.inr (Nat.le_trans I.sz hb),λx c e z=>?_,λp hp z=>?_⟩
 ·obtain ⟨v,q⟩:=I.cell x c e
  exact absurd (Nat.lt_of_lt_of_le q.lt (by rw [z];exact hb)) (lt_irrefl _)
 ·exact absurd (Nat.lt_of_lt_of_le (lt_size (I.pin p hp).1) (by rw [z];exact hb)) (lt_irrefl _)
structure zbH(c:Bool)(P:Program)(w:World)(K:PySem.W.Frag)(tg:Expr)(J:It)(fp:List Addr)(it:Addr)(tn:Nat->Heap->Prop):Prop where
 mem:it∈fp
 obj:∀i h,tn i h->∀b∈fp,∃o,h.get? b=some o/\∀v,o.data≠.cell v
 keep:∀i h h',tn i h->(∀b∈fp,∀o,h.get? b=some o->h'.get? b=some o)->tn i h'
 item:∀(X:Cx),X.prog=P->X.w=w->X.K=K->(c=true->X.calm=true)->∀(i:Nat)(Ga:List (Addr×Obj))(s:Shared)(σ:St)(H:Hp)(E:Value->Shared->Prop),Inv X Ga σ H s->(∀b∈fp,zV X Ga H b)->tn i s.heap->J.go i H ->
  wpAny (model P w) X.A (pyNext (.ref it)) (λr s1=>∃u,r=some u /\
   wpAny (model P w) X.A (letOwnedTupleGo tg (.ref it) u) (λ_ s2=>∃x H',Inv X Ga σ H' s2/\ze x u/\J.yld i H x H'/\tn (i+1) s2.heap/\∀b∈fp,H' b=none) E s1) E s
 done:∀(X:Cx),X.prog=P->X.w=w->X.K=K->(c=true->X.calm=true)->∀(i:Nat)(Ga:List (Addr×Obj))(s:Shared)(σ:St)(H:Hp)(E:Value->Shared->Prop),Inv X Ga σ H s->(∀b∈fp,zV X Ga H b)->tn i s.heap->J.stop i H ->
  wpAny (model P w) X.A (pyNext (.ref it)) (λr s1=>r=none/\Inv X Ga σ H s1) E s
 self:∀(A:Around)(i:Nat)(s:Shared)(Q:Value->Shared->Prop)(E:Value->Shared->Prop),tn i s.heap->Q (.ref it) s->wpAny (model P w) A (pyIter (.ref it)) Q E s
abbrev TI:=St->Hp->(It->Hp->Prop)->Prop
def PIE(c:Bool)(X:Cx)(Ga:List (Addr×Obj))(σ:St)(tg:Expr)(R:It->Hp->Prop)(itv:Value)(s2:Shared):Prop :=
 ∃(it:Addr)(fp:List Addr)(tn:Nat->Heap->Prop)(J:It)(H':Hp),itv = .ref it/\Inv X Ga σ H' s2/\zbH c X.prog X.w X.K tg J fp it tn/\tn 0 s2.heap/\(∀b∈fp,zV X Ga H' b)/\R J H'
def PIc(c:Bool)(X:Cx)(tg iter:Expr)(wi:TI):Prop :=
 ∀(Ga:List (Addr×Obj))(s:Shared)(σ:St)(H:Hp)(R:It->Hp->Prop),Inv X Ga σ H s->wi σ H R ->
  wpAny (model X.prog X.w) X.A (eval iter X.env) (λv s1=>wpAny (model X.prog X.w) X.A (pyIter v) (PIE c X Ga σ tg R) X.xe s1) X.xe s
abbrev PI:=PIc true
theorem zc8{M:Model}{A:Around}{E:Value->Shared->Prop}{s:Shared}{tg:Expr}{it:Addr}{u:Value}{o:Obj}{n:String}{vs:Array Value}{Q:Unit->Shared->Prop}(ho:s.heap.get? it=some o)(hc:o.cls = .type n)(hd:o.data = .fields vs)
  (hn:["enumerate","zip","dict_itemiterator","dict_reverseitemiterator","odict_iterator","itertools.zip_longest","itertools.pairwise"].contains n=false) (hQ:Q () s):wpAny M A (letOwnedTupleGo tg (.ref it) u) Q E s:=by
 unfold letOwnedTupleGo
 cases tg<;>first
  | exact wpAny_pure hQ
  | (cases u<;>first
    | exact wpAny_pure hQ
    | (refine wpAny_bind (wpAny_load ho ?_)
       rw [hc, hd]
       show wpAny M A (if (["enumerate", "zip", "dict_itemiterator", "dict_reverseitemiterator", "odict_iterator", "itertools.zip_longest", "itertools.pairwise"].contains n && vs[0]? == some (rawInt _)) = true then _ else _) Q E s
       rw [if_neg (by intro h; rw [hn, Bool.false_and] at h; cases h)]
       exact wpAny_pure hQ))
def Itl(K:PySem.W.Frag)(a:Addr):It :=
 ⟨λi H=>∃xs x,SqL K H a xs/\xs[i]?=some x,λi H x H'=>H'=H/\∀xs,SqL K H a xs->xs[i]?=some x,λi H=>∃xs,SqL K H a xs/\xs.length<=i⟩
def Itt(K:PySem.W.Frag)(a:Addr):It :=
 ⟨λi H=>∃xs x,SqT K H a xs/\xs[i]?=some x,λi H x H'=>H'=H/\∀xs,SqT K H a xs->xs[i]?=some x,λi H=>∃xs,SqT K H a xs/\xs.length<=i⟩
def Itr(lo:Int)(n:Nat):It:=⟨λi _=>i<n,λi H x H'=>H'=H/\x = .int (lo+i),λi _=>n<=i⟩
theorem zm8{P:Program}{w:World}{K:PySem.W.Frag}{tg:Expr}(a it:Addr):zbH true P w K tg (Itl K a) [it] it (λi h=>h.IsListIter it a i) where
 mem:=by simp
 obj:=λi h st b hb=>by
  have e:b=it:=by simpa using hb
  subst e
  obtain ⟨o,e,c,d⟩:=st
  exact ⟨o,e,λv z=>by rw [d] at z;cases z⟩
 keep:=λi h h' st k=>st.at λo e=>k it (by simp) o e
 item:=by
  intro X hP hw hK hc i Ga s σ H E I hf st hg
  subst hP hw hK
  obtain ⟨xs,x,hq,hx⟩:=hg
  obtain ⟨its,rv,p,hz⟩:=I.list hq
  obtain ⟨u,hu,ru⟩:=rv.get hx
  obtain ⟨f0,f1,f2,f3,f4,f5⟩:=hf it (by simp)
  refine wpAny_pyNext_list_item st p.isList (x:=u) (by simpa using hu) λh' st' sb=>?_
  have I1:Inv X Ga σ H { s with heap:=h' }:=I.turned (t':=s.toks) (λb o hb e=>(sb.2 b hb).trans e) f0 f1 f3 f4 f5
  obtain ⟨o,e,c,d⟩:=id st'
  exact ⟨u,rfl,zc8 (s:={ s with heap:=h' }) e c d (by decide) ⟨x,H,I1,ru,⟨rfl,λys hy=>by rw [I.list_inj hy hq];exact hx⟩,st',λb hb=>(hf b hb).1⟩⟩
 done:=by
  intro X hP hw hK hc i Ga s σ H E I hf st hg
  subst hP hw hK
  obtain ⟨xs,hq,hx⟩:=hg
  obtain ⟨its,rv,p,hz⟩:=I.list hq
  obtain ⟨f0,f1,f2,f3,f4,f5⟩:=hf it (by simp)
  have hl:=rv.length
  exact wpAny_pyNext_list_end (I.ok.hd (hc rfl)) st p.isList (by simp;omega) λh' eb=>⟨rfl,I.turned (t':=s.toks) (λb o hb e=>eb b o hb e) f0 f1 f3 f4 f5⟩
 self:=λ_ _ _ _ _ st h=>wpAny_pyIter_listiter st h
theorem zkT{P:Program}{w:World}{K:PySem.W.Frag}{tg:Expr}(a it:Addr):zbH true P w K tg (Itt K a) [it] it (λi h=>h.IsTupleIter it a i) where
 mem:=by simp
 obj:=λi h st b hb=>by
  have e:b=it:=by simpa using hb
  subst e
  obtain ⟨o,e,c,d⟩:=st
  exact ⟨o,e,λv z=>by rw [d] at z;cases z⟩
 keep:=λi h h' st k=>st.at λo e=>k it (by simp) o e
 item:=by
  intro X hP hw hK hc i Ga s σ H E I hf st hg
  subst hP hw hK
  obtain ⟨xs,x,hq,hx⟩:=hg
  obtain ⟨its,rv,p,hz⟩:=I.tuple hq
  obtain ⟨u,hu,ru⟩:=rv.get hx
  obtain ⟨f0,f1,f2,f3,f4,f5⟩:=hf it (by simp)
  refine wpAny_pyNext_tuple_item st (show s.heap.IsTuple a its.toArray from p) (x:=u) (by simpa using hu) λh' st' sb=>?_
  have I1:Inv X Ga σ H { s with heap:=h' }:=I.turned (t':=s.toks) (λb o hb e=>(sb.2 b hb).trans e) f0 f1 f3 f4 f5
  obtain ⟨o,e,c,d⟩:=id st'
  exact ⟨u,rfl,zc8 (s:={ s with heap:=h' }) e c d (by decide) ⟨x,H,I1,ru,⟨rfl,λys hy=>by rw [I.tuple_inj hy hq];exact hx⟩,st',λb hb=>(hf b hb).1⟩⟩
 done:=by
  intro X hP hw hK hc i Ga s σ H E I hf st hg
  subst hP hw hK
  obtain ⟨xs,hq,hx⟩:=hg
  obtain ⟨its,rv,p,hz⟩:=I.tuple hq
  obtain ⟨f0,f1,f2,f3,f4,f5⟩:=hf it (by simp)
  have hl:=rv.length
  exact wpAny_pyNext_tuple_end (I.ok.hd (hc rfl)) st (show s.heap.IsTuple a its.toArray from p) (by simp;omega) λh' eb=>⟨rfl,I.turned (t':=s.toks) (λb o hb e=>eb b o hb e) f0 f1 f3 f4 f5⟩
 self:=λ_ _ _ _ _ st h=>wpAny_pyIter_tupleiter st h
theorem zr3{P:Program}{w:World}{K:PySem.W.Frag}{tg:Expr}(it:Addr)(lo:Int)(n:Nat):zbH true P w K tg (Itr lo n) [it] it (λi h=>IsRangeIter h it (lo+(i:Nat)*1) ((n:Int)-(i:Nat)) 1) where
 mem:=by simp
 obj:=λi h st b hb=>by
  have e:b=it:=by simpa using hb
  subst e
  exact ⟨_,st,λv z=>by
   have z':Data.fields _=Data.cell v:=z
   cases z'⟩
 keep:=λi h h' st k=>k it (by simp) _ st
 item:=by
  intro X hP hw hK hc i Ga s σ H E I hf st hg
  subst hP hw hK
  obtain ⟨f0,f1,f2,f3,f4,f5⟩:=hf it (by simp)
  have W:=Walks.range (prog:=X.prog) (w:=X.w) (I.ok.hd (hc rfl)) it lo 1 n
  refine W.item i s _ _ hg st λv h' tk hv st' kk=>?_
  obtain ⟨t,rfl⟩:=hv
  have I1:Inv X Ga σ H { s with heap:=h',toks:=tk }:=I.turned (λb o hb e=>kk b o (by simpa using hb) e) f0 f1 f3 f4 f5
  refine ⟨_,rfl,zc8 (s:={ s with heap:=h',toks:=tk }) (n:="range_iterator") st' rfl rfl (by decide) ⟨.int (lo+i),H,I1,⟨t,?_⟩,⟨rfl,rfl⟩,st',λb hb=>(hf b hb).1⟩⟩
  rw [Int.mul_one]
 done:=by
  intro X hP hw hK hc i Ga s σ H E I hf st hg
  subst hP hw hK
  obtain ⟨f0,f1,f2,f3,f4,f5⟩:=hf it (by simp)
  exact wpAny_pyNext_range_end (I.ok.hd (hc rfl)) st (by have:n<=i:=hg;omega) λh' eb=>⟨rfl,I.turned (t':=s.toks) (λb o hb e=>eb b o hb e) f0 f1 f3 f4 f5⟩
 self:=λ_ _ _ _ _ st h=>wpAny_pyIter_rangeiter st h
section
variable {X:Cx}{tg:Expr}
def ze4(K:PySem.W.Frag)(tl:TE):TI:=λσ H R=>tl σ H λx H1=>∃a,x = .ref a/\(∃xs,SqL K H1 a xs)/\R (Itl K a) H1
def zdK(K:PySem.W.Frag)(tl:TE):TI:=λσ H R=>tl σ H λx H1=>∃a,x = .ref a/\(∃xs,SqT K H1 a xs)/\R (Itt K a) H1
theorem zrQ{l:Expr}{tl:TE}(hl:PE X l tl):PI X tg l (ze4 X.K tl):=by
 intro Ga s σ H R I h
 refine thn (hl Ga s σ H _ I h) λv s1 ⟨x,H1,I1,r1,q1⟩=>?_
 obtain ⟨a,e,⟨xs,hq⟩,q⟩:=q1
 subst e
 cases r1
 obtain ⟨its,rv,p,hz⟩:=I1.list hq
 refine wpAny_pyIter_list p.isList ?_
 refine ⟨s1.heap.objs.size,[s1.heap.objs.size],_,_,H1,rfl,I1.kept (t':=s1.toks) λb o e=>get?_push_of_some _ e,zm8 a _,⟨_,get?_push_size _ rfl,rfl,rfl⟩,λb hb=>?_,q⟩
 have e:b=s1.heap.objs.size:=by simpa using hb
 subst e
 exact I1.fpOk (Nat.le_refl _) (I1.hok.fresh (Nat.le_refl _))
theorem zmp{l:Expr}{tl:TE}(hl:PE X l tl):PI X tg l (zdK X.K tl):=by
 intro Ga s σ H R I h
 refine thn (hl Ga s σ H _ I h) λv s1 ⟨x,H1,I1,r1,q1⟩=>?_
 obtain ⟨a,e,⟨xs,hq⟩,q⟩:=q1
 subst e
 cases r1
 obtain ⟨its,rv,p,hz⟩:=I1.tuple hq
 refine wpAny_pyIter_tuple (show s1.heap.IsTuple a its.toArray from p) ?_
 refine ⟨s1.heap.objs.size,[s1.heap.objs.size],_,_,H1,rfl,I1.kept (t':=s1.toks) λb o e=>get?_push_of_some _ e,zkT a _,⟨_,get?_push_size _ rfl,rfl,rfl⟩,λb hb=>?_,q⟩
 have e:b=s1.heap.objs.size:=by simpa using hb
 subst e
 exact I1.fpOk (Nat.le_refl _) (I1.hok.fresh (Nat.le_refl _))
theorem zjy{Ga:List (Addr×Obj)}{σ:St}{H:Hp}{s:Shared}{R:It->Hp->Prop}{E:Value->Shared->Prop}{lo hi:Int}{t u v:Tok}{tk:Nat}(I:Inv X Ga σ H s)(h1 : -(2 ^ 62)<=lo)(h2:lo<2 ^ 62)(h3 : -(2 ^ 62)<=hi)(h4:hi<2 ^ 62)
  (q:R (Itr lo (hi-lo).toNat) H):wpAny (model X.prog X.w) X.A (pyIter (.ref s.heap.objs.size)) (PIE true X Ga σ tg R) E { s with heap:=s.heap.push { cls:=.type "range",data:=.fields #[.int lo t,.int hi u,.int 1 v] },toks:=tk }:=by
 refine wpAny_pyIter_range (IsRange.new ..) (small_one h1 h2 h3 h4) ?_
 have I1:Inv X Ga σ H { s with heap:=s.heap.push { cls:=.type "range",data:=.fields #[.int lo t,.int hi u,.int 1 v] },toks:=tk }:=I.kept λb o e=>get?_push_of_some _ e
 refine ⟨(s.heap.push { cls:=.type "range",data:=.fields #[.int lo t,.int hi u,.int 1 v] }).objs.size,[(s.heap.push { cls:=.type "range",data:=.fields #[.int lo t,.int hi u,.int 1 v] }).objs.size],_,_,H,rfl,
  I1.kept (t':=tk) λb o e=>get?_push_of_some _ e,zr3 _ lo (hi-lo).toNat,?_,λb hb=>?_,q⟩
 ·have e1:lo+((0:Nat):Int)*1=lo:=by simp
  have e2:(((hi-lo).toNat:Nat):Int)-((0:Nat):Int)=Builtin.Range.rangeSize lo hi 1:=by rw [rangeSize_one];split<;>omega
  show IsRangeIter _ _ (lo+((0:Nat):Int)*1) ((((hi-lo).toNat:Nat):Int)-((0:Nat):Int)) 1
  rw [e1,e2]
  exact get?_push_size _ rfl
 ·have e:b=(s.heap.push { cls:=.type "range",data:=.fields #[.int lo t,.int hi u,.int 1 v] }).objs.size:=by simpa using hb
  subst e
  exact I1.fpOk (Nat.le_refl _) (I1.hok.fresh (Nat.le_refl _))
def zdY(ta:TA):TI:=λσ H R=>ta σ H λvs H1=>∃j:Int,vs=[.int j]/\-(2 ^ 62)<=j/\j<2 ^ 62/\R (Itr 0 j.toNat) H1
def zj8(ta:TA):TI:=λσ H R=>ta σ H λvs H1=>∃i j:Int,vs=[.int i,.int j]/\(-(2 ^ 62)<=i/\i<2 ^ 62/\-(2 ^ 62)<=j/\j<2 ^ 62)/\R (Itr i (j-i).toNat) H1
theorem zkY{a:Expr}{ta:TA}{p pos:Pos}(hg:Gl X "range")(hm:X.mg "range"=none)(ha:PA X [a] ta)(hs:starEach [a] X.env=[(false,eval a X.env)]:=by rfl):PI X tg (.Call (.Name "range" p) [a] [] pos) (zdY ta):=by
 intro Ga s σ H R I h
 refine Call_ (zds I hg hm boot_range (PyProof.Rows.callWith_type1 (thn (ha pos Ga s σ H _ I h) λus s1 ⟨vs,H1,I1,r1,q1⟩=>?_) hs rfl))
 obtain ⟨j,e,q1,q2,q⟩:=q1
 subst e
 cases r1 with
 | cons r rr =>
  cases rr
  obtain ⟨t,rfl⟩:=r
  exact call_range_1 (zjy I1 (by omega) (by omega) q1 q2 (by simpa using q))
def zeX(wi:TI)(g:TG)(tb:TS):TS:=λD σ H=>wi σ H λJ H1=>∃W:Nat->Nat->St->Hp->Prop,(∃m,W 0 m σ H1)/\∀i m σ H,W i m σ H ->
 (J.stop i H/\D.nx σ H)\/(J.go i H/\∃N:St->Hp->Prop,(∀σ' H',N σ' H'->∃m',m'<m/\W (i+1) m' σ' H')/\∀x H',J.yld i H x H'->g x σ H' λσ2 H2=>tb { D with nx:=N,ct:=N,bk:=D.nx } σ2 H2)
def zcc(fp:List Addr)(h:Heap):List (Addr×Obj):=fp.filterMap λb=>(h.get? b).map λo=>(b,o)
theorem zcu{fp:List Addr}{h:Heap}{b:Addr}{o:Obj}(hb:b∈fp)(e:h.get? b=some o):(b,o)∈zcc fp h:=List.mem_filterMap.mpr ⟨b,hb,by rw [e];rfl⟩
theorem zfi{fp:List Addr}{h:Heap}{p:Addr×Obj}(hp:p∈zcc fp h):p.1∈fp/\h.get? p.1=some p.2:=by
 obtain ⟨b,hb,e⟩:=List.mem_filterMap.mp hp
 cases q:h.get? b with
 | none=>rw [q] at e;cases e
 | some o =>
  rw [q] at e
  have e':(b,o)=p:=Option.some.inj e
  subst e'
  exact ⟨hb,q⟩
theorem Inv.pinned{Ga:List (Addr×Obj)}{σ:St}{H:Hp}{s:Shared}{fp:List Addr}(I:Inv X Ga σ H s)(hf:∀b∈fp,zV X Ga H b)(ho:∀b∈fp,∃o,s.heap.get? b=some o/\∀v,o.data≠.cell v):Inv X (Ga++zcc fp s.heap) σ H s :=
 I.pins_of λp hp=>(mem_append.mp hp).elim (λz=>I.pin p (mem_append_right _ z)) λz=>by
  obtain ⟨hb,e⟩:=zfi z
  obtain ⟨f0,f1,f2,_⟩:=hf p.1 hb
  obtain ⟨o,e',d⟩:=ho p.1 hb
  rw [e] at e';cases e'
  exact ⟨e,f0,f1,f2,d⟩
theorem Inv.unpinned{Ga pl:List (Addr×Obj)}{σ:St}{H:Hp}{s:Shared}(I:Inv X (Ga++pl) σ H s):Inv X Ga σ H s:=I.pins_of λp hp=>I.pin p (mem_append_right _ (mem_append_left _ hp))
theorem zsF{c:Bool}{iter:Expr}{body:List Stmt}{wi:TI}{g:TG}{tb:TS}{pos:Pos}(hp:PassesOwn (model X.prog X.w) X.A X.env X.xe)(hc:c=true->X.calm=true)(hi:PIc c X tg iter wi)(hg:PG X tg g)(hb:PSs X body tb)
  (hs:∀x,foldedSetIterable iter X.env x=pure x:=by intro _;rfl):PS X (.For tg iter body [] pos) (zeX wi g tb):=by
 intro Ga s σ H D I h
 refine wpAny_For (thn (hi Ga s σ H _ I h) λv s1 h1=>thn h1 λitv s2 h2=>?_) hs
 obtain ⟨it,fp,tn,J,H2,e,I2,T,st2,f2,W,⟨m0,w0⟩,turn⟩:=h2
 subst e
 have stat:∀{H':Hp},(∀b∈fp,H' b=none)->∀b∈fp,zV X Ga H' b:=λhn b hb=>⟨hn b hb,(f2 b hb).2⟩
 refine codeAny_forLoop_any (λn s'=>∃i σ' H',Inv X Ga σ' H' s'/\tn i s'.heap/\(∀b∈fp,H' b=none)/\W i n σ' H') ?_ m0 ⟨0,σ,H2,I2,st2,λb hb=>(f2 b hb).1,w0⟩
 rintro n s3 ⟨i,σ3,H3,I3,st3,fr3,w3⟩
 rcases turn i n σ3 H3 w3 with ⟨stop,qn⟩|⟨go,N,hN,step⟩
 ·refine wpAny_passesOwn hp (thn (T.done X rfl rfl rfl hc i Ga s3 σ3 H3 X.xe I3 (stat fr3) st3 stop) λr s4 ⟨hr,I4⟩=>?_)
  subst hr
  exact wpAny_execs_nil ⟨σ3,H3,I4,qn⟩
 ·refine wpAny_passesOwn hp (thn (T.item X rfl rfl rfl hc i Ga s3 σ3 H3 X.xe I3 (stat fr3) st3 go) λr s4 ⟨u,hr,h4⟩=>?_)
  subst hr
  refine wpAny_passesOwn hp (thn h4 λ_ s5 ⟨x,H5,I5,r5,y5,st5,fr5⟩=>?_)
  have I5':=I5.pinned (stat fr5) (T.obj _ _ st5)
  refine wpAny_passesOwn hp (thn (hg _ s5 σ3 H5 x u _ I5' r5 (step x H5 y5)) λ_ s6 ⟨σ6,H6,I6,q6⟩=>?_)
  refine wpAny_passesOwn hp (thn (hb _ s6 σ6 H6 _ I6 q6) λf s7 q7=>?_)
  have again:∀{σ7:St}{H7:Hp},Inv X (Ga++zcc fp s5.heap) σ7 H7 s7->N σ7 H7->∃m,m<n/\∃i σ' H',Inv X Ga σ' H' s7/\tn i s7.heap/\(∀b∈fp,H' b=none)/\W i m σ' H':=λ{σ7 H7} I7 n7=>by
   obtain ⟨m',hm,w7⟩:=hN σ7 H7 n7
   refine ⟨m',hm,i+1,σ7,H7,I7.unpinned,T.keep _ _ _ st5 λb hb o e=>(I7.pin (b,o) (mem_append_right _ (mem_append_right _ (zcu hb e)))).1,λb hb=>?_,w7⟩
   obtain ⟨o,e,d⟩:=T.obj _ _ st5 b hb
   exact (I7.pin (b,o) (mem_append_right _ (mem_append_right _ (zcu hb e)))).2.1
  cases f with
  | next=>obtain ⟨σ7,H7,I7,n7⟩:=q7;exact again I7 n7
  | cont=>obtain ⟨σ7,H7,I7,n7⟩:=q7;exact again I7 n7
  | brk=>obtain ⟨σ7,H7,I7,q7⟩:=q7;exact ⟨σ7,H7,I7.unpinned,q7⟩
  | ret v=>obtain ⟨x7,σ7,H7,I7,r7,q7⟩:=q7;exact ⟨x7,σ7,H7,I7.unpinned,r7,q7⟩
end
theorem zn4{K:PySem.W.Frag}{a:Addr}{xs:List V}{g:TG}{tb:TS}{D:zY}{σ:St}{H:Hp}(Pv:Nat->St->Hp->Prop)(h0:Pv 0 σ H)(hl:∀i σ H,i<=xs.length->Pv i σ H->SqL K H a xs)
  (hs:∀i x σ H,xs[i]?=some x->Pv i σ H->g x σ H λσ2 H2=>tb { D with nx:=Pv (i+1),ct:=Pv (i+1),bk:=D.nx } σ2 H2) (hd:∀σ H,Pv xs.length σ H->D.nx σ H) :
  ∃W:Nat->Nat->St->Hp->Prop,(∃m,W 0 m σ H)/\∀i m σ H,W i m σ H ->
   ((Itl K a).stop i H/\D.nx σ H)\/((Itl K a).go i H/\∃N:St->Hp->Prop,(∀σ' H',N σ' H'->∃m',m'<m/\W (i+1) m' σ' H')/\∀x H',(Itl K a).yld i H x H'->g x σ H' λσ2 H2=>tb { D with nx:=N,ct:=N,bk:=D.nx } σ2 H2):=by
 refine ⟨λi m σ H=>m=xs.length-i/\i<=xs.length/\Pv i σ H,⟨xs.length,by simp,zero_le _,h0⟩,?_⟩
 rintro i m σ H ⟨rfl,hi,p⟩
 have q:=hl i σ H hi p
 by_cases hlt:i<xs.length
 ·refine .inr ⟨⟨xs,xs[i],q,by simp [hlt]⟩,Pv (i+1),λσ' H' p'=>⟨xs.length-(i+1),by omega,rfl,hlt,p'⟩,λx H' y=>?_⟩
  obtain ⟨e,y⟩:=y
  subst e
  exact hs i x σ _ (y xs q) p
 ·have e:i=xs.length:=by omega
  subst e
  exact .inl ⟨⟨xs,q,Nat.le_refl _⟩,hd σ H p⟩
theorem zoQ{K:PySem.W.Frag}{a:Addr}{xs:List V}{g:TG}{tb:TS}{D:zY}{σ:St}{H:Hp}(Pv:Nat->St->Hp->Prop)(h0:Pv 0 σ H)(hl:∀i σ H,i<=xs.length->Pv i σ H->SqT K H a xs)
  (hs:∀i x σ H,xs[i]?=some x->Pv i σ H->g x σ H λσ2 H2=>tb { D with nx:=Pv (i+1),ct:=Pv (i+1),bk:=D.nx } σ2 H2) (hd:∀σ H,Pv xs.length σ H->D.nx σ H) :
  ∃W:Nat->Nat->St->Hp->Prop,(∃m,W 0 m σ H)/\∀i m σ H,W i m σ H ->
   ((Itt K a).stop i H/\D.nx σ H)\/((Itt K a).go i H/\∃N:St->Hp->Prop,(∀σ' H',N σ' H'->∃m',m'<m/\W (i+1) m' σ' H')/\∀x H',(Itt K a).yld i H x H'->g x σ H' λσ2 H2=>tb { D with nx:=N,ct:=N,bk:=D.nx } σ2 H2):=by
 refine ⟨λi m σ H=>m=xs.length-i/\i<=xs.length/\Pv i σ H,⟨xs.length,by simp,zero_le _,h0⟩,?_⟩
 rintro i m σ H ⟨rfl,hi,p⟩
 have q:=hl i σ H hi p
 by_cases hlt:i<xs.length
 ·refine .inr ⟨⟨xs,xs[i],q,by simp [hlt]⟩,Pv (i+1),λσ' H' p'=>⟨xs.length-(i+1),by omega,rfl,hlt,p'⟩,λx H' y=>?_⟩
  obtain ⟨e,y⟩:=y
  subst e
  exact hs i x σ _ (y xs q) p
 ·have e:i=xs.length:=by omega
  subst e
  exact .inl ⟨⟨xs,q,Nat.le_refl _⟩,hd σ H p⟩
theorem zpH{lo:Int}{n:Nat}{g:TG}{tb:TS}{D:zY}{σ:St}{H:Hp}(Pv:Nat->St->Hp->Prop)(h0:Pv 0 σ H)
  (hs:∀i σ H,i<n->Pv i σ H->g (.int (lo+i)) σ H λσ2 H2=>tb { D with nx:=Pv (i+1),ct:=Pv (i+1),bk:=D.nx } σ2 H2) (hd:∀σ H,Pv n σ H->D.nx σ H) :
  ∃W:Nat->Nat->St->Hp->Prop,(∃m,W 0 m σ H)/\∀i m σ H,W i m σ H ->
   ((Itr lo n).stop i H/\D.nx σ H)\/((Itr lo n).go i H/\∃N:St->Hp->Prop,(∀σ' H',N σ' H'->∃m',m'<m/\W (i+1) m' σ' H')/\∀x H',(Itr lo n).yld i H x H'->g x σ H' λσ2 H2=>tb { D with nx:=N,ct:=N,bk:=D.nx } σ2 H2):=by
 refine ⟨λi m σ H=>m=n-i/\i<=n/\Pv i σ H,⟨n,by simp,zero_le _,h0⟩,?_⟩
 rintro i m σ H ⟨rfl,hi,p⟩
 by_cases hlt:i<n
 ·refine .inr ⟨hlt,Pv (i+1),λσ' H' p'=>⟨n-(i+1),by omega,rfl,hlt,p'⟩,λx H' y=>?_⟩
  obtain ⟨e,y⟩:=y
  subst e y
  exact hs i σ _ hlt p
 ·have e:i=n:=by omega
  subst e
  exact .inl ⟨Nat.le_refl _,hd σ H p⟩
abbrev R2:=V->V->Hp->VK->Prop
def OpR(X:Cx)(f:Value->Value->Sem Value)(r:R2):Prop :=
 ∀(Ga:List (Addr×Obj))(s:Shared)(σ:St)(H:Hp)(x y:V)(v u:Value)(Q:VK),Inv X Ga σ H s->ze x v->ze y u->r x y H Q ->
  wpAny (model X.prog X.w) X.A (f v u) (EP X Ga σ Q) X.xe s
def UnR(X:Cx)(f:Value->Sem Value)(r:V->Hp->VK->Prop):Prop :=
 ∀(Ga:List (Addr×Obj))(s:Shared)(σ:St)(H:Hp)(x:V)(v:Value)(Q:VK),Inv X Ga σ H s->ze x v->r x H Q ->
  wpAny (model X.prog X.w) X.A (f v) (EP X Ga σ Q) X.xe s
def zR(X:Cx)(f:Value)(r:List V->Hp->VK->Prop):Prop :=
 ∀(Ga:List (Addr×Obj))(s:Shared)(σ:St)(H:Hp)(xs:List V)(us:List Value)(Q:VK),Inv X Ga σ H s->zi xs us->r xs H Q ->
  wpAny (model X.prog X.w) X.A (call f us) (EP X Ga σ Q) X.xe s
def zsm(X:Cx)(r:V->Hp->(Bool->Hp->Prop)->Prop):Prop :=
 ∀(Ga:List (Addr×Obj))(s:Shared)(σ:St)(H:Hp)(x:V)(v:Value)(Q:Bool->Hp->Prop),Inv X Ga σ H s->ze x v->r x H Q ->
  wpAny (model X.prog X.w) X.A (truthy v) (TP X Ga σ Q) X.xe s
def tOp(r:R2)(ta tb:TE):TE:=λσ H Q=>ta σ H λx H1=>tb σ H1 λy H2=>r x y H2 Q
def tUn(r:V->Hp->VK->Prop)(ta:TE):TE:=λσ H Q=>ta σ H λx H1=>r x H1 Q
def rI(C:Int->Int->Prop)(g:Int->Int->V):R2:=λx y H Q=>∃i j,x = .int i/\y = .int j/\C i j/\Q (g i j) H
def rI0(g:Int->Int->V):R2:=λx y H Q=>∃i j,x = .int i/\y = .int j/\Q (g i j) H
def rU(g:Int->V):V->Hp->VK->Prop:=λx H Q=>∃i,x = .int i/\Q (g i) H
section
variable {X:Cx}{a b c:Expr}{ta tb tc:TE}{pos:Pos}
theorem zf6(ha:PE X a ta)(hb:PE X b tb){Ga:List (Addr×Obj)}{s:Shared}{σ:St}{H:Hp}{R:V->V->Hp->Prop}(I:Inv X Ga σ H s)
  (h:ta σ H λx H1=>tb σ H1 λy H2=>R x y H2) {Q:Value->Shared->Prop}{f:Value->Value->Sem Value}
  (hf:∀v u s2 x y H2,Inv X Ga σ H2 s2->ze x v->ze y u->R x y H2->wpAny (model X.prog X.w) X.A (f v u) Q X.xe s2) :
  wpAny (model X.prog X.w) X.A (eval a X.env) (λv s₁=>wpAny (model X.prog X.w) X.A (eval b X.env) (λu s₂=>wpAny (model X.prog X.w) X.A (f v u) Q X.xe s₂) X.xe s₁) X.xe s:=by
 refine thn (ha Ga s σ H _ I h) λv s1 ⟨x,H1,I1,r1,q1⟩=>?_
 refine thn (hb Ga s1 σ H1 _ I1 q1) λu s2 ⟨y,H2,I2,r2,q2⟩=>?_
 exact hf v u s2 x y H2 I2 r1 r2 q2
theorem zsR{op:Operator}{r:R2}(ho:OpR X (binaryOp op) r)(ha:PE X a ta)(hb:PE X b tb):PE X (.BinOp a op b pos) (tOp r ta tb):=by
 intro Ga s σ H Q I h
 exact wpAny_BinOp (zf6 ha hb I h λv u s2 x y H2 I2 rx ry q=>ho Ga s2 σ H2 x y v u Q I2 rx ry q)
theorem zqX{op:UnaryOp}{r:V->Hp->VK->Prop}(ho:UnR X (unaryOp op) r)(ha:PE X a ta):PE X (.UnaryOp op a pos) (tUn r ta):=by
 intro Ga s σ H Q I h
 exact UnaryOp_ (thn (ha Ga s σ H _ I h) λv s1 ⟨x,H1,I1,r1,q1⟩=>ho Ga s1 σ H1 x v Q I1 r1 q1)
theorem opI{f:Value->Value->Sem Value}{C:Int->Int->Prop}{g:Int->Int->Int}
  (rule:∀(i j:Int)(t u:Tok)(s:Shared)(Q:Value->Shared->Prop)(E:Value->Shared->Prop),C i j->Q (.int (g i j) s.toks) { s with toks:=s.toks+1 }->wpAny (model X.prog X.w) X.A (f (.int i t) (.int j u)) Q E s) :
  OpR X f (rI C λi j=>.int (g i j)):=by
 intro Ga s σ H x y v u Q I rx ry h
 obtain ⟨i,j,rfl,rfl,hc,q⟩:=h
 obtain ⟨t,rfl⟩:=rx
 obtain ⟨t',rfl⟩:=ry
 exact rule i j t t' s _ _ hc ⟨.int (g i j),H,I.tok _,⟨_,rfl⟩,q⟩
theorem zhS{f:Value->Value->Sem Value}{g:Int->Int->Int}
  (rule:∀(i j:Int)(t u:Tok)(s:Shared)(Q:Value->Shared->Prop)(E:Value->Shared->Prop),Q (.int (g i j) s.toks) { s with toks:=s.toks+1 }->wpAny (model X.prog X.w) X.A (f (.int i t) (.int j u)) Q E s) :
  OpR X f (rI0 λi j=>.int (g i j)):=by
 intro Ga s σ H x y v u Q I rx ry h
 obtain ⟨i,j,rfl,rfl,q⟩:=h
 obtain ⟨t,rfl⟩:=rx
 obtain ⟨t',rfl⟩:=ry
 exact rule i j t t' s _ _ ⟨.int (g i j),H,I.tok _,⟨_,rfl⟩,q⟩
theorem zeT{f:Value->Value->Sem Value}{g:Int->Int->Bool}
  (rule:∀(i j:Int)(t u:Tok)(s:Shared)(Q:Value->Shared->Prop)(E:Value->Shared->Prop),Q (.bool (g i j)) s->wpAny (model X.prog X.w) X.A (f (.int i t) (.int j u)) Q E s) :
  OpR X f (rI0 λi j=>.bl (g i j)):=by
 intro Ga s σ H x y v u Q I rx ry h
 obtain ⟨i,j,rfl,rfl,q⟩:=h
 obtain ⟨t,rfl⟩:=rx
 obtain ⟨t',rfl⟩:=ry
 exact rule i j t t' s _ _ ⟨.bl (g i j),H,I,rfl,q⟩
def zr4(i j:Int):Prop:=0<j/\j<1073741824
def znF(i j:Int):Prop:=0<=j/\j<=1000000/\i.natAbs<2 ^ 64
def zcP(i j:Int):Prop:=(-(2 ^ 64)<i/\i<2 ^ 64)\/(-(2 ^ 64)<j/\j<2 ^ 64)
theorem zcP.ok{i j:Int}(h:zcP i j):IntMulOk i j:=by
 rcases h with ⟨h1,h2⟩|⟨h1,h2⟩
 ·exact .of_left (intBits_le_64 h1 h2)
 ·exact .of_right (intBits_le_64 h1 h2)
theorem zkc:OpR X (binaryOp .Add) (rI0 λi j=>.int (i+j)):=zhS λ_ _ _ _ _ _ _ q=>add_int q
theorem zh1:OpR X (binaryOp .Sub) (rI0 λi j=>.int (i-j)):=zhS λ_ _ _ _ _ _ _ q=>sub_int q
theorem zpa:OpR X (binaryOp .Mult) (rI zcP λi j=>.int (i*j)):=opI λ_ _ _ _ _ _ _ hc q=>mul_int q hc.ok
theorem znA:OpR X (binaryOp .FloorDiv) (rI zr4 λi j=>.int (i / j)):=opI λi j _ _ _ _ _ hc q=>by
 have h1:(0:Int)<j:=hc.1
 have h2:j<1073741824:=hc.2
 exact floordiv_int (by omega) (by rw [Int.fdiv_eq_ediv_of_nonneg i (by omega)];exact q) (.inl (PyProof.noPylong_small (by omega)))
theorem zdl:OpR X (binaryOp .Mod) (rI (λ_ j=>0<j) λi j=>.int (i % j)):=opI λi j _ _ _ _ _ hc q=>by
 have h1:(0:Int)<j:=hc
 exact mod_int' (by omega) (by rw [Int.fmod_eq_emod_of_nonneg i (by omega)];exact q)
theorem ziX:OpR X (binaryOp .Pow) (rI znF λi j=>.int (i ^ j.toNat)):=opI λ_ _ _ _ _ _ _ hc q=>pow_int_small hc.1 hc.2.1 hc.2.2 q
theorem unI{f:Value->Sem Value}{g:Int->Int}
  (rule:∀(i:Int)(t:Tok)(s:Shared)(Q:Value->Shared->Prop)(E:Value->Shared->Prop),Q (.int (g i) s.toks) { s with toks:=s.toks+1 }->wpAny (model X.prog X.w) X.A (f (.int i t)) Q E s) :
  UnR X f (rU λi=>.int (g i)):=by
 intro Ga s σ H x v Q I rx h
 obtain ⟨i,rfl,q⟩:=h
 obtain ⟨t,rfl⟩:=rx
 exact rule i t s _ _ ⟨.int (g i),H,I.tok _,⟨_,rfl⟩,q⟩
theorem ziF:UnR X (unaryOp .USub) (rU λi=>.int (-i)):=unI λ_ _ _ _ _ q=>neg_int q
end
def zbb:V->V->Bool
 | .non,.non=>true | .non,.int _=>true | .int _,.non=>true | .non,.bl _=>true | .bl _,.non=>true | .non,.str _=>true | .str _,.non=>true
 | .int _,.int _=>true | .bl _,.bl _=>true | .str _,.str _=>true | .byt _,.byt _=>true
 | .int _,.str _=>true | .str _,.int _=>true | .bl _,.str _=>true | .str _,.bl _=>true
 | _,_=>false
def rEq:R2:=λx y H Q=>zbb x y=true/\Q (.bl (decide (x=y))) H
def rNe:R2:=λx y H Q=>zbb x y=true/\Q (.bl (!decide (x=y))) H
theorem zh4{i j:Int}:decide (V.int i=V.int j)=(i==j):=by
 rw [Bool.eq_iff_iff]
 simp
theorem zgW{i j:Bool}:decide (V.bl i=V.bl j)=(i==j):=by
 rw [Bool.eq_iff_iff]
 simp
theorem zi1{i j:Str}:decide (V.str i=V.str j)=(i==j):=by
 rw [Bool.eq_iff_iff]
 simp
theorem ziE{i j:Array UInt8}:decide (V.byt i=V.byt j)=(i.toList==j.toList):=by
 rw [Bool.eq_iff_iff]
 cases i
 cases j
 simp
section
variable {X:Cx}{a b c:Expr}{ta tb tc:TE}{pos:Pos}
theorem zP{Ga:List (Addr×Obj)}{σ:St}{H:Hp}{s:Shared}{Q:VK}{k k':Bool}(I:Inv X Ga σ H s)(q:Q (.bl k) H)(e:k=k'):EP X Ga σ Q (.bool k') s:=by
 subst e
 exact ⟨.bl k,H,I,rfl,q⟩
theorem zsa:OpR X (compareOp .Eq) rEq:=by
 intro Ga s σ H x y v u Q I rx ry h
 obtain ⟨hs,q⟩:=h
 cases x with
 | non =>
  cases rx
  cases y with
  | non=>cases ry;exact PySem.EqNone.eq_none_none (zP I q (by simp))
  | bl j=>cases ry;exact PySem.EqNone.eq_none_bool (zP I q (by simp))
  | int j=>obtain ⟨t',rfl⟩:=ry;exact PySem.EqNone.eq_none_int (zP I q (by simp))
  | str j=>obtain ⟨t',rfl⟩:=ry;exact PySem.EqNone.eq_none_str (zP I q (by simp))
  | _=>exact absurd (show false=true from hs) Bool.false_ne_true
 | bl i =>
  cases rx
  cases y with
  | non=>cases ry;exact PySem.EqNone.eq_bool_none (zP I q (by simp))
  | bl j=>cases ry;exact eq_bool (zP I q zgW)
  | str j=>obtain ⟨t',rfl⟩:=ry;exact PySem.EqMixed.eq_bool_str (zP I q (by simp))
  | _=>exact absurd (show false=true from hs) Bool.false_ne_true
 | int i =>
  obtain ⟨t,rfl⟩:=rx
  cases y with
  | non=>cases ry;exact PySem.EqNone.eq_int_none (zP I q (by simp))
  | int j=>obtain ⟨t',rfl⟩:=ry;exact eq_int (zP I q zh4)
  | str j=>obtain ⟨t',rfl⟩:=ry;exact PySem.EqMixed.eq_int_str (zP I q (by simp))
  | _=>exact absurd (show false=true from hs) Bool.false_ne_true
 | str i =>
  obtain ⟨t,rfl⟩:=rx
  cases y with
  | non=>cases ry;exact PySem.EqNone.eq_str_none (zP I q (by simp))
  | bl j=>cases ry;exact PySem.EqMixed.eq_str_bool (zP I q (by simp))
  | int j=>obtain ⟨t',rfl⟩:=ry;exact PySem.EqMixed.eq_str_int (zP I q (by simp))
  | str j=>obtain ⟨t',rfl⟩:=ry;exact eq_str (zP I q zi1)
  | _=>exact absurd (show false=true from hs) Bool.false_ne_true
 | byt i =>
  obtain ⟨t,rfl⟩:=rx
  cases y with
  | byt j=>obtain ⟨t',rfl⟩:=ry;exact PySem.W.eq_bytes (zP I q ziE)
  | _=>exact absurd (show false=true from hs) Bool.false_ne_true
 | _=>cases y<;>exact absurd (show false=true from hs) Bool.false_ne_true
theorem zsh:OpR X (compareOp .NotEq) rNe:=by
 intro Ga s σ H x y v u Q I rx ry h
 obtain ⟨hs,q⟩:=h
 cases x with
 | non =>
  cases rx
  cases y with
  | non=>cases ry;exact PySem.EqNone.ne_none_none (zP I q (by simp))
  | bl j=>cases ry;exact PySem.EqNone.ne_none_bool (zP I q (by simp))
  | int j=>obtain ⟨t',rfl⟩:=ry;exact PySem.EqNone.ne_none_int (zP I q (by simp))
  | str j=>obtain ⟨t',rfl⟩:=ry;exact PySem.EqNone.ne_none_str (zP I q (by simp))
  | _=>exact absurd (show false=true from hs) Bool.false_ne_true
 | bl i =>
  cases rx
  cases y with
  | non=>cases ry;exact PySem.EqNone.ne_bool_none (zP I q (by simp))
  | bl j=>cases ry;exact ne_bool (zP I q (congrArg not zgW))
  | str j=>obtain ⟨t',rfl⟩:=ry;exact PySem.EqMixed.ne_bool_str (zP I q (by simp))
  | _=>exact absurd (show false=true from hs) Bool.false_ne_true
 | int i =>
  obtain ⟨t,rfl⟩:=rx
  cases y with
  | non=>cases ry;exact PySem.EqNone.ne_int_none (zP I q (by simp))
  | int j=>obtain ⟨t',rfl⟩:=ry;exact ne_int (zP I q (congrArg not zh4))
  | str j=>obtain ⟨t',rfl⟩:=ry;exact PySem.EqMixed.ne_int_str (zP I q (by simp))
  | _=>exact absurd (show false=true from hs) Bool.false_ne_true
 | str i =>
  obtain ⟨t,rfl⟩:=rx
  cases y with
  | non=>cases ry;exact PySem.EqNone.ne_str_none (zP I q (by simp))
  | bl j=>cases ry;exact PySem.EqMixed.ne_str_bool (zP I q (by simp))
  | int j=>obtain ⟨t',rfl⟩:=ry;exact PySem.EqMixed.ne_str_int (zP I q (by simp))
  | str j=>obtain ⟨t',rfl⟩:=ry;exact ne_str (zP I q (congrArg not zi1))
  | _=>exact absurd (show false=true from hs) Bool.false_ne_true
 | byt i =>
  obtain ⟨t,rfl⟩:=rx
  cases y with
  | byt j=>obtain ⟨t',rfl⟩:=ry;exact PySem.W.ne_bytes (zP I q (congrArg not ziE))
  | _=>exact absurd (show false=true from hs) Bool.false_ne_true
 | _=>cases y<;>exact absurd (show false=true from hs) Bool.false_ne_true
theorem zdy:OpR X (compareOp .Lt) (rI0 λi j=>.bl (decide (i<j))):=zeT λ_ _ _ _ _ _ _ q=>lt_int q
theorem zim:OpR X (compareOp .LtE) (rI0 λi j=>.bl (decide (i<=j))):=zeT λ_ _ _ _ _ _ _ q=>le_int q
theorem zja:OpR X (compareOp .Gt) (rI0 λi j=>.bl (decide (j<i))):=zeT λ_ _ _ _ _ _ _ q=>gt_int q
theorem OpR.or{f:Value->Value->Sem Value}{r r':R2}(h:OpR X f r)(h':OpR X f r'):OpR X f (λx y H Q=>r x y H Q\/r' x y H Q):=by
 intro Ga s σ H x y v u Q I rx ry q
 rcases q with q|q
 ·exact h Ga s σ H x y v u Q I rx ry q
 ·exact h' Ga s σ H x y v u Q I rx ry q
theorem zZ(b:Expr){op:CmpOp}(h:op≠.In:=by decide)(h2:op≠.NotIn:=by decide):behindInMarks op b=false:=by
 have e1:(op==CmpOp.In)=false:=by cases op<;>first|rfl|exact absurd rfl h
 have e2:(op==CmpOp.NotIn)=false:=by cases op<;>first|rfl|exact absurd rfl h2
 cases b<;>simp [behindInMarks,e1,e2]
theorem zjO{op:CmpOp}{r:R2}(ho:OpR X (compareOp op) r)(ha:PE X a ta)(hb:PE X b tb)(hm:behindInMarks op b=false):PE X (.Compare a [op] [b] pos) (tOp r ta tb):=by
 intro Ga s σ H Q I h
 exact wpAny_Compare1 (zf6 ha hb I h λv u s2 x y H2 I2 rx ry q=>ho Ga s2 σ H2 x y v u Q I2 rx ry q) hm
def zfZ(t:TE):TT:=λσ H Q=>t σ H λx H'=>∃k,x = .bl k/\Q k H'
theorem zh8{op:CmpOp}{r:R2}(ho:OpR X (compareOp op) r)(ha:PE X a ta)(hb:PE X b tb)(hm:behindInMarks op b=false):PT X (.Compare a [op] [b] pos) (zfZ (tOp r ta tb)):=by
 intro Ga s σ H Q I h
 refine wpAny_isTrue_Compare1 (thn (ha Ga s σ H _ I h) λv s1 ⟨x,H1,I1,r1,q1⟩=>thn (hb Ga s1 σ H1 _ I1 q1) λu s2 ⟨y,H2,I2,r2,q2⟩ =>
  thn (ho Ga s2 σ H2 x y v u _ I2 r1 r2 q2) λc s3 ⟨z,H3,I3,r3,k,e,q3⟩=>?_) hm
 subst e
 cases r3
 exact wpAny_truthy_bool ⟨H3,I3,q3⟩
def zga(r r':R2)(ta tb tc:TE):TE:=λσ H Q=>ta σ H λx H1=>tb σ H1 λy H2=>r x y H2 λz H3=>∃k,z = .bl k /\
 (if k=true then tc σ H3 λw' H4=>r' y w' H4 Q else Q (.bl false) H3)
theorem zlV{op op':CmpOp}{r r':R2}(ho:OpR X (compareOp op) r)(ho':OpR X (compareOp op') r')(ha:PE X a ta)(hb:PE X b tb)(hc:PE X c tc)
  (hm:lastMarks [op,op'] [b,c]=false:=by with_unfolding_all rfl):PE X (.Compare a [op,op'] [b,c] pos) (zga r r' ta tb tc):=by
 intro Ga s σ H Q I h
 refine Compare_chain (thn (ha Ga s σ H _ I h) λv s1 ⟨x,H1,I1,r1,q1⟩=>chain_link (thn (hb Ga s1 σ H1 _ I1 q1) λu s2 ⟨y,H2,I2,r2,q2⟩ =>
  thn (ho Ga s2 σ H2 x y v u _ I2 r1 r2 q2) λd s3 ⟨z,H3,I3,r3,k,e,q3⟩=>?_)) hm
 subst e
 cases r3
 refine wpAny_truthy_bool ?_
 cases k with
 | false=>exact ite_ff ⟨.bl false,H3,I3,rfl,q3⟩
 | true=>exact ite_tt (chain_last (thn (hc Ga s3 σ H3 _ I3 q3) λw' s4 ⟨z',H4,I4,r4,q4⟩=>ho' Ga s4 σ H4 y z' u w' Q I4 r2 r4 q4))
def zbW(K:PySem.W.Frag)(x:V)(H:Hp)(k:Bool):Prop :=
 match x with
 | .non=>k=false
 | .bl b=>k=b
 | .int i=>k=(i != 0)
 | .str y=>y.length<=sizeLine/\k=((y.length:Int) != 0)
 | .byt y=>y.size<=sizeLine/\k=((y.size:Int) != 0)
 | .ref p=>(∃xs,SqL K H p xs/\k = !xs.isEmpty)\/(∃xs,SqT K H p xs/\k = !xs.isEmpty)\/∃kvs,H p=some (.dK kvs)/\k = !kvs.isEmpty
 | _=>False
theorem zjE{κ:Type}{kvs:List (κ×V)}{vs:List (κ×Value)}(r:KV kvs vs):(!vs.isEmpty) = !kvs.isEmpty:=by
 cases r<;>rfl
theorem zgU{xs:List V}{its:List Value}(r:zi xs its):(!its.toArray.isEmpty) = !xs.isEmpty:=by
 cases r<;>simp
theorem zbT:(sizeLine:Nat)<2 ^ 63:=by rw [sizeLine_eq];decide
theorem zrV:zsm X (λx H Q=>∃k,zbW X.K x H k/\Q k H):=by
 intro Ga s σ H x v Q I rx h
 obtain ⟨k,e,q⟩:=h
 have hl:=zbT
 have hs:sizeLine=16777216:=sizeLine_eq
 cases x with
 | non =>
  cases rx
  have e':k=false:=e
  subst e'
  exact truthy_none ⟨H,I,q⟩
 | bl b =>
  cases rx
  have e':k=b:=e
  subst e'
  exact wpAny_truthy_bool ⟨H,I,q⟩
 | int i =>
  obtain ⟨t,rfl⟩:=rx
  have e':k=(i != 0):=e
  subst e'
  exact PySem.P.truthy_int ⟨H,I,q⟩
 | str y =>
  obtain ⟨t,rfl⟩:=rx
  obtain ⟨hy,e'⟩:y.length<=sizeLine/\k=((y.length:Int) != 0):=e
  subst e'
  exact PySem.P.truthy_str (by omega) ⟨H,I.tok _,q⟩
 | byt y =>
  obtain ⟨t,rfl⟩:=rx
  obtain ⟨hy,e'⟩:y.size<=sizeLine/\k=((y.size:Int) != 0):=e
  subst e'
  exact PySem.W.truthy_bytes (by omega) ⟨H,I.tok _,q⟩
 | ref p =>
  cases rx
  have e':(∃xs,SqL X.K H p xs/\k = !xs.isEmpty)\/(∃xs,SqT X.K H p xs/\k = !xs.isEmpty)\/∃kvs,H p=some (.dK kvs)/\k = !kvs.isEmpty:=e
  rcases e' with ⟨xs,hx,e'⟩|⟨xs,hx,e'⟩|⟨kvs,hx,e'⟩
  ·subst e'
   obtain ⟨its,r,pl,hz⟩:=I.list hx
   have hlen:=r.length
   exact wpAny_truthy_list pl.isList (by simp only [size_toArray];omega) ⟨H,I.tok _,by rw [zgU r];exact q⟩
  ·subst e'
   obtain ⟨its,r,pl,hz⟩:=I.tuple hx
   have hlen:=r.length
   exact truthy_tuple pl (by simp only [size_toArray];omega) ⟨H,I.tok _,by rw [zgU r];exact q⟩
  ·subst e'
   obtain ⟨hz,hS,vs,r,m⟩:kvs.length<=sizeLine/\(p==sysModules)=false/\∃vs,KV kvs vs/\s.heap.DictOf (zaj X.prog X.w) p vs:=I.hok p _ hx
   have hlen:kvs.length=vs.length:=Paired.length r
   exact wpAny_truthy_dict hS m (by omega) ⟨H,I.tok _,by rw [zjE r];exact q⟩
 | _=>exact (show False from e).elim
theorem zsV(ha:PE X a ta)(he:∀whole,isTrue a X.env whole=(do let v<-whole;standAt a.pos;holding [v] (truthy v))) :
  PT X a (λσ H Q=>ta σ H λx H'=>∃k,zbW X.K x H' k/\Q k H'):=by
 intro Ga s σ H Q I h
 exact isTrue_plain (thn (ha Ga s σ H _ I h) λv s1 ⟨x,H1,I1,r1,q1⟩=>zrV Ga s1 σ H1 x v Q I1 r1 q1) (he _)
theorem zkw:OpR X (binaryOp .Add) (λx y H Q=>∃i j,x = .str i/\y = .str j/\i.length+j.length<=sizeLine/\Q (.str (i++j)) H):=by
 intro Ga s σ H x y v u Q I rx ry h
 obtain ⟨i,j,rfl,rfl,hz,q⟩:=h
 obtain ⟨t,rfl⟩:=rx
 obtain ⟨t',rfl⟩:=ry
 exact add_str (λt' tk=>⟨.str (i++j),H,I.tok _,⟨_,rfl⟩,q⟩) hz
theorem zb1{x:V}{us:List Value}(r:zi [x] us):∃u,us=[u]/\ze x u:=by
 cases r with
 | cons r1 r2=>cases r2;exact ⟨_,rfl,r1⟩
theorem ze8{x y:V}{us:List Value}(r:zi [x,y] us):∃u w',us=[u,w']/\ze x u/\ze y w':=by
 cases r with
 | cons r1 r2 =>
  cases r2 with
  | cons r3 r4=>cases r4;exact ⟨_,_,rfl,r1,r3⟩
theorem zmf(hc:X.calm=true):zR X (.builtin "max") (λxs H Q=>∃i j,xs=[.int i,.int j]/\Q (.int (if j>i then j else i)) H):=by
 intro Ga s σ H xs us Q I r h
 obtain ⟨i,j,rfl,q⟩:=h
 obtain ⟨u,w',rfl,⟨t,rfl⟩,⟨t',rfl⟩⟩:=ze8 r
 refine max_two_ints (I.ok.hd hc) λh' tk k=>⟨_,H,I.kept k,?_,q⟩
 by_cases hj:j>i
 ·rw [if_pos hj,if_pos hj];exact ⟨_,rfl⟩
 ·rw [if_neg hj,if_neg hj];exact ⟨_,rfl⟩
theorem zm6(hc:X.calm=true):zR X (.builtin "min") (λxs H Q=>∃i j,xs=[.int i,.int j]/\Q (.int (if j<i then j else i)) H):=by
 intro Ga s σ H xs us Q I r h
 obtain ⟨i,j,rfl,q⟩:=h
 obtain ⟨u,w',rfl,⟨t,rfl⟩,⟨t',rfl⟩⟩:=ze8 r
 refine min_two_ints (I.ok.hd hc) λh' tk k=>⟨_,H,I.kept k,?_,q⟩
 by_cases hj:j<i
 ·rw [if_pos hj,if_pos hj];exact ⟨_,rfl⟩
 ·rw [if_neg hj,if_neg hj];exact ⟨_,rfl⟩
theorem zp7:zR X (.type "int") (λxs H Q=>(∃i,xs=[.int i]/\Q (.int i) H)\/∃k,xs=[.bl k]/\Q (.int (if k then 1 else 0)) H):=by
 intro Ga s σ H xs us Q I r h
 rcases h with ⟨i,rfl,q⟩|⟨k,rfl,q⟩
 ·obtain ⟨u,rfl,t,rfl⟩:=zb1 r
  exact call_int_int ⟨.int i,H,I,⟨_,rfl⟩,q⟩
 ·obtain ⟨u,rfl,r1⟩:=zb1 r
  cases r1
  exact call_int_bool ⟨.int (if k then 1 else 0),H,I.tok _,⟨_,rfl⟩,q⟩
end
structure zbJ(h:Heap)(x dx C:Addr)(mA:Str->Option Value):Prop where
 obj:h.get? x=some (instObj C dx)
 ns:h.Ns1 dx mA
 ne:dx≠x
theorem zmK{h:Heap}{dx:Addr}{mA:Str->Option Value}(n:h.Ns1 dx mA):∃od,h.get? dx=some od/\∀name,lookIn name od=some (mA name):=by
 obtain ⟨o,es,ep,ho,hd,hk,_,hm⟩:=n
 refine ⟨o,ho,λname=>?_⟩
 have e:=hm name
 unfold nsFind findBy at e
 rw [<- Array.find?_toList] at e
 unfold lookIn
 rw [hd]
 dsimp only
 split
 ·rename_i y q
  rw [q] at e
  exact congrArg some e
 ·rename_i q
  rw [q] at e
  have a:es.toList.any (·.refKey)=false:=by
   rw [List.any_eq_false]
   intro y hy
   obtain ⟨z,t,hkey⟩:=hk y (Array.mem_toList_iff.mp hy)
   simp [DictEntry.refKey,hkey]
  have a' : ¬ es.toList.any (·.refKey)=true:=by rw [a];exact Bool.false_ne_true
  rw [if_neg a']
  exact congrArg some e
theorem zbJ.look{h:Heap}{x dx C:Addr}{mA:Str->Option Value}(I:zbJ h x dx C mA):∃od,PySem.W.InstAt h x (instObj C dx) C (some od)/\∀name,lookIn name od=some (mA name) :=
 let ⟨od,ho,hl⟩:=zmK I.ns
 ⟨od,⟨I.obj,rfl,rfl,ho⟩,hl⟩
section
variable {prog:Program}{w:World}{A:Around}{E:Value->Shared->Prop}{s:Shared}{K:PySem.W.Frag}{x dx C f:Addr}{mA:Str->Option Value}{name:Str}{v:Value}
theorem zkt{expr:Bool}{Q:Value->Shared->Prop}(X:K.In s.heap)(I:zbJ s.heap x dx C mA)(hg:plainGet K C name=true)(hh:hasDictIn K C=true)
  (ha:PySem.W.findIn K (.ref C) name=some none) (hv:mA name=some v) (hv':handedIn v=true) (h:Q v { s with toks:=s.toks+1 }) :
  wpAny (model prog w) A (getAttr (.ref x) name expr) Q E s:=by
 obtain ⟨od,J,hl⟩:=I.look
 exact PySem.W.get_value X J (plainGet_of hg).1 (PySem.W.findObj_own hh ha rfl (by rw [hl,hv])) hv' h
theorem zq3{pl:Sem Bool}{Q:Value×List Value->Shared->Prop}(X:K.In s.heap)(I:zbJ s.heap x dx C mA)(hg:plainGet K C name=true)
  (hf:PySem.W.findIn K (.ref C) name=some (some (.ref f))) (ht:isFn K (.ref f)=true) (hv:mA name=none) (h:Q (.ref f,[.ref x]) s) :
  wpAny (model prog w) A (getMethod (.ref x) name pl) Q E s:=by
 obtain ⟨od,J,hl⟩:=I.look
 exact PySem.W.method_fn X J (plainGet_of hg).1 (plainGet_of hg).2 hf (beq_iff_eq.mp ht) (by show (lookIn name od).map (·.isSome)=some false;rw [hl,hv];rfl) h
theorem zjI{ns:List Str}{Q:Unit->Shared->Prop}(X:K.In s.heap)(I:zbJ s.heap x dx C mA)
  (hs:PySem.W.findIn K (.ref C) "__setattr__"=some (some (.builtin "object.__setattr__"))) (hp:plainOver K C=true) (ht:takerIn K C name=some none) (hh:hasDictIn K C=true)
  (hw:PySem.Within mA ns) (hsz:ns.length<=sizeLine)
  (h:∀h',zbJ h' x dx C (λy=>if y=name then some v else mA y)->SameBut dx s.heap h'->Q () { s with heap:=h',toks:=s.toks+2 }) :
  wpAny (model prog w) A (setAttr (.ref x) name v) Q E s:=by
 obtain ⟨od,J,hl⟩:=I.look
 refine PySem.W.set_plain X J hs (PySem.W.osa_open (s:={ s with toks:=s.toks+1 }) (r:=none) X J hp ht λb=>?_)
 obtain ⟨cd,hc,hd'⟩:=PySem.W.any_some hh
 have hx:s.heap.get? x=some ⟨.ref C,some dx,.plain,#[]⟩:=I.obj
 refine wpAny_bind (wpAny_pure (wpAny_bind (wpAny_bind (wpAny_loadPart hx (wpAny_bind (PySem.W.Looks.here (s:={ s with toks:=s.toks+1 }) (PySem.W.looks_clsIn X hc) ?_))))))
 rw [hd']
 refine wpAny_pure (a:=some dx) (wpAny_bind (wpAny_pure (wpAny_bind ?_)))
 refine wpAny_nsSet1 (s:={ s with toks:=s.toks+1 }) I.ns λh' hn2 hs2=>?_
 obtain ⟨oD,esD,epD,hoD,hdD,hcD⟩:=hn2.count (PySem.Within.cons name v hw)
 refine wpAny_bind (wpAny_lookBehind hoD (by rw [hdD];exact pastItsLine_dict (Nat.le_trans hcD (by rw [length_cons];omega))) ?_)
 exact wpAny_pure (h _ ⟨(hs2.2 _ (Ne.symm I.ne)).trans I.obj,hn2,I.ne⟩ hs2)
theorem zlS{R:Result->Shared->Prop}{vs:List Value}{kw:List (Str×Value)}(X:K.In s.heap)(hm:makesIn K C=true)
  (hi:PySem.W.findIn K (.ref C) "__init__"=some (some (.ref f))) (hf:PySem.W.typeIn K (.ref f)=some (.type "function"))
  (h:codeAny (model prog w) (A.under (.builtin "type.__call__" ⟨.ref C::vs,kw⟩)) (.call (.ref f) ⟨.ref (s.heap.objs.size+1)::vs,kw⟩) (PySem.W.InitBack (s.heap.objs.size+1) R)
   { s with heap:=(s.heap.push emptyDict).push (instObj C s.heap.objs.size) }) :
  codeAny (model prog w) A (.call (.ref C) ⟨vs,kw⟩) R s:=by
 obtain ⟨hh,g,d,t,os⟩:=s
 exact PySem.W.make_core (PySem.W.makes_of X hm) (PySem.W.looks_findIn X hi) (λself=>PySem.W.bind_fn X self hf) (.inl rfl) h
end
def zag(f:Str)(v:V):List (Str×V)->List (Str×V)
 | []=>[(f,v)]
 | (g,x)::r=>if g=f then (g,v)::r else (g,x)::zag f v r
theorem zh0(f g:Str)(v:V):∀fs:List (Str×V),(zag f v fs).lookup g=if g=f then some v else fs.lookup g
 | []=>by
  show List.lookup g [(f,v)]=_
  by_cases h:g=f
  ·have hb:(g==f)=true:=beq_iff_eq.mpr h
   simp only [List.lookup,hb,if_pos h]
  ·have hb:(g==f)=false:=beq_eq_false_iff_ne.mpr h
   simp only [List.lookup,hb,if_neg h]
 | (k,x)::r=>by
  have ih:=zh0 f g v r
  rw [show zag f v ((k,x)::r)=(if k=f then (k,v)::r else (k,x)::zag f v r) from rfl]
  by_cases hk:k=f
  ·rw [if_pos hk]
   by_cases h:g=k
   ·have hb:(g==k)=true:=beq_iff_eq.mpr h
    simp only [List.lookup,hb,if_pos (h.trans hk)]
   ·have hb:(g==k)=false:=beq_eq_false_iff_ne.mpr h
    simp only [List.lookup,hb,if_neg (λe:g=f=>h (e.trans hk.symm))]
  ·rw [if_neg hk]
   by_cases h:g=k
   ·have hb:(g==k)=true:=beq_iff_eq.mpr h
    simp only [List.lookup,hb,if_neg (λe:g=f=>hk (h.symm.trans e))]
   ·have hb:(g==k)=false:=beq_eq_false_iff_ne.mpr h
    simp only [List.lookup,hb]
    exact ih
theorem zgk(f:Str)(v:V):∀fs:List (Str×V),f∈(zag f v fs).map (·.1)/\∀g,g∈fs.map (·.1)->g∈(zag f v fs).map (·.1)
 | []=>⟨by simp [zag],λg h=>by simp at h⟩
 | (k,x)::r=>by
  obtain ⟨i1,i2⟩:=zgk f v r
  rw [show zag f v ((k,x)::r)=(if k=f then (k,v)::r else (k,x)::zag f v r) from rfl]
  by_cases hk:k=f
  ·rw [if_pos hk]
   subst hk
   exact ⟨by simp,λg h=>by simpa using h⟩
  ·rw [if_neg hk]
   refine ⟨?_,λg h=>?_⟩
   ·rw [map_cons]
    exact mem_cons_of_mem _ i1
   ·rw [map_cons] at h ⊢
    rcases mem_cons.mp h with e|e
    ·exact mem_cons.mpr (.inl e)
    ·exact mem_cons_of_mem _ (i2 g e)
theorem zi7(f:Str)(v:V):∀fs:List (Str×V),(zag f v fs).length<=fs.length+1
 | []=>by simp [zag]
 | (k,x)::r=>by
  have ih:=zi7 f v r
  rw [show zag f v ((k,x)::r)=(if k=f then (k,v)::r else (k,x)::zag f v r) from rfl]
  by_cases hk:k=f
  ·rw [if_pos hk,length_cons,length_cons];omega
  ·rw [if_neg hk,length_cons,length_cons];omega
theorem zas.some_of{v:V}{o:Option Value}(r:zas (some v) o):∃u,o=some u/\ze v u:=by
 cases o with
 | none=>exact (show False from r).elim
 | some u=>exact ⟨u,rfl,r⟩
theorem zas.none_of{o:Option Value}(r:zas none o):o=none:=by
 cases o with
 | none=>rfl
 | some u=>exact (show False from r).elim
theorem zq2{v:V}{u:Value}(r:ze v u):handedIn u=true:=by
 cases v with
 | non=>cases (show u=Value.none from r);rfl
 | bl b=>cases (show u=Value.bool b from r);rfl
 | int i=>obtain ⟨t,e⟩:=(show ∃t,u=Value.int i t from r);cases e;rfl
 | str x=>obtain ⟨t,e⟩:=(show ∃t,u=Value.str x t from r);cases e;rfl
 | byt b=>obtain ⟨t,e⟩:=(show ∃t,u=Value.bytes b t from r);cases e;rfl
 | flt b=>obtain ⟨t,e⟩:=(show ∃t,u=float b t from r);cases e;rfl
 | ref a=>cases (show u=Value.ref a from r);rfl
 | ty n=>cases (show u=type n from r);rfl
section
variable {P:Program}{w:World}{H H':Hp}{h h':Heap}{a C dx:Addr}{fs fs':List (Str×V)}
theorem zd9(hok:HOk P w H h)(e:H a=some (.ins C dx fs)):∃mA,zbJ h a dx C mA/\(∀f,zas (fs.lookup f) (mA f))/\PySem.Within mA (fs.map (·.1))/\fs.length<=1000/\H dx=some (.own a):=by
 obtain ⟨d,z,ne,ob,mA,n,r,q⟩:=(show zQ P w H h a (.ins C dx fs) from hok a _ e)
 exact ⟨mA,⟨ob,n,ne⟩,r,q,z,d⟩
end
structure Cls(K:PySem.W.Frag)(C:Addr):Prop where
 pg:plainGet K C Str.empty=true
 hd:hasDictIn K C=true
 po:plainOver K C=true
 sa:PySem.W.findIn K (.ref C) "__setattr__"=some (some (.builtin "object.__setattr__"))
theorem Cls.get{K:PySem.W.Frag}{C:Addr}(c:Cls K C)(f:Str):plainGet K C f=true:=c.pg
def zbf(K:PySem.W.Frag)(C:Addr)(f:Str):Prop:=PySem.W.findIn K (.ref C) f=some none
theorem zbf.taker{K:PySem.W.Frag}{C:Addr}{f:Str}(n:zbf K C f):takerIn K C f=some none:=by
 unfold takerIn
 rw [show PySem.W.findIn K (.ref C) f=some none from n]
 rfl
structure zcd(K:PySem.W.Frag)(C:Addr)(m:Str)(f:Addr):Prop where
 at_:PySem.W.findIn K (.ref C) m=some (some (.ref f))
 fn:isFn K (.ref f)=true
 kp:keepIn K (.ref f)=true
section
variable {X:Cx}{Ga:List (Addr×Obj)}{σ:St}{H:Hp}{s:Shared}{a C dx:Addr}{fs:List (Str×V)}{f:Str}{v:V}{A:Around}{E:Value->Shared->Prop}
theorem zlf{b:Bool}{Q:Value->Shared->Prop}(I:Inv X Ga σ H s)(e:H a=some (.ins C dx fs))(c:Cls X.K C)(n:zbf X.K C f)(l:fs.lookup f=some v)
  (h:∀u s',Inv X Ga σ H s'->ze v u->Q u s'):wpAny (model X.prog X.w) A (getAttr (.ref a) f b) Q E s:=by
 obtain ⟨mA,O,r,_,_,_⟩:=zd9 I.hok e
 obtain ⟨u,hu,ru⟩:=zas.some_of (v:=v) (o:=mA f) (by rw [<- l];exact r f)
 exact zkt I.kIn O (c.get f) c.hd n hu (zq2 ru) (h u _ (I.tok _) ru)
theorem zev{m:Str}{g:Addr}{pl:Sem Bool}{Q:Value×List Value->Shared->Prop}(I:Inv X Ga σ H s)(e:H a=some (.ins C dx fs))(c:Cls X.K C)(k:zcd X.K C m g)(l:fs.lookup m=none)
  (h:Q (.ref g,[.ref a]) s):wpAny (model X.prog X.w) A (getMethod (.ref a) m pl) Q E s:=by
 obtain ⟨mA,O,r,_,_,_⟩:=zd9 I.hok e
 have hn:mA m=none:=zas.none_of (by rw [<- l];exact r m)
 exact zq3 I.kIn O (c.get m) k.at_ k.fn hn h
theorem zr8{y:V}{u:Value}{Q:Unit->Shared->Prop}(I:Inv X Ga σ H s)(e:H a=some (.ins C dx fs))(c:Cls X.K C)(n:zbf X.K C f)(hl:fs.length<1000)(ry:ze y u)
  (h:∀s',Inv X Ga σ (upd H a (.ins C dx (zag f y fs))) s'->Q () s'):wpAny (model X.prog X.w) A (setAttr (.ref a) f u) Q E s:=by
 obtain ⟨mA,O,r,wi,_,ho⟩:=zd9 I.hok e
 have hz:(fs.map (·.1)).length<=sizeLine:=by rw [length_map,sizeLine_eq];omega
 refine zjI I.kIn O c.sa c.po n.taker c.hd wi hz λh' O' sb=>h _ ?_
 have hd:∃o,h'.get? dx=some o:=let ⟨o,_,_,e',_⟩:=O'.ns;⟨o,e'⟩
 refine I.write (x:=a) (e:=dx) (by rw [e];exact True.intro) (.inr ho) (λb q hb z=>(sb.2 b hb).trans z) hd ?_
 refine ⟨by rw [zh O.ne];exact ho,?_,O.ne,O'.obj,_,O'.ns,λg=>?_,λg hg=>?_⟩
 ·have:=zi7 f y fs;omega
 ·show zas ((zag f y fs).lookup g) (if g=f then some u else mA g)
  rw [zh0]
  by_cases q:g=f
  ·rw [if_pos q,if_pos q];exact ry
  ·rw [if_neg q,if_neg q];exact r g
 ·by_cases q:g=f
  ·rw [q];exact (zgk f y fs).1
  ·refine (zgk f y fs).2 g (wi g λz=>hg ?_)
   show (if g=f then some u else mA g)=none
   rw [if_neg q];exact z
theorem Inv.made(I:Inv X Ga σ H s):Inv X Ga σ (upd (upd H s.heap.objs.size (.own (s.heap.objs.size+1))) (s.heap.objs.size+1) (.ins C s.heap.objs.size []))
  { s with heap:=(s.heap.push emptyDict).push (instObj C s.heap.objs.size) }:=by
 have e1:(s.heap.push emptyDict).get? s.heap.objs.size=some emptyDict:=get?_push_size s.heap rfl
 have e2:((s.heap.push emptyDict).push (instObj C s.heap.objs.size)).get? (s.heap.objs.size+1)=some (instObj C s.heap.objs.size):=by
  have:=get?_push_size (s.heap.push emptyDict) (o:=instObj C s.heap.objs.size) rfl
  rwa [size_push] at this
 have e3:(s.heap.push emptyDict).Ns s.heap.objs.size (λ_=>none):=⟨emptyDict,#[],_,e1,rfl,(λe he=>absurd he (by simp)),λ_=>rfl⟩
 have I1:=I.laid (a:=s.heap.objs.size) (o:=.own (s.heap.objs.size+1)) (h':=s.heap.push emptyDict) (t':=s.toks) (λb u q=>get?_push_of_some _ q) (Nat.le_refl _) ⟨_,e1⟩
 refine I1.laid (a:=s.heap.objs.size+1) (o:=.ins C s.heap.objs.size []) (t':=s.toks) (λb u q=>get?_push_of_some _ q) (le_of_eq (size_push _ _)) ?_
 have ne:s.heap.objs.size≠s.heap.objs.size+1:=ne_of_lt (lt_succ_self _)
 refine ⟨by rw [zh ne,zx],zero_le _,ne,e2,λ_=>none,(Heap.Ns1.of_empty e3).at λo q=>get?_push_of_some _ q,λ_=>True.intro,λy hy=>absurd rfl hy⟩
theorem znx{prog:Program}{w:World}{env:Env}{e:Expr}{f:Str}{pos:Pos}{s:Shared}{Q:Value->Shared->Prop}(hb:attributeBase e f env (eval e env)=eval e env)
  (h:wpAny (model prog w) A (eval e env) (λo s₁=>wpAny (model prog w) A (getAttr o f true) Q E s₁) E s):wpAny (model prog w) A (eval (.Attribute e f pos) env) Q E s :=
 Attribute_any_ h (by rw [arm_eval_Attribute,hb])
end
section
variable {X:Cx}{o e value:Expr}{f:Str}{pos pos' tpos:Pos}{ta tv:TE}
def zhB:V->V->Hp->VK->Prop:=λx y H Q=>∃i j,x = .int i/\y = .int j/\Q (.int (i+j)) H
def zhj:V->V->Hp->VK->Prop:=λx y H Q=>∃i j,x = .int i/\y = .int j/\Q (.int (i-j)) H
theorem zs6{pl:Sem Bool}{m:Str}{apos:Pos}{args:List Expr}{Ga:List (Addr×Obj)}{s:Shared}{σ:St}{H:Hp}{Q:Value->Shared->Prop}{te:TE}(he:PE X e te)(I:Inv X Ga σ H s)
  (h:te σ H λx H1=>∃a C dx fs g,x = .ref a/\H1 a=some (.ins C dx fs)/\Cls X.K C/\zcd X.K C m g/\fs.lookup m=none /\
   ∀s1,Inv X Ga σ H1 s1->wpAny (model X.prog X.w) X.A (callWith pos (.ref g) [.ref a] (backTo pos (starEach args X.env)) (backToKw pos (keywordEach [] X.env))) Q X.xe s1)
  (ht:eval (.Call (.Attribute e m apos) args [] pos) X.env=(do
   let ov<-eval e X.env
   standAt apos.atName
   let (f,first)<-holding [ov] (getMethod ov m pl)
   callWith pos f first (backTo pos (starEach args X.env)) (backToKw pos (keywordEach [] X.env)))) :
  wpAny (model X.prog X.w) X.A (eval (.Call (.Attribute e m apos) args [] pos) X.env) Q X.xe s:=by
 refine methodCall_KW (pl:=pl) (thn (he Ga s σ H _ I h) λu s1 ⟨x,H1,I1,rx,a,C,dx,fs,g,ex,ea,c,k,l,q⟩=>?_) ht
 subst ex
 obtain rfl:u=Value.ref a:=rx
 exact zev I1 ea c k l (q s1 I1)
end
section
variable {X:Cx}{Ga:List (Addr×Obj)}{σ:St}{H:Hp}{s:Shared}{A:Around}{E:Value->Shared->Prop}{Q:Value->Shared->Prop}{c:Value}{b:Bool}
inductive zaU(K:PySem.W.Frag)(H:Hp):V->Value->Prop where
 | non:zaU K H .non (.type "NoneType")
 | bl (x:Bool):zaU K H (.bl x) (.type "bool")
 | int (i:Int):zaU K H (.int i) (.type "int")
 | str (x:Str):zaU K H (.str x) (.type "str")
 | flt (x:UInt64):zaU K H (.flt x) (.type "float")
 | lst {a:Addr}{xs:List V} (e:H a=some (.lst xs)):zaU K H (.ref a) (.type "list")
 | frz {a:Addr}{o:Obj}{xs:List V} (e:H a=some (.frz o (.lst xs))):zaU K H (.ref a) (.type "list")
 | tup {a:Addr}{xs:List V} (e:H a=some (.tup xs)):zaU K H (.ref a) (.type "tuple")
 | dK {a:Addr}{kvs:List (Key×V)} (e:H a=some (.dK kvs)):zaU K H (.ref a) (.type "dict")
 | dT {a:Addr}{kvs:List (List Key×V)} (e:H a=some (.dT kvs)):zaU K H (.ref a) (.type "dict")
 | ins {a C dx:Addr}{fs:List (Str×V)} (e:H a=some (.ins C dx fs)) (cl:Cls K C) (ha:PySem.W.findIn K (.ref C) "__class__"=some (some (.builtin "object.__class__")))
   (hn:PySem.W.specialIn K (.builtin "object.__class__") "__get__"=some (some (.builtin "getset_descriptor.__get__"))) (htk:takesIn K (.builtin "object.__class__")=some true)
   (hm:PySem.W.mroIn K C (.type "object")=some true):zaU K H (.ref a) (.ref C)
theorem zsu{x:V}{u t:Value}(I:Inv X Ga σ H s)(rx:ze x u)(ty:zaU X.K H x t)(e:PySem.W.kitOne X.K t c=some b)(h:∀tk,Q (.bool b) { s with toks:=tk }) :
  wpAny (model X.prog X.w) A (call (.builtin "isinstance") [u,c]) Q E s:=by
 cases ty with
 | non=>cases (show u=Value.none from rx);exact PySem.W.kia_one PySem.W.kitx_none I.kIn True.intro e (λz=>nomatch z) h
 | bl y=>cases (show u=Value.bool y from rx);exact PySem.W.kia_one PySem.W.kitx_bool I.kIn True.intro e (λz=>nomatch z) h
 | int i=>obtain ⟨t,q⟩:=(show ∃t,u=Value.int i t from rx);cases q;exact PySem.W.kia_one PySem.W.kitx_int I.kIn True.intro e (λz=>nomatch z) h
 | str y=>obtain ⟨t,q⟩:=(show ∃t,u=Value.str y t from rx);cases q;exact PySem.W.kia_one PySem.W.kitx_str I.kIn True.intro e (λz=>nomatch z) h
 | flt y=>obtain ⟨t,q⟩:=(show ∃t,u=float y t from rx);cases q;exact PySem.W.kia_one PySem.W.kitx_float I.kIn True.intro e (λz=>nomatch z) h
 | @lst a xs ea =>
  cases (show u=Value.ref a from rx)
  obtain ⟨_,_,n,_,h1⟩:=(show zQ X.prog X.w H s.heap a (.lst xs) from I.hok a _ ea)
  exact PySem.W.kia_one PySem.W.kitx_list I.kIn ⟨_,h1,rfl⟩ e (λz=>nomatch z) h
 | @frz a ob xs ea =>
  cases (show u=Value.ref a from rx)
  obtain ⟨_,_,_,n,_,h1⟩:=(show zQ X.prog X.w H s.heap a (.frz ob (.lst xs)) from I.hok a _ ea)
  exact PySem.W.kia_one PySem.W.kitx_list I.kIn ⟨_,h1,rfl⟩ e (λz=>nomatch z) h
 | @tup a xs ea =>
  cases (show u=Value.ref a from rx)
  obtain ⟨_,_,_,p⟩:=(show zQ X.prog X.w H s.heap a (.tup xs) from I.hok a _ ea)
  obtain ⟨o,h1,h2,_⟩:=p
  exact PySem.W.kia_one PySem.W.kitx_tuple I.kIn ⟨o,h1,h2⟩ e (λz=>nomatch z) h
 | @dK a kvs ea =>
  cases (show u=Value.ref a from rx)
  obtain ⟨_,_,vs,_,p⟩:=(show zQ X.prog X.w H s.heap a (.dK kvs) from I.hok a _ ea)
  obtain ⟨o,es,ep,h1,h2,_⟩:=p
  exact PySem.W.kia_one PySem.W.kitx_dict I.kIn ⟨o,h1,h2.1⟩ e (λz=>nomatch z) h
 | @dT a kvs ea =>
  cases (show u=Value.ref a from rx)
  obtain ⟨_,_,xs,_,o,es,ep,h1,h2,_⟩:=(show zQ X.prog X.w H s.heap a (.dT kvs) from I.hok a _ ea)
  exact PySem.W.kia_one PySem.W.kitx_dict I.kIn ⟨o,h1,h2.1⟩ e (λz=>nomatch z) h
 | @ins a C dx fs ea cl ha hn htk hm =>
  cases (show u=Value.ref a from rx)
  obtain ⟨mA,O,_⟩:=zd9 I.hok ea
  obtain ⟨od,J,_⟩:=O.look
  exact PySem.W.kia_one (PySem.W.kitx_own (cl.get _) cl.hd ha hn htk hm) I.kIn J e (λz=>nomatch z) h
end
structure zw(c:Bool)(k:Nat)(A:Around):Prop where
 hd:c=true->A.handled=none
 dp:A.depth+3*k+5<recursionLimit
 un:A.units+16*k+200<cLine
 gd:A.guards=some []
theorem zw.mono{c:Bool}{j k:Nat}{A:Around}(r:zw c k A)(h:j<=k):zw c j A:=⟨r.hd,by have:=r.dp;omega,by have:=r.un;omega,r.gd⟩
theorem zw.deeper{c:Bool}{k:Nat}{A:Around}(r:zw c (k+1) A)(env:Env):zw c k (A.deeper env) :=
 ⟨r.hd,by have:=r.dp;show A.depth+1+3*k+5<_;omega,by have:=r.un;show A.units+3+16*k+200<_;omega,by first|exact r.gd|simpa [Around.deeper,Around.under,Code.isGuard] using r.gd⟩
theorem zoM{A:Around}{C:Addr}{us:List Value}{kw:List (Str×Value)}:(A.under (.builtin "type.__call__" ⟨.ref C::us,kw⟩)).depth=A.depth+1:=by
 first|rfl|simp [Around.under,Code.weight,Code.isCreation,Code.isGuard,Code.isCaller,Code.frames,Code.isFrame,guardIds]
theorem znD{A:Around}{C:Addr}{us:List Value}{kw:List (Str×Value)}:(A.under (.builtin "type.__call__" ⟨.ref C::us,kw⟩)).units=A.units+1:=by
 first|rfl|simp [Around.under,Code.cUnits,Code.frames,Code.isFrame]
theorem zw.make{c:Bool}{k:Nat}{A:Around}(r:zw c (k+1) A)(C:Addr)(us:List Value)(kw:List (Str×Value)):zw c k (A.under (.builtin "type.__call__" ⟨.ref C::us,kw⟩)) :=
 ⟨r.hd,by have:=r.dp;rw [zoM];omega,by have:=r.un;rw [znD];omega,by first|exact r.gd|simpa [Around.under,Code.isGuard,guardIds] using r.gd⟩
theorem zw.depth{c:Bool}{k:Nat}{A:Around}(r:zw c k A):A.depth<recursionLimit:=by have:=r.dp;omega
theorem zw.units{c:Bool}{k:Nat}{A:Around}(r:zw c k A):A.units+64<cLine:=by have:=r.un;omega
def zbo:TA:=λ_ H Q=>Q [] H
def zd8(ta:TE)(tr:TA):TA:=λσ H Q=>ta σ H λx H1=>tr σ H1 λxs H2=>Q (x::xs) H2
section
variable {X:Cx}{e:Expr}{es:List Expr}{te:TE}{t:TA}{pos:Pos}
theorem zdE:PA X [] zbo:=λ_ _ _ _ H Q I h=>Calls.spliced_nil ⟨[],H,I,.nil,h⟩
theorem zcZ(ha:PE X e te)(hr:PA X es t)(hs:starEach (e::es) X.env=(false,eval e X.env)::starEach es X.env:=by rfl):PA X (e::es) (zd8 te t):=by
 intro pos Ga s σ H Q I h
 rw [hs]
 show wpAny _ _ (spliced ((false,eval e X.env)::backTo pos (starEach es X.env))) _ _ s
 refine Calls.spliced_cons (thn (ha Ga s σ H _ I h) λu s1 ⟨x,H1,I1,r1,q1⟩=>?_)
 exact thn (hr pos Ga s1 σ H1 _ I1 q1) λus s2 ⟨xs,H2,I2,r2,q2⟩=>⟨x::xs,H2,I2,.cons r1 r2,q2⟩
def zoN(t:TA):TE:=λσ H Q=>t σ H λxs H1=>xs.length<=sizeLine/\∀p,H1 p=none->Q (.ref p) (upd H1 p (.tup xs))
theorem zmL{x1}(h:PA X es t):PE X (.Tuple es x1 pos) (zoN t):=by
 intro Ga s σ H Q I hq
 refine wpAny_Tuple_spliced (thn (h pos Ga s σ H _ I hq) λus s1 ⟨xs,H1,I1,r,z,q⟩=>⟨by rw [<- r.length];exact z,?_⟩)
 have hf:H1 s1.heap.objs.size=none:=I1.hok.fresh (Nat.le_refl _)
 refine ⟨.ref s1.heap.objs.size,upd H1 s1.heap.objs.size (.tup xs),I1.laid (t':=s1.toks) (λb u e=>get?_push_of_some _ e) (Nat.le_refl _) ?_,rfl,q _ hf⟩
 exact ⟨z,us,r,⟨_,get?_push_size _ rfl,rfl,_,rfl⟩⟩
end
abbrev Sp:=List V->Hp->VK->XK->Prop
abbrev CXT:=List Env->Hp->Shared->XK->Value->Shared->Prop
structure zch(P:Program)(w:World)(K:PySem.W.Frag)(mg:Str->Option Value)(base:Heap)(A:Around)(outer:List Env)(s:Shared)(H:Hp):Prop where
 frames:A.frames=some outer
 hdk:zdg A H
 mod:Mod K mg base
 bs:∀b o,base.get? b=some o->s.heap.get? b=some o/\H b=none
 bsz:base.objs.size<=s.heap.objs.size
 funs:s.heap.FunFrames base outer
 frf:∀b∈frs outer,H b=none
 hok:HOk P w H s.heap
 bare:AllBare s.gens
def CE(outer:List Env)(P:Program)(w:World)(H:Hp)(s:Shared)(Q:VK)(u:Value)(s':Shared):Prop :=
 ∃v H',s'.os=s.os/\AllBare s'.gens/\Un (frs outer) [] H H' s.heap s'.heap/\HOk P w H' s'.heap/\ze v u/\Q v H'
def CR(CX:CXT)(outer:List Env)(P:Program)(w:World)(H:Hp)(s:Shared)(Q:VK)(E:XK)(r:Result)(s':Shared):Prop :=
 match r with
 | .ok (.ret u)=>CE outer P w H s Q u s'
 | .ok _=>False
 | .error e=>CX outer H s E e s'
structure zr(P:Program)(w:World)(K:PySem.W.Frag)(mg:Str->Option Value)(base:Heap)(CX:CXT)(c:Bool)(k:Nat)(f:Addr)(fd:FuncData)(ps:List Str)(sp:Sp):Prop where
 len:∀vs H Q E,sp vs H Q E->vs.length=ps.length
 run:∀(A:Around)(outer:List Env)(s:Shared)(H:Hp)(args:Args)(us:List Value)(vs:List V)(Q:VK)(E:XK),zw c k A->zch P w K mg base A outer s H->BindsTo s fd args (ps.zip us)->zi vs us->sp vs H Q E ->
  codeAny (model P w) A (.call (.ref f) args) (CR CX outer P w H s Q E) s
theorem zr.imp{P:Program}{w:World}{K:PySem.W.Frag}{mg:Str->Option Value}{base:Heap}{CX:CXT}{c:Bool}{k:Nat}{f:Addr}{fd:FuncData}{ps:List Str}{sp sp':Sp}(F:zr P w K mg base CX c k f fd ps sp)
  (h:∀vs H Q E,sp' vs H Q E->sp vs H Q E):zr P w K mg base CX c k f fd ps sp' :=
 ⟨λvs H Q E q=>F.len vs H Q E (h _ _ _ _ q),λA outer s H args us vs Q E hr he hb hv hs=>F.run A outer s H args us vs Q E hr he hb hv (h _ _ _ _ hs)⟩
theorem zch.make{P:Program}{w:World}{K:PySem.W.Frag}{mg:Str->Option Value}{base:Heap}{A:Around}{outer:List Env}{s:Shared}{H:Hp}(e:zch P w K mg base A outer s H)(C:Addr)(us:List Value)(kw:List (Str×Value)) :
  zch P w K mg base (A.under (.builtin "type.__call__" ⟨.ref C::us,kw⟩)) outer s H:=⟨by first|exact e.frames|(simpa [Around.under,Code.envs,Code.isFrame,pushEnvs] using e.frames),e.hdk,e.mod,e.bs,e.bsz,e.funs,e.frf,e.hok,e.bare⟩
section
variable {X:Cx}{Ga:List (Addr×Obj)}{σ:St}{H:Hp}{s s':Shared}
theorem Inv.env0(I:Inv X Ga σ H s):zch X.prog X.w X.K X.mg X.base X.A X.stack s H :=
 ⟨I.ok.frames,I.hdk,I.ok.mod,I.bs,Nat.le_trans I.ok.bsz I.sz,I.stack,I.stkFree,I.hok,I.bare⟩
theorem Inv.after{Q:VK}{u:Value}(I:Inv X Ga σ H s)(h:CE X.stack X.prog X.w H s Q u s'):EP X Ga σ Q u s':=by
 obtain ⟨v,H',os,bare,un,hok,r,q⟩:=h
 obtain ⟨hh,g,d,t,os'⟩:=s'
 obtain rfl:os'=s.os:=os
 exact ⟨v,H',I.call (h':=hh) (g':=g) (d':=d) (t':=t) (ch:=[]) un hok bare (λb z=>absurd z (by simp)),r,q⟩
end
def zdF(sp:Sp)(dvs:List V)(E:XK)(t:TA):TE:=λσ H Q=>t σ H λvs H1=>sp (vs++dvs) H1 Q E
def zbE(C:Addr)(m:Str)(sp:Sp)(dvs:List V)(E:XK)(ta:TE)(t:TA):TE:=λσ H Q=>ta σ H λx H1=>∃a dx fs,x = .ref a/\H1 a=some (.ins C dx fs)/\fs.lookup m=none /\
 t σ H1 λvs H2=>sp (x::(vs++dvs)) H2 Q E
def zrF(C:Addr)(sp:Sp)(dvs:List V)(E:XK)(t:TA):TE:=λσ H Q=>t σ H λvs H1=>∀x dx,H1 x=none->H1 dx=none->dx≠x ->
 sp (.ref x::(vs++dvs)) (upd (upd H1 dx (.own x)) x (.ins C dx [])) (λv H2=>v = .non/\Q (.ref x) H2) E
def zaH(K:PySem.W.Frag)(fd:FuncData)(ps:List Str)(ds:List Value):Prop :=
 ∀(s:Shared)(us:List Value),K.In s.heap->(us++ds).length=ps.length->BindsTo s fd ⟨us,[]⟩ (ps.zip (us++ds))
theorem zaH.all{K:PySem.W.Frag}{fd:FuncData}{ps:List Str}(h:∀us:List Value,us.length=ps.length->bindArgs fd ⟨us,[]⟩=pure (ps.zip us)):zaH K fd ps []:=λs us _ hl=>by
 rw [append_nil] at hl ⊢
 exact .of_eq (h us hl)
def zb2(CX:CXT)(X:Cx)(E:XK):Prop:=∀(Ga:List (Addr×Obj))(σ:St)(H:Hp)(s:Shared)(e:Value)(s':Shared),Inv X Ga σ H s->CX X.stack H s E e s'->X.xe e s'
section
variable {X:Cx}{CX:CXT}{cm:Bool}{k:Nat}{f C:Addr}{fd:FuncData}{ps:List Str}{sp:Sp}{dvs:List V}{ds:List Value}{E:XK}{x m:Str}{p pos apos:Pos}{e o:Expr}{es:List Expr}{ta:TE}{t:TA}
theorem zgw{Ga:List (Addr×Obj)}{σ:St}{H:Hp}{s:Shared}{Q:VK}{us:List Value}{vs:List V}(F:zr X.prog X.w X.K X.mg X.base CX cm k f fd ps sp)(hr:zw cm k X.A)(hb:zaH X.K fd ps ds)(hd:zi dvs ds)(hx:zb2 CX X E)
  (I:Inv X Ga σ H s) (r:zi vs us) (h:sp (vs++dvs) H Q E):wpAny (model X.prog X.w) X.A (call (.ref f) us) (EP X Ga σ Q) X.xe s:=by
 have r2:zi (vs++dvs) (us++ds):=r.append hd
 have hl:(us++ds).length=ps.length:=by rw [<- r2.length];exact F.len _ _ _ _ h
 refine wpAny_call (codeAny_mono (F.run X.A X.stack s H ⟨us,[]⟩ (us++ds) (vs++dvs) Q E hr I.env0 (hb s us I.kIn hl) r2 h) λr s' hq=>?_)
 cases r with
 | error e=>exact hx Ga σ H s e s' I hq
 | ok fl =>
  cases fl with
  | ret u=>exact I.after hq
  | next=>exact False.elim hq
  | brk=>exact False.elim hq
  | cont=>exact False.elim hq
theorem zlQ(F:zr X.prog X.w X.K X.mg X.base CX cm k f fd ps sp)(hr:zw cm k X.A)(hg:Gl X x)(hm:X.mg x=some (.ref f))(hk:keepIn X.K (.ref f)=true)(hb:zaH X.K fd ps ds)(hd:zi dvs ds)(hx:zb2 CX X E)
  (ha:PA X (e::es) t) (hdb:(x==("__debug__":Str))=false:=by decide) (he:starEach (e::es) X.env=(false,eval e X.env)::starEach es X.env:=by rfl) (hpl:(backTo pos (starEach es X.env)).any (·.1)=false:=by rfl) :
  PE X (.Call (.Name x p) (e::es) [] pos) (zdF sp dvs E t):=by
 intro Ga s σ H Q I h
 refine wpAny_Call_Name_kw (zdt I hg hm ?_ hdb)
 refine callWith_K (h₀:=X.base) I.ok.mod.kin hk (thn (ha pos Ga s σ H _ I h) λus s1 ⟨vs,H1,I1,r,q⟩=>⟨I1.kIn,?_⟩) he hpl
 exact zgw F hr hb hd hx I1 r q
theorem zqp{pl:Sem Bool}(he:PE X o ta)(c:Cls X.K C)(hm:zcd X.K C m f)(F:zr X.prog X.w X.K X.mg X.base CX cm k f fd ps sp)(hr:zw cm k X.A)(hb:zaH X.K fd ps ds)(hd:zi dvs ds)(hx:zb2 CX X E)(ha:PA X (e::es) t)
  (hst:starEach (e::es) X.env=(false,eval e X.env)::starEach es X.env:=by rfl) (hpl:(backTo pos (starEach es X.env)).any (·.1)=false:=by rfl)
  (ht:eval (.Call (.Attribute o m apos) (e::es) [] pos) X.env=(do
   let ov<-eval o X.env
   standAt apos.atName
   let (f,first)<-holding [ov] (getMethod ov m pl)
   callWith pos f first (backTo pos (starEach (e::es) X.env)) (backToKw pos (keywordEach [] X.env))):=by rfl) :
  PE X (.Call (.Attribute o m apos) (e::es) [] pos) (zbE C m sp dvs E ta t):=by
 intro Ga s σ H Q I h
 refine methodCall_KW (pl:=pl) (thn (he Ga s σ H _ I h) λu s1 ⟨x,H1,I1,rx,a,dx,fs,ex,ea,l,q⟩=>?_) ht
 subst ex
 obtain rfl:u=Value.ref a:=rx
 refine zev I1 ea c hm l ?_
 refine callWith_K (first:=[.ref a]) (h₀:=X.base) I.ok.mod.kin hm.kp (thn (ha pos Ga s1 σ H1 _ I1 q) λus s2 ⟨vs,H2,I2,r,q2⟩=>⟨I2.kIn,?_⟩) hst hpl
 exact zgw (us:=.ref a::us) (vs:=.ref a::vs) F hr hb hd hx I2 (.cons rfl r) q2
theorem zk1{pl:Sem Bool}(he:PE X o ta)(c:Cls X.K C)(hm:zcd X.K C m f)(F:zr X.prog X.w X.K X.mg X.base CX cm k f fd ps sp)(hr:zw cm k X.A)(hb:zaH X.K fd ps ds)(hd:zi dvs ds)(hx:zb2 CX X E)
  (ht:eval (.Call (.Attribute o m apos) [] [] pos) X.env=(do
   let ov<-eval o X.env
   standAt apos.atName
   let (f,first)<-holding [ov] (getMethod ov m pl)
   callWith pos f first (backTo pos (starEach [] X.env)) (backToKw pos (keywordEach [] X.env))):=by rfl) :
  PE X (.Call (.Attribute o m apos) [] [] pos) (zbE C m sp dvs E ta zbo):=by
 intro Ga s σ H Q I h
 refine methodCall_KW (pl:=pl) (thn (he Ga s σ H _ I h) λu s1 ⟨x,H1,I1,rx,a,dx,fs,ex,ea,l,q⟩=>?_) ht
 subst ex
 obtain rfl:u=Value.ref a:=rx
 refine zev I1 ea c hm l ?_
 exact PySem.W.callWith_K0 (first:=[.ref a]) I1.kIn hm.kp (zgw (us:=[.ref a]) (vs:=[.ref a]) F hr hb hd hx I1 (.cons rfl .nil) q)
structure Mk(K:PySem.W.Frag)(C f:Addr):Prop where
 makes:makesIn K C=true
 init:PySem.W.findIn K (.ref C) "__init__"=some (some (.ref f))
 fn:isFn K (.ref f)=true
 kp:keepIn K (.ref C)=true
theorem zqz{Ga:List (Addr×Obj)}{σ:St}{H:Hp}{s:Shared}{Q:VK}{us:List Value}{vs:List V}(M:Mk X.K C f)(F:zr X.prog X.w X.K X.mg X.base CX cm k f fd ps sp)(hr:zw cm (k+1) X.A)(hb:zaH X.K fd ps ds)(hd:zi dvs ds)
  (hx:zb2 CX X E) (I:Inv X Ga σ H s) (r:zi vs us)
  (h:∀x dx,H x=none->H dx=none->dx≠x->sp (.ref x::(vs++dvs)) (upd (upd H dx (.own x)) x (.ins C dx [])) (λv H2=>v = .non/\Q (.ref x) H2) E) :
  wpAny (model X.prog X.w) X.A (call (.ref C) us) (EP X Ga σ Q) X.xe s:=by
 have hq:=h (s.heap.objs.size+1) s.heap.objs.size (I.hok.fresh (le_succ _)) (I.hok.fresh (Nat.le_refl _)) (ne_of_lt (lt_succ_self _))
 have I2:=Inv.made (C:=C) I
 have r2:zi (V.ref (s.heap.objs.size+1)::(vs++dvs)) (Value.ref (s.heap.objs.size+1)::(us++ds)):=.cons rfl (r.append hd)
 have hl:(Value.ref (s.heap.objs.size+1)::us++ds).length=ps.length:=by
  have e:=r2.length
  rw [F.len _ _ _ _ hq] at e
  exact e.symm
 refine wpAny_call (zlS (f:=f) I.kIn M.makes M.init (beq_iff_eq.mp M.fn) (codeAny_mono (F.run _ X.stack _ _ ⟨Value.ref (s.heap.objs.size+1)::us,[]⟩ (Value.ref (s.heap.objs.size+1)::(us++ds)) _ _ E (hr.make C us [])
  (I2.env0.make C us []) (hb _ (Value.ref (s.heap.objs.size+1)::us) I2.kIn hl) r2 hq) λr s' hq'=>?_))
 cases r with
 | error e=>exact hx Ga σ _ _ e s' I2 hq'
 | ok fl =>
  cases fl with
  | ret u =>
   obtain ⟨v,H',I3,rv,ev,q3⟩:=I2.after hq'
   subst ev
   exact ⟨rv,⟨V.ref (s.heap.objs.size+1),H',I3,rfl,q3⟩⟩
  | next=>exact False.elim hq'
  | brk=>exact False.elim hq'
  | cont=>exact False.elim hq'
theorem zsX(M:Mk X.K C f)(F:zr X.prog X.w X.K X.mg X.base CX cm k f fd ps sp)(hr:zw cm (k+1) X.A)(hg:Gl X x)(hm:X.mg x=some (.ref C))(hb:zaH X.K fd ps ds)(hd:zi dvs ds)(hx:zb2 CX X E)
  (hdb:(x==("__debug__":Str))=false:=by decide):PE X (.Call (.Name x p) [] [] pos) (zrF C sp dvs E zbo):=by
 intro Ga s σ H Q I h
 refine wpAny_Call_Name_kw (zdt I hg hm ?_ hdb)
 exact PySem.W.callWith_K0 I.kIn M.kp (zqz (us:=[]) M F hr hb hd hx I .nil h)
end
section
variable {X:Cx}{CX:CXT}{cm:Bool}{k:Nat}{f C:Addr}{fd:FuncData}{ps ks:List Str}{sp:Sp}{E:XK}{x m:Str}{p pos apos kpos:Pos}{e o:Expr}{es:List Expr}{kws:List Keyword}{te ta:TE}{t tk:TA}{nm:Option Str}
variable {g:List Value->List Value->List Value}{gV:List V->List V->List V}
end
structure zS(N P:List Str)(sc:Scope):Prop where
 kind:sc.kind = .function
 co:sc.isCoroutine=false
 gen:sc.isGenerator=false
 nd:N.Nodup
 pre:N.take P.length=P
 par:∀x∈P,sc.names.lookup x=some .local\/sc.names.lookup x=some .cell
 nofree:∀y∈sc.names,y.2≠.free
theorem zho{kindOf:Str->Option NameKind}{x:Str}:∀{binds:List (Str×Value)}{m:Str->Option Value},(∀v,(x,v)∉binds)->bindL kindOf binds m x=m x
 | [],_,_=>rfl
 | (n,v)::r,m,h=>by
  unfold bindL
  rw [zho λw hw=>h w (mem_cons_of_mem _ hw)]
  split
  ·have:x≠n:=by rintro rfl;exact h v mem_cons_self
   simp [this]
  ·rfl
theorem zhg{kindOf:Str->Option NameKind}{x:Str}:∀{binds:List (Str×Value)}{m:Str->Option Value},(∀v,(x,v)∉binds)->bindC kindOf binds m x=m x
 | [],_,_=>rfl
 | (n,v)::r,m,h=>by
  unfold bindC
  rw [zhg λw hw=>h w (mem_cons_of_mem _ hw)]
  split
  ·rfl
  ·have:x≠n:=by rintro rfl;exact h v mem_cons_self
   simp [this]
theorem zhl{kindOf:Str->Option NameKind}{x:Str}{v:Value}:∀{P:List Str}{vs:List Value}{i:Nat}{m:Str->Option Value},P.Nodup->P[i]?=some x->vs[i]?=some v->kindOf x=some .local ->
  bindL kindOf (P.zip vs) m x=some v
 | [],_,_,_,_,h,_,_=>by simp at h
 | _::_,[],_,_,_,_,h,_=>by simp at h
 | p::P,w::vs,0,m,nd,h1,h2,hk=>by
  simp at h1 h2;subst h1;subst h2
  show bindL kindOf ((p,w)::P.zip vs) m p=_
  unfold bindL
  rw [zho λv hv=>(nodup_cons.mp nd).1 (List.of_mem_zip hv).1,if_pos hk]
  simp
 | p::P,w::vs,i+1,m,nd,h1,h2,hk=>by
  show bindL kindOf ((p,w)::P.zip vs) m x=_
  unfold bindL
  exact zhl (i:=i) (nodup_cons.mp nd).2 (by simpa using h1) (by simpa using h2) hk
theorem ziV{kindOf:Str->Option NameKind}{x:Str}{v:Value}:∀{P:List Str}{vs:List Value}{i:Nat}{m:Str->Option Value},P.Nodup->P[i]?=some x->vs[i]?=some v->kindOf x≠some .local ->
  bindC kindOf (P.zip vs) m x=some v
 | [],_,_,_,_,h,_,_=>by simp at h
 | _::_,[],_,_,_,_,h,_=>by simp at h
 | p::P,w::vs,0,m,nd,h1,h2,hk=>by
  simp at h1 h2;subst h1;subst h2
  show bindC kindOf ((p,w)::P.zip vs) m p=_
  unfold bindC
  rw [zhg λv hv=>(nodup_cons.mp nd).1 (List.of_mem_zip hv).1,if_neg hk]
  simp
 | p::P,w::vs,i+1,m,nd,h1,h2,hk=>by
  show bindC kindOf ((p,w)::P.zip vs) m x=_
  unfold bindC
  exact ziV (i:=i) (nodup_cons.mp nd).2 (by simpa using h1) (by simpa using h2) hk
def start(N:List Str)(vs:List V):St:=vs.map some++replicate (N.length-vs.length) none
def za5(CX:CXT)(cm:Bool)(P:Program)(w:World)(K:PySem.W.Frag)(mg:Str->Option Value)(base:Heap)(N:List Str)(qual:Str)(scope:Scope)(f:Addr)(cd:Value)(A:Around)(outer:List Env)(s:Shared)(H:Hp)(E:XK):Cx where
 prog:=P
 w:=w
 K:=K
 mg:=mg
 base:=base
 A:=A.deeper (envOfC qual scope s.heap.objs.size f cd)
 N:=N
 s₀:=s
 H₀:=H
 env:=envOfC qual scope s.heap.objs.size f cd
 outer:=outer
 stack:=envOfC qual scope s.heap.objs.size f cd::outer
 ex:=[]
 calm:=cm
 fn:=λ_=>true
 pn:=[]
 xe:=λe s'=>wpAny (model P w) (A.deeper (envOfC qual scope s.heap.objs.size f cd)) (leaving (envOfC qual scope s.heap.objs.size f cd) e) (λ_ s''=>CX outer H s E e s'') (λe' s''=>CX outer H s E e' s'') s'
theorem ziw{sc:Scope}{n:Nat}{x:Str}(h:sc.names.lookup x=some .cell):∃c,(cellsFrom n sc.names []).lookup x=some c:=by
 have q:=PySem.W.cellsFrom_some sc.names n [] (.inl h)
 exact isSome_iff_exists.mp q
theorem zkp{CX:CXT}{cm:Bool}{P:Program}{w:World}{K:PySem.W.Frag}{mg:Str->Option Value}{base:Heap}{N ps:List Str}{qual:Str}{scope:Scope}{f:Addr}{cd:Value}{A:Around}{outer:List Env}{s s1:Shared}{H:Hp}{E:XK}{us:List Value}{vs:List V}
  (S:zS N ps scope) (hd:cm=true->A.handled=none) (e0:zch P w K mg base A outer s H) (hl:vs.length=ps.length) (r:zi vs us)
  (x:InCallC s s.heap.objs.size (bindL (envOfC qual scope s.heap.objs.size f cd).kindOf (ps.zip us) λ_=>none) (cellsFrom (s.heap.objs.size+1) scope.names []) (bindC (envOfC qual scope s.heap.objs.size f cd).kindOf (ps.zip us) λ_=>none) s1) :
  Inv (za5 CX cm P w K mg base N qual scope f cd A outer s H E) [] (start N vs) H s1:=by
 have hpl:ps.length<=N.length:=by have:=congrArg length S.pre;rw [length_take] at this;omega
 obtain ⟨h1,tk,rfl,hk⟩:=x.done
 have noA:∀b:Addr,b∉(za5 CX cm P w K mg base N qual scope f cd A outer s H E).ex:=λb z=>absurd (show b∈([]:List Addr) from z) (by simp)
 refine ⟨⟨e0.mod,S.kind,rfl,rfl,Nat.le_refl _,λy z c h1 h2=>?_,λy hy=>?_,λy c _ h=>?_,hd,Around.frames_deeper e0.frames,.inr ⟨rfl,rfl⟩,λb z=>absurd z (noA b),e0.bs,e0.bsz,λb _ _=>noA b,λb z=>absurd z (noA b),e0.funs,e0.frf⟩,
  rfl,e0.bare,Un.kept hk,⟨_,x.toInCall.ns,λi y v h1 h2 h3=>?_⟩,λy c h=>⟨_,x.cell y c h⟩,e0.hok.fresh (Nat.le_refl _),λy c h=>?_,λp hp=>absurd (show p∈([]:List (Addr×Obj)) from hp) (by simp),e0.hok.kept hk,?_,e0.hdk⟩
 ·exact name_of_addr x.apart (PySem.mem_of_lookup h1) (PySem.mem_of_lookup h2)
 ·have hy:scope.names.lookup y=some .cell\/scope.names.lookup y=some .free:=hy
  rcases hy with hy|hy
  ·exact ziw hy
  ·exact absurd rfl (S.nofree _ (PySem.mem_of_lookup hy))
 ·exact Nat.le_of_lt (x.above y c (PySem.mem_of_lookup h))
 ·have hi:i<vs.length:=by
   unfold start at h2
   by_cases hi:i<vs.length
   ·exact hi
   ·rw [List.getElem?_append_right (by simpa using hi)] at h2
    rw [List.getElem?_replicate] at h2
    split at h2<;>cases h2
  have ha:vs[i]?=some v:=by
   unfold start at h2
   rw [List.getElem?_append_left (by simpa using hi),getElem?_map] at h2
   cases e:vs[i]? with
   | none=>rw [e] at h2;cases h2
   | some a=>rw [e] at h2;cases h2;rfl
  obtain ⟨u,hu,rv⟩:=r.get ha
  have hp:ps[i]?=some y:=by
   rw [<- S.pre,getElem?_take_of_lt (by omega)];exact h1
  have ndP:ps.Nodup:=by rw [<- S.pre];exact S.nd.sublist (List.take_sublist _ _)
  refine ⟨u,rv,?_⟩
  rcases S.par y (mem_of_getElem? hp) with k|k
  ·exact .inl ⟨k,zhl ndP hp hu k⟩
  ·obtain ⟨c,e⟩:=ziw (n:=s.heap.objs.size+1) k
   refine .inr ⟨.inl k,c,e,?_⟩
   have q:=x.cell y c e
   rw [ziV ndP hp hu (by show scope.names.lookup y≠_;rw [k];decide)] at q
   exact q
 ·exact e0.hok.fresh (Nat.le_of_lt (x.above y c (PySem.mem_of_lookup h)))
 ·unfold start
  show _=N.length
  rw [length_append,length_map,List.length_replicate]
  omega
theorem ziK{CX:CXT}{cm:Bool}{P:Program}{w:World}{K:PySem.W.Frag}{mg:Str->Option Value}{base:Heap}{k:Nat}{f:Addr}{name qual:Str}{params:Arguments}{body:List Stmt}{scope:Scope}{dV kV doc pm cdv ct oc:Value}{an od:Option Addr}
  {osl:Array (Option Value)}{N ps:List Str}{sp:Sp} (lk:K.lookup f=some ⟨oc,od,.func (fnOf name qual params body scope dV kV doc pm an cdv ct),osl⟩) (hcd:codeIn K cdv qual=true) (S:zS N ps scope)
  (len:∀vs H Q E,sp vs H Q E->vs.length=ps.length)
  (hbody:∀(A:Around)(outer:List Env)(s:Shared)(H:Hp)(vs:List V)(Q:VK)(E:XK),zw cm k (A.deeper (envOfC qual scope s.heap.objs.size f cdv))->sp vs H Q E ->
   ∃t,PSs (za5 CX cm P w K mg base N qual scope f cdv A outer s H E) body t/\t { nx:=λ_ H'=>Q .non H',rt:=Q } (start N vs) H) :
  zr P w K mg base CX cm (k+1) f (fnOf name qual params body scope dV kV doc pm an cdv ct) ps sp:=by
 refine ⟨len,λA outer s H args us vs Q E hr e0 hb r hsp=>?_⟩
 have hl:=len _ _ _ _ hsp
 have KX:K.In s.heap:=e0.mod.kin.keeps λb o e=>(e0.bs b o e).1
 have lim:s.heap.NoLimit:=e0.mod.nolimit.keeps λb o e=>(e0.bs b o e).1
 have hkind:∀y∈ps.zip us,scope.names.lookup y.1=some .local\/(scope.names.lookup y.1=some .cell/\((cellsFrom (s.heap.objs.size+1) scope.names []).lookup y.1).isSome=true):=λ⟨n,v⟩ hy=>by
  rcases S.par n (List.of_mem_zip hy).1 with q|q
  ·exact .inl q
  ·exact .inr ⟨q,PySem.W.cellsFrom_some _ _ _ (.inl q)⟩
 refine codeAny_call_function hr.depth (KX _ _ lk) rfl S.co S.gen rfl (PySem.W.codeRec_of KX hcd) (hb _ _ _ _ ?_)
 refine wpAny_newFunctionEnv_cells S.kind hkind λenv he s1 x=>?_
 subst he
 refine ⟨lim.keeps x.toInCall.keep,codeAny_func ?_⟩
 obtain ⟨t,ht,hq⟩:=hbody A outer s H vs Q E (hr.deeper _) hsp
 have I:Inv (za5 CX cm P w K mg base N qual scope f cdv A outer s H E) [] (start N vs) H s1:=zkp S hr.hd e0 hl r x
 refine wpAny_mono (ht [] s1 (start N vs) H _ I hq) (λfl s' hs=>?_) λe s' hs=>hs
 have fin:∀{σ':St}{H':Hp}{v:V}{u:Value},Inv (za5 CX cm P w K mg base N qual scope f cdv A outer s H E) [] σ' H' s'->ze v u->Q v H'->CE outer P w H s Q u s' :=
  λ{σ' H' v u} J rv q=>⟨v,H',J.os,J.bare,J.base,J.hok,rv,q⟩
 cases fl with
 | ret u =>
  obtain ⟨v,σ',H',J,rv,q⟩:=hs
  exact fin J rv q
 | next =>
  obtain ⟨σ',H',J,q⟩:=hs
  exact fin (v:=V.non) (u:=Value.none) J rfl q
 | brk =>
  obtain ⟨_,_,_,q⟩:=hs
  exact False.elim q
 | cont =>
  obtain ⟨_,_,_,q⟩:=hs
  exact False.elim q
section
variable {X:Cx}{x:Str}{p pos:Pos}{e:Expr}{es:List Expr}{t:TA}{id T:String}{r:List V->Hp->VK->Prop}
def tCB(r:List V->Hp->VK->Prop)(t:TA):TE:=λσ H Q=>t σ H λvs H1=>r vs H1 Q
theorem ziI(hc:zR X (.builtin id) r)(hg:Gl X x)(hm:X.mg x=none)(hv:bootBuiltins x=some (.builtin id))(ha:PA X (e::es) t)(hn:x≠"__name__":=by decide)(hdb:(x==("__debug__":Str))=false:=by decide)
  (he:starEach (e::es) X.env=(false,eval e X.env)::starEach es X.env:=by rfl) (hpl:(backTo pos (starEach es X.env)).any (·.1)=false:=by rfl):PE X (.Call (.Name x p) (e::es) [] pos) (tCB r t):=by
 intro Ga s σ H Q I h
 refine wpAny_Call_Name_kw (zds I hg hm hv ?_ hn hdb)
 exact PyProof.Rows.callWith_builtin1 (thn (ha pos Ga s σ H _ I h) λus s1 ⟨vs,H1,I1,r1,q1⟩=>hc Ga s1 σ H1 vs us Q I1 r1 q1) he hpl
theorem zkx(hc:zR X (.type T) r)(hg:Gl X x)(hm:X.mg x=none)(hv:bootBuiltins x=some (.type T))(ha:PA X (e::es) t)(hn:x≠"__name__":=by decide)(hdb:(x==("__debug__":Str))=false:=by decide)
  (he:starEach (e::es) X.env=(false,eval e X.env)::starEach es X.env:=by rfl) (hpl:(backTo pos (starEach es X.env)).any (·.1)=false:=by rfl):PE X (.Call (.Name x p) (e::es) [] pos) (tCB r t):=by
 intro Ga s σ H Q I h
 refine wpAny_Call_Name_kw (zds I hg hm hv ?_ hn hdb)
 exact PyProof.Rows.callWith_type1 (thn (ha pos Ga s σ H _ I h) λus s1 ⟨vs,H1,I1,r1,q1⟩=>hc Ga s1 σ H1 vs us Q I1 r1 q1) he hpl
end
end L2
namespace HT
open PySem PyProof.Rows
section
open PySem.SeqAt
open PySem.AutoSeq1 (wpAny_loadPart')
open PySem.MeetsSeq PySem.MeetsSeq2 PySem.MeetsSeq3
end
section
variable {prog:Program}{w:World}{A:Around}{E:Value->Shared->Prop}{s:Shared}
theorem cat_tup{t b:Addr}{vs ws:List Value}{Q:Value->Shared->Prop}(ht:IsTup s.heap t vs.toArray)(hb:IsTup s.heap b ws.toArray)(hv:vs≠[])
  (h1:ws=[]->Q (.ref t) s) (h2:ws≠[]->Q (.ref s.heap.objs.size) { s with heap:=s.heap.push { cls:=.type "tuple",data:=.seq (vs++ws).toArray } })
  (hsz:vs.length+ws.length<=sizeLine):wpAny (model prog w) A (binaryOp .Add (.ref t) (.ref b)) Q E s:=by
 obtain ⟨⟨cls,dd,data,sl⟩,ho,hc,n,hd⟩:=id ht
 obtain ⟨⟨cls2,dd2,data2,sl2⟩,ho2,hc2,n2,hd2⟩:=id hb
 simp only at hc hd hc2 hd2
 subst hc hd hc2 hd2
 have e:vs.toArray++ws.toArray=(vs++ws).toArray:=by simp
 by_cases hw:ws=[]
 ·exact concat_meets ⟨_,ho,rfl⟩ ⟨_,ho2,rfl⟩ noFill_tuple_add seq_tuple_add slot_tuple_add entry_tuple_add (args_tuple_add_2 _ _)
   (tuple_addW1 t b vs.toArray ws.toArray n n2 dd dd2 sl sl2 (by simpa using hv) (by simp [hw])) ⟨ho,ho2,h1 hw⟩
 ·refine concat_meets ⟨_,ho,rfl⟩ ⟨_,ho2,rfl⟩ noFill_tuple_add seq_tuple_add slot_tuple_add entry_tuple_add (args_tuple_add_2 _ _)
   (tuple_addW2 t b vs.toArray ws.toArray n n2 dd dd2 sl sl2 (by simpa using hv) (by simpa using hw) (by rw [size_toArray,size_toArray];exact hsz)) ⟨ho,ho2,?_⟩
  rw [e]
  exact h2 hw
def sIx(n d:Nat):Option Int->Nat
 | none=>d
 | some v=>if v<0 then (v+(n:Int)).toNat else min v.toNat n
theorem zqu(n d:Nat)(hd:d<=n)(o:Option Int):sIx n d o<=n:=by
 cases o with
 | none=>exact hd
 | some v =>
  show (if v<0 then (v+(n:Int)).toNat else min v.toNat n)<=n
  by_cases hv:v<0
  ·rw [if_pos hv];omega
  ·rw [if_neg hv];exact Nat.min_le_right _ _
theorem zi4(v:Int)(n d:Nat):(if v<0 then max (v+(n:Int)) 0 else min v (n:Int))=((sIx n d (some v):Nat):Int):=by
 show (if v<0 then max (v+(n:Int)) 0 else min v (n:Int))=(((if v<0 then (v+(n:Int)).toNat else min v.toNat n):Nat):Int)
 by_cases hv:v<0
 ·simp only [if_pos hv];omega
 ·simp only [if_neg hv];omega
theorem zrB(lo hi:Option Int)(n:Nat):Builtin.Slice.sliceAdjust lo hi 1 (n:Int)=(((sIx n 0 lo:Nat):Int),((sIx n n hi:Nat):Int)):=by
 have h1 : ¬ ((1:Int)<0):=by omega
 unfold Builtin.Slice.sliceAdjust
 simp only [h1,if_false]
 refine Prod.ext ?_ ?_
 ·cases lo with
  | none=>rfl
  | some v=>exact zi4 v n 0
 ·cases hi with
  | none=>rfl
  | some v=>exact zi4 v n n
theorem zm5(i j:Nat):Builtin.Slice.slicePlaces (i:Int) (j:Int) 1=j-i:=by
 unfold Builtin.Slice.slicePlaces
 have h1:(1:Int)>0:=by omega
 simp only [h1,if_true,Int.ediv_one]
 split<;>omega
theorem zhy{v:Value}{o:Option Int}{Q:Option Int->Shared->Prop}(p:IsPart v o)(h:Q o s):wpAny (model prog w) A (Builtin.Slice.slicePartIndex v) Q E s:=by
 cases p with
 | none=>exact slicePart_none h
 | int i t=>exact slicePart_int h
theorem zhV{sl:Addr}{vl vu:Value}{lo hi:Option Int}{n:Nat}{Q:Int×Int×Nat->Shared->Prop}(hs:s.heap.IsSliceOf sl vl vu .none)(pl:IsPart vl lo)(pu:IsPart vu hi)
  (h:Q (((sIx n 0 lo:Nat):Int),1,sIx n n hi-sIx n 0 lo) s):wpAny (model prog w) A (Builtin.Slice.sliceApplied (.ref sl) (pure (n:Int))) Q E s:=by
 obtain ⟨os,hos,hcs,hds⟩:=id hs
 unfold Builtin.Slice.sliceApplied Builtin.Slice.sliceFields
 refine wpAny_bind (wpAny_bind (wpAny_field hos hds (x:=vl) rfl (wpAny_bind (wpAny_field hos hds (x:=vu) rfl (wpAny_bind (wpAny_field hos hds (x:=.none) rfl (wpAny_pure ?_)))))))
 refine wpAny_bind (slicePart_none ?_)
 show wpAny _ _ (if ((1:Int)==0)=true then _ else _) _ _ s
 rw [if_neg (by decide)]
 refine wpAny_bind (zhy pl (wpAny_bind (zhy pu (wpAny_bind (wpAny_pure ?_)))))
 show wpAny _ _ (match Builtin.Slice.sliceAdjust lo hi 1 (n:Int) with|(lo,hi)=>pure (lo,(1:Int),Builtin.Slice.slicePlaces lo hi 1)) _ _ s
 rw [zrB lo hi n]
 show wpAny _ _ (pure (((sIx n 0 lo:Nat):Int),(1:Int),Builtin.Slice.slicePlaces ((sIx n 0 lo:Nat):Int) ((sIx n n hi:Nat):Int) 1)) _ _ s
 rw [zm5]
 exact wpAny_pure h
theorem zr2(xs:Array Value)(i k:Nat):((List.range k).filterMap λ(m:Nat)=>xs[((i:Int)+(m:Int)*1).toNat]?).toArray=((xs.toList.drop i).take k).toArray:=by
 have e:(λ(m:Nat)=>xs[((i:Int)+(m:Int)*1).toNat]?)=λm=>xs[i+m]?:=by
  funext m
  have:((i:Int)+(m:Int)*1).toNat=i+m:=by omega
  rw [this]
 rw [e]
 have:=pick_run xs i k
 rw [List.filterMap_map] at this
 have e2:((λx=>xs[x]?)∘λx=>i+x)=λm=>xs[i+m]?:=rfl
 rw [e2] at this
 rw [this]
theorem getItem_tuple_cut{t sl:Addr}{items:Array Value}{vl vu:Value}{lo hi:Option Int}{Q:Value->Shared->Prop}(ht:IsTup s.heap t items)(hs:s.heap.IsSliceOf sl vl vu .none)(pl:IsPart vl lo)(pu:IsPart vu hi)
  (hw : ¬ (sIx items.size 0 lo=0/\sIx items.size items.size hi=items.size))
  (h:Q (.ref s.heap.objs.size) { s with heap:=s.heap.push { cls:=.type "tuple",data:=.seq ((items.toList.drop (sIx items.size 0 lo)).take (sIx items.size items.size hi-sIx items.size 0 lo)).toArray } })
  (hsz:items.size<=sizeLine):wpAny (model prog w) A (getItem (.ref t) (.ref sl)) Q E s:=by
 have htake:sizeOk (.seq ((items.toList.drop (sIx items.size 0 lo)).take (sIx items.size items.size hi-sIx items.size 0 lo)).toArray):=by
  show ((items.toList.drop (sIx items.size 0 lo)).take (sIx items.size items.size hi-sIx items.size 0 lo)).toArray.size<=sizeLine
  rw [size_toArray,length_take,length_drop,length_toList]
  omega
 have hj:sIx items.size items.size hi<=items.size:=zqu _ _ (Nat.le_refl _) hi
 obtain ⟨os,hos,hcs,hds⟩:=id hs
 have hTs:s.TypeIs (.ref sl) "slice":=⟨os,hos,hcs⟩
 unfold getItem
 try with_reducible refine wpAny_holding ?_
 first|refine wpAny_bind (wpAny_pure ?_)|skip
 refine wpAny_bind (wpAny_sequenceKey ht.typeIs (by decide) ?_)
 refine wpAny_bind (wpAny_callSpecial?_slot (name:=Str.ofString "__getitem__") ht.typeIs PyProof.Rows.slot_tuple_getitem
  (wpAny_call_entry PyProof.Rows.slot_tuple_getitem ht.typeIs entry_tuple_getitem ?_ (args_tuple_getitem _ _)))
 show wpAny _ _ (Builtin.Tuple.tupleItemsOf (.ref t)>>=_) _ _ s
 refine wpAny_bind (tupleItemsOf_ ht ?_)
 refine wpAny_bind (wpAny_typeOf hTs ?_)
 rw [if_pos (by decide)]
 refine wpAny_bind (zhV hs pl pu ?_)
 have hno : ¬ ((((sIx items.size 0 lo:Nat):Int)==0&&(1:Int)==1&&(sIx items.size items.size hi-sIx items.size 0 lo)==items.size)=true):=by
  intro q
  rw [and_eq_true,and_eq_true] at q
  have q1:((sIx items.size 0 lo:Nat):Int)=0:=eq_of_beq q.1.1
  have q2:sIx items.size items.size hi-sIx items.size 0 lo=items.size:=eq_of_beq q.2
  exact hw ⟨by omega,by omega⟩
 show wpAny _ _ (if (((sIx items.size 0 lo:Nat):Int)==0&&(1:Int)==1&&(sIx items.size items.size hi-sIx items.size 0 lo)==items.size)=true then _ else _) _ _ s
 rw [if_neg hno,zr2]
 first
  | exact wpAny_bind (m:=Builtin.Tuple.tupleExact _) (wpAny_newObj_type (wpAny_pure ⟨_,rfl,wpAny_pure h⟩) htake)
  | exact wpAny_bind (m:=Builtin.Tuple.tupleExact _) (wpAny_newObj_type (wpAny_bind (wpAny_pure (wpAny_pure ⟨_,rfl,wpAny_pure h⟩))) htake)
  | exact wpAny_bind (wpAny_bind (m:=Builtin.Tuple.tupleExact _) (wpAny_newObj_type (wpAny_pure (wpAny_pure ⟨_,rfl,wpAny_pure h⟩)) htake))
  | exact wpAny_bind (wpAny_bind (m:=Builtin.Tuple.tupleExact _) (wpAny_newObj_type (wpAny_pure ⟨_,rfl,wpAny_pure h⟩) htake))
end
end HT
namespace L2
open PySem PySem.Spec PyProof.Rows
abbrev TO:=St->Hp->(Option Int->Hp->Prop)->Prop
def PO(X:Cx)(e:Option Expr)(t:TO):Prop :=
 ∀(Ga:List (Addr×Obj))(s:Shared)(σ:St)(H:Hp)(Q:Option Int->Hp->Prop),Inv X Ga σ H s->t σ H Q ->
  wpAny (model X.prog X.w) X.A (evalPart e X.env) (λu s'=>∃o H',Inv X Ga σ H' s'/\IsPart u o/\Q o H') X.xe s
def zgz:TO:=λ_ H Q=>Q none H
def zfv(t:TE):TO:=λσ H Q=>t σ H λx H1=>∃i,x = .int i/\Q (some i) H1
section
variable {X:Cx}{e:Expr}{te:TE}{lo hi:Option Expr}{tl th:TO}{pos p2:Pos}
theorem zmu:PO X none zgz:=by
 intro Ga s σ H Q I h
 rw [evalPart_none]
 exact wpAny_pure ⟨none,H,I,.none,h⟩
theorem zkR(h:PE X e te):PO X (some e) (zfv te):=by
 intro Ga s σ H Q I hw
 rw [evalPart_some]
 refine thn (h Ga s σ H _ I hw) λu s1 ⟨x,H1,I1,r1,q1⟩=>?_
 obtain ⟨i,rfl,q⟩:=q1
 obtain ⟨t,rfl⟩:=r1
 exact ⟨some i,H1,I1,.int i t,q⟩
def SlR(X:Cx)(r:V->Option Int->Option Int->Hp->VK->Prop):Prop :=
 ∀(Ga:List (Addr×Obj))(s:Shared)(σ:St)(H:Hp)(x:V)(v vl vu:Value)(lo hi:Option Int)(sl:Addr)(Q:VK),Inv X Ga σ H s->ze x v->s.heap.IsSliceOf sl vl vu .none->IsPart vl lo->IsPart vu hi->r x lo hi H Q ->
  ∃T id,typeLookup (.type T) "__getitem__"=pure (some (.builtin id))/\s.TypeIs v T/\wpAny (model X.prog X.w) X.A (getItem v (.ref sl)) (EP X Ga σ Q) X.xe s
theorem SlR.or{r r':V->Option Int->Option Int->Hp->VK->Prop}(h:SlR X r)(h':SlR X r'):SlR X (λx lo hi H Q=>r x lo hi H Q\/r' x lo hi H Q):=by
 intro Ga s σ H x v vl vu lo hi sl Q I rx hs pl pu q
 rcases q with q|q
 ·exact h Ga s σ H x v vl vu lo hi sl Q I rx hs pl pu q
 ·exact h' Ga s σ H x v vl vu lo hi sl Q I rx hs pl pu q
def tSl(r:V->Option Int->Option Int->Hp->VK->Prop)(te:TE)(tl th:TO):TE:=λσ H Q=>te σ H λx H1=>tl σ H1 λl H2=>th σ H2 λu H3=>r x l u H3 Q
theorem zlF{r:V->Option Int->Option Int->Hp->VK->Prop}(hr:SlR X r)(he:PE X e te)(hl:PO X lo tl)(hu:PO X hi th):PE X (.Subscript e (.Slice lo hi none p2) pos) (tSl r te tl th):=by
 intro Ga s σ H Q I h
 refine Subscript_ (thn (he Ga s σ H _ I h) λv s1 ⟨x,H1,I1,r1,q1⟩=>?_)
 refine wpAny_Slice (thn (hl Ga s1 σ H1 _ I1 q1) λvl s2 ⟨l,H2,I2,pl,q2⟩=>thn (hu Ga s2 σ H2 _ I2 q2) λvu s3 ⟨u,H3,I3,pu,q3⟩=>?_)
 rw [evalPart_none]
 refine wpAny_pure ?_
 have I4:Inv X Ga σ H3 { s3 with heap:=s3.heap.push { cls:=.type "slice",data:=.fields #[vl,vu,.none] } }:=I3.kept (t':=s3.toks) λb ob q=>get?_push_of_some _ q
 obtain ⟨T,id,hT,ht,hg⟩:=hr Ga { s3 with heap:=s3.heap.push { cls:=.type "slice",data:=.fields #[vl,vu,.none] } } σ H3 x v vl vu l u s3.heap.objs.size Q I4 r1 (Heap.IsSliceOf.new ..) pl pu q3
 show wpAny (model X.prog X.w) X.A (subscriptTail e (.Slice lo hi none p2) v (.ref s3.heap.objs.size)) (EP X Ga σ Q) X.xe { s3 with heap:=s3.heap.push { cls:=.type "slice",data:=.fields #[vl,vu,.none] } }
 exact tail_any (ops:=[.ref s3.heap.objs.size,v]) ht hT hg (by with_unfolding_all rfl)
def zaq(xs:List V)(lo hi:Option Int):List V:=(xs.drop (HT.sIx xs.length 0 lo)).take (HT.sIx xs.length xs.length hi-HT.sIx xs.length 0 lo)
theorem zh7(xs:List V)(lo hi:Option Int):(zaq xs lo hi).length<=xs.length:=by
 unfold zaq
 rw [length_take,length_drop]
 omega
def zoV(K:PySem.W.Frag):V->Option Int->Option Int->Hp->VK->Prop:=λx lo hi H Q=>∃a xs,x = .ref a/\SqT K H a xs /\
 ¬ (HT.sIx xs.length 0 lo=0/\HT.sIx xs.length xs.length hi=xs.length)/\∀p,H p=none->Q (.ref p) (upd H p (.tup (zaq xs lo hi)))
theorem zrE:SlR X (zoV X.K):=by
 intro Ga s σ H x v vl vu lo hi sl Q I rx hs pl pu h
 obtain ⟨a,xs,rfl,hx,hw,q⟩:=h
 cases rx
 obtain ⟨its,r,ht,hz⟩:=I.tuple hx
 have hlen:its.toArray.size=xs.length:=by rw [size_toArray];exact r.length.symm
 refine ⟨"tuple",_,PyProof.Rows.slot_tuple_getitem.lookup,ht.typeIs,?_⟩
 refine HT.getItem_tuple_cut ht hs pl pu (by rw [hlen];exact hw) ?_ (by rw [hlen];exact hz)
 rw [hlen]
 refine ⟨.ref s.heap.objs.size,_,I.laid (t':=s.toks) (o:=.tup (zaq xs lo hi)) (λb ob q=>get?_push_of_some _ q) (Nat.le_refl _) ?_,rfl,q _ (I.hok.fresh (Nat.le_refl _))⟩
 exact ⟨Nat.le_trans (zh7 xs lo hi) hz,_,(r.drop (HT.sIx xs.length 0 lo)).take (HT.sIx xs.length xs.length hi-HT.sIx xs.length 0 lo),IsTup.new _ _⟩
def znX(K:PySem.W.Frag):R2:=λx y H Q=>∃a b xs ys,x = .ref a/\y = .ref b/\SqT K H a xs/\SqT K H b ys/\xs≠[]/\xs.length+ys.length<=sizeLine /\
 (ys=[]->Q (.ref a) H)/\(ys≠[]->∀p,H p=none->Q (.ref p) (upd H p (.tup (xs++ys))))
theorem zi.nil_iff{xs:List V}{us:List Value}(r:zi xs us):us=[]↔xs=[]:=by
 cases r with
 | nil=>simp
 | cons _ _=>simp
theorem zmc:OpR X (binaryOp .Add) (znX X.K):=by
 intro Ga s σ H x y v u Q I rx ry h
 obtain ⟨a,b,xs,ys,rfl,rfl,ha,hb,hx,hz,q1,q2⟩:=h
 cases rx
 cases ry
 obtain ⟨its,r1,p1,_⟩:=I.tuple ha
 obtain ⟨its2,r2,p2,_⟩:=I.tuple hb
 refine HT.cat_tup p1 p2 (λz=>hx (r1.nil_iff.mp z)) (λz=>⟨.ref a,H,I,rfl,q1 (r2.nil_iff.mp z)⟩) (λz=>?_) (by rw [<- r1.length,<- r2.length];exact hz)
 refine ⟨.ref s.heap.objs.size,_,I.laid (t':=s.toks) (o:=.tup (xs++ys)) (λb ob q=>get?_push_of_some _ q) (Nat.le_refl _) ?_,rfl,q2 (λw=>z (r2.nil_iff.mpr w)) _ (I.hok.fresh (Nat.le_refl _))⟩
 exact ⟨by rw [length_append];exact hz,_,r1.append r2,IsTup.new _ _⟩
end
def ixN(n:Nat)(i:Int):Option Nat:=if 0<=i then (if i<n then some i.toNat else none) else if -(n:Int)<=i then some (i+n).toNat else none
def atI{α:Type}(xs:List α)(i:Int):Option α:=(ixN xs.length i).bind λj=>xs[j]?
theorem zjg{n:Nat}{i:Int}{j:Nat}(h:ixN n i=some j):seqIndex? i n=some j/\j<n/\-(n:Int)<=i/\i<n:=by
 unfold ixN at h
 by_cases h0:0<=i
 ·rw [if_pos h0] at h
  by_cases h1:i<n
  ·rw [if_pos h1] at h
   have e:i.toNat=j:=Option.some.inj h
   exact ⟨by rw [seqIndex_of h0 h1,e],by omega,by omega,h1⟩
  ·rw [if_neg h1] at h;cases h
 ·rw [if_neg h0] at h
  by_cases h1 : -(n:Int)<=i
  ·rw [if_pos h1] at h
   have e:(i+n).toNat=j:=Option.some.inj h
   exact ⟨by rw [seqIndex_neg (by omega) h1,e],by omega,h1,by omega⟩
  ·rw [if_neg h1] at h;cases h
theorem zfA{α:Type}{xs:List α}{i:Int}{v:α}(h:atI xs i=some v):∃j,seqIndex? i xs.length=some j/\xs[j]?=some v/\j<xs.length/\-(xs.length:Int)<=i/\i<xs.length:=by
 unfold atI at h
 cases e:ixN xs.length i with
 | none=>rw [e] at h;cases h
 | some j =>
  rw [e] at h
  obtain ⟨h1,h2,h3,h4⟩:=zjg e
  exact ⟨j,h1,h,h2,h3,h4⟩
theorem zdU{α:Type}{xs:List α}{j:Nat}{v:α}(h:xs[j]?=some v):atI xs (j:Int)=some v:=by
 have hj:j<xs.length:=(List.getElem?_eq_some_iff.mp h).1
 have e:ixN xs.length (j:Int)=some j:=by
  unfold ixN
  rw [if_pos (by omega),if_pos (by omega)];simp
 unfold atI;rw [e];exact h
def zg1(b:Expr):Prop:=∀o i,subscripted b false o i=operate [o,i] (getItem o i)
def IxR(X:Cx)(r:R2):Prop :=
 ∀(value slice:Expr)(Ga:List (Addr×Obj))(s:Shared)(σ:St)(H:Hp)(x y:V)(v u:Value)(Q:VK),Inv X Ga σ H s->ze x v->ze y u->r x y H Q ->
  subscripted slice false v u=operate [v,u] (getItem v u)->wpAny (model X.prog X.w) X.A (subscriptTail value slice v u) (EP X Ga σ Q) X.xe s
def MtR(X:Cx)(id:String)(r:V->List V->Hp->VK->Prop):Prop :=
 ∀(Ga:List (Addr×Obj))(s:Shared)(σ:St)(H:Hp)(x:V)(xs:List V)(v:Value)(us:List Value)(Q:VK),Inv X Ga σ H s->ze x v->zi xs us->r x xs H Q ->
  wpAny (model X.prog X.w) X.A (call (.builtin id) (v::us)) (EP X Ga σ Q) X.xe s
section
variable {X:Cx}{a b:Expr}{ta tb:TE}{pos:Pos}
theorem IxR.or{r r':R2}(h:IxR X r)(h':IxR X r'):IxR X (λx y H Q=>r x y H Q\/r' x y H Q):=by
 intro value slice Ga s σ H x y v u Q I rx ry q hs
 rcases q with q|q
 ·exact h value slice Ga s σ H x y v u Q I rx ry q hs
 ·exact h' value slice Ga s σ H x y v u Q I rx ry q hs
theorem zik{r:R2}(hr:IxR X r)(ha:PE X a ta)(hb:PE X b tb)(hs:zg1 b):PE X (.Subscript a b pos) (tOp r ta tb):=by
 intro Ga s σ H Q I h
 exact Subscript_ (zf6 ha hb I h λv u s2 x y H2 I2 rx ry q=>hr a b Ga s2 σ H2 x y v u Q I2 rx ry q (hs _ _))
def zhP(K:PySem.W.Frag):R2:=λx y H Q=>∃p xs i v,x = .ref p/\y = .int i/\SqL K H p xs/\atI xs i=some v/\Q v H
def ziL(K:PySem.W.Frag):R2:=λx y H Q=>∃p xs i v,x = .ref p/\y = .int i/\SqT K H p xs/\atI xs i=some v/\Q v H
def ziG:R2:=λx y H Q=>∃z i c,x = .str z/\y = .int i/\z.length<=sizeLine/\atI z.cps.toList i=some c/\Q (.str ⟨#[c]⟩) H
theorem zic:IxR X (zhP X.K):=by
 intro value slice Ga s σ H x y v u Q I rx ry h hs
 obtain ⟨p,xs,i,z,rfl,rfl,hq,he,q⟩:=h
 cases rx
 obtain ⟨t,rfl⟩:=ry
 obtain ⟨its,r,pl,hz⟩:=I.list hq
 obtain ⟨j,h1,h2,h3,h4,h5⟩:=zfA he
 obtain ⟨w,ew,rw'⟩:=r.get h2
 have hl:=r.length
 have hn:=zbT
 have fin:EP X Ga σ Q w s:=⟨z,H,I,rw',q⟩
 by_cases h0:0<=i
 ·have hj:i.toNat=j:=by
   rw [seqIndex_of h0 h5] at h1
   exact Option.some.inj h1
  exact item_listR pl.isList h0 (by omega) (by rw [hj];simpa using ew) fin hs
 ·have hj:(i+(its.toArray.size:Int)).toNat=j:=by
   rw [seqIndex_neg (by omega) h4] at h1
   rw [size_toArray,<- hl]
   exact Option.some.inj h1
  exact subscriptTail_builtinR (x:=w) pl.isList.typeIs slot_list_getitem.lookup
   (wpAny_getItem_list_neg (Q:=λr s'=>r=w/\EP X Ga σ Q r s') pl.isList (by omega) (by rw [size_toArray]<;>omega) (by omega) (by rw [hj];simpa using ew) ⟨rfl,fin⟩) hs
theorem zsf:IxR X (ziL X.K):=by
 intro value slice Ga s σ H x y v u Q I rx ry h hs
 obtain ⟨p,xs,i,z,rfl,rfl,hq,he,q⟩:=h
 cases rx
 obtain ⟨t,rfl⟩:=ry
 obtain ⟨its,r,pl,hz⟩:=I.tuple hq
 obtain ⟨j,h1,h2,h3,h4,h5⟩:=zfA he
 obtain ⟨w,ew,rw'⟩:=r.get h2
 have hl:=r.length
 have hn:=zbT
 have fin:EP X Ga σ Q w s:=⟨z,H,I,rw',q⟩
 exact subscriptTail_builtinR (x:=w) pl.typeIs slot_tuple_getitem.lookup
  (getItem_tuple (j:=j) (Q:=λr s'=>r=w/\EP X Ga σ Q r s') pl (by omega) (by omega) (by rw [size_toArray,<- hl];exact h1) (by simpa using ew) ⟨rfl,fin⟩) hs
theorem zoX:IxR X ziG:=by
 intro value slice Ga s σ H x y v u Q I rx ry h hs
 obtain ⟨z,i,c,rfl,rfl,hz,he,q⟩:=h
 obtain ⟨t,rfl⟩:=rx
 obtain ⟨t',rfl⟩:=ry
 obtain ⟨j,h1,h2,h3,h4,h5⟩:=zfA he
 have hl:z.cps.toList.length=z.length:=by simp [Str.length]
 rw [hl] at h1 h4 h5
 have hn:=zbT
 exact tail_any (typeIs_str s z t) slot_str_getitem.lookup (getItem_str (c:=c) (by
  have e1:decide (i < -(2 ^ 63:Int))=false:=decide_eq_false (by omega)
  have e2:decide (i ≥ 2 ^ 63)=false:=decide_eq_false (by omega)
  rw [e1,e2,Bool.or_false]) (by rw [h1];simpa using h2) ⟨.str ⟨#[c]⟩,H,I.tok _,⟨_,rfl⟩,q⟩) hs
def rIx(K:PySem.W.Frag):R2:=λx y H Q=>zhP K x y H Q\/ziL K x y H Q\/ziG x y H Q
theorem zoS:IxR X (rIx X.K):=zic.or (zsf.or zoX)
theorem zmQ(its:List Value)(n j:Nat)(u:Value):mapSeq (·.setIfInBounds j u) { cls:=.type "list",data:=.seq its.toArray n }={ cls:=.type "list",data:=.seq (its.set j u).toArray n }:=by
 simp [mapSeq]
theorem Inv.lst{Ga:List (Addr×Obj)}{σ:St}{H:Hp}{s:Shared}{p:Addr}{xs:List V}(I:Inv X Ga σ H s)(h:H p=some (.lst xs)) :
  ∃(its:List Value)(n:Nat),zi xs its/\s.heap.get? p=some { cls:=.type "list",data:=.seq its.toArray n }/\xs.length<=sizeLine:=by
 obtain ⟨z,its,n,r,e⟩:=I.hok p _ h
 exact ⟨its,n,r,e,z⟩
theorem Inv.lstUpd{Ga:List (Addr×Obj)}{σ:St}{H:Hp}{s:Shared}{p:Addr}{xs ys:List V}{its its':List Value}{n n':Nat}{f:Obj->Obj}(I:Inv X Ga σ H s)(h:H p=some (.lst xs))
  (ho:s.heap.get? p=some { cls:=.type "list",data:=.seq its.toArray n }) (hf:f { cls:=.type "list",data:=.seq its.toArray n }={ cls:=.type "list",data:=.seq its'.toArray n' }) (r:zi ys its') (hz:ys.length<=sizeLine) (t:Nat) :
  Inv X Ga σ (upd H p (.lst ys)) { s with heap:=s.heap.update p f,toks:=t }:=by
 have e:(s.heap.update p f).get? p=some { cls:=.type "list",data:=.seq its'.toArray n' }:=by
  rw [get?_update_self f ho (by rw [hf]<;>rfl),hf]
 refine I.write (x:=p) (e:=p) (by rw [h];trivial) (.inl rfl) (λb u hb q=>(get?_update_other _ _ (Ne.symm hb)).trans q) ⟨_,e⟩ ?_
 exact ⟨hz,its',n',r,e⟩
def zfe:V->V->V->Hp->(Hp->Prop)->Prop:=λo i v H Q=>∃p xs k j,o = .ref p/\i = .int k/\H p=some (.lst xs)/\ixN xs.length k=some j/\Q (upd H p (.lst (xs.set j v)))
theorem zeK:zer X zfe:=by
 intro Ga s σ H o i v ov iv u Q I ro ri rv h
 obtain ⟨p,xs,k,j,rfl,rfl,hp,hj,q⟩:=h
 cases ro
 obtain ⟨t,rfl⟩:=ri
 obtain ⟨its,n,r,ho,hz⟩:=I.lst hp
 obtain ⟨h1,h2,h3,h4⟩:=zjg hj
 have hl:=r.length
 have hn:=zbT
 have I':Inv X Ga σ (upd H p (.lst (xs.set j v))) { s with heap:=s.heap.update p (mapSeq (·.setIfInBounds j u)) } :=
  I.lstUpd hp ho (zmQ its n j u) (r.set rv j) (by rw [List.length_set];exact hz) s.toks
 by_cases h0:0<=k
 ·have hk:k.toNat=j:=by
   rw [seqIndex_of h0 h4] at h1
   exact Option.some.inj h1
  exact PySem.W.ki_setAt ho h0 (by omega) (by rw [size_toArray,<- hl];exact h4) (by rw [hk];exact ⟨_,I',q⟩)
 ·have hk:(k+(its.toArray.size:Int)).toNat=j:=by
   rw [seqIndex_neg (by omega) h3] at h1
   rw [size_toArray,<- hl]
   exact Option.some.inj h1
  exact PySem.W.ki_setBack ho (by omega) (by rw [size_toArray,<- hl];exact h3) (by omega) (by rw [hk];exact ⟨_,I',q⟩)
theorem znm(lo hi:Option Int)(n:Nat):(sliceBounds lo hi none n).1=((HT.sIx n 0 lo:Nat):Int)/\(sliceBounds lo hi none n).2.1=((HT.sIx n n hi:Nat):Int)/\(sliceBounds lo hi none n).2.2=1:=by
 refine ⟨?_,?_,rfl⟩
 ·cases lo with
  | none=>simp [sliceBounds,HT.sIx]
  | some i =>
   simp only [sliceBounds,HT.sIx,getD_none,show (1:Int)>0 by decide,if_true]
   by_cases h:i<0
   ·simp only [h,if_true]<;>omega
   ·simp only [h,if_false]<;>omega
 ·cases hi with
  | none=>simp [sliceBounds,HT.sIx]
  | some i =>
   simp only [sliceBounds,HT.sIx,getD_none,show (1:Int)>0 by decide,if_true]
   by_cases h:i<0
   ·simp only [h,if_true]<;>omega
   ·simp only [h,if_false]<;>omega
theorem zoi(its:List Value)(lo hi:Option Int):slicePick its.toArray lo hi none=((its.drop (HT.sIx its.length 0 lo)).take (HT.sIx its.length its.length hi-HT.sIx its.length 0 lo)).toArray:=by
 obtain ⟨h1,h2,h3⟩:=znm lo hi its.toArray.size
 unfold slicePick
 rw [h1,h2,h3]
 simp only [sliceRange_one,pick_run,size_toArray]<;>rfl
def zlW(K:PySem.W.Frag):V->Option Int->Option Int->Hp->VK->Prop:=λx lo hi H Q=>∃a xs,x = .ref a/\SqL K H a xs/\∀p,H p=none->Q (.ref p) (upd H p (.lst (zaq xs lo hi)))
theorem zr6:SlR X (zlW X.K):=by
 intro Ga s σ H x v vl vu lo hi sl Q I rx hs pl pu h
 obtain ⟨a,xs,rfl,hx,q⟩:=h
 cases rx
 obtain ⟨its,r,ht,hz⟩:=I.list hx
 have hlen:=r.length
 refine ⟨"list",_,slot_list_getitem.lookup,ht.isList.typeIs,?_⟩
 refine wpAny_getItem_list_slice ht.isList hs pl pu .none (by simp) ?_ (by rw [size_toArray]<;>omega)
 rw [zoi,<- hlen]
 refine ⟨.ref s.heap.objs.size,_,I.laid (t':=s.toks) (o:=.lst (zaq xs lo hi)) (λb ob q=>get?_push_of_some _ q) (Nat.le_refl _) ?_,rfl,q _ (I.hok.fresh (Nat.le_refl _))⟩
 exact ⟨Nat.le_trans (zh7 xs lo hi) hz,_,0,(r.drop (HT.sIx xs.length 0 lo)).take (HT.sIx xs.length xs.length hi-HT.sIx xs.length 0 lo),get?_push_size _ rfl⟩
def zv:V->Bool
 | .non=>true
 | .bl _=>true
 | .int _=>true
 | .str _=>true
 | _=>false
def eqV:V->V->Bool
 | .non,.non=>true
 | .bl a,.bl b=>a==b
 | .bl a,.int b=>(if a then 1 else 0)==b
 | .int a,.bl b=>a==(if b then 1 else 0)
 | .int a,.int b=>a==b
 | .str a,.str b=>a==b
 | _,_=>false
theorem zeL{A:Around}{s:Shared}{y x:V}{u v:Value}(ry:ze y u)(rx:ze x v)(fy:zv y=true)(fx:zv x=true):SeqAt.EqAt A s u v (eqV y x):=by
 cases y with
 | non =>
  cases ry
  cases x with
  | non=>cases rx;exact SeqAt.EqAt.same _
  | bl b=>cases rx;exact SeqAt.EqAt.none_bool b
  | int b=>obtain ⟨t,rfl⟩:=rx;exact SeqAt.EqAt.none_int b t
  | str b=>obtain ⟨t,rfl⟩:=rx;exact SeqAt.EqAt.none_str b t
  | _=>exact absurd (show false=true from fx) Bool.false_ne_true
 | bl a =>
  cases ry
  cases x with
  | non=>cases rx;exact SeqAt.EqAt.bool_none a
  | bl b=>cases rx;exact SeqAt.EqAt.bool_bool a b
  | int b=>obtain ⟨t,rfl⟩:=rx;exact SeqAt.EqAt.bool_int a b t
  | str b=>obtain ⟨t,rfl⟩:=rx;exact SeqAt.EqAt.bool_str a b t
  | _=>exact absurd (show false=true from fx) Bool.false_ne_true
 | int a =>
  obtain ⟨t',rfl⟩:=ry
  cases x with
  | non=>cases rx;exact SeqAt.EqAt.int_none a t'
  | bl b=>cases rx;exact SeqAt.EqAt.int_bool a t' b
  | int b=>obtain ⟨t,rfl⟩:=rx;exact SeqAt.EqAt.int_int a t' b t
  | str b=>obtain ⟨t,rfl⟩:=rx;exact SeqAt.EqAt.int_str a t' b t
  | _=>exact absurd (show false=true from fx) Bool.false_ne_true
 | str a =>
  obtain ⟨t',rfl⟩:=ry
  cases x with
  | non=>cases rx;exact SeqAt.EqAt.str_none a t'
  | bl b=>cases rx;exact SeqAt.EqAt.str_bool a t' b
  | int b=>obtain ⟨t,rfl⟩:=rx;exact SeqAt.EqAt.str_int a t' b t
  | str b=>obtain ⟨t,rfl⟩:=rx;exact SeqAt.EqAt.str_str a t' b t
  | _=>exact absurd (show false=true from fx) Bool.false_ne_true
 | _=>exact absurd (show false=true from fy) Bool.false_ne_true
def eqU(x:V)(u:Value):Bool:=match u with
 | .none=>eqV .non x
 | .bool b=>eqV (.bl b) x
 | .int i _=>eqV (.int i) x
 | .str z _=>eqV (.str z) x
 | _=>false
theorem zg7{x y:V}{u:Value}(r:ze y u)(f:zv y=true):eqU x u=eqV y x:=by
 cases y with
 | non=>cases r;rfl
 | bl b=>cases r;rfl
 | int i=>obtain ⟨t,rfl⟩:=r;rfl
 | str z=>obtain ⟨t,rfl⟩:=r;rfl
 | _=>exact absurd (show false=true from f) Bool.false_ne_true
theorem zfn{x:V}:∀{xs:List V}{us:List Value},zi xs us->xs.all zv=true->us.any (eqU x)=xs.any λy=>eqV y x
 | _,_,.nil,_=>rfl
 | y::xs,u::us,.cons r t,f=>by
  rw [List.all_cons,and_eq_true] at f
  rw [any_cons,any_cons,zg7 r f.1,zfn t f.2]
theorem zfM{A:Around}{s:Shared}{x:V}{v:Value}(rx:ze x v)(fx:zv x=true):∀{xs:List V}{us:List Value},zi xs us->xs.all zv=true->∀u∈us,SeqAt.EqAt A s u v (eqU x u)
 | _,_,.nil,_=>λu hu=>by cases hu
 | y::xs,u::us,.cons r t,f=>λu' hu=>by
  rw [List.all_cons,and_eq_true] at f
  rcases mem_cons.mp hu with rfl|hu
  ·rw [zg7 r f.1];exact zeL r rx f.1 fx
  ·exact zfM rx fx t f.2 u' hu
def inV(x:V)(xs:List V):Bool:=xs.any λy=>eqV y x
def rIn(K:PySem.W.Frag)(neg:Bool):R2:=λx y H Q=>∃p xs,y = .ref p/\(SqL K H p xs\/SqT K H p xs)/\zv x=true/\xs.all zv=true/\Q (.bl (if neg then !inV x xs else inV x xs)) H
theorem zmB:OpR X (compareOp .NotIn) (rIn X.K true):=by
 intro Ga s σ H x y v u Q I rx ry h
 obtain ⟨p,xs,rfl,hq,fx,fs,q⟩:=h
 cases ry
 rcases hq with hq|hq
 ·obtain ⟨its,r,pl,hz⟩:=I.list hq
  refine SeqAt.notIn_listAt (eqU x) pl.isList (λw hw=>zfM rx fx r fs w (by simpa using hw)) ⟨.bl _,H,I,rfl,?_⟩
  rw [show its.toArray.any (eqU x)=its.any (eqU x) by simp,zfn r fs]
  exact q
 ·obtain ⟨its,r,pl,hz⟩:=I.tuple hq
  refine SeqAt.notIn_tupleAt (eqU x) pl (λw hw=>zfM rx fx r fs w (by simpa using hw)) ⟨.bl _,H,I,rfl,?_⟩
  rw [show its.toArray.any (eqU x)=its.any (eqU x) by simp,zfn r fs]
  exact q
theorem zgC:zR X (.builtin "len") (λxs H Q=>∃p ys,xs=[.ref p]/\(SqL X.K H p ys\/SqT X.K H p ys)/\Q (.int ys.length) H):=by
 intro Ga s σ H xs us Q I r h
 obtain ⟨p,ys,rfl,hq,q⟩:=h
 obtain ⟨u,rfl,rx⟩:=zb1 r
 cases rx
 have hn:=zbT
 rcases hq with hq|hq
 ·obtain ⟨its,r',pl,hz⟩:=I.list hq
  have hlen:=r'.length
  exact Calls.call_len_list pl.isList (by simp only [size_toArray]<;>omega) ⟨.int ys.length,H,I.tok _,⟨s.toks+1,by rw [size_toArray,hlen]⟩,q⟩
 ·obtain ⟨its,r',pl,hz⟩:=I.tuple hq
  have hlen:=r'.length
  exact len_tuple pl (by simp only [size_toArray]<;>omega) ⟨.int ys.length,H,I.tok _,⟨s.toks+1,by rw [size_toArray,hlen]⟩,q⟩
theorem zrc:zR X (.builtin "len") (λxs H Q=>∃z,xs=[.str z]/\z.length<=sizeLine/\Q (.int z.length) H):=by
 intro Ga s σ H xs us Q I r h
 obtain ⟨z,rfl,hz,q⟩:=h
 obtain ⟨u,rfl,t,rfl⟩:=zb1 r
 have hn:=zbT
 exact len_str (by omega) ⟨.int z.length,H,I.tok _,⟨_,rfl⟩,q⟩
theorem zR.or{f:Value}{r r':List V->Hp->VK->Prop}(h:zR X f r)(h':zR X f r'):zR X f (λxs H Q=>r xs H Q\/r' xs H Q):=by
 intro Ga s σ H xs us Q I rs q
 rcases q with q|q
 ·exact h Ga s σ H xs us Q I rs q
 ·exact h' Ga s σ H xs us Q I rs q
def tyV(K:PySem.W.Frag)(T:String)(x:V)(H:Hp):Prop:=match x with
 | .str _=>T="str"
 | .int _=>T="int"
 | .ref p=>(T="list"/\∃xs,SqL K H p xs)\/(T="tuple"/\∃o,K.lookup p=some o/\o.cls = .type "tuple"/\o.dict=none) \/
   (T="dict"/\((∃kvs,H p=some (.dK kvs))\/∃kvs,H p=some (.dT kvs)))\/(T="set"/\∃S n,H p=some (.set S n))
 | _=>False
theorem zfB{Ga:List (Addr×Obj)}{σ:St}{H:Hp}{s:Shared}{T:String}{x:V}{v:Value}(I:Inv X Ga σ H s)(r:ze x v)(ty:tyV X.K T x H) :
  s.TypeIs v T/\∀a,v = .ref a->∃ob,s.heap.get? a=some ob/\ob.dict=none:=by
 cases x with
 | str z =>
  obtain ⟨t,rfl⟩:=r
  cases (show T="str" from ty)
  exact ⟨typeIs_str s z t,λ_ e=>nomatch e⟩
 | int i =>
  obtain ⟨t,rfl⟩:=r
  cases (show T="int" from ty)
  exact ⟨typeIs_int s i t,λ_ e=>nomatch e⟩
 | ref p =>
  cases r
  rcases ty with ⟨rfl,xs,hq⟩|⟨rfl,o,hk,hc,hd⟩|⟨rfl,hk⟩|⟨rfl,S,n,hk⟩
  ·obtain ⟨its,_,pl,_⟩:=I.list hq
   refine ⟨pl.isList.typeIs,λa e=>?_⟩
   cases e
   obtain ⟨o,n,e,c,hd,_⟩:=pl
   exact ⟨o,e,hd⟩
  ·refine ⟨⟨o,I.kIn p o hk,hc⟩,λa e=>?_⟩
   cases e
   exact ⟨o,I.kIn _ o hk,hd⟩
  ·have z:∃o,s.heap.get? p=some o/\o.ExactDict:=by
    rcases hk with ⟨kvs,hk⟩|⟨kvs,hk⟩
    ·obtain ⟨_,_,_,_,o,_,_,e,ex,_⟩:=I.hok p _ hk
     exact ⟨o,e,ex⟩
    ·obtain ⟨_,_,_,_,o,_,_,e,ex,_⟩:=I.hok p _ hk
     exact ⟨o,e,ex⟩
   obtain ⟨o,e,ex⟩:=z
   refine ⟨⟨o,e,ex.1⟩,λa e2=>?_⟩
   cases e2
   exact ⟨o,e,ex.2.1⟩
  ·obtain ⟨o,_,_,_,e,ex,_⟩:=I.hok p _ hk
   refine ⟨⟨o,e,ex.1⟩,λa e2=>?_⟩
   cases e2
   exact ⟨o,e,ex.2.1⟩
 | _=>exact False.elim ty
variable {o e:Expr}{es:List Expr}{to:TE}{t:TA}{name:Str}{apos cpos:Pos}{T id:String}{r:V->List V->Hp->VK->Prop}
end
def MtM(X:Cx)(id:String)(r:V->List V->Hp->VK->Prop):Prop :=
 ∀(Ga:List (Addr×Obj))(s:Shared)(σ:St)(H:Hp)(x:V)(xs:List V)(v:Value)(us:List Value)(Q:VK),Inv X Ga σ H s->ze x v->zi xs us->r x xs H Q ->
  wpAny (model X.prog X.w) X.A (call (.builtin id) (v::us)) (EP X Ga σ Q) X.xe s
theorem zi.one:∀{x:V}{us:List Value},zi [x] us->∃u,us=[u]/\ze x u
 | _,_,.cons r .nil=>⟨_,rfl,r⟩
theorem zi.eraseIdx:∀{xs:List V}{us:List Value}(i:Nat),zi xs us->zi (xs.eraseIdx i) (us.eraseIdx i)
 | _,_,_,.nil=>.nil
 | _,_,0,.cons _ t=>t
 | _,_,i+1,.cons r t=>.cons r (zi.eraseIdx i t)
theorem zi.rep{xs:List V}{us:List Value}(h:zi xs us):∀k:Nat,zi (replicate k xs).flatten (replicate k us).flatten
 | 0=>.nil
 | k+1=>by
  rw [replicate_succ,replicate_succ,flatten_cons,flatten_cons]
  exact zi.append h (zi.rep h k)
theorem zgK(its:List Value):∀(k:Nat)(acc:List Value),
  foldl (λx1 x2=>x1++x2) acc.toArray (replicate k its.toArray)=(acc++(replicate k its).flatten).toArray
 | 0,acc=>by simp
 | k+1,acc=>by
  have e:acc.toArray++its.toArray=(acc++its).toArray:=by simp
  have e2:(acc++its)++(replicate k its).flatten=acc++(replicate (k+1) its).flatten:=by
   rw [replicate_succ,flatten_cons,List.append_assoc]
  rw [<- e2,<- zgK its k (acc++its),<- e,replicate_succ,List.foldl_cons]
section
variable {X:Cx}{Ga:List (Addr×Obj)}{σ:St}{H:Hp}{s:Shared}{l b:Addr}{xs ys zs:List V}
theorem Inv.lset{its its':List Value}{n:Nat}{f:Array Value->Array Value}{t':Nat}(I:Inv X Ga σ H s)(hH:H l=some (.lst xs))
  (e:s.heap.get? l=some { cls:=.type "list",data:=.seq its.toArray n }) (hf:f its.toArray=its'.toArray) (hv:zi ys its') (hz:ys.length<=sizeLine) :
  Inv X Ga σ (upd H l (.lst ys)) { s with heap:=s.heap.update l (mapSeq f),toks:=t' }:=by
 have q:=PySem.IsL.update e f
 rw [hf] at q
 refine I.write (x:=l) (e:=l) (by rw [hH];exact trivial) (.inl rfl) (λb' u hb hu=>(get?_update_other s.heap (mapSeq f) (Ne.symm hb)).trans hu) ⟨_,q⟩ ?_
 exact ⟨hz,its',_,hv,q⟩
theorem Inv.lnew{its:List Value}{t':Nat}(I:Inv X Ga σ H s)(hv:zi ys its)(hz:ys.length<=sizeLine) :
  Inv X Ga σ (upd H s.heap.objs.size (.lst ys)) { s with heap:=s.heap.push { cls:=.type "list",data:=.seq its.toArray },toks:=t' } :=
 I.laid (λ_ _ q=>get?_push_of_some _ q) (Nat.le_refl _) ⟨hz,its,0,hv,get?_push_size _ rfl⟩
theorem Inv.fresh(I:Inv X Ga σ H s):H s.heap.objs.size=none:=I.hok.fresh (Nat.le_refl _)
theorem Inv.lstM(I:Inv X Ga σ H s)(hH:H l=some (.lst xs)):xs.length<=sizeLine/\∃(its:List Value)(n:Nat),zi xs its/\xs.length=its.length/\s.heap.get? l=some { cls:=.type "list",data:=.seq its.toArray n }:=by
 obtain ⟨z,its,n,r,e⟩:=I.hok l _ hH
 exact ⟨z,its,n,r,r.length,e⟩
theorem zhQ{n:Nat}(h:n<=sizeLine):Builtin.List.listTooLong n=false:=by
 unfold Builtin.List.listTooLong
 exact decide_eq_false (by omega)
end
section
variable {X:Cx}
def zrs:V->List V->Hp->VK->Prop:=λx vs H Q=>∃l xs y,x = .ref l/\vs=[y]/\H l=some (.lst xs)/\xs.length<sizeLine/\Q .non (upd H l (.lst (xs++[y])))
theorem zsH:MtM X "list.append" zrs:=by
 intro Ga s σ H x vs v us Q I rx rv h
 obtain ⟨l,xs,y,rfl,rfl,hH,hz,q⟩:=h
 cases rx
 obtain ⟨u,rfl,ru⟩:=rv.one
 obtain ⟨z,its,n,r,hl,e⟩:=I.lstM hH
 refine call_meets F.slot_list_append ⟨_,e,rfl⟩ F.entry_list_append (F.args_list_append_2 _ _) (PySem.list_append l its.toArray n u (by rw [size_toArray];omega)) ⟨e,?_⟩
 refine ⟨.non,_,I.lset (its':=its++[u]) hH e (by simp) (r.append (.cons ru .nil)) ?_,rfl,q⟩
 rw [length_append,List.length_singleton]
 omega
def zst:V->List V->Hp->VK->Prop:=λx vs H Q=>∃l b xs zs,x = .ref l/\vs=[.ref b]/\H l=some (.lst xs)/\H b=some (.lst zs)/\xs.length+zs.length<=sizeLine/\Q .non (upd H l (.lst (xs++zs)))
theorem zs7:MtM X "list.extend" zst:=by
 intro Ga s σ H x vs v us Q I rx rv h
 obtain ⟨l,b,xs,zs,rfl,rfl,hH,hB,hz,q⟩:=h
 cases rx
 obtain ⟨u,rfl,ru⟩:=rv.one
 cases ru
 obtain ⟨z,its,n,r,hl,e⟩:=I.lstM hH
 obtain ⟨z2,its2,n2,r2,hl2,e2⟩:=I.lstM hB
 have hsz:its.toArray.size+its2.toArray.size<=sizeLine:=by rw [size_toArray,size_toArray];omega
 have hlong : ¬ (!its.toArray.isEmpty&&Builtin.List.listTooLong (its.toArray.size+its2.toArray.size))=true:=by
  rw [zhQ hsz,Bool.and_false]
  exact Bool.false_ne_true
 refine call_meets F.slot_list_extend ⟨_,e,rfl⟩ F.entry_list_extend (F.args_list_extend_2 _ _)
  (AutoSeq1.list_extend_list_list_0 l its.toArray n b its2.toArray n2 hlong (by rw [size_toArray];omega) (by omega)) ⟨e,e2,?_⟩
 refine ⟨.non,_,I.lset (its':=its++its2) hH e (by simp) (r.append r2) ?_,rfl,q⟩
 rw [length_append]
 omega
def zrT:R2:=λx y H Q=>∃l b xs zs,x = .ref l/\y = .ref b/\H l=some (.lst xs)/\H b=some (.lst zs)/\xs.length+zs.length<=sizeLine/\∀p,H p=none->Q (.ref p) (upd H p (.lst (xs++zs)))
theorem zng:OpR X (binaryOp .Add) zrT:=by
 intro Ga s σ H x y v u Q I rx ry h
 obtain ⟨l,b,xs,zs,rfl,rfl,hH,hB,hz,q⟩:=h
 cases rx
 cases ry
 obtain ⟨z,its,n,r,hl,e⟩:=I.lstM hH
 obtain ⟨z2,its2,n2,r2,hl2,e2⟩:=I.lstM hB
 refine PySem.P.add_list e e2 ?_ (by rw [size_toArray,size_toArray];omega)
 have ea:its.toArray++its2.toArray=(its++its2).toArray:=by simp
 rw [ea]
 exact ⟨.ref _,_,I.lnew (t':=s.toks) (r.append r2) (by rw [length_append];omega),rfl,q _ I.fresh⟩
def znY:R2:=λx y H Q=>∃l k xs,x = .ref l/\y = .int k/\H l=some (.lst xs)/\-(2 ^ 63)<=k/\k<2 ^ 63/\xs.length*k.toNat<=sizeLine /\
 ∀p,H p=none->Q (.ref p) (upd H p (.lst (replicate k.toNat xs).flatten))
theorem zo9{α:Type}(xs:List α)(k:Nat):(replicate k xs).flatten.length=k*xs.length:=by
 induction k with
 | zero=>simp
 | succ k ih=>rw [replicate_succ,flatten_cons,length_append,ih,Nat.succ_mul,Nat.add_comm]
theorem zmW:OpR X (binaryOp .Mult) znY:=by
 intro Ga s σ H x y v u Q I rx ry h
 obtain ⟨l,k,xs,rfl,rfl,hH,h1,h2,hz,q⟩:=h
 cases rx
 obtain ⟨t,rfl⟩:=ry
 obtain ⟨z,its,n,r,hl,e⟩:=I.lstM hH
 have hlen:its.toArray.size*k.toNat<=sizeLine:=by rw [size_toArray,<- hl];exact hz
 have hcap : ¬ its.toArray.size*k.toNat>(2 ^ 63-1) / 8:=by
  have:(sizeLine:Nat)<=(2 ^ 63-1) / 8:=by decide
  omega
 have hfit : ¬ (!Builtin.List.listFitsIndex k)=true:=by
  rw [fitsIndex_both h1 h2]
  exact Bool.false_ne_true
 have hlong : ¬ Builtin.List.listTooLong (its.toArray.size*k.toNat)=true:=by
  rw [zhQ hlen]
  exact Bool.false_ne_true
 have hnew:foldl (λx1 x2=>x1++x2) #[] (replicate (if its.toArray.isEmpty=true then 0 else k.toNat) its.toArray)=(replicate k.toNat its).flatten.toArray:=by
  have f0:∀m:Nat,foldl (λx1 x2=>x1++x2) #[] (replicate m its.toArray)=(replicate m its).flatten.toArray:=λm=>by
   have:=zgK its m []
   rw [List.nil_append] at this
   exact this
  rw [f0]
  cases its with
  | nil=>simp
  | cons a r'=>rw [if_neg (by simp)]
 refine wpAny_binaryOp_repeat_ref (T:="list") (U:="int") (by decide) ⟨_,e,rfl⟩ (λs'=>typeIs_int s' k t) noFill_list_mul F.fills_int_mul F.slot_int_rmul repeat_list F.slot_int_index.lookup
  (call_meets F.slot_int_rmul (typeIs_int s k t) F.entry_int_rmul (F.args_int_rmul_2 _ _) (int___rmul___int_list k t l its.toArray n)
   ⟨e,rfl,⟨_,e,rfl⟩,call_meets F.slot_list_mul ⟨_,e,rfl⟩ F.entry_list_mul (F.args_list_mul_2 _ _) (AutoListH.list___mul___list_int_3 l its.toArray n k t hfit hcap hlong) ⟨e,?_⟩⟩)
 rw [hnew]
 exact ⟨.ref _,_,I.lnew (t':=s.toks) (r.rep k.toNat) (by rw [zo9,Nat.mul_comm];exact hz),rfl,q _ I.fresh⟩
end
section
variable {prog:Program}{w:World}{A:Around}{E:Value->Shared->Prop}{s:Shared}
end
section
variable {X:Cx}
end
end L2
namespace Att
open PySem PySem.W PySem.Calls PyProof.Rows
theorem zoJ{P:Params}{h:Heap}:∀(ns:List Int)(vs:List Value),WellAll P h vs (ns.map WData.int)->IntsAre vs ns:=by
 intro ns
 induction ns with
 | nil =>
  intro vs w
  rw [map_nil] at w
  cases w
  exact .nil
 | cons n ns ih =>
  intro vs w
  rw [map_cons] at w
  cases w with
  | cons a b =>
   cases a
   exact .cons _ _ (ih _ b)
theorem zk4{l:OpenLaw}{n:Nat}(hn:l.most=some n){P:Params}{h:Heap}{args:List WData}{vals:List Value}
  (hpre:l.row.toRowW.claim.pre args=true) (hwl:WellAll P h vals args) :
  ∃a vs ns,vals=[Value.ref a]/\args=[WData.list (ns.map WData.int)]/\h.get? a=some { cls:=.type "list",data:=.seq vs.toArray }/\IntsAre vs ns/\ns.length<=n:=by
 have hsh:WShape.hasAll [] args [.list .int]=true:=(pre_splitW hpre).1
 have hc:l.pre.holds [] { args:=args }=true:=(pre_splitW hpre).2
 obtain ⟨d,r,rfl,h1,h2⟩:=hasAllW_cons hsh
 obtain rfl:=hasAllW_nil h2
 obtain ⟨xs,rfl,h3⟩:=hasW_list h1
 obtain ⟨ns,rfl⟩:=items_int h3
 have hlen:ns.length<=n:=by
  unfold OpenLaw.pre at hc
  have h4:(WTm.not (.lt (.lit (.int (n:Int))) (.len (.arg 0)))).holds [] { args:=[.list (ns.map .int)] }=true:=by
   have h4:=(holds_andW hc).1
   rw [hn] at h4
   exact h4
  have h5:=condW_of h4 (w_not (w_lt w_lit (w_len_list (w_arg rfl))))
  rw [length_map] at h5
  refine Nat.le_of_not_lt λq=>?_
  have q':(n:Int)<((ns.length:Nat):Int):=by omega
  first
   | (rw [decide_eq_true q'] at h5;exact absurd h5 (by decide))
   | (simp at h5;omega)
 cases hwl with
 | cons w1 w2 =>
  cases w2
  cases w1 with
  | list ho hall=>exact ⟨_,_,ns,rfl,rfl,ho,zoJ ns _ hall,hlen⟩
theorem zrk(l:OpenLaw)(args:List WData):l.row.toRowW.claim.post args (.bool true) args=true :=
 postW_of (r:=l.row.toRowW) (X:=(true==true))
  (show WShape.has [] (.bool true) .bool=true by first|rfl|decide|simp [WShape.has,WShape.arms,WShape.armsAll])
  (show (WTm.eq .res (.lit (.bool true))).value [] { args:=args,res:=some (.bool true),after:=args }=some (.bool (true==true)) from w_eq_bool (w_res rfl) w_lit) rfl
theorem attach_call{l:OpenLaw}{n:Nat}{q:Program}{loose:List Str}{XP:(Str->Option Value)->Heap->Prop}{YP:World->Heap->Prop}{d:DefRec}
  (hn:l.most=some n) (hdf:d.params.defaults=[])
  (call:∀(w:World)(s₀ s₁:Shared)(mg mb:Str->Option Value)(fa:Addr)(o:Obj)(pm cd doc:Value)(a:Addr)(vs:List Value)(ns:List Int),
   Ground q loose [] XP w s₀ mg mb s₁.heap->YP w s₁.heap ->
   s₁.heap.get? fa=some o->o.data = .func (docDef d.name d.params d.body d.scope pm cd doc)->s₁.heap.CodeRec cd d.name->mg d.name=some (.ref fa) ->
   s₁.heap.get? a=some { cls:=.type "list",data:=.seq vs.toArray }->IntsAre vs ns->ns.length<=n->s₁.gens = #[] ->
   codeAny (model l.prog w) callerA (.call (.ref fa) ⟨[.ref a],[]⟩) (λr s'=>r = .ok (.ret (.bool true))/\OldK s₁.heap s'.heap/\s'.os=s₁.os/\AllBare s'.gens) s₁) :
  WalkO q loose XP YP l.row.toRowW d [] (λf vs=>PySem.call f vs):=by
 intro w s₀ s₁ mg mb G Y fa o pm cd doc dV kV ho hd hcd hD hmg hg args vals as hpre hlay hrd hwl hlo
 obtain rfl:dV = .none:=Dflts.none hD hdf
 obtain rfl:kV = .none:=Dflts.noKw hD
 obtain ⟨a,vs,ns,rfl,rfl,hobj,hints,hlen⟩:=zk4 hn hpre hwl
 refine enter_call (codeAny_mono (call w s₀ s₁ mg mb fa o pm cd doc a vs ns G Y ho (fd_plain hd) hcd hmg hobj hints hlen hg) λr s' hq=>?_)
 obtain ⟨rfl,h2,h3,h4⟩:=hq
 exact ⟨.inl ⟨.bool true,.bool true,[],rfl,λ_=>rfl,.bool true,zrk l _,λ_=>⟨List.Pairwise.nil,λ_ hm=>(nomatch hm)⟩⟩,h2,h3,h4⟩
section
variable {prog:Program}{w:World}{A:Around}{E:Value->Shared->Prop}{s:Shared}{K:Frag}
end
end Att
namespace L2
open PySem PySem.Spec PyProof.Rows
theorem zfx:∀{vs:List Value}{ns:List Int},IntsAre vs ns->zi (ns.map V.int) vs
 | _,_,.nil=>.nil
 | _,_,.cons n t h=>.cons ⟨t,rfl⟩ (zfx h)
def zfX(H:Hp):Prop:=∀b,H b=none\/∃o xs,H b=some (.frz o (.lst xs))
theorem zoD{P:Program}{w:World}{K:PySem.W.Frag}{mg mb:Str->Option Value}{CX:CXT}{k:Nat}{fa a:Addr}{fd:FuncData}{x:Str}{sp:Sp}{s₁:Shared}{vs:List Value}{ns:List Int}
  (KX:K.In s₁.heap) (hns:s₁.heap.Ns mainGlobals mg) (hb:s₁.heap.Ns builtinsNs mb) (hbb:∀x:Str,x≠"__name__"->mb x=bootBuiltins x) (hlim:s₁.heap.NoLimit) (hg:s₁.gens = #[])
  (ha:s₁.heap.get? a=some { cls:=.type "list",data:=.seq vs.toArray }) (hi:IntsAre vs ns) (hl:ns.length<=sizeLine) (hr:zw true k callerA)
  (F:∀base:Heap,K.In base->base.Ns mainGlobals mg->zr P w K mg base CX true k fa fd [x] sp) (hbind:∀(s:Shared)(u:Value),BindsTo s fd ⟨[u],[]⟩ [(x,u)])
  (hsp:∀H:Hp,zfX H->SqL K H a (ns.map V.int)->sp [.ref a] H (λv _=>v = .bl true) λ_ _ _=>False)
  (hCX:∀H e s',CX [] H s₁ (λ_ _ _=>False) e s'->False) :
  codeAny (model P w) callerA (.call (.ref fa) ⟨[.ref a],[]⟩) (λr s'=>r = .ok (.ret (.bool true))/\OldK s₁.heap s'.heap/\s'.os=s₁.os/\AllBare s'.gens) s₁:=by
 have rv:=zfx hi
 have lenV:=hi.length
 have core:∀H:Hp,zfX H->SqL K H a (ns.map V.int)->HOk P w H s₁.heap->(∀b,H b≠none->b=a)->(H a≠none->K.lookup a=none) ->
   codeAny (model P w) callerA (.call (.ref fa) ⟨[.ref a],[]⟩) (λr s'=>r = .ok (.ret (.bool true))/\OldK s₁.heap s'.heap/\s'.os=s₁.os/\AllBare s'.gens) s₁:=by
  intro H hO hS hok hA hK
  have base_of:∀{b:Addr}{o:Obj},s₁.heap.get? b=some o->H b=none->(zbj s₁.heap H).get? b=some o:=λe n=>zsk e n
  have noA:∀{b:Addr}{o:Obj}{es:Array DictEntry}{ep:Nat},s₁.heap.get? b=some o->o.data = .dict es ep->H b=none:=λ{b o es ep} e d=>by
   cases q:H b with
   | none=>rfl
   | some u =>
    have e':b=a:=hA b (by rw [q];simp)
    subst e'
    rw [ha] at e;cases e
    have d':Data.seq vs.toArray _=Data.dict es ep:=d
    cases d'
  have nsK:∀{b:Addr}{m:Str->Option Value},s₁.heap.Ns b m->(zbj s₁.heap H).Ns b m:=λ{b m} ⟨o,es,ep,e,d,r⟩=>⟨o,es,ep,base_of e (noA e d),d,r⟩
  have hKb:K.In (zbj s₁.heap H):=λb o e=>base_of (KX b o e) (by
   cases q:H b with
   | none=>rfl
   | some u =>
    have e':b=a:=hA b (by rw [q];simp)
    subst e'
    rw [hK (by rw [q];simp)] at e;cases e)
  have hM:Mod K mg (zbj s₁.heap H):=⟨hKb,nsK hns,⟨mb,nsK hb,hbb⟩,let ⟨mc,h1,h2⟩:=hlim;⟨mc,nsK h1,h2⟩⟩
  have e0:zch P w K mg (zbj s₁.heap H) callerA [] s₁ H:=⟨rfl,.inl rfl,hM,λb o e=>zjJ e,le_of_eq (zqs _ _),trivial,λb hb=>absurd (show b∈([]:List Addr) from hb) (by simp),hok,.of_eq hg⟩
  refine codeAny_mono ((F _ hKb (nsK hns)).run callerA [] s₁ H ⟨[.ref a],[]⟩ [.ref a] [.ref a] _ _ hr e0 (hbind s₁ (.ref a)) (.cons rfl .nil) (hsp H hO hS)) λr s' h=>?_
  cases r with
  | error e=>exact (hCX H e s' h).elim
  | ok fl =>
   cases fl with
   | next=>exact False.elim h
   | brk=>exact False.elim h
   | cont=>exact False.elim h
   | ret u =>
    obtain ⟨v,H',os,bare,un,hok',r',q⟩:=h
    have q':v = .bl true:=q
    subst q'
    obtain rfl:u=Value.bool true:=r'
    refine ⟨rfl,OldK.of_keep λb o e=>?_,os,bare⟩
    cases q:H b with
    | none=>exact un.keep b o e q (by intro z;exact absurd (show b∈([]:List Addr) from z) (by simp)) (by simp)
    | some u =>
     rcases hO b with z|⟨ob,xs,z⟩
     ·rw [q] at z;cases z
     ·have z2:=un.frzs b ob _ z
      obtain ⟨e1,_⟩:=hok b _ z
      obtain ⟨e2,_⟩:=hok' b _ z2
      rw [e] at e1;cases e1
      exact e2
 cases hk:K.lookup a with
 | some o =>
  have e:=KX a o hk
  rw [ha] at e
  cases e
  refine core (λ_=>none) (λ_=>.inl rfl) (.inr ⟨_,vs.toArray,_,hk,rfl,rfl,rfl,by rw [size_toArray,lenV];exact hl,by simpa using rv⟩) (λb u z=>by have z':(none:Option HO)=some u:=z;cases z') (λb z=>absurd rfl z) λz=>absurd rfl z
 | none =>
  refine core (λb=>if b=a then some (.frz { cls:=.type "list",data:=.seq vs.toArray } (.lst (ns.map V.int))) else none) (λb=>?_) (.inl (.inr ⟨{ cls:=.type "list",data:=.seq vs.toArray },if_pos rfl⟩)) (λb u z=>?_) (λb z=>?_) λ_=>hk
  ·by_cases hb:b=a
   ·exact .inr ⟨_,_,if_pos hb⟩
   ·exact .inl (if_neg hb)
  ·by_cases hb:b=a
   ·have z':=(if_pos hb).symm.trans z
    cases z'
    subst hb
    exact ⟨ha,by rw [length_map];exact hl,vs,_,rv,ha⟩
   ·have z':=(if_neg hb).symm.trans z
    cases z'
  ·by_cases hb:b=a
   ·exact hb
   ·exact absurd (if_neg hb) z
theorem walk_of{l:PySem.W.OpenLaw}{n k:Nat}{q:Program}{loose:List Str}{XP:(Str->Option Value)->Heap->Prop}{YP:World->Heap->Prop}{d:DefRec}{K:Params->PySem.W.Frag}{CX:World->CXT}{sp:World->Sp}{x:Str}
  (hn:l.most=some n) (hn2:n<=sizeLine) (hdf:d.params.defaults=[]) (hr:zw true k callerA)
  (hY:∀(w:World)(h:Heap),YP w h->(K w.params).In h)
  (F:∀(w:World)(mg:Str->Option Value)(fa:Addr)(h:Heap),(K w.params).In h->h.Ns mainGlobals mg->mg d.name=some (.ref fa) ->
   ∃fd:FuncData,(∀(s:Shared)(u:Value),BindsTo s fd ⟨[u],[]⟩ [(x,u)]) /\
    ∀base:Heap,(K w.params).In base->base.Ns mainGlobals mg->zr l.prog w (K w.params) mg base (CX w) true k fa fd [x] (sp w))
  (hsp:∀(w:World)(H:Hp)(a:Addr)(ns:List Int),ns.length<=n->zfX H->SqL (K w.params) H a (ns.map V.int)->sp w [.ref a] H (λv _=>v = .bl true) λ_ _ _=>False)
  (hCX:∀(w:World)(H:Hp)(s:Shared)(e:Value)(s':Shared),CX w [] H s (λ_ _ _=>False) e s'->False) :
  PySem.W.WalkO q loose XP YP l.row.toRowW d [] (λf vs=>PySem.call f vs):=by
 refine Att.attach_call hn hdf λw s₀ s₁ mg mb fa o pm cd doc a vs ns G Y ho hd hcd hmg hobj hints hlen hg=>?_
 have KX:=hY w _ Y
 obtain ⟨fd,hb,hF⟩:=F w mg fa _ KX G.T.g hmg
 exact zoD KX G.T.g G.T.b G.T.builtins G.T.nolimit hg hobj hints (Nat.le_trans hlen hn2) hr hF hb (λH hO hS=>hsp w H a ns hlen hO hS) λH e s'=>hCX w H s₁ e s'
def zbi(s:Stmt)(j:Nat):Stmt:=match s with
 | .ClassDef _ _ _ body _ _ _ _ _ _ _=>body.getD j (.Pass ⟨0,0,0,0⟩)
 | _=>.Pass ⟨0,0,0,0⟩
def zO(s:Stmt):Arguments:=match s with
 | .FunctionDef _ a _ _ _ _ _ _ _ _=>a
 | _=>{ posonlyargs:=[],args:=[],vararg:=none,kwonlyargs:=[],kw_defaults:=[],kwarg:=none,defaults:=[] }
def zL(s:Stmt):List Stmt:=match s with
 | .FunctionDef _ _ b _ _ _ _ _ _ _=>b
 | _=>[]
def zk(s:Stmt):Scope:=match s with
 | .FunctionDef _ _ _ _ _ _ sc _ _ _=>sc
 | _=>{ kind:=.function,names:=[],isGenerator:=false,isCoroutine:=false }
abbrev CX0:CXT:=λ_ _ _ _ _ _=>False
abbrev E0:XK:=λ_ _ _=>False
theorem zdM{X:Cx}:zb2 CX0 X E0:=λ_ _ _ _ _ _ _ h=>h.elim
structure Fun(K:PySem.W.Frag)(x qual:Str)(st:Stmt)(f:Addr)(fd:FuncData):Prop where
 ex:∃(oc:Value)(od:Option Addr)(kV doc pm:Value)(an:Option Addr)(cdv ct:Value)(osl:Array (Option Value)),
  fd=fnOf x qual (zO st) (zL st) (zk st) .none kV doc pm an cdv ct/\K.lookup f=some ⟨oc,od,.func fd,osl⟩/\codeIn K cdv qual=true
 kp:keepIn K (.ref f)=true
section
variable {P:Program}{w:World}{K:PySem.W.Frag}{mg:Str->Option Value}{base:Heap}
theorem Fun.ok{x qual:Str}{st:Stmt}{f:Addr}{fd:FuncData}{N ps:List Str}{cm:Bool}{k:Nat}{sp:Sp}(F:Fun K x qual st f fd)(S:zS N ps (zk st))(len:∀vs H Q E,sp vs H Q E->vs.length=ps.length)
  (hbody:∀(cdv:Value)(A:Around)(outer:List Env)(s:Shared)(H:Hp)(vs:List V)(Q:VK)(E:XK),zw cm k (A.deeper (envOfC qual (zk st) s.heap.objs.size f cdv))->sp vs H Q E ->
   ∃t,PSs (za5 CX0 cm P w K mg base N qual (zk st) f cdv A outer s H E).nox (zL st) t/\t { nx:=λ_ H'=>Q .non H',rt:=Q } (start N vs) H):zr P w K mg base CX0 cm (k+1) f fd ps sp:=by
 obtain ⟨oc,od,kV,doc,pm,an,cdv,ct,osl,rfl,lk,hcd⟩:=F.ex
 refine ziK lk hcd S len λA outer s H vs Q E hr hsp=>?_
 obtain ⟨t,h,q⟩:=hbody cdv A outer s H vs Q E hr hsp
 exact ⟨t,h.nox,q⟩
theorem Fun.binds{x qual:Str}{st:Stmt}{f:Addr}{fd:FuncData}{ps:List Str}(F:Fun K x qual st f fd)
  (h:∀(kV doc pm:Value)(an:Option Addr)(cdv ct:Value)(us:List Value),us.length=ps.length->bindArgs (fnOf x qual (zO st) (zL st) (zk st) .none kV doc pm an cdv ct) ⟨us,[]⟩=pure (ps.zip us)):zaH K fd ps []:=by
 obtain ⟨oc,od,kV,doc,pm,an,cdv,ct,osl,rfl,lk,hcd⟩:=F.ex
 exact .all (h kV doc pm an cdv ct)
theorem zW{x qual:Str}{st:Stmt}{f:Addr}{oc:Value}{od an:Option Addr}{osl:Array (Option Value)}{kV doc pm cdv ct:Value}(l:K.lookup f=some ⟨oc,od,.func (fnOf x qual (zO st) (zL st) (zk st) .none kV doc pm an cdv ct),osl⟩)
  (c:codeIn K cdv qual=true) (k:keepIn K (.ref f)=true):Fun K x qual st f (fnOf x qual (zO st) (zL st) (zk st) .none kV doc pm an cdv ct):=⟨⟨oc,od,kV,doc,pm,an,cdv,ct,osl,rfl,l,c⟩,k⟩
end
theorem zak{A:Around}{c:Bool}{k:Nat}(hr:zw c k A):A.units+1<cLine:=Nat.lt_of_le_of_lt (Nat.add_le_add_left (by decide:1<=64) _) hr.units
section
variable {X:Cx}
theorem pv(i:Nat){x:Str}{pos:Pos}(hN:X.N[i]?=some x:=by rfl)(hv:Vis X.env.scope x:=by first|exact Or.inl rfl|exact Or.inr (Or.inl rfl)|exact Or.inr (Or.inr rfl))(hd:(x==("__debug__":Str))=false:=by decide)
  (hcd:(x==("__classdict__":Str))=false:=by decide):PE X (.Name x pos) (zb5 i):=zro hN hv hd hcd
end
theorem ziy{A B:Prop}(h:B):if false=true then A else B:=by
 rw [if_neg Bool.false_ne_true]
 exact h
theorem zfD{A B:Prop}(h:A):if true=true then A else B:=by
 rw [if_pos rfl]
 exact h
theorem za7{c A B:Prop} [Decidable c] (h1:c->A) (h2 : ¬ c->B):if c then A else B:=by
 by_cases h:c
 ·rw [if_pos h]
  exact h1 h
 ·rw [if_neg h]
  exact h2 h
def zg(H H':Hp):Prop:=∀b o,H b=some o->H' b=some o
theorem zg.refl(H:Hp):zg H H:=λ_ _ h=>h
theorem zg.trans{H H1 H2:Hp}(a:zg H H1)(b:zg H1 H2):zg H H2:=λc o h=>b c o (a c o h)
theorem zg.free{H H':Hp}(e:zg H H'){l:Addr}(h:H' l=Option.none):H l=Option.none:=by
 cases q:H l with
 | none=>rfl
 | some o =>
  rw [e l o q] at h
  cases h
end L2
set_option maxHeartbeats 4000000
namespace L2
open PySem PySem.Spec PyProof.Rows
def zat(cells:List (Str×Addr)):List (Str×NameKind)->List (Str×Addr)->List (Str×Addr)
 | [],cs=>cs
 | (n,k)::r,cs=>zat cells r (if k == .free then (match cells.lookup n with|some c=>(n,c)::cs|none=>cs) else cs)
theorem zgQ{scope:Scope}{env:Env}(h:∀y∈scope.names,y.2 = .free->∃c,env.cells.lookup y.1=some c):closureFor scope env=pure (zat env.cells scope.names []):=by
 simp only [closureFor]
 have all:∀(l:List (Str×NameKind))(cs:List (Str×Addr)),(∀y∈l,y.2 = .free->∃c,env.cells.lookup y.1=some c) ->
   (forIn l cs λ(x:Str×NameKind)(r:List (Str×Addr))=>match x with|(name,kind)=>if (kind==NameKind.free)=true then do let a<-cellOf env name;pure (ForInStep.yield ((name,a)::r)) else pure (ForInStep.yield r):Sem (List (Str×Addr)))=pure (zat env.cells l cs):=by
  intro l
  induction l with
  | nil=>intro cs _;rfl
  | cons y r ih =>
   intro cs hy
   obtain ⟨n,k⟩:=y
   rw [List.forIn_cons]
   by_cases hk:k = .free
   ·subst hk
    obtain ⟨c,hc⟩:=hy (n,.free) mem_cons_self rfl
    have hc':env.cells.lookup n=some c:=hc
    simp only [cellOf,hc',zat,beq_self_eq_true,if_true]
    exact ih _ λz hz=>hy z (mem_cons_of_mem _ hz)
   ·have hb:(k==NameKind.free)=false:=by simpa using hk
    simp only [zat,hb,false_eq_true,if_false]
    exact ih _ λz hz=>hy z (mem_cons_of_mem _ hz)
 have e:=all scope.names [] h
 show (do let cs<-forIn scope.names [] _;pure cs)=_
 first
  | (rw [bind_pure];exact e)
  | exact e
  | (simpa using e)
theorem zd1{cells:List (Str×Addr)}:∀{l:List (Str×NameKind)}{cs:List (Str×Addr)}{x:Str}{c:Addr},(zat cells l cs).lookup x=some c->cs.lookup x=some c\/(cells.lookup x=some c/\(x,NameKind.free)∈l)
 | [],_,_,_,h=>.inl h
 | (n,k)::r,cs,x,c,h=>by
  unfold zat at h
  rcases zd1 h with h|⟨h1,h2⟩
  ·by_cases hk:k = .free
   ·subst hk
    simp only [beq_self_eq_true,if_true] at h
    cases e:cells.lookup n with
    | none=>rw [e] at h;exact .inl h
    | some c' =>
     rw [e] at h
     simp only [lookup_cons] at h
     by_cases hx:x=n
     ·subst hx
      simp only [beq_self_eq_true] at h
      cases h
      exact .inr ⟨e,mem_cons_self⟩
     ·have hb:(x==n)=false:=by simpa using hx
      rw [hb] at h
      exact .inl h
   ·have hb:(k==NameKind.free)=false:=by simpa using hk
    rw [hb] at h
    exact .inl h
  ·exact .inr ⟨h1,mem_cons_of_mem _ h2⟩
theorem zhD{cells:List (Str×Addr)}:∀{l:List (Str×NameKind)}{cs:List (Str×Addr)}{x:Str},(cs.lookup x).isSome=true->((zat cells l cs).lookup x).isSome=true
 | [],_,_,h=>h
 | (n,k)::r,cs,x,h=>by
  unfold zat
  refine zhD ?_
  split
  ·split
   ·simp only [lookup_cons]
    split
    ·rfl
    ·exact h
   ·exact h
  ·exact h
theorem zgX{cells:List (Str×Addr)}:∀{l:List (Str×NameKind)}{cs:List (Str×Addr)}{x:Str}{c:Addr},(x,NameKind.free)∈l->cells.lookup x=some c->((zat cells l cs).lookup x).isSome=true
 | (n,k)::r,cs,x,c,hm,hc=>by
  unfold zat
  rcases mem_cons.mp hm with e|hm
  ·cases e
   refine zhD ?_
   simp only [beq_self_eq_true,if_true,hc,lookup_cons]
   rfl
  ·exact zgX hm hc
def zb4(sc:Scope)(names:List (Str×NameKind))(N N':List Str)(ix:List (Option Nat)):Bool :=
 sc.kind == .function&&sc.names.all (λy=>y.2 != .cell&&(y.2 != .local||sc.names.lookup y.1==some .local)&&(y.2 != .free||(names.lookup y.1==some .cell&&sc.names.lookup y.1==some .free)) ) &&
 ix.length==N'.length&&(List.range ix.length).all (λi=>match ix.getD i none with
  | none=>true
  | some j=>(match N'[i]?,N[j]? with|some x,some y=>x==y&&sc.names.lookup x==some .free|_,_=>false))
def zaM(ix:List (Option Nat))(σ:St):St:=ix.map λo=>o.bind λj=>(σ[j]?).join
structure za1(X:Cx)(sc:Scope)(N':List Str)(ix:List (Option Nat)):Prop where
 kind:sc.kind = .function
 cell:∀y∈sc.names,y.2≠.cell
 names:∀y∈sc.names,y.2 = .local->sc.names.lookup y.1=some .local
 free:∀y∈sc.names,y.2 = .free->X.env.kindOf y.1=some .cell/\sc.names.lookup y.1=some .free
 len:ix.length=N'.length
 at_:∀(i j:Nat),ix[i]?=some (some j)->∃x,N'[i]?=some x/\X.N[j]?=some x/\sc.names.lookup x=some .free
theorem za1.of{X:Cx}{sc:Scope}{N':List Str}{ix:List (Option Nat)}(h:zb4 sc X.env.scope.names X.N N' ix=true):za1 X sc N' ix:=by
 unfold zb4 at h
 simp only [and_eq_true,all_eq_true] at h
 obtain ⟨⟨⟨h1,h2⟩,h3⟩,h4⟩:=h
 refine ⟨by simpa using h1,λy hy=>?_,λy hy hk=>?_,λy hy hk=>?_,by simpa using h3,λi j e=>?_⟩
 ·simpa using (h2 y hy).1.1
 ·have q:=(h2 y hy).1.2
  rw [hk] at q
  simpa using q
 ·have q:=(h2 y hy).2
  rw [hk] at q
  simp only [bne_self_eq_false,Bool.false_or,and_eq_true,beq_iff_eq] at q
  exact q
 ·have hi:i<ix.length:=(List.getElem?_eq_some_iff.mp e).1
  have:=h4 i (List.mem_range.mpr hi)
  have eg:ix.getD i none=some j:=by rw [getD_eq_getElem?_getD,e];rfl
  rw [eg] at this
  dsimp only at this
  cases e1:N'[i]? with
  | none=>rw [e1] at this;simp at this
  | some x =>
   cases e2:X.N[j]? with
   | none=>rw [e1,e2] at this;simp at this
   | some y =>
    rw [e1,e2] at this
    simp only [and_eq_true,beq_iff_eq] at this
    exact ⟨x,rfl,by rw [this.1],this.2⟩
def zI(X:Cx)(sc:Scope)(N':List Str)(Ga:List (Addr×Obj))(C:Addr)(fp:List Addr)(s:Shared)(H:Hp):Cx :=
 { X with N:=N',s₀:=s,H₀:=H,env:=compEnvC sc (zat X.env.cells sc.names []) C X.env,outer:=X.stack,stack:=X.stack,ex:=fp,fn:=λ_=>false,pn:=X.pn++Ga,xe:=λ_ _=>False }
theorem HOk.add{P:Program}{w:World}{H:Hp}{h:Heap}{D:Addr}{o:HO}(x:HOk P w H h)(hn:H D=none)(new:zQ P w (upd H D o) h D o):HOk P w (upd H D o) h:=λb u e=>by
 by_cases hb:b=D
 ·subst hb;rw [zx] at e;cases e;exact new
 ·rw [zh hb] at e
  exact (x b u e).stay (λ_ _ _ q=>q) (λc q=>by rw [zh (zT q hn)];exact q) λc xs q=>by rw [zh (zT q hn)];exact q
theorem HOk.but{P:Program}{w:World}{H:Hp}{h h':Heap}{C:Addr}(x:HOk P w H h)(hn:H C=none)(k:∀b u,b≠C->h.get? b=some u->h'.get? b=some u):HOk P w H h':=λb u e =>
 (x b u e).stay (λc v hc q=>k c v (by
  rcases hc with z|z
  ·rw [z];exact zT e hn
  ·exact zT z hn) q) (λ_ q=>q) λ_ _ q=>q
theorem zkX{sc:Scope}{env:Env}(hk:env.scope.kind = .function)(hf:∀y∈sc.names,y.2 = .free->env.kindOf y.1=some .cell) :
  ∀x,(relabel sc env).names.lookup x=(sc.names.lookup x).map λk=>if k == .free then .cell else k:=by
 intro x
 have em:(relabel sc env).names=sc.names.map λy=>(y.1,if y.2 == .free then NameKind.cell else y.2):=by
  show sc.names.map _=_
  refine List.map_congr_left λy hy=>?_
  obtain ⟨n,k⟩:=y
  by_cases hk':k = .free
  ·subst hk'
   have e:env.kindOf n=some .cell:=hf (n,.free) hy rfl
   simp [hk,e]
  ·have hb:(k==NameKind.free)=false:=by simpa using hk'
   simp [hb]
 rw [em]
 generalize sc.names=l
 induction l with
 | nil=>rfl
 | cons y r ih =>
  obtain ⟨n,k⟩:=y
  simp only [map_cons,lookup_cons]
  cases x==n with
  | true=>rfl
  | false=>exact ih
section
variable {X:Cx}{sc:Scope}{N':List Str}{ix:List (Option Nat)}
theorem zoC{σ:St}{i:Nat}{v:V}(h:(zaM ix σ)[i]?=some (some v)):∃j,ix[i]?=some (some j)/\σ[j]?=some (some v):=by
 unfold zaM at h
 rw [getElem?_map] at h
 cases e:ix[i]? with
 | none=>rw [e] at h;cases h
 | some o =>
  rw [e] at h
  have h':(o.bind λj=>(σ[j]?).join)=some v:=Option.some.inj h
  cases o with
  | none=>cases h'
  | some j =>
   have h'':(σ[j]?).join=some v:=h'
   cases e2:σ[j]? with
   | none=>rw [e2] at h'';cases h''
   | some z =>
    rw [e2] at h''
    have:z=some v:=h''
    exact ⟨j,rfl,by rw [e2,this]⟩
theorem zhz{Ga:List (Addr×Obj)}{σ:St}{H:Hp}{s:Shared}{fp:List Addr}{h₁:Heap}{C:Addr}{tk:Nat}{m:Str->Option Value}(I:Inv X Ga σ H s)(L:za1 X sc N' ix)(f:∀b∈fp,zV X Ga H b)(fl:∀b∈fp,b<s.heap.objs.size)
  (hC:s.heap.objs.size<=C) (hns:h₁.Ns C m) (old:∀b o,s.heap.get? b=some o->h₁.get? b=some o) :
  Inv (zI X sc N' Ga C fp s H) [] (zaM ix σ) H { s with heap:=h₁,toks:=tk }:=by
 have cof:∀x c,(zat X.env.cells sc.names []).lookup x=some c->X.env.cells.lookup x=some c/\(x,NameKind.free)∈sc.names:=λx c h=>by
  rcases zd1 h with h|h
  ·cases h
  ·exact h
 have rl:=zkX (sc:=sc) (env:=X.env) I.ok.kind λy hy hk=>(L.free y hy hk).1
 have chas:∀x,sc.names.lookup x=some .free->∃c,(zat X.env.cells sc.names []).lookup x=some c/\X.env.cells.lookup x=some c:=λx hx=>by
  have hm:(x,NameKind.free)∈sc.names:=PySem.mem_of_lookup hx
  obtain ⟨c,hc⟩:=I.ok.has x (.inl (L.free _ hm rfl).1)
  obtain ⟨c',hc'⟩:=isSome_iff_exists.mp (zgX (cs:=[]) hm hc)
  exact ⟨c',hc',(cof x c' hc').1⟩
 refine ⟨⟨I.ok.mod,L.kind,I.ok.glob,I.ok.blt,hC,λx y c h1 h2=>I.ok.inj x y c (cof x c h1).1 (cof y c h2).1,λx hx=>?_,λx c h=>(nomatch h),I.ok.hd,I.ok.frames,.inl rfl,λb hb=>⟨ne_of_lt (Nat.lt_of_lt_of_le (fl b hb) hC),λx c h=>(f b hb).2.2.2.2.1 x c (cof x c h).1⟩,
   I.bs,Nat.le_trans I.ok.bsz I.sz,λb o e hb=>?_,λb hb z=>?_,I.stack,I.stkFree⟩,rfl,I.bare,Un.kept old,⟨m,hns,λi x v e1 e2 e3=>?_⟩,λx c h=>?_,I.hok.fresh hC,λx c h=>I.freeC x c (cof x c h).1,λp hp=>?_,I.hok.kept old,?_,I.hdk⟩
 ·have hx':(relabel sc X.env).names.lookup x=some .cell\/(relabel sc X.env).names.lookup x=some .free:=hx
  rw [rl x] at hx'
  cases e:sc.names.lookup x with
  | none=>rw [e] at hx';simp at hx'
  | some k =>
   have hk:k = .free:=by
    cases k with
    | free=>rfl
    | cell=>exact absurd rfl (L.cell _ (PySem.mem_of_lookup e))
    | _=>rw [e] at hx';revert hx';decide
   subst hk
   obtain ⟨c,h1,_⟩:=chas x e
   exact ⟨c,h1⟩
 ·rcases (f b hb).2.2.2.1 with z|z
  ·exact I.ok.noex b o e z
  ·exact absurd (Nat.lt_of_lt_of_le (lt_size (I.ok.bs b o e).1) z) (lt_irrefl _)
 ·rcases mem_cons.mp (I.stkSub b z) with e|e
  ·exact (f b hb).2.1 e
  ·exact (f b hb).2.2.1 e
 ·obtain ⟨j,hj,hv⟩:=zoC e2
  obtain ⟨y,n1,n2,n3⟩:=L.at_ i j hj
  have exy:x=y:=Option.some.inj ((show N'[i]?=some x from e1).symm.trans n1)
  subst exy
  obtain ⟨c,c1,c2⟩:=chas x n3
  have kf:=(L.free _ (PySem.mem_of_lookup n3) rfl).1
  obtain ⟨m0,hn0,hl⟩:=I.loc
  obtain ⟨u,r,l⟩:=hl j x v n2 hv (.inr (.inl kf))
  refine ⟨u,r,.inr ⟨.inl ?_,c,c1,?_⟩⟩
  ·show (relabel sc X.env).names.lookup x=some .cell
   rw [rl x,n3];rfl
  ·rcases l with ⟨hk,_⟩|⟨_,c',hc',z⟩
   ·have kf':X.env.kindOf x=some .cell:=kf
    rw [hk] at kf';cases kf'
   ·rw [c2] at hc'
    cases hc'
    obtain ⟨oc,ho,hd⟩:=z
    exact ⟨oc,old _ _ ho,hd⟩
 ·obtain ⟨v,oc,ho,hd⟩:=I.cell x c (cof x c h).1
  exact ⟨v,oc,old _ _ ho,hd⟩
 ·have hp':p∈X.pn++Ga:=by
   have:p∈(X.pn++Ga)++[]:=hp
   simpa using this
  obtain ⟨a,b,c,d,e⟩:=I.pin p hp'
  exact ⟨old _ _ a,b,ne_of_lt (Nat.lt_of_lt_of_le (lt_size a) hC),λz=>(mem_cons.mp (I.stkSub p.1 z)).elim c d,e⟩
 ·show (zaM ix σ).length=N'.length
  unfold zaM
  rw [length_map,L.len]
end
def PTs(X:Cx)(ifs:List Expr)(t:TT):Prop :=
 ∀(Ga:List (Addr×Obj))(s:Shared)(σ:St)(H:Hp)(Q:Bool->Hp->Prop),Inv X Ga σ H s->t σ H Q ->
  wpAny (model X.prog X.w) X.A (forIn ifs true λc r=>if r=true then do let ok<-isTrue c X.env (eval c X.env);pure (ForInStep.yield ok) else pure (ForInStep.yield r)) (TP X Ga σ Q) X.xe s
def ze0:TT:=λ_ H Q=>Q true H
theorem zsL{X:Cx}:PTs X [] ze0:=λ_ _ _ H _ I h=>wpAny_tests_nil ⟨H,I,h⟩
theorem zot{prog:Program}{w:World}{A:Around}{R:Result->Shared->Prop}{s:Shared}{elt target iter:Expr}{ifs:List Expr}{scope:Scope}{pos:Pos}{it acc:Value}{env:Env}(I:Nat->Shared->Prop)
  (turn:∀n s,I n s->wpAny (model prog w) A (pyNext it) (λr s₁=>match r with
   | none=>R (.ok .next) s₁
   | some v=>wpAny (model prog w) A (letOwnedTupleGo target it v) (λ_ s₁'=>wpAny (model prog w) A (assign target env v) (λ_ s₂ =>
     wpAny (model prog w) A (forIn ifs true λc r=>if r=true then do let ok<-isTrue c env (eval c env);pure (ForInStep.yield ok) else pure (ForInStep.yield r)) (λok s₃ =>
      if ok=true then wpAny (model prog w) A (eval elt env) (λx s₄ =>
       wpAny (model prog w) A (call (.builtin "list.append") [acc,x]) (λ_ s₅=>∃m,m<n/\I m s₅) (λ_ _=>False) s₄) (λ_ _=>False) s₃
      else ∃m,m<n/\I m s₃) (λ_ _=>False) s₂) (λ_ _=>False) s₁') (λ_ _=>False) s₁) (λ_ _=>False) s)
  (n:Nat) (h:I n s):codeAny (model prog w) A (.compLoop (.ListComp elt [⟨target,iter,ifs,0⟩] scope pos) 0 it acc env) R s:=by
 refine codeAny_loop rfl I (λn s hI=>?_) n h
 show wpAny _ A ((compTurn (.ListComp elt [⟨target,iter,ifs,0⟩] scope pos) 0 it acc env).onRaise (λx=>do noteFrame x env;theTreesLotGoes x)) _ _ s
 refine wpAny_noted (wpAny_mono (E:=λ_ _=>False) ?_ (λ_ _ q=>q) λ_ _ z=>z.elim)
 rw [compTurn_list]
 refine wpAny_bind (wpAny_standAt (wpAny_bind (wpAny_mono (turn n s hI) (λr s₁ h₁=>?_) λ_ _ h'=>h')))
 cases r with
 | none=>exact wpAny_pure h₁
 | some v =>
  refine wpAny_bind (wpAny_mono h₁ (λ_ s₁' h₁'=>?_) λ_ _ h'=>h')
  refine wpAny_bind (wpAny_mono h₁' (λ_ s₂ h₂=>wpAny_bind (wpAny_mono h₂ (λok s₃ h₃=>?_) λ_ _ h'=>h')) λ_ _ h'=>h')
  cases ok with
  | false=>exact wpAny_pure ⟨rfl,h₃⟩
  | true=>exact wpAny_bind (wpAny_bind (wpAny_mono h₃ (λx s₄ h₄=>wpAny_bind (wpAny_mono h₄ (λ_ s₅ h₅=>wpAny_pure (wpAny_pure ⟨rfl,h₅⟩)) λ_ _ h'=>h')) λ_ _ h'=>h'))
def tLC(ix:List (Option Nat))(wi:TI)(g:TG)(tt:TT)(te:TE):TE:=λσ H Q=>wi σ H λJ H1=>∃W:Nat->Nat->St->List V->Hp->Prop,(∃m,W 0 m (zaM ix σ) [] H1)/\∀i m τ ys H2,W i m τ ys H2->ys.length<sizeLine /\
 ((J.stop i H2 ∧ ∀ D, H2 D = none → D ≠ sysModules → Q (.ref D) (upd H2 D (.lst ys))) ∨
  (J.go i H2 ∧ ∀ x H3, J.yld i H2 x H3 → g x τ H3 fun τ1 H4 => tt τ1 H4 fun ok H5 => if ok = true then te τ1 H5 fun y H6 => ∃ m', m' < m ∧ W (i + 1) m' τ1 (ys ++ [y]) H6 else ∃ m', m' < m ∧ W (i + 1) m' τ1 ys H5))
theorem zkV{c:Bool}{X:Cx}{elt tg iter:Expr}{ifs:List Expr}{sc:Scope}{pos:Pos}{N':List Str}{ix:List (Option Nat)}{wi:TI}{g:TG}{tt:TT}{te:TE}(hc:c=true->X.calm=true)(L:za1 X sc N' ix)(hi:PIc c X tg iter wi)
  (hg:∀Ga C fp s H,PG (zI X sc N' Ga C fp s H) tg g) (ht:∀Ga C fp s H,PTs (zI X sc N' Ga C fp s H) ifs tt) (he:∀Ga C fp s H,PE (zI X sc N' Ga C fp s H) elt te)
  (hs:∀x,foldedSetIterable iter X.env x=pure x:=by intro _;rfl):PE X (.ListComp elt [⟨tg,iter,ifs,0⟩] sc pos) (tLC ix wi g tt te):=by
 intro Ga s σ H Q I h
 rw [eval_ListComp]
 have hclos:closureFor sc X.env=pure (zat X.env.cells sc.names []):=zgQ λy hy hk=>I.ok.has y.1 (.inl (L.free y hy hk).1)
 refine wpAny_comprehension_free (use:=none) rfl hs hclos L.kind L.names (thn (hi Ga s σ H _ I h) λv s1 h1=>thn h1 λitv s2 h2=>?_)
 obtain ⟨it,fp,tn,J,H2,e,I2,T,st2,f2,W,⟨m0,w0⟩,turn⟩:=h2
 subst e
 refine wpAny_newObj_type (wpAny_newFunctionEnv L.cell (by intro y hy;simp at hy) (λh₁ hns₁ hsb₁=>?_) L.kind)
 dsimp only at hns₁ hsb₁ ⊢
 generalize hH2:s2.heap.push { cls:=.type "list",dict:=none,data:=.seq ([]:List Value).toArray }=G2 at hns₁ hsb₁ ⊢
 have hC:G2.objs.size=s2.heap.objs.size+1:=by rw [<- hH2,size_push]
 have hDC:s2.heap.objs.size≠G2.objs.size:=by rw [hC];exact ne_of_lt (lt_succ_self _)
 have hCle:s2.heap.objs.size<=G2.objs.size:=by rw [hC];exact le_succ _
 have below:∀b,b<s2.heap.objs.size->b≠G2.objs.size/\b≠s2.heap.objs.size:=λb hb=>⟨by rw [hC];exact ne_of_lt (lt_succ_of_lt hb),ne_of_lt hb⟩
 have old:∀b o,s2.heap.get? b=some o->h₁.get? b=some o:=λb o e=>hsb₁.extBut b o (below b (lt_size e)).1 (get?_push_of_some _ (hH2 ▸ get?_push_of_some _ e))
 have hacc:h₁.get? s2.heap.objs.size=some { cls:=.type "list",data:=.seq ([]:List Value).toArray 0 }:=hsb₁.extBut _ _ hDC (get?_push_of_some _ (hH2 ▸ get?_push_size _ rfl))
 have fl:∀b∈fp,b<s2.heap.objs.size:=λb hb=>by
  obtain ⟨o,e,_⟩:=T.obj 0 _ st2 b hb
  exact lt_size e
 have hDfp:s2.heap.objs.size∉fp:=λz=>lt_irrefl _ (fl _ z)
 generalize hD:s2.heap.objs.size=D at *
 generalize hCe:G2.objs.size=C at *
 have cof:∀x c,(zat X.env.cells sc.names []).lookup x=some c->X.env.cells.lookup x=some c:=λx c h=>by
  rcases zd1 h with h|h
  ·cases h
  ·exact h.1
 have st1:tn 0 h₁:=T.keep _ _ _ st2 λb _ o e=>old b o e
 have I3:Inv (zI X sc N' Ga C fp s2 H2) [] (zaM ix σ) H2 { s2 with heap:=h₁,toks:=s2.toks+([]:List (Str×Value)).length }:=zhz I2 L f2 (λb hb=>by rw [hD];exact fl b hb) (by rw [hD];exact hCle) hns₁ old
 have D0:H2 D=none:=I2.hok.fresh (le_of_eq hD)
 have fD:∀{H':Hp},H' D=none->zV (zI X sc N' Ga C fp s2 H2) [] H' D:=λ{H'} hn=>by
  refine ⟨hn,hDC,λz=>?_,.inr (le_of_eq hD),λx c hx z=>?_,λp hp z=>?_⟩
  ·obtain ⟨_,o,ho,_⟩:=I2.stack.mem (show D∈frs X.stack from z)
   exact absurd (lt_size ho) (by rw [hD];exact lt_irrefl _)
  ·obtain ⟨v,q⟩:=I2.cell x c (cof x c hx)
   have:=q.lt
   rw [z,hD] at this
   exact lt_irrefl _ this
  ·have hp':p∈X.pn++Ga:=by
    have:p∈(X.pn++Ga)++[]:=hp
    simpa using this
   have:=lt_size (I2.pin p hp').1
   rw [z,hD] at this
   exact lt_irrefl _ this
 have fF:∀{H':Hp},(∀b∈fp,H' b=none)->∀b∈fp,zV (zI X sc N' Ga C fp s2 H2) [] H' b:=λ{H'} hn b hb=>by
  obtain ⟨_,g1,g2,g3,g4,g5⟩:=f2 b hb
  refine ⟨hn b hb,(below b (fl b hb)).1,λz=>?_,.inl hb,λx c hx=>g4 x c (cof x c hx),λp hp=>g5 p ?_⟩
  ·rcases mem_cons.mp (I2.stkSub b z) with e|e
   ·exact g1 e
   ·exact g2 e
  ·have:p∈(X.pn++Ga)++[]:=hp
   simpa using this
 have loop:∀s₃:Shared,s₃={ s2 with heap:=h₁,toks:=s2.toks+([]:List (Str×Value)).length } ->
   codeAny (model X.prog X.w) X.A (.compLoop (.ListComp elt [⟨tg,iter,ifs,0⟩] sc pos) 0 (.ref it) (.ref D) (compEnvC sc (zat X.env.cells sc.names []) C X.env))
    (compPost (model X.prog X.w) X.A X.xe none (EP X Ga σ Q) (.ref D) C) s₃:=by
  rintro s₃ rfl
  refine zot (λn s'=>∃i τ ys H',Inv (zI X sc N' Ga C fp s2 H2) [] τ H' s'/\tn i s'.heap/\(∀b∈fp,H' b=none)/\H' D=none/\(∃its k,zi ys its/\s'.heap.get? D=some { cls:=.type "list",data:=.seq its.toArray k })/\W i n τ ys H')
   ?_ m0 ⟨0,_,[],H2,I3,st1,λb hb=>(f2 b hb).1,D0,⟨[],0,.nil,hacc⟩,w0⟩
  rintro n s4 ⟨i,τ,ys,H4,I4,st4,fr4,dn4,⟨its,k,rv,dg⟩,w4⟩
  obtain ⟨hlen,step⟩:=turn i n τ ys H4 w4
  rcases step with ⟨stop,fin⟩|⟨go,step⟩
  ·refine thn (T.done (zI X sc N' Ga C fp s2 H2) rfl rfl rfl hc i [(D,({ cls:=.type "list",data:=.seq its.toArray k }:Obj))] s4 τ H4 (λ_ _=>False) (I4.pins_of λp hp=>?_) (λb hb=>?_) st4 stop) λr s5 ⟨hr,I5⟩=>?_
   ·have e:p=(D,{ cls:=.type "list",data:=.seq its.toArray k }):=by simpa using hp
    subst e
    obtain ⟨g0,g1,g2,_⟩:=fD dn4
    exact ⟨dg,g0,g1,g2,λv z=>(nomatch z)⟩
   ·obtain ⟨g0,g1,g2,g3,g4,g5⟩:=fF fr4 b hb
    refine ⟨g0,g1,g2,g3,g4,λp hp=>?_⟩
    rcases mem_append.mp hp with z|z
    ·exact g5 p (mem_append_left _ z)
    ·have e:p=(D,{ cls:=.type "list",data:=.seq its.toArray k }):=by simpa using z
     subst e
     exact λq=>hDfp (by have q':D=b:=q;rw [q'];exact hb)
   ·subst hr
    have dg5:=(I5.pin (D,_) (mem_append_right _ (mem_singleton.mpr rfl))).1
    obtain ⟨m5,hn5,_⟩:=id I5.loc
    refine ⟨m5,hn5,λh' hsb=>?_⟩
    have kb:∀b u,b≠C->s5.heap.get? b=some u->h'.get? b=some u:=λb u hb e=>(hsb.2 b hb).trans e
    have hlt:∀b o,s2.heap.get? b=some o->b≠C/\b≠D:=λb o e=>by
     have:=lt_size e
     rw [hD] at this
     exact below b this
    have U:=I5.base
    refine ⟨.ref D,upd H4 D (.lst ys),I2.call' (s':={ s5 with heap:=h' }) (ch:=fp) I5.os ⟨λb o e n hb hx=>kb b o (hlt b o e).1 (U.keep b o e n hb hx),λb o e n hb hx=>?_,λb o e n hx=>?_,λb o e hx=>?_,λb xs e=>?_,λb o u e=>?_,λb ps e=>?_⟩ ?_ I5.bare (λb hb=>?_),rfl,fin D dn4 (by have h:mainGlobals<s2.heap.objs.size:=(I2.mod.glob.keeps I2.bk).lt;rw [hD] at h;exact ne_of_gt (lt_trans (by decide) h))⟩
    ·obtain ⟨sl,q⟩:=U.slot b o e n hb hx
     exact ⟨sl,kb b _ (hlt b o e).1 q⟩
    ·rw [zh (hlt b o e).2]
     exact U.free b o e n hx
    ·obtain ⟨o',q⟩:=U.there b o e hx
     exact ⟨o',kb b _ (hlt b o e).1 q⟩
    ·have q:=U.tups b xs e
     rw [zh (zT q dn4)]
     exact q
    ·have q:=U.frzs b o u e
     rw [zh (zT q dn4)]
     exact q
    ·obtain ⟨more,q⟩:=U.tbls b ps e
     exact ⟨more,by rw [zh (zT q dn4)];exact q⟩
    ·refine (I5.hok.but I5.free kb).add dn4 ?_
     exact ⟨Nat.le_of_lt hlen,its,k,rv,kb _ _ hDC dg5⟩
    ·obtain ⟨_,g1,g2,g3,g4,g5⟩:=f2 b hb
     exact ⟨g3,g1,g4,g5⟩
  ·refine thn (T.item (zI X sc N' Ga C fp s2 H2) rfl rfl rfl hc i [(D,({ cls:=.type "list",data:=.seq its.toArray k }:Obj))] s4 τ H4 (λ_ _=>False) (I4.pins_of λp hp=>?_) (λb hb=>?_) st4 go) λr s5 ⟨u,hr,h5⟩=>?_
   ·have e:p=(D,{ cls:=.type "list",data:=.seq its.toArray k }):=by simpa using hp
    subst e
    obtain ⟨g0,g1,g2,_⟩:=fD dn4
    exact ⟨dg,g0,g1,g2,λv z=>(nomatch z)⟩
   ·obtain ⟨g0,g1,g2,g3,g4,g5⟩:=fF fr4 b hb
    refine ⟨g0,g1,g2,g3,g4,λp hp=>?_⟩
    rcases mem_append.mp hp with z|z
    ·exact g5 p (mem_append_left _ z)
    ·have e:p=(D,{ cls:=.type "list",data:=.seq its.toArray k }):=by simpa using z
     subst e
     exact λq=>hDfp (by have q':D=b:=q;rw [q'];exact hb)
   ·subst hr
    refine thn h5 λ_ s6 ⟨x,H6,I6,r6,y6,st6,fr6⟩=>?_
    obtain ⟨dg6,dn6,_⟩:=I6.pin (D,_) (mem_append_right _ (mem_singleton.mpr rfl))
    have dn6':H6 D=none:=dn6
    have all6:∀b∈D::fp,zV (zI X sc N' Ga C fp s2 H2) [] H6 b:=λb hb=>by
     rcases mem_cons.mp hb with z|z
     ·subst z;exact fD dn6'
     ·exact fF fr6 b z
    have obj6:∀b∈D::fp,∃o,s6.heap.get? b=some o/\∀v,o.data≠.cell v:=λb hb=>by
     rcases mem_cons.mp hb with z|z
     ·subst z;exact ⟨_,dg6,λv q=>(nomatch q)⟩
     ·exact T.obj _ _ st6 b z
    have I6':=(I6.unpinned (Ga:=[])).pinned all6 obj6
    refine thn (hg Ga C fp s2 H2 _ s6 τ H6 x u _ I6' r6 (step x H6 y6)) λ_ s7 ⟨τ7,H7,I7,q7⟩=>?_
    refine thn (ht Ga C fp s2 H2 _ s7 τ7 H7 _ I7 q7) λok s8 ⟨H8,I8,q8⟩=>?_
    have back:∀{s9:Shared}{H9:Hp},Inv (zI X sc N' Ga C fp s2 H2) ([]++zcc (D::fp) s6.heap) τ7 H9 s9->s9.heap.get? D=some { cls:=.type "list",data:=.seq its.toArray k }/\H9 D=none/\tn (i+1) s9.heap/\∀b∈fp,H9 b=none:=λ{s9 H9} I9=>by
     have pin:∀b o,b∈D::fp->s6.heap.get? b=some o->s9.heap.get? b=some o/\H9 b=none:=λb o hb e=>by
      have q:=I9.pin (b,o) (mem_append_right _ (mem_append_right _ (zcu hb e)))
      exact ⟨q.1,q.2.1⟩
     refine ⟨(pin D _ mem_cons_self dg6).1,(pin D _ mem_cons_self dg6).2,T.keep _ _ _ st6 λb hb o e=>(pin b o (mem_cons_of_mem _ hb) e).1,λb hb=>?_⟩
     obtain ⟨o,e,_⟩:=T.obj _ _ st6 b hb
     exact (pin b o (mem_cons_of_mem _ hb) e).2
    cases ok with
    | false =>
     obtain ⟨b1,b2,b3,b4⟩:=back I8
     simp only [false_eq_true,if_false] at q8 ⊢
     obtain ⟨m',hm,w'⟩:=q8
     exact ⟨m',hm,i+1,τ7,ys,H8,I8.unpinned,b3,b4,b2,⟨its,k,rv,b1⟩,w'⟩
    | true =>
     simp only [if_true] at q8 ⊢
     refine thn (he Ga C fp s2 H2 _ s8 τ7 H8 _ I8 q8) λy s9 ⟨yv,H9,I9,r9,m',hm,w'⟩=>?_
     obtain ⟨b1,b2,b3,b4⟩:=back I9
     have el:its.toArray.size<=sizeLine:=by
      have:=rv.length
      simp only [size_toArray]
      omega
     refine append_at (hsz:=el) b1 λh10 sb hD10=>?_
     obtain ⟨_,g1,_,g3,g4,g5⟩:=fD b2
     refine ⟨m',hm,i+1,τ7,ys++[yv],H9,(I9.unpinned (Ga:=[])).turned (t':=s9.toks) (λb o hb e=>(sb.2 b hb).trans e) b2 g1 g3 g4 g5,T.keep _ _ _ b3 λb hb o e=>(sb.2 b λq=>hDfp (by rw [<- q];exact hb)).trans e,b4,b2,⟨its++[y],k+1,rv.append (.cons r9 .nil),?_⟩,w'⟩
     show h10.get? D=_
     rw [hD10]
     simp
 exact codeAny_compStart_list (loop _ rfl) (T.self _ 0 _ _ _ st1 (loop _ rfl))
structure zan(B:Heap)(l:List Env)(e:Addr)(cls fl:Value)(h:Heap):Prop where
 stays:B.StaysIn h
 new:B.get? e=none
 frames:h.FunFrames B l
 obj:∃oe vs,h.get? e=some oe/\oe.cls=cls/\oe.dict=none/\oe.data = .fields vs/\2<vs.size/\vs[2]?=some .none /\
  (vs[1]?=some .none\/∃T oT ts,vs[1]?=some (.ref T)/\B.get? T=none/\T≠e/\h.get? T=some oT/\oT.data = .fields ts/\ts[3]?=some fl)
section
variable {M:Model}{A:Around}{E:Value->Shared->Prop}{s:Shared}{B:Heap}{env:Env}{outer l:List Env}{L e:Addr}{cls fl:Value}
theorem ziA(o:Obj)(f:Array Value->Array Value):(o.mapFields f).dict=o.dict:=by
 obtain ⟨c,d,dt,sl⟩:=o
 cases dt<;>rfl
theorem zjb{oe:Obj}{vs:Array Value}{head:Value}{had:Bool}{Q:Unit->Shared->Prop}(hfr:A.frames=some (env::outer))(hf:env.frame=some L)(st:B.StaysIn s.heap)(hn:B.get? e=none)
  (hl:s.heap.FunFrames B (env::outer)) (he:s.heap.get? e=some oe) (hc:oe.cls=cls) (hdi:oe.dict=none) (hd:oe.data = .fields vs) (hz:2<vs.size) (h2:vs[2]?=some .none)
  (k:∀h',zan B (env::outer) e cls (rawInt L) h'->s.heap.UpToSlots h'->Q () { s with heap:=h' }) :
  wpAny M A (do let a<-frameOf env;let pl<-entryPlaceOf L had;let b<-EntryCells.newEntry head a .none (rawInt L) .none pl;setField (.ref e) 1 b) Q E s:=by
 have nfr:e∉(env::outer).filterMap (·.frame):=λz=>by
  obtain ⟨_,o,ho,nf⟩:=hl.mem z
  rw [he] at ho
  cases ho
  exact nf vs hd
 refine wpAny_bind (wpAny_frameOf_fun hfr hl hf λg only=>?_)
 obtain ⟨_,same,slots⟩:=only
 refine wpAny_bind (wpAny_entryPlaceOf λpl hpl=>?_)
 have key:∀(tb:Obj)(ts:Array Value),tb.data = .fields ts->ts[3]?=some (rawInt L)->wpAny M A (setField (.ref e) 1 (.ref g.objs.size)) Q E { s with heap:=g.push tb }:=by
  intro tb ts td t3
  have e1:g.get? e=some oe:=(same e nfr).trans he
  have e2:(g.push tb).get? e=some oe:=get?_push_of_some _ e1
  have hT:(g.push tb).get? g.objs.size=some tb:=get?_push_size _ (by rw [isFreed_of_fields td])
  have hne:g.objs.size≠e:=ne_of_gt (lt_size e1)
  have fresh:B.get? g.objs.size=none:=by
   cases q:B.get? g.objs.size with
   | none=>rfl
   | some o =>
    obtain ⟨sl,z⟩:=slots _ o (st _ o q)
    exact absurd (lt_size z) (lt_irrefl _)
  have up:∀b o,b≠e->g.get? b=some o->((g.push tb).update e (mapFields (·.setIfInBounds 1 (.ref g.objs.size)))).get? b=some o:=λb o hb q =>
   (get?_update_other _ _ (Ne.symm hb)).trans (get?_push_of_some _ q)
  have notE:∀b o,s.heap.get? b=some o->(∀ws,o.data≠.fields ws)->b≠e:=λb o q nf z=>by
   rw [z,he] at q
   cases q
   exact nf vs hd
  have dd:=data_mapFields hd (·.setIfInBounds 1 (Value.ref g.objs.size))
  refine wpAny_setField e2 hd (by omega) (k _ ⟨λb o q=>?_,hn,?_,?_⟩ λb o q nf=>?_)
  ·refine up b o (λz=>by rw [z,hn] at q;cases q) ((same b λz=>?_).trans (st b o q))
   rw [(hl.mem z).1] at q
   cases q
  ·refine hl.of_keeps λb o q nf=>?_
   obtain ⟨sl,z⟩:=slots b o q
   exact ⟨_,up b _ (notE b o q nf) z,rfl⟩
  ·refine ⟨_,_,get?_update_self _ e2 (isFreed_of_fields dd),(Obj.cls_mapFields _ _).trans hc,(ziA _ _).trans hdi,dd,by simpa using hz,by rw [Array.getElem?_setIfInBounds_ne (by decide)];exact h2,.inr ⟨g.objs.size,tb,ts,?_,fresh,hne,?_,td,t3⟩⟩
   ·rw [Array.getElem?_setIfInBounds_self_of_lt (by omega)]
   ·rw [get?_update_other _ _ (Ne.symm hne)]
    exact hT
  ·obtain ⟨sl,z⟩:=slots b o q
   exact ⟨sl,up b _ (notE b o q nf) z⟩
 unfold EntryCells.newEntry newFields
 refine wpAny_bind (wpAny_newObj_type ?_ (hpl.sizeOk5 _ _ _ _ _))
 exact key _ _ rfl (by simp)
theorem ziz{Q:Unit->Shared->Prop}(hfr:A.frames=some (env::outer))(hf:env.frame=some L)(x:zan B (env::outer) e cls fl s.heap)
  (k:∀h',zan B (env::outer) e cls (rawInt L) h'->s.heap.UpToSlots h'->Q () { s with heap:=h' }):wpAny M A (noteFrame (.ref e) env) Q E s:=by
 obtain ⟨st,hn,hl,oe,vs,he,hc,hdi,hd,hz,h2,h1⟩:=x
 unfold noteFrame
 simp only [hf]
 rcases h1 with h1|⟨T,oT,ts,h1,nT,Te,gT,dT,t3⟩
 ·refine wpAny_bind (wpAny_field he hd h1 ?_)
  rw [if_neg (show ¬ ((Value.none != Value.none)=true) by decide)]
  exact zjb hfr hf st hn hl he hc hdi hd hz h2 k
 ·refine wpAny_bind (wpAny_field he hd h1 ?_)
  rw [if_pos (show (Value.ref T != Value.none)=true by simp)]
  refine wpAny_bind (wpAny_field gT dT t3 ?_)
  by_cases hfl:fl=rawInt L
  ·subst hfl
   rw [if_pos (show (rawInt L==rawInt L)=true by simp)]
   exact wpAny_pure (k s.heap ⟨st,hn,hl,oe,vs,he,hc,hdi,hd,hz,h2,.inr ⟨T,oT,ts,h1,nT,Te,gT,dT,t3⟩⟩ (UpToSlots.refl _))
  ·rw [if_neg (show ¬ ((fl==rawInt L)=true) by simpa using hfl)]
   refine wpAny_bind (wpAny_setField gT dT (Array.getElem?_eq_some_iff.mp t3).1 ?_)
   have oth:∀b,b≠T->(s.heap.update T (mapFields (·.setIfInBounds 3 Value.none))).get? b=s.heap.get? b:=λb hb=>get?_update_other _ _ (Ne.symm hb)
   have notT:∀b o,s.heap.get? b=some o->(∀ws,o.data≠.fields ws)->b≠T:=λb o q nf z=>by
    rw [z,gT] at q
    cases q
    exact nf ts dT
   refine zjb (B:=B) (cls:=cls) hfr hf (λb o q=>?_) hn (hl.of_keeps λb o q nf=>⟨o,(oth b (notT b o q nf)).trans q,rfl⟩) ((oth e (Ne.symm Te)).trans he) hc hdi hd hz h2 λh' y up=>k h' y λb o q nf=>up b o ((oth b (notT b o q nf)).trans q) nf
   exact (oth b λz=>by rw [z,nT] at q;cases q).trans (st b o q)
theorem zgb{Q:Unit->Shared->Prop}(x:zan B l e cls fl s.heap)(k:∀h',zan B l e cls .none h'->s.heap.UpToSlots h'->Q () { s with heap:=h' }):wpAny M A (setFlight (.ref e) none) Q E s:=by
 obtain ⟨st,hn,hl,oe,vs,he,hc,hdi,hd,hz,h2,h1⟩:=x
 unfold setFlight
 rcases h1 with h1|⟨T,oT,ts,h1,nT,Te,gT,dT,t3⟩
 ·refine wpAny_bind (wpAny_field he hd h1 ?_)
  rw [if_neg (show ¬ ((Value.none != Value.none)=true) by decide)]
  exact wpAny_pure (k s.heap ⟨st,hn,hl,oe,vs,he,hc,hdi,hd,hz,h2,.inl h1⟩ (UpToSlots.refl _))
 ·refine wpAny_bind (wpAny_field he hd h1 ?_)
  rw [if_pos (show (Value.ref T != Value.none)=true by simp)]
  have lt3:3<ts.size:=(Array.getElem?_eq_some_iff.mp t3).1
  have dd:=data_mapFields dT (·.setIfInBounds 3 Value.none)
  have oth:∀b,b≠T->(s.heap.update T (mapFields (·.setIfInBounds 3 Value.none))).get? b=s.heap.get? b:=λb hb=>get?_update_other _ _ (Ne.symm hb)
  have notT:∀b o,s.heap.get? b=some o->(∀ws,o.data≠.fields ws)->b≠T:=λb o q nf z=>by
   rw [z,gT] at q
   cases q
   exact nf ts dT
  refine wpAny_setField gT dT lt3 (k _ ⟨λb o q=>(oth b λz=>by rw [z,nT] at q;cases q).trans (st b o q),hn,hl.of_keeps λb o q nf=>⟨o,(oth b (notT b o q nf)).trans q,rfl⟩,oe,vs,(oth e (Ne.symm Te)).trans he,hc,hdi,hd,hz,h2,
   .inr ⟨T,_,_,h1,nT,Te,get?_update_self _ gT (isFreed_of_fields dd),dd,?_⟩⟩ λb o q nf=>⟨o.slots,(oth b (notT b o q nf)).trans q⟩)
  rw [Array.getElem?_setIfInBounds_self_of_lt lt3]
theorem zqf{Q:Unit->Shared->Prop}(hfr:A.frames=some (env::outer))(hf:env.frame=some L)(x:zan B (env::outer) e cls fl s.heap)
  (k:∀h',zan B outer e cls .none h'->s.heap.UpToSlots h'->Q () { s with heap:=h' }):wpAny M A (leaving env (.ref e)) Q E s:=by
 unfold leaving
 refine wpAny_bind (ziz hfr hf x λh1 y u1=>zgb (s:={ s with heap:=h1 }) y λh2 z u2=>?_)
 obtain ⟨a,b,⟨_,_,c⟩,d⟩:=z
 exact k h2 ⟨a,b,c,d⟩ (u1.trans u2)
end
def CXW(P:Program)(w:World):CXT:=λouter H s E e s'=>∃(ea C:Addr)(B:Heap)(H':Hp)(sI:Shared),e = .ref ea/\zan B outer ea (.ref C) .none s'.heap/\Un (frs outer) [] H H' s.heap sI.heap/\HOk P w H' sI.heap /\
 sI.os=s.os/\AllBare sI.gens/\s'.os=s.os/\AllBare s'.gens/\(∀b o,sI.heap.get? b=some o->b∉frs outer->B.get? b=some o)/\sI.heap.UpToSlots s'.heap/\E (.ref C) none H'
def zaw(X:Cx)(Ex:Addr->St->Hp->Prop):Prop:=∀(Ga:List (Addr×Obj))(σ:St)(H:Hp)(sI:Shared)(ea C:Addr)(B:Heap)(fl:Value)(s':Shared),Inv X Ga σ H sI->zan B X.stack ea (.ref C) fl s'.heap->s'.os=sI.os->AllBare s'.gens ->
 (∀b o,sI.heap.get? b=some o->b∉frs X.stack->B.get? b=some o)->sI.heap.UpToSlots s'.heap->Ex C σ H->X.xe (.ref ea) s'
theorem zaw.imp{X:Cx}{Ex Ex':Addr->St->Hp->Prop}(T:zaw X Ex)(h:∀C σ H,Ex' C σ H->Ex C σ H):zaw X Ex':=λGa σ H sI ea C B fl s' I f a b c d q=>T Ga σ H sI ea C B fl s' I f a b c d (h _ _ _ q)
theorem zea{cm:Bool}{P:Program}{w:World}{K:PySem.W.Frag}{mg:Str->Option Value}{base:Heap}{N:List Str}{qual:Str}{scope:Scope}{f:Addr}{cd:Value}{A:Around}{outer:List Env}{s:Shared}{H:Hp}{E:XK} :
  zaw (za5 (CXW P w) cm P w K mg base N qual scope f cd A outer s H E) (λC _ H'=>E (.ref C) none H'):=by
 intro Ga σ H' sI ea C B fl s' I x os bare hB up q
 have ff:A.frames=some outer:=by
  have:=I.ok.frames
  cases h:A.frames with
  | none =>
   have z:(A.deeper (envOfC qual scope s.heap.objs.size f cd)).frames=none:=by
    first|(show (A.frames.map _)=none;rw [h];rfl)|simp [Around.deeper,Around.under,h]
   rw [show (za5 (CXW P w) cm P w K mg base N qual scope f cd A outer s H E).A=A.deeper (envOfC qual scope s.heap.objs.size f cd) from rfl,z] at this
   cases this
  | some l =>
   have z:=Around.frames_deeper (env:=envOfC qual scope s.heap.objs.size f cd) h
   rw [show (za5 (CXW P w) cm P w K mg base N qual scope f cd A outer s H E).A=A.deeper (envOfC qual scope s.heap.objs.size f cd) from rfl,z] at this
   have:=Option.some.inj this
   exact congrArg some (List.cons.inj this).2
 show wpAny (model P w) (A.deeper (envOfC qual scope s.heap.objs.size f cd)) (leaving (envOfC qual scope s.heap.objs.size f cd) (.ref ea)) _ _ s'
 refine zqf (L:=s.heap.objs.size) (Around.frames_deeper ff) rfl x λh' y u=>?_
 have hid:∀b o,b≠s.heap.objs.size->sI.heap.get? b=some o->(hideAll sI.heap [s.heap.objs.size]).get? b=some o:=λb o hb e=>hideAll_get _ e (by simpa using hb)
 have U:=I.base
 have lt:∀b o,s.heap.get? b=some o->b≠s.heap.objs.size:=λb o e=>ne_of_lt (lt_size e)
 have nl:∀b:Addr,b∉(za5 (CXW P w) cm P w K mg base N qual scope f cd A outer s H E).ex:=λb z=>absurd (show b∈([]:List Addr) from z) (by simp)
 refine ⟨ea,C,B,H',{ sI with heap:=hideAll sI.heap [s.heap.objs.size] },rfl,y,⟨λb o e n hb _=>hid b o (lt b o e) (U.keep b o e n hb (nl b)),λb o e n hb _=>?_,λb o e n _=>U.free b o e n (nl b),λb o e _=>?_,U.tups,U.frzs,U.tbls⟩,
  I.hok.but (C:=s.heap.objs.size) I.free hid,I.os,I.bare,os.trans I.os,bare,λb o e hb=>?_,λb o e nf=>?_,q⟩
 ·obtain ⟨sl,z⟩:=U.slot b o e n hb (nl b)
  exact ⟨sl,hid b _ (lt b o e) z⟩
 ·obtain ⟨o',z⟩:=U.there b o e (nl b)
  exact ⟨o',hid b _ (lt b o e) z⟩
 ·have e':=of_hideAll _ e
  refine hB b o e' λz=>?_
  have z':b∈s.heap.objs.size::frs outer:=z
  rcases mem_cons.mp z' with r|r
  ·rw [r] at e
   have z9:(hideAll sI.heap [s.heap.objs.size]).get? s.heap.objs.size=none:=PySem.W.hideAll_none _ (by simp)
   exact absurd (z9.symm.trans e) (by simp)
  ·exact hb r
 ·exact (up.trans u) b o (of_hideAll _ e) nf
def XE(Ex:Addr->St->Hp->Prop)(σ:St):XK:=λc _ H'=>∃C,c = .ref C/\Ex C σ H'
def zqL(sp:Sp)(dvs:List V)(Ex:Addr->St->Hp->Prop)(t:TA):TE:=λσ H Q=>t σ H λvs H1=>sp (vs++dvs) H1 Q (XE Ex σ)
def zcW(C:Addr)(m:Str)(sp:Sp)(dvs:List V)(Ex:Addr->St->Hp->Prop)(ta:TE)(t:TA):TE:=λσ H Q=>ta σ H λx H1=>∃a dx fs,x = .ref a/\H1 a=some (.ins C dx fs)/\fs.lookup m=none /\
 t σ H1 λvs H2=>sp (x::(vs++dvs)) H2 Q (XE Ex σ)
section
variable {X:Cx}{cm:Bool}{k:Nat}{f C:Addr}{fd:FuncData}{ps:List Str}{sp:Sp}{dvs:List V}{ds:List Value}{Ex:Addr->St->Hp->Prop}{x m:Str}{p pos apos:Pos}{e o:Expr}{es:List Expr}{ta:TE}{t:TA}
theorem zaw.of{Ga:List (Addr×Obj)}{σ:St}{H:Hp}{s s':Shared}{v:Value}(T:zaw X Ex)(I:Inv X Ga σ H s)(h:CXW X.prog X.w X.stack H s (XE Ex σ) v s'):X.xe v s':=by
 obtain ⟨ea,C,B,H',sI,rfl,y,un,hok,os,bare,os',bare',hB,up,C',ec,q⟩:=h
 cases ec
 exact T Ga σ H' sI ea C B .none s' (I.call' os un hok bare λb z=>absurd z (by simp)) y (os'.trans os.symm) bare' hB up q
theorem zlv{Ga:List (Addr×Obj)}{σ:St}{H:Hp}{s:Shared}{Q:VK}{us:List Value}{vs:List V}(T:zaw X Ex)(F:zr X.prog X.w X.K X.mg X.base (CXW X.prog X.w) cm k f fd ps sp)(hr:zw cm k X.A)(hb:zaH X.K fd ps ds)(hd:zi dvs ds)
  (I:Inv X Ga σ H s) (r:zi vs us) (h:sp (vs++dvs) H Q (XE Ex σ)):wpAny (model X.prog X.w) X.A (call (.ref f) us) (EP X Ga σ Q) X.xe s:=by
 have r2:zi (vs++dvs) (us++ds):=r.append hd
 have hl:(us++ds).length=ps.length:=by rw [<- r2.length];exact F.len _ _ _ _ h
 refine wpAny_call (codeAny_mono (F.run X.A X.stack s H ⟨us,[]⟩ (us++ds) (vs++dvs) Q (XE Ex σ) hr I.env0 (hb s us I.kIn hl) r2 h) λr s' hq=>?_)
 cases r with
 | error v=>exact T.of I hq
 | ok fl =>
  cases fl with
  | ret u=>exact I.after hq
  | next=>exact False.elim hq
  | brk=>exact False.elim hq
  | cont=>exact False.elim hq
theorem zn9{pl:Sem Bool}(he:PE X o ta)(c:Cls X.K C)(hm:zcd X.K C m f)(T:zaw X Ex)(F:zr X.prog X.w X.K X.mg X.base (CXW X.prog X.w) cm k f fd ps sp)(hr:zw cm k X.A)(hb:zaH X.K fd ps ds)(hd:zi dvs ds)(ha:PA X (e::es) t)
  (hst:starEach (e::es) X.env=(false,eval e X.env)::starEach es X.env:=by rfl) (hpl:(backTo pos (starEach es X.env)).any (·.1)=false:=by rfl)
  (ht:eval (.Call (.Attribute o m apos) (e::es) [] pos) X.env=(do
   let ov<-eval o X.env
   standAt apos.atName
   let (f,first)<-holding [ov] (getMethod ov m pl)
   callWith pos f first (backTo pos (starEach (e::es) X.env)) (backToKw pos (keywordEach [] X.env))):=by rfl) :
  PE X (.Call (.Attribute o m apos) (e::es) [] pos) (zcW C m sp dvs Ex ta t):=by
 intro Ga s σ H Q I h
 refine methodCall_KW (pl:=pl) (thn (he Ga s σ H _ I h) λu s1 ⟨x,H1,I1,rx,a,dx,fs,ex,ea,l,q⟩=>?_) ht
 subst ex
 obtain rfl:u=Value.ref a:=rx
 refine zev I1 ea c hm l ?_
 refine callWith_K (first:=[.ref a]) (h₀:=X.base) I.ok.mod.kin hm.kp (thn (ha pos Ga s1 σ H1 _ I1 q) λus s2 ⟨vs,H2,I2,r,q2⟩=>⟨I2.kIn,?_⟩) hst hpl
 exact zlv (us:=.ref a::us) (vs:=.ref a::vs) T F hr hb hd I2 (.cons rfl r) q2
end
theorem Fun.okW{P:Program}{w:World}{K:PySem.W.Frag}{mg:Str->Option Value}{base:Heap}{x qual:Str}{st:Stmt}{f:Addr}{fd:FuncData}{N ps:List Str}{cm:Bool}{k:Nat}{sp:Sp}(F:Fun K x qual st f fd)(S:zS N ps (zk st))(len:∀vs H Q E,sp vs H Q E->vs.length=ps.length)
  (hbody:∀(cdv:Value)(A:Around)(outer:List Env)(s:Shared)(H:Hp)(vs:List V)(Q:VK)(E:XK),zw cm k (A.deeper (envOfC qual (zk st) s.heap.objs.size f cdv))->sp vs H Q E ->
   ∃t,PSs (za5 (CXW P w) cm P w K mg base N qual (zk st) f cdv A outer s H E) (zL st) t/\t { nx:=λ_ H'=>Q .non H',rt:=Q } (start N vs) H):zr P w K mg base (CXW P w) cm (k+1) f fd ps sp:=by
 obtain ⟨oc,od,kV,doc,pm,an,cdv,ct,osl,rfl,lk,hcd⟩:=F.ex
 exact ziK lk hcd S len λA outer s H vs Q E hr hsp=>hbody cdv A outer s H vs Q E hr hsp
def bmV:List Value:=[.type "ValueError",.type "Exception",.type "BaseException",.type "object"]
def zaE(K:PySem.W.Frag)(C:Addr):Prop:=excIn K C bmV "ValueError.__new__"=true
structure zfb(h:Heap)(C:Addr)(mro:List Value):Prop where
 ex:∃bm N nm q bs hdct sn sub ab col dd k0 k1 k2 k3 k5 mN,mro = .ref C::bm/\h.get? C=some (excClassObj nm q C N bs bm hdct sn sub ab col dd k0 k1 k2 k3 k5 "ValueError.__new__")/\h.Ns N mN/\mN "__init__"=none/\OwnTail h bmV bm
theorem zaE.obj{K:PySem.W.Frag}{C:Addr}{h:Heap}(x:zaE K C)(X:K.In h):∃cd,clsIn K C=some cd/\zfb h C cd.mro:=by
 unfold zaE excIn at x
 split at x
 ·rename_i dd cd sl look
  have hc:clsIn K C=some cd:=by
   unfold clsIn
   rw [look]
  refine ⟨cd,hc,?_⟩
  split at x
  ·rename_i C' bm k0 k1 k2 k3 n k5 em es
   simp only [and_eq_true,beq_iff_eq,not_eq_true'] at x
   obtain ⟨⟨⟨⟨⟨c1,c2⟩,c3⟩,c4⟩,c5⟩,c6⟩:=x
   subst c1 c2
   obtain ⟨a1,a2,a3,a4,a5,a6,a7,a8,a9,a10,a11⟩:=cd
   dsimp only at em c3 c5 c6 ⊢
   subst em c3
   obtain ⟨sl⟩:=sl
   dsimp only at es
   subst es
   exact ⟨bm,a4,a1,a5,a2,a6,a7,a8,a9,a10,dd,k0,k1,k2,k3,k5,_,rfl,X _ _ look,.of_isNs (PySem.W.isNs_of_in X c5),PySem.W.nsMap_none_of_in X c5 c6,PySem.W.tail_of_in X c4⟩
  ·cases x
 ·cases x
def zes(C:Addr)(Ex:Addr->St->Hp->Prop)(t:TA):TS:=λ_ σ H=>t σ H λvs H1=>vs.length<=sizeLine/\Ex C σ H1
theorem zpx{X:Cx}{Ex:Addr->St->Hp->Prop}{C:Addr}{x:Str}{np cpos pos:Pos}{e:Expr}{es:List Expr}{t:TA}(hc:X.calm=true)(T:zaw X Ex)(O:zaE X.K C)(hg:Gl X x)(hm:X.mg x=some (.ref C))(ha:PA X (e::es) t)
  (hdb:(x==("__debug__":Str))=false:=by decide) (hst:starEach (e::es) X.env=(false,eval e X.env)::starEach es X.env:=by rfl) (hpl:(backTo cpos (starEach es X.env)).any (·.1)=false:=by rfl) :
  PS X (.Raise (some (.Call (.Name x np) (e::es) [] cpos)) none pos) (zes C Ex t):=by
 intro Ga s σ H D I h
 obtain ⟨cd,_,⟨bm,N,nm,q,bs,hdct,sn,sub,ab,col,dd,k0,k1,k2,k3,k5,mN,em,hC,hN,hni,TL⟩⟩:=O.obj I.ok.mod.kin
 refine wpAny_Raise_call_subT (C:=C) (nm:=nm) (q:=q) (N:=N) (bs:=bs) (bm:=bm) (hdct:=hdct) (sn:=sn) (sub:=sub) (ab:=ab) (col:=col) (dd:=dd) (k0:=k0) (k1:=k1) (k2:=k2) (k3:=k3) (k5:=k5) (mN:=mN) PySem.F.excBase_ValueError (TL.hasType (by decide)) (I.ok.hd hc)
  (by rw [hst];show (false||(backTo cpos (starEach es X.env)).any (·.1))=false;rw [hpl];rfl) hni (zdt I hg hm ⟨rfl,?_⟩ hdb)
 have hA:=ha cpos Ga s σ H _ I h
 rw [hst] at hA ⊢
 refine Calls.evalArgs_plain (thn hA λus s2 ⟨vs,H2,I2,r2,hz,q2⟩=>⟨rfl,by rw [<- r2.length];exact hz,I2.bk _ _ hC,hN.keeps I2.bk,TL.keeps I2.bk,λh' ea hm'=>?_⟩)
 obtain ⟨tt,he,htn,_⟩:=hm'.there
 have hin:∀env∈X.stack,∀a,env.frame=some a->a∈frs X.stack:=λenv hm a ha=>List.mem_filterMap.mpr ⟨env,hm,ha⟩
 refine T Ga σ H2 s2 ea C (hideAll s2.heap (frs X.stack)) .none { s2 with heap:=h' } I2 ⟨λb o e=>hm'.keeps b o (of_hideAll _ e),?_,?_,?_⟩ rfl I2.bare (λb o e hb=>hideAll_get _ e hb) (λb o e _=>⟨o.slots,hm'.keeps b o e⟩) q2
 ·cases z:(hideAll s2.heap (frs X.stack)).get? ea with
  | none=>rfl
  | some o =>
   have:=of_hideAll _ z
   rw [hm'.new] at this
   cases this
 ·exact (PySem.W.funFrames_hide I2.stack hin).of_keeps λb o e _=>⟨o,hm'.keeps b o e,rfl⟩
 ·exact ⟨_,_,he,rfl,rfl,rfl,by simp,rfl,.inl rfl⟩
section
variable {M:Model}{A:Around}{E:Value->Shared->Prop}
theorem zkJ{h:Heap}{g:Array GenState}{d:Drawn}{t:Nat}{os:OsState}{e C D:Addr}{oe:Obj}{mC mD:List Value}{Q:Bool->Shared->Prop}(OC:zfb h C mC)(OD:zfb h D mD)(he:h.get? e=some oe)(hcls:oe.cls = .ref C)
  (hsub:mC.contains (.ref D)=true) (hq:Q true ⟨h,g,d,t,os⟩):wpAny M A (excMatches (.ref e) (.ref D)) Q E ⟨h,g,d,t,os⟩:=by
 obtain ⟨bm,N,nm,q,bs,hdct,sn,sub,ab,col,dd,k0,k1,k2,k3,k5,mN,rfl,hC,_,_,TC⟩:=OC
 obtain ⟨bm',N',nm',q',bs',hdct',sn',sub',ab',col',dd',j0,j1,j2,j3,j5,mN',rfl,hD,_,_,TD⟩:=OD
 have b1:(Value.ref D::bm').contains (.type "BaseException")=true:=by
  rw [List.contains_cons,TD.hasType (X:="BaseException") (b:=true) (by decide),Bool.or_true]
 have b2:=tc_notTuple
 unfold excMatches
 repeat (first|(with_reducible refine wpAny_loadPart_at he ?_;rw [hcls])|with_reducible refine wpAny_loadPart_at hD ?_|(with_reducible refine wpAny_isSubtype_exc hD ?_;rw [b1])|(with_reducible refine wpAny_isSubtype_exc hC ?_;rw [hsub])|wp_step)
 exact hq
end
theorem zQ.ex{P:Program}{w:World}{H:Hp}{h:Heap}{a:Addr}{o:HO}(x:zQ P w H h a o):∃ob,h.get? a=some ob:=by
 cases o with
 | lst xs=>obtain ⟨_,_,_,_,e⟩:=x;exact ⟨_,e⟩
 | tup xs=>obtain ⟨_,_,_,o,e,_⟩:=x;exact ⟨_,e⟩
 | dK kvs=>obtain ⟨_,_,_,_,o,_,_,e,_⟩:=x;exact ⟨_,e⟩
 | dT kvs=>obtain ⟨_,_,_,_,o,_,_,e,_⟩:=x;exact ⟨_,e⟩
 | set S n=>obtain ⟨o,_,_,_,e,_⟩:=x;exact ⟨_,e⟩
 | ins C dx fs=>obtain ⟨_,_,_,e,_⟩:=x;exact ⟨_,e⟩
 | own y=>exact x
 | xd fs=>obtain ⟨_,⟨_,_,_,e,_⟩,_⟩:=x;exact ⟨_,e⟩
 | rng lo hi=>obtain ⟨_,_,_,e⟩:=x;exact ⟨_,e⟩
 | frz ob u=>exact ⟨_,x.1⟩
 | tbl ps=>exact ⟨_,x⟩
 | met f y=>exact ⟨_,x⟩
 | ext φ=>exact x.2.1
abbrev cxP(X:Cx)(Ga:List (Addr×Obj)):Cx:={ X with pn:=X.pn++Ga }
theorem Cx.Ok.p{X:Cx}(ok:X.Ok)(Ga:List (Addr×Obj)):(cxP X Ga).Ok :=
 ⟨ok.mod,ok.kind,ok.glob,ok.blt,ok.above,ok.inj,ok.has,ok.cab,ok.hd,ok.frames,ok.stk,ok.exf,ok.bs,ok.bsz,ok.noex,ok.exfs,ok.funs,ok.frf⟩
theorem Inv.p{X:Cx}{Ga:List (Addr×Obj)}{σ:St}{H:Hp}{s:Shared}(I:Inv X Ga σ H s):Inv (cxP X Ga) [] σ H s :=
 ⟨I.ok.p Ga,I.os,I.bare,I.base,I.loc,I.cell,I.free,I.freeC,λp hp=>I.pin p (by have h:p∈(X.pn++Ga)++[]:=hp;simpa using h),I.hok,I.len,I.hdk⟩
theorem Inv.unp{X:Cx}{Ga:List (Addr×Obj)}{σ:St}{H:Hp}{s:Shared}(ok:X.Ok)(I:Inv (cxP X Ga) [] σ H s):Inv X Ga σ H s :=
 ⟨ok,I.os,I.bare,I.base,I.loc,I.cell,I.free,I.freeC,λp hp=>I.pin p (by show p∈(X.pn++Ga)++[];simpa using hp),I.hok,I.len,I.hdk⟩
abbrev zeE(X:Cx)(Ga:List (Addr×Obj))(Ex:Addr->St->Hp->Prop):Cx:=(cxP X Ga).wish λe s'=>∃(ea C:Addr)(B:Heap)(H':Hp)(fl:Value)(σ:St)(sI:Shared),e = .ref ea/\Inv (cxP X Ga) [] σ H' sI/\zan B X.stack ea (.ref C) fl s'.heap /\
 s'.os=sI.os/\AllBare s'.gens/\(∀b o,sI.heap.get? b=some o->b∉frs X.stack->B.get? b=some o)/\sI.heap.UpToSlots s'.heap/\Ex C σ H'
theorem zgp{X:Cx}{Ga:List (Addr×Obj)}{Ex:Addr->St->Hp->Prop}:zaw (zeE X Ga Ex) Ex:=λps σ H sI ea C B fl s' I y os bare hB up q =>
 ⟨ea,C,B,H,fl,σ,sI,rfl,(I.unwish.pins_of λp hp=>(nomatch hp)),y,os,bare,hB,up,q⟩
abbrev zb3(X:Cx)(Ga:List (Addr×Obj))(ea:Addr):Cx:={ X with pn:=X.pn++Ga,A:=X.A.mark (some (.ref ea)),calm:=false,xe:=λ_ _=>False }
def zb7(C:Addr)(o:Obj):Prop:=o.cls = .ref C/\o.dict=none/\∃vs,o.data = .fields vs
theorem ziv{X:Cx}{Ga:List (Addr×Obj)}{σ:St}{H:Hp}{sI s':Shared}{ea C:Addr}{B:Heap}{fl:Value}(hex:X.ex=[])(I:Inv (cxP X Ga) [] σ H sI)(y:zan B X.stack ea (.ref C) fl s'.heap)(os:s'.os=sI.os)(bare:AllBare s'.gens)
  (hB:∀b o,sI.heap.get? b=some o->b∉frs X.stack->B.get? b=some o) (up:sI.heap.UpToSlots s'.heap) :
  H ea=none/\∃oe,zb7 C oe/\s'.heap.get? ea=some oe/\Inv (zb3 X Ga ea) [] σ (upd H ea (.frz oe (.own 0))) s':=by
 obtain ⟨st,hn,hl,oe,vs,he,hc,hdi,hd,hz,h2,h1⟩:=y
 have nea:ea∉frs X.stack:=λz=>by
  obtain ⟨_,o,ho,nf⟩:=hl.mem z
  rw [he] at ho
  cases ho
  exact nf vs hd
 have new:sI.heap.get? ea=none:=by
  cases q:sI.heap.get? ea with
  | none=>rfl
  | some o =>
   have:=hB _ o q nea
   rw [hn] at this
   cases this
 have hH:H ea=none:=by
  cases q:H ea with
  | none=>rfl
  | some u =>
   obtain ⟨ob,z⟩:=(I.hok ea u q).ex
   rw [new] at z
   cases z
 have keep:∀b o,sI.heap.get? b=some o->b∉frs X.stack->s'.heap.get? b=some o:=λb o e hb=>st b o (hB b o e hb)
 have slot:∀b o,sI.heap.get? b=some o->b∈frs X.stack->∃sl,s'.heap.get? b=some { o with slots:=sl }:=λb o e hb=>by
  obtain ⟨_,o',ho',nf⟩:=I.stack.mem (show b∈(cxP X Ga).stack.filterMap (·.frame) from hb)
  rw [e] at ho'
  cases ho'
  exact up b o e nf
 have I1:Inv (cxP X Ga) [] σ H s':=I.call' (ch:=[]) os ⟨λb o e _ hb _=>keep b o e hb,λb o e _ hb _=>slot b o e hb,λ_ _ _ n _=>n,λb o e _=>?_,λ_ _ e=>e,λ_ _ _ e=>e,λb ps e=>⟨#[],by rw [e];simp⟩⟩
  (λb u e=>(I.hok b u e).stay (λc v hc q=>keep c v q λz=>?_) (λ_ q=>q) λ_ _ q=>q) bare λb z=>absurd z (by simp)
 ·have nel:ea≠X.env.locals:=λz=>by
   obtain ⟨m,⟨o,es,ep,ho,hdd,_⟩,_⟩:=I1.loc
   have ho':s'.heap.get? ea=some o:=by rw [z];exact ho
   rw [he] at ho'
   cases ho'
   rw [hd] at hdd
   cases hdd
  refine ⟨hH,oe,⟨hc,hdi,vs,hd⟩,he,⟨⟨I1.ok.mod,I1.ok.kind,I1.ok.glob,I1.ok.blt,I1.ok.above,I1.ok.inj,I1.ok.has,I1.ok.cab,λz=>(nomatch z),I1.ok.frames,I1.ok.stk,I1.ok.exf,I1.ok.bs,I1.ok.bsz,I1.ok.noex,I1.ok.exfs,I1.ok.funs,I1.ok.frf⟩,I1.os,I1.bare,
   ⟨I1.base.keep,I1.base.slot,λb o e n hx=>?_,I1.base.there,λb xs e=>?_,λb o u e=>?_,λb ps e=>?_⟩,I1.loc,I1.cell,?_,λx c e=>?_,λp hp=>?_,I1.hok.add hH ⟨he,oe,he⟩,I1.len,.inr ⟨ea,oe,vs,rfl,zx,hd,h2,C,hc⟩⟩⟩
  ·obtain ⟨o',z⟩:=I.base.there b o e hx
   rw [zh (λw=>by rw [w,new] at z;cases z)]
   exact I1.base.free b o e n hx
  ·have z:=I1.base.tups b xs e
   rw [zh (zT z hH)]
   exact z
  ·have z:=I1.base.frzs b o u e
   rw [zh (zT z hH)]
   exact z
  ·obtain ⟨more,z⟩:=I1.base.tbls b ps e
   exact ⟨more,by rw [zh (zT z hH)];exact z⟩
  ·rw [zh (Ne.symm nel)]
   exact I1.free
  ·have nc:c≠ea:=λw=>by
    obtain ⟨v,o,ho,hdd⟩:=I1.cell x c e
    rw [w,he] at ho
    cases ho
    rw [hd] at hdd
    cases hdd
   rw [zh nc]
   exact I1.freeC x c e
  ·obtain ⟨a,b,c,d,f⟩:=I1.pin p hp
   refine ⟨a,?_,c,d,f⟩
   rw [zh λw=>?_]
   ·exact b
   ·have:=(I.pin p hp).1
    rw [w,new] at this
    cases this
 ·by_cases hb:b∈frs X.stack
  ·obtain ⟨sl,z⟩:=slot b o e hb
   exact ⟨_,z⟩
  ·exact ⟨o,keep b o e hb⟩
 ·have zf:H c=none:=I.stkFree c z
  rcases hc with w|w
  ·rw [w] at zf
   rw [zf] at e
   cases e
  ·rw [zf] at w
   cases w
theorem Inv.unbound{X:Cx}{Ga:List (Addr×Obj)}{σ:St}{H:Hp}{s:Shared}{i:Nat}{n:Str}{m:Str->Option Value}{v:Option Value}{h':Heap}{tk:Nat}(I:Inv X Ga σ H s)(hN:X.N.Nodup)(hi:X.N[i]?=some n)
  (hm:s.heap.Ns X.env.locals m/\∀(i:Nat)(x:Str)(v:V),X.N[i]?=some x->σ[i]?=some (some v)->Vis X.env.scope x->∃u,ze v u/\ziP X.env s.heap m x u)
  (hn':h'.Ns X.env.locals (λx=>if x=n then v else m x)) (hs:SameBut X.env.locals s.heap h'):Inv X Ga (σ.set i none) H { s with heap:=h',toks:=tk }:=by
 obtain ⟨oL,_,_,hoL,_⟩:=id hm.1
 have hiσ:i<σ.length:=by rw [I.len];exact (List.getElem?_eq_some_iff.mp hi).1
 have ne0:∀b o,X.s₀.heap.get? b=some o->b≠X.env.locals:=λb o e=>ne_of_lt (Nat.lt_of_lt_of_le (lt_size e) I.ok.above)
 refine ⟨I.ok,I.os,I.bare,⟨λb o e n hb hx=>(hs.2 b (ne0 b o e)).trans (I.base.keep b o e n hb hx),λb o e n hb hx=>?_,I.base.free,λb o e hx=>?_,I.base.tups,I.base.frzs,I.base.tbls⟩,⟨_,hn',λj y w e1 e2 e3=>?_⟩,λy c e=>?_,I.free,I.freeC,λp hp=>?_,
  I.hok.but I.free λb u hb e=>(hs.2 b hb).trans e,by simpa using I.len,I.hdk⟩
 ·obtain ⟨sl,z⟩:=I.base.slot b o e n hb hx
  exact ⟨sl,(hs.2 b (ne0 b o e)).trans z⟩
 ·obtain ⟨o',z⟩:=I.base.there b o e hx
  exact ⟨o',(hs.2 b (ne0 b o e)).trans z⟩
 ·by_cases hj:j=i
  ·subst hj
   rw [List.getElem?_set_self hiσ] at e2
   cases e2
  ·rw [List.getElem?_set_ne (Ne.symm hj)] at e2
   obtain ⟨u,r,l⟩:=hm.2 j y w e1 e2 e3
   refine ⟨u,r,?_⟩
   have hy:y≠n:=λq=>hj (zeW hN e1 (q ▸ hi))
   rcases l with ⟨k1,k2⟩|⟨k1,c,e,z⟩
   ·exact .inl ⟨k1,by simp [hy,k2]⟩
   ·exact .inr ⟨k1,c,e,z.sameBut hs (I.cne y c e)⟩
 ·obtain ⟨w,z⟩:=I.cell y c e
  exact ⟨w,z.sameBut hs (I.cne y c e)⟩
 ·obtain ⟨a,b,c,d,f⟩:=I.pin p hp
  exact ⟨(hs.2 p.1 c).trans a,b,c,d,f⟩
theorem Inv.unsuite{X:Cx}{Ga:List (Addr×Obj)}{σ:St}{H:Hp}{s:Shared}{ea:Addr}(ok:X.Ok)(hh:X.A.handled=none)(I:Inv (zb3 X Ga ea) [] σ H s):Inv X Ga σ H s :=
 ⟨ok,I.os,I.bare,I.base,I.loc,I.cell,I.free,I.freeC,λp hp=>I.pin p (by show p∈(X.pn++Ga)++[];simpa using hp),I.hok,I.len,.inl hh⟩
def zdu(K:PySem.W.Frag)(i:Nat)(D:Addr)(tb:(Addr->St->Hp->Prop)->TS)(ts:TS):TS:=λZ σ H =>
 tb (λC σ' H'=>zaE K C/\PySem.W.mroIn K C (.ref D)=some true/\∀ea oe,H' ea=none->zb7 C oe ->
  ts { nx:=λσ2 H2=>Z.nx (σ2.set i none) H2,rt:=Z.rt,bk:=λσ2 H2=>Z.bk (σ2.set i none) H2,ct:=λσ2 H2=>Z.ct (σ2.set i none) H2 } (σ'.set i (some (.ref ea))) (upd H' ea (.frz oe (.own 0)))) Z σ H
theorem zpl{X:Cx}{i:Nat}{D:Addr}{x n:Str}{np hpos pos:Pos}{body:List Stmt}{b₀:Stmt}{suite:List Stmt}{tb:(Addr->St->Hp->Prop)->TS}{ts:TS}(hc:X.calm=true)(hex:X.ex=[])(hstk:X.stack=X.env::X.outer/\X.env.frame=some X.env.locals)
  (hN:X.N.Nodup) (hi:X.N[i]?=some n) (hlo:X.env.scope.names.lookup n=some .local) (OD:zaE X.K D) (hg:Gl X x) (hm:X.mg x=some (.ref D))
  (hb:∀Ga Ex,PSs (zeE X Ga Ex) body (tb Ex)) (hs:∀Ga ea,PSs (zb3 X Ga ea) (b₀::suite) ts) (hdb:(x==("__debug__":Str))=false:=by decide) :
  PS X (.Try body [.ExceptHandler (some (.Name x np)) (some n) (b₀::suite) hpos] [] [] pos) (zdu X.K i D tb ts):=by
 intro Ga s σ H Z I h
 have hh:X.A.handled=none:=I.ok.hd hc
 have hp:(X.env.scope.kind == .class||(X.env.scope.kind == .module&&X.env.locals != X.env.globals))=false:=by rw [I.ok.kind];rfl
 refine wpAny_Try_except (wpAny_mono (hb Ga _ [] s σ H Z (I.p.wish _) h) (λf s1 q=>?_) λe s1 q=>?_)
 ·cases f with
  | next =>
   obtain ⟨σ',H',J,q⟩:=q
   exact wpAny_execs_nil ⟨σ',H',Inv.unp I.ok J.unwish,q⟩
  | brk=>obtain ⟨σ',H',J,q⟩:=q;exact ⟨σ',H',Inv.unp I.ok J.unwish,q⟩
  | cont=>obtain ⟨σ',H',J,q⟩:=q;exact ⟨σ',H',Inv.unp I.ok J.unwish,q⟩
  | ret u=>obtain ⟨v,σ',H',J,r,q⟩:=q;exact ⟨v,σ',H',Inv.unp I.ok J.unwish,r,q⟩
 ·obtain ⟨ea,C,B,H',fl,σ',sI,rfl,J,y,os,bare,hB,up,OC,sub,want⟩:=q
  have fr:X.A.frames=some (X.env::X.outer):=by rw [I.ok.frames,hstk.1]
  rw [hstk.1] at y
  refine ziz fr hstk.2 y λh2 y2 u2=>zgb (s:={ s1 with heap:=h2 }) y2 λh3 y3 u3=>?_
  have y3':zan B X.stack ea (.ref C) .none h3:=by rw [hstk.1];exact y3
  have up3:=(up.trans u2).trans u3
  obtain ⟨_,oe3,c3,g3,J3⟩:=ziv (s':={ s1 with heap:=h3 }) hex J y3' os bare hB up3
  obtain ⟨cdC,cC,eC⟩:=OC.obj J3.kIn
  obtain ⟨cdD,cD,eD⟩:=OD.obj J3.kIn
  have hsub:cdC.mro.contains (.ref D)=true:=by
   unfold PySem.W.mroIn at sub
   rw [cC] at sub
   simp only [bind_some] at sub
   split at sub
   ·cases sub
   ·exact Option.some.inj sub
  refine wpAny_handleBy_cons (codeAny_handlers_test (zdt (X:=zb3 X Ga ea) J3 hg hm ?_ hdb)) (by intro q;cases q)
  refine zkJ (h:=h3) (g:=s1.gens) (d:=s1.drawn) (t:=s1.toks) (os:=s1.os) eC eD g3 c3.1 hsub ?_
  refine codeAny_handlers_suite_as ?_
  refine zgb (s:={ s1 with heap:=h3 }) y3 λh4 y4 u4=>?_
  have y4':zan B X.stack ea (.ref C) .none h4:=by rw [hstk.1];exact y4
  obtain ⟨hH4,oe4,c4,g4,J4⟩:=ziv (s':={ s1 with heap:=h4 }) hex J y4' os bare hB (up3.trans u4)
  refine zfd (X:=zb3 X Ga ea) (i:=i) (v:=.ref ea) J4 hN hi (.inl hlo) rfl (λs5 J5=>?_) (.inr hlo)
  refine wpAny_mono (hs Ga ea [] s5 _ _ _ J5 (want ea oe4 hH4 c4)) (λf s6 q6=>?_) λ_ _ z=>z.elim
  have go:∀{σ7:St}{H7:Hp},Inv (zb3 X Ga ea) [] σ7 H7 s6->(∀s7,Inv X Ga (σ7.set i none) H7 s7->SP X Ga Z f s7) ->
    wpAny (model X.prog X.w) X.A (do bindName X.env n .none;unbindBehindTheSuite X.env n hpos) (λ_ s7=>SP X Ga Z f s7) X.xe s6:=λ{σ7 H7} J7 k=>by
   have J8:=Inv.unsuite I.ok hh J7
   obtain ⟨m,hns,hl⟩:=id J8.loc
   exact wpAny_nameGoes_keeps hlo hns hp λh' v hn' hsb=>k _ (J8.unbound hN hi ⟨hns,hl⟩ hn' hsb)
  cases f with
  | next=>obtain ⟨σ7,H7,J7,q7⟩:=q6;exact go J7 λs7 I7=>⟨_,_,I7,q7⟩
  | brk=>obtain ⟨σ7,H7,J7,q7⟩:=q6;exact go J7 λs7 I7=>⟨_,_,I7,q7⟩
  | cont=>obtain ⟨σ7,H7,J7,q7⟩:=q6;exact go J7 λs7 I7=>⟨_,_,I7,q7⟩
  | ret u=>obtain ⟨v,σ7,H7,J7,r7,q7⟩:=q6;exact go J7 λs7 I7=>⟨v,_,_,I7,r7,q7⟩
end L2
namespace L2
open PySem PySem.Spec PyProof.Rows PySem.W
section
variable {prog:Program}{w:World}{A:Around}{E:Value->Shared->Prop}{K:Frag}{h:Heap}{g:Array GenState}{d:Drawn}{t:Nat}{os:OsState}{e C:Addr}{oe:Obj}
theorem zra{tk:Tok}{Q:Fin->Shared->Prop}(X:K.In h)(I:InstAt h e oe C none)(f3:findIn K (.ref C) "__class__"=some (some (.builtin "object.__class__")))(hm:mroIn K C (.type "object")=some true)
  (hq:Q (.done (.ret (.ref C))) ⟨h,g,d,t,os⟩):wpAny (model prog w) A (Builtin.«object.__getattribute__» ⟨[.ref e,.str "__class__" tk],[]⟩) Q E ⟨h,g,d,t,os⟩:=by
 have L0:=I.type (M:=model prog w)
 have L3:=looks_findIn (M:=model prog w) X f3
 have f5:=F.typeOf_object_class
 have f6:=F.slot_gs_get.lookup
 have f7:=F.slot_gs_set.lookup
 repeat (any_goals (first|assumption|with_reducible refine L0.at ?_|with_reducible refine L3.at ?_|wp_step))
 exact class_get (s:=⟨h,g,d,t,os⟩) X I hm (wpAny_pure hq)
theorem zjq{nameV:Value}{Q:Unit->Shared->Prop}(X:K.In h)(I:InstAt h e oe C none)(hb:mroIn K C (.type "BaseException")=some true)(hq:Q () ⟨h,g,d,t,os⟩) :
  wpAny (model prog w) A (checkBuiltinCall "BaseException.__getattribute__" ⟨[.ref e,nameV],[]⟩) Q E ⟨h,g,d,t,os⟩:=by
 have L0:=I.type (M:=model prog w)
 have L4:=looks_mroIn (M:=model prog w) X hb
 have c1:builtinKind "BaseException.__getattribute__"=some .slot:=by decide +kernel
 have c2:splitId "BaseException.__getattribute__"=some ("BaseException","__getattribute__"):=by decide +kernel
 have c3:=F.args_bexc_ga (.ref e) nameV
 simp only [checkBuiltinCall,c1,c2]
 refine wpAny_bind ?_
 unfold isInstance
 repeat (first|with_reducible refine L0.at ?_|with_reducible refine L4.at ?_|wp_step)
 exact hq
theorem znT{Q:Option Value->Shared->Prop}(X:K.In h)(I:InstAt h e oe C none)(f1:findIn K (.ref C) "__getattribute__"=some (some (.builtin "BaseException.__getattribute__")))(f2:findIn K (.ref C) "__getattr__"=some none)
  (f3:findIn K (.ref C) "__class__"=some (some (.builtin "object.__class__"))) (hm:mroIn K C (.type "object")=some true) (hb:mroIn K C (.type "BaseException")=some true) (hq:Q (some (.ref C)) ⟨h,g,d,t+1,os⟩) :
  wpAny (model prog w) A (getAttr? (.ref e) "__class__") Q E ⟨h,g,d,t,os⟩:=by
 have L0:=I.type (M:=model prog w)
 have L1:=looks_findIn (M:=model prog w) X f1
 have L2:=looks_findIn (M:=model prog w) X f2
 have f4:=PySem.F.attr_ValueError.ga.bind (.ref e)
 have x2:(builtin "BaseException.__getattribute__" == builtin "object.__getattribute__")=false:=by decide +kernel
 have x1:(onTheHeap (Value.ref C)&&builtin "BaseException.__getattribute__" == builtin "object.__getattribute__")=false:=by rw [x2];rfl
 have x0:(false&&onTheHeap (builtin "BaseException.__getattribute__"))=false:=rfl
 unfold getAttr? getAttrBy?
 refine wpAny_bind (wpAny_mkText (wpAny_bind (wpAny_attempt ?_)))
 repeat (any_goals (first|assumption|with_reducible refine L0.at ?_|with_reducible refine L1.at ?_|with_reducible refine L2.at ?_|wp_step))
 refine codeAny_call_builtin PySem.F.attr_ValueError.ga.plain F.entry_bexc_ga (zjq X I hb (zra X I f3 hm ?_))
 repeat (any_goals (first|assumption|wp_step))
structure zcz(K:Frag)(C:Addr):Prop where
 err:zaE K C
 ga:findIn K (.ref C) "__getattribute__"=some (some (.builtin "BaseException.__getattribute__"))
 gr:findIn K (.ref C) "__getattr__"=some none
 cl:findIn K (.ref C) "__class__"=some (some (.builtin "object.__class__"))
 ob:mroIn K C (.type "object")=some true
 ba:mroIn K C (.type "BaseException")=some true
theorem zsJ(O:zcz K C):KitX K (.ref e) (.ref C) (λh=>InstAt h e oe C none) where
 ty:=λ_ _ _ I=>I.type
 it:=λM h X I=>by
  obtain ⟨cd,_,⟨bm,N,nm,q,bs,hdct,sn,sub,ab,col,dd,k0,k1,k2,k3,k5,mN,_,hC,_⟩⟩:=O.err.obj X
  intro A' Q' E' s' k q'
  unfold isType loadHead
  exact wpAny_bind (wpAny_loadPart (k _ _ hC) (wpAny_pure q'))
 ne:=λh tp dd its n sl X htp=>by
  obtain ⟨cd,_,⟨bm,N,nm,q,bs,hdct,sn,sub,ab,col,d1,k0,k1,k2,k3,k5,mN,_,hC,_⟩⟩:=O.err.obj X
  refine Bool.eq_false_iff.mpr λz=>?_
  have ec:C=tp:=Value.ref.inj (beq_iff_eq.mp z)
  subst ec
  have wd:=congrArg Obj.data (Option.some.inj (hC.symm.trans htp))
  cases wd
 ca:=λ{prog w A E Q s} X I k=>by
  obtain ⟨h,g,d,t,os⟩:=s
  exact znT X I O.ga O.gr O.cl O.ob O.ba k
end
def zg3:V->Option Value
 | .ref a=>some (.ref a)
 | .ty n=>some (.type n)
 | _=>none
inductive TyX(K:Frag)(H:Hp):V->Value->Prop where
 | of {x:V}{t:Value} (h:zaU K H x t):TyX K H x t
 | exc {a C:Addr}{o:Obj} (e:H a=some (.frz o (.own 0))) (ho:zb7 C o) (O:zcz K C):TyX K H (.ref a) (.ref C)
def zc1(K:Frag):List V->Hp->VK->Prop:=λxs H Q=>∃x c t u b,xs=[x,c]/\zg3 c=some u/\TyX K H x t/\kitOne K t u=some b/\Q (.bl b) H
theorem zgy{X:Cx}:zR X (.builtin "isinstance") (zc1 X.K):=by
 intro Ga s σ H xs us Q I r h
 obtain ⟨x,c,t,u,b,rfl,hc,ty,hk,q⟩:=h
 cases r with
 | cons r1 rr =>
  cases rr with
  | cons r2 rr =>
   cases rr
   rename_i v1 v2
   have e2:v2=u:=by
    cases c with
    | ref a=>cases hc;exact r2
    | ty n=>cases hc;exact r2
    | _=>cases hc
   subst e2
   cases ty with
   | of ty=>exact zsu I r1 ty hk λtk=>⟨.bl b,H,I.tok tk,rfl,q⟩
   | exc e ho O =>
    rename_i a C o
    obtain rfl:v1=Value.ref a:=r1
    obtain ⟨z,_⟩:=I.hok a _ e
    obtain ⟨c1,c2,vs,c3⟩:=ho
    have J:InstAt s.heap a o C none:=⟨z,c1,by unfold notCls;rw [c3],by rw [c2];trivial⟩
    exact kia_one (zsJ O) I.kIn J hk (λw=>nomatch w) λtk=>⟨.bl b,H,I.tok tk,rfl,q⟩
end L2
namespace L2
open PySem PySem.Spec PyProof.Rows
def Hnd(A:Around)(h:Heap):Prop:=A.handled=none\/∃(a:Addr)(o:Obj)(vs:Array Value),A.handled=some (.ref a)/\h.get? a=some o/\o.data = .fields vs/\vs[2]?=some .none/\∃C,o.cls = .ref C
theorem Inv.hnd{X:Cx}{Ga:List (Addr×Obj)}{σ:St}{H:Hp}{s:Shared}(I:Inv X Ga σ H s):Hnd X.A s.heap:=by
 rcases I.hdk with h|⟨a,o,vs,h1,h2,h3⟩
 ·exact .inl h
 ·exact .inr ⟨a,o,vs,h1,(I.hok a _ h2).1,h3⟩
theorem Hnd.keeps{A:Around}{h h':Heap}(x:Hnd A h)(k:∀b o,(∃C,o.cls = .ref C)->h.get? b=some o->h'.get? b=some o):Hnd A h':=by
 rcases x with x|⟨a,o,vs,h1,h2,h3,h4,h5⟩
 ·exact .inl x
 ·exact .inr ⟨a,o,vs,h1,k a o h5 h2,h3,h4,h5⟩
theorem zqq:entryFor table "proto.unchain"=some Builtin.«proto.unchain»:=entryFor_of_tree (by kernel_rfl)
section
variable {prog:Program}{w:World}{A:Around}{E:Value->Shared->Prop}{s:Shared}
theorem zmF{α:Type}{e:Addr}{oe:Obj}{ws:Array Value}{Q:α->Shared->Prop}(hh:Hnd A s.heap)(he:s.heap.get? e=some oe)(hd:oe.data = .fields ws)(hz:2<ws.size)(hc:∀C,oe.cls≠.ref C)
  (k:∀h',SameBut e s.heap h'->(∃o,h'.get? e=some o/\o.cls=oe.cls)->E (.ref e) { s with heap:=h' }):wpAny (model prog w) A (raiseNew (.ref e):Sem α) Q E s:=by
 unfold raiseNew
 refine wpAny_bind (wpAny_handled ?_)
 rcases hh with hh|⟨a,o,vs,h1,h2,h3,h4,C,h5⟩
 ·rw [hh]
  exact wpAny_bind (wpAny_pure (wpAny_throw (k s.heap (SameBut.refl _ _) ⟨oe,he,rfl⟩)))
 ·rw [h1]
  have ne:a≠e:=λz=>by rw [z,he] at h2;cases h2;exact hc C h5
  dsimp only
  rw [if_pos (show (Value.ref a != Value.ref e)=true by simpa using ne)]
  refine wpAny_bind (wpAny_holding (wpAny_runValue (codeAny_builtin zqq ?_)))
  refine wpAny_bind (m:=field (.ref a) 2) (wpAny_field h2 h3 h4 ?_)
  rw [if_pos (show (Value.none==Value.none)=true by rfl)]
  refine wpAny_pure (wpAny_bind ?_)
  show wpAny _ _ (setField (.ref e) 2 (.ref a)) _ _ _
  have dd:=data_mapFields hd (·.setIfInBounds 2 (Value.ref a))
  exact wpAny_setField he hd hz (wpAny_throw (k _ (SameBut.update ..) ⟨_,get?_update_self _ he (isFreed_of_fields dd),Obj.cls_mapFields _ _⟩))
theorem zqh{α:Type}{Q:α->Shared->Prop}(hh:Hnd A s.heap)(k:∀h' e,(∀b o,s.heap.get? b=some o->h'.get? b=some o)->(∃o,h'.get? e=some o/\o.cls = .type "StopIteration")->E (.ref e) { s with heap:=h' }) :
  wpAny (model prog w) A (newExc (.type "StopIteration") []>>=λe=>(raiseNew e:Sem α)) Q E s:=by
 refine wpAny_bind ?_
 simp only [newExc,newTuple]
 refine wpAny_bind (wpAny_newObj_type (wpAny_bind (m:=firstArgMember _ _) (wpAny_of_eq (a:=Value.none) (by first|rfl|(simp only [firstArgMember];rfl)) (wpAny_newObj_type ?_ (by size_fits)))) (by size_fits))
 have old:∀(o1 o2:Obj) b o,s.heap.get? b=some o->((s.heap.push o1).push o2).get? b=some o:=λo1 o2 b o q=>get?_push_of_some _ (get?_push_of_some _ q)
 refine zmF (hh.keeps λb o _ q=>old _ _ b o q) (get?_push_size _ rfl) rfl (by simp;omega) (λC z=>by cases z) λh' sb ⟨o,g,c⟩=>k h' _ (λb o q=>?_) ⟨o,g,c⟩
 refine (sb.2 b (λz=>?_)).trans (old _ _ b o q)
 have:=lt_size q
 rw [z,size_push] at this
 exact absurd (lt_of_succ_lt this) (lt_irrefl _)
theorem zlC{it t:Addr}{i:Nat}{items:Array Value}{Q:Option Value->Shared->Prop}(hh:Hnd A s.heap)(hit:s.heap.IsTupleIter it t i)(ht:s.heap.IsTuple t items)(hx:items[i]?=none)
  (k:∀h',ExtBut it s.heap h'->Q none { s with heap:=h' }):wpAny (model prog w) A (pyNext (.ref it)) Q E s:=by
 obtain ⟨o,ho,hc,hd⟩:=id hit
 obtain ⟨ol,hol,_,nl,hdl⟩:=ht
 unfold pyNext
 refine wpAny_bind (wpAny_attempt (wpAny_callSpecial?_slot (name:=Str.ofString "__next__") hit.typeIs F.slot_tuple_iterator_next (wpAny_call_entry F.slot_tuple_iterator_next hit.typeIs F.entry_tuple_iterator_next ?_ (F.args_tuple_iterator_next_1 _))))
 refine wpAny_bind (m:=field (.ref it) 0) (wpAny_field ho hd (x:=.ref t) rfl ?_)
 rw [if_neg (show ¬ ((Value.ref t==Value.none)=true) by simp)]
 refine wpAny_bind (m:=field (.ref it) 1) (wpAny_field ho hd (x:=.int i 0) rfl (wpAny_bind (m:=seqItems? (.ref t)) (wpAny_seqItems hol hdl ?_)))
 simp only [toNat_natCast,hx]
 refine wpAny_bind (wpAny_rule (wpAny_bind (wpAny_setField ho hd (by simp) ?_)))
 refine zqh (hh.keeps λb q hq e=>(get?_update_other _ _ λz=>?_).trans e) λh' e up ⟨o',g',c'⟩ =>
  wpAny_bind (wpAny_isInstance (T:="StopIteration") (b:=true) ⟨o',g',c'⟩ isSubtype_stop (wpAny_pure (k h' λb q hb z=>up b q ((get?_update_other _ _ (Ne.symm hb)).trans z))))
 obtain ⟨C,hC⟩:=hq
 rw [<- z,ho] at e
 cases e
 rw [hc] at hC
 cases hC
theorem znq{env:Env}{elts:List Expr}{x1}{pos:Pos}{t:Addr}{items:Array Value}{Q:Unit->Shared->Prop}(hh:Hnd A s.heap)(ht:IsTup s.heap t items)(hn:(assignEach elts env).length=items.size)(hstar:(assignEach elts env).findIdx? (·.1)=none)
  (h:∀h',ExtBut s.heap.objs.size s.heap h'->wpAny (model prog w) A (assignInOrder ((assignEach elts env).map (·.2)) items.toList) Q E { s with heap:=h' }):wpAny (model prog w) A (assign (.Tuple elts x1 pos) env (.ref t)) Q E s:=by
 have lt:t≠s.heap.objs.size:=by obtain ⟨o,ho,_⟩:=ht;exact ne_of_lt (lt_size ho)
 have all:List.take items.size (List.drop 0 items.toList)=items.toList:=by rw [List.drop_zero];exact take_of_length_le (by simp)
 have core:wpAny (model prog w) A (unpackItems (.ref t) items.size none) (λvs s'=>∃h',vs=items.toList/\s'={ s with heap:=h' }/\ExtBut s.heap.objs.size s.heap h') E s:=by
  unfold unpackItems
  refine wpAny_bind ?_
  unfold notIterableAtAll
  refine wpAny_bind (wpAny_specialOf ht.typeIs slot_tuple_iter.lookup (wpAny_pure ?_))
  simp only [false_eq_true,if_false]
  refine wpAny_bind (wpAny_holding (iter_tuple ht (wpAny_bind (wpAny_holding (draw_tuple lt items.size 0 _ _ ⟨_,get?_push_size _ rfl,rfl,rfl⟩ (ht.push _) (by omega) λh1 it1 s1=>?_)))))
  rw [all,if_neg (by simp)]
  have t1:IsTup h1 t items:=(ht.push _).extBut s1.extBut lt
  have up1:∀b o,b≠s.heap.objs.size->s.heap.get? b=some o->h1.get? b=some o:=λb o hb e=>s1.extBut b o hb (get?_push_of_some _ e)
  refine wpAny_bind (wpAny_holding (zlC (s:={ s with heap:=h1 }) (hh.keeps λb o _ e=>up1 b o (ne_of_lt (lt_size e)) e) it1 t1 (by simp) λh2 e2=>?_))
  simp only [Option.isSome_none,false_eq_true,if_false]
  exact wpAny_pure ⟨h2,rfl,rfl,λb o hb e=>e2 b o hb (up1 b o hb e)⟩
 rw [assign_Tuple]
 refine wpAny_bind (wpAny_standAt ?_)
 unfold unpack
 rw [hstar,hn]
 refine wpAny_bind (wpAny_holding (wpAny_mono core (λvs s' ⟨h',e1,e2,x⟩=>?_) λ_ _ z=>z))
 subst e1 e2
 exact h h' x
end
theorem zq5{X:Cx}{pos:Pos}{es:List Expr}{k:Nat}{t:TGs}{n:Nat}(h:PGs X es t)(hl:(assignEach es X.env).length=n:=by rfl)(hst:(assignEach es X.env).findIdx? (·.1)=none:=by rfl):PG X (.Tuple es k pos) (zfc X.K n t):=by
 intro Ga s σ H v u Q I r q
 obtain ⟨a,xs,rfl,hx,hn,q⟩:=q
 obtain rfl:u=Value.ref a:=r
 obtain ⟨its,rv,ht,hz⟩:=I.tuple hx
 refine znq I.hnd ht (by rw [hl,<- hn,rv.length];simp) hst λh' ex=>?_
 have I1:Inv X Ga σ H { s with heap:=h' }:=I.kept (t':=s.toks) λb o e=>ex b o (ne_of_lt (lt_size e)) e
 have:=h Ga { s with heap:=h' } σ H xs its Q I1 rv q
 simpa using this
section
variable {prog:Program}{w:World}{A:Around}{E:Value->Shared->Prop}{s:Shared}
end
def Itz(K:PySem.W.Frag)(a b:Addr):It :=
 ⟨λi H=>∃xs ys x y,SqL K H a xs/\SqL K H b ys/\xs[i]?=some x/\ys[i]?=some y,λi H v H'=>∃T x y,H T=none/\v = .ref T/\H'=upd H T (.tup [x,y])/\(∀xs,SqL K H a xs->xs[i]?=some x)/\∀ys,SqL K H b ys->ys[i]?=some y,
  λi H=>∃xs ys,SqL K H a xs/\SqL K H b ys/\xs.length<=i⟩
structure zfj(z TI TO i1 i2 l1 l2:Addr)(i:Nat)(h:Heap):Prop where
 z:IsZip h z TI TO .none
 ti:IsPair h TI (.ref i1) (.ref i2)
 to:∃a b,IsPair h TO a b
 a:h.IsListIter i1 l1 i
 b:h.IsListIter i2 l2 i
theorem zfj.keep{z TI TO i1 i2 l1 l2:Addr}{i:Nat}{h h':Heap}(x:zfj z TI TO i1 i2 l1 l2 i h)(k:∀b∈[z,TI,TO,i1,i2],∀o,h.get? b=some o->h'.get? b=some o):zfj z TI TO i1 i2 l1 l2 i h':=by
 obtain ⟨a1,a2,⟨u,v,a3⟩,a4,a5⟩:=x
 exact ⟨k _ (by simp) _ a1,k _ (by simp) _ a2,⟨u,v,k _ (by simp) _ a3⟩,a4.at λo e=>k _ (by simp) o e,a5.at λo e=>k _ (by simp) o e⟩
def eqL(xs ys:List V):Bool:=xs.length==ys.length&&(List.range xs.length).all λi=>eqV (xs.getD i .non) (ys.getD i .non)
theorem zf7:∀{xs:List V},xs.all zv=true->(∀x∈xs,∀b,x≠.byt b)->eqL xs xs=true:=by
 intro xs h _
 unfold eqL
 rw [beq_self_eq_true,Bool.true_and,all_eq_true]
 intro i hi
 have hlt:=List.mem_range.mp hi
 have hm:xs[i]∈xs:=List.getElem_mem hlt
 have:=all_eq_true.mp h _ hm
 rw [getD_eq_getElem?_getD,List.getElem?_eq_getElem hlt,Option.getD_some]
 cases e:xs[i] with
 | non=>rfl
 | bl b=>simp [eqV]
 | int j=>simp [eqV]
 | str x=>simp [eqV]
 | _=>rw [e] at this;cases this
section
variable {X:Cx}
def zif(K:PySem.W.Frag)(neg:Bool):R2:=λx y H Q=>∃a b xs ys,x = .ref a/\y = .ref b/\SqL K H a xs/\SqL K H b ys/\xs.all zv=true/\ys.all zv=true/\Q (.bl (if neg then !eqL xs ys else eqL xs ys)) H
theorem zhb{Ga:List (Addr×Obj)}{σ:St}{H:Hp}{s:Shared}{a b:Addr}{xs ys:List V}(I:Inv X Ga σ H s)(ha:SqL X.K H a xs)(hb:SqL X.K H b ys)(fx:xs.all zv=true)(fy:ys.all zv=true) :
  ∃is js:List Value,s.heap.IsList a is.toArray/\s.heap.IsList b js.toArray/\xs.length=is.length/\ys.length=js.length/\∀(A:Around)(j:Nat)(h1:j<is.toArray.size)(h2:j<js.toArray.size),SeqAt.EqAt A s is.toArray[j] js.toArray[j] (eqV (xs.getD j .non) (ys.getD j .non)):=by
 obtain ⟨is,r1,p1,_⟩:=I.list ha
 obtain ⟨js,r2,p2,_⟩:=I.list hb
 refine ⟨is,js,p1.isList,p2.isList,r1.length,r2.length,λA j h1 h2=>?_⟩
 have l1:=r1.length
 have l2:=r2.length
 simp only [size_toArray] at h1 h2
 have e1:xs[j]?=some (xs.getD j .non):=by rw [getD_eq_getElem?_getD,List.getElem?_eq_getElem (by omega)];rfl
 have e2:ys[j]?=some (ys.getD j .non):=by rw [getD_eq_getElem?_getD,List.getElem?_eq_getElem (by omega)];rfl
 obtain ⟨u,g1,q1⟩:=r1.get e1
 obtain ⟨v,g2,q2⟩:=r2.get e2
 rw [List.getElem?_eq_getElem h1] at g1
 rw [List.getElem?_eq_getElem h2] at g2
 have f1:=all_eq_true.mp fx _ (mem_of_getElem? e1)
 have f2:=all_eq_true.mp fy _ (mem_of_getElem? e2)
 have z:=zeL (A:=A) (s:=s) q1 q2 f1 f2
 have w1:is.toArray[j]=u:=by simpa using Option.some.inj g1
 have w2:js.toArray[j]=v:=by simpa using Option.some.inj g2
 rw [w1,w2]
 exact z
theorem zit(hu:X.A.units<cLine):OpR X (compareOp .Eq) (zif X.K false):=by
 intro Ga s σ H x y v u Q I rx ry h
 obtain ⟨a,b,xs,ys,rfl,rfl,ha,hb,fx,fy,q⟩:=h
 cases rx
 cases ry
 obtain ⟨is,js,p1,p2,l1,l2,eq⟩:=zhb I ha hb fx fy
 by_cases hz:is.toArray.size=js.toArray.size
 ·refine SeqAt.eq_listAt p1 p2 hz hu (λj h1 h2=>eq _ j h1 h2) ⟨.bl _,H,I,rfl,?_⟩
  have e:eqL xs ys=(List.range is.toArray.size).all λj=>eqV (xs.getD j .non) (ys.getD j .non):=by
   unfold eqL
   simp only [size_toArray] at hz ⊢
   rw [l1,l2,hz]
   simp
  rw [<- e]
  exact q
 ·refine SeqAt.eq_list_lengthsAt p1 p2 (by simpa using hz) hu ⟨.bl false,H,I,rfl,?_⟩
  have e:eqL xs ys=false:=by
   unfold eqL
   have:(xs.length==ys.length)=false:=by simp only [size_toArray] at hz;rw [l1,l2];simpa using hz
   rw [this,Bool.false_and]
  have q':Q (.bl (eqL xs ys)) H:=q
  rw [e] at q'
  exact q'
theorem zhG(hu:X.A.units<cLine):OpR X (compareOp .NotEq) (zif X.K true):=by
 intro Ga s σ H x y v u Q I rx ry h
 obtain ⟨a,b,xs,ys,rfl,rfl,ha,hb,fx,fy,q⟩:=h
 cases rx
 cases ry
 obtain ⟨is,js,p1,p2,l1,l2,eq⟩:=zhb I ha hb fx fy
 have q':Q (.bl (!eqL xs ys)) H:=q
 by_cases hz:is.toArray.size=js.toArray.size
 ·refine SeqAt.RcNeAt.lists p1 p2 hz hu (λj h1 h2=>eq _ j h1 h2) _ _ _ _ ⟨.bl _,H,I,rfl,?_⟩
  have e:eqL xs ys=(List.range is.toArray.size).all λj=>eqV (xs.getD j .non) (ys.getD j .non):=by
   unfold eqL
   simp only [size_toArray] at hz ⊢
   rw [l1,l2,hz]
   simp
  rw [<- e]
  exact q'
 ·refine SeqAt.RcNeAt.lists_lengths p1 p2 (by simpa using hz) hu _ _ _ _ ⟨.bl true,H,I,rfl,?_⟩
  have e:eqL xs ys=false:=by
   unfold eqL
   have:(xs.length==ys.length)=false:=by simp only [size_toArray] at hz;rw [l1,l2];simpa using hz
   rw [this,Bool.false_and]
  rw [e] at q'
  exact q'
theorem Inv.big{Ga:List (Addr×Obj)}{σ:St}{H:Hp}{s:Shared}(I:Inv X Ga σ H s):sysModules<s.heap.objs.size:=by
 have h:mainGlobals<s.heap.objs.size:=(I.mod.glob.keeps I.bk).lt
 exact lt_trans (by decide) h
def zmh:TE:=λ_ H Q=>∀p,H p=none->Q (.ref p) (upd H p (.dK []))
theorem zlu{pos:Pos}:PE X (.Dict [] [] pos) zmh:=λGa s σ H Q I h =>
 wpAny_Dict_empty ⟨.ref s.heap.objs.size,_,I.laid (a:=s.heap.objs.size) (o:=.dK []) (t':=s.toks) (λ_ _ q=>get?_push_of_some _ q) (Nat.le_refl _) ⟨zero_le _,beq_eq_false_iff_ne.mpr (Ne.symm (ne_of_lt I.big)),[],.nil,Heap.DictOf.new s.heap⟩,rfl,h _ (I.hok.fresh (Nat.le_refl _))⟩
def zhU(K:PySem.W.Frag)(ta:TA):TI:=λσ H R=>ta σ H λvs H1=>∃a b,vs=[.ref a,.ref b]/\(∃xs,SqL K H1 a xs)/\(∃ys,SqL K H1 b ys)/\R (Itz K a b) H1
end
theorem zw.mark{c:Bool}{k:Nat}{A:Around}{v:Option Value}(r:zw c k A):zw false k (A.mark v):=⟨λh=>(nomatch h),r.dp,r.un,r.gd⟩
def zN:Expr->Bool
 | .Starred _ _=>false
 | _=>true
theorem zbn{e:Expr}{es:List Expr}{env:Env}(h:zN e=true):starEach (e::es) env=(false,eval e env)::starEach es env:=by
 cases e<;>first|rfl|(exact absurd (show false=true from h) Bool.false_ne_true)
def zaC(es:List Expr):Bool:=es.all zN
theorem ziJ{env:Env}:∀{es:List Expr}(h:zaC es=true),(starEach es env).any (·.1)=false
 | [],_=>rfl
 | e::es,h=>by
  unfold zaC at h
  rw [List.all_cons,and_eq_true] at h
  rw [zbn h.1,any_cons,ziJ h.2]
  rfl
theorem zcF{pos:Pos}{env:Env}{es:List Expr}(h:zaC es=true):(backTo pos (starEach es env)).any (·.1)=false:=by
 have q:=ziJ (env:=env) h
 unfold backTo
 rw [List.any_map]
 exact q
theorem zde{e:Expr}{env:Env}(h:zN e=true):starEach [e] env=[(false,eval e env)]:=(zbn h).trans rfl
section
variable {X:Cx}
theorem zll{e:Expr}{es:List Expr}{te:TE}{t:TA}(ha:PE X e te)(hr:PA X es t)(hp:zN e=true:=by rfl):PA X (e::es) (zd8 te t):=zcZ ha hr (zbn hp)
theorem zpq{id:String}{r:List V->Hp->VK->Prop}{x:Str}{e:Expr}{es:List Expr}{t:TA}{p pos:Pos}(hc:zR X (.builtin id) r)(hg:Gl X x)(hm:X.mg x=none)(hv:bootBuiltins x=some (.builtin id))(ha:PA X (e::es) t)(hp:zN e=true:=by rfl)(hps:zaC es=true:=by rfl)(hn:x≠"__name__":=by decide)(hdb:(x==("__debug__":Str))=false:=by decide):PE X (.Call (.Name x p) (e::es) [] pos) (tCB r t) :=
 ziI hc hg hm hv ha hn hdb (zbn hp) (zcF hps)
theorem zln{T:String}{r:List V->Hp->VK->Prop}{x:Str}{e:Expr}{es:List Expr}{t:TA}{p pos:Pos}(hc:zR X (.type T) r)(hg:Gl X x)(hm:X.mg x=none)(hv:bootBuiltins x=some (.type T))(ha:PA X (e::es) t)(hp:zN e=true:=by rfl)(hps:zaC es=true:=by rfl)(hn:x≠"__name__":=by decide)(hdb:(x==("__debug__":Str))=false:=by decide):PE X (.Call (.Name x p) (e::es) [] pos) (tCB r t) :=
 zkx hc hg hm hv ha hn hdb (zbn hp) (zcF hps)
theorem zkI{tg a:Expr}{ta:TA}{p pos:Pos}(hg:Gl X "range")(hm:X.mg "range"=none)(ha:PA X [a] ta)(hp:zN a=true:=by rfl):PIc true X tg (.Call (.Name "range" p) [a] [] pos) (zdY ta):=zkY hg hm ha (zde hp)
theorem zmU{Ex:Addr->St->Hp->Prop}{C:Addr}{x:Str}{np cpos pos:Pos}{e:Expr}{es:List Expr}{t:TA}(hc:X.calm=true)(T:zaw X Ex)(O:zaE X.K C)(hg:Gl X x)(hm:X.mg x=some (.ref C))(ha:PA X (e::es) t)(hp:zN e=true:=by rfl)(hps:zaC es=true:=by rfl)
  (hdb:(x==("__debug__":Str))=false:=by decide):PS X (.Raise (some (.Call (.Name x np) (e::es) [] cpos)) none pos) (zes C Ex t):=zpx hc T O hg hm ha hdb (zbn hp) (zcF hps)
end
structure New(H:Hp)(p:Addr)(o:HO)(H':Hp):Prop where
 no:H p=none
 at_:H' p=some o
 same:zg H H'
theorem New.mk'{H:Hp}{p:Addr}{o:HO}(h:H p=none):New H p o (upd H p o):=⟨h,zx,λb u e=>by rw [zh (zT e h)];exact e⟩
section
variable {X:Cx}
def zfI(t:TA):TE:=λσ H Q=>t σ H λxs H1=>xs.length<=sizeLine/\∀p H2,New H1 p (.lst xs) H2->p≠sysModules->Q (.ref p) H2
theorem zj1{es:List Expr}{t:TA}{pos:Pos}(h:PA X es t):PE X (.List es pos) (zfI t):=by
 intro Ga s σ H Q I hq
 refine wpAny_List_spliced (thn (h pos Ga s σ H _ I hq) λus s1 ⟨xs,H1,I1,r,z,q⟩=>⟨by rw [<- r.length];exact z,?_⟩)
 have hf:H1 s1.heap.objs.size=none:=I1.hok.fresh (Nat.le_refl _)
 refine ⟨.ref s1.heap.objs.size,upd H1 s1.heap.objs.size (.lst xs),I1.laid (t':=s1.toks) (λb u e=>get?_push_of_some _ e) (Nat.le_refl _) ?_,rfl,q _ _ (.mk' hf) (ne_of_gt I1.big)⟩
 exact ⟨z,us,0,r,get?_push_size _ rfl⟩
def zfp(t:TA):TE:=λσ H Q=>t σ H λxs H1=>xs.length<=sizeLine/\∀p H2,New H1 p (.tup xs) H2->Q (.ref p) H2
theorem zkM{es:List Expr}{t:TA}{R R':List V->Hp->Prop}(hw:∀xs H,R xs H->R' xs H)(h:PA X es t)(pos:Pos)(Ga:List (Addr×Obj))(s:Shared)(σ:St)(H:Hp)(I:Inv X Ga σ H s)(q:t σ H R) :
  wpAny (model X.prog X.w) X.A (spliced (backTo pos (starEach es X.env))) (AP X Ga σ R') X.xe s :=
 thn (h pos Ga s σ H R I q) λ_ _ ⟨vs,H',a,b,c⟩=>⟨vs,H',a,b,hw _ _ c⟩
theorem zr5{es:List Expr}{t:TA}{x1}{pos:Pos}(h:PA X es t):PE X (.Tuple es x1 pos) (zfp t):=by
 have h':PA X es (λσ H Q=>∃R:List V->Hp->Prop,t σ H R/\∀xs H,R xs H->Q xs H):=λpos Ga s σ H Q I ⟨R,q,hw⟩=>zkM hw h pos Ga s σ H I q
 intro Ga s σ H Q I hq
 exact zmL h' Ga s σ H Q I ⟨_,hq,λxs H1 ⟨z,q⟩=>⟨z,λp hp=>q p _ (.mk' hp)⟩⟩
def zfG:TE:=λ_ H Q=>∀p H2,New H p (.dK []) H2->Q (.ref p) H2
theorem zqO{pos:Pos}:PE X (.Dict [] [] pos) zfG:=λGa s σ H Q I h=>zlu Ga s σ H Q I λp hp=>h p _ (.mk' hp)
end
def uR(v:V)(q:Addr->Prop):Prop:=∃a,v = .ref a/\q a
def zf5(to te:TE):TE:=λσ H Q=>to σ H λx H1=>uR x λl=>(∃xs,H1 l=some (.lst xs))/\te σ H1 λy H2=>∃xs,H2 l=some (.lst xs)/\xs.length<sizeLine/\Q .non (upd H2 l (.lst (xs++[y])))
section
variable {X:Cx}
theorem OpR.weak{f:Value->Value->Sem Value}{r r':R2}(h:OpR X f r)(hw:∀x y H Q,r' x y H Q->r x y H Q):OpR X f r' :=
 λGa s σ H x y v u Q I rx ry q=>h Ga s σ H x y v u Q I rx ry (hw x y H Q q)
theorem zR.weak{f:Value}{r r':List V->Hp->VK->Prop}(h:zR X f r)(hw:∀xs H Q,r' xs H Q->r xs H Q):zR X f r' :=
 λGa s σ H xs us Q I rs q=>h Ga s σ H xs us Q I rs (hw xs H Q q)
theorem IxR.weak{r r':R2}(h:IxR X r)(hw:∀x y H Q,r' x y H Q->r x y H Q):IxR X r' :=
 λvalue slice Ga s σ H x y v u Q I rx ry q hs=>h value slice Ga s σ H x y v u Q I rx ry (hw x y H Q q) hs
def za9:R2:=λx y H Q=>(∃i j,x = .int i/\y = .int j/\Q (.int (i+j)) H)\/(∃i j,x = .str i/\y = .str j/\i.length+j.length<=sizeLine/\Q (.str (i++j)) H) \/
 (∃l b xs zs,x = .ref l/\y = .ref b/\H l=some (.lst xs)/\H b=some (.lst zs)/\xs.length+zs.length<=sizeLine/\∀p H2,New H p (.lst (xs++zs)) H2->Q (.ref p) H2)
theorem zal:OpR X (binaryOp .Add) za9:=zkc.or (zkw.or (zng.weak λx y H Q h=>by
 obtain ⟨l,b,xs,zs,e1,e2,h1,h2,h3,h4⟩:=h
 exact ⟨l,b,xs,zs,e1,e2,h1,h2,h3,λp hp=>h4 p _ (.mk' hp)⟩))
def zbr:R2:=λx y H Q=>(∃i j,x = .int i/\y = .int j/\zcP i j/\Q (.int (i*j)) H) \/
 (∃l k xs,x = .ref l/\y = .int k/\H l=some (.lst xs)/\-(2 ^ 63)<=k/\k<2 ^ 63/\xs.length*k.toNat<=sizeLine/\∀p H2,New H p (.lst (replicate k.toNat xs).flatten) H2->Q (.ref p) H2)
theorem zsM:OpR X (binaryOp .Mult) zbr:=zpa.or (zmW.weak λx y H Q h=>by
 obtain ⟨l,k,xs,e1,e2,h1,h2,h3,h5,h4⟩:=h
 exact ⟨l,k,xs,e1,e2,h1,h2,h3,h5,λp hp=>h4 p _ (.mk' hp)⟩)
def uIx:R2:=λx y H Q=>(∃p xs i v,x = .ref p/\y = .int i/\H p=some (.lst xs)/\atI xs i=some v/\Q v H) \/
 (∃p xs i v,x = .ref p/\y = .int i/\H p=some (.tup xs)/\atI xs i=some v/\Q v H)\/(∃z i c,x = .str z/\y = .int i/\z.length<=sizeLine/\atI z.cps.toList i=some c/\Q (.str ⟨#[c]⟩) H)
theorem zbq:IxR X uIx:=zoS.weak λx y H Q h=>by
 rcases h with ⟨p,xs,i,v,e1,e2,h,r⟩|⟨p,xs,i,v,e1,e2,h,r⟩|h
 ·exact .inl ⟨p,xs,i,v,e1,e2,SqL.of h,r⟩
 ·exact .inr (.inl ⟨p,xs,i,v,e1,e2,SqT.of h,r⟩)
 ·exact .inr (.inr h)
def zdm:List V->Hp->VK->Prop:=λxs H Q=>(∃p ys,xs=[.ref p]/\H p=some (.lst ys)/\Q (.int ys.length) H)\/(∃p ys,xs=[.ref p]/\H p=some (.tup ys)/\Q (.int ys.length) H) \/
 (∃z,xs=[.str z]/\z.length<=sizeLine/\Q (.int z.length) H)
theorem zb9:zR X (.builtin "len") zdm:=(zgC.or zrc).weak λxs H Q h=>by
 rcases h with ⟨p,ys,e,h,q⟩|⟨p,ys,e,h,q⟩|h
 ·exact .inl ⟨p,ys,e,.inl (SqL.of h),q⟩
 ·exact .inl ⟨p,ys,e,.inr (SqT.of h),q⟩
 ·exact .inr h
def uEq(neg:Bool):R2:=λx y H Q=>(zbb x y=true/\Q (.bl (if neg then !decide (x=y) else decide (x=y))) H) \/
 (∃a b xs ys,x = .ref a/\y = .ref b/\H a=some (.lst xs)/\H b=some (.lst ys)/\xs.all zv=true/\ys.all zv=true/\Q (.bl (if neg then !eqL xs ys else eqL xs ys)) H)
theorem zbO(hu:X.A.units<cLine):OpR X (compareOp .Eq) (uEq false):=(zsa.or (zit hu)).weak λx y H Q h=>by
 rcases h with h|⟨a,b,xs,ys,e1,e2,h1,h2,r⟩
 ·exact .inl ⟨h.1,by simpa using h.2⟩
 ·exact .inr ⟨a,b,xs,ys,e1,e2,SqL.of h1,SqL.of h2,r⟩
theorem zbA(hu:X.A.units<cLine):OpR X (compareOp .NotEq) (uEq true):=(zsh.or (zhG hu)).weak λx y H Q h=>by
 rcases h with h|⟨a,b,xs,ys,e1,e2,h1,h2,r⟩
 ·exact .inl ⟨h.1,by simpa using h.2⟩
 ·exact .inr ⟨a,b,xs,ys,e1,e2,SqL.of h1,SqL.of h2,r⟩
def zfz(K:PySem.W.Frag)(ta:TE):TT:=λσ H Q=>ta σ H λx H'=>∃k,zbW K x H' k/\Q k H'
theorem zo5{a:Expr}{ta:TE}(ha:PE X a ta)(he:∀whole,isTrue a X.env whole=(do let v<-whole;standAt a.pos;holding [v] (truthy v)):=by intro _;rfl):PT X a (zfz X.K ta):=zsV ha he
def zdS(C:Addr)(ta:TE)(f:Str):TE:=λσ H Q=>ta σ H λx H1=>∃a dx fs v,x = .ref a/\H1 a=some (.ins C dx fs)/\fs.lookup f=some v/\Q v H1
theorem zl5{C:Addr}{e:Expr}{ta:TE}{f:Str}{pos:Pos}(c:Cls X.K C)(n:zbf X.K C f)(he:PE X e ta)(hb:attributeBase e f X.env (eval e X.env)=eval e X.env:=by rfl):PE X (.Attribute e f pos) (zdS C ta f):=by
 intro Ga s σ H Q I h
 refine znx hb (thn (he Ga s σ H _ I h) λu s1 ⟨x,H1,I1,rx,a,dx,fs,v,ex,ea,l,q⟩=>?_)
 subst ex
 obtain rfl:u=Value.ref a:=rx
 exact zlf I1 ea c n l λu' s2 I2 ru=>⟨v,H1,I2,ru,q⟩
def zew(C:Addr)(ta tv:TE)(f:Str):TS:=λD σ H=>tv σ H λy H1=>ta σ H1 λx H2=>∃a dx fs,x = .ref a/\H2 a=some (.ins C dx fs)/\fs.length<1000/\D.nx σ (upd H2 a (.ins C dx (zag f y fs)))
theorem zno{C:Addr}{o value:Expr}{ta tv:TE}{f:Str}{pos pos':Pos}(c:Cls X.K C)(n:zbf X.K C f)(ha:PE X o ta)(hv:PE X value tv)(hs:swapsWith value (some (.Attribute o f pos')) pos.line X.env=pure false:=by rfl):PS X (.Assign [.Attribute o f pos'] value pos) (zew C ta tv f):=by
 intro Ga s σ H D I h
 refine plainObj_wpAny_Assign_Attribute (thn (hv Ga s σ H _ I h) λu s1 ⟨y,H1,I1,ry,q⟩=>thn (ha Ga s1 σ H1 _ I1 q) λov s2 ⟨x,H2,I2,rx,a,dx,fs,ex,ea,l,q2⟩=>?_) hs
 subst ex
 obtain rfl:ov=Value.ref a:=rx
 exact zr8 I2 ea c n l ry λs3 I3=>⟨σ,_,I3,q2⟩
structure GF(P:Program)(w:World)(K:PySem.W.Frag)(mg:Str->Option Value)(base:Heap)(cm:Bool)(k:Nat)(x:Str)(ps:List Str)(sp:Sp):Prop where
 ex:∃(f:Addr)(fd:FuncData),zr P w K mg base CX0 cm k f fd ps sp/\mg x=some (.ref f)/\keepIn K (.ref f)=true/\zaH K fd ps []
structure GM(P:Program)(w:World)(K:PySem.W.Frag)(mg:Str->Option Value)(base:Heap)(cm:Bool)(k:Nat)(C:Addr)(m:Str)(ps:List Str)(sp:Sp):Prop where
 ex:∃(f:Addr)(fd:FuncData),zr P w K mg base CX0 cm k f fd ps sp/\zcd K C m f/\zaH K fd ps []
structure GMX(P:Program)(w:World)(K:PySem.W.Frag)(mg:Str->Option Value)(base:Heap)(cm:Bool)(k:Nat)(C:Addr)(m:Str)(ps:List Str)(sp:Sp):Prop where
 ex:∃(f:Addr)(fd:FuncData),zr P w K mg base (CXW P w) cm k f fd ps sp/\zcd K C m f/\zaH K fd ps []
structure GC(P:Program)(w:World)(K:PySem.W.Frag)(mg:Str->Option Value)(base:Heap)(cm:Bool)(k:Nat)(x:Str)(C:Addr)(ps:List Str)(sp:Sp):Prop where
 ex:∃(f:Addr)(fd:FuncData),zr P w K mg base CX0 cm k f fd ps sp/\mg x=some (.ref C)/\Mk K C f/\zaH K fd ps []
variable {cm:Bool}{k j:Nat}{x m:Str}{C:Addr}{ps:List Str}{sp:Sp}{e o:Expr}{es:List Expr}{t:TA}{ta:TE}{p pos apos:Pos}{Ex:Addr->St->Hp->Prop}
theorem zqa(G:GF X.prog X.w X.K X.mg X.base cm j x ps sp)(hr:zw cm k X.A)(hg:Gl X x)(ha:PA X (e::es) t)(hj:j<=k:=by decide)(hdb:(x==("__debug__":Str))=false:=by decide)(hp:zN e=true:=by rfl)(hps:zaC es=true:=by rfl) :
  PE X (.Call (.Name x p) (e::es) [] pos) (zdF sp [] E0 t):=by
 obtain ⟨f,fd,F,hm,hk,hb⟩:=G.ex
 exact zlQ F (hr.mono hj) hg hm hk hb .nil zdM ha hdb (zbn hp) (zcF hps)
theorem zlD{pl:Sem Bool}(he:PE X o ta)(c:Cls X.K C)(G:GM X.prog X.w X.K X.mg X.base cm j C m ps sp)(hr:zw cm k X.A)(ha:PA X (e::es) t)(hj:j<=k:=by decide)
  (hp:zN e=true:=by rfl) (hps:zaC es=true:=by rfl)
  (ht:eval (.Call (.Attribute o m apos) (e::es) [] pos) X.env=(do
   let ov<-eval o X.env
   standAt apos.atName
   let (f,first)<-holding [ov] (getMethod ov m pl)
   callWith pos f first (backTo pos (starEach (e::es) X.env)) (backToKw pos (keywordEach [] X.env))):=by rfl) :
  PE X (.Call (.Attribute o m apos) (e::es) [] pos) (zbE C m sp [] E0 ta t):=by
 obtain ⟨f,fd,F,hm,hb⟩:=G.ex
 exact zqp he c hm F (hr.mono hj) hb .nil zdM ha (zbn hp) (zcF hps) ht
theorem znn{pl:Sem Bool}(he:PE X o ta)(c:Cls X.K C)(G:GM X.prog X.w X.K X.mg X.base cm j C m ps sp)(hr:zw cm k X.A)(hj:j<=k:=by decide)
  (ht:eval (.Call (.Attribute o m apos) [] [] pos) X.env=(do
   let ov<-eval o X.env
   standAt apos.atName
   let (f,first)<-holding [ov] (getMethod ov m pl)
   callWith pos f first (backTo pos (starEach [] X.env)) (backToKw pos (keywordEach [] X.env))):=by rfl) :
  PE X (.Call (.Attribute o m apos) [] [] pos) (zbE C m sp [] E0 ta zbo):=by
 obtain ⟨f,fd,F,hm,hb⟩:=G.ex
 exact zk1 he c hm F (hr.mono hj) hb .nil zdM ht
theorem zsx{pl:Sem Bool}(he:PE X o ta)(c:Cls X.K C)(T:zaw X Ex)(G:GMX X.prog X.w X.K X.mg X.base cm j C m ps sp)(hr:zw cm k X.A)(ha:PA X (e::es) t)(hj:j<=k:=by decide)
  (hp:zN e=true:=by rfl) (hps:zaC es=true:=by rfl)
  (ht:eval (.Call (.Attribute o m apos) (e::es) [] pos) X.env=(do
   let ov<-eval o X.env
   standAt apos.atName
   let (f,first)<-holding [ov] (getMethod ov m pl)
   callWith pos f first (backTo pos (starEach (e::es) X.env)) (backToKw pos (keywordEach [] X.env))):=by rfl) :
  PE X (.Call (.Attribute o m apos) (e::es) [] pos) (zcW C m sp [] Ex ta t):=by
 obtain ⟨f,fd,F,hm,hb⟩:=G.ex
 exact zn9 he c hm T F (hr.mono hj) hb .nil ha (zbn hp) (zcF hps) ht
structure zd0(H:Hp)(C x dx:Addr)(H':Hp):Prop where
 no:H x=none
 nod:H dx=none
 ne:dx≠x
 at_:H' x=some (.ins C dx [])
 own:H' dx=some (.own x)
 same:zg H H'
theorem zd0.mk'{H:Hp}{C x dx:Addr}(h:H x=none)(hd:H dx=none)(ne:dx≠x):zd0 H C x dx (upd (upd H dx (.own x)) x (.ins C dx [])) :=
 ⟨h,hd,ne,zx,by rw [zh ne,zx],λb u e=>by rw [zh (zT e h),zh (zT e hd)];exact e⟩
def zgl(C:Addr)(sp:Sp)(t:TA):TE:=λσ H Q=>t σ H λvs H1=>∀x dx H2,zd0 H1 C x dx H2->sp (.ref x::vs) H2 (λv H3=>v = .non/\Q (.ref x) H3) E0
def zlJ(C:Addr)(sp:Sp)(Ex:Addr->St->Hp->Prop)(t:TA):TE:=λσ H Q=>t σ H λvs H1=>∀x dx H2,zd0 H1 C x dx H2->sp (.ref x::vs) H2 (λv H3=>v = .non/\Q (.ref x) H3) (XE Ex σ)
theorem zoE{v:V}{pos:Pos}(hg:Gl X x)(hm:∃u,X.mg x=some u/\ze v u)(hd:(x==("__debug__":Str))=false:=by decide):PE X (.Name x pos) (tC v):=by
 obtain ⟨u,hm,r⟩:=hm
 exact zkC hg hm r hd
theorem zqB{o e:Expr}{to te:TE}{apos cpos:Pos}(ho:PE X o to)(he:PE X e te)
  (hbase:attributeBase o "append" X.env (eval o X.env)=eval o X.env:=by rfl)
  (hline:(apos.endLine==cpos.line)=true:=by rfl) (hp:zN e=true:=by rfl):PE X (.Call (.Attribute o "append" apos) [e] [] cpos) (zf5 to te):=by
 intro Ga s σ H Q I h
 have hs:starEach [e] X.env=[(false,eval e X.env)]:=zde hp
 refine wpAny_Call_method_late hbase (by rw [hs];rfl) hline rfl (thn (ho Ga s σ H _ I h) λv s1 ⟨x,H1,I1,r1,l,ex,⟨xs,hx⟩,q1⟩=>?_)
 subst ex
 obtain ⟨h1,h2⟩:=zfB (T:="list") I1 r1 (.inl ⟨rfl,xs,SqL.of hx⟩)
 refine ⟨"list","list.append",PySem.F.plainAttrs_list,PySem.F.slot_list_append,PySem.F.type_list_append,h1,h2,?_⟩
 rw [hs]
 refine Calls.callWith_builtin rfl (Calls.evalArgs_plain ?_)
 have hA:=zcZ he zdE (hs:=hs) cpos Ga s1 σ H1 (λys H2=>match ys with|[y]=>∃xs,H2 l=some (.lst xs)/\xs.length<sizeLine/\Q .non (upd H2 l (.lst (xs++[y])))|_=>False) I1 q1
 rw [hs] at hA
 refine thn hA λus s2 ⟨vs,H2,I2,r2,q2⟩=>?_
 match vs,q2,r2 with
 | [y],⟨xs2,hx2,hl2,q2⟩,r2=>exact zsH Ga s2 σ H2 (.ref l) [y] v us Q I2 r1 r2 ⟨l,xs2,y,rfl,rfl,hx2,hl2,q2⟩
end
section
variable {X:Cx}
def zbp:List V->Hp->VK->Prop:=λxs H Q=>(∃i,xs=[.int i]/\Q (.int i) H)\/∃k,xs=[.bl k]/\Q (.int (if k then 1 else 0)) H
theorem zp4:zR X (.type "int") zbp:=zp7
def zcp:List V->Hp->VK->Prop:=λxs H Q=>∃i,xs=[.int i]/\i.natAbs.log2<1920/\Q (.str (toString i)) H
theorem zlH{i:Int}{H:Hp}{Q:VK}:zbp [.int i] H Q=Q (.int i) H:=by simp [zbp]
theorem zkK{k:Bool}{H:Hp}{Q:VK}:zbp [.bl k] H Q=Q (.int (if k then 1 else 0)) H:=by simp [zbp]
theorem zog{i:Int}{H:Hp}{Q:VK}:zcp [.int i] H Q=(i.natAbs.log2<1920/\Q (.str (toString i)) H):=by simp [zcp]
def zgq:List V->Hp->VK->Prop:=λxs H Q=>∃i j,xs=[.int i,.int j]/\Q (.int (if j>i then j else i)) H
def zhe:List V->Hp->VK->Prop:=λxs H Q=>∃i j,xs=[.int i,.int j]/\Q (.int (if j<i then j else i)) H
theorem zh6(hc:X.calm=true):zR X (.builtin "max") zgq:=zmf hc
theorem zsg(hc:X.calm=true):zR X (.builtin "min") zhe:=zm6 hc
theorem zf2{i j:Int}{H:Hp}{Q:VK}:zgq [.int i,.int j] H Q=Q (.int (if j>i then j else i)) H:=by
 apply propext;constructor
 ·rintro ⟨a,b,e,q⟩;cases e;exact q
 ·exact λq=>⟨i,j,rfl,q⟩
theorem zlA{i j:Int}{H:Hp}{Q:VK}:zhe [.int i,.int j] H Q=Q (.int (if j<i then j else i)) H:=by
 apply propext;constructor
 ·rintro ⟨a,b,e,q⟩;cases e;exact q
 ·exact λq=>⟨i,j,rfl,q⟩
end
section
variable {Y:Cx}{sc:Scope}{N':List Str}{Ga:List (Addr×Obj)}{D:Addr}{fp:List Addr}{s:Shared}{H:Hp}
end
theorem zqQ{t:TG}{u:TGs}{v:V}{r:List V}{σ:St}{H:Hp}{Q:St->Hp->Prop}:zgn t u (v::r) σ H Q=t v σ H λσ' H'=>u r σ' H' Q:=by
 apply propext;constructor
 ·rintro ⟨v,r,e,h⟩;cases e;exact h
 ·exact λh=>⟨v,r,rfl,h⟩
theorem zjG{σ:St}{H:Hp}{Q:St->Hp->Prop}:zfK [] σ H Q=Q σ H:=by
 apply propext;constructor
 ·exact λh=>h.2
 ·exact λh=>⟨rfl,h⟩
section
variable {H:Hp}{Q:VK}{i j:Int}{x y:Str}{a b:Addr}{K:PySem.W.Frag}{g:Int->Int->V}{C:Int->Int->Prop}{k c:Bool}{QB:Bool->Hp->Prop}
theorem zss:za9 (.int i) (.int j) H Q=Q (.int (i+j)) H:=by simp [za9]
theorem zsA:za9 (.str x) (.str y) H Q=(x.length+y.length<=sizeLine/\Q (.str (x++y)) H):=by simp [za9]
theorem zhr:za9 (.ref a) (.ref b) H Q = ∃xs zs,H a=some (.lst xs)/\H b=some (.lst zs)/\xs.length+zs.length<=sizeLine/\∀p H2,New H p (.lst (xs++zs)) H2->Q (.ref p) H2:=by simp [za9]
theorem zht:zbr (.int i) (.int j) H Q=(zcP i j/\Q (.int (i*j)) H):=by simp [zbr]
theorem zpJ:zbr (.ref a) (.int i) H Q = ∃xs,H a=some (.lst xs)/\-(2 ^ 63)<=i/\i<2 ^ 63/\xs.length*i.toNat<=sizeLine/\∀p H2,New H p (.lst (replicate i.toNat xs).flatten) H2->Q (.ref p) H2:=by simp [zbr]
theorem zeh:uIx (.ref a) (.int i) H Q = ∃xs,(H a=some (.lst xs)\/H a=some (.tup xs))/\∃v,atI xs i=some v/\Q v H:=by
 apply propext;constructor
 ·rintro (⟨p,xs,i,v,e1,e2,h,r⟩|⟨p,xs,i,v,e1,e2,h,r⟩|⟨z,i,c,e,_⟩)
  ·cases e1;cases e2;exact ⟨xs,.inl h,v,r⟩
  ·cases e1;cases e2;exact ⟨xs,.inr h,v,r⟩
  ·cases e
 ·rintro ⟨xs,h|h,v,r⟩
  ·exact .inl ⟨_,xs,_,v,rfl,rfl,h,r⟩
  ·exact .inr (.inl ⟨_,xs,_,v,rfl,rfl,h,r⟩)
theorem zeF:uIx (.str x) (.int i) H Q=(x.length<=sizeLine/\∃c,atI x.cps.toList i=some c/\Q (.str ⟨#[c]⟩) H):=by simp [uIx]
theorem zgj:zdm [.ref a] H Q = ∃ys,(H a=some (.lst ys)\/H a=some (.tup ys))/\Q (.int ys.length) H:=by
 apply propext;constructor
 ·rintro (⟨p,xs,e1,h,r⟩|⟨p,xs,e1,h,r⟩|⟨z,e,_⟩)
  ·cases e1;exact ⟨xs,.inl h,r⟩
  ·cases e1;exact ⟨xs,.inr h,r⟩
  ·cases e
 ·rintro ⟨xs,h|h,r⟩
  ·exact .inl ⟨_,xs,rfl,h,r⟩
  ·exact .inr (.inl ⟨_,xs,rfl,h,r⟩)
theorem ziN:zdm [.str x] H Q=(x.length<=sizeLine/\Q (.int x.length) H):=by simp [zdm]
theorem zrh:rI C g (.int i) (.int j) H Q=(C i j/\Q (g i j) H):=by simp [rI]
theorem zod:rI0 g (.int i) (.int j) H Q=Q (g i j) H:=by simp [rI0]
theorem zmC{g:Int->V}:rU g (.int i) H Q=Q (g i) H:=by simp [rU]
theorem zkQ:uEq c (.int i) (.int j) H Q=Q (.bl (if c then !decide (i=j) else decide (i=j))) H:=by simp [uEq,zbb]
theorem zjD:uEq c (.str x) (.str y) H Q=Q (.bl (if c then !decide (x=y) else decide (x=y))) H:=by simp [uEq,zbb]
theorem zlB:uEq c (.bl k) (.bl k') H Q=Q (.bl (if c then !decide (k=k') else decide (k=k'))) H:=by simp [uEq,zbb]
theorem zcV:uEq c (.ref a) (.ref b) H Q = ∃xs ys,H a=some (.lst xs)/\H b=some (.lst ys)/\xs.all zv=true/\ys.all zv=true/\Q (.bl (if c then !eqL xs ys else eqL xs ys)) H:=by simp [uEq,zbb]
def zbR(K:PySem.W.Frag)(v:V)(H:Hp)(Q:Bool->Hp->Prop):Prop:=∃k,zbW K v H k/\Q k H
theorem zjx:zbR K (.bl k) H QB=QB k H:=by simp [zbR,zbW]
theorem zmP:zbR K .non H QB=QB false H:=by simp [zbR,zbW]
theorem zq6:zbR K (.int i) H QB=QB (i != 0) H:=by simp [zbR,zbW]
theorem zrU{ta:TE}{σ:St}:zfz K ta σ H QB=ta σ H λx H'=>zbR K x H' QB:=rfl
def uB(v:V)(q:Bool->Prop):Prop:=∃c,v = .bl c/\q c
theorem zmd{q:Bool->Prop}:uB (.bl k) q=q k:=by simp [uB]
theorem zjU{t:TE}{σ:St}:tB t σ H QB=t σ H λx H1=>uB x λc=>QB c H1:=rfl
theorem zlO{t:TE}{σ:St}:zfZ t σ H QB=t σ H λx H1=>uB x λc=>QB c H1:=rfl
theorem zpz{t u:TE}{σ:St}:zfS t u σ H Q=t σ H λx H1=>uB x λc=>if c=true then u σ H1 Q else Q (.bl false) H1:=rfl
theorem zjQ{t u:TE}{σ:St}:zld t u σ H Q=t σ H λx H1=>uB x λc=>if c=true then Q (.bl true) H1 else u σ H1 Q:=rfl
theorem zpu{t:TE}{σ:St}:zfs t σ H Q=t σ H λx H1=>uB x λc=>Q (.bl (!c)) H1:=rfl
theorem zkG{r r':R2}{ta tb tc:TE}{σ:St}:zga r r' ta tb tc σ H Q=ta σ H λx H1=>tb σ H1 λy H2=>r x y H2 λz H3=>uB z λk=>if k=true then tc σ H3 λw' H4=>r' y w' H4 Q else Q (.bl false) H3:=rfl
theorem zgN{q:Addr->Prop}:uR (.ref a) q=q a:=by simp [uR]
theorem zjT{C:Addr}{ta:TE}{f:Str}{σ:St}:zdS C ta f σ H Q=ta σ H λx H1=>uR x λa=>∃dx fs v,H1 a=some (.ins C dx fs)/\fs.lookup f=some v/\Q v H1:=by
 unfold zdS uR
 congr;funext x H1
 apply propext
 constructor
 ·rintro ⟨a,dx,fs,v,h1,h2,h3,h4⟩;exact ⟨a,h1,dx,fs,v,h2,h3,h4⟩
 ·rintro ⟨a,h1,dx,fs,v,h2,h3,h4⟩;exact ⟨a,dx,fs,v,h1,h2,h3,h4⟩
theorem zjo{C:Addr}{ta tv:TE}{f:Str}{σ:St}{D:zY}:zew C ta tv f D σ H=tv σ H λy H1=>ta σ H1 λx H2=>uR x λa=>∃dx fs,H2 a=some (.ins C dx fs)/\fs.length<1000/\D.nx σ (upd H2 a (.ins C dx (zag f y fs))):=by
 unfold zew uR
 congr;funext x H1;congr;funext x2 H2
 apply propext
 constructor
 ·rintro ⟨a,dx,fs,h1,h2,h3,h4⟩;exact ⟨a,h1,dx,fs,h2,h3,h4⟩
 ·rintro ⟨a,h1,dx,fs,h2,h3,h4⟩;exact ⟨a,dx,fs,h1,h2,h3,h4⟩
theorem zjp{C:Addr}{m:Str}{sp:Sp}{dvs:List V}{E:XK}{ta:TE}{t:TA}{σ:St}:zbE C m sp dvs E ta t σ H Q=ta σ H λx H1=>uR x λa=>∃dx fs,H1 a=some (.ins C dx fs)/\fs.lookup m=none/\t σ H1 λvs H2=>sp (.ref a::(vs++dvs)) H2 Q E:=by
 unfold zbE uR
 congr;funext x H1
 apply propext
 constructor
 ·rintro ⟨a,dx,fs,rfl,h2,h3,h4⟩;exact ⟨a,rfl,dx,fs,h2,h3,h4⟩
 ·rintro ⟨a,rfl,dx,fs,h2,h3,h4⟩;exact ⟨a,dx,fs,rfl,h2,h3,h4⟩
theorem zpX{C:Addr}{m:Str}{sp:Sp}{dvs:List V}{Ex:Addr->St->Hp->Prop}{ta:TE}{t:TA}{σ:St}:zcW C m sp dvs Ex ta t σ H Q=ta σ H λx H1=>uR x λa=>∃dx fs,H1 a=some (.ins C dx fs)/\fs.lookup m=none/\t σ H1 λvs H2=>sp (.ref a::(vs++dvs)) H2 Q (XE Ex σ):=by
 unfold zcW uR
 congr;funext x H1
 apply propext
 constructor
 ·rintro ⟨a,dx,fs,rfl,h2,h3,h4⟩;exact ⟨a,rfl,dx,fs,h2,h3,h4⟩
 ·rintro ⟨a,rfl,dx,fs,h2,h3,h4⟩;exact ⟨a,dx,fs,rfl,h2,h3,h4⟩
end
section
variable {K:PySem.W.Frag}{g:TG}{tb:TS}{D:zY}{σ:St}{H:Hp}{ta:TA}{tl:TE}{wi:TI}{R:It->Hp->Prop}{j:Int}{tt:TT}{te:TE}{ix:List (Option Nat)}{Q:VK}
def zaG(J:It)(g:TG)(tb:TS)(D:zY)(σ:St)(H:Hp):Prop:=∃W:Nat->Nat->St->Hp->Prop,(∃m,W 0 m σ H)/\∀i m σ H,W i m σ H ->
 (J.stop i H/\D.nx σ H)\/(J.go i H/\∃N:St->Hp->Prop,(∀σ' H',N σ' H'->∃m',m'<m/\W (i+1) m' σ' H')/\∀x H',J.yld i H x H'->g x σ H' λσ2 H2=>tb { D with nx:=N,ct:=N,bk:=D.nx } σ2 H2)
theorem zrG:zeX wi g tb D σ H=wi σ H λJ H1=>zaG J g tb D σ H1:=rfl
def uI1(vs:List V)(q:Int->Prop):Prop:=∃j,vs=[.int j]/\q j
theorem zsr{q:Int->Prop}:uI1 [.int j] q=q j:=by simp [uI1]
theorem zqv:zdY ta σ H R=ta σ H λvs H1=>uI1 vs λj=>-(2 ^ 62)<=j/\j<2 ^ 62/\R (Itr 0 j.toNat) H1:=rfl
theorem zsK:ze4 K tl σ H R=tl σ H λx H1=>uR x λa=>(∃xs,SqL K H1 a xs)/\R (Itl K a) H1:=rfl
theorem zsb:zdK K tl σ H R=tl σ H λx H1=>uR x λa=>(∃xs,SqT K H1 a xs)/\R (Itt K a) H1:=rfl
def uR2(vs:List V)(q:Addr->Addr->Prop):Prop:=∃a b,vs=[.ref a,.ref b]/\q a b
theorem zm1{q:Addr->Addr->Prop}{a b:Addr}:uR2 [.ref a,.ref b] q=q a b:=by
 apply propext
 constructor
 ·rintro ⟨c,d,e,h⟩;cases e;exact h
 ·exact λh=>⟨a,b,rfl,h⟩
theorem zoG:zhU K ta σ H R=ta σ H λvs H1=>uR2 vs λa b=>(∃xs,SqL K H1 a xs)/\(∃ys,SqL K H1 b ys)/\R (Itz K a b) H1:=by
 unfold zhU uR2
 rfl
def zax(J:It)(g:TG)(tt:TT)(te:TE)(τ:St)(H:Hp)(Q:VK):Prop:=∃W:Nat->Nat->St->List V->Hp->Prop,(∃m,W 0 m τ [] H)/\∀i m τ ys H2,W i m τ ys H2->ys.length<sizeLine /\
 ((J.stop i H2 ∧ ∀ D, H2 D = none → D ≠ sysModules → Q (.ref D) (upd H2 D (.lst ys))) ∨
  (J.go i H2 ∧ ∀ x H3, J.yld i H2 x H3 → g x τ H3 fun τ1 H4 => tt τ1 H4 fun ok H5 => if ok = true then te τ1 H5 fun y H6 => ∃ m', m' < m ∧ W (i + 1) m' τ1 (ys ++ [y]) H6 else ∃ m', m' < m ∧ W (i + 1) m' τ1 ys H5))
theorem zok:tLC ix wi g tt te σ H Q=wi σ H λJ H1=>zax J g tt te (zaM ix σ) H1 Q:=rfl
theorem zaG.rng{lo:Int}{n:Nat}(Pv:Nat->St->Hp->Prop)(h0:Pv 0 σ H)
  (hs:∀i σ H,i<n->Pv i σ H->g (.int (lo+i)) σ H λσ2 H2=>tb { D with nx:=Pv (i+1),ct:=Pv (i+1),bk:=D.nx } σ2 H2) (hd:∀σ H,Pv n σ H->D.nx σ H):zaG (Itr lo n) g tb D σ H:=zpH Pv h0 hs hd
theorem zaG.lst{a:Addr}{xs:List V}(Pv:Nat->St->Hp->Prop)(h0:Pv 0 σ H)(hl:∀i σ H,i<=xs.length->Pv i σ H->SqL K H a xs)
  (hs:∀i x σ H,xs[i]?=some x->Pv i σ H->g x σ H λσ2 H2=>tb { D with nx:=Pv (i+1),ct:=Pv (i+1),bk:=D.nx } σ2 H2) (hd:∀σ H,Pv xs.length σ H->D.nx σ H):zaG (Itl K a) g tb D σ H:=zn4 Pv h0 hl hs hd
def zbC(N:St->List V->Hp->Prop)(ys:List V)(τ1:St)(te:TE)(ok:Bool)(H5:Hp):Prop:=if ok=true then te τ1 H5 λy H6=>N τ1 (ys++[y]) H6 else N τ1 ys H5
theorem zni{N:St->List V->Hp->Prop}{ys:List V}{τ:St}:zbC N ys τ te true H=te τ H λy H6=>N τ (ys++[y]) H6:=rfl
theorem zl4{N:St->List V->Hp->Prop}{ys:List V}{τ:St}:zbC N ys τ te false H=N τ ys H:=rfl
theorem zax.rng{lo:Int}{n:Nat}{τ:St}(Pv:Nat->St->List V->Hp->Prop)(hz:∀i τ ys H,Pv i τ ys H->ys.length<sizeLine)(h0:Pv 0 τ [] H)
  (hs:∀(N:St->List V->Hp->Prop) i τ ys H,i<n->Pv i τ ys H->(∀τ ys H,Pv (i+1) τ ys H->N τ ys H)->g (.int (lo+i)) τ H λτ1 H4=>tt τ1 H4 λok H5=>zbC N ys τ1 te ok H5) (hd:∀τ ys H,Pv n τ ys H->∀D H',New H D (.lst ys) H'->Q (.ref D) H'):zax (Itr lo n) g tt te τ H Q:=by
 refine ⟨λi m τ ys H=>m=n-i/\i<=n/\Pv i τ ys H,⟨n,by simp,zero_le _,h0⟩,?_⟩
 rintro i m τ ys H2 ⟨rfl,hi,p⟩
 refine ⟨hz i τ ys H2 p,?_⟩
 by_cases hlt:i<n
 ·refine .inr ⟨hlt,λx H' y=>?_⟩
  obtain ⟨e,y⟩:=y
  subst e y
  exact hs (λτ1 ys H=>∃m',m'<n-i/\m'=n-(i+1)/\i+1<=n/\Pv (i+1) τ1 ys H) i τ ys _ hlt p λτ1 zs H q=>⟨n-(i+1),by omega,rfl,hlt,q⟩
 ·have e:i=n:=by omega
  subst e
  exact .inl ⟨Nat.le_refl _,λD hD _=>hd τ ys H2 p D _ (.mk' hD)⟩
theorem zax.zip{a b:Addr}{xs ys:List V}{τ:St}(hlen:xs.length=ys.length)(Pv:Nat->St->List V->Hp->Prop)(hz:∀i τ zs H,Pv i τ zs H->zs.length<sizeLine)(ha:∀i τ zs H,Pv i τ zs H->SqL K H a xs/\SqL K H b ys)(h0:Pv 0 τ [] H)
  (hs:∀(N:St->List V->Hp->Prop) i x y p τ zs H,xs[i]?=some x->ys[i]?=some y->Pv i τ zs H->H p=none->(∀τ zs H,Pv (i+1) τ zs H->N τ zs H)->g (.ref p) τ (upd H p (.tup [x,y])) λτ1 H4=>tt τ1 H4 λok H5=>zbC N zs τ1 te ok H5) (hd:∀τ zs H,Pv xs.length τ zs H->∀D H',New H D (.lst zs) H'->Q (.ref D) H'):zax (Itz K a b) g tt te τ H Q:=by
 refine ⟨λi m τ zs H=>m=xs.length-i/\i<=xs.length/\Pv i τ zs H,⟨xs.length,by simp,zero_le _,h0⟩,?_⟩
 rintro i m τ zs H2 ⟨rfl,hi,p⟩
 refine ⟨hz i τ zs H2 p,?_⟩
 obtain ⟨qa,qb⟩:=ha i τ zs H2 p
 by_cases hlt:i<xs.length
 ·refine .inr ⟨⟨xs,ys,xs[i],ys[i]'(by omega),qa,qb,List.getElem?_eq_getElem hlt,List.getElem?_eq_getElem _⟩,λv H' y=>?_⟩
  obtain ⟨T,x,y,hT,rfl,rfl,hx,hy⟩:=y
  exact hs (λτ1 ys H=>∃m',m'<xs.length-i/\m'=xs.length-(i+1)/\i+1<=xs.length/\Pv (i+1) τ1 ys H) i x y T τ zs _ (hx _ qa) (hy _ qb) p hT λτ1 zs H q=>⟨xs.length-(i+1),by omega,rfl,hlt,q⟩
 ·have e:i=xs.length:=by omega
  subst e
  exact .inl ⟨⟨xs,ys,qa,qb,Nat.le_refl _⟩,λD hD _=>hd τ zs H2 p D _ (.mk' hD)⟩
end
section
variable {X:Cx}
def zdT:V->Option Int->Option Int->Hp->VK->Prop:=λx lo hi H Q=>∃z,x = .str z/\z.length<=sizeLine/\Q (.str (Txt.slice z lo hi)) H
theorem zq1{h:Heap}{sl:Addr}{vl vu:Value}{lo hi:Option Int}(hs:h.IsSliceOf sl vl vu .none)(pl:IsPart vl lo)(pu:IsPart vu hi):∃l u:Option (Int×Tok),h.IsSlice sl l u none/\l.map (·.1)=lo/\u.map (·.1)=hi:=by
 obtain ⟨o,h1,h2,h3⟩:=hs
 cases pl with
 | none =>
  cases pu with
  | none=>exact ⟨none,none,⟨o,h1,h2,h3⟩,rfl,rfl⟩
  | int j t=>exact ⟨none,some (j,t),⟨o,h1,h2,h3⟩,rfl,rfl⟩
 | int i t' =>
  cases pu with
  | none=>exact ⟨some (i,t'),none,⟨o,h1,h2,h3⟩,rfl,rfl⟩
  | int j t=>exact ⟨some (i,t'),some (j,t),⟨o,h1,h2,h3⟩,rfl,rfl⟩
theorem zrK:SlR X zdT:=by
 intro Ga s σ H x v vl vu lo hi sl Q I rx hs pl pu h
 obtain ⟨z,rfl,hz,q⟩:=h
 obtain ⟨t,rfl⟩:=rx
 obtain ⟨l,u,hS,e1,e2⟩:=zq1 hs pl pu
 subst e1 e2
 exact ⟨"str",_,F.slot_str_getitem.lookup,typeIs_str _ _ _,wpAny_getItem_str_slice (l:=l) (u:=u) (st:=none) hS rfl
  (post_val_or_str ⟨Nat.le_trans (Txt.slice_le z _ _) hz,λt' k=>⟨.str _,H,I.tok k,⟨_,rfl⟩,q⟩⟩)⟩
def uSl:V->Option Int->Option Int->Hp->VK->Prop:=λx lo hi H Q=>(∃a xs,x = .ref a/\H a=some (.lst xs)/\∀p H2,New H p (.lst (zaq xs lo hi)) H2->Q (.ref p) H2)\/zdT x lo hi H Q
theorem SlR.weak{r r':V->Option Int->Option Int->Hp->VK->Prop}(h:SlR X r)(hw:∀x l u H Q,r' x l u H Q->r x l u H Q):SlR X r' :=
 λGa s σ H x v vl vu lo hi sl Q I rx hs pl pu q=>h Ga s σ H x v vl vu lo hi sl Q I rx hs pl pu (hw _ _ _ _ _ q)
theorem zdO:SlR X uSl:=((zr6 (X:=X)).or zrK).weak λx l u H Q h=>by
 rcases h with ⟨a,xs,e,h,q⟩|h
 ·exact .inl ⟨a,xs,e,SqL.of h,λp hp=>q p _ (.mk' hp)⟩
 ·exact .inr h
def zeS(v:V)(q:Int->Prop):Prop:=∃i,v = .int i/\q i
theorem zsS{i:Int}{q:Int->Prop}:zeS (.int i) q=q i:=by simp [zeS]
theorem zqP{t:TE}{σ:St}{H:Hp}{Q:Option Int->Hp->Prop}:zfv t σ H Q=t σ H λx H1=>zeS x λi=>Q (some i) H1:=rfl
theorem zhv{z:Str}{lo hi:Option Int}{H:Hp}{Q:VK}:uSl (.str z) lo hi H Q=(z.length<=sizeLine/\Q (.str (Txt.slice z lo hi)) H):=by simp [uSl,zdT]
theorem ziD{a:Addr}{lo hi:Option Int}{H:Hp}{Q:VK}:uSl (.ref a) lo hi H Q = ∃xs,H a=some (.lst xs)/\∀p H2,New H p (.lst (zaq xs lo hi)) H2->Q (.ref p) H2:=by simp [uSl,zdT]
theorem zqZ{ys:List Str}:∀{us:List Value},zi (ys.map V.str) us->StrsAre us ys:=by
 induction ys with
 | nil=>intro us r;rw [map_nil] at r;cases r;exact .nil
 | cons n ns ih =>
  intro us r
  rw [map_cons] at r
  cases r with
  | cons r1 r2 =>
   obtain ⟨t,e⟩:=r1
   subst e
   exact .cons n t (ih r2)
def zdV:V->List V->Hp->VK->Prop:=λx vs H Q=>∃z p ys,x = .str z/\vs=[.ref p]/\H p=some (.lst (ys.map V.str))/\(ys.map (·.length)).sum+ys.length*z.length<=16777216/\Q (.str (Txt.join z ys)) H
theorem zo3:MtR X "str.join" zdV:=by
 intro Ga s σ H x xs v us Q I rx rs h
 obtain ⟨z,p,ys,rfl,rfl,hp,hz,q⟩:=h
 obtain ⟨t,rfl⟩:=rx
 cases rs with
 | cons r1 rr =>
  cases rr
  cases (show _=Value.ref p from r1)
  obtain ⟨its,r,ht,_⟩:=I.list (SqL.of (K:=X.K) hp)
  exact join_list ht.isList (by simpa using zqZ r) hz λt' k=>⟨.str _,H,I.tok k,⟨_,rfl⟩,q⟩
def zc0(z:Str)(n:Nat):Str:=⟨((replicate n z.cps.toList).flatten).toArray⟩
theorem zis{α:Type}(l:List α):∀(n:Nat)(acc:List α),foldl (λx1 x2:Array α=>x1++x2) acc.toArray (replicate n l.toArray)=(acc++(replicate n l).flatten).toArray
 | 0,acc=>by simp
 | n+1,acc=>by
  rw [replicate_succ,List.foldl_cons,List.append_toArray,zis l n (acc++l)]
  simp [replicate_succ]
theorem zos(z:Str)(n:Nat):(⟨(replicate n z.cps).foldl (·++·) #[]⟩:Str)=zc0 z n:=by
 have h:=zis z.cps.toList n []
 unfold zc0
 congr 1
theorem zdh{α:Type}(l:List α):∀n:Nat,((replicate n l).flatten).length=l.length*n
 | 0=>by simp
 | n+1=>by rw [replicate_succ,flatten_cons,length_append,zdh l n,Nat.mul_succ];omega
theorem zsY(z:Str)(n:Nat):(zc0 z n).length=z.length*n:=by
 show (((replicate n z.cps.toList).flatten).toArray).size=_
 rw [size_toArray,zdh]
 rfl
def zc5:R2:=λx y H Q=>∃z n,x = .str z/\y = .int n/\1<n/\n<2 ^ 31/\z.length≠0/\z.length*n.toNat<=sizeLine/\Q (.str (zc0 z n.toNat)) H
theorem zm7:OpR X (binaryOp .Mult) zc5:=by
 intro Ga s σ H x y v u Q I rx ry h
 obtain ⟨z,n,rfl,rfl,h1,h2,h3,h4,q⟩:=h
 obtain ⟨t,rfl⟩:=rx
 obtain ⟨t',rfl⟩:=ry
 have hs:sizeLine=16777216:=sizeLine_eq
 have hc:(n==1||z.length==0)=false:=by
  rw [Bool.or_eq_false_iff]
  exact ⟨beq_eq_false_iff_ne.mpr (by omega),beq_eq_false_iff_ne.mpr h3⟩
 have hz:z.length<=16777216:=by
  have:z.length*1<=z.length*n.toNat:=Nat.mul_le_mul_left _ (by omega)
  omega
 refine PySem.P.mul_str ?_ ?_ ?_ ?_
 ·rw [decide_eq_false (show ¬ n < -(2 ^ 63:Int) by omega),decide_eq_false (show ¬ n ≥ 2 ^ 63 by omega)];rfl
 ·intro _ _ hgt
  have:(16777216:Int)<=(2 ^ 63-1) / n:=Int.le_ediv_of_mul_le (by omega) (by omega)
  omega
 ·intro _ _
  exact decide_eq_false (by omega)
 ·rw [if_neg (show ¬ n<1 by omega),if_neg (by rw [hc];exact Bool.false_ne_true),zos]
  exact ⟨by rw [zsY];omega,⟨.str _,H,I.tok _,⟨_,rfl⟩,q⟩⟩
theorem zir{p:Addr}{k:Int}{v:V}{H:Hp}{Q:Hp->Prop}:zfe (.ref p) (.int k) v H Q = ∃xs j,H p=some (.lst xs)/\ixN xs.length k=some j/\Q (upd H p (.lst (xs.set j v))):=by
 apply propext;constructor
 ·rintro ⟨p',xs,k',j,e1,e2,h⟩;cases e1;cases e2;exact ⟨xs,j,h⟩
 ·rintro ⟨xs,j,h⟩;exact ⟨p,xs,k,j,rfl,rfl,h⟩
def zoh:List V->Hp->VK->Prop:=λxs H Q=>∃p ys,xs=[.ref p]/\(H p=some (.lst ys)\/H p=some (.tup ys))/\∀l H2,New H l (.lst ys) H2->Q (.ref l) H2
theorem zpy{a:Addr}{H:Hp}{Q:VK}:zoh [.ref a] H Q = ∃ys,(H a=some (.lst ys)\/H a=some (.tup ys))/\∀l H2,New H l (.lst ys) H2->Q (.ref l) H2:=by
 apply propext;constructor
 ·rintro ⟨p,ys,e,h⟩;cases e;exact ⟨ys,h⟩
 ·rintro ⟨ys,h⟩;exact ⟨a,ys,rfl,h⟩
def zrl(to:TE):TE:=λσ H Q=>to σ H λx H1=>uR x λl=>∃xs,H1 l=some (.lst xs)/\Q .non (upd H1 l (.lst []))
theorem zhf{z:Str}{p:Addr}{H:Hp}{Q:VK}:zdV (.str z) [.ref p] H Q = ∃ys:List Str,H p=some (.lst (ys.map V.str))/\(ys.map (·.length)).sum+ys.length*z.length<=16777216/\Q (.str (Txt.join z ys)) H:=by
 apply propext;constructor
 ·rintro ⟨z',p',ys,e1,e2,h⟩;cases e1;cases e2;exact ⟨ys,h⟩
 ·rintro ⟨ys,h⟩;exact ⟨z,p,ys,rfl,rfl,h⟩
end
def Ite(K:PySem.W.Frag)(a:Addr):It :=
 ⟨λi H=>∃xs x,SqL K H a xs/\xs[i]?=some x,λi H v H'=>∃T x,H T=none/\v = .ref T/\H'=upd H T (.tup [.int i,x])/\∀xs,SqL K H a xs->xs[i]?=some x,λi H=>∃xs,SqL K H a xs/\xs.length<=i⟩
structure zlI(e it l:Addr)(i:Nat)(h:Heap):Prop where
 z:∃old,IsEnum h e it i old
 a:h.IsListIter it l i
theorem zrm{P:Program}{w:World}{K:PySem.W.Frag}{elts:List Expr}{kk:Nat}{tp:Pos}{l e it:Addr}(hne:e≠it) :
  zbH true P w K (.Tuple elts kk tp) (Ite K l) [e,it] e (zlI e it l) where
 mem:=by simp
 obj:=λi h st b hb=>by
  obtain ⟨⟨old,a1⟩,⟨o4,a4,_,d4⟩⟩:=st
  simp only [mem_cons,not_mem_nil,or_false] at hb
  rcases hb with rfl|rfl
  ·exact ⟨_,a1,λv q=>nomatch q⟩
  ·exact ⟨_,a4,λv q=>by rw [d4] at q;cases q⟩
 keep:=λi h h' st k=>by
  obtain ⟨⟨old,a1⟩,a4⟩:=st
  exact ⟨⟨old,k _ (by simp) _ a1⟩,a4.at λo e=>k _ (by simp) o e⟩
 item:=by
  intro X hP hw hK hc i Ga s σ H E I hf st hg
  subst hP hw hK
  obtain ⟨xs,x,hq1,hx⟩:=hg
  obtain ⟨is1,rv1,p1,hz1⟩:=I.list hq1
  obtain ⟨u1,hu1,ru1⟩:=rv1.get hx
  obtain ⟨⟨old,a1⟩,a4⟩:=st
  refine wpAny_pyNext_enum_item a1 a4 p1.isList (x:=u1) (by simpa using hu1) hne λh' b1 b2 b3 b4 b5=>?_
  refine ⟨_,rfl,wpAny_letOwnedTupleGo_enum (s:={ s with heap:=h',toks:=s.toks+1 }) b1 λh2 c1 c2=>?_⟩
  have zlt:e<s.heap.objs.size:=lt_size a1
  have nz:s.heap.objs.size≠e:=ne_of_gt zlt
  have all:∀c o,c≠e->c≠it->s.heap.get? c=some o->h2.get? c=some o:=λc o n1 n2 q=>c2.extBut c o n1 (b5 c o n1 n2 q)
  have tT:h2.get? s.heap.objs.size=some { cls:=.type "tuple",data:=.seq #[.int i s.toks,u1] }:=c2.extBut _ _ nz b3
  have hfr:H s.heap.objs.size=none:=I.hok.fresh (Nat.le_refl _)
  have hok0:HOk X.prog X.w H h2:=λb u q0=>by
   refine (I.hok b u q0).stay (λc v hc q=>?_) (λ_ q=>q) λ_ _ q=>q
   have hnn:∀d∈[e,it],c≠d:=λd hd w=>by
    have fd:=(hf d hd).1
    rcases hc with k|k
    ·rw [k] at w;rw [w,fd] at q0;cases q0
    ·rw [w,fd] at k;cases k
   exact all c v (hnn e (by simp)) (hnn it (by simp)) q
  have lt0:∀b o,s.heap.get? b=some o->b≠s.heap.objs.size:=λb o e=>ne_of_lt (lt_size e)
  have I2:Inv X Ga σ (upd H s.heap.objs.size (.tup [.int i,x])) { s with heap:=h2,toks:=s.toks+1 }:=by
   refine I.step (g':=s.gens) (d':=s.drawn) (t':=s.toks+1) (ch:=[e,it]) (λb hb=>?_) (λb o _ _ hb q _=>?_) (λb o _ _ hb q _=>?_) (λb o _ q n=>?_) (λb o hb q=>?_) (λb ps q=>?_) (λb o u q=>?_) (λb ps q=>?_) (λm hm=>?_) (hok0.add hfr ?_) I.bare
   ·obtain ⟨f0,f1,f2,f3,f4,f5⟩:=hf b hb
    exact ⟨f3,f1,f4,f5⟩
   ·simp only [mem_cons,not_mem_nil,or_false,not_or] at hb
    exact all b o hb.1 hb.2 q
   ·simp only [mem_cons,not_mem_nil,or_false,not_or] at hb
    exact ⟨o.slots,all b o hb.1 hb.2 q⟩
   ·rw [zh (lt0 b o q)];exact n
   ·simp only [mem_cons,not_mem_nil,or_false,not_or] at hb
    exact ⟨o,all b o hb.1 hb.2 q⟩
   ·rw [zh (zT q hfr)];exact q
   ·rw [zh (zT q hfr)];exact q
   ·exact ⟨#[],by rw [zh (zT q hfr),q];simp⟩
   ·obtain ⟨o,es,ep,ho,r⟩:=hm
    exact ⟨o,es,ep,all _ o (Ne.symm (hf e (by simp)).2.1) (Ne.symm (hf it (by simp)).2.1) ho,r⟩
   ·exact ⟨by show 2<=sizeLine;decide,[.int i s.toks,u1],.cons ⟨_,rfl⟩ (.cons ru1 .nil),⟨_,tT,rfl,_,rfl⟩⟩
  refine ⟨.ref s.heap.objs.size,_,I2,rfl,⟨_,x,hfr,rfl,rfl,λzs hz=>by rw [I.list_inj hz hq1];exact hx⟩,?_,λb hb=>?_⟩
  ·exact ⟨⟨_,c1⟩,b2.extBut c2.extBut (Ne.symm hne)⟩
  ·have ne:b≠s.heap.objs.size:=λq=>by
    have:b<s.heap.objs.size:=by
     simp only [mem_cons,not_mem_nil,or_false] at hb
     obtain ⟨o4,a4,_⟩:=a4
     rcases hb with rfl|rfl
     ·exact zlt
     ·exact lt_size a4
    exact absurd (q ▸ this) (lt_irrefl _)
   rw [zh ne]
   exact (hf b hb).1
 done:=by
  intro X hP hw hK hc i Ga s σ H E I hf st hg
  subst hP hw hK
  obtain ⟨xs,hq1,hx⟩:=hg
  obtain ⟨is1,rv1,p1,hz1⟩:=I.list hq1
  have hl:=rv1.length
  obtain ⟨⟨old,a1⟩,a4⟩:=st
  refine wpAny_pyNext_enum_end (I.ok.hd (hc rfl)) a1 a4 p1.isList (by simp;omega) λh' up=>⟨rfl,?_⟩
  refine I.step (g':=s.gens) (d':=s.drawn) (t':=s.toks) (ch:=[it]) (λb hb=>?_) (λb o _ _ hb q _=>?_) (λb o _ _ hb q _=>?_) (λ_ _ _ _ n=>n) (λb o hb q=>?_) (λ_ _ q=>q) (λ_ _ _ q=>q) (λb ps q=>⟨#[],by rw [q];simp⟩) (λm hm=>?_) (λb u q0=>?_) I.bare
  ·have hb':b∈[e,it]:=by simp only [mem_cons,not_mem_nil,or_false] at hb ⊢;exact .inr hb
   obtain ⟨f0,f1,f2,f3,f4,f5⟩:=hf b hb'
   exact ⟨f3,f1,f4,f5⟩
  ·simp only [mem_cons,not_mem_nil,or_false] at hb
   exact up b o hb q
  ·simp only [mem_cons,not_mem_nil,or_false] at hb
   exact ⟨o.slots,up b o hb q⟩
  ·simp only [mem_cons,not_mem_nil,or_false] at hb
   exact ⟨o,up b o hb q⟩
  ·obtain ⟨o,es,ep,ho,r⟩:=hm
   exact ⟨o,es,ep,up _ o (Ne.symm (hf it (by simp)).2.1) ho,r⟩
  ·refine (I.hok b u q0).stay (λc v hc q=>?_) (λ_ q=>q) λ_ _ q=>q
   have hnn:c≠it:=λw=>by
    have fd:=(hf it (by simp)).1
    rcases hc with k|k
    ·rw [k] at w;rw [w,fd] at q0;cases q0
    ·rw [w,fd] at k;cases k
   exact up c v hnn q
 self:=λ_ _ _ _ _ st h=>by
  obtain ⟨old,a1⟩:=st.z
  exact wpAny_pyIter_enum a1 h
section
variable {X:Cx}
def zem(K:PySem.W.Frag)(ta:TA):TI:=λσ H R=>ta σ H λvs H1=>∃a,vs=[.ref a]/\(∃xs,SqL K H1 a xs)/\R (Ite K a) H1
theorem zqe{elts:List Expr}{kk:Nat}{tp p pos:Pos}{a:Expr}{ta:TA}(hg:Gl X "enumerate")(hm:X.mg "enumerate"=none)(ha:PA X [a] ta)(hp:zN a=true:=by rfl) :
  PIc true X (.Tuple elts kk tp) (.Call (.Name "enumerate" p) [a] [] pos) (zem X.K ta):=by
 intro Ga s σ H R I h
 have hs:starEach [a] X.env=[(false,eval a X.env)]:=zde hp
 refine Call_ (zds I hg hm boot_enumerate (PyProof.Rows.callWith_type1 (thn (ha pos Ga s σ H _ I h) λus s1 ⟨vs,H1,I1,r1,q1⟩=>?_) hs rfl))
 obtain ⟨l1,e,⟨xs,h1⟩,q⟩:=q1
 subst e
 cases r1 with
 | cons r rr =>
  cases rr
  cases (show _=Value.ref l1 from r)
  obtain ⟨is1,rv1,p1,_⟩:=I1.list h1
  refine call_enumerate_list p1.isList λh' a1 a4 a6 a7=>wpAny_pyIter_enum (s:={ s1 with heap:=h' }) a1 ?_
  refine ⟨_,_,_,_,H1,rfl,I1.kept (t':=s1.toks) a7,zrm (Nat.succ_ne_self _),⟨⟨_,a1⟩,a4⟩,λb hb=>?_,q⟩
  have le:s1.heap.objs.size<=b:=by
   simp only [mem_cons,not_mem_nil,or_false] at hb
   rcases hb with rfl|rfl<;>omega
  exact I1.fpOk le (I1.hok.fresh le)
end
section
variable {K:PySem.W.Frag}{g:TG}{tb:TS}{D:zY}{σ:St}{H:Hp}{ta:TA}{R:It->Hp->Prop}
def uR1(vs:List V)(q:Addr->Prop):Prop:=∃a,vs=[.ref a]/\q a
theorem zaT{q:Addr->Prop}{a:Addr}:uR1 [.ref a] q=q a:=by
 apply propext;constructor
 ·rintro ⟨c,e,h⟩;cases e;exact h
 ·exact λh=>⟨a,rfl,h⟩
theorem zj4:zem K ta σ H R=ta σ H λvs H1=>uR1 vs λa=>(∃xs,SqL K H1 a xs)/\R (Ite K a) H1:=rfl
theorem zaG.enum{a:Addr}{xs:List V}(Pv:Nat->St->Hp->Prop)(h0:Pv 0 σ H)(hl:∀i σ H,i<=xs.length->Pv i σ H->SqL K H a xs)
  (hs:∀i x p σ H,xs[i]?=some x->Pv i σ H->H p=none->g (.ref p) σ (upd H p (.tup [.int i,x])) λσ2 H2=>tb { D with nx:=Pv (i+1),ct:=Pv (i+1),bk:=D.nx } σ2 H2) (hd:∀σ H,Pv xs.length σ H->D.nx σ H):zaG (Ite K a) g tb D σ H:=by
 refine ⟨λi m σ H=>m=xs.length-i/\i<=xs.length/\Pv i σ H,⟨xs.length,by simp,zero_le _,h0⟩,?_⟩
 rintro i m σ H ⟨rfl,hi,p⟩
 have q:=hl i σ H hi p
 by_cases hlt:i<xs.length
 ·refine .inr ⟨⟨xs,xs[i],q,by simp [hlt]⟩,Pv (i+1),λσ' H' p'=>⟨xs.length-(i+1),by omega,rfl,hlt,p'⟩,λx H' y=>?_⟩
  obtain ⟨T,z,hT,rfl,rfl,hz⟩:=y
  exact hs i z T σ _ (hz xs q) p hT
 ·have e:i=xs.length:=by omega
  subst e
  exact .inl ⟨⟨xs,q,Nat.le_refl _⟩,hd σ H p⟩
end
section
variable {X:Cx}
def zom(C:Addr)(ta tv:TE)(rd:V->V->Hp->VK->Prop)(f:Str):TS:=λD σ H=>ta σ H λx H1=>uR x λa=>∃dx fs v,H1 a=some (.ins C dx fs)/\fs.lookup f=some v /\
 tv σ H1 λy H2=>rd v y H2 λz H3=>∃dx' fs',H3 a=some (.ins C dx' fs')/\fs'.length<1000/\D.nx σ (upd H3 a (.ins C dx' (zag f z fs')))
theorem zrW{i j:Int}{H:Hp}{Q:VK}:zhB (.int i) (.int j) H Q=Q (.int (i+j)) H:=by simp [zhB]
theorem zjK{i j:Int}{H:Hp}{Q:VK}:zhj (.int i) (.int j) H Q=Q (.int (i-j)) H:=by simp [zhj]
def zbu(neg:Bool):R2:=λx y H Q=>y = .non/\Q (.bl (if neg then !decide (x = .non) else decide (x = .non))) H
theorem zkd{c:Bool}{H:Hp}{Q:VK}:zbu c .non .non H Q=Q (.bl (if c then false else true)) H:=by simp [zbu]
theorem zjn{c:Bool}{i:Int}{H:Hp}{Q:VK}:zbu c (.int i) .non H Q=Q (.bl (if c then true else false)) H:=by simp [zbu]
def zbQ:R2:=λx y H Q=>zbr x y H Q\/zc5 x y H Q
theorem zen:OpR X (binaryOp .Mult) zbQ:=zsM.or zm7
theorem zlr{i j:Int}{H:Hp}{Q:VK}:zbQ (.int i) (.int j) H Q=(zcP i j/\Q (.int (i*j)) H):=by simp [zbQ,zht,zc5]
theorem zmA{a:Addr}{i:Int}{H:Hp}{Q:VK}:zbQ (.ref a) (.int i) H Q=zbr (.ref a) (.int i) H Q:=by simp [zbQ,zc5]
theorem zox{z:Str}{i:Int}{H:Hp}{Q:VK}:zbQ (.str z) (.int i) H Q=(1<i/\i<2 ^ 31/\z.length≠0/\z.length*i.toNat<=sizeLine/\Q (.str (zc0 z i.toNat)) H):=by
 simp [zbQ,zbr,zc5]
def uS(v:V)(q:Str->Prop):Prop:=∃z,v = .str z/\q z
theorem zel{z:Str}{q:Str->Prop}:uS (.str z) q=q z:=by simp [uS]
def zeI(to te:TE):TE:=λσ H Q=>to σ H λx H1=>uS x λz=>te σ H1 λy H2=>zdV (.str z) [y] H2 Q
theorem zoj{o e:Expr}{to te:TE}{apos cpos:Pos}(ho:PE X o to)(he:PE X e te)(hbase:attributeBase o "join" X.env (eval o X.env)=eval o X.env:=by rfl)(hline:(apos.endLine==cpos.line)=true:=by rfl)(hp:zN e=true:=by rfl) :
  PE X (.Call (.Attribute o "join" apos) [e] [] cpos) (zeI to te):=by
 intro Ga s σ H Q I h
 have hs:starEach [e] X.env=[(false,eval e X.env)]:=zde hp
 refine wpAny_Call_method_late hbase (by rw [hs];rfl) hline rfl (thn (ho Ga s σ H _ I h) λv s1 ⟨x,H1,I1,r1,z,ex,q1⟩=>?_)
 subst ex
 obtain ⟨h1,h2⟩:=zfB (T:="str") I1 r1 rfl
 refine ⟨"str","str.join",PySem.F.plainAttrs_str,PySem.F.slot_str_join,PySem.F.type_str_join,h1,h2,?_⟩
 rw [hs]
 refine Calls.callWith_builtin rfl (Calls.evalArgs_plain ?_)
 have hA:=zcZ he zdE (hs:=hs) cpos Ga s1 σ H1 (λys H2=>match ys with|[y]=>zdV (.str z) [y] H2 Q|_=>False) I1 q1
 rw [hs] at hA
 refine thn hA λus s2 ⟨vs,H2,I2,r2,q2⟩=>?_
 match vs,q2,r2 with
 | [y],q2,r2=>exact zo3 Ga s2 σ H2 (.str z) [y] v us Q I2 r1 r2 q2
def zsE(te:TE):TE:=λσ H Q=>te σ H λx H1=>uR x λa=>∃xs,H1 a=some (.lst xs)/\∀ys:List V,(∀y∈ys,y∈xs)->ys.length<=xs.length->∀p H2,New H1 p (.lst ys) H2->Q (.ref p) H2
end
section
variable {K:PySem.W.Frag}{g:TG}{tb:TS}{D:zY}{σ:St}{H:Hp}{ta:TA}{tl:TE}{wi:TI}{R:It->Hp->Prop}{j:Int}{tt:TT}{te:TE}{ix:List (Option Nat)}{Q:VK}
def uI2(vs:List V)(q:Int->Int->Prop):Prop:=∃i j,vs=[.int i,.int j]/\q i j
theorem zle{i:Int}{q:Int->Int->Prop}:uI2 [.int i,.int j] q=q i j:=by
 apply propext;constructor
 ·rintro ⟨a,b,e,h⟩;cases e;exact h
 ·exact λh=>⟨i,j,rfl,h⟩
theorem zsO:zj8 ta σ H R=ta σ H λvs H1=>uI2 vs λi j=>(-(2 ^ 62)<=i/\i<2 ^ 62/\-(2 ^ 62)<=j/\j<2 ^ 62)/\R (Itr i (j-i).toNat) H1:=rfl
theorem zaG.tup{a:Addr}{xs:List V}(Pv:Nat->St->Hp->Prop)(h0:Pv 0 σ H)(hl:∀i σ H,i<=xs.length->Pv i σ H->SqT K H a xs)
  (hs:∀i x σ H,xs[i]?=some x->Pv i σ H->g x σ H λσ2 H2=>tb { D with nx:=Pv (i+1),ct:=Pv (i+1),bk:=D.nx } σ2 H2) (hd:∀σ H,Pv xs.length σ H->D.nx σ H):zaG (Itt K a) g tb D σ H:=zoQ Pv h0 hl hs hd
theorem zax.lst{a:Addr}{xs:List V}{τ:St}(Pv:Nat->St->List V->Hp->Prop)(hz:∀i τ ys H,Pv i τ ys H->ys.length<sizeLine)(ha:∀i τ ys H,Pv i τ ys H->SqL K H a xs)(h0:Pv 0 τ [] H)
  (hs:∀(N:St->List V->Hp->Prop) i x τ ys H,xs[i]?=some x->Pv i τ ys H->(∀τ ys H,Pv (i+1) τ ys H->N τ ys H)->g x τ H λτ1 H4=>tt τ1 H4 λok H5=>zbC N ys τ1 te ok H5) (hd:∀τ ys H,Pv xs.length τ ys H->∀D H',New H D (.lst ys) H'->Q (.ref D) H'):zax (Itl K a) g tt te τ H Q:=by
 refine ⟨λi m τ ys H=>m=xs.length-i/\i<=xs.length/\Pv i τ ys H,⟨xs.length,by simp,zero_le _,h0⟩,?_⟩
 rintro i m τ ys H2 ⟨rfl,hi,p⟩
 refine ⟨hz i τ ys H2 p,?_⟩
 have q:=ha i τ ys H2 p
 by_cases hlt:i<xs.length
 ·refine .inr ⟨⟨xs,xs[i],q,by simp [hlt]⟩,λx H' y=>?_⟩
  obtain ⟨e,y⟩:=y
  subst e
  exact hs (λτ1 ys H=>∃m',m'<xs.length-i/\m'=xs.length-(i+1)/\i+1<=xs.length/\Pv (i+1) τ1 ys H) i x τ ys _ (y xs q) p λτ1 zs H q=>⟨xs.length-(i+1),by omega,rfl,hlt,q⟩
 ·have e:i=xs.length:=by omega
  subst e
  exact .inl ⟨⟨xs,q,Nat.le_refl _⟩,λD hD _=>hd τ ys H2 p D _ (.mk' hD)⟩
def zfL(t:TS):TS:=λD σ H=>∃Mid:St->Hp->Prop,t { D with nx:=Mid } σ H/\∀σ' H',Mid σ' H'->D.nx σ' H'
theorem zpg{st:Stmt}{t:TS}(h:PS X st t):PS X st (zfL t):=λGa s σ H D I hw=>by
 obtain ⟨Mid,h1,h2⟩:=hw
 refine thn (h Ga s σ H _ I h1) λf s1 q=>?_
 cases f with
 | next=>obtain ⟨σ',H',I',q⟩:=q;exact ⟨σ',H',I',h2 _ _ q⟩
 | ret v=>exact q
 | brk=>exact q
 | cont=>exact q
theorem zpw{t:TS}{D:zY}{σ:St}{H:Hp}:zfL t D σ H = ∃Mid:St->Hp->Prop,t { D with nx:=Mid } σ H/\∀σ' H',Mid σ' H'->D.nx σ' H':=rfl
end
structure W(p:Prop):Prop where
 h:p
section
variable {X:Cx}
theorem zai  : W (PSs X [] zgt):=⟨znu ⟩
theorem zm{st:Stmt}{zo:List Stmt}{t:TS}{u:TS}(h1:W (PS X st t))(h2:W (PSs X zo u)):W (PSs X (st::zo) (zfh t u)):=⟨zpc (h1:=h1.h) (h2:=h2.h)⟩
theorem zp{st:Stmt}{t:TS}(h1:W (PS X st t)):W (PSs X [st] t):=⟨zil (h1:=h1.h)⟩
theorem zH{e:Expr}{te:TE}{pos:Pos}(he:W (PE X e te)):W (PS X (.Return (some e) pos) (zgm te)):=⟨zhO (he:=he.h)⟩
theorem zbw{e:Expr}{te:TE}{pos:Pos}(he:W (PE X e te))(hs:swapsWith e none pos.line X.env=pure false:=by rfl):W (PS X (.Expr e pos) (zeN te)):=⟨znL (he:=he.h) (hs:=hs)⟩
theorem zG{pos:Pos}{i:Nat}{x:Str}{e:Expr}{te:TE}{pos':Pos}(hN:X.N.Nodup)(hi:X.N[i]?=some x)(hx:Loc X.env.scope x)(he:W (PE X e te))(hs:swapsWith e (some (.Name x pos')) pos.line X.env=pure false:=by rfl)(hf:X.fn x=true\/X.env.scope.names.lookup x=some .local:=by first|exact .inl rfl|exact .inr rfl|assumption):W (PS X (.Assign [.Name x pos'] e pos) (zdA te (zbv i))):=⟨zou (hN:=hN) (hi:=hi) (hx:=hx) (he:=he.h) (hs:=hs) (hf:=hf)⟩
theorem zgJ{C:Addr}{o value:Expr}{ta tv:TE}{f:Str}{pos pos':Pos}(c:Cls X.K C)(n:zbf X.K C f)(ha:W (PE X o ta))(hv:W (PE X value tv))(hs:swapsWith value (some (.Attribute o f pos')) pos.line X.env=pure false:=by rfl):W (PS X (.Assign [.Attribute o f pos'] value pos) (zew C ta tv f)):=⟨zno (c:=c) (n:=n) (ha:=ha.h) (hv:=hv.h) (hs:=hs)⟩
theorem zbZ{pos:Pos}{tg e:Expr}{te:TE}{g:TG}(he:W (PE X e te))(hg:W (PG X tg g))(hs:swapsWithSole [tg] e pos.line X.env=pure false:=by rfl)(hw:swappedStores [tg] e X.env=pure none:=by rfl)(h1:(assignEach [tg] X.env).map (·.2)=[assign tg X.env]:=by rfl):W (PS X (.Assign [tg] e pos) (zdA te g)):=⟨zoK (he:=he.h) (hg:=hg.h) (hs:=hs) (hw:=hw) (h1:=h1)⟩
theorem zac{t:TS}{u:TS}{pos:Pos}{c:Expr}{a b:List Stmt}{tc:TT}(hc:W (PT X c tc))(ha:W (PSs X a t))(hb:W (PSs X b u)):W (PS X (.If c a b pos) (zfu tc t u)):=⟨zqK (hc:=hc.h) (ha:=ha.h) (hb:=hb.h)⟩
theorem zdv{tg:Expr}{c:Bool}{iter:Expr}{body:List Stmt}{wi:TI}{g:TG}{tb:TS}{pos:Pos}(hp:PassesOwn (model X.prog X.w) X.A X.env X.xe)(hc:c=true->X.calm=true)(hi:W (PIc c X tg iter wi))(hg:W (PG X tg g))(hb:W (PSs X body tb))(hs:∀x,foldedSetIterable iter X.env x=pure x:=by intro _;rfl):W (PS X (.For tg iter body [] pos) (zeX wi g tb)):=⟨zsF (hp:=hp) (hc:=hc) (hi:=hi.h) (hg:=hg.h) (hb:=hb.h) (hs:=hs)⟩
theorem zeD{Ex:Addr->St->Hp->Prop}{C:Addr}{x:Str}{np cpos pos:Pos}{e:Expr}{es:List Expr}{t:TA}(hc:X.calm=true)(T:zaw X Ex)(O:zaE X.K C)(hg:Gl X x)(hm:X.mg x=some (.ref C))(ha:W (PA X (e::es) t))(hp:zN e=true:=by rfl)(hps:zaC es=true:=by rfl)(hdb:(x==("__debug__":Str))=false:=by decide):W (PS X (.Raise (some (.Call (.Name x np) (e::es) [] cpos)) none pos) (zes C Ex t)):=⟨zmU (hc:=hc) (T:=T) (O:=O) (hg:=hg) (hm:=hm) (ha:=ha.h) (hp:=hp) (hps:=hps) (hdb:=hdb)⟩
theorem zcy{tg a:Expr}{ta:TA}{p pos:Pos}(hg:Gl X "range")(hm:X.mg "range"=none)(ha:W (PA X [a] ta))(hp:zN a=true:=by rfl):W (PIc true X tg (.Call (.Name "range" p) [a] [] pos) (zdY ta)):=⟨zkI (hg:=hg) (hm:=hm) (ha:=ha.h) (hp:=hp)⟩
theorem zh5{tg:Expr}{l:Expr}{tl:TE}(hl:W (PE X l tl)):W (PI X tg l (ze4 X.K tl)):=⟨zrQ (hl:=hl.h)⟩
theorem zd  : W (PA X [] zbo):=⟨zdE ⟩
theorem zb{e:Expr}{es:List Expr}{te:TE}{t:TA}(ha:W (PE X e te))(hr:W (PA X es t))(hp:zN e=true:=by rfl):W (PA X (e::es) (zd8 te t)):=⟨zll (ha:=ha.h) (hr:=hr.h) (hp:=hp)⟩
theorem zcb{a:Expr}{pos:Pos}{tA:TT}(ha:W (PT X a tA)):W (PT X (.UnaryOp .Not a pos) (zgx tA)):=⟨zrd (ha:=ha.h)⟩
theorem zj7{a:Expr}{pos:Pos}{tA:TT}(ha:W (PT X a tA)):W (PW X (.BoolOp .And [a] pos) tA):=⟨zqV (ha:=ha.h)⟩
theorem zcS{a:Expr}{pos:Pos}{tA:TT}(ha:W (PT X a tA)):W (PW X (.BoolOp .Or [a] pos) tA):=⟨zjS (ha:=ha.h)⟩
theorem zqE{a:Expr}{b:Expr}{pos:Pos}{tA:TT}{tB':TT}{zo:List Expr}(ha:W (PT X a tA))(hb:W (PW X (.BoolOp .And (b::zo) pos) tB')):W (PW X (.BoolOp .And (a::b::zo) pos) (zgu tA tB')):=⟨znb (ha:=ha.h) (hb:=hb.h)⟩
theorem zcD{a:Expr}{b:Expr}{pos:Pos}{tA:TT}{tB':TT}{zo:List Expr}(ha:W (PT X a tA))(hb:W (PW X (.BoolOp .Or (b::zo) pos) tB')):W (PW X (.BoolOp .Or (a::b::zo) pos) (tOr tA tB')):=⟨zry (ha:=ha.h) (hb:=hb.h)⟩
theorem z8{a:Expr}{b:Expr}{ta:TE}{tb:TE}{pos:Pos}{op:CmpOp}{r:R2}(ho:OpR X (compareOp op) r)(ha:W (PE X a ta))(hb:W (PE X b tb))(hm:behindInMarks op b=false):W (PT X (.Compare a [op] [b] pos) (zfZ (tOp r ta tb))):=⟨zh8 (ho:=ho) (ha:=ha.h) (hb:=hb.h) (hm:=hm)⟩
theorem zcg{a:Expr}{ta:TE}(ha:W (PE X a ta))(he:∀whole,isTrue a X.env whole=(do let v<-whole;standAt a.pos;holding [v] (truthy v)):=by intro _;rfl):W (PT X a (zfz X.K ta)):=⟨zo5 (ha:=ha.h) (he:=he)⟩
theorem za(i:Nat){x:Str}{pos:Pos}(hN:X.N[i]?=some x:=by rfl)(hv:Vis X.env.scope x:=by first|exact Or.inl rfl|exact Or.inr (Or.inl rfl)|exact Or.inr (Or.inr rfl))(hd:(x==("__debug__":Str))=false:=by decide)(hcd:(x==("__classdict__":Str))=false:=by decide):W (PE X (.Name x pos) (zb5 i)):=⟨pv (i:=i) (hN:=hN) (hv:=hv) (hd:=hd) (hcd:=hcd)⟩
theorem zaz{x:Str}{v:V}{pos:Pos}(hg:Gl X x)(hm:∃u,X.mg x=some u/\ze v u)(hd:(x==("__debug__":Str))=false:=by decide):W (PE X (.Name x pos) (tC v)):=⟨zoE (hg:=hg) (hm:=hm) (hd:=hd)⟩
theorem zdq{x:Str}{v:V}{u:Value}{pos:Pos}(hg:Gl X x)(hm:X.mg x=none)(hv:bootBuiltins x=some u)(r:ze v u)(hn:x≠"__name__":=by decide)(hd:(x==("__debug__":Str))=false:=by decide):W (PE X (.Name x pos) (tC v)):=⟨znd (hg:=hg) (hm:=hm) (hv:=hv) (r:=r) (hn:=hn) (hd:=hd)⟩
theorem zsp{j pos}:W (PE X (.Constant .none j pos) (tC .non)):=⟨zoc ⟩
theorem zba{b j pos}:W (PE X (.Constant (.bool b) j pos) (tC (.bl b))):=⟨zsd ⟩
theorem zq{i j pos}:W (PE X (.Constant (.int i) j pos) (tC (.int i))):=⟨zhJ ⟩
theorem zz{x j pos}:W (PE X (.Constant (.str x) j pos) (tC (.str x))):=⟨zmZ ⟩
theorem zC{a:Expr}{b:Expr}{ta:TE}{tb:TE}{pos:Pos}{op:Operator}{r:R2}(ho:OpR X (binaryOp op) r)(ha:W (PE X a ta))(hb:W (PE X b tb)):W (PE X (.BinOp a op b pos) (tOp r ta tb)):=⟨zsR (ho:=ho) (ha:=ha.h) (hb:=hb.h)⟩
theorem zjW{a:Expr}{ta:TE}{pos:Pos}(ha:W (PE X a ta)):W (PE X (.UnaryOp .Not a pos) (zfs ta)):=⟨zrj (ha:=ha.h)⟩
theorem zh3{a:Expr}{ta:TE}{pos:Pos}{op:UnaryOp}{r:V->Hp->VK->Prop}(ho:UnR X (unaryOp op) r)(ha:W (PE X a ta)):W (PE X (.UnaryOp op a pos) (tUn r ta)):=⟨zqX (ho:=ho) (ha:=ha.h)⟩
theorem zfH{a:Expr}{pos:Pos}{op}{t:TE}(h:W (PE X a t)):W (PE X (.BoolOp op [a] pos) t):=⟨zqM (h:=h.h)⟩
theorem zgf{a:Expr}{b:Expr}{ta:TE}{tb:TE}{pos:Pos}{zo:List Expr}(ha:W (PE X a ta))(hb:W (PE X (.BoolOp .And (b::zo) pos) tb)):W (PE X (.BoolOp .And (a::b::zo) pos) (zfS ta tb)):=⟨zjH (ha:=ha.h) (hb:=hb.h)⟩
theorem zfE{a:Expr}{b:Expr}{ta:TE}{tb:TE}{pos:Pos}{op:CmpOp}{r:R2}(ho:OpR X (compareOp op) r)(ha:W (PE X a ta))(hb:W (PE X b tb))(hm:behindInMarks op b=false):W (PE X (.Compare a [op] [b] pos) (tOp r ta tb)):=⟨zjO (ho:=ho) (ha:=ha.h) (hb:=hb.h) (hm:=hm)⟩
theorem zlm{a:Expr}{b:Expr}{c:Expr}{ta:TE}{tb:TE}{tc:TE}{pos:Pos}{op op':CmpOp}{r r':R2}(ho:OpR X (compareOp op) r)(ho':OpR X (compareOp op') r')(ha:W (PE X a ta))(hb:W (PE X b tb))(hc:W (PE X c tc))(hm:lastMarks [op,op'] [b,c]=false:=by with_unfolding_all rfl):W (PE X (.Compare a [op,op'] [b,c] pos) (zga r r' ta tb tc)):=⟨zlV (ho:=ho) (ho':=ho') (ha:=ha.h) (hb:=hb.h) (hc:=hc.h) (hm:=hm)⟩
theorem zqS{a:Expr}{b:Expr}{ta:TE}{tb:TE}{pos:Pos}{tA:TT}{c:Expr}(hc:W (PT X c tA))(ha:W (PE X a ta))(hb:W (PE X b tb)):W (PE X (.IfExp c a b pos) (tIf tA ta tb)):=⟨zgT (hc:=hc.h) (ha:=ha.h) (hb:=hb.h)⟩
theorem zah{es:List Expr}{t:TA}{pos:Pos}(h:W (PA X es t)):W (PE X (.List es pos) (zfI t)):=⟨zj1 (h:=h.h)⟩
theorem zcC{es:List Expr}{t:TA}{x1}{pos:Pos}(h:W (PA X es t)):W (PE X (.Tuple es x1 pos) (zfp t)):=⟨zr5 (h:=h.h)⟩
theorem zeO{pos:Pos}:W (PE X (.Dict [] [] pos) zfG):=⟨zqO ⟩
theorem zaQ{C:Addr}{e:Expr}{ta:TE}{f:Str}{pos:Pos}(c:Cls X.K C)(n:zbf X.K C f)(he:W (PE X e ta))(hb:attributeBase e f X.env (eval e X.env)=eval e X.env:=by rfl):W (PE X (.Attribute e f pos) (zdS C ta f)):=⟨zl5 (c:=c) (n:=n) (he:=he.h) (hb:=hb)⟩
theorem za6{a:Expr}{b:Expr}{ta:TE}{tb:TE}{pos:Pos}{r:R2}(hr:IxR X r)(ha:W (PE X a ta))(hb:W (PE X b tb))(hs:zg1 b):W (PE X (.Subscript a b pos) (tOp r ta tb)):=⟨zik (hr:=hr) (ha:=ha.h) (hb:=hb.h) (hs:=hs)⟩
theorem zcG{e:Expr}{te:TE}{lo:Option Expr}{hi:Option Expr}{tl:TO}{th:TO}{pos:Pos}{p2:Pos}{r:V->Option Int->Option Int->Hp->VK->Prop}(hr:SlR X r)(he:W (PE X e te))(hl:W (PO X lo tl))(hu:W (PO X hi th)):W (PE X (.Subscript e (.Slice lo hi none p2) pos) (tSl r te tl th)):=⟨zlF (hr:=hr) (he:=he.h) (hl:=hl.h) (hu:=hu.h)⟩
theorem zF{cm:Bool}{k:Nat}{j:Nat}{x:Str}{ps:List Str}{sp:Sp}{e:Expr}{es:List Expr}{t:TA}{p:Pos}{pos:Pos}(G:GF X.prog X.w X.K X.mg X.base cm j x ps sp)(hr:zw cm k X.A)(hg:Gl X x)(ha:W (PA X (e::es) t))(hj:j<=k:=by decide)(hdb:(x==("__debug__":Str))=false:=by decide)(hp:zN e=true:=by rfl)(hps:zaC es=true:=by rfl):W (PE X (.Call (.Name x p) (e::es) [] pos) (zdF sp [] E0 t)):=⟨zqa (G:=G) (hr:=hr) (hg:=hg) (ha:=ha.h) (hj:=hj) (hdb:=hdb) (hp:=hp) (hps:=hps)⟩
theorem zA{id:String}{r:List V->Hp->VK->Prop}{x:Str}{e:Expr}{es:List Expr}{t:TA}{p pos:Pos}(hc:zR X (.builtin id) r)(hg:Gl X x)(hm:X.mg x=none)(hv:bootBuiltins x=some (.builtin id))(ha:W (PA X (e::es) t))(hp:zN e=true:=by rfl)(hps:zaC es=true:=by rfl)(hn:x≠"__name__":=by decide)(hdb:(x==("__debug__":Str))=false:=by decide):W (PE X (.Call (.Name x p) (e::es) [] pos) (tCB r t)):=⟨zpq (hc:=hc) (hg:=hg) (hm:=hm) (hv:=hv) (ha:=ha.h) (hp:=hp) (hps:=hps) (hn:=hn) (hdb:=hdb)⟩
theorem zfm{T:String}{r:List V->Hp->VK->Prop}{x:Str}{e:Expr}{es:List Expr}{t:TA}{p pos:Pos}(hc:zR X (.type T) r)(hg:Gl X x)(hm:X.mg x=none)(hv:bootBuiltins x=some (.type T))(ha:W (PA X (e::es) t))(hp:zN e=true:=by rfl)(hps:zaC es=true:=by rfl)(hn:x≠"__name__":=by decide)(hdb:(x==("__debug__":Str))=false:=by decide):W (PE X (.Call (.Name x p) (e::es) [] pos) (tCB r t)):=⟨zln (hc:=hc) (hg:=hg) (hm:=hm) (hv:=hv) (ha:=ha.h) (hp:=hp) (hps:=hps) (hn:=hn) (hdb:=hdb)⟩
theorem zey {cm : Bool} {k : Nat} {j : Nat} {m : Str} {C : Addr} {ps : List Str} {sp : Sp} {e : Expr} {o : Expr} {es : List Expr} {t : TA} {ta : TE} {pos : Pos} {apos : Pos} {pl : Sem Bool} (he : W (PE X o ta)) (c : Cls X.K C) (G : GM X.prog X.w X.K X.mg X.base cm j C m ps sp) (hr : zw cm k X.A) (ha : W (PA X (e :: es) t)) (hj : j ≤ k := by decide) (hp : zN e = true := by rfl) (hps : zaC es = true := by rfl) (ht : eval (.Call (.Attribute o m apos) (e :: es) [] pos) X.env = (do
      let ov ← eval o X.env
      standAt apos.atName
      let (f, first) ← holding [ov] (getMethod ov m pl)
      callWith pos f first (backTo pos (starEach (e :: es) X.env)) (backToKw pos (keywordEach [] X.env))) := by rfl) : W (PE X (.Call (.Attribute o m apos) (e :: es) [] pos) (zbE C m sp [] E0 ta t)) := ⟨zlD (he := he.h) (c := c) (G := G) (hr := hr) (ha := ha.h) (hj := hj) (hp := hp) (hps := hps) (ht := ht)⟩
theorem zbN {cm : Bool} {k : Nat} {j : Nat} {m : Str} {C : Addr} {ps : List Str} {sp : Sp} {o : Expr} {ta : TE} {pos : Pos} {apos : Pos} {pl : Sem Bool} (he : W (PE X o ta)) (c : Cls X.K C) (G : GM X.prog X.w X.K X.mg X.base cm j C m ps sp) (hr : zw cm k X.A) (hj : j ≤ k := by decide) (ht : eval (.Call (.Attribute o m apos) [] [] pos) X.env = (do
      let ov ← eval o X.env
      standAt apos.atName
      let (f, first) ← holding [ov] (getMethod ov m pl)
      callWith pos f first (backTo pos (starEach [] X.env)) (backToKw pos (keywordEach [] X.env))) := by rfl) : W (PE X (.Call (.Attribute o m apos) [] [] pos) (zbE C m sp [] E0 ta zbo)) := ⟨znn (he := he.h) (c := c) (G := G) (hr := hr) (hj := hj) (ht := ht)⟩
theorem zdD {cm : Bool} {k : Nat} {j : Nat} {m : Str} {C : Addr} {ps : List Str} {sp : Sp} {e : Expr} {o : Expr} {es : List Expr} {t : TA} {ta : TE} {pos : Pos} {apos : Pos} {Ex : Addr → St → Hp → Prop} {pl : Sem Bool} (he : W (PE X o ta)) (c : Cls X.K C) (T : zaw X Ex) (G : GMX X.prog X.w X.K X.mg X.base cm j C m ps sp) (hr : zw cm k X.A) (ha : W (PA X (e :: es) t)) (hj : j ≤ k := by decide) (hp : zN e = true := by rfl) (hps : zaC es = true := by rfl) (ht : eval (.Call (.Attribute o m apos) (e :: es) [] pos) X.env = (do
      let ov ← eval o X.env
      standAt apos.atName
      let (f, first) ← holding [ov] (getMethod ov m pl)
      callWith pos f first (backTo pos (starEach (e :: es) X.env)) (backToKw pos (keywordEach [] X.env))) := by rfl) : W (PE X (.Call (.Attribute o m apos) (e :: es) [] pos) (zcW C m sp [] Ex ta t)) := ⟨zsx (he := he.h) (c := c) (T := T) (G := G) (hr := hr) (ha := ha.h) (hj := hj) (hp := hp) (hps := hps) (ht := ht)⟩
theorem zgc{o e:Expr}{to te:TE}{apos cpos:Pos}(ho:W (PE X o to))(he:W (PE X e te))(hbase:attributeBase o "append" X.env (eval o X.env)=eval o X.env:=by rfl)(hline:(apos.endLine==cpos.line)=true:=by rfl)(hp:zN e=true:=by rfl):W (PE X (.Call (.Attribute o "append" apos) [e] [] cpos) (zf5 to te)):=⟨zqB (ho:=ho.h) (he:=he.h) (hbase:=hbase) (hline:=hline) (hp:=hp)⟩
theorem zeA{c:Bool}{X:Cx}{elt tg iter:Expr}{ifs:List Expr}{sc:Scope}{pos:Pos}{N':List Str}{ix:List (Option Nat)}{wi:TI}{g:TG}{tt:TT}{te:TE}(hc:c=true->X.calm=true)(L:za1 X sc N' ix)(hi:W (PIc c X tg iter wi))(hg:∀Ga C fp s H,W (PG (zI X sc N' Ga C fp s H) tg g))(ht:∀Ga C fp s H,W (PTs (zI X sc N' Ga C fp s H) ifs tt))(he:∀Ga C fp s H,W (PE (zI X sc N' Ga C fp s H) elt te))(hs:∀x,foldedSetIterable iter X.env x=pure x:=by intro _;rfl):W (PE X (.ListComp elt [⟨tg,iter,ifs,0⟩] sc pos) (tLC ix wi g tt te)):=⟨zkV (hc:=hc) (L:=L) (hi:=hi.h) (hg:=λz0 z1 z2 z3 z4=>(hg z0 z1 z2 z3 z4).h) (ht:=λz0 z1 z2 z3 z4=>(ht z0 z1 z2 z3 z4).h) (he:=λz0 z1 z2 z3 z4=>(he z0 z1 z2 z3 z4).h) (hs:=hs)⟩
theorem zaf{pos:Pos}{i:Nat}{x:Str}(hN:X.N.Nodup)(hi:X.N[i]?=some x)(hx:Loc X.env.scope x)(hf:X.fn x=true\/X.env.scope.names.lookup x=some .local:=by first|exact .inl rfl|exact .inr rfl|assumption):W (PG X (.Name x pos) (zbv i)):=⟨zly (hN:=hN) (hi:=hi) (hx:=hx) (hf:=hf)⟩
theorem zfa{X:Cx}{pos:Pos}{es:List Expr}{k:Nat}{t:TGs}{n:Nat}(h:W (PGs X es t))(hl:(assignEach es X.env).length=n:=by rfl)(hst:(assignEach es X.env).findIdx? (·.1)=none:=by rfl):W (PG X (.Tuple es k pos) (zfc X.K n t)):=⟨zq5 (h:=h.h) (hl:=hl) (hst:=hst)⟩
theorem zeo  : W (PGs X [] zfK):=⟨zpL ⟩
theorem za0{e:Expr}{es:List Expr}{t:TG}{u:TGs}(h1:W (PG X e t))(h2:W (PGs X es u))(hs:(assignEach (e::es) X.env).map (·.2)=assign e X.env::(assignEach es X.env).map (·.2):=by rfl):W (PGs X (e::es) (zgn t u)):=⟨zjR (h1:=h1.h) (h2:=h2.h) (hs:=hs)⟩
theorem zec{X:Cx}:W (PTs X [] ze0):=⟨zsL ⟩
theorem zhM{X:Cx}{i:Nat}{D:Addr}{x n:Str}{np hpos pos:Pos}{body:List Stmt}{b₀:Stmt}{suite:List Stmt}{tb:(Addr->St->Hp->Prop)->TS}{ts:TS}(hc:X.calm=true)(hex:X.ex=[])(hstk:X.stack=X.env::X.outer/\X.env.frame=some X.env.locals)(hN:X.N.Nodup)(hi:X.N[i]?=some n)(hlo:X.env.scope.names.lookup n=some .local)(OD:zaE X.K D)(hg:Gl X x)(hm:X.mg x=some (.ref D))(hb:∀Ga Ex,W (PSs (zeE X Ga Ex) body (tb Ex)))(hs:∀Ga ea,W (PSs (zb3 X Ga ea) (b₀::suite) ts))(hdb:(x==("__debug__":Str))=false:=by decide):W (PS X (.Try body [.ExceptHandler (some (.Name x np)) (some n) (b₀::suite) hpos] [] [] pos) (zdu X.K i D tb ts)):=⟨zpl (hc:=hc) (hex:=hex) (hstk:=hstk) (hN:=hN) (hi:=hi) (hlo:=hlo) (OD:=OD) (hg:=hg) (hm:=hm) (hb:=λz0 z1=>(hb z0 z1).h) (hs:=λz0 z1=>(hs z0 z1).h) (hdb:=hdb)⟩
theorem zrR{o e:Expr}{to te:TE}{apos cpos:Pos}(ho:W (PE X o to))(he:W (PE X e te))(hbase:attributeBase o "join" X.env (eval o X.env)=eval o X.env:=by rfl)(hline:(apos.endLine==cpos.line)=true:=by rfl)(hp:zN e=true:=by rfl):W (PE X (.Call (.Attribute o "join" apos) [e] [] cpos) (zeI to te)):=⟨zoj (ho:=ho.h) (he:=he.h) (hbase:=hbase) (hline:=hline) (hp:=hp)⟩
theorem zjB{elts:List Expr}{kk:Nat}{tp p pos:Pos}{a:Expr}{ta:TA}(hg:Gl X "enumerate")(hm:X.mg "enumerate"=none)(ha:W (PA X [a] ta))(hp:zN a=true:=by rfl):W (PIc true X (.Tuple elts kk tp) (.Call (.Name "enumerate" p) [a] [] pos) (zem X.K ta)):=⟨zqe (hg:=hg) (hm:=hm) (ha:=ha.h) (hp:=hp)⟩
theorem zdn {pos : Pos} {o i : Expr} {to ti : TE} {t : zdX} (ho : W (PE X o to)) (hi : W (PE X i ti)) (hs : zer X t) (ha : ∀ v, assign (.Subscript o i pos) X.env v = (do
      let ov ← holding [v] (eval o X.env)
      let iv ← holding [v, ov] (eval i X.env)
      standAt pos
      holding [v, ov, iv] (setItem ov iv v)
      release [v, ov, iv] []) := by intro _; rfl) : W (PG X (.Subscript o i pos) (zfF to ti t)) := ⟨zjL (ho := ho.h) (hi := hi.h) (hs := hs) (ha := ha)⟩
theorem zcw  : W (PO X none zgz):=⟨zmu ⟩
theorem zcB{e:Expr}{te:TE}(h:W (PE X e te)):W (PO X (some e) (zfv te)):=⟨zkR (h:=h.h)⟩
theorem zsw{st:Stmt}{t:TS}(h:W (PS X st t)):W (PS X st (zfL t)):=⟨zpg (h:=h.h)⟩
theorem zbS{e:Expr}{t:TT}(h:W (PW X e t)):W (PT X e t):=⟨PW.pt h.h⟩
end
def asc(z:Str):Bool:=z.cps.all (· < 128)
def Its(z:Str):It:=⟨λi _=>i<z.cps.size,λi H x H'=>H'=H/\∃c,z.cps[i]?=some c/\x = .str ⟨#[c]⟩,λi _=>z.cps.size<=i⟩
section
variable {X:Cx}{tg:Expr}
def znB(tl:TE):TI:=λσ H R=>tl σ H λx H1=>uS x λz=>asc z=true/\R (Its z) H1
theorem zme{tl:TE}{σ:St}{H:Hp}{R:It->Hp->Prop}:znB tl σ H R=tl σ H λx H1=>uS x λz=>asc z=true/\R (Its z) H1:=rfl
end
def zgS(z:Str)(k:Nat):It :=
 ⟨λi _=>i<z.cps.size,λi H v H'=>∃T c,H T=none/\v = .ref T/\z.cps[i]?=some c/\H'=upd H T (.tup [.int ((i:Nat)+k:Nat),.str ⟨#[c]⟩]),λi _=>i=z.cps.size⟩
section
variable {prog:Program}{w:World}{A:Around}{E:Value->Shared->Prop}{s:Shared}
end
section
variable {X:Cx}
def zlk(k:Nat)(ta:TE):TI:=λσ H R=>ta σ H λx H1=>uS x λz=>asc z=true/\R (zgS z k) H1
theorem zoH{k:Nat}{ta:TE}{σ:St}{H:Hp}{R:It->Hp->Prop}:zlk k ta σ H R=ta σ H λx H1=>uS x λz=>asc z=true/\R (zgS z k) H1:=rfl
end
section
variable {K:PySem.W.Frag}{g:TG}{tb:TS}{D:zY}{σ:St}{H:Hp}{tt:TT}{te:TE}{Q:VK}
theorem zax.str{z:Str}{τ:St}(Pv:Nat->St->List V->Hp->Prop)(hz:∀i τ ys H,Pv i τ ys H->ys.length<sizeLine)(h0:Pv 0 τ [] H)
  (hs:∀(N:St->List V->Hp->Prop) i c τ ys H,z.cps[i]?=some c->Pv i τ ys H->(∀τ ys H,Pv (i+1) τ ys H->N τ ys H)->g (.str ⟨#[c]⟩) τ H λτ1 H4=>tt τ1 H4 λok H5=>zbC N ys τ1 te ok H5) (hd:∀τ ys H,Pv z.cps.size τ ys H->∀D H',New H D (.lst ys) H'->Q (.ref D) H'):zax (Its z) g tt te τ H Q:=by
 refine ⟨λi m τ ys H=>m=z.cps.size-i/\i<=z.cps.size/\Pv i τ ys H,⟨z.cps.size,by simp,zero_le _,h0⟩,?_⟩
 rintro i m τ ys H2 ⟨rfl,hi,p⟩
 refine ⟨hz i τ ys H2 p,?_⟩
 by_cases hlt:i<z.cps.size
 ·refine .inr ⟨hlt,λx H' y=>?_⟩
  obtain ⟨e,c,hc,rfl⟩:=y
  subst e
  exact hs (λτ1 ys H=>∃m',m'<z.cps.size-i/\m'=z.cps.size-(i+1)/\i+1<=z.cps.size/\Pv (i+1) τ1 ys H) i c τ ys _ hc p λτ1 zs H q=>⟨z.cps.size-(i+1),by omega,rfl,hlt,q⟩
 ·have e:i=z.cps.size:=by omega
  subst e
  exact .inl ⟨Nat.le_refl _,λD hD _=>hd τ ys H2 p D _ (.mk' hD)⟩
end
section
variable {X:Cx}
def zmk:List V->Hp->VK->Prop:=λxs H Q=>uR1 xs λp=>∃bs:List Bool,H p=some (.lst (bs.map V.bl))/\Q (.bl (bs.all id)) H
theorem zh9{bs:List Bool}:∀{us:List Value},zi (bs.map V.bl) us->us=bs.map Value.bool:=by
 induction bs with
 | nil=>intro us r;rw [map_nil] at r;cases r;rfl
 | cons b bs ih =>
  intro us r
  rw [map_cons] at r
  cases r with
  | cons r1 r2=>rw [show _=Value.bool b from r1,ih r2];rfl
theorem zkO{p:Addr}{H:Hp}{Q:VK}:zmk [.ref p] H Q = ∃bs:List Bool,H p=some (.lst (bs.map V.bl))/\Q (.bl (bs.all id)) H:=zaT
def uIs(neg:Bool):R2:=λx y H Q=>(y = .non\/∃b,y = .bl b/\zv x=true)/\Q (.bl (if neg then !decide (x=y) else decide (x=y))) H
theorem zpM{c b:Bool}{x:V}{H:Hp}{Q:VK}:uIs c x (.bl b) H Q=(zv x=true/\Q (.bl (if c then !decide (x = .bl b) else decide (x = .bl b))) H):=by simp [uIs]
theorem zn8{c:Bool}{x:V}{H:Hp}{Q:VK}:uIs c x .non H Q=Q (.bl (if c then !decide (x = .non) else decide (x = .non))) H:=by simp [uIs]
def uIn:R2:=λx y H Q=>(∃i j,x = .str i/\y = .str j/\Q (.bl (!(Builtin.Str.occurrences j i 0 j.length 1).isEmpty)) H)\/∃p xs,y = .ref p/\(H p=some (.lst xs)\/H p=some (.tup xs))/\zv x=true/\xs.all zv=true/\Q (.bl (inV x xs)) H
theorem zgM{x y:Str}{H:Hp}{Q:VK}:uIn (.str x) (.str y) H Q=Q (.bl (!(Builtin.Str.occurrences y x 0 y.length 1).isEmpty)) H:=by simp [uIn]
theorem zjk{x:V}{p:Addr}{H:Hp}{Q:VK}:uIn x (.ref p) H Q = ∃xs,(H p=some (.lst xs)\/H p=some (.tup xs))/\zv x=true/\xs.all zv=true/\Q (.bl (inV x xs)) H:=by simp [uIn]
def uM1(to te:TE)(r:Str->V->Hp->VK->Prop):TE:=λσ H Q=>to σ H λx H1=>uS x λz=>te σ H1 λy H2=>r z y H2 Q
theorem zjs{to te:TE}{r:Str->V->Hp->VK->Prop}{σ:St}{H:Hp}{Q:VK}:uM1 to te r σ H Q=to σ H λx H1=>uS x λz=>te σ H1 λy H2=>r z y H2 Q:=rfl
def zkg:Str->V->Hp->VK->Prop:=λz y H Q=>uS y λq=>Q (.int (PySem.Txt.rfind z q)) H
theorem zmt{z q:Str}{H:Hp}{Q:VK}:zkg z (.str q) H Q=Q (.int (PySem.Txt.rfind z q)) H:=zel
def zp1:Str->V->Hp->VK->Prop:=λz y H Q=>uS y λq=>(q.length==0)=false/\z.length<sizeLine/\(PySem.Txt.split z q).length<=sizeLine/\∀p H2,New H p (.lst ((PySem.Txt.split z q).map V.str)) H2->Q (.ref p) H2
theorem zpm{z q:Str}{H:Hp}{Q:VK}:zp1 z (.str q) H Q=((q.length==0)=false/\z.length<sizeLine/\(PySem.Txt.split z q).length<=sizeLine/\∀p H2,New H p (.lst ((PySem.Txt.split z q).map V.str)) H2->Q (.ref p) H2):=zel
def zsz(te:TE):TE:=λσ H Q=>te σ H λx H1=>(∃z,x = .str z/\z.length<=sizeLine/\Q (.str z) H1)\/∃i,x = .int i/\i.natAbs.log2<1920/\Q (.str (toString i)) H1
def zdc:V->Hp->VK->Prop:=λx H1 Q=>(∃z,x = .str z/\z.length<=sizeLine/\Q (.str z) H1)\/∃i,x = .int i/\i.natAbs.log2<1920/\Q (.str (toString i)) H1
theorem zn2{te:TE}{σ:St}{H:Hp}{Q:VK}:zsz te σ H Q=te σ H λx H1=>zdc x H1 Q:=rfl
theorem zjt{z:Str}{H:Hp}{Q:VK}:zdc (.str z) H Q=(z.length<=sizeLine/\Q (.str z) H):=by simp [zdc]
theorem zlL{i:Int}{H:Hp}{Q:VK}:zdc (.int i) H Q=(i.natAbs.log2<1920/\Q (.str (toString i)) H):=by simp [zdc]
abbrev TJ:=Str->TE
def zsG:TJ:=λout _ H Q=>out.length<=sizeLine/\Q (.str out) H
def zlU(te:TE)(tj:TJ):TJ:=λout σ H Q=>te σ H λx H1=>uS x λy=>(out++y).length<=sizeLine/\tj (out++y) σ H1 Q
def zoZ(tj:TJ):TE:=tj Str.empty
theorem zki{tj:TJ}:zoZ tj=tj Str.empty:=rfl
def zcf:List V->Hp->VK->Prop:=λxs H Q=>zbp xs H Q\/∃z n,xs=[.str z]/\z.length<=640/\PySem.intText? z=some n/\Q (.int n) H
theorem zqw:zR X (.type "int") zcf:=by
 intro Ga s σ H xs us Q I r h
 rcases h with h|⟨z,n,rfl,hl,hn,q⟩
 ·exact zp4 Ga s σ H xs us Q I r h
 ·cases r with
  | cons r1 rr =>
   cases rr
   obtain ⟨t,rfl⟩:=r1
   exact PySem.W.KIN.call_text hn hl ⟨.int n,H,I.tok _,⟨_,rfl⟩,q⟩
theorem zj9{i:Int}{H:Hp}{Q:VK}:zcf [.int i] H Q=Q (.int i) H:=by simp [zcf,zbp]
theorem zmG{k:Bool}{H:Hp}{Q:VK}:zcf [.bl k] H Q=Q (.int (if k then 1 else 0)) H:=by simp [zcf,zbp]
theorem zkb{z:Str}{H:Hp}{Q:VK}:zcf [.str z] H Q = ∃n,z.length<=640/\PySem.intText? z=some n/\Q (.int n) H:=by simp [zcf,zbp]
def zcA:List V->Hp->VK->Prop:=λxs H Q=>zcp xs H Q\/∃z,xs=[.str z]/\Q (.str z) H
theorem zgP{i:Int}{H:Hp}{Q:VK}:zcA [.int i] H Q=(i.natAbs.log2<1920/\Q (.str (toString i)) H):=by simp [zcA,zcp]
theorem zhx{z:Str}{H:Hp}{Q:VK}:zcA [.str z] H Q=Q (.str z) H:=by simp [zcA,zcp]
def zsW:List V->Hp->VK->Prop:=λxs H Q=>uR1 xs λp=>∃ys,H p=some (.lst ys)/\∀l H2,New H l (.tup ys) H2->Q (.ref l) H2
theorem zrr{p:Addr}{H:Hp}{Q:VK}:zsW [.ref p] H Q = ∃ys,H p=some (.lst ys)/\∀l H2,New H l (.tup ys) H2->Q (.ref l) H2:=zaT
def zjm:List V->Hp->VK->Prop:=λxs H Q=>∃x,xs=[.str x]/\x.length=1/\Q (.int (x.cps.getD 0 0:Nat)) H
theorem zmj{x:Str}{H:Hp}{Q:VK}:zjm [.str x] H Q=(x.length=1/\Q (.int (x.cps.getD 0 0:Nat)) H):=by simp [zjm]
def zbP:R2:=λx y H Q=>uEq false x y H Q\/∃a b xs ys,x = .ref a/\y = .ref b/\H a=some (.tup xs)/\H b=some (.tup ys)/\xs.all zv=true/\ys.all zv=true/\Q (.bl (eqL xs ys)) H
theorem zjC{i j:Int}{H:Hp}{Q:VK}:zbP (.int i) (.int j) H Q=Q (.bl (decide (i=j))) H:=by simp [zbP,uEq,zbb]
theorem zqc{x y:Str}{H:Hp}{Q:VK}:zbP (.str x) (.str y) H Q=Q (.bl (decide (x=y))) H:=by simp [zbP,uEq,zbb]
theorem zmX{x y:Bool}{H:Hp}{Q:VK}:zbP (.bl x) (.bl y) H Q=Q (.bl (decide (x=y))) H:=by simp [zbP,uEq,zbb]
theorem zs0{a b:Addr}{H:Hp}{Q:VK}:zbP (.ref a) (.ref b) H Q = ∃xs ys,((H a=some (.lst xs)/\H b=some (.lst ys))\/(H a=some (.tup xs)/\H b=some (.tup ys)))/\xs.all zv=true/\ys.all zv=true/\Q (.bl (eqL xs ys)) H:=by
 apply propext;constructor
 ·rintro (h|⟨a',b',xs,ys,e1,e2,h1,h2,f1,f2,q⟩)
  ·rw [zcV] at h
   obtain ⟨xs,ys,h1,h2,f1,f2,q⟩:=h
   exact ⟨xs,ys,.inl ⟨h1,h2⟩,f1,f2,q⟩
  ·cases e1;cases e2;exact ⟨xs,ys,.inr ⟨h1,h2⟩,f1,f2,q⟩
 ·rintro ⟨xs,ys,⟨h1,h2⟩|⟨h1,h2⟩,f1,f2,q⟩
  ·exact .inl (by rw [zcV];exact ⟨xs,ys,h1,h2,f1,f2,q⟩)
  ·exact .inr ⟨a,b,xs,ys,rfl,rfl,h1,h2,f1,f2,q⟩
def zgO(kvs:List (Str×Addr))(z:Str):V:=match kvs.find? (λp=>p.1=z) with|some p=>.ref p.2|none=>.non
def zlz(kvs:List (Str×Addr))(te:TE):TE:=λσ H Q=>te σ H λy H1=>uS y λz=>Q (zgO kvs z) H1
theorem zpo{kvs:List (Str×Addr)}{te:TE}{σ:St}{H:Hp}{Q:VK}:zlz kvs te σ H Q=te σ H λy H1=>uS y λz=>Q (zgO kvs z) H1:=rfl
end
def zhZ(lo st:Int)(n:Nat):It:=⟨λi _=>i<n,λi H x H'=>H'=H/\x = .int (lo+i*st),λi _=>n<=i⟩
section
variable {X:Cx}{tg:Expr}
def uI3(vs:List V)(q:Int->Int->Int->Prop):Prop:=∃i j k,vs=[.int i,.int j,.int k]/\q i j k
theorem zrt{i j k:Int}{q:Int->Int->Int->Prop}:uI3 [.int i,.int j,.int k] q=q i j k:=by
 apply propext;constructor
 ·rintro ⟨a,b,c,e,h⟩;cases e;exact h
 ·exact λh=>⟨i,j,k,rfl,h⟩
def zm4(ta:TA):TI:=λσ H R=>ta σ H λvs H1=>uI3 vs λi j k=>(0<=i/\i<=j/\j<2 ^ 20/\0<k/\k<2 ^ 20)/\R (zhZ i k ((j-i+k-1) / k).toNat) H1
theorem zpT{ta:TA}{σ:St}{H:Hp}{R:It->Hp->Prop}:zm4 ta σ H R=ta σ H λvs H1=>uI3 vs λi j k=>(0<=i/\i<=j/\j<2 ^ 20/\0<k/\k<2 ^ 20)/\R (zhZ i k ((j-i+k-1) / k).toNat) H1:=rfl
end
section
variable {g:TG}{tb:TS}{D:zY}{σ:St}{H:Hp}
end
section
variable {prog:Program}{w:World}{A:Around}{E:Value->Shared->Prop}{s:Shared}
end
def zjc(K:PySem.W.Frag)(a b:Addr):It :=
 ⟨λi H=>∃xs ys x y,SqT K H a xs/\SqL K H b ys/\xs[i]?=some x/\ys[i]?=some y,λi H v H'=>∃T x y,H T=none/\v = .ref T/\H'=upd H T (.tup [x,y])/\(∀xs,SqT K H a xs->xs[i]?=some x)/\∀ys,SqL K H b ys->ys[i]?=some y,
  λi H=>∃xs ys,SqT K H a xs/\SqL K H b ys/\xs.length<=i⟩
structure zeG(z TI TO i1 i2 l1 l2:Addr)(i:Nat)(h:Heap):Prop where
 z:IsZip h z TI TO .none
 ti:IsPair h TI (.ref i1) (.ref i2)
 to:∃a b,IsPair h TO a b
 a:h.IsTupleIter i1 l1 i
 b:h.IsListIter i2 l2 i
theorem zeG.keep{z TI TO i1 i2 l1 l2:Addr}{i:Nat}{h h':Heap}(x:zeG z TI TO i1 i2 l1 l2 i h)(k:∀b∈[z,TI,TO,i1,i2],∀o,h.get? b=some o->h'.get? b=some o):zeG z TI TO i1 i2 l1 l2 i h':=by
 obtain ⟨a1,a2,⟨u,v,a3⟩,a4,a5⟩:=x
 exact ⟨k _ (by simp) _ a1,k _ (by simp) _ a2,⟨u,v,k _ (by simp) _ a3⟩,a4.at λo e=>k _ (by simp) o e,a5.at λo e=>k _ (by simp) o e⟩
section
variable {X:Cx}
def zqg(K:PySem.W.Frag)(ta:TA):TI:=λσ H R=>ta σ H λvs H1=>∃a b,vs=[.ref a,.ref b]/\(∃xs,SqT K H1 a xs)/\(∃ys,SqL K H1 b ys)/\R (zjc K a b) H1
end
section
variable {K:PySem.W.Frag}{g:TG}{tb:TS}{D:zY}{σ:St}{H:Hp}{ta:TA}{R:It->Hp->Prop}
theorem zpD:zqg K ta σ H R=ta σ H λvs H1=>uR2 vs λa b=>(∃xs,SqT K H1 a xs)/\(∃ys,SqL K H1 b ys)/\R (zjc K a b) H1:=by
 apply propext
 constructor
 ·intro h
  exact h
 ·intro h
  exact h
end
section
variable {X:Cx}
end
def tx(l:List Nat):Str:=⟨l.toArray⟩
def sg(z:Str):List Nat:=z.cps.toList
theorem zg8(z:Str):tx (sg z)=z:=by cases z;simp [sg,tx]
theorem zr7{a b:Str}(h:sg a=sg b):a=b:=by rw [<- zg8 a,h,zg8]
theorem znl(z:Str):(sg z).length=z.length:=by simp [sg,Str.length]
def c1(c:Nat):Str:=⟨#[c]⟩
section
variable {X:Cx}{tg:Expr}
def zlw(K:PySem.W.Frag)(tl:TE):TI:=λσ H R=>tl σ H λx H1=>uR x λa=>(∃xs,SqL K H1 a xs/\R (Itl K a) H1)\/∃xs,SqT K H1 a xs/\R (Itt K a) H1
theorem zms{K:PySem.W.Frag}{tl:TE}{σ:St}{H:Hp}{R:It->Hp->Prop}:zlw K tl σ H R=tl σ H λx H1=>uR x λa=>(∃xs,SqL K H1 a xs/\R (Itl K a) H1)\/∃xs,SqT K H1 a xs/\R (Itt K a) H1:=rfl
end
section
variable {K:PySem.W.Frag}{g:TG}{tt:TT}{te:TE}{H:Hp}{Q:VK}{R:It->Hp->Prop}
theorem zax.tup{a:Addr}{xs:List V}{τ:St}(Pv:Nat->St->List V->Hp->Prop)(hz:∀i τ ys H,Pv i τ ys H->ys.length<sizeLine)(ha:∀i τ ys H,Pv i τ ys H->SqT K H a xs)(h0:Pv 0 τ [] H)
  (hs:∀(N:St->List V->Hp->Prop) i x τ ys H,xs[i]?=some x->Pv i τ ys H->(∀τ ys H,Pv (i+1) τ ys H->N τ ys H)->g x τ H λτ1 H4=>tt τ1 H4 λok H5=>zbC N ys τ1 te ok H5) (hd:∀τ ys H,Pv xs.length τ ys H->∀D H',New H D (.lst ys) H'->Q (.ref D) H'):zax (Itt K a) g tt te τ H Q:=by
 refine ⟨λi m τ ys H=>m=xs.length-i/\i<=xs.length/\Pv i τ ys H,⟨xs.length,by simp,zero_le _,h0⟩,?_⟩
 rintro i m τ ys H2 ⟨rfl,hi,p⟩
 refine ⟨hz i τ ys H2 p,?_⟩
 have q:=ha i τ ys H2 p
 by_cases hlt:i<xs.length
 ·refine .inr ⟨⟨xs,xs[i],q,by simp [hlt]⟩,λx H' y=>?_⟩
  obtain ⟨e,y⟩:=y
  subst e
  exact hs (λτ1 ys H=>∃m',m'<xs.length-i/\m'=xs.length-(i+1)/\i+1<=xs.length/\Pv (i+1) τ1 ys H) i x τ ys _ (y xs q) p λτ1 zs H q=>⟨xs.length-(i+1),by omega,rfl,hlt,q⟩
 ·have e:i=xs.length:=by omega
  subst e
  exact .inl ⟨⟨xs,q,Nat.le_refl _⟩,λD hD _=>hd τ ys H2 p D _ (.mk' hD)⟩
theorem zl7{c:Bool}{a:Addr}{H:Hp}{Q:VK}:zbu c (.ref a) .non H Q=Q (.bl (if c then true else false)) H:=by simp [zbu]
theorem zmM{c:Bool}{a:Str}{H:Hp}{Q:VK}:zbu c (.str a) .non H Q=Q (.bl (if c then true else false)) H:=by simp [zbu]
end
def zi8(h:Heap)(e:Addr):Prop:=∃oe vs T,h.get? e=some oe/\oe.data = .fields vs/\vs[1]?=some (Value.ref T)
section
variable {M:Model}{A:Around}{E:Value->Shared->Prop}{s:Shared}{B:Heap}{env:Env}{outer l:List Env}{L e:Addr}{cls fl:Value}
theorem zg6{oe:Obj}{vs:Array Value}{head:Value}{had:Bool}{Q:Unit->Shared->Prop}(hfr:A.frames=some (env::outer))(hf:env.frame=some L)(st:B.StaysIn s.heap)(hn:B.get? e=none)
  (hl:s.heap.FunFrames B (env::outer)) (he:s.heap.get? e=some oe) (hc:oe.cls=cls) (hdi:oe.dict=none) (hd:oe.data = .fields vs) (hz:2<vs.size) (h2:vs[2]?=some .none)
  (k:∀h',zan B (env::outer) e cls (rawInt L) h'->zi8 h' e->s.heap.UpToSlots h'->Q () { s with heap:=h' }) :
  wpAny M A (do let a<-frameOf env;let pl<-entryPlaceOf L had;let b<-EntryCells.newEntry head a .none (rawInt L) .none pl;setField (.ref e) 1 b) Q E s:=by
 have nfr:e∉(env::outer).filterMap (·.frame):=λz=>by
  obtain ⟨_,o,ho,nf⟩:=hl.mem z
  rw [he] at ho
  cases ho
  exact nf vs hd
 refine wpAny_bind (wpAny_frameOf_fun hfr hl hf λg only=>?_)
 obtain ⟨_,same,slots⟩:=only
 refine wpAny_bind (wpAny_entryPlaceOf λpl hpl=>?_)
 have key:∀(tb:Obj)(ts:Array Value),tb.data = .fields ts->ts[3]?=some (rawInt L)->wpAny M A (setField (.ref e) 1 (.ref g.objs.size)) Q E { s with heap:=g.push tb }:=by
  intro tb ts td t3
  have e1:g.get? e=some oe:=(same e nfr).trans he
  have e2:(g.push tb).get? e=some oe:=get?_push_of_some _ e1
  have hT:(g.push tb).get? g.objs.size=some tb:=get?_push_size _ (by rw [isFreed_of_fields td])
  have hne:g.objs.size≠e:=ne_of_gt (lt_size e1)
  have fresh:B.get? g.objs.size=none:=by
   cases q:B.get? g.objs.size with
   | none=>rfl
   | some o =>
    obtain ⟨sl,z⟩:=slots _ o (st _ o q)
    exact absurd (lt_size z) (lt_irrefl _)
  have up:∀b o,b≠e->g.get? b=some o->((g.push tb).update e (mapFields (·.setIfInBounds 1 (.ref g.objs.size)))).get? b=some o:=λb o hb q =>
   (get?_update_other _ _ (Ne.symm hb)).trans (get?_push_of_some _ q)
  have notE:∀b o,s.heap.get? b=some o->(∀ws,o.data≠.fields ws)->b≠e:=λb o q nf z=>by
   rw [z,he] at q
   cases q
   exact nf vs hd
  have dd:=data_mapFields hd (·.setIfInBounds 1 (Value.ref g.objs.size))
  refine wpAny_setField e2 hd (by omega) (k _ ⟨λb o q=>?_,hn,?_,?_⟩ ⟨_,_,g.objs.size,get?_update_self _ e2 (isFreed_of_fields dd),dd,by rw [Array.getElem?_setIfInBounds_self_of_lt (by omega)]⟩ λb o q nf=>?_)
  ·refine up b o (λz=>by rw [z,hn] at q;cases q) ((same b λz=>?_).trans (st b o q))
   rw [(hl.mem z).1] at q
   cases q
  ·refine hl.of_keeps λb o q nf=>?_
   obtain ⟨sl,z⟩:=slots b o q
   exact ⟨_,up b _ (notE b o q nf) z,rfl⟩
  ·refine ⟨_,_,get?_update_self _ e2 (isFreed_of_fields dd),(Obj.cls_mapFields _ _).trans hc,(ziA _ _).trans hdi,dd,by simpa using hz,by rw [Array.getElem?_setIfInBounds_ne (by decide)];exact h2,.inr ⟨g.objs.size,tb,ts,?_,fresh,hne,?_,td,t3⟩⟩
   ·rw [Array.getElem?_setIfInBounds_self_of_lt (by omega)]
   ·rw [get?_update_other _ _ (Ne.symm hne)]
    exact hT
  ·obtain ⟨sl,z⟩:=slots b o q
   exact ⟨sl,up b _ (notE b o q nf) z⟩
 unfold EntryCells.newEntry newFields
 refine wpAny_bind (wpAny_newObj_type ?_ (hpl.sizeOk5 _ _ _ _ _))
 exact key _ _ rfl (by simp)
theorem zrw{Q:Unit->Shared->Prop}(hfr:A.frames=some (env::outer))(hf:env.frame=some L)(x:zan B (env::outer) e cls fl s.heap)
  (k:∀h',zan B (env::outer) e cls (rawInt L) h'->zi8 h' e->s.heap.UpToSlots h'->Q () { s with heap:=h' }):wpAny M A (noteFrame (.ref e) env) Q E s:=by
 obtain ⟨st,hn,hl,oe,vs,he,hc,hdi,hd,hz,h2,h1⟩:=x
 unfold noteFrame
 simp only [hf]
 rcases h1 with h1|⟨T,oT,ts,h1,nT,Te,gT,dT,t3⟩
 ·refine wpAny_bind (wpAny_field he hd h1 ?_)
  rw [if_neg (show ¬ ((Value.none != Value.none)=true) by decide)]
  exact zg6 hfr hf st hn hl he hc hdi hd hz h2 k
 ·refine wpAny_bind (wpAny_field he hd h1 ?_)
  rw [if_pos (show (Value.ref T != Value.none)=true by simp)]
  refine wpAny_bind (wpAny_field gT dT t3 ?_)
  by_cases hfl:fl=rawInt L
  ·subst hfl
   rw [if_pos (show (rawInt L==rawInt L)=true by simp)]
   exact wpAny_pure (k s.heap ⟨st,hn,hl,oe,vs,he,hc,hdi,hd,hz,h2,.inr ⟨T,oT,ts,h1,nT,Te,gT,dT,t3⟩⟩ ⟨oe,vs,T,he,hd,h1⟩ (UpToSlots.refl _))
  ·rw [if_neg (show ¬ ((fl==rawInt L)=true) by simpa using hfl)]
   refine wpAny_bind (wpAny_setField gT dT (Array.getElem?_eq_some_iff.mp t3).1 ?_)
   have oth:∀b,b≠T->(s.heap.update T (mapFields (·.setIfInBounds 3 Value.none))).get? b=s.heap.get? b:=λb hb=>get?_update_other _ _ (Ne.symm hb)
   have notT:∀b o,s.heap.get? b=some o->(∀ws,o.data≠.fields ws)->b≠T:=λb o q nf z=>by
    rw [z,gT] at q
    cases q
    exact nf ts dT
   refine zg6 (B:=B) (cls:=cls) hfr hf (λb o q=>?_) hn (hl.of_keeps λb o q nf=>⟨o,(oth b (notT b o q nf)).trans q,rfl⟩) ((oth e (Ne.symm Te)).trans he) hc hdi hd hz h2 λh' y ht up=>k h' y ht λb o q nf=>up b o ((oth b (notT b o q nf)).trans q) nf
   exact (oth b λz=>by rw [z,nT] at q;cases q).trans (st b o q)
theorem zpp{Q:Unit->Shared->Prop}(x:zan B l e cls fl s.heap)(k:∀h',zan B l e cls (rawInt L) h'->s.heap.UpToSlots h'->Q () { s with heap:=h' }):wpAny M A (setFlight (.ref e) (some L)) Q E s:=by
 obtain ⟨st,hn,hl,oe,vs,he,hc,hdi,hd,hz,h2,h1⟩:=x
 unfold setFlight
 rcases h1 with h1|⟨T,oT,ts,h1,nT,Te,gT,dT,t3⟩
 ·refine wpAny_bind (wpAny_field he hd h1 ?_)
  rw [if_neg (show ¬ ((Value.none != Value.none)=true) by decide)]
  exact wpAny_pure (k s.heap ⟨st,hn,hl,oe,vs,he,hc,hdi,hd,hz,h2,.inl h1⟩ (UpToSlots.refl _))
 ·refine wpAny_bind (wpAny_field he hd h1 ?_)
  rw [if_pos (show (Value.ref T != Value.none)=true by simp)]
  have lt3:3<ts.size:=(Array.getElem?_eq_some_iff.mp t3).1
  have dd:=data_mapFields dT (·.setIfInBounds 3 (rawInt L))
  have oth:∀b,b≠T->(s.heap.update T (mapFields (·.setIfInBounds 3 (rawInt L)))).get? b=s.heap.get? b:=λb hb=>get?_update_other _ _ (Ne.symm hb)
  have notT:∀b o,s.heap.get? b=some o->(∀ws,o.data≠.fields ws)->b≠T:=λb o q nf z=>by
   rw [z,gT] at q
   cases q
   exact nf ts dT
  refine wpAny_setField gT dT lt3 (k _ ⟨λb o q=>(oth b λz=>by rw [z,nT] at q;cases q).trans (st b o q),hn,hl.of_keeps λb o q nf=>⟨o,(oth b (notT b o q nf)).trans q,rfl⟩,oe,vs,(oth e (Ne.symm Te)).trans he,hc,hdi,hd,hz,h2,
   .inr ⟨T,_,_,h1,nT,Te,get?_update_self _ gT (isFreed_of_fields dd),dd,?_⟩⟩ λb o q nf=>⟨o.slots,(oth b (notT b o q nf)).trans q⟩)
  rw [Array.getElem?_setIfInBounds_self_of_lt lt3]
end
def zhn(X:Cx)(Ex:Addr->St->Hp->Prop):Value->Shared->Prop:=λe s'=>∃(ea C:Addr)(B:Heap)(H':Hp)(fl:Value)(σ:St)(sI:Shared)(Ga:List (Addr×Obj)),e = .ref ea/\Inv X Ga σ H' sI/\zan B X.stack ea (.ref C) fl s'.heap /\
 s'.os=sI.os/\AllBare s'.gens/\(∀b o,sI.heap.get? b=some o->b∉frs X.stack->B.get? b=some o)/\sI.heap.UpToSlots s'.heap/\Ex C σ H'
abbrev cxF(X:Cx)(Ex:Addr->St->Hp->Prop):Cx:=X.wish (zhn X Ex)
theorem zmz{X:Cx}{Ex:Addr->St->Hp->Prop}:zaw (cxF X Ex) Ex:=λps σ H sI ea C B fl s' I y os bare hB up q =>
 ⟨ea,C,B,H,fl,σ,sI,ps,rfl,I.unwish,y,os,bare,hB,up,q⟩
theorem zr1{X:Cx}{Ex:Addr->St->Hp->Prop}(hst:X.stack=X.env::X.outer)(hfr:X.Ok->X.A.frames=some (X.env::X.outer)){L:Addr}(hL:X.env.frame=some L):PassesOwn (model X.prog X.w) X.A X.env (zhn X Ex):=by
 rintro e s' ⟨ea,C,B,H',fl,σ,sI,Ga,rfl,I,y,os,bare,hB,up,q⟩
 have fr:=hfr I.ok
 rw [hst] at y
 refine zrw fr hL y λh1 y1 ht u1=>?_
 obtain ⟨oe,vs,T,g1,g2,g3⟩:=ht
 refine wpAny_bind (wpAny_field g1 g2 g3 ?_)
 rw [if_neg (show ¬ ((Value.ref T==Value.none)=true) by simp)]
 rw [hL]
 refine zpp (s:={ s' with heap:=h1 }) y1 λh2 y2 u2=>?_
 rw [<- hst] at y2
 exact ⟨ea,C,B,H',_,σ,sI,Ga,rfl,I,y2,os,bare,hB,(up.trans u1).trans u2,q⟩
theorem PS.thr{X:Cx}{Ex:Addr->St->Hp->Prop}{st:Stmt}{t:TS}(T:zaw X Ex)(h:PS (cxF X Ex) st t):PS X st t:=λGa s σ H D I hw =>
 wpAny_mono (h Ga s σ H D (I.wish _) hw) (λ_ _ q=>q.unwish) λe s' ⟨ea,C,B,H',fl,σ',sI,ps,he,I',y,os,bare,hB,up,q⟩=>by
  subst he
  exact T ps σ' H' sI ea C B fl s' I' y os bare hB up q
theorem zn5{X:Cx}{Ex:Addr->St->Hp->Prop}{st:Stmt}{t:TS}(T:zaw X Ex)(h:W (PS (cxF X Ex) st t)):W (PS X st t):=⟨PS.thr T h.h⟩
section
variable {X:Cx}
def zmy:R2:=λx y H Q=>uEq true x y H Q\/∃a b xs ys,x = .ref a/\y = .ref b/\H a=some (.tup xs)/\H b=some (.tup ys)/\xs.all zv=true/\ys.all zv=true/\Q (.bl (!eqL xs ys)) H
theorem zrA{a b:Addr}{H:Hp}{Q:VK}:zmy (.ref a) (.ref b) H Q = ∃xs ys,((H a=some (.lst xs)/\H b=some (.lst ys))\/(H a=some (.tup xs)/\H b=some (.tup ys)))/\xs.all zv=true/\ys.all zv=true/\Q (.bl (!eqL xs ys)) H:=by
 apply propext;constructor
 ·rintro (h|⟨a',b',xs,ys,e1,e2,h1,h2,f1,f2,q⟩)
  ·rw [zcV] at h
   obtain ⟨xs,ys,h1,h2,f1,f2,q⟩:=h
   exact ⟨xs,ys,.inl ⟨h1,h2⟩,f1,f2,q⟩
  ·cases e1;cases e2;exact ⟨xs,ys,.inr ⟨h1,h2⟩,f1,f2,q⟩
 ·rintro ⟨xs,ys,⟨h1,h2⟩|⟨h1,h2⟩,f1,f2,q⟩
  ·exact .inl (by rw [zcV];exact ⟨xs,ys,h1,h2,f1,f2,q⟩)
  ·exact .inr ⟨a,b,xs,ys,rfl,rfl,h1,h2,f1,f2,q⟩
theorem zap{K:PySem.W.Frag}(h:X.K=K):zR X (.builtin "isinstance") (zc1 K):=by subst h;exact zgy
def zl0:Str->V->Hp->VK->Prop:=λz y H Q=>uS y λq=>Q (.int (PySem.Txt.find z q)) H
theorem zpI{z q:Str}{H:Hp}{Q:VK}:zl0 z (.str q) H Q=Q (.int (PySem.Txt.find z q)) H:=zel
def zcJ:List V->Hp->VK->Prop:=λxs H Q=>zcA xs H Q\/∃b:Bool,xs=[.bl b]/\Q (.str (if b then "True" else "False")) H
theorem zjV{i:Int}{H:Hp}{Q:VK}:zcJ [.int i] H Q=(i.natAbs.log2<1920/\Q (.str (toString i)) H):=by simp [zcJ,zgP]
theorem zpR{z:Str}{H:Hp}{Q:VK}:zcJ [.str z] H Q=Q (.str z) H:=by simp [zcJ,zhx]
theorem zju{b:Bool}{H:Hp}{Q:VK}:zcJ [.bl b] H Q=Q (.str (if b then "True" else "False")) H:=by simp [zcJ,zcA,zcp]
end
section
variable {κ:Type} [DecidableEq κ]
def zB(kvs:List (κ×V))(k:κ):Option V:=(kvs.find? λkv=>decide (kv.1=k)).map (·.2)
def zae(kvs:List (κ×V))(k:κ)(v:V):List (κ×V) :=
 if (kvs.any λkv=>decide (kv.1=k))=true then kvs.map (λkv=>if kv.1=k then (kv.1,v) else kv) else kvs++[(k,v)]
def zau(kvs:List (κ×V))(k:κ):List (κ×V):=kvs.filter λkv=>decide (kv.1≠k)
theorem zdR{p:κ×V}{r:List (κ×V)}{k:κ}(e:p.1=k):zB (p::r) k=some p.2:=by simp [zB,find?_cons,e]
theorem zd4{p:κ×V}{r:List (κ×V)}{k:κ}(e : ¬ p.1=k):zB (p::r) k=zB r k:=by simp [zB,find?_cons,e]
theorem zgF(k:κ):∀kvs:List (κ×V),(kvs.any λkv=>decide (kv.1=k))=(zB kvs k).isSome
 | []=>rfl
 | p::r=>by
  rw [any_cons]
  by_cases e:p.1=k
  ·simp only [zdR e,decide_eq_true e,Bool.true_or,Option.isSome_some]
  ·rw [zd4 e,decide_eq_false e,Bool.false_or];exact zgF k r
theorem zhK(kvs:List (κ×V))(k:κ)(v:V):(zae kvs k v).length<=kvs.length+1:=by
 unfold zae
 split
 ·rw [length_map];omega
 ·rw [length_append,length_cons,length_nil];omega
theorem zas.isSome_eq{o:Option V}{u:Option Value}(r:zas o u):o.isSome=u.isSome:=by
 cases o with
 | none=>cases u with
  | none=>rfl
  | some _=>exact (show False from r).elim
 | some _=>cases u with
  | none=>exact (show False from r).elim
  | some _=>rfl
theorem zas.getD{o:Option V}{u:Option Value}{d:V}{d':Value}(r:zas o u)(rd:ze d d'):ze (o.getD d) (u.getD d'):=by
 cases o with
 | none=>cases u with
  | none=>exact rd
  | some _=>exact (show False from r).elim
 | some _=>cases u with
  | none=>exact (show False from r).elim
  | some _=>exact r
theorem KV.val{kvs:List (κ×V)}{vs:List (κ×Value)}(r:KV kvs vs)(k:κ):zas (zB kvs k) (valueAt vs k):=by
 unfold KV at r
 induction r with
 | nil=>exact True.intro
 | @cons p q ps qs h t ih =>
  obtain ⟨h1,h2⟩:=h
  by_cases e:p.1=k
  ·have e':q.1=k:=h1.symm.trans e
   have b:valueAt (q::qs) k=some q.2:=by simp [valueAt,find?_cons,e']
   rw [zdR e,b];exact h2
  ·have e' : ¬ q.1=k:=λz=>e (h1.trans z)
   have b:valueAt (q::qs) k=valueAt qs k:=by simp [valueAt,find?_cons,e']
   rw [zd4 e,b];exact ih
theorem KV.any{kvs:List (κ×V)}{vs:List (κ×Value)}(r:KV kvs vs)(k:κ):(kvs.any λkv=>decide (kv.1=k))=vs.any λkv=>decide (kv.1=k):=by
 unfold KV at r
 induction r with
 | nil=>rfl
 | cons h t ih=>rw [any_cons,any_cons,ih,h.1]
theorem KV.repl{kvs:List (κ×V)}{vs:List (κ×Value)}(r:KV kvs vs)(k:κ){y:V}{u:Value}(ry:ze y u) :
  KV (kvs.map λkv=>if kv.1=k then (kv.1,y) else kv) (vs.map λkv=>if kv.1=k then (kv.1,u) else kv):=by
 unfold KV at r ⊢
 induction r with
 | nil=>exact .nil
 | @cons p q ps qs h t ih =>
  rw [map_cons,map_cons]
  refine .cons ?_ ih
  obtain ⟨h1,h2⟩:=h
  by_cases e:p.1=k
  ·rw [if_pos e,if_pos (h1.symm.trans e)];exact ⟨h1,ry⟩
  ·rw [if_neg e,if_neg (λz=>e (h1.trans z))];exact ⟨h1,h2⟩
theorem KV.put{kvs:List (κ×V)}{vs:List (κ×Value)}(r:KV kvs vs)(k:κ){y:V}{u:Value}(ry:ze y u):KV (zae kvs k y) (stored vs k u):=by
 unfold zae stored
 rw [r.any k]
 by_cases e:(vs.any λkv=>decide (kv.1=k))=true
 ·rw [if_pos e,if_pos e];exact r.repl k ry
 ·rw [if_neg e,if_neg e];exact Paired.snoc r ⟨rfl,ry⟩
theorem KV.drop{kvs:List (κ×V)}{vs:List (κ×Value)}(r:KV kvs vs)(k:κ):KV (zau kvs k) (without vs k):=by
 unfold KV at r ⊢
 unfold zau without
 induction r with
 | nil=>exact .nil
 | @cons p q ps qs h t ih =>
  obtain ⟨h1,h2⟩:=h
  rw [filter_cons,filter_cons]
  by_cases e:p.1=k
  ·have a : ¬ decide (p.1≠k)=true:=by simp [e]
   have b : ¬ decide (q.1≠k)=true:=by simp [h1.symm.trans e]
   rw [if_neg a,if_neg b];exact ih
  ·have e' : ¬ q.1=k:=λz=>e (h1.trans z)
   have a:decide (p.1≠k)=true:=by simp [e]
   have b:decide (q.1≠k)=true:=by simp [e']
   rw [if_pos a,if_pos b];exact .cons ⟨h1,h2⟩ ih
theorem KV.length{kvs:List (κ×V)}{vs:List (κ×Value)}(r:KV kvs vs):kvs.length=vs.length:=Paired.length r
theorem zid(kvs:List (κ×V))(k:κ):(zau kvs k).length<=kvs.length:=List.length_filter_le _ _
end
theorem zbB{P:Program}{w:World}{k:Key}{u:Value}(r:ze (kV k) u):(zaj P w).is k u=true:=by
 cases k with
 | inl i=>obtain ⟨t,e⟩:=(show ∃t,u=Value.int i t from r);subst e;exact zs3 P w i t
 | inr x=>obtain ⟨t,e⟩:=(show ∃t,u=Value.str x t from r);subst e;exact zsv P w x t
theorem zhH{P:Program}{w:World}:∀{ks:List Key}{us:List Value},zi (ks.map kV) us->ItemsAre (zaj P w) ks us
 | [],_,r=>by rw [map_nil] at r;cases r;exact .nil
 | k::ks,_,r=>by
  rw [map_cons] at r
  cases r with
  | cons h t=>exact .cons (zbB h) (zhH t)
abbrev KT(H:Hp):List (List Key×V)->List (List Key×Addr×Value)->Prop:=Paired λp q=>p.1=q.1/\H q.2.1=some (.tup (p.1.map kV))/\ze p.2 q.2.2
theorem KT.val{H:Hp}{kvs:List (List Key×V)}{xs:List (List Key×Addr×Value)}(r:KT H kvs xs)(k:List Key):zas (zB kvs k) ((atKey xs k).map (·.2)):=by
 induction r with
 | nil=>exact True.intro
 | @cons p q ps qs h t ih =>
  obtain ⟨h1,_,h2⟩:=h
  by_cases e:p.1=k
  ·have e':q.1=k:=h1.symm.trans e
   have b:atKey (q::qs) k=some q.2:=by simp [atKey,find?_cons,e']
   rw [zdR e,b];exact h2
  ·have e' : ¬ q.1=k:=λz=>e (h1.trans z)
   have b:atKey (q::qs) k=atKey qs k:=by simp [atKey,find?_cons,e']
   rw [zd4 e,b];exact ih
theorem KT.repl{H:Hp}{kvs:List (List Key×V)}{xs:List (List Key×Addr×Value)}(r:KT H kvs xs)(k:List Key){y:V}{u:Value}(ry:ze y u) :
  KT H (kvs.map λkv=>if kv.1=k then (kv.1,y) else kv) (xs.map (putAt k u)):=by
 induction r with
 | nil=>exact .nil
 | @cons p q ps qs h t ih =>
  rw [map_cons,map_cons]
  refine .cons ?_ ih
  obtain ⟨h1,h2,h3⟩:=h
  unfold putAt
  by_cases e:p.1=k
  ·rw [if_pos e,if_pos (h1.symm.trans e)];exact ⟨h1,h2,ry⟩
  ·rw [if_neg e,if_neg (λz=>e (h1.trans z))];exact ⟨h1,h2,h3⟩
theorem KT.put{H:Hp}{kvs:List (List Key×V)}{xs:List (List Key×Addr×Value)}(r:KT H kvs xs)(k:List Key){b:Addr}{y:V}{u:Value}(hb:H b=some (.tup (k.map kV)))(ry:ze y u) :
  KT H (zae kvs k y) (storedH xs k b u):=by
 have e:(kvs.any λkv=>decide (kv.1=k))=(atKey xs k).isSome:=by
  rw [zgF,(r.val k).isSome_eq,isSome_map]
 unfold zae storedH
 rw [e]
 by_cases q:(atKey xs k).isSome=true
 ·rw [if_pos q,if_pos q];exact r.repl k ry
 ·rw [if_neg q,if_neg q];exact Paired.snoc r ⟨rfl,hb,ry⟩
theorem KT.keeps{H H':Hp}{kvs:List (List Key×V)}{xs:List (List Key×Addr×Value)}(r:KT H kvs xs)(ht:∀b ys,H b=some (.tup ys)->H' b=some (.tup ys)):KT H' kvs xs :=
 Paired.mapP r λ_ _ z=>⟨z.1,ht _ _ z.2.1,z.2.2⟩
section
variable {P:Program}{w:World}{H:Hp}{h:Heap}{a:Addr}
theorem zhu{u:HO}(ok:HOk P w H h)(e:Rd H a u):zQ P w H h a u:=e.ok ok
theorem zbz{kvs:List (Key×V)}(ok:HOk P w H h)(e:Rd H a (.dK kvs)):kvs.length<=sizeLine/\(a==sysModules)=false/\∃vs,KV kvs vs/\h.DictOf (zaj P w) a vs :=
 show zQ P w H h a (.dK kvs) from zhu ok e
theorem zeB{kvs:List (Key×V)}(ok:HOk P w H h)(e:H a=some (.dK kvs)):kvs.length<=sizeLine/\(a==sysModules)=false/\∃vs,KV kvs vs/\h.DictOf (zaj P w) a vs:=zbz ok (.inl e)
theorem zcM{ks:List Key}(ok:HOk P w H h)(e:H a=some (.tup (ks.map kV))):(tupleKind (zaj P w)).is h ks a:=by
 obtain ⟨_,its,r,o,h1,h2,n,h3⟩:=(show zQ P w H h a (.tup (ks.map kV)) from ok a _ e)
 exact ⟨o,its.toArray,n,h1,h2,h3,by simpa using zhH r⟩
theorem zca{kvs:List (List Key×V)}(ok:HOk P w H h)(e:Rd H a (.dT kvs)):kvs.length<=sizeLine/\(a==sysModules)=false /\
  ∃xs,KT H kvs xs/\h.DictOfH (tupleKind (zaj P w)) a xs:=by
 obtain ⟨z,y,xs,r,o,es,ep,h1,h2,h3,h4,h5⟩:=(show zQ P w H h a (.dT kvs) from zhu ok e)
 refine ⟨z,y,xs,r,o,es,ep,h1,h2,h3,h4,λx hx=>?_,h5⟩
 have all:∀{l:List (List Key×V)}{m:List (List Key×Addr×Value)},KT H l m->∀x∈m,(tupleKind (zaj P w)).is h x.1 x.2.1:=by
  intro l m q
  induction q with
  | nil=>intro x hx;exact nomatch hx
  | @cons p q ps qs hq t ih =>
   intro x hx
   rcases mem_cons.mp hx with e|hx
   ·subst e
    exact zcM ok (by rw [<- hq.1];exact hq.2.1)
   ·exact ih x hx
 exact all r x hx
theorem zmN{kvs:List (List Key×V)}(ok:HOk P w H h)(e:H a=some (.dT kvs)):kvs.length<=sizeLine/\(a==sysModules)=false /\
  ∃xs,KT H kvs xs/\h.DictOfH (tupleKind (zaj P w)) a xs:=zca ok (.inl e)
end
def zbd(H:Hp)(a:Addr)(y:V)(r:Option V):Prop :=
 (∃kvs k,Rd H a (.dK kvs)/\y=kV k/\r=zB kvs k)\/∃kvs k b,Rd H a (.dT kvs)/\y = .ref b/\H b=some (.tup (k.map kV))/\r=zB kvs k
def zdj(H:Hp)(a:Addr)(y v:V)(H':Hp):Prop :=
 (∃kvs k,H a=some (.dK kvs)/\y=kV k/\kvs.length<sizeLine/\H'=upd H a (.dK (zae kvs k v))) \/
 ∃kvs k b,H a=some (.dT kvs)/\y = .ref b/\H b=some (.tup (k.map kV))/\kvs.length<sizeLine/\H'=upd H a (.dT (zae kvs k v))
theorem zbd.k{H:Hp}{a:Addr}{kvs:List (Key×V)}{k:Key}(e:H a=some (.dK kvs)):zbd H a (kV k) (zB kvs k):=.inl ⟨kvs,k,.inl e,rfl,rfl⟩
theorem zbd.t{H:Hp}{a b:Addr}{kvs:List (List Key×V)}{k:List Key}(e:H a=some (.dT kvs))(eb:H b=some (.tup (k.map kV))):zbd H a (.ref b) (zB kvs k):=.inr ⟨kvs,k,b,.inl e,rfl,eb,rfl⟩
theorem zdj.k{H:Hp}{a:Addr}{kvs:List (Key×V)}{k:Key}{v:V}(e:H a=some (.dK kvs))(hl:kvs.length<sizeLine):zdj H a (kV k) v (upd H a (.dK (zae kvs k v))):=.inl ⟨kvs,k,e,rfl,hl,rfl⟩
theorem zdj.t{H:Hp}{a b:Addr}{kvs:List (List Key×V)}{k:List Key}{v:V}(e:H a=some (.dT kvs))(eb:H b=some (.tup (k.map kV)))(hl:kvs.length<sizeLine) :
  zdj H a (.ref b) v (upd H a (.dT (zae kvs k v))):=.inr ⟨kvs,k,b,e,rfl,eb,hl,rfl⟩
section
variable {X:Cx}{Ga:List (Addr×Obj)}{σ:St}{H:Hp}{s:Shared}{a:Addr}{y v:V}{u r:Value}{o:Option V}{A:Around}{E:Value->Shared->Prop}
theorem zrX{Q:Value->Shared->Prop}(hu:A.units+1<cLine)(I:Inv X Ga σ H s)(g:zbd H a y (some v))(ry:ze y u)(h:∀w' s',Inv X Ga σ H s'->ze v w'->Q w' s') :
  wpAny (model X.prog X.w) A (getItem (.ref a) u) Q E s:=by
 rcases g with ⟨kvs,k,e,ey,l⟩|⟨kvs,k,b,e,ey,eb,l⟩
 ·subst ey
  obtain ⟨z,hd,vs,rel,dd⟩:=zbz I.hok e
  obtain ⟨w',hw,rw'⟩:=zas.some_of (v:=v) (o:=valueAt vs k) (by rw [l];exact rel.val k)
  exact wpAny_getItem_of (zbB ry) dd.mapOf hw (h w' _ (I.tok _) rw')
 ·subst ey
  cases (show u=Value.ref b from ry)
  obtain ⟨z,hd,xs,rel,dd⟩:=zca I.hok e
  obtain ⟨w',hw,rw'⟩:=zas.some_of (v:=v) (o:=(atKey xs k).map (·.2)) (by rw [l];exact rel.val k)
  obtain ⟨p,hp,hp2⟩:=map_eq_some_iff.mp hw
  refine wpAny_getItem_heap (tupleKind_room_in1 hu) (zcM I.hok eb) dd hp ?_
  rw [hp2]
  exact h w' _ (I.tok _) rw'
theorem zl3{Q:Value->Shared->Prop}(hu:A.units+1<cLine)(I:Inv X Ga σ H s)(g:zbd H a y o)(ry:ze y u)(h:∀s',Inv X Ga σ H s'->Q (.bool o.isSome) s') :
  wpAny (model X.prog X.w) A (compareOp .In u (.ref a)) Q E s:=by
 rcases g with ⟨kvs,k,e,ey,l⟩|⟨kvs,k,b,e,ey,eb,l⟩
 ·subst ey
  obtain ⟨z,hd,vs,rel,dd⟩:=zbz I.hok e
  refine wpAny_in_of (zbB ry) hd dd.mapOf ?_
  rw [<- (rel.val k).isSome_eq,<- l]
  exact h _ (I.tok _)
 ·subst ey
  cases (show u=Value.ref b from ry)
  obtain ⟨z,hd,xs,rel,dd⟩:=zca I.hok e
  refine wpAny_in_heap (tupleKind_room_in1 hu) (zcM I.hok eb) hd dd ?_
  have q:=(rel.val k).isSome_eq
  rw [isSome_map] at q
  rw [<- q,<- l]
  exact h _ (I.tok _)
theorem zqI{Q:Value->Shared->Prop}(hu:A.units+1<cLine)(I:Inv X Ga σ H s)(g:zbd H a y o)(ry:ze y u)(h:∀s',Inv X Ga σ H s'->Q (.bool (!o.isSome)) s') :
  wpAny (model X.prog X.w) A (compareOp .NotIn u (.ref a)) Q E s:=by
 rcases g with ⟨kvs,k,e,ey,l⟩|⟨kvs,k,b,e,ey,eb,l⟩
 ·subst ey
  obtain ⟨z,hd,vs,rel,dd⟩:=zbz I.hok e
  refine wpAny_notIn_of (zbB ry) hd dd.mapOf ?_
  rw [<- (rel.val k).isSome_eq,<- l]
  exact h _ (I.tok _)
 ·subst ey
  cases (show u=Value.ref b from ry)
  obtain ⟨z,hd,xs,rel,dd⟩:=zca I.hok e
  refine wpAny_notIn_heap (tupleKind_room_in1 hu) (zcM I.hok eb) hd dd ?_
  have q:=(rel.val k).isSome_eq
  rw [isSome_map] at q
  rw [<- q,<- l]
  exact h _ (I.tok _)
theorem zd7{h':Heap}{t':Nat}{ob:HO}(I:Inv X Ga σ H s)(mu:Mut (H a))(hs:SameBut a s.heap h')(he:∃q,h'.get? a=some q)(new:zQ X.prog X.w (upd H a ob) h' a ob) :
  Inv X Ga σ (upd H a ob) { s with heap:=h',toks:=t' } :=
 I.write (x:=a) (e:=a) mu (.inl rfl) (λb q hb z=>(hs.2 b hb).trans z) he new
theorem zf1{P:Program}{w:World}{H':Hp}{h':Heap}{kvs:List (Key×V)}{vs:List (Key×Value)}(z:kvs.length<=sizeLine)(hd:(a==sysModules)=false)(rel:KV kvs vs)(dd:h'.DictOf (zaj P w) a vs) :
  zQ P w H' h' a (.dK kvs):=⟨z,hd,vs,rel,dd⟩
theorem zqC{H':Hp}{Q:Unit->Shared->Prop}(hu:A.units+1<cLine)(I:Inv X Ga σ H s)(g:zdj H a y v H')(ry:ze y u)(rv:ze v r)(h:∀s',Inv X Ga σ H' s'->Q () s') :
  wpAny (model X.prog X.w) A (setItem (.ref a) u r) Q E s:=by
 rcases g with ⟨kvs,k,e,ey,l,eH⟩|⟨kvs,k,b,e,ey,eb,l,eH⟩
 ·subst ey eH
  obtain ⟨z,hd,vs,rel,dd⟩:=zeB I.hok e
  have hz:vs.length<=sizeLine:=by rw [<- rel.length];exact z
  have hl:(zae kvs k v).length<=sizeLine:=by have:=zhK kvs k v;omega
  refine wpAny_setItem_pairs (hsz:=hz) (zbB ry) dd λh' dd' hs=>h _ ?_
  have he:∃q,h'.get? a=some q:=let ⟨q,_,_,hq,_⟩:=dd';⟨q,hq⟩
  exact zd7 I (by rw [e];exact True.intro) hs he (zf1 hl hd (rel.put k rv) dd')
 ·subst ey eH
  cases (show u=Value.ref b from ry)
  obtain ⟨z,hd,xs,rel,dd⟩:=zmN I.hok e
  have hz:xs.length<=sizeLine:=by rw [<- Paired.length rel];exact z
  have hl:(zae kvs k v).length<=sizeLine:=by have:=zhK kvs k v;omega
  refine wpAny_setItem_heap (hsz:=hz) (tupleKind_room_in1 hu) (zcM I.hok eb) dd λh' dd' hs=>h _ ?_
  obtain ⟨q,es,ep,hq,h2,h3,h4,_,h5⟩:=dd'
  refine zd7 I (by rw [e];exact True.intro) hs ⟨q,hq⟩ ⟨hl,hd,_,(rel.put k eb rv).keeps λc ys ec=>?_,q,es,ep,hq,h2,h3,h4,h5⟩
  rw [zh (zrf ec e (λz=>nomatch z))]
  exact ec
end
section
variable {X:Cx}{Ga:List (Addr×Obj)}{σ:St}{H:Hp}{s:Shared}{a:Addr}{kvs:List (Key×V)}{k:Key}{u:Value}{A:Around}{E:Value->Shared->Prop}
theorem zsj{Q:Unit->Shared->Prop}(I:Inv X Ga σ H s)(e:H a=some (.dK kvs))(ry:ze (kV k) u)(l:(zB kvs k).isSome=true)(h:∀s',Inv X Ga σ (upd H a (.dK (zau kvs k))) s'->Q () s') :
  wpAny (model X.prog X.w) A (delItem (.ref a) u) Q E s:=by
 obtain ⟨z,hd,vs,rel,dd⟩:=zeB I.hok e
 refine wpAny_delItem_slot dd.typeIs (by decide) PySem.F.slot_dict_delitem
  (call_meetsIn PySem.F.slot_dict_delitem dd.typeIs PySem.F.entry_dict_delitem (PySem.F.args_dict_delitem_2 _ _) (meets_dict_delitem_pairs (zaj X.prog X.w) a (zbB ry)) ⟨vs,dd,by rw [<- rel.length];exact z,by rw [<- (rel.val k).isSome_eq];exact l,λh' dd' hs=>h _ ?_⟩)
 have he:∃q,h'.get? a=some q:=let ⟨q,_,_,hq,_⟩:=dd';⟨q,hq⟩
 exact zd7 I (by rw [e];exact True.intro) hs he (zf1 (Nat.le_trans (zid kvs k) z) hd (rel.drop k) dd')
theorem zrH{v:V}{more:List Value}{Q:Value->Shared->Prop}(I:Inv X Ga σ H s)(e:H a=some (.dK kvs))(ry:ze (kV k) u)(l:zB kvs k=some v)(hm:more=[]\/∃x,more=[x])
  (h:∀w' s',Inv X Ga σ (upd H a (.dK (zau kvs k))) s'->ze v w'->Q w' s'):wpAny (model X.prog X.w) A (call (.builtin "dict.pop") (.ref a::u::more)) Q E s:=by
 obtain ⟨z,hd,vs,rel,dd⟩:=zeB I.hok e
 obtain ⟨w',hw,rw'⟩:=zas.some_of (v:=v) (o:=valueAt vs k) (by rw [<- l];exact rel.val k)
 have hp:(keyPart u).isSome=true:=by
  cases k with
  | inl i=>obtain ⟨t,q⟩:=(show ∃t,u=Value.int i t from ry);subst q;rfl
  | inr x=>obtain ⟨t,q⟩:=(show ∃t,u=Value.str x t from ry);subst q;rfl
 have ha:argsOk "dict.pop" ⟨.ref a::u::more,[]⟩:=by
  rcases hm with q|⟨x,q⟩
  ·subst q;exact PySem.F.args_dict_pop_2 _ _
  ·subst q;exact PySem.F.args_dict_pop_3 _ _ _
 refine call_meetsIn PySem.F.slot_dict_pop dd.typeIs PySem.F.entry_dict_pop ha (meets_dict_pop_there (zaj X.prog X.w) a (zbB ry) more hm hp)
  ⟨vs,w',dd,by rw [<- rel.length];exact z,hw,λh' dd' hs=>h w' _ ?_ rw'⟩
 have he:∃q,h'.get? a=some q:=let ⟨q,_,_,hq,_⟩:=dd';⟨q,hq⟩
 exact zd7 I (by rw [e];exact True.intro) hs he (zf1 (Nat.le_trans (zid kvs k) z) hd (rel.drop k) dd')
end
theorem ziY{X:Cx}{Ga:List (Addr×Obj)}{σ:St}{H:Hp}{s:Shared}{a:Addr}{y:V}{o:Option V}(I:Inv X Ga σ H s)(g:zbd H a y o):s.TypeIs (.ref a) "dict":=by
 rcases g with ⟨kvs,k,e,_,_⟩|⟨kvs,k,b,e,_,_,_⟩
 ·obtain ⟨_,_,vs,_,dd⟩:=zbz I.hok e
  exact dd.typeIs
 ·obtain ⟨_,_,xs,_,dd⟩:=zca I.hok e
  exact dd.typeIs
section
variable {X:Cx}{o i e value:Expr}{pos pos' tpos:Pos}{td ty tv:TE}
end
section
variable {X:Cx}{pos:Pos}
end
structure M1(X:Cx)(o:Expr)(m:Str)(apos:Pos)(e:Expr)(cpos:Pos):Prop where
 base:attributeBase o m X.env (eval o X.env)=eval o X.env
 few:((backTo cpos (starEach [e] X.env)).all (λx=>!x.1)&&(backToKw cpos (keywordEach [] X.env)).all (λx=>x.1.isSome)
  && decide (([e]:List Expr).length+([]:List Keyword).length+(if ([]:List Keyword).isEmpty then 0 else 1)<30))=true
 line:(apos.endLine==cpos.line)=true
 trees:backTo cpos (starEach [e] X.env)=[(false,eval e X.env)]
structure M2(X:Cx)(o:Expr)(m:Str)(apos:Pos)(e f:Expr)(cpos:Pos):Prop where
 base:attributeBase o m X.env (eval o X.env)=eval o X.env
 few:((backTo cpos (starEach [e,f] X.env)).all (λx=>!x.1)&&(backToKw cpos (keywordEach [] X.env)).all (λx=>x.1.isSome)
  && decide (([e,f]:List Expr).length+([]:List Keyword).length+(if ([]:List Keyword).isEmpty then 0 else 1)<30))=true
 line:(apos.endLine==cpos.line)=true
 trees:backTo cpos (starEach [e,f] X.env)=[(false,eval e X.env),(false,eval f X.env)]
def IsD(H:Hp)(a:Addr):Prop:=(∃kvs,Rd H a (.dK kvs))\/∃kvs,Rd H a (.dT kvs)
theorem zf4{X:Cx}{Ga:List (Addr×Obj)}{σ:St}{H:Hp}{s:Shared}{a:Addr}(I:Inv X Ga σ H s)(d:IsD H a) :
  s.TypeIs (.ref a) "dict"/\(∀b,Value.ref a = .ref b->∃ob,s.heap.get? b=some ob/\ob.dict=none)/\(a==sysModules)=false:=by
 rcases d with ⟨kvs,e⟩|⟨kvs,e⟩
 ·obtain ⟨_,hd,vs,_,dd⟩:=zbz I.hok e
  refine ⟨dd.typeIs,λb q=>?_,hd⟩
  cases q
  obtain ⟨ob,_,_,h1,h2,_⟩:=dd
  exact ⟨ob,h1,h2.2.1⟩
 ·obtain ⟨_,hd,xs,_,dd⟩:=zca I.hok e
  refine ⟨dd.typeIs,λb q=>?_,hd⟩
  cases q
  obtain ⟨ob,_,_,h1,h2,_⟩:=dd
  exact ⟨ob,h1,h2.2.1⟩
section
variable {X:Cx}{Ga:List (Addr×Obj)}{σ:St}{H:Hp}{s:Shared}{a:Addr}{y d:V}{u r:Value}{o:Option V}{A:Around}{E:Value->Shared->Prop}
theorem zqb{Q:Value->Shared->Prop}(hu:A.units+1<cLine)(I:Inv X Ga σ H s)(g:zbd H a y o)(ry:ze y u)(rd:ze d r)(h:∀w' s',Inv X Ga σ H s'->ze (o.getD d) w'->Q w' s') :
  wpAny (model X.prog X.w) A (call (.builtin "dict.get") [.ref a,u,r]) Q E s:=by
 rcases g with ⟨kvs,k,e,ey,l⟩|⟨kvs,k,b,e,ey,eb,l⟩
 ·subst ey
  obtain ⟨z,hd,vs,rel,dd⟩:=zbz I.hok e
  refine call_meetsIn slot_dict_get dd.typeIs PySem.F.entry_dict_get (PySem.F.args_dict_get_3 _ _ _) (meets_dict_get_default (zaj X.prog X.w) a (zbB ry) hd r) ⟨_,dd.mapOf,h _ _ (I.tok _) ?_⟩
  rw [l]
  exact (rel.val k).getD rd
 ·subst ey
  cases (show u=Value.ref b from ry)
  obtain ⟨z,hd,xs,rel,dd⟩:=zca I.hok e
  refine call_meetsIn slot_dict_get dd.typeIs PySem.F.entry_dict_get (PySem.F.args_dict_get_3 _ _ _) (meetsH_dict_get_default (tupleKind (zaj X.prog X.w)) a b hd r) ⟨tupleKind_room_in1 hu,k,xs,zcM I.hok eb,dd,h _ _ (I.tok _) ?_⟩
  rw [l]
  exact (rel.val k).getD rd
end
section
variable {X:Cx}{o e f:Expr}{apos cpos:Pos}{td ty tx:TE}
end
section
variable {X:Cx}{Ga:List (Addr×Obj)}{σ:St}{H:Hp}{s:Shared}{a:Addr}{kvs:List (Key×V)}{A:Around}{E:Value->Shared->Prop}
end
section
variable {X:Cx}{Ga:List (Addr×Obj)}{σ:St}{H:Hp}{s:Shared}{a:Addr}{y:V}{u:Value}{A:Around}{E:Value->Shared->Prop}
end
section
variable {X:Cx}
end
section
variable {κ:Type} [DecidableEq κ]
theorem zo4{p:κ×V}{r:List (κ×V)}{k:κ}(e:p.1=k):zau (p::r) k=zau r k:=by
 unfold zau
 rw [filter_cons,if_neg (by simp [e])]
theorem zpt{p:κ×V}{r:List (κ×V)}{k:κ}(e : ¬ p.1=k):zau (p::r) k=p::zau r k:=by
 unfold zau
 rw [filter_cons,if_pos (by simp [e])]
end
section
variable {X:Cx}{Ga:List (Addr×Obj)}{σ:St}{H:Hp}{s:Shared}{a:Addr}{o:Obj}{kvs:List (Key×V)}
theorem Inv.swap{o1 o2:HO}(I:Inv X Ga σ H s)(e:H a=some o1)(h1:∀x,o1≠.own x)(h2:∀xs,o1≠.tup xs)(h3:∀ob,o1≠.frz ob (.own 0))(h4:∀ps,o1≠.tbl ps)(h5:∀ob u,X.H₀ a≠some (.frz ob u))
  (new:∀H',zQ X.prog X.w H' s.heap a o2):Inv X Ga σ (upd H a o2) s:=by
 have ne:∀b,H b=none->b≠a:=λb n z=>by subst z;rw [e] at n;cases n
 have kn:∀b,H b=none->upd H a o2 b=none:=λb n=>by rw [zh (ne b n)];exact n
 refine ⟨I.ok,I.os,I.bare,⟨I.base.keep,I.base.slot,λb ob q n hx=>kn b (I.base.free b ob q n hx),I.base.there,λb xs q=>?_,λb ob u q=>?_,λb ps q=>?_⟩,I.loc,I.cell,kn _ I.free,λx c q=>kn c (I.freeC x c q),λp hp=>?_,λb u q=>?_,I.len,?_⟩
 ·have z:=I.base.tups b xs q
  rw [zh (λy=>by subst y;rw [e] at z;cases z;exact h2 _ rfl)];exact z
 ·by_cases hb:b=a
  ·subst hb;exact absurd q (h5 ob u)
  ·rw [zh hb];exact I.base.frzs b ob u q
 ·obtain ⟨more,z⟩:=I.base.tbls b ps q
  exact ⟨more,by rw [zh (λy=>by subst y;rw [e] at z;cases z;exact h4 _ rfl)];exact z⟩
 ·obtain ⟨p1,p2,p3⟩:=I.pin p hp
  exact ⟨p1,kn _ p2,p3⟩
 ·by_cases hb:b=a
  ·subst hb;rw [zx] at q;cases q;exact new _
  ·rw [zh hb] at q
   exact (I.hok b u q).stay (λc z _ y=>y) (λc z=>by rw [zh (λy=>by subst y;rw [e] at z;cases z;exact h1 _ rfl)];exact z) (λc xs z=>by rw [zh (λy=>by subst y;rw [e] at z;cases z;exact h2 _ rfl)];exact z)
 ·rcases I.hdk with z|⟨b,ob,vs,q1,q2,q3⟩
  ·exact .inl z
  ·exact .inr ⟨b,ob,vs,q1,by rw [zh (λy=>by subst y;rw [e] at q2;cases q2;exact h3 _ rfl)];exact q2,q3⟩
theorem Inv.freeze(I:Inv X Ga σ H s)(e:H a=some (.dK kvs)):(∀ob u,X.H₀ a≠some (.frz ob u))/\∃o,Inv X Ga σ (upd H a (.frz o (.dK kvs))) s:=by
 have h5:∀ob u,X.H₀ a≠some (.frz ob u):=λob u q=>by
  have z:=I.base.frzs a ob u q
  rw [e] at z;cases z
 refine ⟨h5,?_⟩
 obtain ⟨z,hd,vs,rel,dd⟩:=zeB I.hok e
 obtain ⟨o,es,ep,ho,r⟩:=id dd
 exact ⟨o,I.swap e (λ_ q=>nomatch q) (λ_ q=>nomatch q) (λ_ q=>nomatch q) (λ_ q=>nomatch q) h5 λH'=>⟨ho,z,hd,vs,rel,dd⟩⟩
theorem Inv.thaw(I:Inv X Ga σ H s)(e:H a=some (.frz o (.dK kvs)))(h5:∀ob u,X.H₀ a≠some (.frz ob u)):Inv X Ga σ (upd H a (.dK kvs)) s:=by
 obtain ⟨ho,z⟩:=I.hok a _ e
 exact I.swap e (λ_ q=>nomatch q) (λ_ q=>nomatch q) (λ_ q=>by injection q with _ q;cases q) (λ_ q=>nomatch q) h5 λH'=>z
end
def zby(a:Addr)(kvs:List (Key×V))(H:Hp)(R:Hp->Prop):Prop:=∃o,H a=some (.frz o (.dK kvs))/\R (upd H a (.dK kvs))
def zY.thaw(D:zY)(a:Addr)(kvs:List (Key×V)):zY:=⟨λσ H=>zby a kvs H (D.nx σ),λv H=>zby a kvs H (D.rt v),λσ H=>zby a kvs H (D.bk σ),λσ H=>zby a kvs H (D.ct σ)⟩
def tFz(t:TS):TS:=λD σ H=>∃a kvs,H a=some (.dK kvs)/\∀o,t (D.thaw a kvs) σ (upd H a (.frz o (.dK kvs)))
def zf9(t:TE):TE:=λσ H Q=>∃a kvs,H a=some (.dK kvs)/\∀o,t σ (upd H a (.frz o (.dK kvs))) λv H'=>zby a kvs H' (Q v)
theorem zsI{X:Cx}{e:Expr}{t:TE}(h:PE X e t):PE X e (zf9 t):=by
 rintro Ga s σ H Q I ⟨a,kvs,e,q⟩
 obtain ⟨h5,o,I1⟩:=I.freeze e
 refine thn (h Ga s σ _ _ I1 (q o)) λu s' z=>?_
 obtain ⟨v,H',I',r,o',e',d⟩:=z
 exact ⟨v,_,I'.thaw e' h5,r,d⟩
theorem KV.at{kvs:List (Key×V)}{vs:List (Key×Value)}(r:KV kvs vs):∀{i:Nat}{p:Key×V},kvs[i]?=some p->∃u,vs[i]?=some (p.1,u)/\ze p.2 u:=by
 induction r with
 | nil=>intro i p h;simp at h
 | @cons x y l m r t ih =>
  intro i p h
  cases i with
  | zero =>
   have e:x=p:=by simpa using h
   subst e
   exact ⟨y.2,by rw [r.1];rfl,r.2⟩
  | succ i=>exact ih (by simpa using h)
def Itd(a:Addr)(o:Obj)(kvs:List (Key×V)):It:=⟨λi H=>H a=some (.frz o (.dK kvs))/\i<kvs.length,λi H x H'=>H'=H/\∃p,kvs[i]?=some p/\x=kV p.1,λi H=>H a=some (.frz o (.dK kvs))/\kvs.length<=i⟩
def Itw(a:Addr)(o:Obj)(kvs:List (Key×V)):It:=⟨λi H=>H a=some (.frz o (.dK kvs))/\i<kvs.length,λi H x H'=>H'=H/\∃p,kvs[i]?=some p/\x=p.2,λi H=>H a=some (.frz o (.dK kvs))/\kvs.length<=i⟩
theorem zdp{X:Cx}{Ga:List (Addr×Obj)}{σ:St}{H:Hp}{s:Shared}{a:Addr}{o:Obj}{kvs:List (Key×V)}{es:Array DictEntry}{ep:Nat}(I:Inv X Ga σ H s)(e:H a=some (.frz o (.dK kvs)))(hd:o.data = .dict es ep) :
  (a==sysModules)=false/\∃vs,KV kvs vs/\s.heap.DictAt (zaj X.prog X.w) a vs ep/\vs.length=kvs.length:=by
 obtain ⟨ho,z,hm,vs,rel,o',es',ep',ho',hc,hd',r⟩:=I.hok a _ e
 rw [ho] at ho'
 cases ho'
 rw [hd] at hd'
 cases hd'
 exact ⟨hm,vs,rel,⟨o,es,ho,hc,hd,r⟩,rel.length.symm⟩
theorem zpj{X:Cx}{Ga:List (Addr×Obj)}{σ:St}{H:Hp}{s:Shared}{a:Addr}{o:Obj}{kvs:List (Key×V)}(I:Inv X Ga σ H s)(e:H a=some (.frz o (.dK kvs))):∃es ep,o.data = .dict es ep:=by
 obtain ⟨ho,z,hm,vs,rel,o',es',ep',ho',hc,hd',r⟩:=I.hok a _ e
 rw [ho] at ho'
 cases ho'
 exact ⟨_,_,hd'⟩
theorem zs8{P:Program}{w:World}{K:PySem.W.Frag}{tg:Expr}(a it:Addr){o:Obj}{kvs:List (Key×V)}{es:Array DictEntry}{ep:Nat}(hd:o.data = .dict es ep):zbH true P w K tg (Itd a o kvs) [it] it (λi h=>h.IsKeyIter it a i kvs.length ep) where
 mem:=by simp
 obj:=λi h st b hb=>by
  have e:b=it:=by simpa using hb
  subst e
  obtain ⟨o,e,c,d⟩:=st
  exact ⟨o,e,λv z=>by rw [d] at z;cases z⟩
 keep:=λi h h' st k=>st.at λo e=>k it (by simp) o e
 item:=by
  intro X hP hw hK hc i Ga s σ H E I hf st hg
  subst hP hw hK
  obtain ⟨hq,hi⟩:=hg
  obtain ⟨hm,vs,rel,dd,hl⟩:=zdp I hq hd
  obtain ⟨p,hp⟩:∃p,kvs[i]?=some p:=⟨kvs[i],by simp [hi]⟩
  obtain ⟨u,hu,ru⟩:=rel.at hp
  obtain ⟨f0,f1,f2,f3,f4,f5⟩:=hf it (by simp)
  rw [<- hl] at st
  refine wpAny_pyNext_dict_item st dd hu λkey h' hk st' sb=>?_
  rw [hl] at st'
  have I1:Inv X Ga σ H { s with heap:=h' }:=I.turned (t':=s.toks) (λb o hb e=>(sb.2 b hb).trans e) f0 f1 f3 f4 f5
  have rk:ze (kV p.1) key:=by
   rcases za4 (show zbt p.1 key=true from hk) with ⟨j,t,e1,e2⟩|⟨x,t,e1,e2⟩
   ·rw [e1,e2];exact ⟨t,rfl⟩
   ·rw [e1,e2];exact ⟨t,rfl⟩
  obtain ⟨o,e,c,d⟩:=id st'
  exact ⟨key,rfl,zc8 (s:={ s with heap:=h' }) e c d (by decide) ⟨kV p.1,H,I1,rk,⟨rfl,p,hp,rfl⟩,st',λb hb=>(hf b hb).1⟩⟩
 done:=by
  intro X hP hw hK hc i Ga s σ H E I hf st hg
  subst hP hw hK
  obtain ⟨hq,hi⟩:=hg
  obtain ⟨hm,vs,rel,dd,hl⟩:=zdp I hq hd
  obtain ⟨f0,f1,f2,f3,f4,f5⟩:=hf it (by simp)
  rw [<- hl] at st
  exact wpAny_pyNext_dict_end (I.ok.hd (hc rfl)) st dd (List.getElem?_eq_none (by omega)) λh' eb=>⟨rfl,I.turned (t':=s.toks) (λb o hb e=>eb b o hb e) f0 f1 f3 f4 f5⟩
 self:=λ_ _ _ _ _ st h=>wpAny_pyIter_keyiter st h
theorem zmE{P:Program}{w:World}{K:PySem.W.Frag}{tg:Expr}(a it:Addr){o:Obj}{kvs:List (Key×V)}{es:Array DictEntry}{ep:Nat}(hd:o.data = .dict es ep):zbH true P w K tg (Itw a o kvs) [it] it (λi h=>h.IsValIter it a i kvs.length ep) where
 mem:=by simp
 obj:=λi h st b hb=>by
  have e:b=it:=by simpa using hb
  subst e
  obtain ⟨o,e,c,d⟩:=st
  exact ⟨o,e,λv z=>by rw [d] at z;cases z⟩
 keep:=λi h h' st k=>st.at λo e=>k it (by simp) o e
 item:=by
  intro X hP hw hK hc i Ga s σ H E I hf st hg
  subst hP hw hK
  obtain ⟨hq,hi⟩:=hg
  obtain ⟨hm,vs,rel,dd,hl⟩:=zdp I hq hd
  obtain ⟨p,hp⟩:∃p,kvs[i]?=some p:=⟨kvs[i],by simp [hi]⟩
  obtain ⟨u,hu,ru⟩:=rel.at hp
  obtain ⟨f0,f1,f2,f3,f4,f5⟩:=hf it (by simp)
  rw [<- hl] at st
  refine wpAny_pyNext_values_item st dd hu λh' st' sb=>?_
  rw [hl] at st'
  have I1:Inv X Ga σ H { s with heap:=h' }:=I.turned (t':=s.toks) (λb o hb e=>(sb.2 b hb).trans e) f0 f1 f3 f4 f5
  obtain ⟨o,e,c,d⟩:=id st'
  exact ⟨u,rfl,zc8 (s:={ s with heap:=h' }) e c d (by decide) ⟨p.2,H,I1,ru,⟨rfl,p,hp,rfl⟩,st',λb hb=>(hf b hb).1⟩⟩
 done:=by
  intro X hP hw hK hc i Ga s σ H E I hf st hg
  subst hP hw hK
  obtain ⟨hq,hi⟩:=hg
  obtain ⟨hm,vs,rel,dd,hl⟩:=zdp I hq hd
  obtain ⟨f0,f1,f2,f3,f4,f5⟩:=hf it (by simp)
  rw [<- hl] at st
  exact wpAny_pyNext_values_end (I.ok.hd (hc rfl)) st dd (List.getElem?_eq_none (by omega)) λh' eb=>⟨rfl,I.turned (t':=s.toks) (λb o hb e=>eb b o hb e) f0 f1 f3 f4 f5⟩
 self:=λ_ _ _ _ _ st h=>wpAny_pyIter_valiter st h
section
variable {X:Cx}{tg:Expr}
def ziQ(tl:TE):TI:=λσ H R=>tl σ H λx H1=>∃a o kvs,x = .ref a/\H1 a=some (.frz o (.dK kvs))/\R (Itd a o kvs) H1
def zed(tl:TE):TI:=λσ H R=>tl σ H λx H1=>∃a o kvs,x = .ref a/\H1 a=some (.frz o (.dK kvs))/\R (Itw a o kvs) H1
theorem zpi{l:Expr}{tl:TE}{apos cpos:Pos}(ho:PE X l tl)(hbase:attributeBase l "values" X.env (eval l X.env)=eval l X.env:=by rfl)(hline:(apos.endLine==cpos.line)=true:=by rfl):PI X tg (.Call (.Attribute l "values" apos) [] [] cpos) (zed tl):=by
 intro Ga s σ H R I h
 refine wpAny_Call_method0_late hbase hline (thn (ho Ga s σ H _ I h) λv s1 ⟨x,H1,I1,r1,a,o,kvs,ex,hq,q⟩=>?_)
 subst ex
 cases r1
 obtain ⟨es,ep,hd⟩:=zpj I1 hq
 obtain ⟨hm,vs,rel,dd,hl⟩:=zdp I1 hq hd
 obtain ⟨t1,t2,_⟩:=zf4 I1 (.inl ⟨kvs,.inr ⟨o,hq⟩⟩)
 refine ⟨"dict","dict.values",plainAttrs_dict,PySem.F.slot_dict_values,PySem.F.type_dict_values,t1,t2,Calls.callWith_builtin rfl (PySem.evalArgs_none ?_)⟩
 refine call_meetsIn PySem.F.slot_dict_values dd.dictOf.typeIs PySem.F.entry_dict_values (PySem.F.args_dict_values_1 _) (meets_dict_values (zaj X.prog X.w) a hm) ⟨⟨vs,dd.dictOf⟩,?_⟩
 have hv:(s1.heap.push { cls:=.type "dict_values",data:=.fields #[.ref a] }).IsValuesView s1.heap.objs.size a:=⟨_,get?_push_size _ rfl,rfl,rfl⟩
 refine wpAny_pyIter_values (s:={ s1 with heap:=s1.heap.push { cls:=.type "dict_values",data:=.fields #[.ref a] } }) hv (dd.push _) ?_
 rw [hl]
 have I2:Inv X Ga σ H1 { s1 with heap:=s1.heap.push { cls:=.type "dict_values",data:=.fields #[.ref a] } }:=I1.kept (t':=s1.toks) λb o e=>get?_push_of_some _ e
 refine ⟨_,[_],_,_,H1,rfl,I2.kept (t':=s1.toks) λb o e=>get?_push_of_some _ e,zmE a _ hd,⟨_,get?_push_size _ rfl,rfl,rfl⟩,λb hb=>?_,q⟩
 have e:=mem_singleton.mp hb
 subst e
 exact I2.fpOk (Nat.le_refl _) (I2.hok.fresh (Nat.le_refl _))
end
def uK(y:V)(q:Key->Prop):Prop:=∃k,y=kV k/\q k
theorem zo0{z:Str}{q:Key->Prop}:uK (.str z) q=q (.inr z):=by
 apply propext;constructor
 ·rintro ⟨k,e,h⟩
  cases k with
  | inl i=>cases e
  | inr x=>cases e;exact h
 ·exact λh=>⟨.inr z,rfl,h⟩
theorem zoW{i:Int}{q:Key->Prop}:uK (.int i) q=q (.inl i):=by
 apply propext;constructor
 ·rintro ⟨k,e,h⟩
  cases k with
  | inl i=>cases e;exact h
  | inr x=>cases e
 ·exact λh=>⟨.inl i,rfl,h⟩
section
variable {X:Cx}
def zdQ:R2:=λx y H Q=>∃a k kvs v,x = .ref a/\y=kV k/\Rd H a (.dK kvs)/\zB kvs k=some v/\Q v H
theorem ziH(hu:X.A.units+1<cLine):IxR X zdQ:=by
 intro value slice Ga s σ H x y v u Q I rx ry h hs
 obtain ⟨a,k,kvs,z,rfl,rfl,hq,he,q⟩:=h
 obtain rfl:v=Value.ref a:=rx
 have g:zbd H a (kV k) (some z):=.inl ⟨kvs,k,hq,rfl,he.symm⟩
 unfold subscriptTail
 refine wpAny_bind ?_
 rw [getitemInPython_of_ne (ziY I g).not_modules]
 refine wpAny_bind (wpAny_specialOf (ziY I g) PySem.F.slot_dict_getitem.lookup ?_)
 have fin:wpAny (model X.prog X.w) X.A (subscripted slice false (.ref a) u) (λr s₃=>wpAny (model X.prog X.w) X.A (letTemporaryGo value (.ref a) r>>=λ_=>pure r) (EP X Ga σ Q) X.xe s₃) X.xe s:=by
  rw [hs]
  exact wpAny_operating (zrX hu I g ry λw' s3 I3 rw'=>wpAny_bind (wpAny_letTemporaryGo (wpAny_pure ⟨z,H,I3,rw',q⟩)))
 first
  | exact wpAny_pure (wpAny_bind fin)
  | exact wpAny_bind (wpAny_pure (wpAny_bind fin))
  | exact wpAny_bind fin
def zdJ:R2:=λx y H Q=>uIx x y H Q\/zdQ x y H Q
theorem zps{a:Addr}{z:Str}{H:Hp}{Q:VK}:zdJ (.ref a) (.str z) H Q = ∃kvs,Rd H a (.dK kvs)/\∃v,zB kvs (.inr z)=some v/\Q v H:=by
 apply propext;constructor
 ·rintro (h|⟨a',k,kvs,v,e1,e2,h1,h2,q⟩)
  ·rcases h with ⟨_,_,_,_,_,e,_⟩|⟨_,_,_,_,_,e,_⟩|⟨_,_,_,e,_⟩<;>cases e
  ·cases e1
   cases k with
   | inl i=>cases e2
   | inr x=>cases e2;exact ⟨kvs,h1,v,h2,q⟩
 ·rintro ⟨kvs,h1,v,h2,q⟩
  exact .inr ⟨a,.inr z,kvs,v,rfl,rfl,h1,h2,q⟩
theorem zml{a:Addr}{i:Int}{H:Hp}{Q:VK}:zdJ (.ref a) (.int i) H Q=((∃xs,(H a=some (.lst xs)\/H a=some (.tup xs))/\∃v,atI xs i=some v/\Q v H)\/∃kvs,Rd H a (.dK kvs)/\∃v,zB kvs (.inl i)=some v/\Q v H):=by
 apply propext
 unfold zdJ
 rw [zeh]
 constructor
 ·rintro (h|⟨a',k,kvs,v,e1,e2,h1,h2,q⟩)
  ·exact .inl h
  ·cases e1
   cases k with
   | inl i=>cases e2;exact .inr ⟨kvs,h1,v,h2,q⟩
   | inr x=>cases e2
 ·rintro (h|⟨kvs,h1,v,h2,q⟩)
  ·exact .inl h
  ·exact .inr ⟨a,.inl i,kvs,v,rfl,rfl,h1,h2,q⟩
theorem zrJ{x:Str}{i:Int}{H:Hp}{Q:VK}:zdJ (.str x) (.int i) H Q=(x.length<=sizeLine/\∃c,atI x.cps.toList i=some c/\Q (.str ⟨#[c]⟩) H):=by
 rw [<- zeF]
 apply propext;constructor
 ·rintro (h|⟨a',k,kvs,v,e1,_⟩)
  ·exact h
  ·cases e1
 ·exact .inl
def zdd(c:Bool):R2:=λy x H Q=>∃a k kvs,x = .ref a/\y=kV k/\Rd H a (.dK kvs)/\Q (.bl (if c then !(zB kvs k).isSome else (zB kvs k).isSome)) H
theorem zq9(hu:X.A.units+1<cLine):OpR X (compareOp .In) (zdd false):=by
 intro Ga s σ H x y v u Q I rx ry h
 obtain ⟨a,k,kvs,rfl,rfl,hq,q⟩:=h
 obtain rfl:u=Value.ref a:=ry
 exact zl3 hu I (.inl ⟨kvs,k,hq,rfl,rfl⟩) rx λs3 I3=>⟨.bl (zB kvs k).isSome,H,I3,rfl,q⟩
theorem zg5(hu:X.A.units+1<cLine):OpR X (compareOp .NotIn) (zdd true):=by
 intro Ga s σ H x y v u Q I rx ry h
 obtain ⟨a,k,kvs,rfl,rfl,hq,q⟩:=h
 obtain rfl:u=Value.ref a:=ry
 exact zqI hu I (.inl ⟨kvs,k,hq,rfl,rfl⟩) rx λs3 I3=>⟨.bl (!(zB kvs k).isSome),H,I3,rfl,q⟩
def zeU:R2:=λx y H Q=>uIn x y H Q\/zdd false x y H Q
theorem zkz{x y:Str}{H:Hp}{Q:VK}:zeU (.str x) (.str y) H Q=Q (.bl (!(Builtin.Str.occurrences y x 0 y.length 1).isEmpty)) H:=by
 rw [<- zgM (x:=x) (y:=y) (H:=H) (Q:=Q)]
 apply propext;constructor
 ·rintro (h|⟨a,k,kvs,e,_⟩)
  ·exact h
  ·cases e
 ·exact .inl
theorem zpF{x:Str}{p:Addr}{H:Hp}{Q:VK}:zeU (.str x) (.ref p) H Q=((∃xs,(H p=some (.lst xs)\/H p=some (.tup xs))/\xs.all zv=true/\Q (.bl (inV (.str x) xs)) H)\/∃kvs,Rd H p (.dK kvs)/\Q (.bl (zB kvs (.inr x)).isSome) H):=by
 apply propext
 unfold zeU
 rw [zjk]
 constructor
 ·rintro (⟨xs,h,_,f,q⟩|⟨a,k,kvs,e1,e2,h,q⟩)
  ·exact .inl ⟨xs,h,f,q⟩
  ·cases e1
   cases k with
   | inl i=>cases e2
   | inr x=>cases e2;exact .inr ⟨kvs,h,q⟩
 ·rintro (⟨xs,h,f,q⟩|⟨kvs,h,q⟩)
  ·exact .inl ⟨xs,h,rfl,f,q⟩
  ·exact .inr ⟨p,.inr x,kvs,rfl,rfl,h,q⟩
theorem zpG{c:Bool}{x:Str}{p:Addr}{H:Hp}{Q:VK}:zdd c (.str x) (.ref p) H Q = ∃kvs,Rd H p (.dK kvs)/\Q (.bl (if c then !(zB kvs (.inr x)).isSome else (zB kvs (.inr x)).isSome)) H:=by
 apply propext;constructor
 ·rintro ⟨a,k,kvs,e1,e2,h,q⟩
  cases e1
  cases k with
  | inl i=>cases e2
  | inr x=>cases e2;exact ⟨kvs,h,q⟩
 ·rintro ⟨kvs,h,q⟩;exact ⟨p,.inr x,kvs,rfl,rfl,h,q⟩
def zgB:List V->Hp->VK->Prop:=λxs H Q=>zdm xs H Q\/∃a kvs,xs=[V.ref a]/\Rd H a (.dK kvs)/\Q (.int kvs.length) H
theorem zkH{a:Addr}{H:Hp}{Q:VK}:zgB [.ref a] H Q=((∃ys,(H a=some (.lst ys)\/H a=some (.tup ys))/\Q (.int ys.length) H)\/∃kvs,Rd H a (.dK kvs)/\Q (.int kvs.length) H):=by
 apply propext
 unfold zgB
 rw [zgj]
 constructor
 ·rintro (h|⟨a,kvs,e,h⟩)
  ·exact .inl h
  ·cases e;exact .inr ⟨kvs,h⟩
 ·rintro (h|⟨kvs,h⟩)
  ·exact .inl h
  ·exact .inr ⟨a,kvs,rfl,h⟩
theorem zmH{x:Str}{H:Hp}{Q:VK}:zgB [.str x] H Q=(x.length<=sizeLine/\Q (.int x.length) H):=by
 rw [<- ziN]
 apply propext;constructor
 ·rintro (h|⟨a,kvs,e,h⟩)
  ·exact h
  ·cases e
 ·exact .inl
def zd5:V->V->V->Hp->(Hp->Prop)->Prop:=λo i v H Q=>zfe o i v H Q\/∃a k kvs,o = .ref a/\i=kV k/\H a=some (.dK kvs)/\kvs.length<sizeLine/\Q (upd H a (.dK (zae kvs k v)))
theorem zff(hu:X.A.units+1<cLine):zer X zd5:=by
 intro Ga s σ H o i v ov iv u Q I ro ri rv h
 rcases h with h|⟨a,k,kvs,rfl,rfl,e,l,q⟩
 ·exact zeK Ga s σ H o i v ov iv u Q I ro ri rv h
 ·obtain rfl:ov=Value.ref a:=ro
  exact zqC hu I (.inl ⟨kvs,k,e,rfl,l,rfl⟩) ri rv λs' I'=>⟨_,I',q⟩
theorem zmY{a:Addr}{z:Str}{v:V}{H:Hp}{Q:Hp->Prop}:zd5 (.ref a) (.str z) v H Q = ∃kvs,H a=some (.dK kvs)/\kvs.length<sizeLine/\Q (upd H a (.dK (zae kvs (.inr z) v))):=by
 apply propext;constructor
 ·rintro (⟨_,_,_,_,_,e,_⟩|⟨a',k,kvs,e1,e2,h,l,q⟩)
  ·cases e
  ·cases e1
   cases k with
   | inl i=>cases e2
   | inr x=>cases e2;exact ⟨kvs,h,l,q⟩
 ·rintro ⟨kvs,h,l,q⟩;exact .inr ⟨a,.inr z,kvs,rfl,rfl,h,l,q⟩
theorem zkq{a:Addr}{i:Int}{v:V}{H:Hp}{Q:Hp->Prop}:zd5 (.ref a) (.int i) v H Q=((∃xs j,H a=some (.lst xs)/\ixN xs.length i=some j/\Q (upd H a (.lst (xs.set j v))))\/∃kvs,H a=some (.dK kvs)/\kvs.length<sizeLine/\Q (upd H a (.dK (zae kvs (.inl i) v)))):=by
 apply propext
 unfold zd5
 rw [zir]
 constructor
 ·rintro (h|⟨a',k,kvs,e1,e2,h,l,q⟩)
  ·exact .inl h
  ·cases e1
   cases k with
   | inl i=>cases e2;exact .inr ⟨kvs,h,l,q⟩
   | inr x=>cases e2
 ·rintro (h|⟨kvs,h,l,q⟩)
  ·exact .inl h
  ·exact .inr ⟨a,.inl i,kvs,rfl,rfl,h,l,q⟩
def zeR(td ty:TE):TS:=λD σ H=>td σ H λx H1=>ty σ H1 λy H2=>uR x λa=>uK y λk=>∃kvs,H2 a=some (.dK kvs)/\(zB kvs k).isSome=true/\D.nx σ (upd H2 a (.dK (zau kvs k)))
theorem zrg{o i:Expr}{td ty:TE}{tpos pos:Pos}(ho:PE X o td)(hi:PE X i ty):PS X (.Delete [.Subscript o i tpos] pos) (zeR td ty):=by
 intro Ga s σ H D I h
 refine wpAny_Delete (wpAny_deleteEach_cons (wpAny_delete_Subscript (thn (ho Ga s σ H _ I h) λu s1 ⟨x,H1,I1,rx,q1⟩=>thn (hi Ga s1 σ H1 _ I1 q1) λiv s2 ⟨y,H2,I2,ry,a,ex,k,ey,kvs,e,l,q2⟩=>?_)))
 subst ex ey
 obtain rfl:u=Value.ref a:=rx
 exact zsj I2 e ry l λs3 I3=>wpAny_deleteEach_nil ⟨σ,_,I3,q2⟩
theorem zqW{td ty:TE}{D:zY}{σ:St}{H:Hp}:zeR td ty D σ H=td σ H λx H1=>ty σ H1 λy H2=>uR x λa=>uK y λk=>∃kvs,H2 a=some (.dK kvs)/\(zB kvs k).isSome=true/\D.nx σ (upd H2 a (.dK (zau kvs k))):=rfl
def zf3(td ty tx:TE):TE:=λσ H Q=>td σ H λx H1=>uR x λa=>(∃kvs,Rd H1 a (.dK kvs))/\ty σ H1 λy H2=>tx σ H2 λz H3=>uK y λk=>∃kvs,Rd H3 a (.dK kvs)/\Q ((zB kvs k).getD z) H3
theorem zse{td ty tx:TE}{σ:St}{H:Hp}{Q:VK}:zf3 td ty tx σ H Q=td σ H λx H1=>uR x λa=>(∃kvs,Rd H1 a (.dK kvs))/\ty σ H1 λy H2=>tx σ H2 λz H3=>uK y λk=>∃kvs,Rd H3 a (.dK kvs)/\Q ((zB kvs k).getD z) H3:=rfl
theorem zlp{o e f:Expr}{td ty tx:TE}{apos cpos:Pos}(hu:X.A.units+1<cLine)(ho:PE X o td)(he:PE X e ty)(hf:PE X f tx)(m:M2 X o "get" apos e f cpos:=by exact ⟨rfl,rfl,rfl,rfl⟩):PE X (.Call (.Attribute o "get" apos) [e,f] [] cpos) (zf3 td ty tx):=by
 intro Ga s σ H Q I h
 refine wpAny_Call_method m.base m.few m.line plainAttrs_dict slot_dict_get PySem.F.type_dict_get (thn (ho Ga s σ H _ I h) λu s1 ⟨x,H1,I1,rx,a,ex,d,q1⟩=>?_)
 subst ex
 obtain rfl:u=Value.ref a:=rx
 obtain ⟨t1,t2,_⟩:=zf4 I1 (.inl d)
 refine ⟨t1,t2,?_⟩
 rw [m.trees]
 refine Calls.callWith_builtin rfl (Calls.evalArgs_plain (Calls.spliced_cons (thn (he Ga s1 σ H1 _ I1 q1) λiv s2 ⟨y,H2,I2,ry,q2⟩ =>
  Calls.spliced_cons (thn (hf Ga s2 σ H2 _ I2 q2) λfv s3 ⟨z,H3,I3,rz,k,ey,kvs,g,q3⟩=>Calls.spliced_nil ?_))))
 subst ey
 exact zqb hu I3 (.inl ⟨kvs,k,g,rfl,rfl⟩) ry rz λw' s4 I4 rw'=>⟨_,H3,I4,rw',q3⟩
def zeH(td ty:TE):TE:=λσ H Q=>td σ H λx H1=>uR x λa=>(∃kvs,Rd H1 a (.dK kvs))/\ty σ H1 λy H2=>uK y λk=>∃kvs,H2 a=some (.dK kvs)/\∃v,zB kvs k=some v/\Q v (upd H2 a (.dK (zau kvs k)))
theorem zp0{td ty:TE}{σ:St}{H:Hp}{Q:VK}:zeH td ty σ H Q=td σ H λx H1=>uR x λa=>(∃kvs,Rd H1 a (.dK kvs))/\ty σ H1 λy H2=>uK y λk=>∃kvs,H2 a=some (.dK kvs)/\∃v,zB kvs k=some v/\Q v (upd H2 a (.dK (zau kvs k))):=rfl
theorem zlb{o e:Expr}{td ty:TE}{apos cpos:Pos}(ho:PE X o td)(he:PE X e ty)(m:M1 X o "pop" apos e cpos:=by exact ⟨rfl,rfl,rfl,rfl⟩):PE X (.Call (.Attribute o "pop" apos) [e] [] cpos) (zeH td ty):=by
 intro Ga s σ H Q I h
 refine wpAny_Call_method m.base m.few m.line plainAttrs_dict PySem.F.slot_dict_pop PySem.F.type_dict_pop (thn (ho Ga s σ H _ I h) λu s1 ⟨x,H1,I1,rx,a,ex,d,q1⟩=>?_)
 subst ex
 obtain rfl:u=Value.ref a:=rx
 obtain ⟨t1,t2,_⟩:=zf4 I1 (.inl d)
 refine ⟨t1,t2,?_⟩
 rw [m.trees]
 refine Calls.callWith_builtin rfl (Calls.evalArgs_plain (Calls.spliced_cons (thn (he Ga s1 σ H1 _ I1 q1) λiv s2 ⟨y,H2,I2,ry,k,ey,kvs,ea,v,l,q2⟩=>Calls.spliced_nil ?_)))
 subst ey
 exact zrH I2 ea ry l (.inl rfl) λw' s3 I3 rw'=>⟨v,_,I3,rw',q2⟩
end
end L2
namespace L2
open PySem PySem.Spec PyProof.Rows PySem.W PySem.Calls
def leS(a b:Str):Prop:=ltCps b.cps.toList a.cps.toList=false
theorem zmT{a b:Str}(h1:leS a b)(h2:leS b a):a=b:=by
 unfold leS at h1 h2
 rw [ltCps_eq] at h1 h2
 exact zr7 (PyProof.Rows.strKind.total a.cps.toList b.cps.toList h2 h1)
theorem zhL:∀{l:List Str},sortedS l=true->l.Pairwise leS:=by
 have key:∀(r:List Str)(x:Str),risingS x r=true->(x::r).Pairwise leS:=by
  intro r
  induction r with
  | nil=>intro x _;simp
  | cons y r ih =>
   intro x h
   have h':(!ltCps y.cps.toList x.cps.toList&&risingS y r)=true:=h
   rw [and_eq_true,not_eq_true'] at h'
   have ihy:=ih y h'.2
   refine pairwise_cons.mpr ⟨λz hz=>?_,ihy⟩
   rcases mem_cons.mp hz with rfl|hz
   ·exact h'.1
   ·have yz:=(pairwise_cons.mp ihy).1 z hz
    unfold leS at yz ⊢
    have xy:=h'.1
    rw [ltCps_eq] at yz xy ⊢
    exact KeyOrd.kle_trans (O:=PyProof.Rows.strKind.toKeyOrd) xy yz
 intro l h
 cases l with
 | nil=>exact .nil
 | cons x r=>exact key r x h
theorem zfR:∀{l m:List Str},l.Perm m->l.Pairwise leS->m.Pairwise leS->l=m
 | [],m,p,_,_=>(List.Perm.nil_eq p)
 | x::l,[],p,_,_=>absurd p.length_eq (by simp)
 | x::l,y::m,p,hl,hm=>by
  have e:x=y:=by
   have h1:x∈y::m:=p.mem_iff.mp (mem_cons_self ..)
   have h2:y∈x::l:=p.mem_iff.mpr (mem_cons_self ..)
   rcases mem_cons.mp h1 with e|h1
   ·exact e
   ·rcases mem_cons.mp h2 with e|h2
    ·exact e.symm
    ·exact zmT ((pairwise_cons.mp hl).1 y h2) ((pairwise_cons.mp hm).1 x h1)
  subst e
  rw [zfR ((List.perm_cons x).mp p) (pairwise_cons.mp hl).2 (pairwise_cons.mp hm).2]
open Classical in
noncomputable def zaK(ks:List Str):List Str:=if h:∃ss:List Str,ss.Perm ks/\sortedS ss=true then h.choose else ks
theorem zgY{ks ss:List Str}(p:ss.Perm ks)(h:sortedS ss=true):ss=zaK ks:=by
 have ex:∃ss:List Str,ss.Perm ks/\sortedS ss=true:=⟨ss,p,h⟩
 unfold zaK
 rw [dif_pos ex]
 exact zfR (p.trans ex.choose_spec.1.symm) (zhL h) (zhL ex.choose_spec.2)
section
variable {X:Cx}
def zoI:List V->Hp->VK->Prop:=λxs H Q=>uR1 xs λa=>∃kvs,Rd H a (.dK kvs)/\∀p H2,New H p (.dK kvs) H2->Q (.ref p) H2
theorem zpd{a:Addr}{H:Hp}{Q:VK}:zoI [.ref a] H Q = ∃kvs,Rd H a (.dK kvs)/\∀p H2,New H p (.dK kvs) H2->Q (.ref p) H2:=zaT
def sk(kvs:List (Str×V)):List (Key×V):=kvs.map λp=>(.inr p.1,p.2)
def zhX:List V->Hp->VK->Prop:=λxs H Q=>uR1 xs λa=>∃kvs:List (Str×V),Rd H a (.dK (sk kvs))/\kvs.length<64/\∀p H2,New H p (.lst ((zaK (kvs.map (·.1))).map V.str)) H2->Q (.ref p) H2
theorem zkr{a:Addr}{H:Hp}{Q:VK}:zhX [.ref a] H Q = ∃kvs:List (Str×V),Rd H a (.dK (sk kvs))/\kvs.length<64/\∀p H2,New H p (.lst ((zaK (kvs.map (·.1))).map V.str)) H2->Q (.ref p) H2:=zaT
theorem zh2:∀{vs:List Value}{ss:List Str},vs.length=ss.length->(∀(j:Nat)(v:Value),vs[j]?=some v->∃t,v=Value.str (ss.getD j "") t)->StrsAre vs ss
 | [],[],_,_=>.nil
 | [],_::_,h,_=>absurd h (by simp)
 | _::_,[],h,_=>absurd h (by simp)
 | v::vs,x::ss,h,f=>by
  obtain ⟨t,e⟩:=f 0 v rfl
  have e':v=Value.str x t:=e
  rw [e']
  exact .cons x t (zh2 (by simpa using h) λj u hu=>f (j+1) u hu)
theorem zie:∀{vs:List Value}{ss:List Str},StrsAre vs ss->zi (ss.map V.str) vs
 | _,_,.nil=>.nil
 | _,_,.cons x t h=>.cons ⟨t,rfl⟩ (zie h)
theorem zdI(hc:X.calm=true):zR X (.builtin "sorted") zhX:=by
 intro Ga s σ H xs us Q I r h
 obtain ⟨a,rfl,kvs,hq,h64,q⟩:=h
 obtain ⟨u,rfl,ru⟩:=zb1 r
 cases ru
 obtain ⟨z,hd,vs,rel,dd⟩:=zbz I.hok hq
 obtain ⟨ep,hat⟩:=dd.dictAt
 have hlen:vs.length=kvs.length:=by rw [<- rel.length];simp [sk]
 refine call_function_entry kind_sorted plain_sorted entry_sorted (args_sorted1 _) ?_
 unfold Builtin.«sorted»
 refine wpAny_bind (m:=checkCount "sorted" 1 1 _) (wpAny_pure ?_)
 refine wpAny_bind (kdu_collect (A:=X.A.in1) (kdl_dict (knd:=zaj X.prog X.w) (kvs:=vs) (ep:=ep) hd) (I.ok.hd hc) hat (by rw [hlen,sizeLine_eq];omega) λh' tk acc hk hacc=>?_)
 have hl:acc.toList.length=kvs.length:=by rw [length_toList,<- hlen];exact hacc.1
 have hS:StrsAre acc.toList (kvs.map (·.1)):=zh2 (by rw [hl,length_map]) λj v hv=>by
  obtain ⟨k,x,hx,hk⟩:=hacc.2 j v (by rw [<- getElem?_toList];exact hv)
  have hj:j<vs.length:=(List.getElem?_eq_some_iff.mp hx).1
  have hj':j<kvs.length:=by omega
  have e2:(sk kvs)[j]?=some (.inr kvs[j].1,kvs[j].2):=by simp [sk,hj']
  obtain ⟨u',hu',_⟩:=rel.at e2
  rw [hx] at hu'
  cases hu'
  rcases za4 (show zbt (Sum.inr kvs[j].1) v=true from hk) with ⟨i,t,e1,e2⟩|⟨y,t,e1,e2⟩
  ·cases e1
  ·cases e1
   exact ⟨t,by rw [e2,getD_eq_getElem?_getD,getElem?_map,List.getElem?_eq_getElem hj'];rfl⟩
 have I1:Inv X Ga σ H { s with heap:=h',toks:=tk }:=I.kept hk
 refine wpAny_bind (wpAny_newList ?_ (by rw [hl,sizeLine_eq];omega))
 have hoL:(h'.push (seqObj "list" acc.toList.toArray 0)).get? h'.objs.size=some (seqObj "list" acc.toList.toArray 0):=get?_push_size _ rfl
 refine wpAny_bind (wpAny_holding (wpAny_call_entry slot_list_sort ⟨_,hoL,rfl⟩ entry_list_sort (list_sort_treeK strKind_oneLt hoL hS.keysOf (λv₁ v₂ zo e=>keyKind_strs (by rw [<- e];exact hS)) (by rw [hl];exact h64) λst' a1 a2=>⟨_,rfl,?_⟩) (args_list_sort _)))
 obtain ⟨ss',b1,b2,b3⟩:=sorted_out_str hS a1 a2
 have e3:=zgY b2 b3
 subst e3
 obtain ⟨c,hcz⟩:=sortedHeap_at (vs:=acc.toList) (out:=(arrOf st').map (·.2)) hoL
 refine wpAny_pure ⟨_,rfl,.ref h'.objs.size,upd H h'.objs.size (.lst ((zaK (kvs.map (·.1))).map V.str)),I1.laid (a:=h'.objs.size) (t':=tk) (λb o e=>?_) (Nat.le_refl _) ⟨?_,((arrOf st').map (·.2)).toList,c,zie b1,by rw [Array.toArray_toList];exact hcz⟩,rfl,q _ _ (.mk' (I1.hok.fresh (Nat.le_refl _)))⟩
 ·have hb:b<h'.objs.size:=lt_size e
  rw [sortedHeap_old (ne_of_lt hb) (by rw [size_push'];exact lt_succ_of_lt hb)]
  exact get?_push_of_some _ e
 ·have:=b2.length_eq
  rw [length_map,this,length_map,sizeLine_eq]
  omega
def zoL(to:TE):TE:=λσ H Q=>to σ H λx H1=>uR x λa=>∃kvs,Rd H1 a (.dK kvs)/\∀v H2,New H1 v (.ext λh=>h.IsValuesView v a) H2->Q (.ref v) H2
theorem zow{to:TE}{σ:St}{H:Hp}{Q:VK}:zoL to σ H Q=to σ H λx H1=>uR x λa=>∃kvs,Rd H1 a (.dK kvs)/\∀v H2,New H1 v (.ext λh=>h.IsValuesView v a) H2->Q (.ref v) H2:=rfl
def zsc:List V->Hp->VK->Prop:=λxs H Q=>uR1 xs λv=>∃a kvs,H v=some (.ext λh=>h.IsValuesView v a)/\Rd H a (.dK kvs)/\∀p H2,New H p (.lst (kvs.map (·.2))) H2->Q (.ref p) H2
theorem zlX{v:Addr}{H:Hp}{Q:VK}:zsc [.ref v] H Q = ∃a kvs,H v=some (.ext λh=>h.IsValuesView v a)/\Rd H a (.dK kvs)/\∀p H2,New H p (.lst (kvs.map (·.2))) H2->Q (.ref p) H2:=zaT
end
end L2
namespace HT
open PySem PySem.Spec PyProof.Rows PySem.Calls
section
variable {prog:Program}{w:World}{A:Around}{E:Value->Shared->Prop}{s:Shared}
theorem getItem_tuple_whole{t sl:Addr}{items:Array Value}{vl vu:Value}{lo hi:Option Int}{Q:Value->Shared->Prop}(ht:IsTup s.heap t items)(hs:s.heap.IsSliceOf sl vl vu .none)(pl:IsPart vl lo)(pu:IsPart vu hi)
  (h0:sIx items.size 0 lo=0) (h1:sIx items.size items.size hi=items.size)
  (h:Q (.ref t) s):wpAny (model prog w) A (getItem (.ref t) (.ref sl)) Q E s:=by
 obtain ⟨os,hos,hcs,hds⟩:=id hs
 have hTs:s.TypeIs (.ref sl) "slice":=⟨os,hos,hcs⟩
 unfold getItem
 try with_reducible refine wpAny_holding ?_
 first|refine wpAny_bind (wpAny_pure ?_)|skip
 refine wpAny_bind (wpAny_sequenceKey ht.typeIs (by decide) ?_)
 refine wpAny_bind (wpAny_callSpecial?_slot (name:=Str.ofString "__getitem__") ht.typeIs PyProof.Rows.slot_tuple_getitem
  (wpAny_call_entry PyProof.Rows.slot_tuple_getitem ht.typeIs entry_tuple_getitem ?_ (args_tuple_getitem _ _)))
 show wpAny _ _ (Builtin.Tuple.tupleItemsOf (.ref t)>>=_) _ _ s
 refine wpAny_bind (tupleItemsOf_ ht ?_)
 refine wpAny_bind (wpAny_typeOf hTs ?_)
 rw [if_pos (by decide)]
 refine wpAny_bind (zhV hs pl pu ?_)
 have hyes:(((sIx items.size 0 lo:Nat):Int)==0&&(1:Int)==1&&(sIx items.size items.size hi-sIx items.size 0 lo)==items.size)=true:=by
  rw [h0,h1];simp
 show wpAny _ _ (if (((sIx items.size 0 lo:Nat):Int)==0&&(1:Int)==1&&(sIx items.size items.size hi-sIx items.size 0 lo)==items.size)=true then _ else _) _ _ s
 rw [if_pos hyes]
 have hex:∀{R:Bool->Shared->Prop}{A':Around}{E':Value->Shared->Prop},R true s->wpAny (model prog w) A' (Builtin.Tuple.tupleIsExact (.ref t)) R E' s:=λ{R A' E'} hr=>by
  unfold Builtin.Tuple.tupleIsExact
  first
   | exact wpAny_bind (wpAny_typeOf ht.typeIs (wpAny_pure hr))
   | exact wpAny_map (wpAny_typeOf ht.typeIs hr)
 refine wpAny_bind (hex ?_)
 first
  | exact wpAny_bind (wpAny_rule (wpAny_bind (wpAny_pure (wpAny_pure ⟨_,rfl,wpAny_pure h⟩))))
  | exact wpAny_bind (wpAny_rule (wpAny_pure ⟨_,rfl,wpAny_pure h⟩))
  | exact wpAny_bind (wpAny_rule (wpAny_bind (wpAny_pure ⟨_,rfl,wpAny_pure h⟩)))
end
end HT
namespace L2
open PySem PySem.Spec PyProof.Rows PySem.W PySem.Calls
section
variable {X:Cx}
def zcY:V->Option Int->Option Int->Hp->VK->Prop:=λx lo hi H Q=>uSl x lo hi H Q\/∃a xs,x = .ref a/\H a=some (.tup xs)/\∀p H2,zg H H2->H2 p=some (.tup (zaq xs lo hi))->Q (.ref p) H2
theorem zfQ:SlR X zcY:=by
 intro Ga s σ H x v vl vu lo hi sl Q I rx hs pl pu h
 rcases h with h|⟨a,xs,rfl,hx,q⟩
 ·exact zdO Ga s σ H x v vl vu lo hi sl Q I rx hs pl pu h
 ·by_cases hw:HT.sIx xs.length 0 lo=0/\HT.sIx xs.length xs.length hi=xs.length
  ·cases rx
   obtain ⟨its,r,ht,hz⟩:=I.tuple (SqT.of hx)
   have hlen:its.toArray.size=xs.length:=by rw [size_toArray];exact r.length.symm
   refine ⟨"tuple",_,PyProof.Rows.slot_tuple_getitem.lookup,ht.typeIs,?_⟩
   refine HT.getItem_tuple_whole ht hs pl pu (by rw [hlen];exact hw.1) (by rw [hlen];exact hw.2) ⟨.ref a,H,I,rfl,q a H (zg.refl _) ?_⟩
   rw [hx]
   unfold zaq
   rw [hw.1,hw.2]
   simp
  ·exact zrE Ga s σ H _ v vl vu lo hi sl Q I rx hs pl pu ⟨a,xs,rfl,SqT.of hx,hw,λp hp=>q p _ (New.mk' (o:=.tup (zaq xs lo hi)) hp).same zx⟩
theorem zoR{z:Str}{lo hi:Option Int}{H:Hp}{Q:VK}:zcY (.str z) lo hi H Q=(z.length<=sizeLine/\Q (.str (Txt.slice z lo hi)) H):=by simp [zcY,zhv]
theorem zrM{a:Addr}{lo hi:Option Int}{H:Hp}{Q:VK}:zcY (.ref a) lo hi H Q=((∃xs,H a=some (.lst xs)/\∀p H2,New H p (.lst (zaq xs lo hi)) H2->Q (.ref p) H2)\/∃xs,H a=some (.tup xs)/\∀p H2,zg H H2->H2 p=some (.tup (zaq xs lo hi))->Q (.ref p) H2):=by
 unfold zcY
 rw [ziD]
 apply propext;constructor
 ·rintro (h|⟨a',xs,e,h⟩)
  ·exact .inl h
  ·cases e;exact .inr ⟨xs,h⟩
 ·rintro (h|⟨xs,h⟩)
  ·exact .inl h
  ·exact .inr ⟨a,xs,rfl,h⟩
def zdw:R2:=λx y H Q=>∃a b xs ys,x = .ref a/\y = .ref b/\H a=some (.tup xs)/\H b=some (.tup ys)/\xs.length+ys.length<=sizeLine/\∀p H2,zg H H2->H2 p=some (.tup (xs++ys))->Q (.ref p) H2
theorem zoB:OpR X (binaryOp .Add) zdw:=by
 intro Ga s σ H x y v u Q I rx ry h
 obtain ⟨a,b,xs,ys,rfl,rfl,ha,hb,hz,q⟩:=h
 by_cases hx:xs=[]
 ·cases rx
  cases ry
  obtain ⟨its,r1,p1,_⟩:=I.tuple (SqT.of ha)
  obtain ⟨its2,r2,p2,_⟩:=I.tuple (SqT.of hb)
  obtain ⟨⟨cls,dd,data,sl⟩,ho,hc,n,hd⟩:=id p1
  obtain ⟨⟨cls2,dd2,data2,sl2⟩,ho2,hc2,n2,hd2⟩:=id p2
  simp only at hc hd hc2 hd2
  subst hc hd hc2 hd2
  have hi:its=[]:=r1.nil_iff.mpr hx
  exact concat_meets ⟨_,ho,rfl⟩ ⟨_,ho2,rfl⟩ noFill_tuple_add seq_tuple_add slot_tuple_add entry_tuple_add (args_tuple_add_2 _ _)
   (tuple_addW0 a b its.toArray its2.toArray n n2 dd dd2 sl sl2 (by simp [hi])) ⟨ho,ho2,⟨.ref b,H,I,rfl,q b H (zg.refl _) (by rw [hb,hx];rfl)⟩⟩
 ·exact zmc Ga s σ H _ _ v u Q I rx ry ⟨a,b,xs,ys,rfl,rfl,SqT.of ha,SqT.of hb,hx,hz,λe=>q a H (zg.refl _) (by rw [ha,e,append_nil]),λ_ p hp=>q p _ (New.mk' (o:=.tup (xs++ys)) hp).same zx⟩
def zbV:R2:=λx y H Q=>za9 x y H Q\/zdw x y H Q
theorem ze7:OpR X (binaryOp .Add) zbV:=zal.or zoB
theorem zj5{i j:Int}{H:Hp}{Q:VK}:zbV (.int i) (.int j) H Q=Q (.int (i+j)) H:=by simp [zbV,zdw,za9]
theorem zma{i j:Str}{H:Hp}{Q:VK}:zbV (.str i) (.str j) H Q=(i.length+j.length<=sizeLine/\Q (.str (i++j)) H):=by simp [zbV,zdw,za9]
theorem zp9{a b:Addr}{H:Hp}{Q:VK}:zbV (.ref a) (.ref b) H Q=((∃xs zs,H a=some (.lst xs)/\H b=some (.lst zs)/\xs.length+zs.length<=sizeLine/\∀p H2,New H p (.lst (xs++zs)) H2->Q (.ref p) H2) \/
  ∃xs ys,H a=some (.tup xs)/\H b=some (.tup ys)/\xs.length+ys.length<=sizeLine/\∀p H2,zg H H2->H2 p=some (.tup (xs++ys))->Q (.ref p) H2):=by
 unfold zbV
 rw [zhr]
 apply propext;constructor
 ·rintro (h|⟨a',b',xs,ys,e1,e2,h⟩)
  ·exact .inl h
  ·cases e1;cases e2;exact .inr ⟨xs,ys,h⟩
 ·rintro (h|⟨xs,ys,h⟩)
  ·exact .inl h
  ·exact .inr ⟨a,b,xs,ys,rfl,rfl,h⟩
def zg0:List V->Hp->VK->Prop:=λxs H Q=>∃i j,xs=[.int i,.int j]/\(0<j/\j<2 ^ 64)/\∀p H2,New H p (.tup [.int (i / j),.int (i % j)]) H2->Q (.ref p) H2
theorem zsB{i j:Int}{H:Hp}{Q:VK}:zg0 [.int i,.int j] H Q=((0<j/\j<2 ^ 64)/\∀p H2,New H p (.tup [.int (i / j),.int (i % j)]) H2->Q (.ref p) H2):=by
 apply propext;constructor
 ·rintro ⟨i',j',e,h⟩;cases e;exact h
 ·exact λh=>⟨i,j,rfl,h⟩
theorem zph:zR X (.builtin "divmod") zg0:=by
 intro Ga s σ H xs us Q I r h
 obtain ⟨i,j,rfl,⟨h1,h2⟩,q⟩:=h
 obtain ⟨u,w',rfl,⟨t,rfl⟩,⟨t',rfl⟩⟩:=ze8 r
 have hlog:j.natAbs.log2<9000:=by
  have:j.natAbs.log2<64:=(Nat.log2_lt (by omega)).mpr (by omega)
  omega
 refine divmod_int (by omega) ?_ (.inl (PyProof.noPylong_of_log2 hlog))
 rw [Int.fdiv_eq_ediv_of_nonneg i (by omega),Int.fmod_eq_emod_of_nonneg i (by omega)]
 have hn:H s.heap.objs.size=none:=I.hok.fresh (Nat.le_refl _)
 refine ⟨.ref s.heap.objs.size,_,?_,rfl,q _ _ (.mk' hn)⟩
 refine I.laid (λb o e=>get?_push_of_some _ e) (Nat.le_refl _) ⟨by simp only [length_cons,length_nil];rw [sizeLine_eq];decide,[.int (i / j) s.toks,.int (i % j) (s.toks+1)],.cons ⟨_,rfl⟩ (.cons ⟨_,rfl⟩ .nil),?_⟩
 exact ⟨_,get?_push_size s.heap rfl,rfl,0,rfl⟩
def zdN:R2:=λx y H Q=>rI0 (λi j=>.bl (decide (i<=j))) x y H Q\/∃i j,x = .str i/\y = .str j/\Q (.bl (!decide (j.cps.toList<i.cps.toList))) H
theorem zjr{i j:Int}{H:Hp}{Q:VK}:zdN (.int i) (.int j) H Q=Q (.bl (decide (i<=j))) H:=by simp [zdN,rI0]
theorem zrn{i j:Str}{H:Hp}{Q:VK}:zdN (.str i) (.str j) H Q=Q (.bl (!decide (j.cps.toList<i.cps.toList))) H:=by simp [zdN,rI0]
def zoo:TS:=λ_ _ _=>False
def zns(to te:TE):TE:=λσ H Q=>to σ H λx H1=>uR x λl=>(∃xs,H1 l=some (.lst xs))/\te σ H1 λy H2=>uR y λb=>∃xs zs,H2 l=some (.lst xs)/\H2 b=some (.lst zs)/\xs.length+zs.length<=sizeLine/\Q .non (upd H2 l (.lst (xs++zs)))
theorem zmr{to te:TE}{σ:St}{H:Hp}{Q:VK}:zns to te σ H Q=to σ H λx H1=>uR x λl=>(∃xs,H1 l=some (.lst xs))/\te σ H1 λy H2=>uR y λb=>∃xs zs,H2 l=some (.lst xs)/\H2 b=some (.lst zs)/\xs.length+zs.length<=sizeLine/\Q .non (upd H2 l (.lst (xs++zs))):=rfl
end
section
variable {K:PySem.W.Frag}{g:TG}{tb:TS}{D:zY}{σ:St}{H:Hp}{tl:TE}{R:It->Hp->Prop}{tt:TT}{te:TE}{Q:VK}{a:Addr}{o:Obj}{kvs:List (Key×V)}
theorem zpn:ziQ tl σ H R=tl σ H λx H1=>uR x λa=>∃o kvs,H1 a=some (.frz o (.dK kvs))/\R (Itd a o kvs) H1:=by
 unfold ziQ uR
 congr;funext x H1
 apply propext;constructor
 ·rintro ⟨a,o,kvs,e,h⟩;exact ⟨a,e,o,kvs,h⟩
 ·rintro ⟨a,e,o,kvs,h⟩;exact ⟨a,o,kvs,e,h⟩
theorem znJ:zed tl σ H R=tl σ H λx H1=>uR x λa=>∃o kvs,H1 a=some (.frz o (.dK kvs))/\R (Itw a o kvs) H1:=by
 unfold zed uR
 congr;funext x H1
 apply propext;constructor
 ·rintro ⟨a,o,kvs,e,h⟩;exact ⟨a,e,o,kvs,h⟩
 ·rintro ⟨a,e,o,kvs,h⟩;exact ⟨a,o,kvs,e,h⟩
theorem zoY{t:TS}:tFz t D σ H = ∃a kvs,H a=some (.dK kvs)/\∀o,t (D.thaw a kvs) σ (upd H a (.frz o (.dK kvs))):=rfl
theorem zkE{t:TE}:zf9 t σ H Q = ∃a kvs,H a=some (.dK kvs)/\∀o,t σ (upd H a (.frz o (.dK kvs))) λv H'=>zby a kvs H' (Q v):=rfl
end
end L2
namespace L2
open PySem PySem.Spec PyProof.Rows
section
variable {X:Cx}
theorem zhW{tg:Expr}{l:Expr}{tl:TE}{apos cpos:Pos}(ho:W (PE X l tl))(hbase:attributeBase l "values" X.env (eval l X.env)=eval l X.env:=by rfl)(hline:(apos.endLine==cpos.line)=true:=by rfl):W (PI X tg (.Call (.Attribute l "values" apos) [] [] cpos) (zed tl)):=⟨zpi (ho:=ho.h) (hbase:=hbase) (hline:=hline)⟩
theorem zqm{X:Cx}{e:Expr}{t:TE}(h:W (PE X e t)):W (PE X e (zf9 t)):=⟨zsI (h:=h.h)⟩
theorem zpN{o i:Expr}{td ty:TE}{tpos pos:Pos}(ho:W (PE X o td))(hi:W (PE X i ty)):W (PS X (.Delete [.Subscript o i tpos] pos) (zeR td ty)):=⟨zrg (ho:=ho.h) (hi:=hi.h)⟩
theorem zdf{o e f:Expr}{td ty tx:TE}{apos cpos:Pos}(hu:X.A.units+1<cLine)(ho:W (PE X o td))(he:W (PE X e ty))(hf:W (PE X f tx))(m:M2 X o "get" apos e f cpos:=by exact ⟨rfl,rfl,rfl,rfl⟩):W (PE X (.Call (.Attribute o "get" apos) [e,f] [] cpos) (zf3 td ty tx)):=⟨zlp (hu:=hu) (ho:=ho.h) (he:=he.h) (hf:=hf.h) (m:=m)⟩
theorem zn6{o e:Expr}{td ty:TE}{apos cpos:Pos}(ho:W (PE X o td))(he:W (PE X e ty))(m:M1 X o "pop" apos e cpos:=by exact ⟨rfl,rfl,rfl,rfl⟩):W (PE X (.Call (.Attribute o "pop" apos) [e] [] cpos) (zeH td ty)):=⟨zlb (ho:=ho.h) (he:=he.h) (m:=m)⟩
end
section
variable {α β:Type}
def look(t:List (Str×α))(n:Str):Option α:=(t.find? λp=>decide (p.1=n)).map (·.2)
def zJ(t:List (Str×α))(n:Str)(a:α):List (Str×α):=if (look t n).isSome then t.map λp=>if p.1=n then (p.1,a) else p else t++[(n,a)]
def zE(t:List (Str×α))(n:Str):List (Str×α):=t.filter λp=>!decide (p.1=n)
def names(t:List (Str×α)):List Str:=t.map (·.1)
theorem zjj{n:Str}:look ([]:List (Str×α)) n=none:=rfl
theorem zaI{p:Str×α}{t:List (Str×α)}{n:Str}:look (p::t) n=if p.1=n then some p.2 else look t n:=by
 unfold look
 by_cases h:p.1=n
 ·rw [List.find?_cons_of_pos (by simpa using h),if_pos h];rfl
 ·rw [List.find?_cons_of_neg (by simpa using h),if_neg h]
theorem zo7{t:List (Str×α)}{n:Str}{a:α}(h:look t n=some a):(n,a)∈t:=by
 induction t with
 | nil=>cases h
 | cons p t ih =>
  rw [zaI] at h
  by_cases e:p.1=n
  ·rw [if_pos e] at h
   cases h
   subst e
   exact mem_cons_self ..
  ·rw [if_neg e] at h
   exact mem_cons_of_mem _ (ih h)
theorem zaD{t:List (Str×α)}{n:Str}:look t n=none↔n∉names t:=by
 induction t with
 | nil=>simp [look,names]
 | cons p t ih =>
  rw [zaI]
  by_cases e:p.1=n
  ·rw [if_pos e];simp [names,e]
  ·rw [if_neg e,ih]
   simp [names]
   exact λ_=>λh=>e h.symm
theorem zkZ{t:List (Str×α)}(nd:(names t).Nodup){n:Str}{a:α}(h:(n,a)∈t):look t n=some a:=by
 induction t with
 | nil=>cases h
 | cons p t ih =>
  rw [zaI]
  have nd':p.1∉names t/\(names t).Nodup:=nodup_cons.mp nd
  rcases mem_cons.mp h with e|h
  ·rw [<- e,if_pos rfl]
  ·have:p.1≠n:=λe=>nd'.1 (by rw [e];exact List.mem_map_of_mem (f:=(·.1)) h)
   rw [if_neg this]
   exact ih nd'.2 h
theorem znH{t:List (Str×α)}{n:Str}{a:α}:names (zJ t n a)=if (look t n).isSome then names t else names t++[n]:=by
 unfold zJ names
 by_cases h:(look t n).isSome
 ·rw [if_pos h,if_pos h,map_map]
  refine List.map_congr_left λp _=>?_
  show (if p.1=n then (p.1,a) else p).1=p.1
  split<;>rfl
 ·rw [if_neg h,if_neg h,map_append];rfl
theorem zdz{t:List (Str×α)}{n:Str}{a:α}(nd:(names t).Nodup):(names (zJ t n a)).Nodup:=by
 rw [znH]
 by_cases h:(look t n).isSome
 ·rw [if_pos h];exact nd
 ·rw [if_neg h]
  have:look t n=none:=by simpa using h
  rw [zaD] at this
  rw [List.nodup_append]
  refine ⟨nd,by simp,λx hx y hy e=>?_⟩
  have:y=n:=by simpa using hy
  subst this
  subst e
  contradiction
theorem zi9{t:List (Str×α)}{n:Str}(nd:(names t).Nodup):(names (zE t n)).Nodup:=by
 unfold names zE
 exact nd.sublist (List.Sublist.map _ List.filter_sublist)
theorem zqy{t:List (Str×α)}{n m:Str}{a:α}:look (t.map λp=>if p.1=n then (p.1,a) else p) m=if m=n then (if (look t n).isSome then some a else none) else look t m:=by
 induction t with
 | nil=>by_cases h:m=n<;>simp [look,h]
 | cons p t ih =>
  rw [map_cons,zaI,ih,zaI,zaI]
  by_cases e:p.1=n
  ·rw [if_pos e,if_pos e]
   show (if p.1=m then some a else _)=_
   by_cases h:m=n
   ·rw [if_pos (by rw [e,h]),if_pos h];rfl
   ·rw [if_neg (λz=>h (by rw [<- z,e])),if_neg h,if_neg h,if_neg (λz=>h (by rw [<- z,e]))]
  ·rw [if_neg e,if_neg e]
   by_cases h:m=n
   ·rw [if_pos h,if_pos h,if_neg (λz=>e (by rw [z,h]))]
   ·rw [if_neg h,if_neg h]
theorem zol{t u:List (Str×α)}{m:Str}:look (t++u) m=(look t m).or (look u m):=by
 induction t with
 | nil=>simp [zjj]
 | cons p t ih =>
  rw [List.cons_append,zaI,zaI,ih]
  by_cases h:p.1=m
  ·rw [if_pos h,if_pos h];rfl
  ·rw [if_neg h,if_neg h]
theorem zaL{t:List (Str×α)}{n m:Str}{a:α}:look (zJ t n a) m=if m=n then some a else look t m:=by
 unfold zJ
 by_cases h:(look t n).isSome
 ·rw [if_pos h,zqy,if_pos h]
 ·rw [if_neg h,zol,zaI]
  have hn:look t n=none:=by simpa using h
  by_cases e:m=n
  ·rw [if_pos e,e,hn,if_pos rfl];rfl
  ·rw [if_neg e,if_neg (λz=>e z.symm),zjj,Option.or_none]
theorem zbg{t:List (Str×α)}{n m:Str}:look (zE t n) m=if m=n then none else look t m:=by
 induction t with
 | nil=>by_cases h:m=n<;>simp [look,zE,h]
 | cons p t ih =>
  by_cases e:p.1=n
  ·have:zE (p::t) n=zE t n:=by unfold zE;rw [List.filter_cons_of_neg (by simpa using e)]
   rw [this,ih,zaI]
   by_cases h:m=n
   ·rw [if_pos h,if_pos h]
   ·rw [if_neg h,if_neg h,if_neg (λz=>h (by rw [<- z,e]))]
  ·have:zE (p::t) n=p::zE t n:=by unfold zE;rw [List.filter_cons_of_pos (by simpa using e)]
   rw [this,zaI,zaI,ih]
   by_cases h:m=n
   ·rw [if_pos h,if_pos h,if_neg (λz=>e (by rw [z,h]))]
   ·rw [if_neg h,if_neg h]
def zay(t u:List (Str×α)):Prop:=∀n,look t n=look u n
theorem zay.drop{t u:List (Str×α)}(h:zay t u)(n:Str):zay (zE t n) (zE u n):=λm=>by rw [zbg,zbg,h m]
theorem zay.names{t u:List (Str×α)}(h:zay t u)(ht:(names t).Nodup)(hu:(L2.names u).Nodup):(L2.names t).Perm (L2.names u):=by
 refine (List.perm_ext_iff_of_nodup ht hu).mpr λn=>?_
 have h1:=h n
 constructor
 ·intro hn
  refine Classical.byContradiction λz=>?_
  rw [zaD.mpr z] at h1
  exact zaD.mp h1 hn
 ·intro hn
  refine Classical.byContradiction λz=>?_
  rw [zaD.mpr z] at h1
  exact zaD.mp h1.symm hn
def Dct(R:V->α->Prop):List (Str×V)->List (Str×α)->Prop:=Paired λp q=>p.1=q.1/\R p.2 q.2
theorem Dct.names{R:V->α->Prop}{kvs:List (Str×V)}{t:List (Str×α)}(h:Dct R kvs t):kvs.map (·.1)=L2.names t:=by
 induction h with
 | nil=>rfl
 | @cons p q l m r _ ih=>show p.1::l.map (·.1)=q.1::m.map (·.1);rw [r.1,ih];rfl
theorem Dct.length{R:V->α->Prop}{kvs:List (Str×V)}{t:List (Str×α)}(h:Dct R kvs t):kvs.length=t.length:=Paired.length h
theorem Dct.imp{R S:V->α->Prop}{kvs:List (Str×V)}{t:List (Str×α)}(h:Dct R kvs t)(f:∀v a,R v a->S v a):Dct S kvs t:=Paired.mapP h λp q z=>⟨z.1,f _ _ z.2⟩
theorem Dct.look{R:V->α->Prop}{kvs:List (Str×V)}{t:List (Str×α)}(h:Dct R kvs t)(n:Str):(∃v a,L2.look kvs n=some v/\L2.look t n=some a/\R v a)\/(L2.look kvs n=none/\L2.look t n=none):=by
 induction h with
 | nil=>exact .inr ⟨rfl,rfl⟩
 | cons r _ ih =>
  rw [zaI,zaI,<- r.1]
  split
  ·exact .inl ⟨_,_,rfl,rfl,r.2⟩
  ·exact ih
theorem Dct.put{R:V->α->Prop}{kvs:List (Str×V)}{t:List (Str×α)}(h:Dct R kvs t)(n:Str){v:V}{a:α}(r:R v a):Dct R (zJ kvs n v) (zJ t n a):=by
 have hs:(L2.look kvs n).isSome=(L2.look t n).isSome:=by
  rcases h.look n with ⟨v,a,e1,e2,_⟩|⟨e1,e2⟩<;>rw [e1,e2]<;>rfl
 have hm:Dct R (kvs.map λp=>if p.1=n then (p.1,v) else p) (t.map λp=>if p.1=n then (p.1,a) else p):=by
  clear hs
  induction h with
  | nil=>exact .nil
  | @cons p q _ _ r' _ ih =>
   refine .cons ?_ ih
   show (if p.1=n then (p.1,v) else p).1=(if q.1=n then (q.1,a) else q).1/\R (if p.1=n then (p.1,v) else p).2 (if q.1=n then (q.1,a) else q).2
   by_cases e:p.1=n
   ·rw [if_pos e,if_pos (by rw [<- r'.1];exact e)];exact ⟨r'.1,r⟩
   ·rw [if_neg e,if_neg (by rw [<- r'.1];exact e)];exact r'
 have ha:Dct R (kvs++[(n,v)]) (t++[(n,a)]):=by
  clear hs hm
  induction h with
  | nil=>exact .cons ⟨rfl,r⟩ .nil
  | cons r' _ ih=>exact .cons r' ih
 unfold zJ
 rw [hs]
 split
 ·exact hm
 ·exact ha
theorem Dct.drop{R:V->α->Prop}{kvs:List (Str×V)}{t:List (Str×α)}(h:Dct R kvs t)(n:Str):Dct R (zE kvs n) (zE t n):=by
 induction h with
 | nil=>exact .nil
 | @cons p q _ _ r _ ih =>
  unfold zE at ih ⊢
  by_cases e:p.1=n
  ·rw [List.filter_cons_of_neg (by simpa using e),List.filter_cons_of_neg (by rw [<- r.1];simpa using e)];exact ih
  ·rw [List.filter_cons_of_pos (by simpa using e),List.filter_cons_of_pos (by rw [<- r.1];simpa using e)];exact .cons r ih
theorem Dct.at{R:V->α->Prop}{kvs:List (Str×V)}{t:List (Str×α)}(h:Dct R kvs t):∀{i:Nat}{p:Str×V},kvs[i]?=some p->∃a,t[i]?=some (p.1,a)/\R p.2 a:=by
 induction h with
 | nil=>intro i p e;simp at e
 | @cons x y _ _ r _ ih =>
  intro i p e
  cases i with
  | zero =>
   have e':x=p:=by simpa using e
   subst e'
   exact ⟨y.2,by rw [r.1];rfl,r.2⟩
  | succ i=>exact ih (by simpa using e)
end
theorem zaP{kvs:List (Str×V)}{n:Str}:zB (sk kvs) (.inr n)=look kvs n:=by
 induction kvs with
 | nil=>rfl
 | cons p t ih =>
  rw [zaI]
  by_cases e:p.1=n
  ·rw [if_pos e]
   exact zdR (show (Sum.inr p.1:Key)=Sum.inr n by rw [e])
  ·rw [if_neg e,<- ih]
   exact zd4 (λz=>e (by injection z))
theorem zfJ{kvs:List (Str×V)}{n:Str}{v:V}:zae (sk kvs) (.inr n) v=sk (zJ kvs n v):=by
 unfold zae zJ
 have hs:((sk kvs).any λkv=>decide (kv.1 = .inr n))=(look kvs n).isSome:=by rw [zgF,zaP]
 rw [hs]
 split
 ·unfold sk
  rw [map_map,map_map]
  refine List.map_congr_left λp _=>?_
  by_cases e:p.1=n
  ·simp [e]
  ·simp [e]
 ·simp [sk]
theorem ziS{kvs:List (Str×V)}{n:Str}:zau (sk kvs) (.inr n)=sk (zE kvs n):=by
 induction kvs with
 | nil=>rfl
 | cons p t ih =>
  by_cases e:p.1=n
  ·have:zE (p::t) n=zE t n:=by unfold zE;rw [List.filter_cons_of_neg (by simpa using e)]
   rw [this,<- ih]
   exact zo4 (show (Sum.inr p.1:Key)=Sum.inr n by rw [e])
  ·have:zE (p::t) n=p::zE t n:=by unfold zE;rw [List.filter_cons_of_pos (by simpa using e)]
   rw [this]
   show zau ((Sum.inr p.1,p.2)::sk t) (Sum.inr n)=(Sum.inr p.1,p.2)::sk (zE t n)
   rw [<- ih]
   exact zpt (λz=>e (by injection z))
theorem zjX{a:Addr}{z:Str}{H:Hp}{Q:VK}:zdQ (.ref a) (.str z) H Q = ∃kvs,Rd H a (.dK kvs)/\∃v,zB kvs (.inr z)=some v/\Q v H:=by
 apply propext;constructor
 ·rintro ⟨a',k,kvs,v,e1,e2,h1,h2,q⟩
  cases e1
  cases k with
  | inl i=>cases e2
  | inr x=>cases e2;exact ⟨kvs,h1,v,h2,q⟩
 ·rintro ⟨kvs,h1,v,h2,q⟩
  exact ⟨a,.inr z,kvs,v,rfl,rfl,h1,h2,q⟩
theorem zj2{a b:Addr}{H:Hp}{Q:VK}:zdw (.ref a) (.ref b) H Q = ∃xs ys,H a=some (.tup xs)/\H b=some (.tup ys)/\xs.length+ys.length<=sizeLine/\∀p H2,zg H H2->H2 p=some (.tup (xs++ys))->Q (.ref p) H2:=by
 apply propext;constructor
 ·rintro ⟨a',b',xs,ys,e1,e2,h⟩;cases e1;cases e2;exact ⟨xs,ys,h⟩
 ·rintro ⟨xs,ys,h⟩;exact ⟨a,b,xs,ys,rfl,rfl,h⟩
def zru:List V->Hp->VK->Prop:=λxs H Q=>uR1 xs λa=>∃kvs,Rd H a (.dK kvs)/\Q (.int kvs.length) H
theorem zpK{a:Addr}{H:Hp}{Q:VK}:zru [.ref a] H Q = ∃kvs,Rd H a (.dK kvs)/\Q (.int kvs.length) H:=zaT
theorem zlg{X:Cx}{cm:Bool}{k j:Nat}{x:Str}{C:Addr}{ps:List Str}{sp:Sp}{p pos:Pos}(G:GC X.prog X.w X.K X.mg X.base cm j x C ps sp)(hr:zw cm k X.A)(hg:Gl X x)(hj:j+1<=k:=by decide)(hdb:(x==("__debug__":Str))=false:=by decide) :
  PE X (.Call (.Name x p) [] [] pos) (zgl C sp zbo):=by
 obtain ⟨f,fd,F,hm,M,hb⟩:=G.ex
 intro Ga s σ H Q I h
 exact zsX M F (hr.mono hj) hg hm hb .nil zdM hdb Ga s σ H Q I (λy dx hx hd ne=>h y dx _ (.mk' hx hd ne))
theorem zon{X:Cx}{cm:Bool}{k j:Nat}{x:Str}{C:Addr}{ps:List Str}{sp:Sp}{p pos:Pos}(G:GC X.prog X.w X.K X.mg X.base cm j x C ps sp)(hr:zw cm k X.A)(hg:Gl X x)(hj:j+1<=k:=by decide)(hdb:(x==("__debug__":Str))=false:=by decide) :
  W (PE X (.Call (.Name x p) [] [] pos) (zgl C sp zbo)):=⟨zlg G hr hg hj hdb⟩
def zeY:R2:=λx y H Q=>∃p xs,y = .ref p/\(H p=some (.lst xs)\/H p=some (.tup xs))/\zv x=true/\xs.all zv=true/\Q (.bl (!inV x xs)) H
theorem zs5{X:Cx}(hu:X.A.units<cLine):OpR X (compareOp .NotIn) zeY:=zmB.weak λx y H Q h=>by
 obtain ⟨p,xs,e,h,f1,f2,q⟩:=h
 exact ⟨p,xs,e,h.elim (λh=>.inl (SqL.of h)) (λh=>.inr (SqT.of h)),f1,f2,by simpa using q⟩
theorem znK{x:V}{p:Addr}{H:Hp}{Q:VK}:zeY x (.ref p) H Q = ∃xs,(H p=some (.lst xs)\/H p=some (.tup xs))/\zv x=true/\xs.all zv=true/\Q (.bl (!inV x xs)) H:=by simp [zeY]
theorem zfY{kvs:List (Str×V)}:(sk kvs).length=kvs.length:=by simp [sk]
section
variable {M:Model}{A:Around}{E:Value->Shared->Prop}{s:Shared}
end
def zep(pos:Pos)(qual:Str)(H:Hp)(P:Addr):Prop :=
 H P=some (.tbl #[])\/∃c' oc vs t,H P=some (.tbl #[rawInt pos.line,rawInt pos.col,.ref c'])/\H c'=some (.frz oc (.own 0))/\oc.data = .fields vs/\vs[1]?=some (.str qual t)
def zhm(H H':Hp)(P:Addr):Prop:=∀a o,a≠P->H a=some o->H' a=some o
def zhF(H:Hp)(a:Addr)(k:Int):Prop:=∃r zo y ys,H a=some (.tup (.ref r::zo))/\H r=some (.tup (y::.int k::ys))
def zfO(P:Addr)(pos:Pos)(qual:Str)(v:V)(H1:Hp)(Q:VK):Prop:=uR v λl=>∃(as:List Addr)(ks:List Int),H1 l=some (.lst (as.map V.ref))/\zep pos qual H1 P/\as.length<64/\Paired (zhF H1) as ks /\
 ∀(D:Addr)(zs:List (Int×Addr))(H2:Hp),zhm H1 H2 P->zep pos qual H2 P->H1 D=none->D≠P->D≠sysModules->H2 D=some (.lst (zs.map λz=>V.ref z.2))->zs.Perm (ks.zip as)->zs.Pairwise (λp q=>p.1<=q.1)->Q (.ref D) H2
def zj0(P:Addr)(pos:Pos)(qual:Str)(ta:TE):TE:=λσ H Q=>ta σ H λv H1=>zfO P pos qual v H1 Q
theorem zpS{P:Addr}{pos:Pos}{qual:Str}{ta:TE}{σ:St}{H:Hp}{Q:VK}:zj0 P pos qual ta σ H Q=ta σ H λv H1=>zfO P pos qual v H1 Q:=rfl
theorem zqk{P:Addr}{pos:Pos}{qual:Str}{l:Addr}{H1:Hp}{Q:VK}:zfO P pos qual (.ref l) H1 Q = ∃(as:List Addr)(ks:List Int),H1 l=some (.lst (as.map V.ref))/\zep pos qual H1 P/\as.length<64/\Paired (zhF H1) as ks /\
 ∀(D:Addr)(zs:List (Int×Addr))(H2:Hp),zhm H1 H2 P->zep pos qual H2 P->H1 D=none->D≠P->D≠sysModules->H2 D=some (.lst (zs.map λz=>V.ref z.2))->zs.Perm (ks.zip as)->zs.Pairwise (λp q=>p.1<=q.1)->Q (.ref D) H2:=zgN
theorem ziZ{α β:Type}{R:α->β->Prop}:∀{l:List α}{m:List β},Paired R l m->∀{i:Nat}{a:α}{b:β},l[i]?=some a->m[i]?=some b->R a b
 | _,_,.nil,i,a,b,h,_=>by simp at h
 | _,_,.cons r t,0,a,b,h,h'=>by
  simp at h h'
  subst h h'
  exact r
 | _,_,.cons r t,i+1,a,b,h,h'=>ziZ t (by simpa using h) (by simpa using h')
section
variable {X:Cx}
def zr0(K:PySem.W.Frag)(D:Addr)(tb:(Addr->St->Hp->Prop)->TS)(ts:TS):TS:=λZ σ H =>
 tb (λC σ' H'=>zaE K C/\PySem.W.mroIn K C (.ref D)=some true/\∀ea oe,H' ea=none->zb7 C oe->ts Z σ' (upd H' ea (.frz oe (.own 0)))) Z σ H
theorem zk5{K:PySem.W.Frag}{D:Addr}{tb:(Addr->St->Hp->Prop)->TS}{ts:TS}{Z:zY}{σ:St}{H:Hp}:zr0 K D tb ts Z σ H=tb (λC σ' H'=>zaE K C/\PySem.W.mroIn K C (.ref D)=some true/\∀ea oe,H' ea=none->zb7 C oe->ts Z σ' (upd H' ea (.frz oe (.own 0)))) Z σ H:=rfl
def zgD(neg:Bool):R2:=λx y H Q=>∃a b xs ys,x = .ref a/\y = .ref b/\H a=some (.lst xs)/\H b=some (.lst ys)/\(xs.length=0\/ys.length=0)/\Q (.bl (if neg then !decide (xs.length=ys.length) else decide (xs.length=ys.length))) H
theorem zpQ(hu:X.A.units<cLine):OpR X (compareOp .Eq) (zgD false):=by
 intro Ga s σ H x y v u Q I rx ry h
 obtain ⟨a,b,xs,ys,rfl,rfl,ha,hb,h0,q⟩:=h
 cases rx
 cases ry
 by_cases hz:xs.length=ys.length
 ·have h1:xs=[]:=length_eq_zero_iff.mp (by omega)
  have h2:ys=[]:=length_eq_zero_iff.mp (by omega)
  subst h1 h2
  exact zit hu Ga s σ H (.ref a) (.ref b) (.ref a) (.ref b) Q I rfl rfl ⟨a,b,[],[],rfl,rfl,SqL.of ha,SqL.of hb,rfl,rfl,q⟩
 ·obtain ⟨is,r1,p1,_⟩:=I.list (SqL.of (K:=X.K) ha)
  obtain ⟨js,r2,p2,_⟩:=I.list (SqL.of (K:=X.K) hb)
  have l1:=r1.length
  have l2:=r2.length
  refine SeqAt.eq_list_lengthsAt p1.isList p2.isList (by simp;omega) hu ⟨.bl false,H,I,rfl,?_⟩
  have q':Q (.bl (decide (xs.length=ys.length))) H:=q
  rw [decide_eq_false hz] at q'
  exact q'
theorem zqt(hu:X.A.units<cLine):OpR X (compareOp .NotEq) (zgD true):=by
 intro Ga s σ H x y v u Q I rx ry h
 obtain ⟨a,b,xs,ys,rfl,rfl,ha,hb,h0,q⟩:=h
 cases rx
 cases ry
 by_cases hz:xs.length=ys.length
 ·have h1:xs=[]:=length_eq_zero_iff.mp (by omega)
  have h2:ys=[]:=length_eq_zero_iff.mp (by omega)
  subst h1 h2
  exact zhG hu Ga s σ H (.ref a) (.ref b) (.ref a) (.ref b) Q I rfl rfl ⟨a,b,[],[],rfl,rfl,SqL.of ha,SqL.of hb,rfl,rfl,q⟩
 ·obtain ⟨is,r1,p1,_⟩:=I.list (SqL.of (K:=X.K) ha)
  obtain ⟨js,r2,p2,_⟩:=I.list (SqL.of (K:=X.K) hb)
  have l1:=r1.length
  have l2:=r2.length
  refine SeqAt.RcNeAt.lists_lengths p1.isList p2.isList (by simp;omega) hu _ _ _ _ ⟨.bl true,H,I,rfl,?_⟩
  have q':Q (.bl (!decide (xs.length=ys.length))) H:=q
  rw [decide_eq_false hz] at q'
  exact q'
theorem znZ{neg:Bool}{a b:Addr}{H:Hp}{Q:VK}:zgD neg (.ref a) (.ref b) H Q = ∃xs ys,H a=some (.lst xs)/\H b=some (.lst ys)/\(xs.length=0\/ys.length=0)/\Q (.bl (if neg then !decide (xs.length=ys.length) else decide (xs.length=ys.length))) H:=by
 apply propext;constructor
 ·rintro ⟨a',b',xs,ys,e1,e2,h⟩;cases e1;cases e2;exact ⟨xs,ys,h⟩
 ·rintro ⟨xs,ys,h⟩;exact ⟨a,b,xs,ys,rfl,rfl,h⟩
def zhq:List V->Hp->VK->Prop:=λxs H Q=>∃i,xs=[.int i]/\Q (.int (if i<0 then -i else i)) H
theorem zny{i:Int}{H:Hp}{Q:VK}:zhq [.int i] H Q=Q (.int (if i<0 then -i else i)) H:=by simp [zhq]
end
section
variable {K:PySem.W.Frag}{g:TG}{tt:TT}{te:TE}{H:Hp}{Q:VK}
end
theorem zsy{c:Bool}{i:Int}{p:Addr}{H:Hp}{Q:VK}:zdd c (.int i) (.ref p) H Q = ∃kvs,Rd H p (.dK kvs)/\Q (.bl (if c then !(zB kvs (.inl i)).isSome else (zB kvs (.inl i)).isSome)) H:=by
 apply propext;constructor
 ·rintro ⟨a,k,kvs,e1,e2,h,q⟩
  cases e1
  cases k with
  | inl i=>cases e2;exact ⟨kvs,h,q⟩
  | inr x=>cases e2
 ·rintro ⟨kvs,h,q⟩;exact ⟨p,.inl i,kvs,rfl,rfl,h,q⟩
def zdb(f:Nat->Int):Nat->Option Int
 | 0=>none
 | j+1=>some (match zdb f j with|none=>f j|some m=>if f j>m then f j else m)
section
variable {prog:Program}{w:World}{A:Around}{E:Value->Shared->Prop}{s:Shared}
end
section
variable {X:Cx}
def oi:Option Int->V|none=>.non|some m=>.int m
def zij:List V->Hp->VK->Prop:=λxs H Q=>zgq xs H Q\/∃(l:Addr)(ks:List Int),xs=[.ref l]/\H l=some (.lst (ks.map V.int))/\0<ks.length/\Q (oi (zdb (λi=>ks.getD i 0) ks.length)) H
def zjY(ta:TE):TE:=λσ H Q=>ta σ H λv H1=>uR v λl=>∃ks:List Int,H1 l=some (.lst (ks.map V.int))/\Q (oi (zdb (λi=>ks.getD i 0) ks.length)) H1
theorem zp6{ta:TE}{σ:St}{H:Hp}{Q:VK}:zjY ta σ H Q=ta σ H λv H1=>uR v λl=>∃ks:List Int,H1 l=some (.lst (ks.map V.int))/\Q (oi (zdb (λi=>ks.getD i 0) ks.length)) H1:=rfl
theorem zop{i j:Int}{H:Hp}{Q:VK}:zij [.int i,.int j] H Q=Q (.int (if j>i then j else i)) H:=by
 apply propext;constructor
 ·rintro (h|⟨l,ks,e,_⟩)
  ·rw [zf2] at h;exact h
  ·cases e
 ·exact λq=>.inl (by rw [zf2];exact q)
theorem zmn{l:Addr}{H:Hp}{Q:VK}:zij [.ref l] H Q = ∃ks:List Int,H l=some (.lst (ks.map V.int))/\0<ks.length/\Q (oi (zdb (λi=>ks.getD i 0) ks.length)) H:=by
 apply propext;constructor
 ·rintro (⟨i,j,e,_⟩|⟨l',ks,e,h⟩)
  ·cases e
  ·cases e;exact ⟨ks,h⟩
 ·rintro ⟨ks,h⟩;exact .inr ⟨l,ks,rfl,h⟩
def zpe(to te:TE):TE:=λσ H Q=>to σ H λx H1=>uR x λl=>(∃xs,H1 l=some (.lst xs))/\te σ H1 λy H2=>∃(xs:List V)(k:Nat)(v:V),y = .int k/\H2 l=some (.lst xs)/\xs[k]?=some v/\Q v (upd H2 l (.lst (xs.eraseIdx k)))
theorem zpC{to te:TE}{σ:St}{H:Hp}{Q:VK}:zpe to te σ H Q=to σ H λx H1=>uR x λl=>(∃xs,H1 l=some (.lst xs))/\te σ H1 λy H2=>∃(xs:List V)(k:Nat)(v:V),y = .int k/\H2 l=some (.lst xs)/\xs[k]?=some v/\Q v (upd H2 l (.lst (xs.eraseIdx k))):=rfl
end
end L2
namespace L2
open PySem PySem.Spec PyProof.Rows PySem.W
section
variable {α β:Type}{lt:Nat->Nat->Bool}{N:Nat}
structure PM(N:Nat)(p:Array Nat):Prop where
 perm:p.Perm (List.toArray (List.range N))
theorem PM.size{p:Array Nat}(h:PM N p):p.size=N:=by have:=h.perm.size_eq;simpa using this
end
end L2
namespace L2
open PySem PySem.Spec PyProof.Rows
def tDC(ix:List (Option Nat))(wi:TI)(g:TG)(tt:TT)(tk tv:TE):TE:=λσ H Q=>wi σ H λJ H1=>∃W:Nat->Nat->St->List (Key×V)->Hp->Prop,(∃m,W 0 m (zaM ix σ) [] H1)/\∀i m τ ys H2,W i m τ ys H2->ys.length<sizeLine /\
 ((J.stop i H2 ∧ ∀ D, H2 D = none → D ≠ sysModules → Q (.ref D) (upd H2 D (.dK ys))) ∨
  (J.go i H2 ∧ ∀ x H3, J.yld i H2 x H3 → g x τ H3 fun τ1 H4 => tt τ1 H4 fun ok H5 => if ok = true then tk τ1 H5 fun y H6 => tv τ1 H6 fun z H7 => uK y fun k => ∃ m', m' < m ∧ W (i + 1) m' τ1 (zae ys k z) H7 else ∃ m', m' < m ∧ W (i + 1) m' τ1 ys H5))
end L2
namespace L2
open PySem PySem.Spec PyProof.Rows PySem.W PySem.Calls
section
variable {prog:Program}{w:World}{A:Around}{E:Value->Shared->Prop}{s:Shared}
end
def ltP(p q:Int×Int):Bool:=decide (p.1<q.1)||(decide (p.1=q.1)&&decide (p.2<q.2))
def zd6(H:Hp)(a:Addr)(p:Int×Int):Prop:=H a=some (.tup [.int p.1,.int p.2])
theorem PM.mem{N:Nat}{p:Array Nat}(h:PM N p):∀i∈p.toList,i<N:=λi hi=>by
 have m:i∈List.toArray (List.range N):=h.perm.mem_iff.mp (by simpa using hi)
 simpa using m
def zjz:List V->Hp->VK->Prop:=λxs H Q=>uR1 xs λl=>∃(as:List Addr)(ps:List (Int×Int)),H l=some (.lst (as.map V.ref))/\Paired (zd6 H) as ps/\as.length<64 /\
 ∀D as' ps' H2,New H D (.lst (as'.map V.ref)) H2->D≠sysModules->Paired (zd6 H) as' ps'->ps'.Perm ps->ps'.Pairwise (λa b=>ltP b a=false)->Q (.ref D) H2
theorem zo2{l:Addr}{H:Hp}{Q:VK}:zjz [.ref l] H Q = ∃(as:List Addr)(ps:List (Int×Int)),H l=some (.lst (as.map V.ref))/\Paired (zd6 H) as ps/\as.length<64 /\
 ∀D as' ps' H2,New H D (.lst (as'.map V.ref)) H2->D≠sysModules->Paired (zd6 H) as' ps'->ps'.Perm ps->ps'.Pairwise (λa b=>ltP b a=false)->Q (.ref D) H2:=zaT
section
variable {X:Cx}
def ik(kvs:List (Int×V)):List (Key×V):=kvs.map λp=>(.inl p.1,p.2)
def zjv:List V->Hp->VK->Prop:=λxs H Q=>uR1 xs λa=>∃kvs:List (Int×V),Rd H a (.dK (ik kvs))/\kvs.length<64/\∀p (ns:List Int) H2,New H p (.lst (ns.map V.int)) H2->ns.Perm (kvs.map (·.1))->ns.Pairwise (·<=·)->Q (.ref p) H2
theorem zp8{a:Addr}{H:Hp}{Q:VK}:zjv [.ref a] H Q = ∃kvs:List (Int×V),Rd H a (.dK (ik kvs))/\kvs.length<64/\∀p (ns:List Int) H2,New H p (.lst (ns.map V.int)) H2->ns.Perm (kvs.map (·.1))->ns.Pairwise (·<=·)->Q (.ref p) H2:=zaT
end
theorem zkS{a:Addr}{i:Int}{H:Hp}{Q:VK}:zdQ (.ref a) (.int i) H Q = ∃kvs,Rd H a (.dK kvs)/\∃v,zB kvs (.inl i)=some v/\Q v H:=by
 apply propext;constructor
 ·rintro ⟨a',k,kvs,v,e1,e2,h1,h2,q⟩
  cases e1
  cases k with
  | inl j=>cases e2;exact ⟨kvs,h1,v,h2,q⟩
  | inr x=>cases e2
 ·rintro ⟨kvs,h1,v,h2,q⟩
  exact ⟨a,.inl i,kvs,v,rfl,rfl,h1,h2,q⟩
section
variable {K:PySem.W.Frag}{g:TG}{tt:TT}{te tk tv:TE}{σ:St}{H:Hp}{wi:TI}{ix:List (Option Nat)}{Q:VK}
def zdB(J:It)(g:TG)(tt:TT)(tk tv:TE)(τ:St)(H:Hp)(Q:VK):Prop:=∃W:Nat->Nat->St->List (Key×V)->Hp->Prop,(∃m,W 0 m τ [] H)/\∀i m τ ys H2,W i m τ ys H2->ys.length<sizeLine /\
 ((J.stop i H2 ∧ ∀ D, H2 D = none → D ≠ sysModules → Q (.ref D) (upd H2 D (.dK ys))) ∨
  (J.go i H2 ∧ ∀ x H3, J.yld i H2 x H3 → g x τ H3 fun τ1 H4 => tt τ1 H4 fun ok H5 => if ok = true then tk τ1 H5 fun y H6 => tv τ1 H6 fun z H7 => uK y fun k => ∃ m', m' < m ∧ W (i + 1) m' τ1 (zae ys k z) H7 else ∃ m', m' < m ∧ W (i + 1) m' τ1 ys H5))
theorem znI:tDC ix wi g tt tk tv σ H Q=wi σ H λJ H1=>zdB J g tt tk tv (zaM ix σ) H1 Q:=rfl
def zdG(N:St->List (Key×V)->Hp->Prop)(ys:List (Key×V))(τ1:St)(tk tv:TE)(ok:Bool)(H5:Hp):Prop:=if ok=true then tk τ1 H5 λy H6=>tv τ1 H6 λz H7=>uK y λk=>N τ1 (zae ys k z) H7 else N τ1 ys H5
theorem zk2{N:St->List (Key×V)->Hp->Prop}{ys:List (Key×V)}{τ:St}:zdG N ys τ tk tv true H=tk τ H λy H6=>tv τ H6 λz H7=>uK y λk=>N τ (zae ys k z) H7:=rfl
theorem zrP{N:St->List (Key×V)->Hp->Prop}{ys:List (Key×V)}{τ:St}:zdG N ys τ tk tv false H=N τ ys H:=rfl
theorem zdB.lst{a:Addr}{xs:List V}{τ:St}(Pv:Nat->St->List (Key×V)->Hp->Prop)(hz:∀i τ ys H,Pv i τ ys H->ys.length<sizeLine)(ha:∀i τ ys H,Pv i τ ys H->SqL K H a xs)(h0:Pv 0 τ [] H)
  (hs:∀(N:St->List (Key×V)->Hp->Prop) i x τ ys H,xs[i]?=some x->Pv i τ ys H->(∀τ ys H,Pv (i+1) τ ys H->N τ ys H)->g x τ H λτ1 H4=>tt τ1 H4 λok H5=>zdG N ys τ1 tk tv ok H5) (hd:∀τ ys H,Pv xs.length τ ys H->∀D H',New H D (.dK ys) H'->Q (.ref D) H'):zdB (Itl K a) g tt tk tv τ H Q:=by
 refine ⟨λi m τ ys H=>m=xs.length-i/\i<=xs.length/\Pv i τ ys H,⟨xs.length,by simp,zero_le _,h0⟩,?_⟩
 rintro i m τ ys H2 ⟨rfl,hi,p⟩
 refine ⟨hz i τ ys H2 p,?_⟩
 have q:=ha i τ ys H2 p
 by_cases hlt:i<xs.length
 ·refine .inr ⟨⟨xs,xs[i],q,by simp [hlt]⟩,λx H' y=>?_⟩
  obtain ⟨e,y⟩:=y
  subst e
  exact hs (λτ1 ys H=>∃m',m'<xs.length-i/\m'=xs.length-(i+1)/\i+1<=xs.length/\Pv (i+1) τ1 ys H) i x τ ys _ (y xs q) p λτ1 zs H q=>⟨xs.length-(i+1),by omega,rfl,hlt,q⟩
 ·have e:i=xs.length:=by omega
  subst e
  exact .inl ⟨⟨xs,q,Nat.le_refl _⟩,λD hD _=>hd τ ys H2 p D _ (.mk' hD)⟩
end
end L2
namespace L2
open PySem PySem.Spec PyProof.Rows
def Ris(xs:Array Nat):Prop:=∀i j,i<j->j<xs.size->xs.getD i 0<xs.getD j 0
theorem zmJ{xs:Array Nat}{i a b:Nat}(h:i<xs.size):xs.getD i a=xs.getD i b:=by simp [getD,h]
structure ziO(xs:Array Nat)(j b:Nat):Prop where
 le:b<=xs.size
 lo:∀i,i<b->xs.getD i 0<j
 hi:∀i,b<=i->i<xs.size->j<=xs.getD i 0
theorem zfC{xs:Array Nat}{j:Nat}(r:Ris xs):∀(f lo hi:Nat),lo<=hi->hi<=xs.size->hi<=lo+f->(∀i,i<lo->xs.getD i 0<j)->(∀i,hi<=i->i<xs.size->j<=xs.getD i 0)->ziO xs j (SetTable.below.go xs j f lo hi)
 | 0,lo,hi,h1,h2,h3,a,b=>by
  have e:lo=hi:=by omega
  subst e
  exact ⟨h2,a,b⟩
 | f+1,lo,hi,h1,h2,h3,a,b=>by
  unfold SetTable.below.go
  split
  ·rename_i h
   have hm:(lo+hi) / 2<xs.size:=by omega
   dsimp only
   rw [zmJ (a:=j) (b:=0) hm]
   by_cases c:xs.getD ((lo+hi) / 2) 0<j
   ·rw [if_pos c]
    refine zfC r f ((lo+hi) / 2+1) hi (by omega) h2 (by omega) (λi hi'=>?_) b
    by_cases e:i=(lo+hi) / 2
    ·subst e;exact c
    ·have hlt:i<(lo+hi) / 2:=by omega
     exact lt_trans (r i ((lo+hi) / 2) hlt hm) c
   ·rw [if_neg c]
    refine zfC r f lo ((lo+hi) / 2) (by omega) (by omega) (by omega) a λi hi' hs=>?_
    by_cases e:i=(lo+hi) / 2
    ·subst e;omega
    ·have hlt:(lo+hi) / 2<i:=by omega
     have:=r ((lo+hi) / 2) i hlt hs
     omega
  ·have e:lo=hi:=by omega
   subst e
   exact ⟨h2,a,b⟩
theorem zfg{xs:Array Nat}(r:Ris xs)(j:Nat):ziO xs j (SetTable.below xs j):=zfC r _ _ _ (zero_le _) (Nat.le_refl _) (by omega) (λi h=>by omega) λi h1 h2=>by omega
theorem zjf{xs:Array Nat}{p x i:Nat}(hp:p<=xs.size):(SetTable.insertAt xs p x).getD i 0=if i<p then xs.getD i 0 else if i=p then x else xs.getD (i-1) 0:=by
 have hl:(xs.toList.take p).length=p:=by rw [length_take,length_toList];omega
 rw [getD_eq_getD_getElem?,<- getElem?_toList,SetTable.toList_insertAt]
 by_cases h:i<p
 ·rw [if_pos h,List.getElem?_append_left (by omega),getElem?_take_of_lt h,getElem?_toList,getD_eq_getD_getElem?]
 ·rw [if_neg h,List.getElem?_append_right (by omega),hl]
  by_cases e:i=p
  ·rw [if_pos e,e,Nat.sub_self];rfl
  ·rw [if_neg e,show i-p=(i-1-p)+1 by omega,List.getElem?_cons_succ,getElem?_drop,getElem?_toList,getD_eq_getD_getElem?]
   congr 2;omega
theorem zkn{xs:Array Nat}{p x:Nat}:(SetTable.insertAt xs p x).size=xs.size+1:=by
 have:=(SetTable.insertAt_perm xs p x).length_eq
 simpa using this
theorem zrC{xs:Array Nat}{j:Nat}(r:Ris xs)(hn : ¬ xs[SetTable.below xs j]?=some j):Ris (SetTable.insertAt xs (SetTable.below xs j) j):=by
 have B:=zfg r j
 generalize SetTable.below xs j=p at B hn
 have hle:=B.le
 intro a b hab hb
 rw [zkn] at hb
 rw [zjf hle,zjf hle]
 have hi':∀i,p<=i->i<xs.size->j<xs.getD i 0:=λi h1 h2=>by
  have h3:=B.hi i h1 h2
  by_cases e:i=p
  ·subst e
   rcases Nat.lt_or_eq_of_le h3 with z|z
   ·exact z
   ·exact absurd (by rw [Array.getElem?_eq_getElem h2]; have : xs.getD i 0 = xs[i] := by simp [getD, h2]
                     rw [z, this]) hn
  ·have:=r p i (by omega) h2
   have:=B.hi p (Nat.le_refl _) (by omega)
   omega
 by_cases h1:b<p
 ·rw [if_pos h1,if_pos (by omega)]
  exact r a b hab (by omega)
 ·rw [if_neg h1]
  by_cases h2:b=p
  ·rw [if_pos h2,if_pos (by omega)]
   exact B.lo a (by omega)
  ·rw [if_neg h2]
   by_cases h3:a<p
   ·rw [if_pos h3]
    exact lt_trans (B.lo a h3) (hi' (b-1) (by omega) (by omega))
   ·rw [if_neg h3]
    by_cases h4:a=p
    ·rw [if_pos h4];exact hi' (b-1) (by omega) (by omega)
    ·rw [if_neg h4];exact r (a-1) (b-1) (by omega) (by omega)
structure zaO(bt:Bool)(t:SetTable):Prop where
 led:t.led = !bt
 dum:t.dummies = #[]
 ris:Ris t.place
theorem ziB{j:Nat}:SetTable.has #[] j=false:=by simp [SetTable.has]
theorem zsq(n:Nat):Ris (Array.range n):=λi j h hj=>by
 have hj':j<n:=by simpa using hj
 have hi':i<n:=by omega
 simp [getD,hi',hj',h]
theorem zej{bt:Bool}{t:SetTable}(h:zaO bt t)(n:Nat):zaO bt (t.standIn n):=⟨h.led,rfl,zsq n⟩
theorem zoy{bt:Bool}{t:SetTable}(h:zaO bt t)(n:Nat):zaO bt (t.orStandIn n):=by
 unfold SetTable.orStandIn
 split
 ·exact h
 ·exact zej h n
theorem zl9{t:SetTable}(h:t.dummies = #[])(j:Nat):(t.slot j = .empty/\¬ t.place[SetTable.below t.place j]?=some j)\/∃i,t.slot j = .live i:=by
 unfold SetTable.slot
 dsimp only
 split
 ·exact .inr ⟨_,rfl⟩
 ·rename_i hc
  rw [h,ziB]
  exact .inl ⟨rfl,by simpa using hc⟩
theorem zhp{t:SetTable}{g:Nat->Int}{h:Int}(hd:t.dummies = #[]):∀(f:Nat)(p:SetTable.Probe)(j:Nat)(d:Option Nat),p.dummy=none->SetTable.probe.go t g h f p=some (.empty j d)->d=none/\¬ t.place[SetTable.below t.place j]?=some j
 | 0,p,j,d,_,e=>by cases e
 | f+1,p,j,d,hp,e=>by
  have adv:∀q:SetTable.Probe,(t.advance q).dummy=q.dummy:=λq=>by
   unfold SetTable.advance
   split
   ·rfl
   ·rfl
  unfold SetTable.probe.go at e
  rcases zl9 hd p.j with ⟨h1,h2⟩|⟨i,h1⟩
  ·rw [h1] at e
   cases e
   exact ⟨hp,h2⟩
  ·rw [h1] at e
   dsimp only at e
   split at e
   ·cases e
   ·exact zhp hd f _ j d (by rw [adv];exact hp) e
theorem zmw{bt:Bool}{t:SetTable}(h:zaO bt t)(es:Array (Int×Value))(hh:Int)(x:Value):zaO bt (layNew t es hh x).2.1:=by
 unfold layNew
 split
 ·rename_i slot wd e
  refine zoy ?_ _
  unfold SetTable.freeSlot at e
  split at e
  ·rename_i j d e2
   obtain ⟨rfl,hn⟩:=zhp h.dum _ _ _ _ rfl e2
   cases e
   refine ⟨h.led,?_,zrC h.ris hn⟩
   show (if SetTable.has t.dummies j=true then _ else t.dummies) = #[]
   rw [h.dum,ziB]
   rfl
  ·cases e
 ·exact zej h _
theorem zrS{bt:Bool}{t:SetTable}(h:zaO bt t)(es:Array (Int×Value))(n:Nat):zaO bt (relayAll t es n).2.1:=by
 unfold relayAll
 split
 ·rename_i t' order e
  dsimp only
  split
  ·unfold SetTable.relaid SetTable.laid at e
   obtain ⟨owner,_,e⟩:=Option.bind_eq_some_iff.mp e
   cases e
   refine ⟨h.led,rfl,λi j hij hj=>?_⟩
   have pw:(((List.range (SetTable.sizeAbove n-1+1)).filterMap λj=>(owner.getD j none).map (j,·)).map (·.1)).Pairwise (· < ·):=by
    rw [List.pairwise_map]
    refine List.Pairwise.filterMap _ (λa a' haa b hb b' hb'=>?_) List.pairwise_lt_range
    obtain ⟨_,_,rfl⟩:=map_eq_some_iff.mp hb
    obtain ⟨_,_,rfl⟩:=map_eq_some_iff.mp hb'
    exact haa
   rw [size_toArray] at hj
   have:=List.pairwise_iff_getElem.mp pw i j (by omega) hj hij
   rw [getD_eq_getD_getElem?,getD_eq_getD_getElem?,List.getElem?_toArray,List.getElem?_toArray,List.getElem?_eq_getElem hj,List.getElem?_eq_getElem (lt_trans hij hj)]
   exact this
  ·exact zej h _
 ·exact zej h _
def btW(w:World):Bool:=w.params.followText "set-order"
def zbc(e:Int×Value):Int:=numOf e.2
structure zu(prog:Program)(w:World)(h:Heap)(a:Addr)(ns:List Int):Prop where
 ex:∃o es ep t,h.get? a=some o/\o.ExactSet/\o.data = .set es ep t/\ElemsOf (PySem.intKind prog w) es.toList/\t.fits es.size=true/\zaO (btW w) t/\(es.toList.map zbc).Perm ns
 few:ns.length<4000
section
variable {prog:Program}{w:World}{A:Around}{E:Value->Shared->Prop}{s:Shared}
theorem zu.size{h:Heap}{a:Addr}{ns:List Int}{es:Array (Int×Value)}(p:(es.toList.map zbc).Perm ns):es.size=ns.length:=by
 have:=p.length_eq
 rw [length_map,length_toList] at this
 exact this
theorem zu.at{h h':Heap}{a:Addr}{ns:List Int}(x:zu prog w h a ns)(k:∀o,h.get? a=some o->h'.get? a=some o):zu prog w h' a ns :=
 let ⟨o,es,ep,t,ho,r⟩:=x.ex;⟨⟨o,es,ep,t,k o ho,r⟩,x.few⟩
theorem zfT{n:Int}{v:Value}(h:(PySem.intKind prog w).is n v=true):∃t,v = .int n t:=by
 cases v with
 | int m t =>
  have e:(m==n)=true:=by simpa [PySem.intKind,Value.isInt] using h
  have e:m=n:=by simpa using e
  exact ⟨t,by rw [e]⟩
 | _=>exact absurd h (by simp [PySem.intKind,Value.isInt])
theorem zmO(n:Int)(t:Tok):(PySem.intKind prog w).is n (.int n t)=true:=by simp [PySem.intKind,Value.isInt]
theorem zqG{Q:Value->Shared->Prop}(h:∀o,zu prog w (s.heap.push o) s.heap.objs.size []->(∀v,o.data≠.cell v)->Q (.ref s.heap.objs.size) { s with heap:=s.heap.push o }) :
  wpAny (model prog w) A (newSet (.type "set")) Q E s:=by
 unfold newSet setsByText
 refine wpAny_bind (wpAny_bind (wpAny_askSetting (wpAny_pure ?_)))
 dsimp only
 simp only [newObj]
 refine wpAny_bind (wpAny_alloc (wpAny_pure (h _ ⟨⟨_,#[],0,_,get?_push_size _ rfl,⟨rfl,rfl,rfl⟩,rfl,λe he=>by simp at he,by rfl,⟨rfl,rfl,λi j _ hj=>by simp [SetTable.fresh] at hj⟩,List.Perm.refl _⟩,by decide⟩ λv z=>by cases z)))
theorem zin{h:Heap}{a:Addr}{o:Obj}{es:Array (Int×Value)}{ep:Nat}{t:SetTable}(ho:h.get? a=some o)(hd:o.data = .set es ep t)(es':Array (Int×Value))(t':SetTable) :
  (h.update a (Obj.putSet es' t')).get? a=some { o with data:=.set es' (ep+1) t' }:=by
 have:=get?_update_self (Obj.putSet es' t') ho (by rw [putSet_of es' t' hd];rfl)
 rw [putSet_of es' t' hd] at this;exact this
theorem ziT{a:Addr}{ns:List Int}{n:Int}{tk:Tok}{Q:Bool->Shared->Prop}(hS:zu prog w s.heap a ns)(hr:ns.length<3000)
  (h:∀h' b,SameBut a s.heap h'->zu prog w h' a (if n∈ns then ns else ns++[n])->Q b { s with heap:=h',toks:=s.toks+1 }) :
  wpAny (model prog w) A (setAdd a (.int n tk)) Q E s:=by
 obtain ⟨o,es,ep,t,ho,hex,hd,hel,hf,gt,pm⟩:=hS.ex
 have hsz:=zu.size (h:=s.heap) (a:=a) pm
 have hb:es.size<scanBound:=by rw [hsz];exact lt_trans hr (by decide)
 have hkey:=zmO (prog:=prog) (w:=w) n tk
 unfold setAdd
 refine wpAny_holding (wpAny_bind ((PySem.intKind prog w).pyHash hkey ?_))
 have fin:∀h',SameBut a s.heap h'->zu prog w h' a (if n∈ns then ns else ns++[n])->∀b:Bool,Q b { s with heap:=h',toks:=s.toks+1 }:=λh' sb hS' b=>h h' b sb hS'
 unfold setAddHashed setAddHashedIn
 refine wpAny_holding (wpAny_bind (wpAny_setState_of (s:={ s with toks:=s.toks+1 }) ho hd hf ?_))
 dsimp only
 rw [byScan_of (x:=.int n tk) rfl hb hel]
 simp only [↓reduceIte]
 unfold setAddByScan
 refine wpAny_bind (wpAny_bind (wpAny_rule (wpAny_bind (wpAny_setScan_of (s:={ s with toks:=s.toks+1 }) hkey ho hd hf hel ?_))))
 cases hr0:List.findIdx? (λe=>(PySem.intKind prog w).is n e.2) es.toList with
 | some j =>
  dsimp only
  obtain ⟨hj,hpj,_⟩:=List.findIdx?_eq_some_iff_getElem.mp hr0
  have hin:n∈ns:=by
   refine pm.mem_iff.mp (mem_map.mpr ⟨_,List.getElem_mem hj,?_⟩)
   obtain ⟨t',e⟩:=zfT hpj
   show numOf (es.toList[j]).2=n
   rw [e];rfl
  refine wpAny_pure (wpAny_pure ?_)
  have:=fin s.heap (SameBut.refl a s.heap) (by rw [if_pos hin];exact hS) false
  exact this
 | none =>
  dsimp only
  have hni:n∉ns:=λhin=>by
   obtain ⟨e,he,ev⟩:=mem_map.mp (pm.mem_iff.mpr hin)
   obtain ⟨⟨k,hk,_⟩,_⟩:=hel e he
   obtain ⟨t',e2⟩:=zfT hk
   have:k=n:=by rw [<- ev];show k=numOf e.2;rw [e2];rfl
   subst this
   have:=List.findIdx?_eq_none_iff.mp hr0 e he
   rw [hk] at this;cases this
  rw [if_neg hni] at fin
  have hperm:=layNew_perm t es ((PySem.intKind prog w).hash n) (.int n tk)
  have hfits:=layNew_fits t es ((PySem.intKind prog w).hash n) (.int n tk)
  have hgood:=zmw gt es ((PySem.intKind prog w).hash n) (.int n tk)
  generalize hL:layNew t es ((PySem.intKind prog w).hash n) (.int n tk)=L at hperm hfits hgood ⊢
  obtain ⟨es1,t1,wasDummy,gave⟩:=L
  dsimp only at hperm hfits hgood ⊢
  rw [toList_push] at hperm
  have hel1:ElemsOf (PySem.intKind prog w) es1.toList:=(hel.push hkey rfl).perm hperm
  have pm1:(es1.toList.map zbc).Perm (ns++[n]):=by
   have:=hperm.map zbc
   rw [map_append] at this
   exact this.trans (pm.append (List.Perm.refl _))
  have hsz1:es1.size=ns.length+1:=by have:=zu.size (h:=s.heap) (a:=a) pm1;simpa using this
  have mk:∀{h':Heap}{es2:Array (Int×Value)}{t2:SetTable}{e:Nat},h'.get? a=some { o with data:=.set es2 e t2 }->es2.toList.Perm es1.toList->t2.fits es2.size=true->zaO (btW w) t2->zu prog w h' a (ns++[n]):=λ{h' es2 t2 e} ho' p f g=>⟨⟨_,es2,e,t2,ho',hex,rfl,hel1.perm p,f,g,(p.map zbc).trans pm1⟩,by rw [length_append,List.length_singleton];omega⟩
  have big:es1.size<=sizeLine:=fits_of_scanBound (by rw [hsz1];exact Nat.lt_of_le_of_lt (Nat.succ_le_of_lt hr) (by decide))
  have hgw:∀(b:Bool){s₁:Shared}{Q':Unit->Shared->Prop},Q' () s₁->wpAny (model prog w) A (match b with|true=>rule "set.scan.the-table-gave-way" | false=>pure ()) Q' E s₁:=λb s₁ Q' hq=>by cases b<;>first|exact wpAny_pure hq|exact wpAny_rule hq
  refine wpAny_bind (hgw _ ?_)
  have tail:∀(t2:SetTable),t2.fits es1.size=true->zaO (btW w) t2->wpAny (model prog w) A (do
    storeSet a es1 t2
    if (!wasDummy&&t2.tooFull)=true then do
      (match (relayAll t2 es1 (SetTable.grown es1.size)).2.2 with|true=>rule "set.scan.the-table-gave-way" | false=>pure ())
      storeSet a (relayAll t2 es1 (SetTable.grown es1.size)).1 (relayAll t2 es1 (SetTable.grown es1.size)).2.1
      pure (some true)
     else pure (some true)) (λr s'=>r=some true/\∃h',SameBut a s.heap h'/\zu prog w h' a (ns++[n])/\s'={ s with heap:=h',toks:=s.toks+1 }) E { s with toks:=s.toks+1 }:=λt2 f2 g2=>by
   refine wpAny_bind (wpAny_storeSet_of (s:={ s with toks:=s.toks+1 }) ho hd ?_ big)
   have ho1:=zin ho hd es1 t2
   have hsb1:=SameBut.update s.heap a (Obj.putSet es1 t2)
   split
   ·have hp:=relayAll_perm t2 es1 (SetTable.grown es1.size)
    have hfr:=relayAll_fits t2 es1 (SetTable.grown es1.size)
    have hgr:=zrS g2 es1 (SetTable.grown es1.size)
    generalize hRl:relayAll t2 es1 (SetTable.grown es1.size)=Rl at hp hfr hgr ⊢
    obtain ⟨es2,t3,gave2⟩:=Rl
    dsimp only at hp hfr hgr ⊢
    have hsz:es2.size=es1.size:=by rw [<- length_toList,hp.length_eq,length_toList]
    refine wpAny_bind (hgw _ ?_)
    refine wpAny_bind (wpAny_storeSet_of ho1 rfl ?_ (by rw [hsz];exact big))
    exact wpAny_pure ⟨rfl,_,hsb1.trans (SameBut.update _ a _),mk (zin ho1 rfl es2 t3) hp hfr hgr,rfl⟩
   ·exact wpAny_pure ⟨rfl,_,hsb1,mk ho1 (List.Perm.refl _) f2 g2,rfl⟩
  split
  ·refine wpAny_bind ?_
   rw [hashByValue_scannable 8 rfl]
   refine wpAny_pure ?_
   try simp only [↓reduceIte]
   refine wpAny_mono (tail t1 hfits hgood) ?_ (λ_ _ q=>q)
   rintro r s' ⟨rfl,h',sb,hS',rfl⟩
   dsimp only
   exact wpAny_pure (fin h' sb hS' true)
  ·refine wpAny_bind (wpAny_pure ?_)
   try simp only [↓reduceIte]
   refine wpAny_mono (tail t1 hfits hgood) ?_ (λ_ _ q=>q)
   rintro r s' ⟨rfl,h',sb,hS',rfl⟩
   dsimp only
   exact wpAny_pure (fin h' sb hS' true)
theorem add_int{a:Addr}{ns:List Int}{n:Int}{tk:Tok}{Q:Value->Shared->Prop}(hS:zu prog w s.heap a ns)(hr:ns.length<3000)
  (h:∀h',SameBut a s.heap h'->zu prog w h' a (if n∈ns then ns else ns++[n])->Q .none { s with heap:=h',toks:=s.toks+1 }) :
  wpAny (model prog w) A (call (.builtin "set.add") [.ref a,.int n tk]) Q E s:=by
 obtain ⟨o,es,ep,t,ho,hex,hd,_⟩:=hS.ex
 have typ:s.TypeIs (.ref a) "set":=⟨o,ho,hex.1⟩
 refine wpAny_call_entry F.slot_set_add typ F.entry_set_add ?_ (F.args_set_add_2 _ _)
 unfold Builtin.«set.add» Builtin.Frozenset.oneOther
 simp only [List.isEmpty_nil,bind_assoc]
 unfold Builtin.Frozenset.addrOf
 refine wpAny_bind (wpAny_pure (wpAny_bind (wpAny_pure (wpAny_bind (ziT hS hr λh' b sb hS'=>wpAny_pure ⟨_,rfl,h h' sb hS'⟩)))))
end
def inB(e:Expr)(d:Nat)(iter:Expr)(acc:Value)(env:Env):Sem Unit:=do
 let x<-eval iter env
 standAt iter.pos
 let x<-foldedSetIterable iter env x
 let _<-runOwn (.compStart e d (<- holding [x] (pyIter x)) acc env) env
def emB(elt:Expr)(acc:Value)(env:Env):Sem Unit:=do
 let v<-eval elt env
 standAt elt.pos
 let _<-call (.builtin "set.add") [acc,v]
def za8(e:Expr)(d:Nat)(tg iter:Expr)(body:Sem Unit)(it acc:Value)(env:Env):Sem Fin:=do
 standAt iter.pos
 match<-pyNext it with
 | none=>pure (.done .next)
 | some v =>
  letOwnedTupleGo tg it v
  assign tg env v
  body
  again (.compLoop e d it acc env)
section
variable {elt t0 i0 t1 i1 t2 i2:Expr}{sc:Scope}{pos:Pos}{it acc:Value}{env:Env}
theorem zpk{e:Expr}(he:e = .SetComp elt [⟨t0,i0,[],0⟩,⟨t1,i1,[],0⟩,⟨t2,i2,[],0⟩] sc pos):compTurn e 0 it acc env=za8 e 0 t0 i0 (inB e 1 i1 acc env) it acc env:=by
 subst he
 unfold za8 inB
 simp only [bind_assoc]
 rfl
theorem zkU{e:Expr}(he:e = .SetComp elt [⟨t0,i0,[],0⟩,⟨t1,i1,[],0⟩,⟨t2,i2,[],0⟩] sc pos):compTurn e 1 it acc env=za8 e 1 t1 i1 (inB e 2 i2 acc env) it acc env:=by
 subst he
 unfold za8 inB
 simp only [bind_assoc]
 rfl
theorem znz{e:Expr}(he:e = .SetComp elt [⟨t0,i0,[],0⟩,⟨t1,i1,[],0⟩,⟨t2,i2,[],0⟩] sc pos):compTurn e 2 it acc env=za8 e 2 t2 i2 (emB elt acc env) it acc env:=by
 subst he
 unfold za8 emB
 rfl
theorem ziu{prog:Program}{w:World}{A:Around}{R:Result->Shared->Prop}{s:Shared}{e:Expr}{gs:List Comprehension}(he:e = .SetComp elt gs sc pos){d:Nat}{tg iter:Expr}(hd:(clausesOf e)[d]?=some ⟨tg,iter,[],0⟩)
  (h0:codeAny (model prog w) A (.compLoop e d it acc env) R s)
  (h:wpAny (model prog w) A (pyIter it) (λit' s'=>codeAny (model prog w) A (.compLoop e d it' acc env) R s') (notedBy (model prog w) A env λx s'=>R (.error x) s') s) :
  codeAny (model prog w) A (.compStart e d it acc env) R s:=by
 subst he
 refine codeAny_of_tree ?_
 show wpAny _ A ((compStart _ d it acc env).onRaise (λx=>do noteFrame x env;standAt theWindowsPlace)) _ _ s
 refine wpAny_notedAt ?_
 unfold compStart
 rw [hd]
 show wpAny _ A (ask>>=_) _ _ s
 refine wpAny_bind (wpAny_askSetting (wpAny_ite ?_))
 split
 ·first
   | exact wpAny_bind (wpAny_pure (wpAny_pure (And.intro rfl h0)))
   | exact wpAny_pure (And.intro rfl h0)
 ·first
   | exact wpAny_bind (wpAny_rule (wpAny_bind (wpAny_standAt (wpAny_bind (wpAny_mono h (λit' s' h'=>wpAny_pure (And.intro rfl h')) λ_ _ x=>x)))))
   | (refine wpAny_bind (wpAny_rule ?_);show wpAny _ _ (standAt iter.pos>>=_) _ _ s;exact wpAny_bind (wpAny_standAt (wpAny_bind (wpAny_mono h (λit' s' h'=>wpAny_pure (And.intro rfl h')) λ_ _ x=>x))))
theorem zka{prog:Program}{w:World}{A:Around}{R:Result->Shared->Prop}{s:Shared}{e:Expr}{gs:List Comprehension}(he:e = .SetComp elt gs sc pos){d:Nat}{tg iter:Expr}{body:Sem Unit}(ht:compTurn e d it acc env=za8 e d tg iter body it acc env)(I:Nat->Shared->Prop)
  (turn:∀n s,I n s->wpAny (model prog w) A (pyNext it) (λr s₁=>match r with
   | none=>R (.ok .next) s₁
   | some v=>wpAny (model prog w) A (letOwnedTupleGo tg it v) (λ_ s₁'=>wpAny (model prog w) A (assign tg env v) (λ_ s₂ =>
     wpAny (model prog w) A body (λ_ s₃=>∃m,m<n/\I m s₃) (λ_ _=>False) s₂) (λ_ _=>False) s₁') (λ_ _=>False) s₁) (λ_ _=>False) s)
  (n:Nat) (h:I n s):codeAny (model prog w) A (.compLoop e d it acc env) R s:=by
 subst he
 refine codeAny_loop rfl I (λn s hI=>?_) n h
 show wpAny _ A ((compTurn _ d it acc env).onRaise (λx=>do noteFrame x env;theTreesLotGoes x)) _ _ s
 refine wpAny_noted (wpAny_mono (E:=λ_ _=>False) ?_ (λ_ _ q=>q) λ_ _ z=>z.elim)
 rw [ht]
 unfold za8
 refine wpAny_bind (wpAny_standAt (wpAny_bind (wpAny_mono (turn n s hI) (λr s₁ h₁=>?_) λ_ _ h'=>h')))
 cases r with
 | none=>exact wpAny_pure h₁
 | some v =>
  refine wpAny_bind (wpAny_mono h₁ (λ_ s₁' h₁'=>?_) λ_ _ h'=>h')
  exact wpAny_bind (wpAny_mono h₁' (λ_ s₂ h₂=>wpAny_bind (wpAny_mono h₂ (λok s₃ h₃=>wpAny_pure ⟨rfl,h₃⟩) λ_ _ h'=>h')) λ_ _ h'=>h')
end
abbrev TB:=St->List Int->Hp->(St->List Int->Hp->Prop)->Prop
def zt(ns:List Int)(n:Int):List Int:=if n∈ns then ns else ns++[n]
def BP(X:Cx)(D:Addr)(Ga:List (Addr×Obj))(Q:St->List Int->Hp->Prop)(s':Shared):Prop :=
 ∃σ ns H,Inv X Ga σ H s'/\H D=none/\zu X.prog X.w s'.heap D ns/\Q σ ns H
def PB(X:Cx)(D:Addr)(m:Sem Unit)(tb:TB):Prop :=
 ∀(Ga:List (Addr×Obj))(s:Shared)(σ:St)(H:Hp)(ns:List Int)(Q:St->List Int->Hp->Prop),Inv X Ga σ H s->zV X Ga H D->zu X.prog X.w s.heap D ns->tb σ ns H Q ->
  wpAny (model X.prog X.w) X.A m (λ_ s'=>BP X D Ga Q s') (λ_ _=>False) s
theorem zV.to{X:Cx}{Ga:List (Addr×Obj)}{H H':Hp}{b:Addr}(f:zV X Ga H b)(h:H' b=none):zV X Ga H' b:=⟨h,f.2⟩
theorem zV.more{X:Cx}{Ga pl:List (Addr×Obj)}{H:Hp}{b:Addr}(f:zV X Ga H b)(h:∀p∈pl,p.1≠b):zV X (Ga++pl) H b :=
 ⟨f.1,f.2.1,f.2.2.1,f.2.2.2.1,f.2.2.2.2.1,λp hp=>by
  rcases mem_append.mp hp with z|z
  ·exact f.2.2.2.2.2 p (mem_append_left _ z)
  ·rcases mem_append.mp z with z|z
   ·exact f.2.2.2.2.2 p (mem_append_right _ z)
   ·exact h p z⟩
theorem zu.obj{P:Program}{w:World}{h:Heap}{D:Addr}{ns:List Int}(x:zu P w h D ns):∃o,h.get? D=some o/\∀v,o.data≠.cell v:=by
 obtain ⟨o,es,ep,t,ho,_,hd,_⟩:=x.ex
 exact ⟨o,ho,λv z=>by rw [hd] at z;cases z⟩
section
variable {X:Cx}{D:Addr}
theorem Inv.holds{Ga:List (Addr×Obj)}{σ:St}{H:Hp}{s:Shared}{o:Obj}(I:Inv X Ga σ H s)(f:zV X Ga H D)(ho:s.heap.get? D=some o)(hn:∀v,o.data≠.cell v):Inv X (Ga++[(D,o)]) σ H s :=
 I.pins_of λp hp=>(mem_append.mp hp).elim (λz=>I.pin p (mem_append_right _ z)) λz=>by
  have e:p=(D,o):=by simpa using z
  subst e
  exact ⟨ho,f.1,f.2.1,f.2.2.1,hn⟩
theorem Inv.held{Ga:List (Addr×Obj)}{σ:St}{H:Hp}{s:Shared}{o:Obj}(I:Inv X (Ga++[(D,o)]) σ H s):s.heap.get? D=some o/\H D=none :=
 let q:=I.pin (D,o) (mem_append_right _ (mem_append_right _ (mem_singleton.mpr rfl)));⟨q.1,q.2.1⟩
def zcj(te:TE):TB:=λσ ns H Q=>te σ H λv H1=>∃n,v = .int n/\ns.length<3000/\Q σ (zt ns n) H1
theorem zoT{elt:Expr}{te:TE}(hx:X.xe=λ_ _=>False)(he:PE X elt te):PB X D (emB elt (.ref D) X.env) (zcj te):=by
 intro Ga s σ H ns Q I f hS h
 obtain ⟨o,ho,hn⟩:=hS.obj
 unfold emB
 have:=he (Ga++[(D,o)]) s σ H _ (I.holds f ho hn) h
 rw [hx] at this
 refine wpAny_bind (thn this λv s1 ⟨x,H1,I1,r1,n,e,hl,q⟩=>?_)
 subst e
 obtain ⟨tk,rfl⟩:=r1
 obtain ⟨ho1,hn1⟩:=I1.held
 have hS1:zu X.prog X.w s1.heap D ns:=hS.at λo' e=>by rw [ho] at e;cases e;exact ho1
 refine wpAny_bind (wpAny_standAt (wpAny_bind (add_int hS1 hl λh' sb hS'=>wpAny_pure ?_)))
 obtain ⟨_,g1,_,g3,g4,g5⟩:=f.to hn1
 exact ⟨σ,_,H1,(I1.unpinned (Ga:=Ga)).turned (t':=s1.toks+1) (λb o hb e=>(sb.2 b hb).trans e) hn1 g1 g3 g4 g5,hn1,hS',q⟩
def zez(W:Nat->Nat->St->List Int->Hp->Prop)(J:It)(g:TG)(tb:TB)(Fin:St->List Int->Hp->Prop):Prop :=
 ∀i m τ ns H2,W i m τ ns H2->(J.stop i H2/\Fin τ ns H2)\/(J.go i H2/\∀x H3,J.yld i H2 x H3->g x τ H3 λτ1 H4=>tb τ1 ns H4 λτ2 ns2 H5=>∃m',m'<m/\W (i+1) m' τ2 ns2 H5)
def zbX(wi:TI)(g:TG)(tb:TB):TB:=λσ ns H Q=>wi σ H λJ H1=>∃W:Nat->Nat->St->List Int->Hp->Prop,(∃m,W 0 m σ ns H1)/\zez W J g tb Q
theorem zih{c:Bool}{elt e tg iter:Expr}{gs:List Comprehension}{sc:Scope}{pos:Pos}{d:Nat}{body:Sem Unit}{g:TG}{tb:TB}{J:It}{fp:List Addr}{it:Addr}{tn:Nat->Heap->Prop}{W:Nat->Nat->St->List Int->Hp->Prop}{Fin:St->List Int->Hp->Prop}
  (he:e = .SetComp elt gs sc pos) (ht:compTurn e d (.ref it) (.ref D) X.env=za8 e d tg iter body (.ref it) (.ref D) X.env) (hx:X.xe=λ_ _=>False) (hc:c=true->X.calm=true) (hg:PG X tg g) (hb:PB X D body tb)
  (T:zbH c X.prog X.w X.K tg J fp it tn) (hDfp:D∉fp) (step:zez W J g tb Fin) {Ga:List (Addr×Obj)}{s:Shared}{σ:St}{H:Hp}{ns:List Int}{m:Nat} (I:Inv X Ga σ H s) (st:tn 0 s.heap) (ff:∀b∈fp,zV X Ga H b) (fD:zV X Ga H D)
  (hS:zu X.prog X.w s.heap D ns) (w0:W 0 m σ ns H) :
  codeAny (model X.prog X.w) X.A (.compLoop e d (.ref it) (.ref D) X.env) (λr s'=>r = .ok .next/\∃σ' ns' H',Inv X Ga σ' H' s'/\(∀b∈fp,H' b=none)/\H' D=none/\zu X.prog X.w s'.heap D ns'/\Fin σ' ns' H') s:=by
 refine zka he ht (λn s'=>∃i τ ys H',Inv X Ga τ H' s'/\tn i s'.heap/\(∀b∈fp,H' b=none)/\H' D=none/\zu X.prog X.w s'.heap D ys/\W i n τ ys H') ?_ m ⟨0,σ,ns,H,I,st,λb hb=>(ff b hb).1,fD.1,hS,w0⟩
 rintro n s4 ⟨i,τ,ys,H4,I4,st4,fr4,dn4,hS4,w4⟩
 obtain ⟨ob,dg,noc⟩:=hS4.obj
 have I4':=I4.holds (fD.to dn4) dg noc
 have ff4:∀b∈fp,zV X (Ga++[(D,ob)]) H4 b:=λb hb=>((ff b hb).to (fr4 b hb)).more λp hp=>by
  have e:p=(D,ob):=by simpa using hp
  subst e
  exact λq=>hDfp (by have q':D=b:=q;rw [q'];exact hb)
 rcases step i n τ ys H4 w4 with ⟨stop,fin⟩|⟨go,step⟩
 ·refine thn (T.done X rfl rfl rfl hc i (Ga++[(D,ob)]) s4 τ H4 (λ_ _=>False) I4' ff4 st4 stop) λr s5 ⟨hr,I5⟩=>?_
  subst hr
  exact ⟨rfl,τ,ys,H4,I5.unpinned,fr4,dn4,hS4.at λo' e=>by rw [dg] at e;cases e;exact I5.held.1,fin⟩
 ·refine thn (T.item X rfl rfl rfl hc i (Ga++[(D,ob)]) s4 τ H4 (λ_ _=>False) I4' ff4 st4 go) λr s5 ⟨u,hr,h5⟩=>?_
  subst hr
  refine thn h5 λ_ s6 ⟨x,H6,I6,r6,y6,st6,fr6⟩=>?_
  obtain ⟨dg6,dn6⟩:=I6.held
  have all6:∀b∈D::fp,zV X Ga H6 b:=λb hb=>by
   rcases mem_cons.mp hb with z|z
   ·subst z;exact fD.to dn6
   ·exact (ff b z).to (fr6 b z)
  have obj6:∀b∈D::fp,∃o,s6.heap.get? b=some o/\∀v,o.data≠.cell v:=λb hb=>by
   rcases mem_cons.mp hb with z|z
   ·subst z;exact ⟨_,dg6,noc⟩
   ·exact T.obj _ _ st6 b z
  have I6':=(I6.unpinned (Ga:=Ga)).pinned all6 obj6
  have hg':=hg _ s6 τ H6 x u _ I6' r6 (step x H6 y6)
  rw [hx] at hg'
  refine thn hg' λ_ s7 ⟨τ7,H7,I7,q7⟩=>?_
  have pin7:∀b o,b∈D::fp->s6.heap.get? b=some o->s7.heap.get? b=some o/\H7 b=none:=λb o hb e=>by
   have q:=I7.pin (b,o) (mem_append_right _ (mem_append_right _ (zcu hb e)))
   exact ⟨q.1,q.2.1⟩
  have I7':Inv X (Ga++zcc fp s6.heap) τ7 H7 s7:=I7.pins_of λp hp=>I7.pin p (mem_append_right _ ((mem_append.mp hp).elim (λz=>mem_append_left _ z) λz=>mem_append_right _ (by
   obtain ⟨z1,z2⟩:=zfi z
   exact zcu (mem_cons_of_mem _ z1) z2)))
  have fD7:zV X (Ga++zcc fp s6.heap) H7 D:=(fD.to (pin7 D _ mem_cons_self dg6).2).more λp hp z=>hDfp (by rw [<- z];exact (zfi hp).1)
  have hS7:zu X.prog X.w s7.heap D ys:=hS4.at λo' e=>by rw [dg] at e;cases e;exact (pin7 D _ mem_cons_self dg6).1
  refine thn (hb _ s7 τ7 H7 ys _ I7' fD7 hS7 q7) λ_ s8 ⟨τ8,ns8,H8,I8,dn8,hS8,m',hm,w'⟩=>?_
  have pin8:∀b o,b∈fp->s6.heap.get? b=some o->s8.heap.get? b=some o/\H8 b=none:=λb o hb e=>by
   have q:=I8.pin (b,o) (mem_append_right _ (mem_append_right _ (zcu hb e)))
   exact ⟨q.1,q.2.1⟩
  refine ⟨m',hm,i+1,τ8,ns8,H8,I8.unpinned,T.keep _ _ _ st6 λb hb o e=>(pin8 b o hb e).1,λb hb=>?_,dn8,hS8,w'⟩
  obtain ⟨o,e,_⟩:=T.obj _ _ st6 b hb
  exact (pin8 b o hb e).2
theorem pb_loop{c:Bool}{elt e tg iter:Expr}{gs:List Comprehension}{sc:Scope}{pos:Pos}{d:Nat}{body:Sem Unit}{wi:TI}{g:TG}{tb:TB}
  (he:e = .SetComp elt gs sc pos) (hd:(clausesOf e)[d]?=some ⟨tg,iter,[],0⟩) (ht:∀it,compTurn e d (.ref it) (.ref D) X.env=za8 e d tg iter body (.ref it) (.ref D) X.env) (hx:X.xe=λ_ _=>False) (hm:X.A.mark none=X.A) (hc:c=true->X.calm=true) (hi:PIc c X tg iter wi) (hg:PG X tg g) (hb:PB X D body tb)
  (hs:∀x,foldedSetIterable iter X.env x=pure x):PB X D (inB e d iter (.ref D) X.env) (zbX wi g tb):=by
 intro Ga s σ H ns Q I f hS h
 obtain ⟨o,ho,hn⟩:=hS.obj
 unfold inB
 have hi':=hi (Ga++[(D,o)]) s σ H _ (I.holds f ho hn) h
 rw [hx] at hi'
 refine wpAny_bind (thn hi' λv s1 h1=>wpAny_bind (wpAny_standAt ?_))
 rw [hs]
 refine wpAny_bind (wpAny_pure (wpAny_bind (wpAny_holding (thn h1 λitv s2 h2=>?_))))
 obtain ⟨it,fp,tn,J,H2,e',I2,T,st2,f2,W,⟨m0,w0⟩,step⟩:=h2
 subst e'
 obtain ⟨ho2,hn2⟩:=I2.held
 have hDfp:D∉fp:=λz=>(f2 D z).2.2.2.2.2 (D,o) (mem_append_right _ (mem_append_right _ (mem_singleton.mpr rfl))) rfl
 have hS2:zu X.prog X.w s2.heap D ns:=hS.at λo' e=>by rw [ho] at e;cases e;exact ho2
 have ff:∀b∈fp,zV X Ga H2 b:=λb hb=>by
  obtain ⟨g0,g1,g2,g3,g4,g5⟩:=f2 b hb
  exact ⟨g0,g1,g2,g3,g4,λp hp=>g5 p ((mem_append.mp hp).elim (mem_append_left _) λz=>mem_append_right _ (mem_append_left _ z))⟩
 have L:=zih he (ht it) hx hc hg hb T hDfp step (I2.unpinned (Ga:=Ga)) st2 ff (f.to hn2) hS2 w0
 refine wpAny_bind (wpAny_runOwn ?_)
 rw [hm]
 have L':=codeAny_mono L (R':=λr s'=>match r with | .ok f=>wpAny (model X.prog X.w) X.A (pure ()) (λ_ s'=>BP X D Ga Q s') (λ_ _=>False) s' | .error e=>cameBackBy (model X.prog X.w) X.A X.env (λ_ _=>False) e s') λr s' ⟨hr,σ',ns',H',a,b,c,d,q⟩=>by
  subst hr
  exact wpAny_pure ⟨σ',ns',H',a,c,d,q⟩
 exact ziu he hd L' (T.self _ 0 _ _ _ st2 L')
def zee(tb:TB):TB:=λσ ns H Q=>tb σ ns H Q\/∃a kvs,H a=some (.dK kvs)/\∀o,tb σ ns (upd H a (.frz o (.dK kvs))) λσ' ns' H'=>zby a kvs H' (Q σ' ns')
theorem zqn{m:Sem Unit}{tb:TB}(h:PB X D m tb):PB X D m (zee tb):=by
 intro Ga s σ H ns Q I f hS hq
 rcases hq with hq|⟨a,kvs,e,q⟩
 ·exact h Ga s σ H ns Q I f hS hq
 obtain ⟨h5,o,I'⟩:=I.freeze e
 have Da:D≠a:=λz=>by have:=f.1;rw [z,e] at this;cases this
 refine thn (h Ga s σ _ ns _ I' (f.to (by rw [zh Da];exact f.1)) hS (q o)) λ_ s1 ⟨σ1,ns1,H1,I1,d1,S1,o1,e1,q1⟩=>?_
 exact ⟨σ1,ns1,_,I1.thaw e1 h5,by rw [zh Da];exact d1,S1,q1⟩
end
def zaX(P:Program)(w:World)(D:Addr)(ns:List Int):HO:=.ext λh=>zu P w h D ns
theorem zi2{P:Program}{w:World}{H:Hp}{h:Heap}{D:Addr}{ns:List Int}(x:zu P w h D ns):zQ P w H h D (zaX P w D ns) :=
 ⟨x,let ⟨o,e,_⟩:=x.obj;⟨o,e⟩,λh1 h2 x1 k=>x1.at k⟩
theorem zk0{P:Program}{w:World}{H:Hp}{h:Heap}{D:Addr}{ns:List Int}(x:HOk P w H h)(e:H D=some (zaX P w D ns)):zu P w h D ns:=(x D _ e).1
def tSC(P:Program)(w:World)(ix:List (Option Nat))(wi:TI)(g:TG)(tb:TB):TE:=λσ H Q=>wi σ H λJ H1=>∃W:Nat->Nat->St->List Int->Hp->Prop,(∃m,W 0 m (zaM ix σ) [] H1) /\
 zez W J g tb λ_ ns H2=>∀D,H2 D=none->D≠sysModules->Q (.ref D) (upd H2 D (zaX P w D ns))
theorem zko{c c1 c2:Bool}{X:Cx}{elt t0 i0 t1 i1 t2 i2:Expr}{sc:Scope}{pos:Pos}{N':List Str}{ix:List (Option Nat)}{wi w1 w2:TI}{g g1 g2:TG}{te:TE}(hc:c=true->X.calm=true)(hc1:c1=true->X.calm=true)(hc2:c2=true->X.calm=true)(L:za1 X sc N' ix)(hi:PIc c X t0 i0 wi)
  (hg:∀Ga C fp s H,PG (zI X sc N' Ga C fp s H) t0 g) (hi1:∀Ga C fp s H,PIc c1 (zI X sc N' Ga C fp s H) t1 i1 w1) (hg1:∀Ga C fp s H,PG (zI X sc N' Ga C fp s H) t1 g1)
  (hi2:∀Ga C fp s H,PIc c2 (zI X sc N' Ga C fp s H) t2 i2 w2) (hg2:∀Ga C fp s H,PG (zI X sc N' Ga C fp s H) t2 g2) (he:∀Ga C fp s H,PE (zI X sc N' Ga C fp s H) elt te)
  (hs:∀x,foldedSetIterable i0 X.env x=pure x:=by intro _;rfl) (hs1:∀env x,foldedSetIterable i1 env x=pure x:=by intro _ _;rfl) (hs2:∀env x,foldedSetIterable i2 env x=pure x:=by intro _ _;rfl) :
  PE X (.SetComp elt [⟨t0,i0,[],0⟩,⟨t1,i1,[],0⟩,⟨t2,i2,[],0⟩] sc pos) (tSC X.prog X.w ix wi g (zee (zbX w1 g1 (zbX w2 g2 (zcj te))))):=by
 intro Ga s σ H Q I h
 rw [arm_eval_SetComp]
 have hclos:closureFor sc X.env=pure (zat X.env.cells sc.names []):=zgQ λy hy hk=>I.ok.has y.1 (.inl (L.free y hy hk).1)
 refine wpAny_comprehension_free (use:=none) rfl hs hclos L.kind L.names (thn (hi Ga s σ H _ I h) λv s1 h1=>thn h1 λitv s2 h2=>?_)
 obtain ⟨it,fp,tn,J,H2,e,I2,T,st2,f2,W,⟨m0,w0⟩,turn⟩:=h2
 subst e
 refine zqG λon hnew nocn=>wpAny_newFunctionEnv L.cell (by intro y hy;simp at hy) (λh₁ hns₁ hsb₁=>?_) L.kind
 dsimp only at hns₁ hsb₁ ⊢
 generalize hH2:s2.heap.push on=G2 at hns₁ hsb₁ hnew ⊢
 have hC:G2.objs.size=s2.heap.objs.size+1:=by rw [<- hH2,size_push]
 have hDC:s2.heap.objs.size≠G2.objs.size:=by rw [hC];exact ne_of_lt (lt_succ_self _)
 have hCle:s2.heap.objs.size<=G2.objs.size:=by rw [hC];exact le_succ _
 have below:∀b,b<s2.heap.objs.size->b≠G2.objs.size/\b≠s2.heap.objs.size:=λb hb=>⟨by rw [hC];exact ne_of_lt (lt_succ_of_lt hb),ne_of_lt hb⟩
 have old:∀b o,s2.heap.get? b=some o->h₁.get? b=some o:=λb o e=>hsb₁.extBut b o (below b (lt_size e)).1 (get?_push_of_some _ (hH2 ▸ get?_push_of_some _ e))
 have hacc:zu X.prog X.w h₁ s2.heap.objs.size []:=hnew.at λo e=>hsb₁.extBut _ _ hDC (get?_push_of_some _ e)
 have fl:∀b∈fp,b<s2.heap.objs.size:=λb hb=>by
  obtain ⟨o,e,_⟩:=T.obj 0 _ st2 b hb
  exact lt_size e
 have hDfp:s2.heap.objs.size∉fp:=λz=>lt_irrefl _ (fl _ z)
 generalize hD:s2.heap.objs.size=D at *
 generalize hCe:G2.objs.size=C at *
 have cof:∀x c,(zat X.env.cells sc.names []).lookup x=some c->X.env.cells.lookup x=some c:=λx c h=>by
  rcases zd1 h with h|h
  ·cases h
  ·exact h.1
 have st1:tn 0 h₁:=T.keep _ _ _ st2 λb _ o e=>old b o e
 have I3:Inv (zI X sc N' Ga C fp s2 H2) [] (zaM ix σ) H2 { s2 with heap:=h₁,toks:=s2.toks+([]:List (Str×Value)).length }:=zhz I2 L f2 (λb hb=>by rw [hD];exact fl b hb) (by rw [hD];exact hCle) hns₁ old
 have D0:H2 D=none:=I2.hok.fresh (le_of_eq hD)
 have fD:zV (zI X sc N' Ga C fp s2 H2) [] H2 D:=by
  refine ⟨D0,hDC,λz=>?_,.inr (le_of_eq hD),λx c hx z=>?_,λp hp z=>?_⟩
  ·obtain ⟨_,o,ho,_⟩:=I2.stack.mem (show D∈frs X.stack from z)
   exact absurd (lt_size ho) (by rw [hD];exact lt_irrefl _)
  ·obtain ⟨v,q⟩:=I2.cell x c (cof x c hx)
   have:=q.lt
   rw [z,hD] at this
   exact lt_irrefl _ this
  ·have hp':p∈X.pn++Ga:=by
    have:p∈(X.pn++Ga)++[]:=hp
    simpa using this
   have:=lt_size (I2.pin p hp').1
   rw [z,hD] at this
   exact lt_irrefl _ this
 have fF:∀b∈fp,zV (zI X sc N' Ga C fp s2 H2) [] H2 b:=λb hb=>by
  obtain ⟨g0,g1,g2,g3,g4,g5⟩:=f2 b hb
  refine ⟨g0,(below b (fl b hb)).1,λz=>?_,.inl hb,λx c hx=>g4 x c (cof x c hx),λp hp=>g5 p ?_⟩
  ·rcases mem_cons.mp (I2.stkSub b z) with e|e
   ·exact g1 e
   ·exact g2 e
  ·have:p∈(X.pn++Ga)++[]:=hp
   simpa using this
 generalize hE:Expr.SetComp elt [⟨t0,i0,[],0⟩,⟨t1,i1,[],0⟩,⟨t2,i2,[],0⟩] sc pos=E
 have hb:=zqn <| pb_loop (X:=zI X sc N' Ga C fp s2 H2) (D:=D) (c:=c1) hE.symm (d:=1) (by rw [<- hE];rfl) (λ_=>zkU hE.symm) rfl rfl hc1 (hi1 Ga C fp s2 H2) (hg1 Ga C fp s2 H2) (pb_loop (c:=c2) hE.symm (d:=2) (by rw [<- hE];rfl) (λ_=>znz hE.symm) rfl rfl hc2 (hi2 Ga C fp s2 H2) (hg2 Ga C fp s2 H2) (zoT rfl (he Ga C fp s2 H2)) (hs2 _)) (hs1 _)
 have loop:=zih (X:=zI X sc N' Ga C fp s2 H2) hE.symm (zpk hE.symm) rfl hc (hg Ga C fp s2 H2) hb T hDfp turn I3 st1 fF fD hacc w0
 have loop':=codeAny_mono loop (R':=compPost (model X.prog X.w) X.A X.xe none (EP X Ga σ Q) (.ref D) C) λr s5 ⟨hr,τ5,ns,H5,I5,fr5,dn5,hS5,fin⟩=>by
  subst hr
  obtain ⟨m5,hn5,_⟩:=id I5.loc
  refine ⟨m5,hn5,λh' hsb=>?_⟩
  have kb:∀b u,b≠C->s5.heap.get? b=some u->h'.get? b=some u:=λb u hb e=>(hsb.2 b hb).trans e
  have hlt:∀b o,s2.heap.get? b=some o->b≠C/\b≠D:=λb o e=>by
   have:=lt_size e
   rw [hD] at this
   exact below b this
  have nsm:D≠sysModules:=by have h:mainGlobals<s2.heap.objs.size:=(I2.mod.glob.keeps I2.bk).lt;rw [hD] at h;exact ne_of_gt (lt_trans (by decide) h)
  have U:=I5.base
  refine ⟨.ref D,upd H5 D (zaX X.prog X.w D ns),I2.call' (s':={ s5 with heap:=h' }) (ch:=fp) I5.os ⟨λb o e n hb hx=>kb b o (hlt b o e).1 (U.keep b o e n hb hx),λb o e n hb hx=>?_,λb o e n hx=>?_,λb o e hx=>?_,λb xs e=>?_,λb o u e=>?_,λb ps e=>?_⟩ ?_ I5.bare (λb hb=>?_),rfl,fin D dn5 nsm⟩
  ·obtain ⟨sl,q⟩:=U.slot b o e n hb hx
   exact ⟨sl,kb b _ (hlt b o e).1 q⟩
  ·rw [zh (hlt b o e).2]
   exact U.free b o e n hx
  ·obtain ⟨o',q⟩:=U.there b o e hx
   exact ⟨o',kb b _ (hlt b o e).1 q⟩
  ·have q:=U.tups b xs e
   rw [zh (zT q dn5)]
   exact q
  ·have q:=U.frzs b o u e
   rw [zh (zT q dn5)]
   exact q
  ·obtain ⟨more,q⟩:=U.tbls b ps e
   exact ⟨more,by rw [zh (zT q dn5)];exact q⟩
  ·exact (I5.hok.but I5.free kb).add dn5 (zi2 (hS5.at λo e=>kb D o hDC e))
  ·obtain ⟨_,g1,g2,g3,g4,g5⟩:=f2 b hb
   exact ⟨g3,g1,g4,g5⟩
 exact ziu hE.symm (by rw [<- hE];rfl) loop' (T.self _ 0 _ _ _ st1 loop')
theorem zi0:Manifest.owners.lookup (String.ofList ['r','o','t','a','r','e','t','i','_','t','e','s'].reverse)=some Manifest.sig_set_iterator:=by kernel_rfl
theorem zda:Slot "set_iterator" "__next__" "set_iterator.__next__" :=
 .of (owner:="set_iterator") (n:="__next__") (by rw [typeLookup_type,builtinLookup_eq_fast];kernel_rfl) (f!"") (f!"") (f!"")
  (by first|exact .inl (f!"")|exact .inr (f!"")) (by rw [isSubtype_type];kernel_rfl)
theorem zpB:entryFor table "set_iterator.__next__"=some Builtin.«set_iterator.__next__»:=entryFor_of_tree (by kernel_rfl)
theorem zm0(a:Value):argsOk "set_iterator.__next__" ⟨[a],[]⟩:=by
 unfold argsOk;rw [signature?_of (id:="set_iterator.__next__") (n:=['_','_','t','x','e','n','_','_']) (o:=['r','o','t','a','r','e','t','i','_','t','e','s']) (by kernel_rfl) zi0];kernel_rfl
theorem zhN:Slot "set_iterator" "__iter__" "set_iterator.__iter__" :=
 .of (owner:="set_iterator") (n:="__iter__") (by rw [typeLookup_type,builtinLookup_eq_fast];kernel_rfl) (f!"") (f!"") (f!"")
  (by first|exact .inl (f!"")|exact .inr (f!"")) (by rw [isSubtype_type];kernel_rfl)
theorem zlc:entryFor table "set_iterator.__iter__"=some Builtin.«dict_keyiterator.__iter__»:=entryFor_alias (id':="dict_keyiterator.__iter__") (by kernel_rfl) rfl (f!"") (by kernel_rfl)
theorem zsD(a:Value):argsOk "set_iterator.__iter__" ⟨[a],[]⟩:=by
 unfold argsOk;rw [signature?_of (id:="set_iterator.__iter__") (n:=['_','_','r','e','t','i','_','_']) (o:=['r','o','t','a','r','e','t','i','_','t','e','s']) (by kernel_rfl) zi0];kernel_rfl
theorem zrv:entryFor table "set.__iter__"=some Builtin.«frozenset.__iter__»:=entryFor_alias (id':="frozenset.__iter__") (by kernel_rfl) rfl (f!"") (by kernel_rfl)
section
variable {prog:Program}{w:World}{A:Around}{E:Value->Shared->Prop}{s:Shared}
theorem zqi{src:Source}{n:Nat}{Q:Nat->Shared->Prop}(hn:n≠0)(h:∀i d,i<n->Q i { s with drawn:=d }):wpAny (model prog w) A (choose src n) Q E s:=by
 intro Γ p hΓ
 unfold choose
 rw [Sem.wp_choose]
 exact ⟨hn,h _ _ (Nat.mod_lt _ (Nat.pos_of_ne_zero hn))⟩
theorem zfU{α:Type}:∀{xs:List α}{i:Nat}(h:i<xs.length),(xs[i]::xs.eraseIdx i).Perm xs
 | x::xs,0,h=>List.Perm.refl _
 | x::xs,i+1,h=>by
  have:=zfU (xs:=xs) (i:=i) (by simpa using h)
  exact (List.Perm.swap _ _ _).trans (this.cons x)
theorem zhE{α:Type}:∀(n:Nat)(xs:List α)(s:Shared)(Q:List α->Shared->Prop),xs.length=n->(∀l d,l.Perm xs->Q l { s with drawn:=d })->wpAny (model prog w) A (drawOrder n xs) Q E s
 | 0,xs,s,Q,hl,h=>by
  have:xs=[]:=length_eq_zero_iff.mp hl
  subst this
  exact wpAny_pure (h [] s.drawn (List.Perm.refl _))
 | n+1,[],s,Q,hl,h=>by cases hl
 | n+1,x::xs,s,Q,hl,h=>by
  unfold drawOrder
  refine wpAny_bind (zqi (by simp) λi d hi=>?_)
  rw [List.getElem?_eq_getElem hi]
  dsimp only
  have le:((x::xs).eraseIdx i).length=n:=by rw [List.length_eraseIdx_of_lt hi];simpa using hl
  refine wpAny_bind (zhE n _ _ _ le λl d' p=>wpAny_pure ?_)
  exact h _ _ ((p.cons _).trans (zfU hi))
def itO(a:Addr)(n ep:Nat)(first:Value)(i:Nat):Obj:={ cls:=.type "set_iterator",data:=.fields #[first,.int i 0,.ref a,.int n 0,.int ep 0] }
structure SIt(h:Heap)(I a:Addr)(n ep:Nat)(first:Value)(i:Nat):Prop where
 ex:∃o,h.get? I=some o/\o.cls = .type "set_iterator"/\o.data = .fields #[first,.int i 0,.ref a,.int n 0,.int ep 0]
theorem SIt.at{h h':Heap}{I a:Addr}{n ep:Nat}{first:Value}{i:Nat}(x:SIt h I a n ep first i)(k:∀o,h.get? I=some o->h'.get? I=some o):SIt h' I a n ep first i:=let ⟨o,ho,r⟩:=x.ex;⟨⟨o,k o ho,r⟩⟩
theorem SIt.typ{I a:Addr}{n ep:Nat}{first:Value}{i:Nat}(x:SIt s.heap I a n ep first i):s.TypeIs (.ref I) "set_iterator":=let ⟨o,ho,hc,_⟩:=x.ex;⟨o,ho,hc⟩
section
variable {a:Addr}{o:Obj}{es:Array (Int×Value)}{ep:Nat}{t:SetTable}
theorem zoa{Q:Value->Shared->Prop}(ho:s.heap.get? a=some o)(hex:o.ExactSet)(hd:o.data = .set es ep t)(hf:t.fits es.size=true)(hz:es.size<=sizeLine)
  (h1:(btW w=true\/t.plain=true\/es.size<=1)->Q (.ref s.heap.objs.size) { s with heap:=s.heap.push (itO a es.size ep (.int 0 0) 0) })
  (h2:∀(ps:List Nat) d,btW w=false->ps.Perm (List.range es.size)->Q (.ref (s.heap.objs.size+1)) { s with heap:=(s.heap.push { cls:=.type "tuple",data:=.seq (ps.map λ(i:Nat)=>rawInt i).toArray }).push (itO a es.size ep (.ref s.heap.objs.size) 0),drawn:=d }) :
  wpAny (model prog w) A (pyIter (.ref a)) Q E s:=by
 have hT:s.TypeIs (.ref a) "set":=⟨o,ho,hex.1⟩
 refine wpAny_pyIter_slot hT F.slot_set_iter (wpAny_call_entry F.slot_set_iter hT zrv ?_ (F.args_set_iter_1 _))
 unfold Builtin.«frozenset.__iter__» Builtin.Frozenset.slot0 slotArgs
 simp only [List.isEmpty_nil,Bool.not_true,false_eq_true,↓reduceIte,bind_assoc,length_nil,bne_self_eq_false]
 unfold Builtin.Frozenset.addrOf Builtin.Frozenset.sizeOf
 refine wpAny_bind (wpAny_pure ?_)
 try dsimp only
 refine wpAny_bind (wpAny_pure ?_)
 refine wpAny_bind (wpAny_bind (wpAny_setEntries_of ho hd hf (wpAny_pure ?_)))
 unfold setDrawn
 refine wpAny_bind (wpAny_bind (wpAny_setState_of ho hd hf ?_))
 dsimp only
 unfold setsByText
 refine wpAny_bind (wpAny_bind (wpAny_askSetting (wpAny_pure (wpAny_pure ?_))))
 show wpAny _ _ (if (!btW w&&(!t.plain&&decide (es.size>1)))=true then _ else _) _ _ _
 by_cases c:(!btW w&&(!t.plain&&decide (es.size>1)))=true
 ·rw [if_pos c]
  simp only [and_eq_true,not_eq_true',decide_eq_true_eq] at c
  refine wpAny_bind (zhE es.size _ s _ List.length_range λps d pm=>wpAny_bind (wpAny_newTuple ?_ (by rw [length_map,pm.length_eq,List.length_range];exact hz)))
  have hk:((s.heap.push { cls:=.type "tuple",data:=.seq (ps.map λ(i:Nat)=>rawInt i).toArray }).get? a)=some o:=get?_push_of_some _ ho
  unfold setEpoch
  refine wpAny_bind (wpAny_bind (wpAny_setState_of hk hd hf (wpAny_pure ?_)))
  refine wpAny_bind (wpAny_newObj_type (wpAny_pure ⟨_,rfl,"set_iterator",_,⟨_,get?_push_size _ rfl,rfl⟩,zda.lookup,?_⟩))
  have:=h2 ps d c.1 pm
  rw [<- size_push] at this
  exact this
 ·rw [if_neg c]
  have c':btW w=true\/t.plain=true\/es.size<=1:=by
   cases e1:btW w
   ·cases e2:t.plain
    ·rw [e1,e2] at c
     right;right
     simpa using c
    ·right;left;rfl
   ·left;rfl
  refine wpAny_bind (wpAny_pure ?_)
  unfold setEpoch
  refine wpAny_bind (wpAny_bind (wpAny_setState_of ho hd hf (wpAny_pure ?_)))
  exact wpAny_bind (wpAny_newObj_type (wpAny_pure ⟨_,rfl,"set_iterator",_,⟨_,get?_push_size _ rfl,rfl⟩,zda.lookup,h1 c'⟩))
def zaB(w:World)(a:Addr)(es:Array (Int×Value))(ep:Nat):Array (Int×Value):=if btW w=true then pickOrder (w.params.setOrder a ep) es else es
theorem zqY{k i:Nat}{Q:Option (Value×Nat)->Shared->Prop}(ho:s.heap.get? a=some o)(hd:o.data = .set es ep t)(hf:t.fits es.size=true)(g:zaO (btW w) t)(c:btW w=true\/t.plain=true\/es.size<=1)(hb:btW w=false->SetTable.below t.place k=i)
  (h1:∀e k',(zaB w a es ep)[i]?=some e->(btW w=false->SetTable.below t.place k'=i+1)->Q (some (e.2,k')) s) (h2:(zaB w a es ep)[i]?=none->Q none s) :
  wpAny (model prog w) A (setNext a k i ep) Q E s:=by
 unfold setNext
 refine wpAny_bind (wpAny_setState_of ho hd hf ?_)
 dsimp only
 unfold setsByText
 refine wpAny_bind (wpAny_bind (wpAny_askSetting (wpAny_pure ?_)))
 show wpAny _ _ (if btW w=true then _ else _) _ _ _
 have hpl:t.place.size=es.size:=by
  unfold SetTable.fits at hf
  simp only [and_eq_true,beq_iff_eq] at hf
  exact hf.1
 cases hbt:btW w
 ·rw [if_neg Bool.false_ne_true]
  have c2:t.plain=true\/es.size<=1:=c.resolve_left (by rw [hbt];exact Bool.false_ne_true)
  show wpAny _ _ (if (!t.plain&&decide (es.size>1))=true then _ else _) _ _ _
  rw [if_neg (show ¬ ((!t.plain&&decide (es.size>1))=true) from by
   simp only [and_eq_true,not_eq_true',decide_eq_true_eq,not_and]
   intro h3
   rcases c2 with h4|h4
   ·rw [h3] at h4;cases h4
   ·omega)]
  have hled:t.led=true:=by rw [g.led,hbt];rfl
  have eo:zaB w a es ep=es:=by unfold zaB;rw [if_neg (by rw [hbt];exact Bool.false_ne_true)]
  rw [eo] at h1 h2
  refine wpAny_bind ?_
  show wpAny _ _ (if (!t.led && !es.isEmpty)=true then _ else _) _ _ _
  rw [if_neg (show ¬ ((!t.led && !es.isEmpty)=true) from by rw [hled];simp)]
  refine wpAny_pure (wpAny_pure ?_)
  rw [hb hbt]
  cases e:es[i]? with
  | none=>exact h2 e
  | some x =>
   have hi:i<es.size:=(Array.getElem?_eq_some_iff.mp e).1
   have e2:t.place[i]?=some t.place[i]:=Array.getElem?_eq_getElem (by omega)
   rw [e2]
   refine h1 x _ e λ_=>?_
   have B:=zfg g.ris (t.place[i]+1)
   have gi:t.place.getD i 0=t.place[i]:=by simp [getD,show i<t.place.size by omega]
   have lo:i<SetTable.below t.place (t.place[i]+1):=by
    rcases Nat.lt_or_ge i (SetTable.below t.place (t.place[i]+1)) with z|z
    ·exact z
    ·have:=B.hi i z (by omega)
     omega
   rcases Nat.lt_or_ge (i+1) (SetTable.below t.place (t.place[i]+1)) with z|z
   ·have l1:=B.lo (i+1) z
    have l2:=g.ris i (i+1) (by omega) (by have:=B.le;omega)
    omega
   ·omega
 ·rw [if_pos rfl]
  rw [if_neg (by simp)]
  unfold setWalk
  refine wpAny_bind (wpAny_bind (wpAny_setState_of ho hd hf ?_))
  dsimp only
  unfold setsByText
  refine wpAny_bind (wpAny_bind (wpAny_askSetting (wpAny_pure ?_)))
  show wpAny _ _ (if btW w=true then _ else _) _ _ _
  rw [if_pos hbt]
  refine wpAny_bind (wpAny_askSetting (wpAny_pure (wpAny_pure ?_)))
  have eo:zaB w a es ep=pickOrder (w.params.setOrder a ep) es:=by unfold zaB;rw [if_pos hbt]
  rw [eo] at h1 h2
  show Q (((pickOrder (w.params.setOrder a ep) es)[i]?).map λe=>(e.2,k)) s
  cases e:(pickOrder (w.params.setOrder a ep) es)[i]? with
  | none=>exact h2 e
  | some x=>exact h1 x k e λz=>by rw [hbt] at z;cases z
end
end
section
variable {prog:Program}{w:World}{A:Around}{E:Value->Shared->Prop}{s:Shared}
variable {a I:Addr}{o:Obj}{es:Array (Int×Value)}{ep:Nat}{t:SetTable}{i:Nat}
theorem SIt.set0{n k':Nat}{first:Value}(x:SIt s.heap I a n ep first i):∀h':Heap,h'=s.heap.update I (mapFields (·.setIfInBounds 0 (rawInt k')))->SIt h' I a n ep (.int k' 0) i/\SameBut I s.heap h':=λh' e=>by
 subst e
 obtain ⟨o,ho,hc,hd⟩:=x.ex
 exact ⟨⟨⟨_,get?_update_self _ ho (isFreed_of_fields (data_mapFields hd _)),(Obj.cls_mapFields ..).trans hc,by rw [data_mapFields hd];simp [rawInt]⟩⟩,SameBut.update ..⟩
theorem SIt.set1{n:Nat}{first:Value}(x:SIt s.heap I a n ep first i):∀h':Heap,h'=s.heap.update I (mapFields (·.setIfInBounds 1 (rawInt ((i:Int)+1))))->SIt h' I a n ep first (i+1)/\SameBut I s.heap h':=λh' e=>by
 subst e
 obtain ⟨o,ho,hc,hd⟩:=x.ex
 exact ⟨⟨⟨_,get?_update_self _ ho (isFreed_of_fields (data_mapFields hd _)),(Obj.cls_mapFields ..).trans hc,by rw [data_mapFields hd];simp [rawInt]⟩⟩,SameBut.update ..⟩
theorem zje{first:Value}{Q:Option Value->Shared->Prop}(hit:SIt s.heap I a es.size ep first i)(ho:s.heap.get? a=some o)(hd:o.data = .set es ep t)(hf:t.fits es.size=true)
  (h:wpAny (model prog w) A.in1 (match first with
   | .int slot _=>do
    match<-setNext a slot.toNat i ep with
    | some (x,next) =>
     setField (.ref I) 0 (rawInt next)
     setField (.ref I) 1 (rawInt ((i:Int)+1))
     ret x
    | none=>setField (.ref I) 2 .none;raiseNew (<- newExc (.type "StopIteration") [])
   | _=>do
    let some places<-seqItems? first|unsupported "internal:set_iterator"
    match places[i]? with
    | some (.int place _) =>
     let x<-setNextDrawn a place.toNat ep
     setField (.ref I) 1 (rawInt ((i:Int)+1))
     ret x
    | some _=>unsupported "internal:set_iterator"
    | none=>setField (.ref I) 0 (rawInt 0);setField (.ref I) 2 .none;raiseNew (<- newExc (.type "StopIteration") []))
   (λfin s'=>∃v,fin = .done (.ret v)/\Q (some v) s') (λe s'=>wpAny (model prog w) A (do if<-isInstance e (.type "StopIteration") then pure none else throw e) Q E s') s) :
  wpAny (model prog w) A (pyNext (.ref I)) Q E s:=by
 obtain ⟨oi,hoi,hci,hdi⟩:=hit.ex
 unfold pyNext
 refine wpAny_bind (wpAny_attempt (wpAny_callSpecial?_slot (name:=Str.ofString "__next__") hit.typ zda (wpAny_call_entry zda hit.typ zpB ?_ (zm0 _))))
 unfold Builtin.«set_iterator.__next__»
 refine wpAny_bind (wpAny_pure ?_)
 refine wpAny_bind (wpAny_fieldsOf hoi hdi ?_)
 dsimp only
 refine wpAny_bind (wpAny_setEntries_of ho hd hf ?_)
 rw [if_neg (by simp)]
 simp only [toNat_natCast]
 refine wpAny_mono h ?_ ?_
 ·rintro fin s' ⟨v,rfl,q⟩
  exact ⟨_,rfl,wpAny_pure q⟩
 ·intro e s' q
  exact q
theorem zi5{Q:Option Value->Shared->Prop}(hh:A.handled=none){h1:Heap}(hk:ExtBut I s.heap h1)(hQ:∀h',ExtBut I s.heap h'->Q none { s with heap:=h' }) :
  wpAny (model prog w) A.in1 (do raiseNew (<- newExc (.type "StopIteration") []):Sem Fin) (λfin s'=>∃v,fin = .done (.ret v)/\Q (some v) s') (λe s'=>wpAny (model prog w) A (do if<-isInstance e (.type "StopIteration") then pure none else throw e) Q E s') { s with heap:=h1 }:=by
 refine wpAny_bind ?_
 simp only [newExc,newTuple]
 refine wpAny_bind (wpAny_newObj_type ?_ (by size_fits))
 refine wpAny_bind (m:=firstArgMember _ _) (wpAny_of_eq (a:=Value.none) (by first|rfl|(simp only [firstArgMember];rfl)) ?_)
 refine wpAny_newObj_type ?_ (by size_fits)
 simp only [raiseNew]
 refine wpAny_bind (wpAny_handled ?_)
 rw [show A.in1.handled=none from hh]
 refine wpAny_bind (wpAny_pure (wpAny_throw ?_))
 refine wpAny_bind (wpAny_isInstance (T:="StopIteration") (b:=true) ⟨_,get?_push_size _ rfl,rfl⟩ isSubtype_stop ?_)
 exact wpAny_pure (hQ _ ((hk.push _).push _))
theorem ziq{k:Nat}{Q:Option Value->Shared->Prop}(hh:A.handled=none)(hit:SIt s.heap I a es.size ep (.int k 0) i)(ho:s.heap.get? a=some o)(hd:o.data = .set es ep t)(hf:t.fits es.size=true)(g:zaO (btW w) t)(c:btW w=true\/t.plain=true\/es.size<=1)(hb:btW w=false->SetTable.below t.place k=i)
  (h1:∀e k' h',(zaB w a es ep)[i]?=some e->(btW w=false->SetTable.below t.place k'=i+1)->SIt h' I a es.size ep (.int k' 0) (i+1)->SameBut I s.heap h'->Q (some e.2) { s with heap:=h' })
  (h2:(zaB w a es ep)[i]?=none->∀h',ExtBut I s.heap h'->Q none { s with heap:=h' }):wpAny (model prog w) A (pyNext (.ref I)) Q E s:=by
 refine zje hit ho hd hf ?_
 dsimp only
 refine wpAny_bind (zqY ho hd hf g c (by simpa using hb) (λe k' he hk'=>?_) λhe=>?_)
 ·dsimp only
  obtain ⟨oi,hoi,hci,hdi⟩:=hit.ex
  refine wpAny_bind (wpAny_setField hoi hdi (by simp) ?_)
  obtain ⟨x1,sb1⟩:=hit.set0 (k':=k') _ rfl
  obtain ⟨oj,hoj,hcj,hdj⟩:=x1.ex
  refine wpAny_bind (wpAny_setField hoj hdj (by simp) ?_)
  obtain ⟨x2,sb2⟩:=SIt.set1 (s:={ s with heap:=s.heap.update I (mapFields (·.setIfInBounds 0 (rawInt k'))) }) x1 _ rfl
  exact wpAny_pure ⟨_,rfl,h1 e k' _ he hk' x2 (sb1.trans sb2)⟩
 ·dsimp only
  obtain ⟨oi,hoi,hci,hdi⟩:=hit.ex
  refine wpAny_bind (wpAny_setField hoi hdi (by simp) ?_)
  exact zi5 hh (SameBut.update ..).extBut (h2 he)
theorem zhC{T:Addr}{ot:Obj}{c:Nat}{ps:List Nat}{Q:Option Value->Shared->Prop}(hh:A.handled=none)(hit:SIt s.heap I a es.size ep (.ref T) i)(ho:s.heap.get? a=some o)(hd:o.data = .set es ep t)(hf:t.fits es.size=true)(hT:s.heap.get? T=some ot)(htd:ot.data = .seq (ps.map λ(i:Nat)=>rawInt i).toArray c)(pm:ps.Perm (List.range es.size))
  (h1:∀p e h',ps[i]?=some p->es[p]?=some e->SIt h' I a es.size ep (.ref T) (i+1)->SameBut I s.heap h'->Q (some e.2) { s with heap:=h' })
  (h2:ps[i]?=none->∀h',ExtBut I s.heap h'->Q none { s with heap:=h' }):wpAny (model prog w) A (pyNext (.ref I)) Q E s:=by
 refine zje hit ho hd hf ?_
 dsimp only
 refine wpAny_bind (wpAny_seqItems hT htd ?_)
 dsimp only
 obtain ⟨oi,hoi,hci,hdi⟩:=hit.ex
 rw [List.getElem?_toArray,getElem?_map]
 cases e:ps[i]? with
 | none =>
  dsimp only [Option.map_none]
  refine wpAny_bind (wpAny_setField hoi hdi (by simp) ?_)
  obtain ⟨x1,sb1⟩:=hit.set0 (k':=0) _ rfl
  obtain ⟨oj,hoj,hcj,hdj⟩:=x1.ex
  refine wpAny_bind (wpAny_setField hoj hdj (by simp) ?_)
  exact zi5 (s:=s) (I:=I) hh (sb1.trans (SameBut.update ..)).extBut (h2 e)
 | some p =>
  have hp:p<es.size:=by
   have:=pm.mem_iff.mp (mem_of_getElem? e)
   simpa using this
  have he:es[p]?=some es[p]:=Array.getElem?_eq_getElem hp
  dsimp only [Option.map_some,rawInt]
  unfold setNextDrawn
  refine wpAny_bind (wpAny_bind (wpAny_setState_of ho hd hf ?_))
  dsimp only
  rw [if_neg (by simp),toNat_natCast,he]
  refine wpAny_pure ?_
  refine wpAny_bind (wpAny_setField hoi hdi (by simp) ?_)
  obtain ⟨x2,sb2⟩:=hit.set1 _ rfl
  exact wpAny_pure ⟨_,rfl,h1 p es[p] _ e he x2 sb2⟩
theorem zi6{n:Nat}{first:Value}{Q:Value->Shared->Prop}(hit:SIt s.heap I a n ep first i)(h:Q (.ref I) s):wpAny (model prog w) A (pyIter (.ref I)) Q E s:=by
 refine wpAny_pyIter_slot hit.typ zhN (wpAny_call_entry zhN hit.typ zlc ?_ (zsD _))
 show wpAny _ _ (ret (.ref I)) _ _ s
 exact wpAny_pure ⟨_,rfl,"set_iterator",_,hit.typ,zda.lookup,h⟩
end
theorem zg4{α:Type}(nx:Nat->Nat):∀(f k:Nat)(left:List α)(out:Array α),left.length=f->(pickOrder.go nx f k left out).toList.Perm (out.toList++left)
 | 0,k,left,out,h=>by
  have:left=[]:=length_eq_zero_iff.mp h
  subst this
  unfold pickOrder.go
  simp
 | f+1,k,left,out,h=>by
  have hp:0<left.length:=by omega
  have hi:nx k % left.length<left.length:=Nat.mod_lt _ hp
  unfold pickOrder.go
  rw [List.getElem?_eq_getElem hi]
  dsimp only
  refine (zg4 nx f (k+1) _ _ (by rw [List.length_eraseIdx_of_lt hi,h];rfl)).trans ?_
  rw [toList_push,List.append_assoc]
  exact List.Perm.append_left _ (zfU hi)
theorem zm9{α:Type}(nx:Nat->Nat)(xs:Array α):(pickOrder nx xs).toList.Perm xs.toList:=by
 have:=zg4 nx xs.size 0 xs.toList #[] (by simp)
 unfold pickOrder
 simpa using this
theorem znj{w:World}{a:Addr}{es:Array (Int×Value)}{ep:Nat}:(zaB w a es ep).toList.Perm es.toList:=by
 unfold zaB
 split
 ·exact zm9 _ _
 ·exact List.Perm.refl _
theorem zfr{prog:Program}{w:World}:∀{l:List (Int×Value)},ElemsOf (PySem.intKind prog w) l->IntsAre (l.map (·.2)) (l.map zbc)
 | [],_=>.nil
 | e::l,h=>by
  obtain ⟨⟨k,hk,_⟩,_⟩:=h e mem_cons_self
  obtain ⟨t,ev⟩:=zfT hk
  have:=zfr (l:=l) λx hx=>h x (mem_cons_of_mem _ hx)
  show IntsAre (e.2::_) (numOf e.2::_)
  rw [ev]
  exact .cons _ _ this
structure zob(prog:Program)(w:World)(A:Around)(h0 h:Heap)(a I:Addr)(ns:List Int):Prop where
 new:h0.objs.size<=I
 old:∀b o,h0.get? b=some o->h.get? b=some o
 ex:∃(L:List Value)(ms:List Int)(fp:List Addr)(St:Nat->Heap->Prop),IntsAre L ms/\ms.Perm ns/\(∀b∈fp,b=a\/h0.objs.size<=b)/\Walks prog w A I fp [I] L.length (λi v=>L[i]?=some v) St/\St 0 h
section
variable {prog:Program}{w:World}{A:Around}{E:Value->Shared->Prop}{s:Shared}
theorem zmI{a:Addr}{ns:List Int}{Q:Value->Shared->Prop}(hh:A.handled=none)(hS:zu prog w s.heap a ns)
  (h:∀I h' d,zob prog w A s.heap h' a I ns->Q (.ref I) { s with heap:=h',drawn:=d }):wpAny (model prog w) A (pyIter (.ref a)) Q E s:=by
 obtain ⟨o,es,ep,t,ho,hex,hd,hel,hf,gt,pm⟩:=hS.ex
 have hsz:=zu.size (h:=s.heap) (a:=a) pm
 have hz:es.size<=sizeLine:=by rw [hsz,sizeLine_eq];have:=hS.few;omega
 have halt:=lt_size ho
 refine zoa ho hex hd hf hz (λc=>?_) λps d hbt pp=>?_
 ·have op:=znj (w:=w) (a:=a) (es:=es) (ep:=ep)
  have oel:=hel.perm op
  have olen:(zaB w a es ep).toList.length=es.size:=by rw [op.length_eq,length_toList]
  have oget:∀i,(zaB w a es ep)[i]?=(zaB w a es ep).toList[i]?:=λi=>(getElem?_toList).symm
  have:=h s.heap.objs.size (s.heap.push (itO a es.size ep (.int 0 0) 0)) s.drawn ⟨Nat.le_refl _,λb o e=>get?_push_of_some _ e,(zaB w a es ep).toList.map (·.2),(zaB w a es ep).toList.map zbc,[s.heap.objs.size,a],λi h=>(∃k:Nat,SIt h s.heap.objs.size a es.size ep (.int k 0) i/\(btW w=false->SetTable.below t.place k=i))/\h.get? a=some o,zfr oel,(op.map zbc).trans pm,λb hb=>?_,?_,?_⟩
  ·exact this
  ·simp only [mem_cons,not_mem_nil,or_false] at hb
   rcases hb with rfl|rfl
   ·exact .inr (Nat.le_refl _)
   ·exact .inl rfl
  ·have aI:a≠s.heap.objs.size:=ne_of_lt halt
   refine ⟨λb hb=>?_,λi h h' st hk=>?_,λi s' Q E hi st hQ=>?_,λs' Q E st hQ=>?_,λi s' Q E st hQ=>?_⟩
   ·simp at hb;simp [hb]
   ·obtain ⟨⟨k,x,hb⟩,ha⟩:=st
    exact ⟨⟨k,x.at λo e=>hk _ (by simp) o e,hb⟩,hk a (by simp) o ha⟩
   ·obtain ⟨⟨k,x,hb⟩,ha⟩:=st
    rw [length_map,olen] at hi
    refine ziq hh x ha hd hf gt c hb (λe k' h' he hk' x' sb=>?_) λhe=>?_
    ·refine hQ _ h' s'.toks ?_ ⟨⟨k',x',hk'⟩,sb.extBut a _ aI ha⟩ λb o hb e=>sb.extBut b o (λz=>hb (by simp [z])) e
     rw [getElem?_map,<- oget,he]
     rfl
    ·rw [oget] at he
     exact absurd (List.getElem?_eq_none_iff.mp he) (by omega)
   ·obtain ⟨⟨k,x,hb⟩,ha⟩:=st
    rw [length_map,olen] at x hb
    refine ziq hh x ha hd hf gt c hb (λe k' h' he hk' x' sb=>?_) λhe h' eb=>?_
    ·rw [oget] at he
     exact absurd (List.getElem?_eq_some_iff.mp he).1 (by omega)
    ·exact hQ h' s'.toks λb o hb e=>eb b o (λz=>hb (by simp [z])) e
   ·obtain ⟨⟨k,x,hb⟩,ha⟩:=st
    exact zi6 x hQ
  ·exact ⟨⟨0,⟨⟨_,get?_push_size _ rfl,rfl,rfl⟩⟩,λ_=>by
    have B:=zfg gt.ris 0
    rcases Nat.eq_zero_or_pos (SetTable.below t.place 0) with z|z
    ·exact z
    ·exact absurd (B.lo 0 z) (Nat.not_lt_zero _)⟩,get?_push_of_some _ ho⟩
 ·have hT0:s.heap.objs.size=s.heap.objs.size:=rfl
  let f:Nat->Int×Value:=λp=>es.getD p (0,.none)
  have hfe:∀p,p<es.size->es[p]?=some (f p):=λp hp=>by rw [Array.getElem?_eq_getElem hp];simp [f,getD,hp]
  have op:(ps.map f).Perm es.toList:=by
   have e:(List.range es.size).map f=es.toList:=by
    apply List.ext_getElem?
    intro i
    rw [getElem?_map,show es.toList[i]?=es[i]? from getElem?_toList]
    by_cases hi:i<es.size
    ·rw [List.getElem?_range hi,hfe i hi];rfl
    ·rw [Array.getElem?_eq_none (by omega),List.getElem?_eq_none (by simpa using hi)];rfl
   rw [<- e]
   exact pp.map f
  have oel:=hel.perm op
  have olen:ps.length=es.size:=by rw [pp.length_eq,List.length_range]
  have:=h (s.heap.objs.size+1) ((s.heap.push { cls:=.type "tuple",data:=.seq (ps.map λ(i:Nat)=>rawInt i).toArray }).push (itO a es.size ep (.ref s.heap.objs.size) 0)) d ⟨le_succ _,λb o e=>get?_push_of_some _ (get?_push_of_some _ e),(ps.map f).map (·.2),(ps.map f).map zbc,[s.heap.objs.size+1,a,s.heap.objs.size],λi h=>SIt h (s.heap.objs.size+1) a es.size ep (.ref s.heap.objs.size) i/\h.get? a=some o/\h.get? s.heap.objs.size=some { cls:=.type "tuple",data:=.seq (ps.map λ(i:Nat)=>rawInt i).toArray },zfr oel,(op.map zbc).trans pm,λb hb=>?_,?_,?_⟩
  ·exact this
  ·simp only [mem_cons,not_mem_nil,or_false] at hb
   rcases hb with rfl|rfl|rfl
   ·exact .inr (le_succ _)
   ·exact .inl rfl
   ·exact .inr (Nat.le_refl _)
  ·have aI:a≠s.heap.objs.size+1:=ne_of_lt (lt_succ_of_lt halt)
   have tI:s.heap.objs.size≠s.heap.objs.size+1:=ne_of_lt (lt_succ_self _)
   refine ⟨λb hb=>?_,λi h h' st hk=>?_,λi s' Q E hi st hQ=>?_,λs' Q E st hQ=>?_,λi s' Q E st hQ=>?_⟩
   ·simp at hb;simp [hb]
   ·obtain ⟨x,ha,ht⟩:=st
    exact ⟨x.at λo e=>hk _ (by simp) o e,hk a (by simp) o ha,hk _ (by simp) _ ht⟩
   ·obtain ⟨x,ha,ht⟩:=st
    rw [length_map,length_map] at hi
    refine zhC hh x ha hd hf ht rfl pp (λp e h' hp he x' sb=>?_) λhe=>?_
    ·refine hQ _ h' s'.toks ?_ ⟨x',sb.extBut a _ aI ha,sb.extBut _ _ tI ht⟩ λb o hb e=>sb.extBut b o (λz=>hb (by simp [z])) e
     have hpl:p<es.size:=(Array.getElem?_eq_some_iff.mp he).1
     rw [hfe p hpl] at he
     cases he
     rw [getElem?_map,getElem?_map,hp]
     rfl
    ·exact absurd (List.getElem?_eq_none_iff.mp he) (by omega)
   ·obtain ⟨x,ha,ht⟩:=st
    rw [length_map,length_map] at x
    refine zhC hh x ha hd hf ht rfl pp (λp e h' hp he x' sb=>?_) λhe h' eb=>?_
    ·exact absurd (List.getElem?_eq_some_iff.mp hp).1 (by omega)
    ·exact hQ h' s'.toks λb o hb e=>eb b o (λz=>hb (by simp [z])) e
   ·exact zi6 st.1 hQ
  ·refine ⟨⟨⟨itO a es.size ep (.ref s.heap.objs.size) 0,?_,rfl,rfl⟩⟩,get?_push_of_some _ (get?_push_of_some _ ho),get?_push_of_some _ (get?_push_size _ rfl)⟩
   have:=get?_push_size (s.heap.push { cls:=.type "tuple",data:=.seq (ps.map λ(i:Nat)=>rawInt i).toArray }) (o:=itO a es.size ep (.ref s.heap.objs.size) 0) rfl
   rw [size_push] at this
   exact this
theorem zrx{a:Addr}{Q:Bool->Shared->Prop}(hT:s.TypeIs (.ref a) "set")(h:Q false s):wpAny (model prog w) A (Builtin.List.listLengthHint (.ref a)) Q E s:=by
 unfold Builtin.List.listLengthHint
 refine wpAny_bind (wpAny_specialOf hT PySem.F.slot_set_len.lookup ?_)
 generalize hid:("set.__len__":String)=id0
 wp_delta
 rw [show splitId id0=some ("set","__len__") from by subst hid;decide +kernel]
 subst hid
 refine wpAny_bind (wpAny_isInstance (T:="set") (b:=true) hT (by rw [isSubtype_type];kernel_rfl) ?_)
 refine wpAny_ite_split (λhab=>absurd hab (by decide)) (λ_=>?_)
 refine wpAny_ite_split (λ_=>?_) (λhab=>absurd (f!"") hab)
 refine wpAny_bind (wpAny_typeOf hT ?_)
 exact wpAny_pure h
theorem zu.typ{a:Addr}{ns:List Int}(x:zu prog w s.heap a ns):s.TypeIs (.ref a) "set":=let ⟨o,_,_,_,ho,hex,_⟩:=x.ex;⟨o,ho,hex.1⟩
theorem zn0{L:List Value}{acc:Array Value}(h:ItemsOf (λi v=>L[i]?=some v) acc L.length):acc.toList=L:=by
 apply List.ext_getElem?
 intro i
 by_cases hi:i<L.length
 ·have hs:i<acc.size:=by rw [h.1];exact hi
  have e:acc[i]?=some acc[i]:=Array.getElem?_eq_getElem hs
  rw [getElem?_toList,e,h.2 i _ e]
 ·rw [getElem?_toList,Array.getElem?_eq_none (by rw [h.1];omega),List.getElem?_eq_none (by omega)]
theorem zs2{R:Result->Shared->Prop}{a S:Addr}{ns:List Int}(hh:A.handled=none)(hS:zu prog w s.heap a ns)(hSa:S≠a)(res:Value)(c₀:Nat)(hl:s.heap.get? S=some { cls:=.type "list",data:=.seq #[] c₀ })
  (hR:∀h' tk d acc' c' ms,(∀b o,b≠S->s.heap.get? b=some o->h'.get? b=some o)->h'.get? S=some { cls:=.type "list",dict:=none,data:=.seq acc' c',slots:=#[] }->IntsAre acc'.toList ms->ms.Perm ns->R (.ok (.ret res)) { s with heap:=h',toks:=tk,drawn:=d }) :
  wpAny (model prog w) A.in1 (Builtin.List.listExtendWith (.ref S) (.ref a) res)
   (λfin s'=>match fin with | .done f=>R (.ok f) s' | .again c'=>c'.quiet=true/\codeAny (model prog w) A c' R s') (λe s'=>R (.error e) s') s:=by
 unfold Builtin.List.listExtendWith
 refine wpAny_bind (wpAny_typeOf (T:="set") hS.typ ?_)
 have h1:Builtin.List.listSameRef (.ref S) (.ref a)=false:=by simp [Builtin.List.listSameRef,hSa]
 have n1:(type "set" == type "list")=false:=by decide
 have n2:(type "set" == type "tuple")=false:=by decide
 simp only [h1,n1,n2,Bool.or_false,false_eq_true,if_false]
 refine wpAny_bind (zmI hh hS λI h2 d sw=>?_)
 obtain ⟨L,ms,fp,St,hL,hp,hfp,W,st⟩:=sw.ex
 have hlen:L.length<=sizeLine:=by
  have e1:L.length=ms.length:=by
   clear W st hp
   induction hL with
   | nil=>rfl
   | cons _ _ _ ih=>simp [ih]
  rw [e1,hp.length_eq,sizeLine_eq]
  have:=hS.few
  omega
 have hSlt:=lt_size hl
 have hSf:S∉fp:=λz=>by
  rcases hfp S z with q|q
  ·exact hSa q
  ·exact lt_irrefl _ (Nat.lt_of_lt_of_le hSlt q)
 have hSI:S≠I:=ne_of_lt (Nat.lt_of_lt_of_le hSlt sw.new)
 have key:∀(h:Heap)(c₁ tk:Nat),St 0 h->(∀b o,b≠S->s.heap.get? b=some o->h.get? b=some o) ->
   h.get? S=some { cls:=.type "list",data:=.seq #[] c₁ }->codeAny (model prog w) A (.builtin "list.extend.loop" ⟨[.ref S,.ref I,res],[]⟩) R { s with heap:=h,toks:=tk,drawn:=d }:=by
  intro h c₁ tk hst hk hS₁
  refine codeAny_extend_loopS W.toS hlen S hSf res L.length 0 _ #[] c₁ rfl (zero_le _) hst hS₁ (ItemsOf.nil _) λs' acc' c' hm hS' hacc=>?_
  rw [Moved.eq_with hm]
  refine hR s'.heap s'.toks d acc' c' ms (λb o hb e=>hm.heap b o (λhmem=>?_) (hk b o hb e)) hS' (by rw [zn0 hacc];exact hL) hp
  rcases mem_cons.mp hmem with e'|hmem
  ·exact hb e'
  ·have e3:=mem_singleton.mp hmem
   exact absurd (lt_size e) (by rw [e3];exact Nat.not_lt.mpr sw.new)
 have hS₁:=sw.old _ _ hl
 refine wpAny_bind (wpAny_holding (zrx (zu.typ (s:={ s with heap:=h2,drawn:=d }) (hS.at λo e=>sw.old _ _ e)) ?_))
 refine wpAny_ite_split (λ_=>?_) (λ_=>wpAny_pure ⟨plainId_quiet PySem.F.plain_extend_loop _,key _ c₀ _ st (λb o _ e=>sw.old _ _ e) hS₁⟩)
 refine wpAny_bind (wpAny_rule ?_)
 refine wpAny_bind ?_
 show wpAny _ _ (updateSeq S (·.push .none)>>=λ_=>updateSeq S (·.pop)) _ _ _
 refine wpAny_bind (wpAny_updateSeq hS₁ rfl ?_)
 have hS₂:=get?_update_self (mapSeq (·.push Value.none)) hS₁ rfl
 refine wpAny_updateSeq (hz:=by seq_fits) hS₂ rfl ?_
 have hS₃:=get?_update_self (mapSeq (·.pop)) hS₂ rfl
 refine wpAny_pure ⟨plainId_quiet PySem.F.plain_extend_loop _,key _ _ _ ?_ (λb o hb e=>?_) hS₃⟩
 ·refine W.frame 0 _ _ st λb hb o e=>?_
  have hbS:b≠S:=λh=>hSf (h ▸ hb)
  exact (get?_update_other _ _ (Ne.symm hbS)).trans ((get?_update_other _ _ (Ne.symm hbS)).trans e)
 ·exact (get?_update_other _ _ (Ne.symm hb)).trans ((get?_update_other _ _ (Ne.symm hb)).trans (sw.old _ _ e))
theorem zj6{R:List Value->Shared->Prop}{a:Addr}{ns:List Int}(hh:A.handled=none)(hS:zu prog w s.heap a ns)
  (h:∀(h':Heap)(tk:Nat) d (acc:List Value) ms,(∀b o,s.heap.get? b=some o->h'.get? b=some o)->IntsAre acc ms->ms.Perm ns->R acc { s with heap:=h',toks:=tk,drawn:=d }) :
  wpAny (model prog w) A (collect (.ref a)) R E s:=by
 have hlt:a<s.heap.objs.size:=let ⟨o,e,_⟩:=hS.obj;lt_size e
 unfold collect
 refine wpAny_bind (wpAny_runValue (codeAny_builtin entry_proto_collect' ?_))
 rw [Around.under_plainId PySem.F.plain_proto_collect _]
 show wpAny _ A.in1 (newList []>>=λl=>again (.builtin "list.__iadd__" ⟨[l,.ref a],[]⟩)) _ _ s
 refine wpAny_bind (wpAny_newObj_type ?_)
 refine wpAny_pure ⟨plainId_quiet PySem.F.plain_list_iadd _,codeAny_builtin entry_list_iadd' ?_⟩
 rw [Around.under_plainId PySem.F.plain_list_iadd _]
 have hS₁:(s.heap.push { cls:=.type "list",data:=.seq ([]:List Value).toArray }).get? s.heap.objs.size=some { cls:=.type "list",data:=.seq #[] }:=get?_push_size _ rfl
 show wpAny _ A.in1 (Builtin.List.listExtendWith (.ref s.heap.objs.size) (.ref a) (.ref s.heap.objs.size)) _ _ _
 have key:=zs2 (A:=A) (s:={ s with heap:=s.heap.push { cls:=.type "list",data:=.seq ([]:List Value).toArray } })
  (R:=λ(q:Result)(s':Shared)=>∃(h':Heap)(tk:Nat)(d:Drawn)(acc':Array Value)(c':Nat)(ms:List Int),q = .ok (.ret (.ref s.heap.objs.size))/\s'={ s with heap:=h',toks:=tk,drawn:=d } /\
   (∀b o,s.heap.get? b=some o->h'.get? b=some o)/\h'.get? s.heap.objs.size=some { cls:=.type "list",dict:=none,data:=.seq acc' c',slots:=#[] }/\IntsAre acc'.toList ms/\ms.Perm ns)
  hh (hS.at λo e=>get?_push_of_some _ e) (ne_of_gt hlt) (.ref s.heap.objs.size) 0 hS₁
  (λh' tk d acc' c' ms hk hS' hacc hp=>⟨h',tk,d,acc',c',ms,rfl,rfl,λb o e=>hk b o (ne_of_lt (lt_size e)) (get?_push_of_some _ e),hS',hacc,hp⟩)
 refine wpAny_mono key (λfin s' x=>?_) λe s' x=>?_
 ·cases fin with
  | done f =>
   obtain ⟨h',tk,d,acc',c',ms,e,rfl,hk,hS',hacc,hp⟩:=x
   cases e
   show wpAny _ A (load s.heap.objs.size>>=_) _ _ _
   refine wpAny_bind (wpAny_load hS' ?_)
   exact wpAny_pure (h h' tk d _ ms hk hacc hp)
  | again c₁ =>
   refine ⟨x.1,codeAny_mono x.2 λq s₂ y=>?_⟩
   obtain ⟨h',tk,d,acc',c',ms,rfl,rfl,hk,hS',hacc,hp⟩:=y
   show wpAny _ A (load s.heap.objs.size>>=_) _ _ _
   refine wpAny_bind (wpAny_load hS' ?_)
   exact wpAny_pure (h h' tk d _ ms hk hacc hp)
 ·obtain ⟨_,_,_,_,_,_,e',_⟩:=x
  cases e'
end
end L2
namespace L2
open PySem PySem.Spec PyProof.Rows PySem.W PySem.Calls
def zoP(P:Program)(w:World):List V->Hp->VK->Prop:=λxs H Q=>uR1 xs λa=>∃ms:List Int,H a=some (zaX P w a ms)/\ms.length<64/\∀p (ns:List Int) H2,New H p (.lst (ns.map V.int)) H2->ns.Perm ms->ns.Pairwise (·<=·)->Q (.ref p) H2
theorem zk3{P:Program}{w:World}{a:Addr}{H:Hp}{Q:VK}:zoP P w [.ref a] H Q = ∃ms:List Int,H a=some (zaX P w a ms)/\ms.length<64/\∀p (ns:List Int) H2,New H p (.lst (ns.map V.int)) H2->ns.Perm ms->ns.Pairwise (·<=·)->Q (.ref p) H2:=zaT
theorem zhA{vs:List Value}{ns:List Int}(h:IntsAre vs ns):vs.length=ns.length:=by
 induction h with
 | nil=>rfl
 | cons _ _ _ ih=>simp [ih]
theorem Inv.drew{X:Cx}{Ga:List (Addr×Obj)}{σ:St}{H:Hp}{s:Shared}{d:Drawn}(I:Inv X Ga σ H s):Inv X Ga σ H { s with drawn:=d }:=⟨I.ok,I.os,I.bare,I.base,I.loc,I.cell,I.free,I.freeC,I.pin,I.hok,I.len,I.hdk⟩
section
variable {X:Cx}
end
theorem znU{c c1 c2:Bool}{X:Cx}{elt t0 i0 t1 i1 t2 i2:Expr}{sc:Scope}{pos:Pos}{N':List Str}{ix:List (Option Nat)}{wi w1 w2:TI}{g g1 g2:TG}{te:TE}(hc:c=true->X.calm=true)(hc1:c1=true->X.calm=true)(hc2:c2=true->X.calm=true)(L:za1 X sc N' ix)(hi:W (PIc c X t0 i0 wi))
  (hg:∀Ga C fp s H,W (PG (zI X sc N' Ga C fp s H) t0 g)) (hi1:∀Ga C fp s H,W (PIc c1 (zI X sc N' Ga C fp s H) t1 i1 w1)) (hg1:∀Ga C fp s H,W (PG (zI X sc N' Ga C fp s H) t1 g1))
  (hi2:∀Ga C fp s H,W (PIc c2 (zI X sc N' Ga C fp s H) t2 i2 w2)) (hg2:∀Ga C fp s H,W (PG (zI X sc N' Ga C fp s H) t2 g2)) (he:∀Ga C fp s H,W (PE (zI X sc N' Ga C fp s H) elt te))
  (hs:∀x,foldedSetIterable i0 X.env x=pure x:=by intro _;rfl) (hs1:∀env x,foldedSetIterable i1 env x=pure x:=by intro _ _;rfl) (hs2:∀env x,foldedSetIterable i2 env x=pure x:=by intro _ _;rfl) :
  W (PE X (.SetComp elt [⟨t0,i0,[],0⟩,⟨t1,i1,[],0⟩,⟨t2,i2,[],0⟩] sc pos) (tSC X.prog X.w ix wi g (zee (zbX w1 g1 (zbX w2 g2 (zcj te)))))) :=
 ⟨zko hc hc1 hc2 L hi.h (λa b c d e=>(hg a b c d e).h) (λa b c d e=>(hi1 a b c d e).h) (λa b c d e=>(hg1 a b c d e).h) (λa b c d e=>(hi2 a b c d e).h) (λa b c d e=>(hg2 a b c d e).h) (λa b c d e=>(he a b c d e).h) hs hs1 hs2⟩
theorem zlo(a:Value):checkTypeCall "set" ⟨[a],[]⟩=pure ():=by kernel_rfl
theorem zrZ(a:Value):checkBuiltinCall "set.__new__" ⟨[.type "set",a],[]⟩=pure ():=by kernel_rfl
theorem zfw:plainId "set.update.loop"=true:=by decide +kernel
theorem zhc:entryFor table "set.update.loop"=some Builtin.«set.update.loop»:=entryFor_of_fast (by kernel_rfl)
theorem znP:isSubtype (.type "list") (.type "set")=pure false:=by rw [isSubtype_type];kernel_rfl
theorem zkL:isSubtype (.type "list") (.type "frozenset")=pure false:=by rw [isSubtype_type];kernel_rfl
section
variable {prog:Program}{w:World}{A:Around}{E:Value->Shared->Prop}{s:Shared}
def zar(led:Bool):Obj:={ cls:=.type "set",dict:=none,data:=.set #[] 0 (.fresh 0 0 led) }
theorem zjM(a:Value){Q₁:Value->Shared->Prop}(h:∀led,zu prog w (s.heap.push (zar led)) s.heap.objs.size []->Q₁ (.ref s.heap.objs.size) { s with heap:=s.heap.push (zar led) }) :
  codeAny (model prog w) A (.call (.builtin "set.__new__") ⟨[.type "set",a],[]⟩) (wants Q₁ E) s:=by
 refine codeAny_of_tree ?_
 show wpAny _ A.in1 (do checkBuiltinCall "set.__new__" ⟨[.type "set",a],[]⟩;again (.builtin "set.__new__" ⟨[.type "set",a],[]⟩)) _ _ s
 refine wpAny_bind (wpAny_of_eq (zrZ a) (wpAny_pure ⟨plainId_quiet PySem.F.plain_set_new _,codeAny_builtin PySem.F.entry_set_new ?_⟩))
 rw [Around.under_plainId PySem.F.plain_set_new _]
 unfold Builtin.«set.__new__» Builtin.Frozenset.newClass
 have hsub:=sub_set_self
 wp_walk
 refine wpAny_askSetting (wpAny_pure ?_)
 dsimp only
 simp only [newObj]
 refine wpAny_bind (wpAny_alloc (wpAny_pure ?_))
 exact wpAny_pure (h _ ⟨⟨_,#[],0,_,get?_push_size _ rfl,⟨rfl,rfl,rfl⟩,rfl,λe he=>by simp at he,by rfl,⟨rfl,rfl,λi j _ hj=>by simp [SetTable.fresh] at hj⟩,List.Perm.refl _⟩,by decide⟩)
theorem zks{a:Addr}{n:Nat}{Q:String->Shared->Prop}(hT:s.TypeIs (.ref a) "set")(h:Q "set" s):wpAny (model prog w) A (typeNameOfCut n (.ref a)) Q E s:=by
 unfold typeNameOfCut shownTypeOf
 refine wpAny_bind (wpAny_bind (wpAny_typeOf hT ?_))
 simp only [show (type "set" == type "builtin_function_or_method")=false by decide,false_eq_true,if_false]
 refine wpAny_pure ?_
 have e:typeName (.type "set")=pure "set":=by unfold typeName;rw [find?_eq_fast];kernel_rfl
 rw [show typeNameCut n (.type "set")=typeName (.type "set") from rfl,e]
 exact wpAny_pure h
theorem zq4{M:Model}{self a:Value}{Q:Unit->Shared->Prop}(hT:s.TypeIs self "set")(hQ:Q () s) :
  wpAny M A (checkBuiltinCall "set.__init__" ⟨[self,a],[]⟩) Q E s:=by
 simp only [checkBuiltinCall,kind_set_init,split_set_init,sig_set_init]
 refine wpAny_bind (wpAny_isInstance hT sub_set_self ?_)
 simp only [Bool.not_true,false_eq_true,if_false]
 unfold Bind.checkArgs
 dsimp only
 refine wpAny_bind (m:=Bind.printed "set" true _ _) (PyProof.Rows.printed_name (by decide) ?_)
 refine wpAny_bind (m:=Bind.printed "*" false _ _) (PyProof.Rows.printed_star (self:=self) rfl hT λshort=>?_)
 have hrn:(Manifest.Receiver.self==Manifest.Receiver.none)=false:=by decide
 have hn:(if (Manifest.Receiver.self==Manifest.Receiver.none)=true then [self,a].length else [self,a].length-1)=1:=by simp [hrn]
 rw [hn]
 simp only [map_nil]
 have hc:Bind.check ⟨.positional,"set","*",.self,[⟨"iterable",.posOnly,false⟩]⟩ "set" short 1 []=pure ():=by
  simp [Bind.check,Bind.checkCount,Bind.isPositional,show (Manifest.ParamKind.posOnly==Manifest.ParamKind.posOnly)=true from rfl]
 rw [hc]
 exact wpAny_pure hQ
def uniq(ns:List Int):List Int:=ns.foldl zt []
theorem zp2{ms:List Int}{n:Int}:(zt ms n).length<=ms.length+1:=by
 unfold zt
 split
 ·exact le_succ _
 ·simp
theorem zix:∀{ns ms:List Int},(ns.foldl zt ms).length<=ms.length+ns.length
 | [],ms=>Nat.le_refl _
 | n::ns,ms=>by
  have h1:=zix (ns:=ns) (ms:=zt ms n)
  have h2:=zp2 (ms:=ms) (n:=n)
  show (ns.foldl zt (zt ms n)).length<=_
  simp only [length_cons]
  omega
theorem zdr{ns:List Int}{i:Nat}(h:i<ns.length):(ns.take (i+1)).foldl zt []=zt ((ns.take i).foldl zt []) ns[i]:=by
 rw [take_add_one,List.getElem?_eq_getElem h,foldl_append]
 rfl
theorem zlK{vs:List Value}{ns:List Int}(h:IntsAre vs ns):∀{i:Nat}{v:Value},vs[i]?=some v->∃(hi:i<ns.length)(t:Tok),v = .int ns[i] t:=by
 induction h with
 | nil=>intro i v e;simp at e
 | cons n t _ ih =>
  intro i v e
  cases i with
  | zero=>simp at e;exact ⟨by simp,t,e.symm⟩
  | succ i =>
   obtain ⟨hi,t',e'⟩:=ih (i:=i) (v:=v) (by simpa using e)
   exact ⟨by simpa using hi,t',by simpa using e'⟩
theorem zmR{R:Result->Shared->Prop}{D I:Addr}{L:List Value}{ns:List Int}{fp:List Addr}{St:Nat->Heap->Prop}(hL:IntsAre L ns)(hn:ns.length<3000)(W:Walks prog w A.in1 I fp [I] L.length (λi v=>L[i]?=some v) St)(hDf:D∉fp)(hDI:D≠I) :
  ∀(k i:Nat)(s:Shared),L.length-i=k->i<=L.length->zu prog w s.heap D ((ns.take i).foldl zt [])->St i s.heap ->
  (∀h' tk,(∀b o,b≠D->b≠I->s.heap.get? b=some o->h'.get? b=some o)->zu prog w h' D (uniq ns)->R (.ok (.ret .none)) { s with heap:=h',toks:=tk }) ->
  codeAny (model prog w) A (.builtin "set.update.loop" ⟨[.ref D,.ref I],[]⟩) R s:=by
 have hlen:=zhA hL
 intro k
 induction k with
 | zero =>
  intro i s hk hi hS st hR
  have e:i=L.length:=by omega
  subst e
  refine codeAny_builtin zhc ?_
  rw [Around.under_plainId zfw _]
  show wpAny _ A.in1 (pyNext (.ref I)>>=_) _ _ s
  refine wpAny_bind (W.done s _ _ st λh1 tk1 hk1=>?_)
  refine wpAny_pure (hR h1 tk1 (λb o n1 n2 e=>hk1 b o (by simp [n2]) e) ?_)
  have:=hS.at (h':=h1) λo e=>hk1 D o (by simp [hDI]) e
  rw [hlen,take_of_length_le (Nat.le_refl _)] at this
  exact this
 | succ k ih =>
  intro i s hk hi hS st hR
  have hlt:i<L.length:=by omega
  refine codeAny_builtin zhc ?_
  rw [Around.under_plainId zfw _]
  show wpAny _ A.in1 (pyNext (.ref I)>>=_) _ _ s
  refine wpAny_bind (W.item i s _ _ hlt st λv h1 tk1 hv st1 hk1=>?_)
  obtain ⟨hi',t,rfl⟩:=zlK hL hv
  have hS1:zu prog w h1 D ((ns.take i).foldl zt []):=hS.at λo e=>hk1 D o (by simp [hDI]) e
  have few:((ns.take i).foldl zt []).length<3000:=by
   have:=zix (ns:=ns.take i) (ms:=[])
   rw [length_take] at this
   simp only [length_nil] at this
   omega
  show wpAny _ A.in1 (holding [.int ns[i] t] (setAdd D (.int ns[i] t))>>=_) _ _ _
  refine wpAny_bind (wpAny_holding (ziT (s:={ s with heap:=h1,toks:=tk1 }) hS1 few λh2 b sb hS2=>?_))
  refine wpAny_pure ⟨plainId_quiet zfw _,ih (i+1) _ (by omega) hlt (by rw [zdr hi'];exact hS2) (W.frame _ _ _ st1 λb hb o e=>sb.extBut b o (λz=>hDf (z ▸ hb)) e) λh' tk hk' hS'=>?_⟩
  exact hR h' tk (λb o n1 n2 e=>hk' b o n1 n2 (sb.extBut b o n1 (hk1 b o (by simp [n2]) e))) hS'
theorem zlP{l:Addr}{c:Nat}{L:List Value}{ns:List Int}{Q:Value->Shared->Prop}(hh:A.handled=none)(ho:s.heap.get? l=some { cls:=.type "list",data:=.seq L.toArray c })(hL:IntsAre L ns)(hn:ns.length<3000)
  (h:∀h' tk,(∀b o,s.heap.get? b=some o->h'.get? b=some o)->zu prog w h' s.heap.objs.size (uniq ns)->Q (.ref s.heap.objs.size) { s with heap:=h',toks:=tk }) :
  wpAny (model prog w) A (call (.type "set") [.ref l]) Q E s:=by
 obtain ⟨cm,tl,hmro⟩:=called_set.mro
 have hmade:=called_set.made
 have hsub:=called_set.sub
 refine wpAny_call (codeAny_of_tree ?_)
 show wpAny _ _ (callAny (.type "set") _) _ _ _
 refine wpAny_pure ⟨Code.quiet_builtin _ (f!""),codeAny_builtin PySem.F.entry_type_call ?_⟩
 rw [Around.under_plain (weight_type_call_type "set" [.ref l] []) rfl]
 have h1:=called_set.notType
 have h2:=called_set.canCreate
 have hct:=zlo (.ref l)
 repeat (any_goals (first|assumption|wp_step))
 refine codeAny_mono (zjM (E:=E) (.ref l) (Q₁:=λobj s₁=>∃led,obj = .ref s.heap.objs.size/\s₁={ s with heap:=s.heap.push (zar led) }/\zu prog w (s.heap.push (zar led)) s.heap.objs.size []) λled hS=>⟨led,rfl,rfl,hS⟩) λr s₁ hr=>?_
 cases r with
 | error e=>exact hr
 | ok fl =>
  cases fl with
  | ret obj =>
   obtain ⟨led,rfl,rfl,hS⟩:=hr
   have hT:Shared.TypeIs { s with heap:=s.heap.push (zar led) } (.ref s.heap.objs.size) "set":=zu.typ (s:={ s with heap:=s.heap.push (zar led) }) hS
   have hli:=called_set.init.lookup
   have hbi:=called_set.init.bind (.ref s.heap.objs.size)
   repeat (any_goals (first|assumption|wp_step))
   refine codeAny_mono (codeAny_call_builtin (R:=wants (λr s₂=>r = .none/\Q (.ref s.heap.objs.size) s₂) E) called_set.init.plain PySem.F.entry_set_init (zq4 hT ?_)) λr₂ s₂ hr₂=>?_
   ·have hN:(s.heap.push (zar led)).get? s.heap.objs.size=some (zar led):=get?_push_size _ rfl
    unfold Builtin.«set.__init__» noKeywords
    dsimp only
    refine wpAny_bind (wpAny_pure ?_)
    refine wpAny_bind (zks hT ?_)
    refine wpAny_bind (m:=checkCount _ _ _ _) (wpAny_pure ?_)
    unfold Builtin.Frozenset.addrOf
    refine wpAny_bind (wpAny_pure ?_)
    unfold setUsed
    refine wpAny_bind (wpAny_bind (wpAny_setState_of (es:=#[]) (ep:=0) (t:=.fresh 0 0 led) hN rfl rfl (wpAny_pure ?_)))
    rw [if_neg (show ¬ (((SetTable.fresh 0 0 led).fill != 0)=true) from by simp [SetTable.fresh,SetTable.fill])]
    show wpAny _ _ (Builtin.Frozenset.updateFrom "set.__init__" s.heap.objs.size (.ref l)>>=λ_=>ret .none) _ _ _
    unfold Builtin.Frozenset.updateFrom Builtin.Frozenset.isAnySet
    have hl1:(s.heap.push (zar led)).get? l=some { cls:=.type "list",data:=.seq L.toArray c }:=get?_push_of_some _ ho
    have hTl:Shared.TypeIs { s with heap:=s.heap.push (zar led) } (.ref l) "list":=⟨_,hl1,rfl⟩
    have hlt:=lt_size ho
    refine wpAny_bind (wpAny_bind ?_)
    show wpAny _ _ (isInstance (.ref l) (.type "set")>>=λb=>_) _ _ _
    refine wpAny_bind (wpAny_isInstance (T:="list") (b:=false) hTl znP ?_)
    show wpAny _ _ (isInstance (.ref l) (.type "frozenset")) _ _ _
    refine wpAny_isInstance (T:="list") (b:=false) hTl zkL ?_
    rw [if_neg Bool.false_ne_true]
    refine wpAny_bind (wpAny_typeOf hTl ?_)
    rw [if_neg (by decide)]
    have hli1:Heap.IsList (s.heap.push (zar led)) l L.toArray:=⟨_,hl1,rfl,c,rfl⟩
    refine wpAny_bind (wpAny_pyIter_list hli1 ?_)
    have hI:(s.heap.push (zar led)).objs.size=s.heap.objs.size+1:=size_push _ _
    have hlI:l≠(s.heap.push (zar led)).objs.size:=by rw [hI];exact ne_of_lt (lt_succ_of_lt hlt)
    have W:=Walks.list (prog:=prog) (w:=w) (A:=A.in1.in1.in1) hh (s.heap.push (zar led)).objs.size l hlI L.toArray
    have hDI:s.heap.objs.size≠(s.heap.push (zar led)).objs.size:=by rw [hI];exact ne_of_lt (lt_succ_self _)
    have e1:L.toArray.size=L.length:=size_toArray
    have W':Walks prog w A.in1.in1.in1 (s.heap.push (zar led)).objs.size [(s.heap.push (zar led)).objs.size,l] [(s.heap.push (zar led)).objs.size] L.length (λi v=>L[i]?=some v) (λi h=>h.IsListIter (s.heap.push (zar led)).objs.size l i/\h.IsList l L.toArray):=by
     rw [e1] at W
     simpa using W
    refine wpAny_bind (wpAny_runValue (zmR (A:=A.in1.in1) (D:=s.heap.objs.size) hL hn W' (by simp only [mem_cons,not_mem_nil,or_false,not_or];exact ⟨hDI,ne_of_gt hlt⟩) hDI L.length 0 _ rfl (zero_le _) (hS.at λo e=>get?_push_of_some _ e) ⟨⟨_,get?_push_size _ rfl,rfl,rfl⟩,⟨_,get?_push_of_some _ hl1,rfl,c,rfl⟩⟩ λh' tk hk' hS'=>?_))
    refine wpAny_pure (wpAny_pure ?_)
    refine ⟨rfl,h h' tk (λb o e=>?_) hS'⟩
    have hb:=lt_size e
    exact hk' b o (ne_of_lt hb) (by rw [hI];exact ne_of_lt (lt_succ_of_lt hb)) (get?_push_of_some _ (get?_push_of_some _ e))
   ·cases r₂ with
    | error e=>exact hr₂
    | ok fl₂ =>
     cases fl₂ with
     | ret r =>
      obtain ⟨rfl,hq⟩:=hr₂
      repeat (any_goals (first|assumption|wp_step))
     | _=>exact hr₂.elim
  | _=>exact hr.elim
end
theorem zgG:∀{ns:List Int}{its:List Value},zi (ns.map V.int) its->IntsAre its ns
 | [],_,h=>by cases h;exact .nil
 | n::ns,_,h=>by
  cases h with
  | cons r rr =>
   obtain ⟨t,rfl⟩:=r
   exact .cons n t (zgG rr)
theorem znv{ms:List Int}{n k:Int}:k∈zt ms n↔k∈ms\/k=n:=by
 unfold zt
 split
 ·rename_i h
  constructor
  ·exact .inl
  ·rintro (h'|rfl)
   ·exact h'
   ·exact h
 ·simp
theorem zqd{ms:List Int}{n:Int}(h:ms.Nodup):(zt ms n).Nodup:=by
 unfold zt
 split
 ·exact h
 ·rename_i hn
  rw [List.nodup_append]
  refine ⟨h,by simp,λa ha b hb=>?_⟩
  have e:b=n:=by simpa using hb
  subst e
  exact λz=>hn (z ▸ ha)
theorem zhd{k:Int}:∀{ns ms:List Int},k∈ns.foldl zt ms↔k∈ms\/k∈ns
 | [],ms=>by simp
 | n::ns,ms=>by
  show k∈ns.foldl zt (zt ms n)↔_
  rw [zhd,znv,mem_cons,or_assoc]
theorem zia:∀{ns ms:List Int},ms.Nodup->(ns.foldl zt ms).Nodup
 | [],ms,h=>h
 | n::ns,ms,h=>zia (ns:=ns) (zqd h)
theorem zdx{k:Int}{ns:List Int}:k∈uniq ns↔k∈ns:=by
 unfold uniq
 rw [zhd]
 simp
theorem zdi{ns:List Int}:(uniq ns).Nodup:=zia List.nodup_nil
theorem zrI{xs ys:List Int}(hx:xs.Pairwise (·<=·))(hy:ys.Pairwise (·<=·))(nx:xs.Nodup)(ny:ys.Nodup)(h:∀k,k∈xs↔k∈ys):xs=ys:=by
 have p:xs.Perm ys:=(List.perm_ext_iff_of_nodup nx ny).mpr h
 exact p.eq_of_pairwise (λa b _ _ h1 h2=>Int.le_antisymm h1 h2) hx hy
def zig(P:Program)(w:World):List V->Hp->VK->Prop:=λxs H Q=>uR1 xs λa=>∃ns:List Int,Rd H a (.lst (ns.map V.int))/\ns.length<3000/\∀p H2,New H p (zaX P w p (uniq ns)) H2->Q (.ref p) H2
theorem zov{P:Program}{w:World}{a:Addr}{H:Hp}{Q:VK}:zig P w [.ref a] H Q = ∃ns:List Int,Rd H a (.lst (ns.map V.int))/\ns.length<3000/\∀p H2,New H p (zaX P w p (uniq ns)) H2->Q (.ref p) H2:=zaT
section
variable {X:Cx}
theorem zg2(hc:X.calm=true):zR X (.type "set") (zig X.prog X.w):=by
 intro Ga s σ H xs us Q I r h
 obtain ⟨a,rfl,ns,hq,hn,q⟩:=h
 obtain ⟨u,rfl,ru⟩:=zb1 r
 cases ru
 obtain ⟨z,its,n,rv,e⟩:=hq.ok I.hok
 refine zlP (I.ok.hd hc) e (zgG rv) hn λh' tk hk hS=>?_
 exact ⟨.ref s.heap.objs.size,upd H s.heap.objs.size (zaX X.prog X.w s.heap.objs.size (uniq ns)),I.laid (a:=s.heap.objs.size) (t':=tk) hk (Nat.le_refl _) (zi2 hS),rfl,q _ _ (.mk' (I.hok.fresh (Nat.le_refl _)))⟩
end
end L2
namespace L2
open PySem PySem.Spec PyProof.Rows
def uN(v:V)(k:Int->Prop):Prop:=match v with | .int n=>k n|_=>False
theorem zmD{n:Int}{k:Int->Prop}:uN (.int n) k=k n:=rfl
def zaS(J:It)(g:TG)(tb:TB)(σ:St)(ns:List Int)(H:Hp)(Q:St->List Int->Hp->Prop):Prop:=∃W:Nat->Nat->St->List Int->Hp->Prop,(∃m,W 0 m σ ns H)/\zez W J g tb Q
section
variable {P:Program}{w:World}{K:PySem.W.Frag}{ix:List (Option Nat)}{wi:TI}{g:TG}{tb:TB}{te:TE}{σ:St}{ns:List Int}{H:Hp}{Q:St->List Int->Hp->Prop}{R:VK}
theorem zlh:tSC P w ix wi g tb σ H R=wi σ H λJ H1=>zaS J g tb (zaM ix σ) [] H1 λ_ ns H2=>∀D,H2 D=none->D≠sysModules->R (.ref D) (upd H2 D (zaX P w D ns)):=rfl
theorem zqR:zbX wi g tb σ ns H Q=wi σ H λJ H1=>zaS J g tb σ ns H1 Q:=rfl
theorem zls:zee tb σ ns H Q=(tb σ ns H Q\/∃a kvs,H a=some (.dK kvs)/\∀o,tb σ ns (upd H a (.frz o (.dK kvs))) λσ' ns' H'=>zby a kvs H' (Q σ' ns')):=rfl
theorem zsQ:zcj te σ ns H Q=te σ H λv H1=>uN v λn=>ns.length<3000/\Q σ (zt ns n) H1:=by
 unfold zcj
 congr 1
 funext v H1
 apply propext;constructor
 ·rintro ⟨n,rfl,h⟩;exact h
 ·intro h
  cases v with
  | int n=>exact ⟨n,rfl,h⟩
  | _=>exact h.elim
theorem zaS.lst{a:Addr}{xs:List V}(Pv:Nat->St->List Int->Hp->Prop)(ha:∀i τ ns H,Pv i τ ns H->SqL K H a xs)(h0:Pv 0 σ ns H)
  (hs:∀(N:St->List Int->Hp->Prop) i x τ ns H,xs[i]?=some x->Pv i τ ns H->(∀τ ns H,Pv (i+1) τ ns H->N τ ns H)->g x τ H λτ1 H4=>tb τ1 ns H4 N) (hd:∀τ ns H,Pv xs.length τ ns H->Q τ ns H):zaS (Itl K a) g tb σ ns H Q:=by
 refine ⟨λi m τ ns H=>m=xs.length-i/\i<=xs.length/\Pv i τ ns H,⟨xs.length,by simp,zero_le _,h0⟩,?_⟩
 rintro i m τ ys H2 ⟨rfl,hi,p⟩
 have q:=ha i τ ys H2 p
 by_cases hlt:i<xs.length
 ·refine .inr ⟨⟨xs,xs[i],q,by simp [hlt]⟩,λx H' y=>?_⟩
  obtain ⟨e,y⟩:=y
  subst e
  exact hs (λτ1 ys H=>∃m',m'<xs.length-i/\m'=xs.length-(i+1)/\i+1<=xs.length/\Pv (i+1) τ1 ys H) i x τ ys _ (y xs q) p λτ1 zs H q=>⟨xs.length-(i+1),by omega,rfl,hlt,q⟩
 ·have e:i=xs.length:=by omega
  subst e
  exact .inl ⟨⟨xs,q,Nat.le_refl _⟩,hd τ ys H2 p⟩
theorem zaS.tup{a:Addr}{xs:List V}(Pv:Nat->St->List Int->Hp->Prop)(ha:∀i τ ns H,Pv i τ ns H->SqT K H a xs)(h0:Pv 0 σ ns H)
  (hs:∀(N:St->List Int->Hp->Prop) i x τ ns H,xs[i]?=some x->Pv i τ ns H->(∀τ ns H,Pv (i+1) τ ns H->N τ ns H)->g x τ H λτ1 H4=>tb τ1 ns H4 N) (hd:∀τ ns H,Pv xs.length τ ns H->Q τ ns H):zaS (Itt K a) g tb σ ns H Q:=by
 refine ⟨λi m τ ns H=>m=xs.length-i/\i<=xs.length/\Pv i τ ns H,⟨xs.length,by simp,zero_le _,h0⟩,?_⟩
 rintro i m τ ys H2 ⟨rfl,hi,p⟩
 have q:=ha i τ ys H2 p
 by_cases hlt:i<xs.length
 ·refine .inr ⟨⟨xs,xs[i],q,by simp [hlt]⟩,λx H' y=>?_⟩
  obtain ⟨e,y⟩:=y
  subst e
  exact hs (λτ1 ys H=>∃m',m'<xs.length-i/\m'=xs.length-(i+1)/\i+1<=xs.length/\Pv (i+1) τ1 ys H) i x τ ys _ (y xs q) p λτ1 zs H q=>⟨xs.length-(i+1),by omega,rfl,hlt,q⟩
 ·have e:i=xs.length:=by omega
  subst e
  exact .inl ⟨⟨xs,q,Nat.le_refl _⟩,hd τ ys H2 p⟩
theorem zaS.vals{a:Addr}{o:Obj}{kvs:List (Key×V)}(Pv:Nat->St->List Int->Hp->Prop)(ha:∀i τ ns H,Pv i τ ns H->H a=some (.frz o (.dK kvs)))(h0:Pv 0 σ ns H)
  (hs:∀(N:St->List Int->Hp->Prop) i p τ ns H,kvs[i]?=some p->Pv i τ ns H->(∀τ ns H,Pv (i+1) τ ns H->N τ ns H)->g p.2 τ H λτ1 H4=>tb τ1 ns H4 N) (hd:∀τ ns H,Pv kvs.length τ ns H->Q τ ns H):zaS (Itw a o kvs) g tb σ ns H Q:=by
 refine ⟨λi m τ ns H=>m=kvs.length-i/\i<=kvs.length/\Pv i τ ns H,⟨kvs.length,by simp,zero_le _,h0⟩,?_⟩
 rintro i m τ ys H2 ⟨rfl,hi,p⟩
 have q:=ha i τ ys H2 p
 by_cases hlt:i<kvs.length
 ·refine .inr ⟨⟨q,hlt⟩,λx H' y=>?_⟩
  obtain ⟨e,z,hz,ex⟩:=y
  subst e ex
  exact hs (λτ1 ys H=>∃m',m'<kvs.length-i/\m'=kvs.length-(i+1)/\i+1<=kvs.length/\Pv (i+1) τ1 ys H) i z τ ys _ hz p λτ1 zs H q=>⟨kvs.length-(i+1),by omega,rfl,hlt,q⟩
 ·have e:i=kvs.length:=by omega
  subst e
  exact .inl ⟨⟨q,Nat.le_refl _⟩,hd τ ys H2 p⟩
theorem zax.vals{a:Addr}{o:Obj}{kvs:List (Key×V)}{τ:St}{tt:TT}(Pv:Nat->St->List V->Hp->Prop)(hz:∀i τ ys H,Pv i τ ys H->ys.length<sizeLine)(ha:∀i τ ys H,Pv i τ ys H->H a=some (.frz o (.dK kvs)))(h0:Pv 0 τ [] H)
  (hs:∀(N:St->List V->Hp->Prop) i p τ ys H,kvs[i]?=some p->Pv i τ ys H->(∀τ ys H,Pv (i+1) τ ys H->N τ ys H)->g p.2 τ H λτ1 H4=>tt τ1 H4 λok H5=>zbC N ys τ1 te ok H5) (hd:∀τ ys H,Pv kvs.length τ ys H->∀D H',New H D (.lst ys) H'->R (.ref D) H'):zax (Itw a o kvs) g tt te τ H R:=by
 refine ⟨λi m τ ys H=>m=kvs.length-i/\i<=kvs.length/\Pv i τ ys H,⟨kvs.length,by simp,zero_le _,h0⟩,?_⟩
 rintro i m τ ys H2 ⟨rfl,hi,p⟩
 refine ⟨hz i τ ys H2 p,?_⟩
 have q:=ha i τ ys H2 p
 by_cases hlt:i<kvs.length
 ·refine .inr ⟨⟨q,hlt⟩,λx H' y=>?_⟩
  obtain ⟨e,z,hz,ex⟩:=y
  subst e ex
  exact hs (λτ1 ys H=>∃m',m'<kvs.length-i/\m'=kvs.length-(i+1)/\i+1<=kvs.length/\Pv (i+1) τ1 ys H) i z τ ys _ hz p λτ1 zs H q=>⟨kvs.length-(i+1),by omega,rfl,hlt,q⟩
 ·have e:i=kvs.length:=by omega
  subst e
  exact .inl ⟨⟨q,Nat.le_refl _⟩,λD hD _=>hd τ ys H2 p D _ (.mk' hD)⟩
theorem zkF{X:Cx}{sc:Scope}{N':List Str}{Ga:List (Addr×Obj)}{C:Addr}{fp:List Addr}{s:Shared}{H:Hp}{tg l:Expr}{tl:TE}(hl:W (PE (zI X sc N' Ga C fp s H) l tl)):W (PIc true (zI X sc N' Ga C fp s H) tg l (zdK X.K tl)):=⟨zmp (hl:=hl.h)⟩
end
section
variable {Y:Cx}{sc:Scope}{N':List Str}{Ga:List (Addr×Obj)}{D:Addr}{fp:List Addr}{s:Shared}{H:Hp}
end
section
variable {K:PySem.W.Frag}{g:TG}{tt:TT}{tk tv:TE}{H:Hp}{Q:VK}
theorem zdB.tup{a:Addr}{xs:List V}{τ:St}(Pv:Nat->St->List (Key×V)->Hp->Prop)(hz:∀i τ ys H,Pv i τ ys H->ys.length<sizeLine)(ha:∀i τ ys H,Pv i τ ys H->SqT K H a xs)(h0:Pv 0 τ [] H)
  (hs:∀(N:St->List (Key×V)->Hp->Prop) i x τ ys H,xs[i]?=some x->Pv i τ ys H->(∀τ ys H,Pv (i+1) τ ys H->N τ ys H)->g x τ H λτ1 H4=>tt τ1 H4 λok H5=>zdG N ys τ1 tk tv ok H5) (hd:∀τ ys H,Pv xs.length τ ys H->∀D H',New H D (.dK ys) H'->Q (.ref D) H'):zdB (Itt K a) g tt tk tv τ H Q:=by
 refine ⟨λi m τ ys H=>m=xs.length-i/\i<=xs.length/\Pv i τ ys H,⟨xs.length,by simp,zero_le _,h0⟩,?_⟩
 rintro i m τ ys H2 ⟨rfl,hi,p⟩
 refine ⟨hz i τ ys H2 p,?_⟩
 have q:=ha i τ ys H2 p
 by_cases hlt:i<xs.length
 ·refine .inr ⟨⟨xs,xs[i],q,by simp [hlt]⟩,λx H' y=>?_⟩
  obtain ⟨e,y⟩:=y
  subst e
  exact hs (λτ1 ys H=>∃m',m'<xs.length-i/\m'=xs.length-(i+1)/\i+1<=xs.length/\Pv (i+1) τ1 ys H) i x τ ys _ (y xs q) p λτ1 zs H q=>⟨xs.length-(i+1),by omega,rfl,hlt,q⟩
 ·have e:i=xs.length:=by omega
  subst e
  exact .inl ⟨⟨xs,q,Nat.le_refl _⟩,λD hD _=>hd τ ys H2 p D _ (.mk' hD)⟩
end
section
variable {X:Cx}
def zmq(td ty:TE):TE:=λσ H Q=>td σ H λx H1=>uR x λa=>(∃kvs,Rd H1 a (.dK kvs))/\ty σ H1 λy H2=>uK y λk=>∃kvs,Rd H2 a (.dK kvs)/\Q ((zB kvs k).getD .non) H2
theorem zrD{td ty:TE}{σ:St}{H:Hp}{Q:VK}:zmq td ty σ H Q=td σ H λx H1=>uR x λa=>(∃kvs,Rd H1 a (.dK kvs))/\ty σ H1 λy H2=>uK y λk=>∃kvs,Rd H2 a (.dK kvs)/\Q ((zB kvs k).getD .non) H2:=rfl
def znN:R2:=λx y H Q=>∃a b kvs,x = .ref a/\y = .ref b/\Rd H a (.dK kvs)/\H b=some (.dK [])/\Q (.bl (!decide (kvs=[]))) H
theorem zpO{a b:Addr}{H:Hp}{Q:VK}:znN (.ref a) (.ref b) H Q = ∃kvs,Rd H a (.dK kvs)/\H b=some (.dK [])/\Q (.bl (!decide (kvs=[]))) H:=by
 apply propext;constructor
 ·rintro ⟨a',b',kvs,e1,e2,h⟩;cases e1;cases e2;exact ⟨kvs,h⟩
 ·rintro ⟨kvs,h⟩;exact ⟨a,b,kvs,rfl,rfl,h⟩
def zke:List V->Hp->VK->Prop:=λxs H Q=>∃j:Int,xs=[.int j]/\∀p H2,New H p (.rng 0 j) H2->Q (.ref p) H2
theorem zsN{j:Int}{H:Hp}{Q:VK}:zke [.int j] H Q = ∀p H2,New H p (.rng 0 j) H2->Q (.ref p) H2:=by
 apply propext;constructor
 ·rintro ⟨j',e,h⟩;cases e;exact h
 ·exact λh=>⟨j,rfl,h⟩
def zky:List V->Hp->VK->Prop:=λxs H Q=>uR1 xs λr=>∃n:Nat,H r=some (.rng 0 n)/\n<=1000000/\∀p H2,New H p (.lst ((List.range n).map λ(i:Nat)=>V.int i)) H2->Q (.ref p) H2
theorem zsP{r:Addr}{H:Hp}{Q:VK}:zky [.ref r] H Q = ∃n:Nat,H r=some (.rng 0 n)/\n<=1000000/\∀p H2,New H p (.lst ((List.range n).map λ(i:Nat)=>V.int i)) H2->Q (.ref p) H2:=zaT
def EqR(H:Hp)(x y:V)(b:Bool):Prop:=∃p q zs ws,x = .ref p/\y = .ref q/\H p=some (.tup zs)/\H q=some (.tup ws)/\zs.all zv=true/\ws.all zv=true/\b=eqL zs ws
theorem EqR.at{Ga:List (Addr×Obj)}{σ:St}{H:Hp}{s:Shared}{x y:V}{u v:Value}{b:Bool}{A:Around}(I:Inv X Ga σ H s)(h:EqR H x y b)(rx:ze x u)(ry:ze y v)(hu:A.units<cLine):SeqAt.EqAt A s u v b:=by
 obtain ⟨p,q,xs,ys,rfl,rfl,ha,hb,fx,fy,rfl⟩:=h
 cases rx
 cases ry
 by_cases hpq:p=q
 ·subst hpq
  rw [ha] at hb
  cases hb
  rw [zf7 fx λx hx b e=>by have:=all_eq_true.mp fx x hx;rw [e] at this;cases this]
  exact SeqAt.EqAt.same _
 obtain ⟨is,r1,p1,_⟩:=I.tuple (SqT.of (K:=X.K) ha)
 obtain ⟨js,r2,p2,_⟩:=I.tuple (SqT.of (K:=X.K) hb)
 have l1:=r1.length
 have l2:=r2.length
 have z:=SeqAt.RcAt.tuples (A:=A) (e:=λj=>eqV (xs.getD j .non) (ys.getD j .non)) p1 p2 hu λj h1 h2=>by
  simp only [size_toArray] at h1 h2
  have e1:xs[j]?=some (xs.getD j .non):=by rw [getD_eq_getElem?_getD,List.getElem?_eq_getElem (by omega)];rfl
  have e2:ys[j]?=some (ys.getD j .non):=by rw [getD_eq_getElem?_getD,List.getElem?_eq_getElem (by omega)];rfl
  obtain ⟨u,g1,q1⟩:=r1.get e1
  obtain ⟨v,g2,q2⟩:=r2.get e2
  rw [List.getElem?_eq_getElem h1] at g1
  rw [List.getElem?_eq_getElem h2] at g2
  have w1:is.toArray[j]=u:=by simpa using Option.some.inj g1
  have w2:js.toArray[j]=v:=by simpa using Option.some.inj g2
  rw [w1,w2]
  exact zeL q1 q2 (all_eq_true.mp fx _ (mem_of_getElem? e1)) (all_eq_true.mp fy _ (mem_of_getElem? e2))
 have e:eqL xs ys=((List.range (min is.toArray.size js.toArray.size)).all (λj=>eqV (xs.getD j .non) (ys.getD j .non))&&is.toArray.size==js.toArray.size):=by
  unfold eqL
  simp only [size_toArray]
  rw [l1,l2]
  by_cases hz:is.length=js.length
  ·rw [hz];simp
  ·have z:(is.length==js.length)=false:=by simpa using hz
   rw [z,Bool.false_and,Bool.and_false]
 rw [e]
 exact .of_refs hpq z
def znV(neg:Bool):R2:=λx y H Q=>∃a b xs ys,x = .ref a/\y = .ref b/\H a=some (.lst xs)/\H b=some (.lst ys)/\((xs.length≠ys.length/\Q (.bl neg) H)\/(xs.length=ys.length/\∃e:Nat->Bool,(∀j p q,xs[j]?=some p->ys[j]?=some q->EqR H p q (e j))/\Q (.bl (if neg then !(List.range xs.length).all e else (List.range xs.length).all e)) H))
theorem zre{neg:Bool}{a b:Addr}{H:Hp}{Q:VK}:znV neg (.ref a) (.ref b) H Q = ∃xs ys,H a=some (.lst xs)/\H b=some (.lst ys)/\((xs.length≠ys.length/\Q (.bl neg) H)\/(xs.length=ys.length/\∃e:Nat->Bool,(∀j p q,xs[j]?=some p->ys[j]?=some q->EqR H p q (e j))/\Q (.bl (if neg then !(List.range xs.length).all e else (List.range xs.length).all e)) H)):=by
 apply propext;constructor
 ·rintro ⟨a',b',xs,ys,e1,e2,h⟩;cases e1;cases e2;exact ⟨xs,ys,h⟩
 ·rintro ⟨xs,ys,h⟩;exact ⟨a,b,xs,ys,rfl,rfl,h⟩
end
def isB(b:Bool):Value->Bool | .bool a=>a==b|_=>false
theorem ziM(b:Bool):∀bs:List Bool,(bs.map Value.bool).countP (isB b)=bs.count b
 | []=>rfl
 | c::bs=>by
  rw [map_cons,List.countP_cons,List.count_cons,ziM b bs]
  rfl
section
variable {X:Cx}
def zdZ:V->List V->Hp->VK->Prop:=λx vs H Q=>∃l b,x = .ref l/\vs=[.bl b]/\∃bs:List Bool,H l=some (.lst (bs.map V.bl))/\Q (.int (bs.count b:Nat)) H
def zeu:V->List V->Hp->VK->Prop:=λx vs H Q=>∃l b,x = .ref l/\vs=[.bl b]/\∃bs:List Bool,H l=some (.lst (bs.map V.bl))/\∃j,bs[j]?=some b/\(∀m,m<j->bs[m]?≠some b)/\Q (.int (j:Nat)) H
theorem zqx{l:Addr}{b:Bool}{H:Hp}{Q:VK}:zdZ (.ref l) [.bl b] H Q = ∃bs:List Bool,H l=some (.lst (bs.map V.bl))/\Q (.int (bs.count b:Nat)) H:=by
 apply propext;constructor
 ·rintro ⟨l',b',e1,e2,h⟩;cases e1;cases e2;exact h
 ·exact λh=>⟨l,b,rfl,rfl,h⟩
theorem zpv{l:Addr}{b:Bool}{H:Hp}{Q:VK}:zeu (.ref l) [.bl b] H Q = ∃bs:List Bool,H l=some (.lst (bs.map V.bl))/\∃j,bs[j]?=some b/\(∀m,m<j->bs[m]?≠some b)/\Q (.int (j:Nat)) H:=by
 apply propext;constructor
 ·rintro ⟨l',b',e1,e2,h⟩;cases e1;cases e2;exact h
 ·exact λh=>⟨l,b,rfl,rfl,h⟩
theorem zhi{A:Around}{s:Shared}{bs:List Bool}{b:Bool}(y:Value)(hy:y∈(bs.map Value.bool).toArray):SeqAt.EqAt A s y (.bool b) (isB b y):=by
 rw [List.mem_toArray] at hy
 obtain ⟨a,_,rfl⟩:=mem_map.mp hy
 exact SeqAt.EqAt.bool_bool a b
theorem zmi:MtM X "list.count" zdZ:=by
 intro Ga s σ H x vs v us Q I rx rv h
 obtain ⟨l,b,rfl,rfl,bs,hH,q⟩:=h
 cases rx
 obtain ⟨u,rfl,ru⟩:=rv.one
 obtain rfl:u=Value.bool b:=ru
 obtain ⟨z,its,n,r,hl,e⟩:=I.lstM hH
 obtain rfl:=zh9 r
 refine call_meets F.slot_list_count ⟨_,e,rfl⟩ F.entry_list_count (F.args_list_count_2 _ _) (SeqAt.list_countAt l (bs.map Value.bool).toArray n none #[] (.bool b) (isB b)) ⟨e,λy hy=>zhi y hy,?_⟩
 rw [show (bs.map Value.bool).toArray.toList=bs.map Value.bool from rfl,ziM]
 exact ⟨.int _,H,I.tok _,⟨_,rfl⟩,q⟩
theorem zkD:MtM X "list.index" zeu:=by
 intro Ga s σ H x vs v us Q I rx rv h
 obtain ⟨l,b,rfl,rfl,bs,hH,j,hj,hno,q⟩:=h
 cases rx
 obtain ⟨u,rfl,ru⟩:=rv.one
 obtain rfl:u=Value.bool b:=ru
 obtain ⟨z,its,n,r,hl,e⟩:=I.lstM hH
 obtain rfl:=zh9 r
 obtain ⟨hlt,ej⟩:=List.getElem?_eq_some_iff.mp hj
 rw [length_map,sizeLine_eq] at z
 refine call_meets F.slot_list_index ⟨_,e,rfl⟩ F.entry_list_index (F.args_list_index_2 _ _) (SeqAt.list_indexAt l (bs.map Value.bool).toArray n none #[] (.bool b) (isB b) j (by simpa using hlt) (by omega) ?_ ?_) ⟨e,λy hy=>zhi y hy,⟨.int _,H,I.tok _,⟨_,rfl⟩,q⟩⟩
 ·show isB b ((bs.map Value.bool).toArray[j]'(by simpa using hlt))=true
  simp [isB,ej]
 ·intro m hm hlt'
  have hm':m<bs.length:=by simpa using hm
  have hne:bs[m]≠b:=λz=>hno m hlt' (by rw [List.getElem?_eq_getElem hm',z])
  show isB b ((bs.map Value.bool).toArray[m]'hm)=false
  simp [isB,hne]
def uLm(R:V->List V->Hp->VK->Prop)(to te:TE):TE:=λσ H Q=>to σ H λx H1=>uR x λl=>(∃xs,H1 l=some (.lst xs))/\te σ H1 λy H2=>R (.ref l) [y] H2 Q
theorem zmv{R:V->List V->Hp->VK->Prop}{to te:TE}{σ:St}{H:Hp}{Q:VK}:uLm R to te σ H Q=to σ H λx H1=>uR x λl=>(∃xs,H1 l=some (.lst xs))/\te σ H1 λy H2=>R (.ref l) [y] H2 Q:=rfl
theorem zgL{R:V->List V->Hp->VK->Prop}{nm:Str}{id:String}(slot:Slot "list" nm id)(ty:typeOf (.builtin id)=pure (.type "method_descriptor"))(hm:MtM X id R){o e:Expr}{to te:TE}{apos cpos:Pos}(ho:PE X o to)(he:PE X e te)
  (hbase:attributeBase o nm X.env (eval o X.env)=eval o X.env) (hline:(apos.endLine==cpos.line)=true) (hp:zN e=true):PE X (.Call (.Attribute o nm apos) [e] [] cpos) (uLm R to te):=by
 intro Ga s σ H Q I h
 have hs:starEach [e] X.env=[(false,eval e X.env)]:=zde hp
 refine wpAny_Call_method_late hbase (by rw [hs];rfl) hline rfl (thn (ho Ga s σ H _ I h) λv s1 ⟨x,H1,I1,r1,l,ex,⟨xs,hx⟩,q1⟩=>?_)
 subst ex
 obtain ⟨h1,h2⟩:=zfB (T:="list") I1 r1 (.inl ⟨rfl,xs,SqL.of hx⟩)
 refine ⟨"list",id,PySem.F.plainAttrs_list,slot,ty,h1,h2,?_⟩
 rw [hs]
 refine Calls.callWith_builtin rfl (Calls.evalArgs_plain ?_)
 have hA:=zcZ he zdE (hs:=hs) cpos Ga s1 σ H1 (λys H2=>match ys with|[y]=>R (.ref l) [y] H2 Q|_=>False) I1 q1
 rw [hs] at hA
 refine thn hA λus s2 ⟨vs,H2,I2,r2,q2⟩=>?_
 match vs,q2,r2 with
 | [_],q2,r2=>exact hm Ga s2 σ H2 (.ref l) _ v us Q I2 r1 r2 q2
theorem zlG{o e:Expr}{to te:TE}{apos cpos:Pos}(ho:PE X o to)(he:PE X e te)(hbase:attributeBase o "count" X.env (eval o X.env)=eval o X.env:=by rfl)(hline:(apos.endLine==cpos.line)=true:=by rfl)(hp:zN e=true:=by rfl):PE X (.Call (.Attribute o "count" apos) [e] [] cpos) (uLm zdZ to te):=zgL PySem.F.slot_list_count PySem.F.type_list_count zmi ho he hbase hline hp
theorem zqr{o e:Expr}{to te:TE}{apos cpos:Pos}(ho:PE X o to)(he:PE X e te)(hbase:attributeBase o "index" X.env (eval o X.env)=eval o X.env:=by rfl)(hline:(apos.endLine==cpos.line)=true:=by rfl)(hp:zN e=true:=by rfl):PE X (.Call (.Attribute o "index" apos) [e] [] cpos) (uLm zeu to te):=zgL PySem.F.slot_list_index PySem.F.type_list_index zkD ho he hbase hline hp
theorem zkW{o e:Expr}{to te:TE}{apos cpos:Pos}(ho:W (PE X o to))(he:W (PE X e te))(hbase:attributeBase o "count" X.env (eval o X.env)=eval o X.env:=by rfl)(hline:(apos.endLine==cpos.line)=true:=by rfl)(hp:zN e=true:=by rfl):W (PE X (.Call (.Attribute o "count" apos) [e] [] cpos) (uLm zdZ to te)):=⟨zlG ho.h he.h hbase hline hp⟩
theorem zjN{o e:Expr}{to te:TE}{apos cpos:Pos}(ho:W (PE X o to))(he:W (PE X e te))(hbase:attributeBase o "index" X.env (eval o X.env)=eval o X.env:=by rfl)(hline:(apos.endLine==cpos.line)=true:=by rfl)(hp:zN e=true:=by rfl):W (PE X (.Call (.Attribute o "index" apos) [e] [] cpos) (uLm zeu to te)):=⟨zqr ho.h he.h hbase hline hp⟩
theorem zlx{i j:Nat}{ta:TA}{D:zY}{σ:St}{H:Hp}:zkj i j ta D σ H=ta σ H λvs H1=>∃v w,vs=[v,w]/\D.nx ((σ.set i (some v)).set j (some w)) H1:=rfl
end
end L2
namespace Ts
open PySem PyProof.Rows
def gal:Bool->Keyed->Array Keyed->Nat->Nat->Nat->StateT SortSt Sem (Option Nat):=sortPriv% PySem.Builtin.gallop
def mLo:Array Keyed->Array Keyed->StateT SortSt Sem (Array Keyed):=sortPriv% PySem.Builtin.mergeLo
def mHi:Array Keyed->Array Keyed->StateT SortSt Sem (Array Keyed):=sortPriv% PySem.Builtin.mergeHi
section
variable {prog:Program}{w:World}{A:Around}{E:Value->Shared->Prop}{s:Shared}
def zU(x:Keyed):Prop:=∃n t,x.1 = .int n t
theorem zc6{st:SortSt}{x y:Keyed}{Q:Option Bool->SortSt->Prop}(hk:kindOf st=oneType')(hx:zU x)(hy:zU y)(h:Q (some (decide (numOf x.1<numOf y.1))) st):wpS (model prog w) A E s (lt' x y) Q st:=by
 obtain ⟨a,t,ea⟩:=hx
 obtain ⟨b,u,eb⟩:=hy
 rw [lt'_eq]
 refine wpS_bind (wpS_get ?_)
 rw [hk,keyLt'_oneType,ea,eb]
 rw [ea,eb] at h
 exact wpS_bind (wpS_lift (wpAny_attempt (oneLt_int ⟨rfl,wpS_pure h⟩)))
theorem zK{st:SortSt}{xs:Array Keyed}{i:Nat}{p:Keyed}{Q:Keyed->SortSt->Prop}(e:xs[i]?=some p)(h:Q p st):wpS (model prog w) A E s (elem' xs i) Q st:=by
 rw [elem'_eq,e]
 exact wpS_pure h
def Bey(left:Bool)(k:Int)(x:Int):Bool:=if left then decide (x<k) else decide (x<=k)
theorem zam{xs:Array Keyed}{i:Nat}{p:Keyed}(e:xs[i]?=some p):K xs i=numOf p.1:=by unfold K;rw [e]
theorem znO{st:SortSt}{left:Bool}{key:Keyed}{arr:Array Keyed}{i:Nat}{p:Keyed}{Q:Option Bool->SortSt->Prop}(hk:kindOf st=oneType')(hkey:zU key)(e:arr[i]?=some p)(hp:zU p)(h:Q (some (Bey left (numOf key.1) (K arr i))) st) :
  wpS (model prog w) A E s (do
   let x<-elem' arr i
   if left=true then lt' x key else do
    let r<-lt' key x
    pure (map (λx=>!x) r)) Q st:=by
 refine wpS_bind (zK e ?_)
 rw [zam e] at h
 cases left with
 | true =>
  rw [if_pos rfl]
  exact zc6 hk hp hkey h
 | false =>
  rw [if_neg (by decide)]
  refine wpS_bind (zc6 hk hkey hp (wpS_pure ?_))
  have eb:(!decide (numOf key.1<numOf p.1))=Bey false (numOf key.1) (numOf p.1):=by
   unfold Bey
   rw [if_neg (by decide)]
   by_cases z:numOf p.1<=numOf key.1
   ·rw [decide_eq_true z,decide_eq_false (by omega)];rfl
   ·rw [decide_eq_false z,decide_eq_true (by omega)];rfl
  show Q (some (!decide (numOf key.1<numOf p.1))) st
  rw [eb]
  exact h
theorem zl2{left:Bool}{k x y:Int}(h:x<=y)(hb:Bey left k y=true):Bey left k x=true:=by
 unfold Bey at hb ⊢
 cases left with
 | true=>rw [if_pos rfl] at hb ⊢;have:=of_decide_eq_true hb;exact decide_eq_true (by omega)
 | false=>rw [if_neg (by decide)] at hb ⊢;have:=of_decide_eq_true hb;exact decide_eq_true (by omega)
theorem zbx{st:SortSt}{left:Bool}{key:Keyed}{arr:Array Keyed}{base n hint:Nat}{Q:Option Nat->SortSt->Prop}(hk:kindOf st=oneType')(hkey:zU key)(hi:∀i,base<=i->i<base+n->∃p,arr[i]?=some p/\zU p)
  (so:∀i j,base<=i->i<=j->j<base+n->K arr i<=K arr j) (hh:hint<n)
  (h:∀k,k<=n->(∀i,i<k->Bey left (numOf key.1) (K arr (base+i))=true)->(∀i,k<=i->i<n->Bey left (numOf key.1) (K arr (base+i))=false)->Q (some k) st) :
  wpS (model prog w) A E s (gal left key arr base n hint) Q st:=by
 have down:∀i j,i<=j->j<n->Bey left (numOf key.1) (K arr (base+j))=true->Bey left (numOf key.1) (K arr (base+i))=true:=λi j hij hj hb=>zl2 (so _ _ (by omega) (by omega) (by omega)) hb
 have up:∀i j,i<=j->j<n->Bey left (numOf key.1) (K arr (base+i))=false->Bey left (numOf key.1) (K arr (base+j))=false:=λi j hij hj hb=>by
  cases e:Bey left (numOf key.1) (K arr (base+j)) with
  | false=>rfl
  | true=>rw [down i j hij hj e] at hb;cases hb
 have ask:∀{Q:Option Bool->SortSt->Prop}(i:Nat),i<n->Q (some (Bey left (numOf key.1) (K arr (base+i)))) st->wpS (model prog w) A E s (do
   let x<-elem' arr (base+i)
   if left=true then lt' x key else do
    let r<-lt' key x
    pure (map (λx=>!x) r)) Q st:=λ{Q} i hin q=>by
  obtain ⟨p,e,hp⟩:=hi (base+i) (by omega) (by omega)
  exact znO hk hkey e hp q
 unfold gal
 refine wpS_bind (ask hint hh ?_)
 dsimp only
 have bin:∀lo hi',lo<=hi'->hi'<=n->(∀i,i<lo->Bey left (numOf key.1) (K arr (base+i))=true)->(∀i,hi'<=i->i<n->Bey left (numOf key.1) (K arr (base+i))=false) ->
   wpS (model prog w) A E s (forIn [:n] ((none,lo,hi'):Option (Option Nat)×Nat×Nat) λx __s=>if __s.2.1 ≥ __s.2.2 then pure (ForInStep.done (none,__s.2.1,__s.2.2)) else do
    let __x<-(do
     let x<-elem' arr (base+(__s.2.1+(__s.2.2-__s.2.1) / 2))
     if left=true then lt' x key else do
      let r<-lt' key x
      pure (map (λx=>!x) r))
    match __x with
    | some more=>if more=true then pure (ForInStep.yield (none,__s.2.1+(__s.2.2-__s.2.1) / 2+1,__s.2.2)) else pure (ForInStep.yield (none,__s.2.1,__s.2.1+(__s.2.2-__s.2.1) / 2))
    | x=>pure (ForInStep.done (some none,__s.2.1,__s.2.2)))
   (λc st'=>st'=st/\∃k,c=(none,k,k)/\k<=n/\(∀i,i<k->Bey left (numOf key.1) (K arr (base+i))=true)/\(∀i,k<=i->i<n->Bey left (numOf key.1) (K arr (base+i))=false)) st:=by
  intro lo hi' hlh hhn b1 b2
  refine wpS_forRange (I:=λx c st'=>st'=st/\∃l r,c=(none,l,r)/\l<=r/\r<=n/\r-l<=n-x/\(∀i,i<l->Bey left (numOf key.1) (K arr (base+i))=true)/\(∀i,r<=i->i<n->Bey left (numOf key.1) (K arr (base+i))=false)) ?_ ?_ ⟨rfl,lo,hi',rfl,hlh,hhn,by omega,b1,b2⟩
  ·rintro x c st' _ hx ⟨rfl,l,r,rfl,hlr,hrn,hm,c1,c2⟩
   dsimp only
   by_cases hge:l ≥ r
   ·rw [if_pos hge]
    have:l=r:=by omega
    subst this
    exact wpS_pure ⟨rfl,l,rfl,hrn,c1,c2⟩
   ·rw [if_neg hge]
    refine wpS_bind (ask _ (by omega) ?_)
    dsimp only
    cases e:Bey left (numOf key.1) (K arr (base+(l+(r-l) / 2))) with
    | true =>
     rw [if_pos rfl]
     exact wpS_pure ⟨rfl,_,r,rfl,by omega,hrn,by omega,λi hi=>down i _ (by omega) (by omega) e,c2⟩
    | false =>
     rw [if_neg (by decide)]
     exact wpS_pure ⟨rfl,l,_,rfl,by omega,by omega,by omega,c1,λi h1 h2=>up _ i h1 h2 e⟩
  ·rintro c st' ⟨rfl,l,r,rfl,hlr,hrn,hm,c1,c2⟩
   have:l=r:=by omega
   subst this
   exact ⟨rfl,l,rfl,hrn,c1,c2⟩
 cases e:Bey left (numOf key.1) (K arr (base+hint)) with
 | true =>
  rw [if_pos rfl]
  refine wpS_bind (wpS_mono (wpS_forRange (I:=λx c st'=>st'=st/\∃l o,c=(none,l,o)/\l<o/\x+1<=o/\l<n-hint/\Bey left (numOf key.1) (K arr (base+(hint+l)))=true)
   (Q:=λc st'=>st'=st/\∃l o,c=(none,l,o)/\l<o/\l<n-hint/\Bey left (numOf key.1) (K arr (base+(hint+l)))=true/\(o ≥ n-hint\/Bey left (numOf key.1) (K arr (base+(hint+o)))=false)) ?_ ?_ ⟨rfl,0,1,rfl,by omega,by omega,by omega,by simpa using e⟩) ?_)
  ·rintro x c st' _ hx ⟨rfl,l,o,rfl,hlo,hxo,hln,hb⟩
   dsimp only
   by_cases hge:o ≥ n-hint
   ·rw [if_pos hge]
    exact wpS_pure ⟨rfl,l,o,rfl,hlo,hln,hb,.inl hge⟩
   ·rw [if_neg hge]
    refine wpS_bind (ask _ (by omega) ?_)
    dsimp only
    cases e2:Bey left (numOf key.1) (K arr (base+(hint+o))) with
    | false =>
     rw [if_pos (show (!false)=true from rfl)]
     exact wpS_pure ⟨rfl,l,o,rfl,hlo,hln,hb,.inr e2⟩
    | true =>
     rw [if_neg (by decide)]
     exact wpS_pure ⟨rfl,o,_,rfl,by omega,by omega,by omega,e2⟩
  ·rintro c st' ⟨rfl,l,o,rfl,hlo,hxo,hln,hb⟩
   exact ⟨rfl,l,o,rfl,hlo,hln,hb,.inl (by omega)⟩
  ·rintro c st' ⟨rfl,l,o,rfl,hlo,hln,hb,hor⟩
   dsimp only
   refine wpS_bind (wpS_mono (bin (hint+l+1) (hint+min o (n-hint)) (by omega) (by omega) (λi hi=>down i (hint+l) (by omega) (by omega) hb) (λi h1 h2=>?_)) λc st' hc=>by obtain ⟨rfl,k,rfl,h1,h2,h3⟩:=hc;exact wpS_pure (h k h1 h2 h3))
   rcases hor with hor|hor
   ·omega
   ·by_cases z:o ≥ n-hint
    ·omega
    ·exact up (hint+o) i (by omega) h2 hor
 | false =>
  rw [if_neg (by decide)]
  refine wpS_bind (wpS_mono (wpS_forRange (I:=λx c st'=>st'=st/\∃l o,c=(none,l,o)/\l<o/\x+1<=o/\l<hint+1/\Bey left (numOf key.1) (K arr (base+(hint-l)))=false)
   (Q:=λc st'=>st'=st/\∃l o,c=(none,l,o)/\l<o/\l<hint+1/\Bey left (numOf key.1) (K arr (base+(hint-l)))=false/\(o ≥ hint+1\/Bey left (numOf key.1) (K arr (base+(hint-o)))=true)) ?_ ?_ ⟨rfl,0,1,rfl,by omega,by omega,by omega,by simpa using e⟩) ?_)
  ·rintro x c st' _ hx ⟨rfl,l,o,rfl,hlo,hxo,hln,hb⟩
   dsimp only
   by_cases hge:o ≥ hint+1
   ·rw [if_pos hge]
    exact wpS_pure ⟨rfl,l,o,rfl,hlo,hln,hb,.inl hge⟩
   ·rw [if_neg hge]
    refine wpS_bind (ask _ (by omega) ?_)
    dsimp only
    cases e2:Bey left (numOf key.1) (K arr (base+(hint-o))) with
    | true =>
     rw [if_pos rfl]
     exact wpS_pure ⟨rfl,l,o,rfl,hlo,hln,hb,.inr e2⟩
    | false =>
     rw [if_neg (by decide)]
     exact wpS_pure ⟨rfl,o,_,rfl,by omega,by omega,by omega,e2⟩
  ·rintro c st' ⟨rfl,l,o,rfl,hlo,hxo,hln,hb⟩
   exact ⟨rfl,l,o,rfl,hlo,hln,hb,.inl (by omega)⟩
  ·rintro c st' ⟨rfl,l,o,rfl,hlo,hln,hb,hor⟩
   dsimp only
   refine wpS_bind (wpS_mono (bin (hint+1-min o (hint+1)) (hint-l) (by omega) (by omega) (λi hi=>?_) (λi h1 h2=>up (hint-l) i h1 h2 hb)) λc st' hc=>by obtain ⟨rfl,k,rfl,h1,h2,h3⟩:=hc;exact wpS_pure (h k h1 h2 h3))
   rcases hor with hor|hor
   ·omega
   ·by_cases z:o ≥ hint+1
    ·omega
    ·exact down i (hint-o) (by omega) (by omega) hor
end
def kv(x:Keyed):Int:=numOf x.1
def Srt(l:List Keyed):Prop:=l.Pairwise λx y=>kv x<=kv y
structure Mg(L out A B:List Keyed):Prop where
 perm:(out++(A++B)).Perm L
 so:Srt out
 sA:Srt A
 sB:Srt B
 lA:∀x∈out,∀y∈A,kv x<=kv y
 lB:∀x∈out,∀y∈B,kv x<=kv y
theorem Mg.symm{L out A B:List Keyed}(h:Mg L out A B):Mg L out B A:=⟨((List.Perm.refl out).append List.perm_append_comm).trans h.perm,h.so,h.sB,h.sA,h.lB,h.lA⟩
theorem Mg.take{L out X A B:List Keyed}(h:Mg L out (X++A) B)(hx:∀x∈X,∀y∈B,kv x<=kv y):Mg L (out++X) A B:=by
 have s:=pairwise_append.mp h.sA
 refine ⟨by have:=h.perm;rw [List.append_assoc X A B,<- List.append_assoc out X] at this;exact this,pairwise_append.mpr ⟨h.so,s.1,λx hx y hy=>h.lA x hx y (mem_append_left _ hy)⟩,s.2.1,h.sB,λx hx' y hy=>?_,λx hx' y hy=>?_⟩
 ·rcases mem_append.mp hx' with h'|h'
  ·exact h.lA x h' y (mem_append_right _ hy)
  ·exact s.2.2 x h' y hy
 ·rcases mem_append.mp hx' with h'|h'
  ·exact h.lB x h' y hy
  ·exact hx x h' y hy
theorem Mg.fin{L out A B:List Keyed}(h:Mg L out A B)(hx:∀x∈A,∀y∈B,kv x<=kv y):Srt (out++A++B)/\(out++A++B).Perm L:=by
 refine ⟨pairwise_append.mpr ⟨pairwise_append.mpr ⟨h.so,h.sA,h.lA⟩,h.sB,λx hx' y hy=>?_⟩,by rw [List.append_assoc];exact h.perm⟩
 rcases mem_append.mp hx' with h'|h'
 ·exact h.lB x h' y hy
 ·exact hx x h' y hy
theorem Srt.head{p:Keyed}{l:List Keyed}(h:Srt (p::l)){c:Int}(hc:c<=kv p):∀x∈p::l,c<=kv x:=λx hx=>by
 rcases mem_cons.mp hx with rfl|hx
 ·exact hc
 ·exact Int.le_trans hc ((pairwise_cons.mp h).1 x hx)
theorem zei(a:Array Keyed)(i:Nat):(a.extract i).toList=a.toList.drop i:=by
 rw [toList_extract,extract_eq_drop_take]
 exact take_of_length_le (by rw [length_drop,length_toList];exact Nat.le_refl _)
theorem zqH(a:Array Keyed)(i k:Nat):(a.extract i (i+k)).toList=(a.toList.drop i).take k:=by
 rw [toList_extract,extract_eq_drop_take]
 congr 1
 omega
theorem zbl{a:Array Keyed}{i:Nat}(h:i<a.size):∃p,a[i]?=some p/\a.toList.drop i=p::a.toList.drop (i+1):=by
 refine ⟨a[i],getElem?_pos a i h,?_⟩
 rw [List.drop_eq_getElem_cons (by rw [length_toList];exact h),getElem_toList]
theorem Srt.K{a:Array Keyed}(h:Srt a.toList){i j:Nat}(hij:i<=j)(hj:j<a.size):K a i<=K a j:=by
 rw [zam (getElem?_pos a i (by omega)),zam (getElem?_pos a j hj)]
 by_cases e:i=j
 ·subst e;exact Int.le_refl _
 ·have:=List.pairwise_iff_getElem.mp h i j (by rw [length_toList];omega) (by rw [length_toList];omega) (by omega)
  rw [getElem_toList,getElem_toList] at this
  exact this
theorem zhY{a:Array Keyed}{i:Nat}{x:Keyed}(h:x∈a.toList.drop i):∃j,j<a.size-i/\a[i+j]?=some x:=by
 obtain ⟨j,hj,e⟩:=List.getElem_of_mem h
 rw [length_drop,length_toList] at hj
 refine ⟨j,hj,?_⟩
 rw [List.getElem_drop,getElem_toList] at e
 rw [<- e]
 exact getElem?_pos a _ _
theorem zeJ{a:Array Keyed}{i k:Nat}{x:Keyed}(h:x∈(a.toList.drop i).take k):∃j,j<k/\a[i+j]?=some x:=by
 obtain ⟨j,hj,e⟩:=List.getElem_of_mem h
 have hj':=hj
 rw [length_take,length_drop,length_toList] at hj
 refine ⟨j,by omega,?_⟩
 rw [List.getElem_take,List.getElem_drop,getElem_toList] at e
 rw [<- e]
 exact getElem?_pos a _ _
theorem zeM{k x:Int}(h:Bey false k x=true):x<=k:=by unfold Bey at h;rw [if_neg (by decide)] at h;exact of_decide_eq_true h
theorem zfW{k x:Int}(h:Bey false k x=false):k<x:=by unfold Bey at h;rw [if_neg (by decide)] at h;have:=of_decide_eq_false h;omega
theorem zc2{k x:Int}(h:Bey true k x=true):x<k:=by unfold Bey at h;rw [if_pos rfl] at h;exact of_decide_eq_true h
theorem zc3{k x:Int}(h:Bey true k x=false):k<=x:=by unfold Bey at h;rw [if_pos rfl] at h;have:=of_decide_eq_false h;omega
theorem Mg.tk{L B:List Keyed}{out a:Array Keyed}{i k:Nat}{c:Int}(m:Mg L out.toList (a.toList.drop i) B)(h1:∀j,j<k->K a (i+j)<=c)(h2:∀y∈B,c<=kv y):Mg L (out++a.extract i (i+k)).toList (a.toList.drop (i+k)) B:=by
 rw [toList_append,zqH]
 have e:a.toList.drop i=(a.toList.drop i).take k++a.toList.drop (i+k):=by rw [<- List.drop_drop,take_append_drop]
 refine Mg.take (by rw [<- e];exact m) λx hx y hy=>?_
 obtain ⟨j,hj,ej⟩:=zeJ hx
 have:=h1 j hj
 rw [zam ej] at this
 exact Int.le_trans this (h2 y hy)
theorem zft{a:Array Keyed}{i k n:Nat}{c:Int}(hn:n=a.size-i)(h:∀j,k<=j->j<n->c<=K a (i+j)):∀x∈a.toList.drop (i+k),c<=kv x:=λx hx=>by
 obtain ⟨j,hj,ej⟩:=zhY hx
 have:=h (k+j) (by omega) (by omega)
 rw [show i+(k+j)=i+k+j by omega,zam ej] at this
 exact this
structure SG(st st':SortSt):Prop where
 k:kindOf st'=kindOf st
 a:arrOf st'=arrOf st
 p:pendingOf st'=pendingOf st
 f:failedOf st'=failedOf st
theorem SG.refl{st:SortSt}:SG st st:=⟨rfl,rfl,rfl,rfl⟩
def zgH:Nat->StateT SortSt Sem Unit:=sortPriv% PySem.Builtin.setMinGallop
section
variable {prog:Program}{w:World}{A:Around}{E:Value->Shared->Prop}{s:Shared}
theorem zd2{st st':SortSt}{g:Nat}{Q:Unit->SortSt->Prop}(hs:SG st st')(h:∀st2,SG st st2->Q () st2):wpS (model prog w) A E s (zgH g) Q st':=by
 unfold zgH
 refine wpS_modify (h _ ⟨?_,?_,?_,?_⟩)
 ·exact hs.k
 ·exact hs.a
 ·exact hs.p
 ·exact hs.f
theorem zku{st:SortSt}{a b:Array Keyed}{Q:Array Keyed->SortSt->Prop}(hk:kindOf st=oneType')(iA:∀x∈a.toList,zU x)(iB:∀x∈b.toList,zU x)(sA:Srt a.toList)(sB:Srt b.toList)(a0:0<a.size)(b0:0<b.size)
  (h0:∀y,b[0]?=some y->∀x∈a.toList,kv y<=kv x) (hl:∀x,a[a.size-1]?=some x->∀y∈b.toList,kv y<=kv x) (h:∀o st',SG st st'->Srt o.toList->o.toList.Perm (a.toList++b.toList)->Q o st') :
  wpS (model prog w) A E s (mLo a b) Q st:=by
 have iAt:∀{i p},a[i]?=some p->zU p:=λ{i p} e=>iA p (by rw [<- getElem?_toList] at e;exact mem_of_getElem? e)
 have iBt:∀{i p},b[i]?=some p->zU p:=λ{i p} e=>iB p (by rw [<- getElem?_toList] at e;exact mem_of_getElem? e)
 have dn:∀(out:Array Keyed)(ia ib:Nat)(st':SortSt),SG st st'->Mg (a.toList++b.toList) out.toList (a.toList.drop ia) (b.toList.drop ib)->(ia=a.size\/ib=b.size)->SG st st'/\Srt (out++a.extract ia++b.extract ib).toList/\(out++a.extract ia++b.extract ib).toList.Perm (a.toList++b.toList):=λout ia ib st' hs m hor=>by
  refine ⟨hs,?_⟩
  rw [toList_append,toList_append,zei,zei]
  refine m.fin λx hx y hy=>?_
  rcases hor with e|e
  ·rw [e,drop_eq_nil_of_le (by rw [length_toList];exact Nat.le_refl _)] at hx;cases hx
  ·rw [e,drop_eq_nil_of_le (by rw [length_toList];exact Nat.le_refl _)] at hy;cases hy
 have la:∀(out:Array Keyed)(ia ib:Nat)(st':SortSt),SG st st'->Mg (a.toList++b.toList) out.toList (a.toList.drop ia) (b.toList.drop ib)->ia+1=a.size->SG st st'/\Srt (out++b.extract ib++a.extract ia).toList/\(out++b.extract ib++a.extract ia).toList.Perm (a.toList++b.toList):=λout ia ib st' hs m e=>by
  refine ⟨hs,?_⟩
  rw [toList_append,toList_append,zei,zei]
  refine m.symm.fin λy hy x hx=>?_
  obtain ⟨j,hj,ej⟩:=zhY hx
  have:ia+j=a.size-1:=by omega
  rw [this] at ej
  exact hl x ej y (List.mem_of_mem_drop hy)
 have mB:∀{out:Array Keyed}{ia ib:Nat}{p:Keyed},Mg (a.toList++b.toList) out.toList (a.toList.drop ia) (b.toList.drop ib)->b[ib]?=some p->(∀x∈a.toList.drop ia,kv p<=kv x)->Mg (a.toList++b.toList) (out.push p).toList (a.toList.drop ia) (b.toList.drop (ib+1)):=λ{out ia ib p} m e hx=>by
  obtain ⟨p',e',ed⟩:=zbl (a:=b) (i:=ib) (Array.getElem?_eq_some_iff.mp e).1
  rw [e] at e'
  cases e'
  rw [ed] at m
  rw [toList_push]
  exact (Mg.take (X:=[p]) m.symm λx hx' y hy=>by rw [mem_singleton] at hx';subst hx';exact hx y hy).symm
 have mA:∀{out:Array Keyed}{ia ib:Nat}{p:Keyed},Mg (a.toList++b.toList) out.toList (a.toList.drop ia) (b.toList.drop ib)->a[ia]?=some p->(∀x∈b.toList.drop ib,kv p<=kv x)->Mg (a.toList++b.toList) (out.push p).toList (a.toList.drop (ia+1)) (b.toList.drop ib):=λ{out ia ib p} m e hx=>by
  obtain ⟨p',e',ed⟩:=zbl (a:=a) (i:=ia) (Array.getElem?_eq_some_iff.mp e).1
  rw [e] at e'
  cases e'
  rw [ed] at m
  rw [toList_push]
  exact Mg.take (X:=[p]) m λx hx' y hy=>by rw [mem_singleton] at hx';subst hx';exact hx y hy
 have hd:∀{c:Array Keyed}{i:Nat}{p:Keyed}{v:Int},Srt (c.toList.drop i)->c[i]?=some p->v<=kv p->∀x∈c.toList.drop i,v<=kv x:=λ{c i p v} sc e hv=>by
  obtain ⟨p',e',ed⟩:=zbl (a:=c) (i:=i) (Array.getElem?_eq_some_iff.mp e).1
  rw [e] at e'
  cases e'
  rw [ed] at sc ⊢
  exact sc.head hv
 unfold mLo
 refine wpS_bind (wpS_lift (wpAny_rule ⟨rfl,?_⟩))
 obtain ⟨y0,ey0,ed0⟩:=zbl b0
 refine wpS_bind (zK ey0 ?_)
 try dsimp only
 have m0:Mg (a.toList++b.toList) (#[y0]:Array Keyed).toList (a.toList.drop 0) (b.toList.drop 1):=by
  have:Mg (a.toList++b.toList) (#[]:Array Keyed).toList (a.toList.drop 0) (b.toList.drop 0):=⟨by simp,.nil,by simpa using sA,by simpa using sB,λx hx=>by simp at hx,λx hx=>by simp at hx⟩
  exact mB this ey0 (by simpa using h0 y0 ey0)
 by_cases hb1:1=b.size
 ·rw [if_pos (by simpa using hb1)]
  obtain ⟨g1,g2,g3⟩:=dn _ 0 1 st .refl m0 (.inr hb1)
  exact wpS_pure (h _ _ g1 g2 g3)
 rw [if_neg (by simpa using hb1)]
 by_cases ha1:0+1=a.size
 ·rw [if_pos (by simpa using ha1)]
  obtain ⟨g1,g2,g3⟩:=la _ 0 1 st .refl m0 ha1
  exact wpS_pure (h _ _ g1 g2 g3)
 rw [if_neg (by simpa using ha1)]
 refine wpS_bind (wpS_get ?_)
 try dsimp only
 refine wpS_bind (wpS_mono (wpS_forRange
  (I:=λx c st'=>SG st st'/\∃out ia ib mg,c=(none,out,ia,ib,mg)/\Mg (a.toList++b.toList) out.toList (a.toList.drop ia) (b.toList.drop ib)/\ia+1<a.size/\ib<b.size/\x+1<=ia+ib)
  (Q:=λc st'=>SG st st'/\∃o,c.1=some o/\Srt o.toList/\o.toList.Perm (a.toList++b.toList)) ?_ ?_ ⟨.refl,_,0,1,_,rfl,m0,by omega,by omega,by omega⟩) ?_)
 ·rintro x c st' _ hx ⟨hs,out,ia,ib,mg,rfl,m,hia,hib,hxx⟩
  try dsimp only
  refine wpS_bind (wpS_mono (wpS_forRange
   (I:=λy c st'=>SG st st'/\∃out ia' ib' ac bc,c=(none,out,ia',ib',ac,bc)/\Mg (a.toList++b.toList) out.toList (a.toList.drop ia') (b.toList.drop ib')/\ia'+1<a.size/\ib'<b.size/\y+(ia+ib)<=ia'+ib')
   (Q:=λc st'=>SG st st'/\((∃o r,c=(some o,r)/\Srt o.toList/\o.toList.Perm (a.toList++b.toList))\/∃out ia' ib' ac bc,c=(none,out,ia',ib',ac,bc)/\Mg (a.toList++b.toList) out.toList (a.toList.drop ia') (b.toList.drop ib')/\ia'+1<a.size/\ib'<b.size/\ia+ib<ia'+ib')) ?_ ?_ ⟨hs,out,ia,ib,0,0,rfl,m,hia,hib,by omega⟩) ?_)
  ·rintro y c st' _ hy ⟨hs,out,ia',ib',ac,bc,rfl,m,hia,hib,hyy⟩
   try dsimp only
   obtain ⟨pb,epb,edb⟩:=zbl hib
   obtain ⟨pa,epa,eda⟩:=zbl (show ia'<a.size by omega)
   refine wpS_bind (zK epb (wpS_bind (zK epa (wpS_bind (zc6 (by rw [hs.k];exact hk) (iBt epb) (iAt epa) ?_)))))
   try dsimp only
   by_cases hlt:numOf pb.1<numOf pa.1
   ·rw [decide_eq_true hlt,if_pos rfl]
    refine wpS_bind (zK epb ?_)
    try dsimp only
    have m':=mB m epb (hd m.sA epa (Int.le_of_lt hlt))
    by_cases hbz:ib'+1=b.size
    ·rw [if_pos (by simpa using hbz)]
     obtain ⟨g1,g2,g3⟩:=dn _ ia' (ib'+1) st' hs m' (.inr hbz)
     exact wpS_pure ⟨g1,.inl ⟨_,_,rfl,g2,g3⟩⟩
    ·rw [if_neg (by simpa using hbz)]
     by_cases hg:bc+1 ≥ mg
     ·rw [if_pos hg]
      exact wpS_pure ⟨hs,.inr ⟨_,_,_,_,_,rfl,m',hia,by omega,by omega⟩⟩
     ·rw [if_neg hg]
      exact wpS_pure ⟨hs,_,_,_,_,_,rfl,m',hia,by omega,by omega⟩
   ·rw [decide_eq_false hlt,if_neg (by decide)]
    refine wpS_bind (zK epa ?_)
    try dsimp only
    have m':=mA m epa (hd m.sB epb (Int.not_lt.mp hlt))
    by_cases haz:ia'+1+1=a.size
    ·rw [if_pos (by simpa using haz)]
     obtain ⟨g1,g2,g3⟩:=la _ (ia'+1) ib' st' hs m' haz
     exact wpS_pure ⟨g1,.inl ⟨_,_,rfl,g2,g3⟩⟩
    ·rw [if_neg (by simpa using haz)]
     by_cases hg:ac+1 ≥ mg
     ·rw [if_pos hg]
      exact wpS_pure ⟨hs,.inr ⟨_,_,_,_,_,rfl,m',by omega,hib,by omega⟩⟩
     ·rw [if_neg hg]
      exact wpS_pure ⟨hs,_,_,_,_,_,rfl,m',by omega,hib,by omega⟩
  ·rintro c st' ⟨hs,out,ia',ib',ac,bc,rfl,m,hia,hib,hyy⟩
   omega
  ·rintro c st' ⟨hs,⟨o,r,rfl,g2,g3⟩|⟨out,ia',ib',ac,bc,rfl,m,hia,hib,hyy⟩⟩
   ·exact wpS_pure ⟨hs,o,rfl,g2,g3⟩
   try dsimp only
   refine wpS_bind (wpS_lift (wpAny_rule ⟨rfl,?_⟩))
   try dsimp only
   refine wpS_bind (wpS_mono (wpS_forRange
    (I:=λy c st'=>SG st st'/\∃out ia2 ib2 mg ac bc,c=(none,out,ia2,ib2,mg,ac,bc)/\Mg (a.toList++b.toList) out.toList (a.toList.drop ia2) (b.toList.drop ib2)/\ia2+1<a.size/\ib2<b.size/\y+(ia'+ib')<=ia2+ib2)
    (Q:=λc st'=>SG st st'/\((∃o r,c=(some o,r)/\Srt o.toList/\o.toList.Perm (a.toList++b.toList))\/∃out ia2 ib2 mg ac bc,c=(none,out,ia2,ib2,mg,ac,bc)/\Mg (a.toList++b.toList) out.toList (a.toList.drop ia2) (b.toList.drop ib2)/\ia2+1<a.size/\ib2<b.size/\ia'+ib'<=ia2+ib2)) ?_ ?_ ⟨hs,out,ia',ib',_,_,_,rfl,m,hia,hib,by omega⟩) ?_)
   ·rintro y c st' _ hy ⟨hs,out,ia2,ib2,mg2,ac,bc,rfl,m,hia,hib,hyy⟩
    try dsimp only
    obtain ⟨pb,epb,edb⟩:=zbl hib
    by_cases hmg:mg2>1
    all_goals first|rw [if_pos hmg]|rw [if_neg hmg]
    all_goals
     refine wpS_bind (zd2 hs λst2 hs2=>?_)
     refine wpS_bind (zK epb ?_)
     refine wpS_bind (zbx (by rw [hs2.k];exact hk) (iBt epb) (λi h1 h2=>⟨_,getElem?_pos a i (by omega),iAt (getElem?_pos a i (by omega))⟩) (λi j _ hij hj=>sA.K hij (by omega)) (by omega) λk hkn f1 f2=>?_)
     try dsimp only
     have hge:∀x∈a.toList.drop (ia2+k),kv pb<=kv x:=zft rfl λj h1 h2=>Int.le_of_lt (zfW (f2 j h1 h2))
     by_cases hk0:k>0
     ·rw [if_pos hk0]
      have m1:=Mg.tk (a:=a) (i:=ia2) (k:=k) m (λj hj=>zeM (f1 j hj)) (hd m.sB epb (Int.le_refl _))
      by_cases z1:ia2+k+1=a.size
      ·rw [if_pos (by simpa using z1)]
       obtain ⟨g1,g2,g3⟩:=la _ _ _ st2 hs2 m1 z1
       exact wpS_pure ⟨g1,.inl ⟨_,_,rfl,g2,g3⟩⟩
      rw [if_neg (by simpa using z1)]
      by_cases z2:ia2+k=a.size
      ·rw [if_pos (by simpa using z2)]
       obtain ⟨g1,g2,g3⟩:=dn _ _ _ st2 hs2 m1 (.inl z2)
       exact wpS_pure ⟨g1,.inl ⟨_,_,rfl,g2,g3⟩⟩
      rw [if_neg (by simpa using z2)]
      obtain ⟨ia1,eia1⟩:∃ia1,ia1=ia2+k:=⟨_,rfl⟩
      rw [<- eia1] at m1 hge ⊢
      refine wpS_bind (zK epb ?_)
      try dsimp only
      have m2:=mB m1 epb hge
      by_cases z3:ib2+1=b.size
      ·rw [if_pos (by simpa using z3)]
       obtain ⟨g1,g2,g3⟩:=dn _ _ _ st2 hs2 m2 (.inr z3)
       exact wpS_pure ⟨g1,.inl ⟨_,_,rfl,g2,g3⟩⟩
      rw [if_neg (by simpa using z3)]
      obtain ⟨pa,epa,eda⟩:=zbl (show ia1<a.size by omega)
      refine wpS_bind (zK epa ?_)
      refine wpS_bind (zbx (by rw [hs2.k];exact hk) (iAt epa) (λi h1 h2=>⟨_,getElem?_pos b i (by omega),iBt (getElem?_pos b i (by omega))⟩) (λi j _ hij hj=>sB.K hij (by omega)) (by omega) λk2 hk2 f3 f4=>?_)
      try dsimp only
      have hge2:∀x∈b.toList.drop (ib2+1+k2),kv pa<=kv x:=zft rfl λj h1 h2=>zc3 (f4 j h1 h2)
      by_cases hk20:k2>0
      ·rw [if_pos hk20]
       have m3:=(Mg.tk (a:=b) (i:=ib2+1) (k:=k2) m2.symm (λj hj=>Int.le_of_lt (zc2 (f3 j hj))) (hd m2.sA epa (Int.le_refl _))).symm
       by_cases z4:ib2+1+k2=b.size
       ·rw [if_pos (by simpa using z4)]
        obtain ⟨g1,g2,g3⟩:=dn _ _ _ st2 hs2 m3 (.inr z4)
        exact wpS_pure ⟨g1,.inl ⟨_,_,rfl,g2,g3⟩⟩
       rw [if_neg (by simpa using z4)]
       refine wpS_bind (zK epa ?_)
       try dsimp only
       have m4:=mA m3 epa hge2
       by_cases z5:ia1+1+1=a.size
       ·rw [if_pos (by simpa using z5)]
        obtain ⟨g1,g2,g3⟩:=la _ _ _ st2 hs2 m4 z5
        exact wpS_pure ⟨g1,.inl ⟨_,_,rfl,g2,g3⟩⟩
       rw [if_neg (by simpa using z5)]
       split
       ·exact wpS_pure ⟨hs2,.inr ⟨_,_,_,_,_,_,rfl,m4,by omega,by omega,by omega⟩⟩
       ·exact wpS_pure ⟨hs2,_,_,_,_,_,_,rfl,m4,by omega,by omega,by omega⟩
      ·rw [if_neg hk20]
       have:k2=0:=by omega
       subst this
       have m3:=m2
       refine wpS_bind (zK epa ?_)
       try dsimp only
       have m4:=mA m3 epa hge2
       by_cases z5:ia1+1+1=a.size
       ·rw [if_pos (by simpa using z5)]
        obtain ⟨g1,g2,g3⟩:=la _ _ _ st2 hs2 m4 z5
        exact wpS_pure ⟨g1,.inl ⟨_,_,rfl,g2,g3⟩⟩
       rw [if_neg (by simpa using z5)]
       split
       ·exact wpS_pure ⟨hs2,.inr ⟨_,_,_,_,_,_,rfl,m4,by omega,by omega,by omega⟩⟩
       ·exact wpS_pure ⟨hs2,_,_,_,_,_,_,rfl,m4,by omega,by omega,by omega⟩
     ·rw [if_neg hk0]
      have:k=0:=by omega
      subst this
      have m1:=m
      obtain ⟨ia1,eia1⟩:∃ia1,ia1=ia2:=⟨_,rfl⟩
      rw [Nat.add_zero] at hge
      rw [<- eia1] at m1 hge ⊢
      refine wpS_bind (zK epb ?_)
      try dsimp only
      have m2:=mB m1 epb hge
      by_cases z3:ib2+1=b.size
      ·rw [if_pos (by simpa using z3)]
       obtain ⟨g1,g2,g3⟩:=dn _ _ _ st2 hs2 m2 (.inr z3)
       exact wpS_pure ⟨g1,.inl ⟨_,_,rfl,g2,g3⟩⟩
      rw [if_neg (by simpa using z3)]
      obtain ⟨pa,epa,eda⟩:=zbl (show ia1<a.size by omega)
      refine wpS_bind (zK epa ?_)
      refine wpS_bind (zbx (by rw [hs2.k];exact hk) (iAt epa) (λi h1 h2=>⟨_,getElem?_pos b i (by omega),iBt (getElem?_pos b i (by omega))⟩) (λi j _ hij hj=>sB.K hij (by omega)) (by omega) λk2 hk2 f3 f4=>?_)
      try dsimp only
      have hge2:∀x∈b.toList.drop (ib2+1+k2),kv pa<=kv x:=zft rfl λj h1 h2=>zc3 (f4 j h1 h2)
      by_cases hk20:k2>0
      ·rw [if_pos hk20]
       have m3:=(Mg.tk (a:=b) (i:=ib2+1) (k:=k2) m2.symm (λj hj=>Int.le_of_lt (zc2 (f3 j hj))) (hd m2.sA epa (Int.le_refl _))).symm
       by_cases z4:ib2+1+k2=b.size
       ·rw [if_pos (by simpa using z4)]
        obtain ⟨g1,g2,g3⟩:=dn _ _ _ st2 hs2 m3 (.inr z4)
        exact wpS_pure ⟨g1,.inl ⟨_,_,rfl,g2,g3⟩⟩
       rw [if_neg (by simpa using z4)]
       refine wpS_bind (zK epa ?_)
       try dsimp only
       have m4:=mA m3 epa hge2
       by_cases z5:ia1+1+1=a.size
       ·rw [if_pos (by simpa using z5)]
        obtain ⟨g1,g2,g3⟩:=la _ _ _ st2 hs2 m4 z5
        exact wpS_pure ⟨g1,.inl ⟨_,_,rfl,g2,g3⟩⟩
       rw [if_neg (by simpa using z5)]
       split
       ·exact wpS_pure ⟨hs2,.inr ⟨_,_,_,_,_,_,rfl,m4,by omega,by omega,by omega⟩⟩
       ·exact wpS_pure ⟨hs2,_,_,_,_,_,_,rfl,m4,by omega,by omega,by omega⟩
      ·rw [if_neg hk20]
       have:k2=0:=by omega
       subst this
       have m3:=m2
       refine wpS_bind (zK epa ?_)
       try dsimp only
       have m4:=mA m3 epa hge2
       by_cases z5:ia1+1+1=a.size
       ·rw [if_pos (by simpa using z5)]
        obtain ⟨g1,g2,g3⟩:=la _ _ _ st2 hs2 m4 z5
        exact wpS_pure ⟨g1,.inl ⟨_,_,rfl,g2,g3⟩⟩
       rw [if_neg (by simpa using z5)]
       split
       ·exact wpS_pure ⟨hs2,.inr ⟨_,_,_,_,_,_,rfl,m4,by omega,by omega,by omega⟩⟩
       ·exact wpS_pure ⟨hs2,_,_,_,_,_,_,rfl,m4,by omega,by omega,by omega⟩
   ·rintro c st' ⟨hs,out,ia2,ib2,mg2,ac,bc,rfl,m,hia,hib,hyy⟩
    omega
   ·rintro c st' ⟨hs,⟨o,r,rfl,g2,g3⟩|⟨out,ia2,ib2,mg2,ac,bc,rfl,m,hia,hib,hyy⟩⟩
    ·exact wpS_pure ⟨hs,o,rfl,g2,g3⟩
    try dsimp only
    exact wpS_bind (zd2 hs λst2 hs2=>wpS_pure ⟨hs2,_,_,_,_,rfl,m,hia,hib,by omega⟩)
 ·rintro c st' ⟨hs,out,ia,ib,mg,rfl,m,hia,hib,hxx⟩
  omega
 ·rintro ⟨r,zo⟩ st' ⟨hs,o,e,g2,g3⟩
  dsimp only at e
  subst e
  exact wpS_pure (h _ _ hs g2 g3)
end
structure Mh(L T A B:List Keyed):Prop where
 perm:(A++B++T).Perm L
 so:Srt T
 sA:Srt A
 sB:Srt B
 lA:∀x∈A,∀y∈T,kv x<=kv y
 lB:∀x∈B,∀y∈T,kv x<=kv y
theorem Mh.symm{L T A B:List Keyed}(h:Mh L T A B):Mh L T B A:=⟨(List.perm_append_comm.append_right T).trans h.perm,h.so,h.sB,h.sA,h.lB,h.lA⟩
theorem Mh.take{L T X A B:List Keyed}(h:Mh L T (A++X) B)(hx:∀x∈X,∀y∈B,kv y<=kv x):Mh L (X++T) A B:=by
 have s:=pairwise_append.mp h.sA
 refine ⟨?_,pairwise_append.mpr ⟨s.2.1,h.so,λx hx y hy=>h.lA x (mem_append_right _ hx) y hy⟩,s.1,h.sB,λx hx' y hy=>?_,λx hx' y hy=>?_⟩
 ·refine List.Perm.trans ?_ h.perm
  rw [<- List.append_assoc (A++B) X T,List.append_assoc A X B,List.append_assoc A B X]
  exact (List.perm_append_comm.append_left A).append_right T
 ·rcases mem_append.mp hy with h'|h'
  ·exact s.2.2 x hx' y h'
  ·exact h.lA x (mem_append_left _ hx') y h'
 ·rcases mem_append.mp hy with h'|h'
  ·exact hx y h' x hx'
  ·exact h.lB x hx' y h'
theorem Mh.fin{L T A B:List Keyed}(h:Mh L T A B)(hx:∀x∈A,∀y∈B,kv x<=kv y):Srt (A++B++T)/\(A++B++T).Perm L:=by
 refine ⟨pairwise_append.mpr ⟨pairwise_append.mpr ⟨h.sA,h.sB,hx⟩,h.so,λx hx' y hy=>?_⟩,h.perm⟩
 rcases mem_append.mp hx' with h'|h'
 ·exact h.lA x h' y hy
 ·exact h.lB x h' y hy
theorem zdH(a:Array Keyed)(k:Nat):(a.extract 0 k).toList=a.toList.take k:=by
 rw [toList_extract,extract_eq_drop_take,List.drop_zero,Nat.sub_zero]
theorem zdr{a:Array Keyed}{i n:Nat}{p:Keyed}(hn:i+1=n)(e:a[i]?=some p):a.toList.take n=a.toList.take i++[p]:=by
 rw [<- hn,take_add_one,getElem?_toList,e];rfl
theorem zhw{a:Array Keyed}{k:Nat}{x:Keyed}(h:x∈a.toList.take k):∃j,j<k/\a[j]?=some x:=by
 have:=zeJ (a:=a) (i:=0) (k:=k) (x:=x) (by rw [List.drop_zero];exact h)
 obtain ⟨j,hj,e⟩:=this
 rw [zero_add] at e
 exact ⟨j,hj,e⟩
theorem zfq{a:Array Keyed}{k:Nat}{c:Int}(h:∀j,j<k->K a j<=c):∀x∈a.toList.take k,kv x<=c:=λx hx=>by
 obtain ⟨j,hj,e⟩:=zhw hx
 have:=h j hj
 rw [zam e] at this
 exact this
theorem Mh.tk{L B:List Keyed}{out a:Array Keyed}{i k:Nat}{c:Int}(hik:i<=k)(m:Mh L out.toList.reverse (a.toList.take k) B)(h1:∀j,i<=j->j<k->c<=K a j)(h2:∀y∈B,kv y<=c):Mh L (out++(a.extract i k).reverse).toList.reverse (a.toList.take i) B:=by
 have e:a.toList.take k=a.toList.take i++(a.toList.drop i).take (k-i):=by
  rw [show k=i+(k-i) by omega,List.take_add]
  congr 2
  omega
 have e2:(out++(a.extract i k).reverse).toList.reverse=(a.toList.drop i).take (k-i)++out.toList.reverse:=by
  rw [toList_append,Array.toList_reverse,List.reverse_append,List.reverse_reverse,toList_extract,extract_eq_drop_take]
 rw [e2]
 refine Mh.take (by rw [<- e];exact m) λx hx y hy=>?_
 obtain ⟨j,hj,ej⟩:=zeJ hx
 have:=h1 (i+j) (by omega) (by omega)
 rw [zam ej] at this
 exact Int.le_trans (h2 y hy) this
section
variable {prog:Program}{w:World}{A:Around}{E:Value->Shared->Prop}{s:Shared}
theorem zo1{st:SortSt}{a b:Array Keyed}{Q:Array Keyed->SortSt->Prop}(hk:kindOf st=oneType')(iA:∀x∈a.toList,zU x)(iB:∀x∈b.toList,zU x)(sA:Srt a.toList)(sB:Srt b.toList)(a0:0<a.size)(b0:0<b.size)
  (h0:∀y,b[0]?=some y->∀x∈a.toList,kv y<=kv x) (hl:∀x,a[a.size-1]?=some x->∀y∈b.toList,kv y<=kv x) (h:∀o st',SG st st'->Srt o.toList->o.toList.Perm (a.toList++b.toList)->Q o st') :
  wpS (model prog w) A E s (mHi a b) Q st:=by
 have iAt:∀{i p},a[i]?=some p->zU p:=λ{i p} e=>iA p (by rw [<- getElem?_toList] at e;exact mem_of_getElem? e)
 have iBt:∀{i p},b[i]?=some p->zU p:=λ{i p} e=>iB p (by rw [<- getElem?_toList] at e;exact mem_of_getElem? e)
 have dn:∀(out:Array Keyed)(na nb:Nat)(st':SortSt),SG st st'->Mh (a.toList++b.toList) out.toList.reverse (a.toList.take na) (b.toList.take nb)->(na=0\/nb=0)->SG st st'/\Srt (a.extract 0 na++b.extract 0 nb++out.reverse).toList/\(a.extract 0 na++b.extract 0 nb++out.reverse).toList.Perm (a.toList++b.toList):=λout na nb st' hs m hor=>by
  refine ⟨hs,?_⟩
  rw [toList_append,toList_append,zdH,zdH,Array.toList_reverse]
  refine m.fin λx hx y hy=>?_
  rcases hor with e|e
  ·rw [e] at hx;cases hx
  ·rw [e] at hy;cases hy
 have fb:∀(out:Array Keyed)(na nb:Nat)(st':SortSt),SG st st'->Mh (a.toList++b.toList) out.toList.reverse (a.toList.take na) (b.toList.take nb)->nb=1->SG st st'/\Srt (b.extract 0 nb++a.extract 0 na++out.reverse).toList/\(b.extract 0 nb++a.extract 0 na++out.reverse).toList.Perm (a.toList++b.toList):=λout na nb st' hs m e=>by
  refine ⟨hs,?_⟩
  rw [toList_append,toList_append,zdH,zdH,Array.toList_reverse]
  refine m.symm.fin λy hy x hx=>?_
  obtain ⟨j,hj,ej⟩:=zhw hy
  have:j=0:=by omega
  subst this
  exact h0 y ej x (List.mem_of_mem_take hx)
 have mB:∀{out:Array Keyed}{na nb i:Nat}{p:Keyed},Mh (a.toList++b.toList) out.toList.reverse (a.toList.take na) (b.toList.take nb)->i+1=nb->b[i]?=some p->(∀x∈a.toList.take na,kv x<=kv p)->Mh (a.toList++b.toList) (out.push p).toList.reverse (a.toList.take na) (b.toList.take i):=λ{out na nb i p} m hi e hx=>by
  rw [zdr hi e] at m
  rw [toList_push,List.reverse_append]
  exact (Mh.take (X:=[p]) m.symm λx hx' y hy=>by rw [mem_singleton] at hx';subst hx';exact hx y hy).symm
 have mA:∀{out:Array Keyed}{na nb i:Nat}{p:Keyed},Mh (a.toList++b.toList) out.toList.reverse (a.toList.take na) (b.toList.take nb)->i+1=na->a[i]?=some p->(∀x∈b.toList.take nb,kv x<=kv p)->Mh (a.toList++b.toList) (out.push p).toList.reverse (a.toList.take i) (b.toList.take nb):=λ{out na nb i p} m hi e hx=>by
  rw [zdr hi e] at m
  rw [toList_push,List.reverse_append]
  exact Mh.take (X:=[p]) m λx hx' y hy=>by rw [mem_singleton] at hx';subst hx';exact hx y hy
 have hd:∀{c:Array Keyed}{i n:Nat}{p:Keyed}{v:Int},Srt (c.toList.take n)->i+1=n->c[i]?=some p->kv p<=v->∀x∈c.toList.take n,kv x<=v:=λ{c i n p v} sc hi e hv x hx=>by
  rw [zdr hi e] at sc hx
  rcases mem_append.mp hx with hx|hx
  ·exact Int.le_trans ((pairwise_append.mp sc).2.2 x hx p (by simp)) hv
  ·rw [mem_singleton] at hx;subst hx;exact hv
 unfold mHi
 refine wpS_bind (wpS_lift (wpAny_rule ⟨rfl,?_⟩))
 obtain ⟨y0,ey0⟩:∃p,a[a.size-1]?=some p:=⟨_,getElem?_pos a _ (by omega)⟩
 refine wpS_bind (zK ey0 ?_)
 try dsimp only
 have m0:Mh (a.toList++b.toList) (#[y0]:Array Keyed).toList.reverse (a.toList.take (a.size-1)) (b.toList.take b.size):=by
  have ta:a.toList.take a.size=a.toList:=take_of_length_le (by rw [length_toList];exact Nat.le_refl _)
  have tb:b.toList.take b.size=b.toList:=take_of_length_le (by rw [length_toList];exact Nat.le_refl _)
  have:Mh (a.toList++b.toList) (#[]:Array Keyed).toList.reverse (a.toList.take a.size) (b.toList.take b.size):=by
   rw [ta,tb]
   exact ⟨by simp,.nil,sA,sB,λx _ y hy=>by simp at hy,λx _ y hy=>by simp at hy⟩
  exact mA this (show a.size-1+1=a.size by omega) ey0 (by rw [tb];exact hl y0 ey0)
 by_cases ha1:a.size-1=0
 ·rw [if_pos (by simpa using ha1)]
  obtain ⟨g1,g2,g3⟩:=dn _ (a.size-1) b.size st .refl m0 (.inl ha1)
  exact wpS_pure (h _ _ g1 g2 g3)
 rw [if_neg (by simpa using ha1)]
 by_cases hb1:b.size=1
 ·rw [if_pos (by simpa using hb1)]
  obtain ⟨g1,g2,g3⟩:=fb _ (a.size-1) b.size st .refl m0 hb1
  exact wpS_pure (h _ _ g1 g2 g3)
 rw [if_neg (by simpa using hb1)]
 refine wpS_bind (wpS_get ?_)
 try dsimp only
 refine wpS_bind (wpS_mono (wpS_forRange
  (I:=λx c st'=>SG st st'/\∃na nb out mg,c=(none,na,nb,out,mg)/\Mh (a.toList++b.toList) out.toList.reverse (a.toList.take na) (b.toList.take nb)/\0<na/\na<a.size/\1<nb/\nb<=b.size/\na+nb+x+1<=a.size+b.size)
  (Q:=λc st'=>SG st st'/\∃o,c.1=some o/\Srt o.toList/\o.toList.Perm (a.toList++b.toList)) ?_ ?_ ⟨.refl,_,_,_,_,rfl,m0,by omega,by omega,by omega,by omega,by omega⟩) ?_)
 ·rintro x c st' _ hx ⟨hs,na,nb,out,mg,rfl,m,hna,hna2,hnb,hnb2,hxx⟩
  try dsimp only
  refine wpS_bind (wpS_mono (wpS_forRange
   (I:=λy c st'=>SG st st'/\∃na' nb' out ac bc,c=(none,na',nb',out,ac,bc)/\Mh (a.toList++b.toList) out.toList.reverse (a.toList.take na') (b.toList.take nb')/\0<na'/\na'<a.size/\1<nb'/\nb'<=b.size/\na'+nb'+y<=na+nb)
   (Q:=λc st'=>SG st st'/\((∃o r,c=(some o,r)/\Srt o.toList/\o.toList.Perm (a.toList++b.toList))\/∃na' nb' out ac bc,c=(none,na',nb',out,ac,bc)/\Mh (a.toList++b.toList) out.toList.reverse (a.toList.take na') (b.toList.take nb')/\0<na'/\na'<a.size/\1<nb'/\nb'<=b.size/\na'+nb'<na+nb)) ?_ ?_ ⟨hs,na,nb,out,0,0,rfl,m,hna,hna2,hnb,hnb2,by omega⟩) ?_)
  ·rintro y c st' _ hy ⟨hs,na',nb',out,ac,bc,rfl,m,hna,hna2,hnb,hnb2,hyy⟩
   try dsimp only
   obtain ⟨pb,epb⟩:∃p,b[nb'-1]?=some p:=⟨_,getElem?_pos b _ (by omega)⟩
   obtain ⟨pa,epa⟩:∃p,a[na'-1]?=some p:=⟨_,getElem?_pos a _ (by omega)⟩
   refine wpS_bind (zK epb (wpS_bind (zK epa (wpS_bind (zc6 (by rw [hs.k];exact hk) (iBt epb) (iAt epa) ?_)))))
   try dsimp only
   by_cases hlt:numOf pb.1<numOf pa.1
   ·rw [decide_eq_true hlt,if_pos rfl]
    refine wpS_bind (zK epa ?_)
    try dsimp only
    have m':=mA m (show na'-1+1=na' by omega) epa (hd m.sB (show nb'-1+1=nb' by omega) epb (Int.le_of_lt hlt))
    by_cases haz:na'-1=0
    ·rw [if_pos (by simpa using haz)]
     obtain ⟨g1,g2,g3⟩:=dn _ _ _ st' hs m' (.inl haz)
     exact wpS_pure ⟨g1,.inl ⟨_,_,rfl,g2,g3⟩⟩
    ·rw [if_neg (by simpa using haz)]
     split
     ·exact wpS_pure ⟨hs,.inr ⟨_,_,_,_,_,rfl,m',by omega,by omega,by omega,by omega,by omega⟩⟩
     ·exact wpS_pure ⟨hs,_,_,_,_,_,rfl,m',by omega,by omega,by omega,by omega,by omega⟩
   ·rw [decide_eq_false hlt,if_neg (by decide)]
    refine wpS_bind (zK epb ?_)
    try dsimp only
    have m':=mB m (show nb'-1+1=nb' by omega) epb (hd m.sA (show na'-1+1=na' by omega) epa (Int.not_lt.mp hlt))
    by_cases hbz:nb'-1=1
    ·rw [if_pos (by simpa using hbz)]
     obtain ⟨g1,g2,g3⟩:=fb _ _ _ st' hs m' hbz
     exact wpS_pure ⟨g1,.inl ⟨_,_,rfl,g2,g3⟩⟩
    ·rw [if_neg (by simpa using hbz)]
     split
     ·exact wpS_pure ⟨hs,.inr ⟨_,_,_,_,_,rfl,m',by omega,by omega,by omega,by omega,by omega⟩⟩
     ·exact wpS_pure ⟨hs,_,_,_,_,_,rfl,m',by omega,by omega,by omega,by omega,by omega⟩
  ·rintro c st' ⟨hs,na',nb',out,ac,bc,rfl,m,hna,hna2,hnb,hnb2,hyy⟩
   omega
  ·rintro c st' ⟨hs,⟨o,r,rfl,g2,g3⟩|⟨na',nb',out,ac,bc,rfl,m,hna,hna2,hnb,hnb2,hyy⟩⟩
   ·exact wpS_pure ⟨hs,o,rfl,g2,g3⟩
   try dsimp only
   refine wpS_bind (wpS_lift (wpAny_rule ⟨rfl,?_⟩))
   try dsimp only
   refine wpS_bind (wpS_mono (wpS_forRange
    (I:=λy c st'=>SG st st'/\∃na2 nb2 out mg ac bc,c=(none,na2,nb2,out,mg,ac,bc)/\Mh (a.toList++b.toList) out.toList.reverse (a.toList.take na2) (b.toList.take nb2)/\0<na2/\na2<a.size/\1<nb2/\nb2<=b.size/\na2+nb2+y<=na'+nb')
    (Q:=λc st'=>SG st st'/\((∃o r,c=(some o,r)/\Srt o.toList/\o.toList.Perm (a.toList++b.toList))\/∃na2 nb2 out mg ac bc,c=(none,na2,nb2,out,mg,ac,bc)/\Mh (a.toList++b.toList) out.toList.reverse (a.toList.take na2) (b.toList.take nb2)/\0<na2/\na2<a.size/\1<nb2/\nb2<=b.size/\na2+nb2<=na'+nb')) ?_ ?_ ⟨hs,na',nb',out,_,_,_,rfl,m,hna,hna2,hnb,hnb2,by omega⟩) ?_)
   ·rintro y c st' _ hy ⟨hs,na2,nb2,out,mg2,ac,bc,rfl,m,hna,hna2,hnb,hnb2,hyy⟩
    try dsimp only
    obtain ⟨pb,epb⟩:∃p,b[nb2-1]?=some p:=⟨_,getElem?_pos b _ (by omega)⟩
    by_cases hmg:mg2>1
    all_goals first|rw [if_pos hmg]|rw [if_neg hmg]
    all_goals
     refine wpS_bind (zd2 hs λst2 hs2=>?_)
     refine wpS_bind (zK epb ?_)
     refine wpS_bind (zbx (by rw [hs2.k];exact hk) (iBt epb) (λi h1 h2=>⟨_,getElem?_pos a i (by omega),iAt (getElem?_pos a i (by omega))⟩) (λi j _ hij hj=>sA.K hij (by omega)) (by omega) λk hkn f1 f2=>?_)
     try dsimp only
     have hge:∀x∈a.toList.take k,kv x<=kv pb:=zfq λj hj=>by have:=zeM (f1 j hj);rw [zero_add] at this;exact this
     by_cases hk0:na2-k>0
     ·rw [if_pos hk0]
      have m1:=Mh.tk (a:=a) (i:=k) (k:=na2) (by omega) m (λj h1 h2=>by have:=zfW (f2 j h1 h2);rw [zero_add] at this;exact Int.le_of_lt this) (hd m.sB (show nb2-1+1=nb2 by omega) epb (Int.le_refl _))
      by_cases z2:k=0
      ·rw [if_pos (by simpa using z2)]
       obtain ⟨g1,g2,g3⟩:=dn _ _ _ st2 hs2 m1 (.inl z2)
       exact wpS_pure ⟨g1,.inl ⟨_,_,rfl,g2,g3⟩⟩
      rw [if_neg (by simpa using z2)]
      obtain ⟨na1,ena1⟩:∃na1,na1=k:=⟨_,rfl⟩
      rw [<- ena1] at m1 hge ⊢
      refine wpS_bind (zK epb ?_)
      try dsimp only
      have m2:=mB m1 (show nb2-1+1=nb2 by omega) epb hge
      by_cases z3:nb2-1=1
      ·rw [if_pos (by simpa using z3)]
       obtain ⟨g1,g2,g3⟩:=fb _ _ _ st2 hs2 m2 z3
       exact wpS_pure ⟨g1,.inl ⟨_,_,rfl,g2,g3⟩⟩
      rw [if_neg (by simpa using z3)]
      obtain ⟨pa,epa⟩:∃p,a[na1-1]?=some p:=⟨_,getElem?_pos a _ (by omega)⟩
      refine wpS_bind (zK epa ?_)
      refine wpS_bind (zbx (by rw [hs2.k];exact hk) (iAt epa) (λi h1 h2=>⟨_,getElem?_pos b i (by omega),iBt (getElem?_pos b i (by omega))⟩) (λi j _ hij hj=>sB.K hij (by omega)) (by omega) λk2 hk2 f3 f4=>?_)
      try dsimp only
      have hge2:∀x∈b.toList.take k2,kv x<=kv pa:=zfq λj hj=>by have:=zc2 (f3 j hj);rw [zero_add] at this;exact Int.le_of_lt this
      by_cases hk20:nb2-1-k2>0
      ·rw [if_pos hk20]
       have m3:=(Mh.tk (a:=b) (i:=k2) (k:=nb2-1) (by omega) m2.symm (λj h1 h2=>by have:=zc3 (f4 j h1 h2);rw [zero_add] at this;exact this) (hd m2.sA (show na1-1+1=na1 by omega) epa (Int.le_refl _))).symm
       by_cases z4:k2=1
       ·rw [if_pos (by simpa using z4)]
        obtain ⟨g1,g2,g3⟩:=fb _ _ _ st2 hs2 m3 z4
        exact wpS_pure ⟨g1,.inl ⟨_,_,rfl,g2,g3⟩⟩
       rw [if_neg (by simpa using z4)]
       by_cases z7:k2=0
       ·rw [if_pos (by simpa using z7)]
        obtain ⟨g1,g2,g3⟩:=dn _ _ _ st2 hs2 m3 (.inr z7)
        exact wpS_pure ⟨g1,.inl ⟨_,_,rfl,g2,g3⟩⟩
       rw [if_neg (by simpa using z7)]
       refine wpS_bind (zK epa ?_)
       try dsimp only
       have m4:=mA m3 (show na1-1+1=na1 by omega) epa hge2
       by_cases z5:na1-1=0
       ·rw [if_pos (by simpa using z5)]
        obtain ⟨g1,g2,g3⟩:=dn _ _ _ st2 hs2 m4 (.inl z5)
        exact wpS_pure ⟨g1,.inl ⟨_,_,rfl,g2,g3⟩⟩
       rw [if_neg (by simpa using z5)]
       split
       ·exact wpS_pure ⟨hs2,.inr ⟨_,_,_,_,_,_,rfl,m4,by omega,by omega,by omega,by omega,by omega⟩⟩
       ·exact wpS_pure ⟨hs2,_,_,_,_,_,_,rfl,m4,by omega,by omega,by omega,by omega,by omega⟩
      ·rw [if_neg hk20]
       have e2:k2=nb2-1:=by omega
       have m3:=m2
       rw [e2] at hge2
       refine wpS_bind (zK epa ?_)
       try dsimp only
       have m4:=mA m3 (show na1-1+1=na1 by omega) epa hge2
       by_cases z5:na1-1=0
       ·rw [if_pos (by simpa using z5)]
        obtain ⟨g1,g2,g3⟩:=dn _ _ _ st2 hs2 m4 (.inl z5)
        exact wpS_pure ⟨g1,.inl ⟨_,_,rfl,g2,g3⟩⟩
       rw [if_neg (by simpa using z5)]
       split
       ·exact wpS_pure ⟨hs2,.inr ⟨_,_,_,_,_,_,rfl,m4,by omega,by omega,by omega,by omega,by omega⟩⟩
       ·exact wpS_pure ⟨hs2,_,_,_,_,_,_,rfl,m4,by omega,by omega,by omega,by omega,by omega⟩
     ·rw [if_neg hk0]
      have e1:k=na2:=by omega
      have m1:=m
      obtain ⟨na1,ena1⟩:∃na1,na1=na2:=⟨_,rfl⟩
      rw [e1] at hge
      rw [<- ena1] at m1 hge ⊢
      refine wpS_bind (zK epb ?_)
      try dsimp only
      have m2:=mB m1 (show nb2-1+1=nb2 by omega) epb hge
      by_cases z3:nb2-1=1
      ·rw [if_pos (by simpa using z3)]
       obtain ⟨g1,g2,g3⟩:=fb _ _ _ st2 hs2 m2 z3
       exact wpS_pure ⟨g1,.inl ⟨_,_,rfl,g2,g3⟩⟩
      rw [if_neg (by simpa using z3)]
      obtain ⟨pa,epa⟩:∃p,a[na1-1]?=some p:=⟨_,getElem?_pos a _ (by omega)⟩
      refine wpS_bind (zK epa ?_)
      refine wpS_bind (zbx (by rw [hs2.k];exact hk) (iAt epa) (λi h1 h2=>⟨_,getElem?_pos b i (by omega),iBt (getElem?_pos b i (by omega))⟩) (λi j _ hij hj=>sB.K hij (by omega)) (by omega) λk2 hk2 f3 f4=>?_)
      try dsimp only
      have hge2:∀x∈b.toList.take k2,kv x<=kv pa:=zfq λj hj=>by have:=zc2 (f3 j hj);rw [zero_add] at this;exact Int.le_of_lt this
      by_cases hk20:nb2-1-k2>0
      ·rw [if_pos hk20]
       have m3:=(Mh.tk (a:=b) (i:=k2) (k:=nb2-1) (by omega) m2.symm (λj h1 h2=>by have:=zc3 (f4 j h1 h2);rw [zero_add] at this;exact this) (hd m2.sA (show na1-1+1=na1 by omega) epa (Int.le_refl _))).symm
       by_cases z4:k2=1
       ·rw [if_pos (by simpa using z4)]
        obtain ⟨g1,g2,g3⟩:=fb _ _ _ st2 hs2 m3 z4
        exact wpS_pure ⟨g1,.inl ⟨_,_,rfl,g2,g3⟩⟩
       rw [if_neg (by simpa using z4)]
       by_cases z7:k2=0
       ·rw [if_pos (by simpa using z7)]
        obtain ⟨g1,g2,g3⟩:=dn _ _ _ st2 hs2 m3 (.inr z7)
        exact wpS_pure ⟨g1,.inl ⟨_,_,rfl,g2,g3⟩⟩
       rw [if_neg (by simpa using z7)]
       refine wpS_bind (zK epa ?_)
       try dsimp only
       have m4:=mA m3 (show na1-1+1=na1 by omega) epa hge2
       by_cases z5:na1-1=0
       ·rw [if_pos (by simpa using z5)]
        obtain ⟨g1,g2,g3⟩:=dn _ _ _ st2 hs2 m4 (.inl z5)
        exact wpS_pure ⟨g1,.inl ⟨_,_,rfl,g2,g3⟩⟩
       rw [if_neg (by simpa using z5)]
       split
       ·exact wpS_pure ⟨hs2,.inr ⟨_,_,_,_,_,_,rfl,m4,by omega,by omega,by omega,by omega,by omega⟩⟩
       ·exact wpS_pure ⟨hs2,_,_,_,_,_,_,rfl,m4,by omega,by omega,by omega,by omega,by omega⟩
      ·rw [if_neg hk20]
       have e2:k2=nb2-1:=by omega
       have m3:=m2
       rw [e2] at hge2
       refine wpS_bind (zK epa ?_)
       try dsimp only
       have m4:=mA m3 (show na1-1+1=na1 by omega) epa hge2
       by_cases z5:na1-1=0
       ·rw [if_pos (by simpa using z5)]
        obtain ⟨g1,g2,g3⟩:=dn _ _ _ st2 hs2 m4 (.inl z5)
        exact wpS_pure ⟨g1,.inl ⟨_,_,rfl,g2,g3⟩⟩
       rw [if_neg (by simpa using z5)]
       split
       ·exact wpS_pure ⟨hs2,.inr ⟨_,_,_,_,_,_,rfl,m4,by omega,by omega,by omega,by omega,by omega⟩⟩
       ·exact wpS_pure ⟨hs2,_,_,_,_,_,_,rfl,m4,by omega,by omega,by omega,by omega,by omega⟩
   ·rintro c st' ⟨hs,na2,nb2,out,mg2,ac,bc,rfl,m,hna,hna2,hnb,hnb2,hyy⟩
    omega
   ·rintro c st' ⟨hs,⟨o,r,rfl,g2,g3⟩|⟨na2,nb2,out,mg2,ac,bc,rfl,m,hna,hna2,hnb,hnb2,hyy⟩⟩
    ·exact wpS_pure ⟨hs,o,rfl,g2,g3⟩
    try dsimp only
    exact wpS_bind (zd2 hs λst2 hs2=>wpS_pure ⟨hs2,_,_,_,_,rfl,m,hna,hna2,hnb,hnb2,by omega⟩)
 ·rintro c st' ⟨hs,na,nb,out,mg,rfl,m,hna,hna2,hnb,hnb2,hxx⟩
  omega
 ·rintro ⟨r,zo⟩ st' ⟨hs,o,e,g2,g3⟩
  dsimp only at e
  subst e
  exact wpS_pure (h _ _ hs g2 g3)
end
structure SB(a₀:Array Keyed)(p0:Array (Nat×Nat×Nat))(lo:Nat)(st:SortSt):Prop where
 perm:(arrOf st).Perm a₀
 kind:kindOf st=oneType'
 failed:failedOf st=none
 pend:pendingOf st=p0
 pre:∀k,k<lo->(arrOf st)[k]?=a₀[k]?
theorem SB.size{a₀:Array Keyed}{p0:Array (Nat×Nat×Nat)}{lo:Nat}{st:SortSt}(h:SB a₀ p0 lo st):(arrOf st).size=a₀.size:=h.perm.size_eq
def zab(xs:Array Keyed)(lo m:Nat):Prop:=∀i j,lo<=i->i<=j->j<lo+m->K xs i<=K xs j
def zaR(xs:Array Keyed)(lo m:Nat):Prop:=∀i j,lo<=i->i<=j->j<lo+m->K xs j<=K xs i
theorem zab.snoc{xs:Array Keyed}{lo m:Nat}(h:zab xs lo m)(h1:1<=m)(h2:K xs (lo+m-1)<=K xs (lo+m)):zab xs lo (m+1):=λi j hi hij hj=>by
 by_cases hjx:j<lo+m
 ·exact h i j hi hij hjx
 ·have hj':j=lo+m:=by omega
  subst hj'
  by_cases hi':i=lo+m
  ·subst hi';exact Int.le_refl _
  ·exact Int.le_trans (h i (lo+m-1) hi (by omega) (by omega)) h2
theorem zaR.snoc{xs:Array Keyed}{lo m:Nat}(h:zaR xs lo m)(h1:1<=m)(h2:K xs (lo+m)<=K xs (lo+m-1)):zaR xs lo (m+1):=λi j hi hij hj=>by
 by_cases hjx:j<lo+m
 ·exact h i j hi hij hjx
 ·have hj':j=lo+m:=by omega
  subst hj'
  by_cases hi':i=lo+m
  ·subst hi';exact Int.le_refl _
  ·exact Int.le_trans h2 (h i (lo+m-1) hi (by omega) (by omega))
section
variable {prog:Program}{w:World}{A:Around}{E:Value->Shared->Prop}{s:Shared}{a₀:Array Keyed}{p0:Array (Nat×Nat×Nat)}{lo:Nat}
theorem za3{st:SortSt}{i j:Nat}{Q:Option Bool->SortSt->Prop}(hB:SB a₀ p0 lo st)(iK:∀x∈a₀.toList,zU x)(hi:i<a₀.size)(hj:j<a₀.size)(h:Q (some (decide (K (arrOf st) i<K (arrOf st) j))) st):wpS (model prog w) A E s (ltAt' i j) Q st:=by
 have at_:∀{i},i<a₀.size->∃p,(arrOf st)[i]?=some p/\zU p:=λ{i} hi=>by
  have hi':i<(arrOf st).size:=by rw [hB.size];exact hi
  exact ⟨_,getElem?_pos _ i hi',iK _ ((Array.perm_iff_toList_perm.mp hB.perm).mem_iff.mp (by simp))⟩
 obtain ⟨p,e1,i1⟩:=at_ hi
 obtain ⟨q,e2,i2⟩:=at_ hj
 rw [zam e1,zam e2] at h
 rw [ltAt'_eq]
 exact wpS_bind (wpS_get (wpS_bind (zK e1 (wpS_bind (zK e2 (zc6 hB.kind i1 i2 h))))))
theorem zbh{st:SortSt}{i j:Nat}{Q:Unit->SortSt->Prop}(hB:SB a₀ p0 lo st)(hi:lo<=i)(hj:j<=a₀.size)(h:∀st1,SB a₀ p0 lo st1->(∀k,K (arrOf st1) k=if i<=k/\k<j then K (arrOf st) (i+j-1-k) else K (arrOf st) k)->Q () st1):wpS (model prog w) A E s (reverseSlice' i j) Q st:=by
 rw [reverseSlice'_eq]
 have hj':j<=(arrOf st).size:=by rw [hB.size];exact hj
 refine wpS_modify (h _ ⟨(mirror_perm _ _ _ _).trans hB.perm,hB.kind,hB.failed,hB.pend,λk hk=>?_⟩ (K_mirror hj'))
 show (mirror (arrOf st) i j ((j-i) / 2))[k]?=_
 rw [getElem?_mirror_all hj',if_neg (by omega)]
 exact hB.pre k hk
theorem zq0{st:SortSt}{nrem:Nat}{Q:Option Nat->SortSt->Prop}(iK:∀x∈a₀.toList,zU x)(hn:lo+nrem<=a₀.size)(h1:1<=nrem)(hB:SB a₀ p0 lo st)
  (h:∀m st',SB a₀ p0 lo st'->1<=m->m<=nrem->zab (arrOf st') lo m->Q (some m) st'):wpS (model prog w) A E s (countRun' lo nrem) Q st:=by
 unfold countRun'
 refine wpS_bind (wpS_mono (wpS_forRange (I:=λx c st'=>st'=st/\c=(none,x)/\zab (arrOf st) lo x)
  (Q:=λc st'=>st'=st/\∃mm,c=(none,mm)/\1<=mm/\mm<=nrem/\zab (arrOf st) lo mm/\(mm=nrem\/K (arrOf st) (lo+mm)<K (arrOf st) (lo+mm-1))) ?_ ?_ ⟨rfl,rfl,λi j h1 h2 h3=>by rw [show i=j by omega];exact Int.le_refl _⟩) ?_)
 ·rintro x c st' hax hxn ⟨rfl,rfl,hs'⟩
  try dsimp only
  refine wpS_bind (za3 hB iK (by omega) (by omega) ?_)
  try dsimp only
  by_cases hless:K (arrOf st') (lo+x)<K (arrOf st') (lo+x-1)
  ·rw [decide_eq_true hless,if_pos rfl]
   exact wpS_pure ⟨rfl,x,rfl,hax,by omega,hs',.inr hless⟩
  ·rw [decide_eq_false hless,if_neg (by decide)]
   exact wpS_pure ⟨rfl,rfl,hs'.snoc (by omega) (Int.not_lt.mp hless)⟩
 ·rintro c st' ⟨rfl,rfl,hs'⟩
  rw [show max 1 nrem=nrem by omega] at hs' ⊢
  exact ⟨rfl,nrem,rfl,by omega,Nat.le_refl _,hs',.inl rfl⟩
 ·rintro c st' ⟨rfl,n,rfl,hn1,hn2,hsn,hor⟩
  try dsimp only
  by_cases hnn:n=nrem
  ·rw [if_pos (by simpa using hnn)]
   exact wpS_pure (h n _ hB hn1 hn2 hsn)
  rw [if_neg (by simpa using hnn)]
  have hlt:=hor.resolve_left hnn
  by_cases hgt:n>1
  ·rw [if_pos hgt]
   refine wpS_bind (za3 hB iK (by omega) (by omega) ?_)
   try dsimp only
   by_cases hrose:K (arrOf st') lo<K (arrOf st') (lo+n-1)
   ·rw [decide_eq_true hrose,if_pos rfl]
    exact wpS_pure (h n _ hB hn1 hn2 hsn)
   ·rw [decide_eq_false hrose,if_neg (by decide)]
    have hall:∀k,lo<=k->k<lo+n->K (arrOf st') k=K (arrOf st') (lo+n-1):=λk g1 g2=>by
     have a1:=hsn lo k (Nat.le_refl _) g1 g2
     have a2:=hsn k (lo+n-1) g1 (by omega) (by omega)
     omega
    refine wpS_bind (zbh hB (Nat.le_refl _) (show lo+n<=a₀.size by omega) λst1 hB1 hK1=>?_)
    have hK2:∀k,K (arrOf st1) k=K (arrOf st') k:=λk=>by
     rw [hK1]
     split
     ·rw [hall _ (by omega) (by omega),hall k (by omega) (by omega)]
     ·rfl
    have hd1:zaR (arrOf st1) lo (n+1):=by
     refine zaR.snoc (λi j g1 g2 g3=>?_) (by omega) (by rw [hK2,hK2];exact Int.le_of_lt hlt)
     rw [hK2,hK2,hall i g1 (by omega),hall j (by omega) g3]
     exact Int.le_refl _
    refine wpS_bind (wpS_lift (wpAny_rule ⟨rfl,?_⟩))
    try dsimp only
    refine wpS_bind (wpS_mono (wpS_forRange (I:=λx c st'=>∃neq,c=(none,x,neq)/\SB a₀ p0 lo st'/\zaR (arrOf st') lo x/\neq+1<=x/\∀i,lo+x-(neq+1)<=i->i<lo+x->K (arrOf st') i=K (arrOf st') (lo+x-1))
     (Q:=λc st'=>∃m neq,c=(none,m,neq)/\n+1<=m/\m<=nrem/\SB a₀ p0 lo st'/\zaR (arrOf st') lo m/\neq+1<=m/\∀i,lo+m-(neq+1)<=i->i<lo+m->K (arrOf st') i=K (arrOf st') (lo+m-1)) ?_ ?_ ⟨0,rfl,hB1,hd1,by omega,λi h1 h2=>by rw [show i=lo+(n+1)-1 by omega]⟩) ?_)
    ·rintro x c st' hax hxn ⟨neq,rfl,hB',hs',hq,he⟩
     try dsimp only
     refine wpS_bind (za3 hB' iK (by omega) (by omega) ?_)
     try dsimp only
     by_cases hless:K (arrOf st') (lo+x)<K (arrOf st') (lo+x-1)
     ·rw [decide_eq_true hless,if_pos rfl]
      by_cases hneq:neq>0
      ·rw [if_pos hneq]
       refine wpS_bind (zbh hB' (show lo<=lo+x-(neq+1) by omega) (show lo+x<=a₀.size by omega) λst5 hB5 hK5=>wpS_pure ⟨0,rfl,hB5,?_,by omega,λi h1 h2=>by rw [show i=lo+(x+1)-1 by omega]⟩)
       have hK6:∀k,K (arrOf st5) k=K (arrOf st') k:=λk=>by
        rw [hK5]
        split
        ·rw [he _ (by omega) (by omega),he k (by omega) (by omega)]
        ·rfl
       intro i j h1 h2 h3
       rw [hK6,hK6]
       exact hs'.snoc (by omega) (Int.le_of_lt hless) i j h1 h2 h3
      ·rw [if_neg hneq]
       exact wpS_pure ⟨0,rfl,hB',hs'.snoc (by omega) (Int.le_of_lt hless),by omega,λi h1 h2=>by rw [show i=lo+(x+1)-1 by omega]⟩
     ·rw [decide_eq_false hless,if_neg (by decide)]
      refine wpS_bind (za3 hB' iK (by omega) (by omega) ?_)
      try dsimp only
      by_cases hlarger:K (arrOf st') (lo+x-1)<K (arrOf st') (lo+x)
      ·rw [decide_eq_true hlarger,if_pos rfl]
       exact wpS_pure ⟨x,neq,rfl,hax,by omega,hB',hs',hq,he⟩
      ·rw [decide_eq_false hlarger,if_neg (by decide)]
       have heqx:K (arrOf st') (lo+x)=K (arrOf st') (lo+x-1):=by omega
       refine wpS_pure ⟨neq+1,rfl,hB',hs'.snoc (by omega) (by omega),by omega,λi h1 h2=>?_⟩
       rw [show lo+(x+1)-1=lo+x by omega,heqx]
       by_cases hix:i=lo+x
       ·rw [hix];exact heqx
       ·exact he i (by omega) (by omega)
    ·rintro c st' ⟨neq,rfl,hB',hs',hq,he⟩
     rw [show max (n+1) nrem=nrem by omega] at hs' hq he ⊢
     exact ⟨nrem,neq,rfl,by omega,Nat.le_refl _,hB',hs',hq,he⟩
    ·rintro c st2 ⟨m,neq,rfl,hm1,hm2,hB2,hs2,hq,he⟩
     try dsimp only
     by_cases hneq:neq>0
     ·rw [if_pos hneq]
      refine wpS_bind (zbh hB2 (show lo<=lo+m-(neq+1) by omega) (show lo+m<=a₀.size by omega) λst3 hB3 hK3=>?_)
      have hK6:∀k,K (arrOf st3) k=K (arrOf st2) k:=λk=>by
       rw [hK3]
       split
       ·rw [he _ (by omega) (by omega),he k (by omega) (by omega)]
       ·rfl
      have hs3:zaR (arrOf st3) lo m:=λi j h1 h2 h3=>by
       rw [hK6,hK6]
       exact hs2 i j h1 h2 h3
      refine wpS_bind (zbh hB3 (Nat.le_refl _) (show lo+m<=a₀.size by omega) λst4 hB4 hK4=>?_)
      try dsimp only
      have hs4:zab (arrOf st4) lo m:=λi j h1 h2 h3=>by
       rw [hK4,hK4,if_pos ⟨h1,by omega⟩,if_pos ⟨by omega,h3⟩]
       exact hs3 _ _ (by omega) (by omega) (by omega)
      refine wpS_bind (wpS_mono (wpS_forRange (I:=λx c st'=>st'=st4/\c=(none,x)/\zab (arrOf st4) lo x)
       (Q:=λc st'=>st'=st4/\∃mm,c=(none,mm)/\m<=mm/\mm<=nrem/\zab (arrOf st4) lo mm/\(mm=nrem\/K (arrOf st4) (lo+mm)<K (arrOf st4) (lo+mm-1))) ?_ ?_ ⟨rfl,rfl,hs4⟩) ?_)
      ·rintro x c st' hax hxn ⟨rfl,rfl,hs'⟩
       try dsimp only
       refine wpS_bind (za3 hB4 iK (by omega) (by omega) ?_)
       try dsimp only
       by_cases hless:K (arrOf st') (lo+x)<K (arrOf st') (lo+x-1)
       ·rw [decide_eq_true hless,if_pos rfl]
        exact wpS_pure ⟨rfl,x,rfl,hax,by omega,hs',.inr hless⟩
       ·rw [decide_eq_false hless,if_neg (by decide)]
        exact wpS_pure ⟨rfl,rfl,hs'.snoc (by omega) (Int.not_lt.mp hless)⟩
      ·rintro c st' ⟨rfl,rfl,hs'⟩
       rw [show max m nrem=nrem by omega] at hs' ⊢
       exact ⟨rfl,nrem,rfl,by omega,Nat.le_refl _,hs',.inl rfl⟩
      ·rintro c st' ⟨rfl,m',rfl,h1,h2,h3,_⟩
       exact wpS_pure (h m' _ hB4 (by omega) h2 h3)
     ·rw [if_neg hneq]
      have hs3:=hs2
      refine wpS_bind (zbh hB2 (Nat.le_refl _) (show lo+m<=a₀.size by omega) λst4 hB4 hK4=>?_)
      try dsimp only
      have hs4:zab (arrOf st4) lo m:=λi j h1 h2 h3=>by
       rw [hK4,hK4,if_pos ⟨h1,by omega⟩,if_pos ⟨by omega,h3⟩]
       exact hs3 _ _ (by omega) (by omega) (by omega)
      refine wpS_bind (wpS_mono (wpS_forRange (I:=λx c st'=>st'=st4/\c=(none,x)/\zab (arrOf st4) lo x)
       (Q:=λc st'=>st'=st4/\∃mm,c=(none,mm)/\m<=mm/\mm<=nrem/\zab (arrOf st4) lo mm/\(mm=nrem\/K (arrOf st4) (lo+mm)<K (arrOf st4) (lo+mm-1))) ?_ ?_ ⟨rfl,rfl,hs4⟩) ?_)
      ·rintro x c st' hax hxn ⟨rfl,rfl,hs'⟩
       try dsimp only
       refine wpS_bind (za3 hB4 iK (by omega) (by omega) ?_)
       try dsimp only
       by_cases hless:K (arrOf st') (lo+x)<K (arrOf st') (lo+x-1)
       ·rw [decide_eq_true hless,if_pos rfl]
        exact wpS_pure ⟨rfl,x,rfl,hax,by omega,hs',.inr hless⟩
       ·rw [decide_eq_false hless,if_neg (by decide)]
        exact wpS_pure ⟨rfl,rfl,hs'.snoc (by omega) (Int.not_lt.mp hless)⟩
      ·rintro c st' ⟨rfl,rfl,hs'⟩
       rw [show max m nrem=nrem by omega] at hs' ⊢
       exact ⟨rfl,nrem,rfl,by omega,Nat.le_refl _,hs',.inl rfl⟩
      ·rintro c st' ⟨rfl,m',rfl,h1,h2,h3,_⟩
       exact wpS_pure (h m' _ hB4 (by omega) h2 h3)
  ·rw [if_neg hgt]
   have hn1':n=1:=by omega
   have hB1:=hB
   have hd1:zaR (arrOf st') lo (n+1):=zaR.snoc (λi j g1 g2 g3=>by rw [show i=j by omega];exact Int.le_refl _) (by omega) (Int.le_of_lt hlt)
   refine wpS_bind (wpS_lift (wpAny_rule ⟨rfl,?_⟩))
   try dsimp only
   refine wpS_bind (wpS_mono (wpS_forRange (I:=λx c st'=>∃neq,c=(none,x,neq)/\SB a₀ p0 lo st'/\zaR (arrOf st') lo x/\neq+1<=x/\∀i,lo+x-(neq+1)<=i->i<lo+x->K (arrOf st') i=K (arrOf st') (lo+x-1))
    (Q:=λc st'=>∃m neq,c=(none,m,neq)/\n+1<=m/\m<=nrem/\SB a₀ p0 lo st'/\zaR (arrOf st') lo m/\neq+1<=m/\∀i,lo+m-(neq+1)<=i->i<lo+m->K (arrOf st') i=K (arrOf st') (lo+m-1)) ?_ ?_ ⟨0,rfl,hB1,hd1,by omega,λi h1 h2=>by rw [show i=lo+(n+1)-1 by omega]⟩) ?_)
   ·rintro x c st' hax hxn ⟨neq,rfl,hB',hs',hq,he⟩
    try dsimp only
    refine wpS_bind (za3 hB' iK (by omega) (by omega) ?_)
    try dsimp only
    by_cases hless:K (arrOf st') (lo+x)<K (arrOf st') (lo+x-1)
    ·rw [decide_eq_true hless,if_pos rfl]
     by_cases hneq:neq>0
     ·rw [if_pos hneq]
      refine wpS_bind (zbh hB' (show lo<=lo+x-(neq+1) by omega) (show lo+x<=a₀.size by omega) λst5 hB5 hK5=>wpS_pure ⟨0,rfl,hB5,?_,by omega,λi h1 h2=>by rw [show i=lo+(x+1)-1 by omega]⟩)
      have hK6:∀k,K (arrOf st5) k=K (arrOf st') k:=λk=>by
       rw [hK5]
       split
       ·rw [he _ (by omega) (by omega),he k (by omega) (by omega)]
       ·rfl
      intro i j h1 h2 h3
      rw [hK6,hK6]
      exact hs'.snoc (by omega) (Int.le_of_lt hless) i j h1 h2 h3
     ·rw [if_neg hneq]
      exact wpS_pure ⟨0,rfl,hB',hs'.snoc (by omega) (Int.le_of_lt hless),by omega,λi h1 h2=>by rw [show i=lo+(x+1)-1 by omega]⟩
    ·rw [decide_eq_false hless,if_neg (by decide)]
     refine wpS_bind (za3 hB' iK (by omega) (by omega) ?_)
     try dsimp only
     by_cases hlarger:K (arrOf st') (lo+x-1)<K (arrOf st') (lo+x)
     ·rw [decide_eq_true hlarger,if_pos rfl]
      exact wpS_pure ⟨x,neq,rfl,hax,by omega,hB',hs',hq,he⟩
     ·rw [decide_eq_false hlarger,if_neg (by decide)]
      have heqx:K (arrOf st') (lo+x)=K (arrOf st') (lo+x-1):=by omega
      refine wpS_pure ⟨neq+1,rfl,hB',hs'.snoc (by omega) (by omega),by omega,λi h1 h2=>?_⟩
      rw [show lo+(x+1)-1=lo+x by omega,heqx]
      by_cases hix:i=lo+x
      ·rw [hix];exact heqx
      ·exact he i (by omega) (by omega)
   ·rintro c st' ⟨neq,rfl,hB',hs',hq,he⟩
    rw [show max (n+1) nrem=nrem by omega] at hs' hq he ⊢
    exact ⟨nrem,neq,rfl,by omega,Nat.le_refl _,hB',hs',hq,he⟩
   ·rintro c st2 ⟨m,neq,rfl,hm1,hm2,hB2,hs2,hq,he⟩
    try dsimp only
    by_cases hneq:neq>0
    ·rw [if_pos hneq]
     refine wpS_bind (zbh hB2 (show lo<=lo+m-(neq+1) by omega) (show lo+m<=a₀.size by omega) λst3 hB3 hK3=>?_)
     have hK6:∀k,K (arrOf st3) k=K (arrOf st2) k:=λk=>by
      rw [hK3]
      split
      ·rw [he _ (by omega) (by omega),he k (by omega) (by omega)]
      ·rfl
     have hs3:zaR (arrOf st3) lo m:=λi j h1 h2 h3=>by
      rw [hK6,hK6]
      exact hs2 i j h1 h2 h3
     refine wpS_bind (zbh hB3 (Nat.le_refl _) (show lo+m<=a₀.size by omega) λst4 hB4 hK4=>?_)
     try dsimp only
     have hs4:zab (arrOf st4) lo m:=λi j h1 h2 h3=>by
      rw [hK4,hK4,if_pos ⟨h1,by omega⟩,if_pos ⟨by omega,h3⟩]
      exact hs3 _ _ (by omega) (by omega) (by omega)
     refine wpS_bind (wpS_mono (wpS_forRange (I:=λx c st'=>st'=st4/\c=(none,x)/\zab (arrOf st4) lo x)
      (Q:=λc st'=>st'=st4/\∃mm,c=(none,mm)/\m<=mm/\mm<=nrem/\zab (arrOf st4) lo mm/\(mm=nrem\/K (arrOf st4) (lo+mm)<K (arrOf st4) (lo+mm-1))) ?_ ?_ ⟨rfl,rfl,hs4⟩) ?_)
     ·rintro x c st' hax hxn ⟨rfl,rfl,hs'⟩
      try dsimp only
      refine wpS_bind (za3 hB4 iK (by omega) (by omega) ?_)
      try dsimp only
      by_cases hless:K (arrOf st') (lo+x)<K (arrOf st') (lo+x-1)
      ·rw [decide_eq_true hless,if_pos rfl]
       exact wpS_pure ⟨rfl,x,rfl,hax,by omega,hs',.inr hless⟩
      ·rw [decide_eq_false hless,if_neg (by decide)]
       exact wpS_pure ⟨rfl,rfl,hs'.snoc (by omega) (Int.not_lt.mp hless)⟩
     ·rintro c st' ⟨rfl,rfl,hs'⟩
      rw [show max m nrem=nrem by omega] at hs' ⊢
      exact ⟨rfl,nrem,rfl,by omega,Nat.le_refl _,hs',.inl rfl⟩
     ·rintro c st' ⟨rfl,m',rfl,h1,h2,h3,_⟩
      exact wpS_pure (h m' _ hB4 (by omega) h2 h3)
    ·rw [if_neg hneq]
     have hs3:=hs2
     refine wpS_bind (zbh hB2 (Nat.le_refl _) (show lo+m<=a₀.size by omega) λst4 hB4 hK4=>?_)
     try dsimp only
     have hs4:zab (arrOf st4) lo m:=λi j h1 h2 h3=>by
      rw [hK4,hK4,if_pos ⟨h1,by omega⟩,if_pos ⟨by omega,h3⟩]
      exact hs3 _ _ (by omega) (by omega) (by omega)
     refine wpS_bind (wpS_mono (wpS_forRange (I:=λx c st'=>st'=st4/\c=(none,x)/\zab (arrOf st4) lo x)
      (Q:=λc st'=>st'=st4/\∃mm,c=(none,mm)/\m<=mm/\mm<=nrem/\zab (arrOf st4) lo mm/\(mm=nrem\/K (arrOf st4) (lo+mm)<K (arrOf st4) (lo+mm-1))) ?_ ?_ ⟨rfl,rfl,hs4⟩) ?_)
     ·rintro x c st' hax hxn ⟨rfl,rfl,hs'⟩
      try dsimp only
      refine wpS_bind (za3 hB4 iK (by omega) (by omega) ?_)
      try dsimp only
      by_cases hless:K (arrOf st') (lo+x)<K (arrOf st') (lo+x-1)
      ·rw [decide_eq_true hless,if_pos rfl]
       exact wpS_pure ⟨rfl,x,rfl,hax,by omega,hs',.inr hless⟩
      ·rw [decide_eq_false hless,if_neg (by decide)]
       exact wpS_pure ⟨rfl,rfl,hs'.snoc (by omega) (Int.not_lt.mp hless)⟩
     ·rintro c st' ⟨rfl,rfl,hs'⟩
      rw [show max m nrem=nrem by omega] at hs' ⊢
      exact ⟨rfl,nrem,rfl,by omega,Nat.le_refl _,hs',.inl rfl⟩
     ·rintro c st' ⟨rfl,m',rfl,h1,h2,h3,_⟩
      exact wpS_pure (h m' _ hB4 (by omega) h2 h3)
theorem zoz{st:SortSt}{n ok:Nat}{Q:Bool->SortSt->Prop}(iK:∀x∈a₀.toList,zU x)(hn:lo+n<=a₀.size)(hok:ok<=n)(hB:SB a₀ p0 lo st)(hs:zab (arrOf st) lo ok)
  (h:∀st',SB a₀ p0 lo st'->zab (arrOf st') lo n->Q true st'):wpS (model prog w) A E s (binarySort' lo n ok) Q st:=by
 unfold binarySort'
 refine wpS_bind (wpS_mono (wpS_forRange (I:=λk c st'=>c=(none,())/\SB a₀ p0 lo st'/\zab (arrOf st') lo (min k n))
  (Q:=λc st'=>c=(none,())/\SB a₀ p0 lo st'/\zab (arrOf st') lo n) ?_ ?_ ?_) ?_)
 ·rintro k c st' hak hkn ⟨rfl,hB',hs'⟩
  rw [show min k n=k by omega] at hs'
  try dsimp only
  refine wpS_bind (wpS_mono (wpS_forRange (I:=λx c st''=>st''=st'/\∃l r,c=(none,l,r)/\l<=r/\r<=k/\r-l<=k-x /\
    (∀i,i<l->K (arrOf st') (lo+i)<=K (arrOf st') (lo+k))/\(∀i,r<=i->i<k->K (arrOf st') (lo+k)<K (arrOf st') (lo+i)))
   (Q:=λc st''=>st''=st'/\∃l r,c=(none,l,r)/\l<=k /\
    (∀i,i<l->K (arrOf st') (lo+i)<=K (arrOf st') (lo+k))/\(∀i,l<=i->i<k->K (arrOf st') (lo+k)<K (arrOf st') (lo+i))) ?_ ?_ ⟨rfl,0,k,rfl,by omega,by omega,by omega,λi hi=>by omega,λi h1 h2=>by omega⟩) ?_)
  ·rintro x c st'' _ hxk ⟨rfl,l,r,rfl,hlr,hrk,hm,hlo,hhi⟩
   try dsimp only
   by_cases hge:l ≥ r
   ·rw [if_pos hge]
    have:l=r:=by omega
    subst this
    exact wpS_pure ⟨rfl,l,l,rfl,hrk,hlo,hhi⟩
   ·rw [if_neg hge]
    refine wpS_bind (za3 hB' iK (by omega) (by omega) ?_)
    try dsimp only
    by_cases hless:K (arrOf st'') (lo+k)<K (arrOf st'') (lo+(l+r) / 2)
    ·rw [decide_eq_true hless,if_pos rfl]
     exact wpS_pure ⟨rfl,l,(l+r) / 2,rfl,by omega,by omega,by omega,hlo,λi h1 h2=>Int.lt_of_lt_of_le hless (hs' _ _ (by omega) (by omega) (by omega))⟩
    ·rw [decide_eq_false hless,if_neg (by decide)]
     exact wpS_pure ⟨rfl,(l+r) / 2+1,r,rfl,by omega,by omega,by omega,λi h1=>Int.le_trans (hs' (lo+i) (lo+(l+r) / 2) (by omega) (by omega) (by omega)) (Int.not_lt.mp hless),hhi⟩
  ·rintro c st'' ⟨rfl,l,r,rfl,hlr,hrk,hm,hlo,hhi⟩
   have:l=r:=by omega
   subst this
   exact ⟨rfl,l,l,rfl,hrk,hlo,hhi⟩
  ·rintro c st'' ⟨rfl,l,r,rfl,hlk,hlo,hhi⟩
   show wpS _ _ _ _ (do moveDown' (lo+k) (lo+l);pure (ForInStep.yield (none,()))) _ _
   rw [moveDown'_eq]
   have hks:lo+k<(arrOf st'').size:=by rw [hB'.size];omega
   refine wpS_bind (wpS_modify (wpS_pure ⟨rfl,⟨(bubble_perm _ _ _).trans hB'.perm,hB'.kind,hB'.failed,hB'.pend,λj hj=>?_⟩,?_⟩))
   ·show (bubble (arrOf st'') (lo+k) (lo+k-(lo+l)))[j]?=_
    rw [getElem?_bubble hks _ (by omega),if_neg (by omega),if_neg (by omega)]
    exact hB'.pre j hj
   ·rw [show min (k+1) n=k+1 by omega]
    intro i j hi hij hj
    show K (bubble (arrOf st'') (lo+k) (lo+k-(lo+l))) i<=K (bubble (arrOf st'') (lo+k) (lo+k-(lo+l))) j
    rw [K_bubble hks (by omega),K_bubble hks (by omega),show lo+k-(lo+k-(lo+l))=lo+l by omega]
    have g1:∀i,lo<=i->i<lo+l->K (arrOf st'') i<=K (arrOf st'') (lo+k):=λi h1 h2=>by
     have:=hlo (i-lo) (by omega)
     rwa [show lo+(i-lo)=i by omega] at this
    have g2:∀i,lo+l<=i->i<lo+k->K (arrOf st'') (lo+k)<K (arrOf st'') i:=λi h1 h2=>by
     have:=hhi (i-lo) (by omega) (by omega)
     rwa [show lo+(i-lo)=i by omega] at this
    repeat' split
    all_goals first
     | (exfalso;omega)
     | exact Int.le_refl _
     | exact g1 _ (by omega) (by omega)
     | exact Int.le_of_lt (g2 _ (by omega) (by omega))
     | exact hs' _ _ (by omega) (by omega) (by omega)
 ·rintro c st' ⟨hc,hB',hs'⟩
  refine ⟨hc,hB',?_⟩
  rwa [show min (max (max ok 1) n) n=n by omega] at hs'
 ·refine ⟨rfl,hB,λi j hi hij hj=>?_⟩
  by_cases h1:ok=0
  ·rw [show i=j by omega];exact Int.le_refl _
  ·exact hs i j hi hij (by omega)
 ·rintro c st' ⟨rfl,hB',hs'⟩
  exact wpS_pure (h st' hB' hs')
theorem znR{st st1:SortSt}{Q:PUnit->SortSt->Prop}(h:Q ⟨⟩ st1):wpS (model prog w) A E s (set st1:StateT SortSt Sem PUnit) Q st:=by
 unfold wpS
 show wpAny _ _ ((MonadStateOf.set st1:StateT SortSt Sem PUnit).run st) _ _ _
 rw [StateT.run_set]
 exact wpAny_pure ⟨rfl,h⟩
theorem zgI(off:Nat):∀(o:List Keyed)(j:Nat)(arr:Array Keyed)(P Z S:List Keyed),arr.toList=P++Z++S->P.length=off+j->Z.length=o.length ->
  (foldl (λ(a:Array Keyed)(x:Keyed×Nat)=>match x with|(p,j)=>a.setIfInBounds (off+j) p) arr (o.zipIdx j)).toList=P++o++S
 | [],j,arr,P,Z,S,h,_,hz=>by
  have:Z=[]:=length_eq_zero_iff.mp hz
  subst this
  exact h
 | p::o,j,arr,P,[],S,_,_,hz=>by cases hz
 | p::o,j,arr,P,z::Z,S,h,hp,hz=>by
  rw [List.zipIdx_cons,List.foldl_cons]
  have h1:(arr.setIfInBounds (off+j) p).toList=(P++[p])++Z++S:=by
   rw [Array.toList_setIfInBounds,h,List.append_assoc,List.set_append_right _ _ (by omega),hp,Nat.sub_self]
   simp
  have:=zgI off o (j+1) _ (P++[p]) Z S h1 (by rw [length_append,hp];rfl) (by simpa using hz)
  rw [show P++p::o=P++[p]++o by simp]
  exact this
theorem zhs{xs:Array Keyed}{P R S:List Keyed}(h:xs.toList=P++R++S){i:Nat}{p:Keyed}(e:R[i]?=some p):xs[P.length+i]?=some p:=by
 rw [<- getElem?_toList,h,List.append_assoc,List.getElem?_append_right (by omega),show P.length+i-P.length=i by omega,List.getElem?_append_left (List.getElem?_eq_some_iff.mp e).1]
 exact e
theorem zrb{st:SortSt}{P RA RB S:List Keyed}{i pw pw2:Nat}{Q:Bool->SortSt->Prop}(hk:kindOf st=oneType')(hf:failedOf st=none)(iK:∀x∈(arrOf st).toList,zU x)(hL:(arrOf st).toList=P++RA++RB++S)
  (e1:(pendingOf st)[i]?=some (P.length,RA.length,pw)) (e2:(pendingOf st)[i+1]?=some (P.length+RA.length,RB.length,pw2)) (nA:RA≠[]) (nB:RB≠[]) (sA:Srt RA) (sB:Srt RB)
  (h:∀st' M,kindOf st'=oneType'->failedOf st'=none->(arrOf st').toList=P++M++S->M.Perm (RA++RB)->Srt M->pendingOf st'=((pendingOf st).setIfInBounds i (P.length,RA.length+RB.length,pw)).eraseIdxIfInBounds (i+1)->Q true st') :
  wpS (model prog w) A E s (mergeAt' i) Q st:=by
 have lA:=length_pos_iff.mpr nA
 have lB:=length_pos_iff.mpr nB
 have hLa:(arrOf st).toList=P++RA++(RB++S):=by rw [hL,List.append_assoc]
 have hLb:(arrOf st).toList=(P++RA)++RB++S:=hL
 have atA:∀{i p},RA[i]?=some p->(arrOf st)[P.length+i]?=some p:=λ{i p} e=>zhs hLa e
 have atB:∀{i p},RB[i]?=some p->(arrOf st)[P.length+RA.length+i]?=some p:=λ{i p} e=>by have:=zhs hLb e;rwa [length_append] at this
 have inA:∀x∈RA,zU x:=λx hx=>iK x (by rw [hL];simp [hx])
 have inB:∀x∈RB,zU x:=λx hx=>iK x (by rw [hL];simp [hx])
 have soA:∀i j,i<=j->j<RA.length->K (arrOf st) (P.length+i)<=K (arrOf st) (P.length+j):=λi j hij hj=>by
  rw [zam (atA (List.getElem?_eq_getElem (show i<RA.length by omega))),zam (atA (List.getElem?_eq_getElem hj))]
  by_cases e:i=j
  ·subst e;exact Int.le_refl _
  ·exact List.pairwise_iff_getElem.mp sA i j _ _ (by omega)
 have soB:∀i j,i<=j->j<RB.length->K (arrOf st) (P.length+RA.length+i)<=K (arrOf st) (P.length+RA.length+j):=λi j hij hj=>by
  rw [zam (atB (List.getElem?_eq_getElem (show i<RB.length by omega))),zam (atB (List.getElem?_eq_getElem hj))]
  by_cases e:i=j
  ·subst e;exact Int.le_refl _
  ·exact List.pairwise_iff_getElem.mp sB i j _ _ (by omega)
 obtain ⟨b0,RB',rfl⟩:∃b0 RB',RB=b0::RB':=by
  cases RB with
  | nil=>exact absurd rfl nB
  | cons b0 r=>exact ⟨b0,r,rfl⟩
 have b0le:=sB.head (Int.le_refl (kv b0))
 unfold mergeAt'
 refine wpS_bind (wpS_get ?_)
 try dsimp only
 rw [show (pendingOf st)[i]?=some (P.length,RA.length,pw) from e1,show (pendingOf st)[i+1]?=some (P.length+RA.length,(b0::RB').length,pw2) from e2]
 try dsimp only
 refine wpS_bind (znR ?_)
 obtain ⟨st1,es1⟩:∃st1,st1=SortSt.mk' (kindOf st) (arrOf st) (((pendingOf st).setIfInBounds i (P.length,RA.length+(b0::RB').length,pw)).eraseIdxIfInBounds (i+1)) (gallopOf st) (failedOf st):=⟨_,rfl⟩
 have k1:kindOf st1=oneType':=by rw [es1];exact hk
 have f1:failedOf st1=none:=by rw [es1];exact hf
 have a1:arrOf st1=arrOf st:=by rw [es1]
 have p1:pendingOf st1=((pendingOf st).setIfInBounds i (P.length,RA.length+(b0::RB').length,pw)).eraseIdxIfInBounds (i+1):=by rw [es1]
 show wpS _ _ _ _ _ Q (SortSt.mk' (kindOf st) (arrOf st) (((pendingOf st).setIfInBounds i (P.length,RA.length+(b0::RB').length,pw)).eraseIdxIfInBounds (i+1)) (gallopOf st) (failedOf st))
 rw [<- es1]
 have eb0:(arrOf st)[P.length+RA.length]?=some b0:=by have:=atB (i:=0) (p:=b0) rfl;rwa [Nat.add_zero] at this
 refine wpS_bind (zK eb0 ?_)
 refine wpS_bind (zbx k1 (inB b0 (by simp)) (λj h1 h2=>?_) (λj j' h1 h2 h3=>?_) (by omega) λk hkn g1 g2=>?_)
 ·obtain ⟨p,ep⟩:∃p,RA[j-P.length]?=some p:=⟨_,List.getElem?_eq_getElem (by omega)⟩
  have:=atA ep
  rw [show P.length+(j-P.length)=j by omega] at this
  exact ⟨p,this,inA p (mem_of_getElem? ep)⟩
 ·have:=soA (j-P.length) (j'-P.length) (by omega) (by omega)
  rwa [show P.length+(j-P.length)=j by omega,show P.length+(j'-P.length)=j' by omega] at this
 have lA1:∀x∈RA.take k,kv x<=kv b0:=λx hx=>by
  obtain ⟨j,hj⟩:=getElem?_of_mem hx
  have hj2:=(List.getElem?_eq_some_iff.mp hj).1
  rw [length_take] at hj2
  rw [getElem?_take_of_lt (by omega)] at hj
  have:=zeM (g1 j (by omega))
  rw [zam (atA hj)] at this
  exact this
 have lX:∀x∈RA.drop k,kv b0<=kv x:=λx hx=>by
  obtain ⟨j,hj⟩:=getElem?_of_mem hx
  have hj2:=(List.getElem?_eq_some_iff.mp hj).1
  rw [length_drop] at hj2
  rw [getElem?_drop] at hj
  have:=zfW (g2 (k+j) (by omega) (by omega))
  rw [zam (atA hj)] at this
  exact Int.le_of_lt this
 have plain:(∀x∈RA,∀y∈b0::RB',kv x<=kv y)->Q true st1:=λhle=>h st1 (RA++b0::RB') k1 f1 (by rw [a1,hL];simp) (List.Perm.refl _) (pairwise_append.mpr ⟨sA,sB,hle⟩) p1
 try dsimp only
 by_cases hz:RA.length-k=0
 ·rw [if_pos (by simpa using hz)]
  refine wpS_pure (plain λx hx y hy=>Int.le_trans (lA1 x ?_) (b0le y hy))
  rw [take_of_length_le (by omega)];exact hx
 rw [if_neg (by simpa using hz)]
 obtain ⟨xl,exl⟩:∃xl,RA[RA.length-1]?=some xl:=⟨_,List.getElem?_eq_getElem (by omega)⟩
 have exl':(arrOf st)[P.length+k+(RA.length-k)-1]?=some xl:=by have:=atA exl;rwa [show P.length+(RA.length-1)=P.length+k+(RA.length-k)-1 by omega] at this
 have xlge:∀x∈RA,kv x<=kv xl:=λx hx=>by
  obtain ⟨j,hj⟩:=getElem?_of_mem hx
  have hj2:=(List.getElem?_eq_some_iff.mp hj).1
  have:=soA j (RA.length-1) (by omega) (by omega)
  rw [zam (atA hj),zam (atA exl)] at this
  exact this
 refine wpS_bind (zK exl' ?_)
 refine wpS_bind (zbx k1 (inA xl (mem_of_getElem? exl)) (λj h1 h2=>?_) (λj j' h1 h2 h3=>?_) (by omega) λnb hnb g3 g4=>?_)
 ·obtain ⟨p,ep⟩:∃p,(b0::RB')[j-(P.length+RA.length)]?=some p:=⟨_,List.getElem?_eq_getElem (by omega)⟩
  have:=atB ep
  rw [show P.length+RA.length+(j-(P.length+RA.length))=j by omega] at this
  exact ⟨p,this,inB p (mem_of_getElem? ep)⟩
 ·have:=soB (j-(P.length+RA.length)) (j'-(P.length+RA.length)) (by omega) (by omega)
  rwa [show P.length+RA.length+(j-(P.length+RA.length))=j by omega,show P.length+RA.length+(j'-(P.length+RA.length))=j' by omega] at this
 have lY:∀y∈(b0::RB').take nb,kv y<=kv xl:=λx hx=>by
  obtain ⟨j,hj⟩:=getElem?_of_mem hx
  have hj2:=(List.getElem?_eq_some_iff.mp hj).1
  rw [length_take] at hj2
  rw [getElem?_take_of_lt (by omega)] at hj
  have:=zc2 (g3 j (by omega))
  rw [zam (atB hj)] at this
  exact Int.le_of_lt this
 have lB2:∀y∈(b0::RB').drop nb,kv xl<=kv y:=λx hx=>by
  obtain ⟨j,hj⟩:=getElem?_of_mem hx
  have hj2:=(List.getElem?_eq_some_iff.mp hj).1
  rw [length_drop] at hj2
  rw [getElem?_drop] at hj
  have:=zc3 (g4 (nb+j) (by omega) (by omega))
  rw [zam (atB hj)] at this
  exact this
 try dsimp only
 by_cases hz2:nb=0
 ·rw [if_pos (by simpa using hz2)]
  refine wpS_pure (plain λx hx y hy=>Int.le_trans (xlge x hx) (lB2 y ?_))
  rw [hz2];exact hy
 rw [if_neg (by simpa using hz2)]
 have ex:((arrOf st).extract (P.length+k) (P.length+RA.length)).toList=RA.drop k:=by
  rw [toList_extract,extract_eq_drop_take,hLa,List.append_assoc,<- List.drop_drop,List.drop_left,List.drop_append_of_le_length (by omega),List.take_append_of_le_length (by rw [length_drop];omega),take_of_length_le (by rw [length_drop];omega)]
 have ey:((arrOf st).extract (P.length+RA.length) (P.length+RA.length+nb)).toList=(b0::RB').take nb:=by
  rw [toList_extract,extract_eq_drop_take,hLb,List.append_assoc,<- length_append,List.drop_left,show (P++RA).length+nb-(P++RA).length=nb by omega,List.take_append_of_le_length (by omega)]
 have szx:((arrOf st).extract (P.length+k) (P.length+RA.length)).size=RA.length-k:=by rw [<- length_toList,ex,length_drop]
 have szy:((arrOf st).extract (P.length+RA.length) (P.length+RA.length+nb)).size=nb:=by rw [<- length_toList,ey,length_take];omega
 have c1:∀x∈((arrOf st).extract (P.length+k) (P.length+RA.length)).toList,zU x:=λx hx=>by rw [ex] at hx;exact inA x (List.mem_of_mem_drop hx)
 have c2:∀x∈((arrOf st).extract (P.length+RA.length) (P.length+RA.length+nb)).toList,zU x:=λx hx=>by rw [ey] at hx;exact inB x (List.mem_of_mem_take hx)
 have c3:Srt ((arrOf st).extract (P.length+k) (P.length+RA.length)).toList:=by rw [ex];exact sA.sublist (List.drop_sublist _ _)
 have c4:Srt ((arrOf st).extract (P.length+RA.length) (P.length+RA.length+nb)).toList:=by rw [ey];exact sB.sublist (List.take_sublist _ _)
 have c5:∀y,((arrOf st).extract (P.length+RA.length) (P.length+RA.length+nb))[0]?=some y->∀x∈((arrOf st).extract (P.length+k) (P.length+RA.length)).toList,kv y<=kv x:=λy ey0 x hx=>by
  rw [<- getElem?_toList,ey,getElem?_take_of_lt (by omega)] at ey0
  cases ey0
  rw [ex] at hx
  exact lX x hx
 have c6:∀x,((arrOf st).extract (P.length+k) (P.length+RA.length))[((arrOf st).extract (P.length+k) (P.length+RA.length)).size-1]?=some x->∀y∈((arrOf st).extract (P.length+RA.length) (P.length+RA.length+nb)).toList,kv y<=kv x:=λx ex0 y hy=>by
  rw [szx,<- getElem?_toList,ex,getElem?_drop,show k+(RA.length-k-1)=RA.length-1 by omega,exl] at ex0
  cases ex0
  rw [ey] at hy
  exact lY y hy
 have done_:∀(o:Array Keyed)(st2:SortSt),SG st1 st2->Srt o.toList->o.toList.Perm (((arrOf st).extract (P.length+k) (P.length+RA.length)).toList++((arrOf st).extract (P.length+RA.length) (P.length+RA.length+nb)).toList) ->
   Q true (SortSt.mk' (kindOf st2) (foldl (λ(a:Array Keyed)(x:Keyed×Nat)=>match x with|(p,j)=>a.setIfInBounds (P.length+k+j) p) (arrOf st2) o.toList.zipIdx) (pendingOf st2) (gallopOf st2) (failedOf st2)):=λo st2 sg so pm=>by
  rw [ex,ey] at pm
  have lo_:(RA.drop k++(b0::RB').take nb).length=o.toList.length:=pm.length_eq.symm
  have e0:(arrOf st2).toList=(P++RA.take k)++(RA.drop k++(b0::RB').take nb)++((b0::RB').drop nb++S):=by
   rw [sg.a,a1,hL]
   conv=>lhs;rw [<- take_append_drop k RA,<- take_append_drop nb (b0::RB')]
   simp only [List.append_assoc]
  have eo:=zgI (P.length+k) o.toList 0 (arrOf st2) _ _ _ e0 (by rw [length_append,length_take];omega) lo_
  refine h _ (RA.take k++o.toList++(b0::RB').drop nb) (sg.k.trans k1) (sg.f.trans f1) ?_ ?_ ?_ (sg.p.trans p1)
  ·refine eo.trans ?_
   simp only [List.append_assoc]
  ·refine List.Perm.trans ((pm.append_left _).append_right _) ?_
   rw [show RA.take k++(RA.drop k++(b0::RB').take nb)++(b0::RB').drop nb=(RA.take k++RA.drop k)++((b0::RB').take nb++(b0::RB').drop nb) by simp only [List.append_assoc],take_append_drop,take_append_drop]
  ·have sA':Srt (RA.take k++RA.drop k):=by rw [take_append_drop];exact sA
   have sB':Srt ((b0::RB').take nb++(b0::RB').drop nb):=by rw [take_append_drop];exact sB
   have qA:=pairwise_append.mp sA'
   have qB:=pairwise_append.mp sB'
   refine pairwise_append.mpr ⟨pairwise_append.mpr ⟨qA.1,so,λx hx y hy=>?_⟩,qB.2.1,λx hx y hy=>?_⟩
   ·rcases mem_append.mp (pm.mem_iff.mp hy) with hy|hy
    ·exact qA.2.2 x hx y hy
    ·exact Int.le_trans (lA1 x hx) (b0le y (List.mem_of_mem_take hy))
   ·rcases mem_append.mp hx with hx|hx
    ·exact Int.le_trans (lA1 x hx) (b0le y (List.mem_of_mem_drop hy))
    ·rcases mem_append.mp (pm.mem_iff.mp hx) with hx|hx
     ·exact Int.le_trans (xlge x (List.mem_of_mem_drop hx)) (lB2 y hy)
     ·exact qB.2.2 x hx y hy
 try dsimp only
 by_cases hle:RA.length-k<=nb
 all_goals first|rw [if_pos hle]|rw [if_neg hle]
 ·refine wpS_bind (zku k1 c1 c2 c3 c4 (by rw [szx];omega) (by rw [szy];omega) c5 c6 λo st2 sg so pm=>?_)
  refine wpS_bind (wpS_modify ?_)
  refine wpS_bind (wpS_get (wpS_pure ?_))
  have:=done_ o st2 sg so pm
  have ef:(failedOf st2).isNone=true:=by rw [sg.f,f1];rfl
  show Q (failedOf st2).isNone _
  rw [ef]
  exact this
 ·refine wpS_bind (zo1 k1 c1 c2 c3 c4 (by rw [szx];omega) (by rw [szy];omega) c5 c6 λo st2 sg so pm=>?_)
  refine wpS_bind (wpS_modify ?_)
  refine wpS_bind (wpS_get (wpS_pure ?_))
  have:=done_ o st2 sg so pm
  have ef:(failedOf st2).isNone=true:=by rw [sg.f,f1];rfl
  show Q (failedOf st2).isNone _
  rw [ef]
  exact this
end
def zX:List (Nat×Nat×Nat)->List (List Keyed)->Nat->Prop
 | [],[],_=>True
 | (o,n,_)::p,r::rs,off=>o=off/\n=r.length/\r≠[]/\Srt r/\zX p rs (off+r.length)
 | _,_,_=>False
theorem zX.len:∀{p:List (Nat×Nat×Nat)}{rs:List (List Keyed)}{off:Nat},zX p rs off->p.length=rs.length
 | [],[],_,_=>rfl
 | (_,_,_)::p,r::rs,off,h=>by rw [length_cons,length_cons,zX.len h.2.2.2.2]
 | [],_::_,_,h=>h.elim
 | _::_,[],_,h=>by cases h
theorem zX.flat:∀{p:List (Nat×Nat×Nat)}{rs:List (List Keyed)}{off:Nat},zX p rs off->rs.length<=rs.flatten.length
 | [],[],_,_=>Nat.le_refl _
 | (_,_,_)::p,r::rs,off,h=>by
  have h1:=zX.flat h.2.2.2.2
  have h2:=length_pos_iff.mpr h.2.2.1
  rw [length_cons,flatten_cons,length_append];omega
 | [],_::_,_,h=>h.elim
 | _::_,[],_,h=>by cases h
theorem zX.one:∀{p:List (Nat×Nat×Nat)}{rs:List (List Keyed)}{off:Nat},zX p rs off->rs.length<=1->Srt rs.flatten
 | [],[],_,_,_=>List.Pairwise.nil
 | (_,_,_)::p,[r],off,h,_=>by rw [flatten_cons,List.flatten_nil,append_nil];exact h.2.2.2.1
 | (_,_,_)::p,_::_::_,off,h,hl=>by simp at hl
 | [],_::_,_,h,_=>h.elim
 | _::_,[],_,h,_=>by cases h
theorem zX.push:∀{p:List (Nat×Nat×Nat)}{rs:List (List Keyed)}{off:Nat},zX p rs off->∀{r:List Keyed}{o n pw:Nat},r≠[]->Srt r->o=off+rs.flatten.length->n=r.length->zX (p++[(o,n,pw)]) (rs++[r]) off
 | [],[],_,_,r,o,n,pw,h1,h2,h3,h4=>⟨h3,h4,h1,h2,trivial⟩
 | (_,_,_)::p,r'::rs,off,h,r,o,n,pw,h1,h2,h3,h4=>⟨h.1,h.2.1,h.2.2.1,h.2.2.2.1,zX.push h.2.2.2.2 h1 h2 (by rw [h3,flatten_cons,length_append];omega) h4⟩
 | [],_::_,_,h,_,_,_,_,_,_,_,_=>h.elim
 | _::_,[],_,h,_,_,_,_,_,_,_,_=>by cases h
theorem zX.mod(pw:Nat):∀{p:List (Nat×Nat×Nat)}{rs:List (List Keyed)}{off:Nat}(i:Nat),zX p rs off->zX (p.modify i λx=>match x with|(st,len,_)=>(st,len,pw)) rs off
 | [],rs,off,i,h=>by rw [List.modify_nil];exact h
 | (_,_,_)::p,r::rs,off,0,h=>by rw [List.modify_zero_cons];exact h
 | (_,_,_)::p,r::rs,off,i+1,h=>by rw [List.modify_succ_cons];exact ⟨h.1,h.2.1,h.2.2.1,h.2.2.2.1,zX.mod pw i h.2.2.2.2⟩
 | _::_,[],_,_,h=>by cases h
theorem zX.split:∀{p:List (Nat×Nat×Nat)}{rs:List (List Keyed)}{off:Nat}(i:Nat),zX p rs off->i+1<p.length->∃R1 r1 r2 R2 pw pw2,rs=R1++r1::r2::R2 /\
  p[i]?=some (off+R1.flatten.length,r1.length,pw)/\p[i+1]?=some (off+R1.flatten.length+r1.length,r2.length,pw2)/\r1≠[]/\r2≠[]/\Srt r1/\Srt r2 /\
  ∀M:List Keyed,M.length=r1.length+r2.length->Srt M->zX ((p.set i (off+R1.flatten.length,r1.length+r2.length,pw)).eraseIdx (i+1)) (R1++M::R2) off
 | (_,_,pw)::(_,_,pw2)::p,r1::r2::rs,off,0,⟨rfl,rfl,h1,h2,rfl,rfl,h3,h4,h5⟩,_=>⟨[],r1,r2,rs,pw,pw2,rfl,rfl,rfl,h1,h3,h2,h4,λM hM sM=>by
   refine ⟨rfl,hM.symm,?_,sM,?_⟩
   ·rintro rfl
    have:=length_pos_iff.mpr h1
    simp at hM;omega
   ·rw [hM,<- Nat.add_assoc];exact h5⟩
 | (_,_,_)::p,r::rs,off,i+1,⟨rfl,rfl,h1,h2,h3⟩,hi=>by
  obtain ⟨R1,r1,r2,R2,pw,pw2,e,e1,e2,n1,n2,s1,s2,hM⟩:=zX.split i h3 (by simpa using hi)
  refine ⟨r::R1,r1,r2,R2,pw,pw2,by rw [e];rfl,?_,?_,n1,n2,s1,s2,λM l sM=>?_⟩
  ·rw [List.getElem?_cons_succ,e1,flatten_cons,length_append,Nat.add_assoc]
  ·rw [List.getElem?_cons_succ,e2,flatten_cons,length_append,Nat.add_assoc _ r.length]
  ·rw [List.set_cons_succ,List.eraseIdx_cons_succ,flatten_cons,length_append,<- Nat.add_assoc]
   exact ⟨rfl,rfl,h1,h2,hM M l sM⟩
 | [],_,_,_,_,hi=>by simp at hi
 | [_],_,_,0,_,hi=>by simp at hi
 | _::_,[],_,_,h,_=>by cases h
 | (_,_,_)::_::_,[_],_,0,h,_=>by cases h.2.2.2.2
structure SI(a₀:Array Keyed)(rs:List (List Keyed))(zo:List Keyed)(st:SortSt):Prop where
 kind:kindOf st=oneType'
 failed:failedOf st=none
 list:(arrOf st).toList=rs.flatten++zo
 perm:(arrOf st).Perm a₀
 runs:zX (pendingOf st).toList rs 0
theorem SI.size{a₀:Array Keyed}{rs zo st}(h:SI a₀ rs zo st):rs.flatten.length+zo.length=a₀.size:=by
 have:=congrArg length h.list
 rw [length_append,length_toList,h.perm.size_eq] at this
 exact this.symm
theorem SI.intK{a₀:Array Keyed}{rs zo st}(h:SI a₀ rs zo st)(iK:∀x∈a₀.toList,zU x):∀x∈(arrOf st).toList,zU x:=λx hx=>iK x ((Array.perm_iff_toList_perm.mp h.perm).mem_iff.mp hx)
theorem SI.found{a₀:Array Keyed}{rs zo st st' m}(h:SI a₀ rs zo st)(hB:SB (arrOf st) (pendingOf st) rs.flatten.length st')(hs:zab (arrOf st') rs.flatten.length m)(h1:1<=m)(h2:rs.flatten.length+m<=a₀.size) :
  ∃R rest',SI a₀ rs (R++rest') st'/\R.length=m/\R≠[]/\Srt R:=by
 have sz:(arrOf st').toList.length=a₀.size:=by rw [length_toList,hB.size,h.perm.size_eq]
 have e1:(arrOf st').toList.take rs.flatten.length=rs.flatten:=by
  refine List.ext_getElem? λk=>?_
  by_cases hk:k<rs.flatten.length
  ·rw [getElem?_take_of_lt hk,getElem?_toList,hB.pre k hk,<- getElem?_toList,h.list,List.getElem?_append_left hk]
  ·rw [List.getElem?_eq_none (by rw [length_take];omega),List.getElem?_eq_none (by omega)]
 have e2:(arrOf st').toList=rs.flatten++(((arrOf st').toList.drop rs.flatten.length).take m++((arrOf st').toList.drop rs.flatten.length).drop m):=by
  rw [take_append_drop]
  conv=>lhs;rw [<- take_append_drop rs.flatten.length (arrOf st').toList,e1]
 have lR:(((arrOf st').toList.drop rs.flatten.length).take m).length=m:=by rw [length_take,length_drop,sz];omega
 refine ⟨_,_,⟨hB.kind,hB.failed,e2,hB.perm.trans h.perm,by rw [hB.pend];exact h.runs⟩,lR,?_,?_⟩
 ·rw [<- length_pos_iff,lR];exact h1
 ·refine List.pairwise_iff_getElem.mpr λi j hi hj hij=>?_
  rw [lR] at hi hj
  have q:=hs (rs.flatten.length+i) (rs.flatten.length+j) (by omega) (by omega) (by omega)
  have at_:∀i,(hi:i<(((arrOf st').toList.drop rs.flatten.length).take m).length)->K (arrOf st') (rs.flatten.length+i)=kv ((((arrOf st').toList.drop rs.flatten.length).take m)[i]):=λi hi=>by
   refine zam ?_
   rw [<- getElem?_toList,<- getElem?_drop,<- getElem?_take_of_lt (show i<m by rw [lR] at hi;exact hi)]
   exact List.getElem?_eq_getElem hi
  rw [at_ i (by rw [lR];exact hi),at_ j (by rw [lR];exact hj)] at q
  exact q
section
variable {prog:Program}{w:World}{A:Around}{E:Value->Shared->Prop}{s:Shared}{a₀:Array Keyed}
theorem SI.merge{rs zo st i}{Q:Bool->SortSt->Prop}(iK:∀x∈a₀.toList,zU x)(h:SI a₀ rs zo st)(hi:i+1<(pendingOf st).size)
  (hQ:∀st' rs',SI a₀ rs' zo st'->rs'.length+1=rs.length->rs'.flatten.length=rs.flatten.length->Q true st'):wpS (model prog w) A E s (mergeAt' i) Q st:=by
 obtain ⟨R1,r1,r2,R2,pw,pw2,e,e1,e2,n1,n2,s1,s2,hM⟩:=h.runs.split i (by simpa using hi)
 rw [zero_add] at e1 e2 hM
 rw [getElem?_toList] at e1 e2
 refine zrb (P:=R1.flatten) (RA:=r1) (RB:=r2) (S:=R2.flatten++zo) h.kind h.failed (h.intK iK) (by rw [h.list,e];simp) e1 e2 n1 n2 s1 s2 λst' M k f l pm sM pd=>hQ st' (R1++M::R2) ⟨k,f,?_,?_,?_⟩ (by rw [e];simp;omega) (by rw [e];have:=pm.length_eq;simp at this ⊢;omega)
 ·rw [l];simp
 ·refine Array.perm_iff_toList_perm.mpr (List.Perm.trans ?_ (Array.perm_iff_toList_perm.mp h.perm))
  rw [l,h.list,e]
  have:=((pm.append_left R1.flatten).append_right (R2.flatten++zo))
  simpa using this
 ·rw [pd,Array.toList_eraseIdxIfInBounds,Array.toList_setIfInBounds]
  exact hM M (by rw [pm.length_eq,length_append]) sM
theorem zrO{st:SortSt}{Q:Unit->SortSt->Prop}(iK:∀x∈a₀.toList,zU x)(h0:kindOf st=oneType')(h1:failedOf st=none)(h2:pendingOf st = #[])(h3:(arrOf st)=a₀)
  (h:∀st',(arrOf st').Perm a₀->failedOf st'=none->SortedTo (arrOf st') a₀.size->Q () st'):wpS (model prog w) A E s sortRuns' Q st:=by
 rw [sortRuns'_eq]
 refine wpS_bind (wpS_get ?_)
 dsimp only
 simp only [h3]
 refine wpS_bind (wpS_mono (wpS_forRange
  (I:=λx c st'=>∃rs zo,SI a₀ rs zo st'/\x<=rs.flatten.length/\c=(none,rs.flatten.length))
  (Q:=λc st'=>∃rs,SI a₀ rs [] st'/\c=(none,rs.flatten.length)) ?_ ?_ ⟨[],a₀.toList,⟨h0,h1,by rw [h3];rfl,by rw [h3],by rw [h2];trivial⟩,Nat.le_refl _,rfl⟩) ?_)
 ·rintro x c st' _ hx ⟨rs,zo,hI,hxl,rfl⟩
  have hsz:=hI.size
  try dsimp only
  by_cases hge:rs.flatten.length ≥ a₀.size
  ·rw [if_pos hge]
   have:zo=[]:=length_eq_zero_iff.mp (by omega)
   subst this
   exact wpS_pure ⟨rs,hI,rfl⟩
  rw [if_neg hge]
  have hsa:(arrOf st').size=a₀.size:=hI.perm.size_eq
  have done_:∀(R rest':List Keyed),R≠[]->Srt R->∀(rs4:List (List Keyed))(st4:SortSt),SI a₀ rs4 (R++rest') st4->rs4.flatten.length=rs.flatten.length ->
    ∃rs5 rest5,SI a₀ rs5 rest5 (setPending st4 ((pendingOf st4).push (rs.flatten.length,R.length,0)))/\x+1<=rs5.flatten.length/\((none:Option Unit),rs.flatten.length+R.length)=(none,rs5.flatten.length):=λR rest' nR sR rs4 st4 h4 e4=>by
   have lR:=length_pos_iff.mpr nR
   have e5:(rs4++[R]).flatten=rs4.flatten++R:=by simp
   refine ⟨rs4++[R],rest',⟨h4.kind,h4.failed,?_,h4.perm,?_⟩,?_,?_⟩
   ·rw [e5,List.append_assoc];exact h4.list
   ·show zX ((pendingOf st4).push _).toList _ _
    rw [toList_push]
    exact h4.runs.push nR sR (by rw [e4,zero_add]) rfl
   ·rw [e5,length_append,e4];omega
   ·rw [e5,length_append,e4]
  refine wpS_bind (zq0 (hI.intK iK) (by omega) (by omega) ⟨Array.Perm.refl _,hI.kind,hI.failed,rfl,λ_ _=>rfl⟩ λm st2 hB2 hm1 hm2 hs2=>?_)
  try dsimp only
  by_cases hlt:m<minRun' a₀.size a₀.size 0
  rw [if_pos hlt]
  refine wpS_bind (wpS_lift (wpAny_rule ⟨rfl,?_⟩))
  refine wpS_bind (zoz (hI.intK iK) (by omega) (by omega) hB2 hs2 λst3 hB3 hs3=>?_)
  simp only [Bool.not_true,false_eq_true,if_false]
  obtain ⟨R,rest',hI3,lR,nR,sR⟩:=hI.found hB3 hs3 (by omega) (by omega)
  rw [<- lR]
  rotate_left
  rw [if_neg hlt]
  obtain ⟨R,rest',hI3,lR,nR,sR⟩:=hI.found hB2 hs2 (by omega) (by omega)
  rw [<- lR]
  all_goals
   refine wpS_bind (wpS_get ?_)
   try dsimp only
   split
   ·rename_i s1 n1 pw eb
    refine wpS_bind (wpS_mono (wpS_forRange (I:=λx c st4=>c=(none,())/\∃rs4,SI a₀ rs4 (R++rest') st4/\rs4.flatten.length=rs.flatten.length) (Q:=λc st4=>c=(none,())/\∃rs4,SI a₀ rs4 (R++rest') st4/\rs4.flatten.length=rs.flatten.length) ?_ (λc st4 h=>h) ⟨rfl,rs,hI3,rfl⟩) ?_)
    ·rintro y c st4 _ _ ⟨rfl,rs4,h4,e4⟩
     refine wpS_bind (wpS_get ?_)
     try dsimp only
     split
     ·rename_i o1 o2 o3 eo
      by_cases ho:o3<=power' a₀.size (2*s1+n1) (2*s1+n1+n1+R.length) a₀.size
      ·rw [if_pos ho]
       exact wpS_pure ⟨rfl,rs4,h4,e4⟩
      rw [if_neg ho]
      have h1:(pendingOf st4).size>1:=by
       by_cases h1:(pendingOf st4).size>1
       ·exact h1
       ·rw [if_neg h1] at eo;cases eo
      refine wpS_bind (h4.merge iK (by omega) λst6 rs6 h6 l6 e6=>?_)
      simp only [Bool.not_true,false_eq_true,if_false]
      exact wpS_pure ⟨rfl,rs6,h6,e6.trans e4⟩
     ·exact wpS_pure ⟨rfl,rs4,h4,e4⟩
    ·rintro c st4 ⟨rfl,rs4,h4,e4⟩
     try dsimp only
     refine wpS_bind (wpS_modify (wpS_bind (wpS_modify (wpS_pure (done_ R rest' nR sR rs4 _ ⟨h4.kind,h4.failed,h4.list,h4.perm,?_⟩ e4)))))
     show zX ((pendingOf st4).modify _ _).toList _ _
     rw [Array.toList_modify]
     exact h4.runs.mod _ _
   ·exact wpS_bind (wpS_modify (wpS_pure (done_ R rest' nR sR rs _ hI3 rfl)))
 ·rintro c st' ⟨rs,zo,hI,hxl,rfl⟩
  have hsz:=hI.size
  have:zo=[]:=length_eq_zero_iff.mp (by omega)
  subst this
  exact ⟨rs,hI,rfl⟩
 ·rintro c st' ⟨rs,hI,rfl⟩
  dsimp only
  refine wpS_bind (wpS_mono (wpS_forRange (I:=λx c st''=>c=(none,())/\∃rs,SI a₀ rs [] st''/\rs.length+x<=a₀.size) (Q:=λc st''=>c=(none,())/\∃rs,SI a₀ rs [] st''/\rs.length<=1) ?_ ?_ ⟨rfl,rs,hI,?_⟩) ?_)
  ·rintro x c st'' _ _ ⟨rfl,rs,hI,hl⟩
   refine wpS_bind (wpS_get ?_)
   have lp:(pendingOf st'').size=rs.length:=hI.runs.len
   by_cases hle:(pendingOf st'').size<=1
   ·rw [if_pos hle]
    exact wpS_pure ⟨rfl,rs,hI,by omega⟩
   rw [if_neg hle]
   try dsimp only
   refine wpS_bind (hI.merge iK ?_ λst3 rs3 hI3 l3 f3=>?_)
   ·have g:∀(b:Bool),(if b=true then (pendingOf st'').size-2-1 else (pendingOf st'').size-2)+1<(pendingOf st'').size:=λb=>by split<;>omega
    exact g _
   ·simp only [Bool.not_true,false_eq_true,if_false]
    exact wpS_pure ⟨rfl,rs3,hI3,by omega⟩
  ·rintro c st'' ⟨rfl,rs,hI,hl⟩
   exact ⟨rfl,rs,hI,by omega⟩
  ·have:=hI.runs.flat
   have:=hI.size
   rw [length_nil] at this;omega
  ·rintro c st'' ⟨rfl,rs,hI,hl⟩
   refine wpS_pure (h _ hI.perm hI.failed λi j hij hj=>?_)
   have:Srt (arrOf st'').toList:=by
    rw [hI.list,append_nil]
    exact hI.runs.one hl
   exact this.K hij (by rw [hI.perm.size_eq];exact hj)
end
section
variable {prog:Program}{w:World}{A:Around}{E:Value->Shared->Prop}{s:Shared}
theorem sort_any{a:Addr}{vs:List Value}{ns:List Int}{n:Nat}{P:Fin->Shared->Prop}(ho:s.heap.get? a=some (seqObj "list" vs.toArray n))(hI:IntsAre vs ns)(hz:vs.length<3000)
  (h:∀(out:Array Value)(ns':List Int),IntsAre out.toList ns'->ns'.Perm ns->ns'.Pairwise (·<=·)->P (.done (.ret .none)) { s with heap:=sortedHeap s.heap a vs out }) :
  wpAny (model prog w) A (Builtin.«list.sort» ⟨[.ref a],[]⟩) P E s:=by
 by_cases h64:vs.length<64
 ·exact list_sort_tree ho hI h64 h
 match vs,h64 with
 | [],h64=>exact absurd (show 0<64 by omega) h64
 | [_],h64=>exact absurd (show 1<64 by omega) h64
 | v₁::v₂::zo,h64 =>
 have hs : ¬ (v₁::v₂::zo).toArray.size<2:=by simp
 have hL:∀{k:Nat},k=(v₁::v₂::zo).length->k<=sizeLine+1:=λe=>by rw [e,sizeLine_eq];omega
 have hT:(v₁::v₂::zo).length<=sizeLine:=by rw [sizeLine_eq];omega
 rw [list_sort_plain]
 obtain ⟨e1,ho1⟩:∃e1,(s.heap.update a (mapSeq λ_=>#[])).get? a=some (seqObj "list" #[] e1):=⟨_,get?_update_seq ho (λ_=>#[])⟩
 refine wpAny_bind (listItems_at ho rfl (wpAny_bind (listUpdate_at ho rfl (wpAny_bind (seqEpoch_at ho1 rfl (wpAny_bind (wpAny_newTuple (wpAny_bind (wpAny_newList (wpAny_holding ?_)))  hT)))) (by rw [size_toArray,sizeLine_eq];omega))))
 have ha:a<s.heap.objs.size:=lt_size ho
 have ho6:(((s.heap.update a (mapSeq λ_=>#[])).push (seqObj "tuple" (v₁::v₂::zo).toArray 0)).push (seqObj "list" #[] 0)).get? a=some (seqObj "list" #[] e1):=get?_push_of_some _ (get?_push_of_some _ ho1)
 show wpAny (model prog w) A _ P E { s with heap:=((s.heap.update a (mapSeq λ_=>#[])).push (seqObj "tuple" (v₁::v₂::zo).toArray 0)).push (seqObj "list" #[] 0) }
 dsimp only
 rw [if_neg hs,if_neg hs,keyKind_ints hI]
 refine wpAny_bind (wpAny_pure (wpAny_bind (wpAny_mono (zrO (a₀:=pairsOf (v₁::v₂::zo)) (st:=SortSt.mk' oneType' ((v₁::v₂::zo).toArray.zip (v₁::v₂::zo).toArray) #[] 7 none)
   (Q:=λ_ st'=>(arrOf st').Perm (pairsOf (v₁::v₂::zo))/\failedOf st'=none/\SortedTo (arrOf st') (pairsOf (v₁::v₂::zo)).size) ?_ rfl rfl rfl rfl λ_ a1 a2 a3=>⟨a1,a2,a3⟩) ?_ λ_ _ e=>e)))
 ·intro x hx
  exact hI.intKeys x hx
 ·rintro ⟨⟨⟩,st'⟩ s' ⟨rfl,hp,hf,hs⟩
  dsimp only
  refine wpAny_bind (seqEpoch_at ho6 rfl (wpAny_bind (listUpdate_at ho6 rfl ?_ (hsz2:=hL ((Array.size_map ..).trans (hp.size_eq.trans (pairsOf_size _)))))))
  rw [hf]
  simp only [bne_self_eq_false,false_eq_true,if_false]
  obtain ⟨ns',h1,h2,h3⟩:=sorted_out hI hp hs
  exact wpAny_pure (h _ ns' h1 h2 h3)
end
end Ts
namespace L2
open PySem PySem.Spec PyProof.Rows PySem.W PySem.Calls
def zha(P:Program)(w:World):List V->Hp->VK->Prop:=λxs H Q=>uR1 xs λa=>∃ms:List Int,H a=some (zaX P w a ms)/\ms.length<3000/\∀p (ns:List Int) H2,New H p (.lst (ns.map V.int)) H2->ns.Perm ms->ns.Pairwise (·<=·)->Q (.ref p) H2
theorem znw{P:Program}{w:World}{a:Addr}{H:Hp}{Q:VK}:zha P w [.ref a] H Q = ∃ms:List Int,H a=some (zaX P w a ms)/\ms.length<3000/\∀p (ns:List Int) H2,New H p (.lst (ns.map V.int)) H2->ns.Perm ms->ns.Pairwise (·<=·)->Q (.ref p) H2:=zaT
theorem zfy{X:Cx}(hc:X.calm=true):zR X (.builtin "sorted") (zha X.prog X.w):=by
 intro Ga s σ H xs us Q I r h
 obtain ⟨a,rfl,ms,hq,h64,q⟩:=h
 obtain ⟨u,rfl,ru⟩:=zb1 r
 cases ru
 refine call_function_entry kind_sorted plain_sorted entry_sorted (args_sorted1 _) ?_
 unfold Builtin.«sorted»
 refine wpAny_bind (m:=checkCount "sorted" 1 1 _) (wpAny_pure (wpAny_bind (zj6 (A:=X.A.in1) (I.ok.hd hc) (zk0 I.hok hq) λh' tk d acc ns hk hacc pm=>?_)))
 have hl:acc.length=ms.length:=by rw [zhA hacc,pm.length_eq]
 have I1:Inv X Ga σ H { s with heap:=h',toks:=tk,drawn:=d }:=(I.kept (t':=tk) hk).drew
 refine wpAny_bind (wpAny_newList ?_ (by rw [hl,sizeLine_eq];omega))
 have hoL:(h'.push (seqObj "list" acc.toArray 0)).get? h'.objs.size=some (seqObj "list" acc.toArray 0):=get?_push_size _ rfl
 refine wpAny_bind (wpAny_holding (wpAny_call_entry slot_list_sort ⟨_,hoL,rfl⟩ entry_list_sort (Ts.sort_any hoL hacc (by rw [hl];exact h64) λout ns' b1 b2 b3=>⟨_,rfl,?_⟩) (args_list_sort _)))
 obtain ⟨c,hcz⟩:=sortedHeap_at (vs:=acc) (out:=out) hoL
 refine wpAny_pure ⟨_,rfl,.ref h'.objs.size,upd H h'.objs.size (.lst (ns'.map V.int)),I1.laid (a:=h'.objs.size) (t':=tk) (λb o e=>?_) (Nat.le_refl _) ⟨?_,out.toList,c,zfx b1,by rw [Array.toArray_toList];exact hcz⟩,rfl,q _ ns' _ (.mk' (I1.hok.fresh (Nat.le_refl _))) (b2.trans pm) b3⟩
 ·have hb:b<h'.objs.size:=lt_size e
  rw [sortedHeap_old (ne_of_lt hb) (by rw [size_push'];exact lt_succ_of_lt hb)]
  exact get?_push_of_some _ e
 ·have:=b2.length_eq
  rw [length_map,this,pm.length_eq,sizeLine_eq]
  omega
end L2
namespace K21
open PySem PySem.Spec PyProof.Rows L2
open PySem.W (Frag OpenLaw WalkO findIn kitOne mroIn specialIn)
local macro_rules | `(tactic| simp_all only [$ls,*])=>`(tactic| try simp only [zb5,tC,zgu,tOr,zgx,tIf,zgt,zfh,zk7,zor,zeN,zgm,zjA,zfu,zbv,zjG,zqQ,zdA,zl1,ipI,tOp,tUn,zbo,zd8,zfp,zfI,zfG,zdF,zgl,zqL,zlJ,tCB,zes,zss,zsA,zhr,zht,zpJ,zeh,zeF,zgj,ziN,zrh,zod,zmC,zkQ,zjD,zlB,zcV,zlH,zkK,zog,zf2,zlA,zjx,zmP,zq6,zrU,zmd,zjU,zlO,zpz,zjQ,zpu,zkG,zgN,zjT,zjo,zjp,zpX,zf5,zrG,zsr,zqv,zsK,zsb,zm1,zoG,zok,zni,zl4,zaM,bind_some,Option.bind_none,Option.join_some,ze0,and_assoc,exists_and_left,exists_and_right,exists_eq_left',exists_eq_left,exists_eq,exists_eq',exists_eq_right,exists_eq_right',and_true,true_and,and_false,false_and,or_false,false_or,exists_false,exists_const,Option.some.injEq,V.int.injEq,V.str.injEq,V.ref.injEq,V.bl.injEq,V.ty.injEq,HO.lst.injEq,HO.tup.injEq,HO.ins.injEq,List.cons.injEq,reduceCtorEq,reduceIte,false_eq_true,List.getElem?_cons_zero,List.getElem?_cons_succ,List.set_cons_zero,List.set_cons_succ,List.nil_append,List.cons_append,append_nil,length_cons,length_nil,L2.start,map_cons,map_nil,replicate,Nat.reduceSub,Nat.reduceAdd,Bool.not_true,Bool.not_false,zom,zrW,zjK,zkd,zjn,zlr,zmA,zox,zhv,ziD,tSl,zgz,zqP,zsS,zir,zfF,zpy,zrl,zeI,zel,zhf,zsE,zj4,zaT,zsO,zle,zme,zoH,zpT,zrt,zpD,zjC,zqc,zmX,zs0,zpM,zn8,zgM,zjk,zjs,zmt,zpm,zn2,zjt,zlL,zsG,zlU,zki,zj9,zmG,zkb,zgP,zhx,zrr,zmj,zkO,zpo,zms,zl7,zmM,zrA,zpI,zjV,zpR,zju,zps,zml,zrJ,zjX,zkz,zpF,zpG,zkH,zmH,zpK,zmY,zkq,zqW,zo0,zoW,zse,zp0,zpd,zkr,zow,zlX,zoR,zrM,zj5,zma,zp9,zj2,zsB,zjr,zrn,zmr,zpn,znJ,zoY,zkE,zoo,znK,zpS,zqk,zk5,znZ,zny,zsy,zp6,zop,zmn,zpC,zo2,zp8,zkS,znI,zk2,zrP,zk3,zov,zlh,zqR,zls,zsQ,zmD,zrD,zpO,zsN,zsP,zre,zmv,zqx,zpv,zlx,znw,$ls,*])
def top(i:Nat):Stmt:=PySem.Challenge.pw_cleanrows_k21_whole_put_and_cut.main.body.getD i (.Pass ⟨0,0,0,0⟩)
structure zj where
 CleanError:Addr
 NoRow:Addr
 NoDisk:Addr
 Full:Addr
 Stopped:Addr
 NoFile:Addr
 NoPlace:Addr
 HeldAlready:Addr
 NotHeld:Addr
 NoFiles:Addr
 NoMark:Addr
 NoRoom:Addr
 Gone:Addr
 NotClosed:Addr
 NotBlank:Addr
 NoDeed:Addr
 NoHouse:Addr
 Files:Addr
structure Txt(K:Frag)(mg:Str->Option Value)(A:zj):Prop where
 n_ValueError:mg "ValueError"=none
 n_bool:mg "bool"=none
 n_divmod:mg "divmod"=none
 n_enumerate:mg "enumerate"=none
 n_int:mg "int"=none
 n_isinstance:mg "isinstance"=none
 n_len:mg "len"=none
 n_list:mg "list"=none
 n_max:mg "max"=none
 n_min:mg "min"=none
 n_range:mg "range"=none
 n_set:mg "set"=none
 n_sorted:mg "sorted"=none
 mg_CleanError:mg "CleanError"=some (.ref A.CleanError)
 mg_NoRow:mg "NoRow"=some (.ref A.NoRow)
 mg_NoDisk:mg "NoDisk"=some (.ref A.NoDisk)
 mg_Full:mg "Full"=some (.ref A.Full)
 mg_Stopped:mg "Stopped"=some (.ref A.Stopped)
 mg_NoFile:mg "NoFile"=some (.ref A.NoFile)
 mg_NoPlace:mg "NoPlace"=some (.ref A.NoPlace)
 mg_HeldAlready:mg "HeldAlready"=some (.ref A.HeldAlready)
 mg_NotHeld:mg "NotHeld"=some (.ref A.NotHeld)
 mg_NoFiles:mg "NoFiles"=some (.ref A.NoFiles)
 mg_NoMark:mg "NoMark"=some (.ref A.NoMark)
 mg_NoRoom:mg "NoRoom"=some (.ref A.NoRoom)
 mg_Gone:mg "Gone"=some (.ref A.Gone)
 mg_NotClosed:mg "NotClosed"=some (.ref A.NotClosed)
 mg_NotBlank:mg "NotBlank"=some (.ref A.NotBlank)
 mg_NoDeed:mg "NoDeed"=some (.ref A.NoDeed)
 mg_NoHouse:mg "NoHouse"=some (.ref A.NoHouse)
 mg_Files:mg "Files"=some (.ref A.Files)
 ek_CleanError:zaE K A.CleanError
 ek_NoFile:zaE K A.NoFile
 ek_NoPlace:zaE K A.NoPlace
 ec_NoFile:zcz K A.NoFile
 mro_NoFile:mroIn K A.NoFile (.ref A.CleanError)=some true
 k_NoFile_ValueError:kitOne K (.ref A.NoFile) (.type "ValueError")=some true
 k_NoFile_NoRow:kitOne K (.ref A.NoFile) (.ref A.NoRow)=some false
 k_NoFile_NoDisk:kitOne K (.ref A.NoFile) (.ref A.NoDisk)=some false
 k_NoFile_Full:kitOne K (.ref A.NoFile) (.ref A.Full)=some false
 k_NoFile_Stopped:kitOne K (.ref A.NoFile) (.ref A.Stopped)=some false
 k_NoFile_NoFile:kitOne K (.ref A.NoFile) (.ref A.NoFile)=some true
 k_NoFile_NoPlace:kitOne K (.ref A.NoFile) (.ref A.NoPlace)=some false
 k_NoFile_HeldAlready:kitOne K (.ref A.NoFile) (.ref A.HeldAlready)=some false
 k_NoFile_NotHeld:kitOne K (.ref A.NoFile) (.ref A.NotHeld)=some false
 k_NoFile_NoFiles:kitOne K (.ref A.NoFile) (.ref A.NoFiles)=some false
 k_NoFile_NoMark:kitOne K (.ref A.NoFile) (.ref A.NoMark)=some false
 k_NoFile_NoRoom:kitOne K (.ref A.NoFile) (.ref A.NoRoom)=some false
 k_NoFile_Gone:kitOne K (.ref A.NoFile) (.ref A.Gone)=some false
 k_NoFile_NotClosed:kitOne K (.ref A.NoFile) (.ref A.NotClosed)=some false
 k_NoFile_NotBlank:kitOne K (.ref A.NoFile) (.ref A.NotBlank)=some false
 k_NoFile_NoDeed:kitOne K (.ref A.NoFile) (.ref A.NoDeed)=some false
 k_NoFile_NoHouse:kitOne K (.ref A.NoFile) (.ref A.NoHouse)=some false
 ec_NoPlace:zcz K A.NoPlace
 mro_NoPlace:mroIn K A.NoPlace (.ref A.CleanError)=some true
 k_NoPlace_ValueError:kitOne K (.ref A.NoPlace) (.type "ValueError")=some true
 k_NoPlace_NoRow:kitOne K (.ref A.NoPlace) (.ref A.NoRow)=some false
 k_NoPlace_NoDisk:kitOne K (.ref A.NoPlace) (.ref A.NoDisk)=some false
 k_NoPlace_Full:kitOne K (.ref A.NoPlace) (.ref A.Full)=some false
 k_NoPlace_Stopped:kitOne K (.ref A.NoPlace) (.ref A.Stopped)=some false
 k_NoPlace_NoFile:kitOne K (.ref A.NoPlace) (.ref A.NoFile)=some false
 k_NoPlace_NoPlace:kitOne K (.ref A.NoPlace) (.ref A.NoPlace)=some true
 k_NoPlace_HeldAlready:kitOne K (.ref A.NoPlace) (.ref A.HeldAlready)=some false
 k_NoPlace_NotHeld:kitOne K (.ref A.NoPlace) (.ref A.NotHeld)=some false
 k_NoPlace_NoFiles:kitOne K (.ref A.NoPlace) (.ref A.NoFiles)=some false
 k_NoPlace_NoMark:kitOne K (.ref A.NoPlace) (.ref A.NoMark)=some false
 k_NoPlace_NoRoom:kitOne K (.ref A.NoPlace) (.ref A.NoRoom)=some false
 k_NoPlace_Gone:kitOne K (.ref A.NoPlace) (.ref A.Gone)=some false
 k_NoPlace_NotClosed:kitOne K (.ref A.NoPlace) (.ref A.NotClosed)=some false
 k_NoPlace_NotBlank:kitOne K (.ref A.NoPlace) (.ref A.NotBlank)=some false
 k_NoPlace_NoDeed:kitOne K (.ref A.NoPlace) (.ref A.NoDeed)=some false
 k_NoPlace_NoHouse:kitOne K (.ref A.NoPlace) (.ref A.NoHouse)=some false
 cl_Files:Cls K A.Files
 na_Files_births:zbf K A.Files "births"
 na_Files_kept:zbf K A.Files "kept"
 isi_Files:∀(H:Hp)(a dx:Addr)(fs:List (Str×V)),H a=some (.ins A.Files dx fs)->TyX K H (.ref a) (.ref A.Files)
 kit_Files:kitOne K (.ref A.Files) (.ref A.Files)=some true
theorem Txt.c_NoRow{K:Frag}{mg:Str->Option Value}{A:zj}(T:Txt K mg A):∃u,mg "NoRow"=some u/\ze (.ref A.NoRow) u:=⟨_,T.mg_NoRow,rfl⟩
theorem Txt.c_NoDisk{K:Frag}{mg:Str->Option Value}{A:zj}(T:Txt K mg A):∃u,mg "NoDisk"=some u/\ze (.ref A.NoDisk) u:=⟨_,T.mg_NoDisk,rfl⟩
theorem Txt.c_Full{K:Frag}{mg:Str->Option Value}{A:zj}(T:Txt K mg A):∃u,mg "Full"=some u/\ze (.ref A.Full) u:=⟨_,T.mg_Full,rfl⟩
theorem Txt.c_Stopped{K:Frag}{mg:Str->Option Value}{A:zj}(T:Txt K mg A):∃u,mg "Stopped"=some u/\ze (.ref A.Stopped) u:=⟨_,T.mg_Stopped,rfl⟩
theorem Txt.c_NoFile{K:Frag}{mg:Str->Option Value}{A:zj}(T:Txt K mg A):∃u,mg "NoFile"=some u/\ze (.ref A.NoFile) u:=⟨_,T.mg_NoFile,rfl⟩
theorem Txt.c_NoPlace{K:Frag}{mg:Str->Option Value}{A:zj}(T:Txt K mg A):∃u,mg "NoPlace"=some u/\ze (.ref A.NoPlace) u:=⟨_,T.mg_NoPlace,rfl⟩
theorem Txt.c_HeldAlready{K:Frag}{mg:Str->Option Value}{A:zj}(T:Txt K mg A):∃u,mg "HeldAlready"=some u/\ze (.ref A.HeldAlready) u:=⟨_,T.mg_HeldAlready,rfl⟩
theorem Txt.c_NotHeld{K:Frag}{mg:Str->Option Value}{A:zj}(T:Txt K mg A):∃u,mg "NotHeld"=some u/\ze (.ref A.NotHeld) u:=⟨_,T.mg_NotHeld,rfl⟩
theorem Txt.c_NoFiles{K:Frag}{mg:Str->Option Value}{A:zj}(T:Txt K mg A):∃u,mg "NoFiles"=some u/\ze (.ref A.NoFiles) u:=⟨_,T.mg_NoFiles,rfl⟩
theorem Txt.c_NoMark{K:Frag}{mg:Str->Option Value}{A:zj}(T:Txt K mg A):∃u,mg "NoMark"=some u/\ze (.ref A.NoMark) u:=⟨_,T.mg_NoMark,rfl⟩
theorem Txt.c_NoRoom{K:Frag}{mg:Str->Option Value}{A:zj}(T:Txt K mg A):∃u,mg "NoRoom"=some u/\ze (.ref A.NoRoom) u:=⟨_,T.mg_NoRoom,rfl⟩
theorem Txt.c_Gone{K:Frag}{mg:Str->Option Value}{A:zj}(T:Txt K mg A):∃u,mg "Gone"=some u/\ze (.ref A.Gone) u:=⟨_,T.mg_Gone,rfl⟩
theorem Txt.c_NotClosed{K:Frag}{mg:Str->Option Value}{A:zj}(T:Txt K mg A):∃u,mg "NotClosed"=some u/\ze (.ref A.NotClosed) u:=⟨_,T.mg_NotClosed,rfl⟩
theorem Txt.c_NotBlank{K:Frag}{mg:Str->Option Value}{A:zj}(T:Txt K mg A):∃u,mg "NotBlank"=some u/\ze (.ref A.NotBlank) u:=⟨_,T.mg_NotBlank,rfl⟩
theorem Txt.c_NoDeed{K:Frag}{mg:Str->Option Value}{A:zj}(T:Txt K mg A):∃u,mg "NoDeed"=some u/\ze (.ref A.NoDeed) u:=⟨_,T.mg_NoDeed,rfl⟩
theorem Txt.c_NoHouse{K:Frag}{mg:Str->Option Value}{A:zj}(T:Txt K mg A):∃u,mg "NoHouse"=some u/\ze (.ref A.NoHouse) u:=⟨_,T.mg_NoHouse,rfl⟩
theorem zqU:(("births":Str) == "kept")=false:=by decide +kernel
theorem zrp:(("kept":Str) == "births")=false:=by decide +kernel
theorem znh:(("names":Str) == "births")=false:=by decide +kernel
theorem zqD:(("names":Str) == "kept")=false:=by decide +kernel
theorem zpr:(("many":Str) == "births")=false:=by decide +kernel
theorem zrY:(("many":Str) == "kept")=false:=by decide +kernel
theorem zsC:(("birth":Str) == "births")=false:=by decide +kernel
theorem zoA:(("birth":Str) == "kept")=false:=by decide +kernel
theorem zl8:(("put":Str) == "births")=false:=by decide +kernel
theorem zo8:(("put":Str) == "kept")=false:=by decide +kernel
theorem zrq:(("cut":Str) == "births")=false:=by decide +kernel
theorem zs4:(("cut":Str) == "kept")=false:=by decide +kernel
theorem zkB:(("held":Str) == "births")=false:=by decide +kernel
theorem zpA:(("held":Str) == "kept")=false:=by decide +kernel
theorem zqN:(("living":Str) == "births")=false:=by decide +kernel
theorem znC:(("living":Str) == "kept")=false:=by decide +kernel
theorem zkm:(("refuse_if_none":Str) == "births")=false:=by decide +kernel
theorem zmg:(("refuse_if_none":Str) == "kept")=false:=by decide +kernel
theorem zmm:(("births":Str)="kept")=False:=by simpa using zqU
theorem zcX{n:Nat}(h:n<=1000000):n<=sizeLine:=Nat.le_trans h (by decide)
abbrev zcx:Stmt:=top 20
abbrev zcm:Stmt:=top 21
inductive Thg(H:Hp):V->Prop
 | non:Thg H .non
 | bl (b:Bool):Thg H (.bl b)
 | int (i:Int):Thg H (.int i)
 | str (x:Str):Thg H (.str x)
 | lst {a:Addr}{xs:List V}:H a=some (.lst xs)->Thg H (.ref a)
 | tup {a:Addr}{xs:List V}:H a=some (.tup xs)->Thg H (.ref a)
 | dic {a:Addr}{kvs:List (Key×V)}:H a=some (.dK kvs)->Thg H (.ref a)
theorem Thg.same{H H':Hp}{v:V}(t:Thg H v)(s:zg H H'):Thg H' v:=by
 cases t with
 | non=>exact .non
 | bl b=>exact .bl b
 | int i=>exact .int i
 | str x=>exact .str x
 | lst h=>exact .lst (s _ _ h)
 | tup h=>exact .tup (s _ _ h)
 | dic h=>exact .dic (s _ _ h)
def zkk:V->Bool | .int _=>true|_=>false
def zb0(v:V)(a b:Int):Bool:=match v with | .int i=>decide (a<=i)&&decide (i<=b)|_=>false
def ze9:Sp:=λvs H Q _=>∃v,vs=[v]/\Thg H v/\Q (.bl (zkk v)) H
def zc7:Sp:=λvs H Q _=>∃v a b,vs=[v,.int a,.int b]/\Thg H v/\Q (.bl (zb0 v a b)) H
section
variable {P:Program}{w:World}{K:Frag}{mg:Str->Option Value}{base:Heap}{A:zj}
theorem zj3{X:Cx}{H:Hp}{v:V}{Q:VK}(t:Thg H v)(q:Q (.bl (match v with | .int _=>true | .bl _=>true|_=>false)) H):zc1 X.K [v,.ty "int"] H Q:=by
 cases t with
 | non=>exact ⟨_,_,_,_,_,rfl,rfl,.of .non,rfl,q⟩
 | bl b=>exact ⟨_,_,_,_,_,rfl,rfl,.of (.bl b),rfl,q⟩
 | int i=>exact ⟨_,_,_,_,_,rfl,rfl,.of (.int i),rfl,q⟩
 | str x=>exact ⟨_,_,_,_,_,rfl,rfl,.of (.str x),rfl,q⟩
 | lst h=>exact ⟨_,_,_,_,_,rfl,rfl,.of (.lst h),rfl,q⟩
 | tup h=>exact ⟨_,_,_,_,_,rfl,rfl,.of (.tup h),rfl,q⟩
 | dic h=>exact ⟨_,_,_,_,_,rfl,rfl,.of (.dK h),rfl,q⟩
theorem ziU{X:Cx}{H:Hp}{v:V}{Q:VK}(t:Thg H v)(q:Q (.bl (match v with | .bl _=>true|_=>false)) H):zc1 X.K [v,.ty "bool"] H Q:=by
 cases t with
 | non=>exact ⟨_,_,_,_,_,rfl,rfl,.of .non,rfl,q⟩
 | bl b=>exact ⟨_,_,_,_,_,rfl,rfl,.of (.bl b),rfl,q⟩
 | int i=>exact ⟨_,_,_,_,_,rfl,rfl,.of (.int i),rfl,q⟩
 | str x=>exact ⟨_,_,_,_,_,rfl,rfl,.of (.str x),rfl,q⟩
 | lst h=>exact ⟨_,_,_,_,_,rfl,rfl,.of (.lst h),rfl,q⟩
 | tup h=>exact ⟨_,_,_,_,_,rfl,rfl,.of (.tup h),rfl,q⟩
 | dic h=>exact ⟨_,_,_,_,_,rfl,rfl,.of (.dK h),rfl,q⟩
theorem zoO:zS ["value"] ["value"] (zk zcx):=⟨rfl,rfl,rfl,f!"",rfl,f!"",f!""⟩
theorem zsi{f:Addr}{fd:FuncData}{cm:Bool}(F:Fun K "is_whole" "is_whole" zcx f fd)(T:Txt K mg A):zr P w K mg base CX0 cm 1 f fd ["value"] ze9:=by
 refine F.ok zoO (λvs H Q E h=>?_) (λcdv Ar outer s H vs Q E hr h=>?_)
 ·obtain ⟨v,rfl,_⟩:=h;rfl
 ·obtain ⟨v,rfl,th,q⟩:=h
  refine ⟨_,(W.h (zp (zH (zgf (zA zgy rfl T.n_isinstance boot_isinstance (zb (za 0) (zb (zdq rfl T.n_int boot_int (v:=.ty "int") rfl) zd))) (zfH (zjW (zA zgy rfl T.n_isinstance boot_isinstance (zb (za 0) (zb (zdq rfl T.n_bool boot_bool (v:=.ty "bool") rfl) zd))))))))),?_⟩
  simp_all only []
  refine zj3 th ?_
  cases th with
  | int i=>exact ⟨true,rfl,zfD (ziU (.int i) ⟨false,rfl,q⟩)⟩
  | bl i=>exact ⟨true,rfl,zfD (ziU (.bl i) ⟨true,rfl,q⟩)⟩
  | _=>exact ⟨false,rfl,ziy q⟩
theorem zq8:zS ["value","least","most"] ["value","least","most"] (zk zcm):=⟨rfl,rfl,rfl,f!"",rfl,f!"",f!""⟩
theorem zn7{f:Addr}{fd:FuncData}{cm:Bool}(F:Fun K "is_within" "is_within" zcm f fd)(T:Txt K mg A)(Gh:GF P w K mg base cm 1 "is_whole" ["value"] ze9):zr P w K mg base CX0 cm 2 f fd ["value","least","most"] zc7:=by
 refine F.ok zq8 (λvs H Q E h=>?_) (λcdv Ar outer s H vs Q E hr h=>?_)
 ·obtain ⟨v,a,b,rfl,_⟩:=h;rfl
 ·obtain ⟨v,a,b,rfl,th,q⟩:=h
  refine ⟨_,(W.h (zp (zH (zgf (zF Gh hr rfl (zb (za 0) zd)) (zfH (zlm zim zim (za 1) (za 0) (za 2))))))),?_⟩
  simp_all only []
  refine ⟨_,rfl,th,?_⟩
  cases th with
  | int i =>
   refine ⟨true,rfl,zfD ?_⟩
   simp_all only []
   refine za7 (λh=>?_) (λh=>?_)
   ·have e:zb0 (.int i) a b=decide (i<=b):=by show (decide (a<=i)&&_)=_;rw [h];rfl
    rw [<- e];exact q
   ·have e:zb0 (.int i) a b=false:=by show (decide (a<=i)&&_)=_;rw [Bool.eq_false_iff.mpr h];rfl
    rw [<- e];exact q
  | _=>exact ⟨false,rfl,ziy q⟩
end
abbrev zcr:Stmt:=top 25
abbrev zcU:Stmt:=top 26
abbrev zcL:Stmt:=top 27
abbrev zcK:Stmt:=top 28
abbrev zcI:Stmt:=top 31
def But(b:Addr)(H H':Hp):Prop:=∀a o,a≠b->H a=some o->H' a=some o
theorem But.of{b:Addr}{H H':Hp}(s:zg H H'):But b H H':=λa o _ e=>s a o e
theorem But.trans{b:Addr}{H H1 H2:Hp}(x:But b H H1)(y:But b H1 H2):But b H H2:=λa o n e=>y a o n (x a o n e)
theorem zco{n:Nat}(h:n<=1000000):n<sizeLine:=Nat.lt_of_le_of_lt h (by decide)
section
variable {P:Program}{w:World}{K:Frag}{mg:Str->Option Value}{base:Heap}{A:zj}
def atD(ns:List Int)(k:Int):Int:=if k<ns.length then ns.getD k.toNat 0 else 0
def zgA(K:Frag):Sp:=λvs H Q _=>∃(a:Addr)(ns:List Int)(k:Int),vs=[.ref a,.int k]/\SqL K H a (ns.map V.int)/\0<=k/\Q (.int (atD ns k)) H
theorem zmb:zS ["_law_script","_law_k"] ["_law_script","_law_k"] (zk zcr):=⟨rfl,rfl,rfl,f!"",rfl,f!"",f!""⟩
theorem zqj{f:Addr}{fd:FuncData}(F:Fun K "_law_at" "_law_at" zcr f fd)(T:Txt K mg A):zr P w K mg base CX0 true 1 f fd ["_law_script","_law_k"] (zgA K):=by
 refine F.ok zmb (λvs H Q E h=>?_) (λcdv Ar outer s H vs Q E hr h=>?_)
 ·obtain ⟨a,ns,k,rfl,_⟩:=h;rfl
 ·obtain ⟨a,ns,k,rfl,hS,hk,q⟩:=h
  refine ⟨_,zil (zhO (zgT (zh8 zdy (pv 1) (ziI zgC rfl T.n_len PySem.boot_len (zcZ (pv 0) zdE)) (zZ _))
   (zik zic (pv 0) (pv 1) (λ_ _=>rfl)) zhJ)),?_⟩
  simp_all only []
  refine ⟨_,.inl hS,?_⟩
  rw [length_map]
  refine za7 (λh=>?_) (λh=>?_)
  ·have h':k<(ns.length:Int):=of_decide_eq_true h
   have hn:k.toNat<ns.length:=by omega
   have e:atD ns k=ns[k.toNat]:=by unfold atD;rw [if_pos h',getD_eq_getElem?_getD,List.getElem?_eq_getElem hn];rfl
   refine ⟨a,ns.map V.int,k,.int (ns[k.toNat]),rfl,rfl,hS,?_,by rw [<- e];exact q⟩
   have z:atI (ns.map V.int) ((k.toNat:Nat):Int)=some (.int (ns[k.toNat])):=zdU (by rw [getElem?_map,List.getElem?_eq_getElem hn];rfl)
   have kz:((k.toNat:Nat):Int)=k:=by omega
   rw [kz] at z;exact z
  ·have h' : ¬ k<(ns.length:Int):=λz=>h (decide_eq_true z)
   have e:atD ns k=0:=by unfold atD;rw [if_neg h']
   rw [<- e];exact q
theorem zgV{a b:V}:atI [a,b] 0=some a:=rfl
theorem zhh{a b:V}:atI [a,b] 1=some b:=rfl
theorem zpf:ixN 2 0=some 0:=rfl
theorem zmV:ixN 2 1=some 1:=rfl
structure Pot(H:Hp)(a:Addr):Prop where
 ex:∃x y:Int,H a=some (.lst [.int x,.int y])/\0<=x/\0<=y/\y<2147483629
theorem Pot.same{H H':Hp}{a:Addr}(h:Pot H a)(s:zg H H'):Pot H' a:=let ⟨x,y,e,r⟩:=h.ex;⟨⟨x,y,s _ _ e,r⟩⟩
theorem Pot.ne{H:Hp}{a l:Addr}(h:Pot H a)(n:H l=none):l≠a:=λz=>by
 obtain ⟨x,y,e,_⟩:=h.ex
 rw [z,e] at n;cases n
def zf0(K:Frag):Sp:=λvs H Q _=>∃(a:Addr)(ns:List Int)(k:Int),vs=[.ref a,.int k]/\SqL K H a (ns.map V.int)/\0<=k/\∀l H',zg H H'->H l=none->Pot H' l->Q (.ref l) H'
theorem zjd:zS ["_law_script","_law_k","_law_cell"] ["_law_script","_law_k"] (zk zcU):=⟨rfl,rfl,rfl,f!"",rfl,f!"",f!""⟩
theorem zla{f:Addr}{fd:FuncData}(F:Fun K "_law_pot" "_law_pot" zcU f fd)(T:Txt K mg A)(Gi:GF P w K mg base true 1 "_law_at" ["_law_script","_law_k"] (zgA K)):zr P w K mg base CX0 true 2 f fd ["_law_script","_law_k"] (zf0 K):=by
 refine F.ok zjd (λvs H Q E h=>?_) (λcdv Ar outer s H vs Q E hr h=>?_)
 ·obtain ⟨a,ns,k,rfl,_⟩:=h;rfl
 ·obtain ⟨a,ns,k,rfl,hS,hk,q⟩:=h
  refine ⟨_,(W.h (zm (zG (i:=2) zjd.nd rfl (Or.inl rfl) (zF Gi hr rfl (zb (za 0) (zb (za 1) zd))))
   (zp (zH (zah (zb (zA (zh6 rfl) rfl T.n_max boot_max (zb zq (zb (zC zh1 (za 2) (zC ziX zq zq)) zd))) (zb (zC zdl (zC zal (zC zdl (za 2) zq) (zC zen zq (zC zal (za 1) zq))) zq) zd))))))),?_⟩
  simp_all only []
  refine ⟨a,ns,k,rfl,hS,hk,?_⟩
  simp_all only []
  refine ⟨⟨by decide,by decide,by decide⟩,by decide,.inl ⟨by decide,by decide⟩,by decide,by decide,λl H1 n1 _=>q l H1 n1.same n1.no ⟨⟨_,_,n1.at_,?_,?_,?_⟩⟩⟩
  ·split<;>omega
  ·omega
  ·omega
def zbk:Sp:=λvs H Q _=>∃(a:Addr)(m:Int),vs=[.ref a,.int m]/\Pot H a/\0<m/\m<2 ^ 64/\∀(r:Int) H',But a H H'->Pot H' a->0<=r->r<m->Q (.int r) H'
theorem ziR:zS ["_law_pot_here","_law_many","_law_digit"] ["_law_pot_here","_law_many"] (zk zcL):=⟨rfl,rfl,rfl,f!"",rfl,f!"",f!""⟩
theorem zm3{f:Addr}{fd:FuncData}(F:Fun K "_law_take" "_law_take" zcL f fd)(T:Txt K mg A):zr P w K mg base CX0 true 1 f fd ["_law_pot_here","_law_many"] zbk:=by
 refine F.ok ziR (λvs H Q E h=>?_) (λcdv Ar outer s H vs Q E hr h=>?_)
 ·obtain ⟨a,m,rfl,_⟩:=h;rfl
 ·obtain ⟨a,m,rfl,⟨x,y,e,x0,y0,y1⟩,m0,m1,q⟩:=h
  refine ⟨_,(W.h (zm (zac (z8 zja (za6 zbq (za 0) zq (λ_ _=>rfl)) zq (zZ _))
   (zm (zbZ (zA zph rfl T.n_divmod boot_divmod (zb (za6 zbq (za 0) zq (λ_ _=>rfl)) (zb (za 1) zd))) (zfa (n:=2) (za0 (zdn (za 0) zq zeK) (za0 (zaf (i:=2) ziR.nd rfl (Or.inl rfl)) zeo))))
   (zp (zH (za 2))))
   zai)
   (zm (zbZ (zC zdl (zC zal (zC zen (za6 zbq (za 0) zq (λ_ _=>rfl)) zq) zq) zq) (zdn (za 0) zq zeK))
   (zp (zH (zC zdl (zC znA (zC zdl (zC zen (za6 zbq (za 0) zq (λ_ _=>rfl)) (za6 zbq (za 0) zq (λ_ _=>rfl))) zq) zq) (za 1))))))),?_⟩
  simp_all only [e,zgV,zhh]
  refine za7 (λh=>?_) (λh=>?_)
  ·refine ⟨m0,m1,λp H2 n2=>⟨p,_,rfl,SqT.of n2.at_,rfl,?_⟩⟩
   have e2:=n2.same _ _ e
   simp_all only [e2,zpf,zgV]
   refine q _ _ (λc o nc ec=>by rw [zh nc];exact n2.same _ _ ec) ⟨⟨_,_,zx,Int.ediv_nonneg x0 (by omega),y0,y1⟩⟩ (Int.emod_nonneg _ (by omega)) (Int.emod_lt_of_pos _ m0)
  ·simp_all only [zmV,zx,zhh]
   refine ⟨.inr ⟨by decide,by decide⟩,by decide,.inl ⟨by omega,by omega⟩,by decide,⟨by decide,by decide⟩,m0,q _ _ (λc o nc ec=>by rw [zh nc];exact ec) ⟨⟨_,_,zx,x0,by omega,by omega⟩⟩ (Int.emod_nonneg _ (by omega)) (Int.emod_lt_of_pos _ m0)⟩
def zdk:Sp:=λvs H Q _=>∃(a:Addr),Pot H a/\((∃(l:Addr)(xs:List V),vs=[.ref a,.ref l]/\l≠a/\(H l=some (.lst xs)\/H l=some (.tup xs))/\0<xs.length/\xs.length<=1000/\∀v H',v∈xs->But a H H'->Pot H' a->Q v H') \/
 ∃z:Str,vs=[.ref a,.str z]/\0<z.length/\z.length<=1000/\∀c H',c∈sg z->But a H H'->Pot H' a->Q (.str (c1 c)) H')
theorem zgh{α:Type}{xs:List α}{i:Int}(h0:0<=i)(h1:i<xs.length):∃v,atI xs i=some v/\v∈xs:=by
 have hn:i.toNat<xs.length:=by omega
 have z:atI xs ((i.toNat:Nat):Int)=some xs[i.toNat]:=zdU (List.getElem?_eq_getElem hn)
 rw [show ((i.toNat:Nat):Int)=i by omega] at z
 exact ⟨_,z,List.getElem_mem hn⟩
theorem zn3:zS ["_law_pot_here","_law_some"] ["_law_pot_here","_law_some"] (zk zcK):=⟨rfl,rfl,rfl,f!"",rfl,f!"",f!""⟩
theorem zsZ{f:Addr}{fd:FuncData}(F:Fun K "_law_drawn" "_law_drawn" zcK f fd)(T:Txt K mg A)(Gb:GF P w K mg base true 1 "_law_take" ["_law_pot_here","_law_many"] zbk):zr P w K mg base CX0 true 2 f fd ["_law_pot_here","_law_some"] zdk:=by
 refine F.ok zn3 (λvs H Q E h=>?_) (λcdv Ar outer s H vs Q E hr h=>?_)
 ·obtain ⟨a,_,⟨l,xs,rfl,_⟩|⟨z,rfl,_⟩⟩:=h<;>rfl
 ·refine ⟨_,(W.h (zp (zH (za6 zbq (za 1) (zF Gb hr rfl (zb (za 0) (zb (zA zb9 rfl T.n_len PySem.boot_len (zb (za 1) zd)) zd))) (λ_ _=>rfl))))),?_⟩
  obtain ⟨a,hP,⟨l,xs,rfl,ne,hl,x0,x1,q⟩|⟨z,rfl,z0,z1,q⟩⟩:=h
  ·simp_all only []
   refine ⟨xs,hl,a,_,rfl,hP,by omega,Int.lt_of_le_of_lt (show (xs.length:Int)<=1000 by omega) (by decide),λr H' bt hP' r0 r1=>?_⟩
   obtain ⟨v,ev,hv⟩:=zgh (xs:=xs) r0 r1
   rw [zeh]
   exact ⟨xs,hl.imp (bt _ _ ne) (bt _ _ ne),v,ev,q v H' hv bt hP'⟩
  ·simp_all only []
   refine ⟨zcX (by omega),a,_,rfl,hP,by omega,Int.lt_of_le_of_lt (show (z.length:Int)<=1000 by omega) (by decide),λr H' bt hP' r0 r1=>?_⟩
   obtain ⟨c,ec,hc⟩:=zgh (xs:=sg z) r0 (by rw [znl];exact r1)
   rw [zeF]
   exact ⟨zcX (by omega),c,ec,q c H' hc bt hP'⟩
def zeZ:Sp:=λvs H Q _=>∃(a:Addr),vs=[.ref a]/\Pot H a/\∀(r:Int) H',But a H H'->Pot H' a->0<=r->r<10 ^ 18->Q (.int r) H'
theorem zkA:zS ["_law_pot_here"] ["_law_pot_here"] (zk zcI):=⟨rfl,rfl,rfl,f!"",rfl,f!"",f!""⟩
theorem znM{f:Addr}{fd:FuncData}(F:Fun K "_law_birth" "_law_birth" zcI f fd)(T:Txt K mg A)(Gb:GF P w K mg base true 1 "_law_take" ["_law_pot_here","_law_many"] zbk)(Gc:GF P w K mg base true 2 "_law_drawn" ["_law_pot_here","_law_some"] zdk):zr P w K mg base CX0 true 3 f fd ["_law_pot_here"] zeZ:=by
 refine F.ok zkA (λvs H Q E h=>?_) (λcdv Ar outer s H vs Q E hr h=>?_)
 ·obtain ⟨a,rfl,_⟩:=h;rfl
 ·obtain ⟨a,rfl,hP,q⟩:=h
  refine ⟨_,(W.h (zp (zH (zF Gb hr rfl (zb (za 0) (zb (zF Gc hr rfl (zb (za 0) (zb (zah (zb zq (zb zq (zb zq (zb (zC ziX zq zq) zd))))) zd))) zd)))))),?_⟩
  simp_all only []
  refine ⟨⟨by decide,by decide,by decide⟩,by decide,λp H2 n2 _=>⟨a,hP.same n2.same,.inl ⟨p,_,rfl,hP.ne n2.no,.inl n2.at_,by decide,by decide,λv H3 hv bt hP3=>?_⟩⟩⟩
  have fin:∀m:Int,0<m->m<=10 ^ 18->zbk [.ref a,.int m] H3 Q E0:=λm h1 h2=>⟨a,m,rfl,hP3,h1,Int.lt_of_le_of_lt h2 (by decide),λr H4 b4 hP4 r0 r1=>q r H4 ((But.of n2.same).trans (bt.trans b4)) hP4 r0 (by omega)⟩
  simp only [mem_cons,not_mem_nil,or_false] at hv
  rcases hv with rfl|rfl|rfl|rfl
  ·exact fin 12 (by decide) (by decide)
  ·exact fin 12 (by decide) (by decide)
  ·exact fin 1000 (by decide) (by decide)
  ·exact fin _ (by decide) (by decide)
end
abbrev zbM:Stmt:=top 29
abbrev zcQ:Stmt:=top 30
section
variable {P:Program}{w:World}{K:Frag}{mg:Str->Option Value}{base:Heap}{A:zj}
abbrev LET:Str:="abcdefghijklmnopqrstuvwxyz"
structure zjZ(H:Hp)(a:Addr)(i:Nat)(τ:L2.St)(ys:List V)(H':Hp):Prop where
 ex:∃t,τ=[t,some (V.ref a),some (.str LET)]
 ys:∃cs:List Nat,ys=(cs.map c1).map V.str/\cs.length=i
 but:But a H H'
 pot:Pot H' a
 le:i<=10
def zeV:Sp:=λvs H Q _=>∃(a:Addr),vs=[.ref a]/\Pot H a/\∀(z:Str) H',But a H H'->Pot H' a->Q (.str z) H'
theorem zii:zS ["_law_pot_here","_law_letters"] ["_law_pot_here"] (zk zbM):=⟨rfl,rfl,rfl,f!"",rfl,f!"",f!""⟩
theorem zq7:zb4 { kind:=.function,names:=[(Str.ofString ".0",.local),(Str.ofString "_law_k",.local),(Str.ofString "_law_drawn",.globalImplicit),(Str.ofString "_law_pot_here",.free),(Str.ofString "_law_letters",.free)],isGenerator:=false,isCoroutine:=false,more:=[] } (zk zbM).names ["_law_pot_here","_law_letters"] ["_law_k","_law_pot_here","_law_letters"] [none,some 0,some 1]=true:=by decide +kernel
theorem zp5:(["_law_k","_law_pot_here","_law_letters"]:List Str).Nodup:=by decide +kernel
theorem zqF{f:Addr}{fd:FuncData}(F:Fun K "_law_name" "_law_name" zbM f fd)(T:Txt K mg A)(Gb:GF P w K mg base true 1 "_law_take" ["_law_pot_here","_law_many"] zbk)(Gc:GF P w K mg base true 2 "_law_drawn" ["_law_pot_here","_law_some"] zdk):zr P w K mg base CX0 true 3 f fd ["_law_pot_here"] zeV:=by
 refine F.ok zii (λvs H Q E h=>?_) (λcdv Ar outer s H vs Q E hr h=>?_)
 ·obtain ⟨a,rfl,_⟩:=h;rfl
 ·obtain ⟨a,rfl,hP,q⟩:=h
  refine ⟨_,(W.h (zm (zac (z8 zdy (zF Gb hr rfl (zb (za 0) (zb zq zd))) zq (zZ _))
   (zp (zH (zF Gc hr rfl (zb (za 0) (zb (zah (zb zz (zb zz (zb zz (zb zz zd))))) zd)))))
   zai)
   (zm (zG (i:=1) zii.nd rfl (Or.inr rfl) zz)
   (zp (zH (zrR zz (zeA (λ_=>rfl) (za1.of zq7) (zcy rfl T.n_range (zb (zC zal zq (zF Gb hr rfl (zb (za 0) (zb zq zd)))) zd)) (λ_ _ _ _ _=>(zaf (i:=0) zp5 rfl (Or.inl rfl))) (λ_ _ _ _ _=>zec) (λ_ _ _ _ _=>(zF Gc hr rfl (zb (za 1) (zb (za 2) zd))))))))))),?_⟩
  simp_all only []
  refine ⟨a,_,rfl,hP,by decide,by decide,λr H1 b1 hP1 r0 r1=>?_⟩
  simp_all only []
  refine za7 (λh=>?_) (λh=>?_)
  ·refine ⟨by decide,λp H2 n2 _=>⟨a,hP1.same n2.same,.inl ⟨p,_,rfl,hP1.ne n2.no,.inl n2.at_,by decide,by decide,λv H3 hv bt hP3=>?_⟩⟩⟩
   have bA:=(b1.trans (But.of n2.same)).trans bt
   simp only [mem_cons,not_mem_nil,or_false] at hv
   rcases hv with rfl|rfl|rfl|rfl<;>exact q _ _ bA hP3
  ·refine ⟨a,_,rfl,hP1,by decide,by decide,λm H2 b2 hP2 m0 m1=>?_⟩
   simp_all only []
   refine ⟨by omega,by omega,zax.rng (zjZ H2 a) (λi τ ys H' I=>?_) ⟨⟨_,rfl⟩,⟨[],rfl,rfl⟩,λ_ _ _ e=>e,hP2,by omega⟩ ?_ ?_⟩
   ·obtain ⟨cs,e,e2⟩:=I.ys
    rw [e,length_map,length_map,e2]
    exact zco (by have:=I.le;omega)
   ·intro N i τ ys H' hi I hN
    obtain ⟨t,rfl⟩:=I.ex
    obtain ⟨cs,e,e2⟩:=I.ys
    simp_all only []
    refine ⟨a,I.pot,.inr ⟨LET,rfl,by decide,by decide,λc H3 hcc b3 hP3=>hN _ _ _ ⟨⟨_,rfl⟩,⟨cs++[c],by rw [e];simp,by simp [e2]⟩,I.but.trans b3,hP3,by omega⟩⟩⟩
   ·intro τ ys H' I D H3 n3
    obtain ⟨cs,e,e2⟩:=I.ys
    rw [zhf]
    refine ⟨cs.map c1,by rw [n3.at_,e],?_,?_⟩
    ·rw [map_map,show ("":Str).length=0 by decide,Nat.mul_zero,Nat.add_zero]
     have:∀l:List Nat,(l.map ((λx:Str=>x.length)∘c1)).sum=l.length:=λl=>by
      induction l with
      | nil=>rfl
      | cons a l ih=>rw [map_cons,List.sum_cons,ih];show 1+_=_;simp;omega
     rw [this]
     omega
    ·exact q _ H3 (((b1.trans b2).trans I.but).trans (But.of n3.same)) (I.pot.same n3.same)
structure zlj(H:Hp)(a l:Addr)(i:Nat)(σ:L2.St)(H':Hp):Prop where
 ex:∃t1 t2,σ=[some (V.ref a),some (.ref l),t1,t2]
 ns:∃zs:List Str,H' l=some (.lst (zs.map V.str))/\zs.length<=i/\(0<i->zs≠[])
 but:But a H H'
 pot:Pot H' a
 ne:H l=none
theorem zr9{z:Str}{zs:List Str}:inV (.str z) (zs.map V.str)=decide (z∈zs):=by
 unfold inV
 rw [List.any_map,Bool.eq_iff_iff]
 simp only [List.any_eq_true,decide_eq_true_eq,Function.comp]
 constructor
 ·rintro ⟨y,hy,h⟩
  have:y=z:=by simpa [eqV] using h
  rw [<- this];exact hy
 ·intro h
  exact ⟨z,h,by simp [eqV]⟩
theorem zcN{zs:List Str}:(zs.map V.str).all zv=true:=by simp [zv]
theorem But.free{b:Addr}{H H':Hp}(e:But b H H'){l:Addr}(h:H' l=Option.none)(n:l≠b):H l=Option.none:=by
 cases q:H l with
 | none=>rfl
 | some o=>rw [e l o n q] at h;cases h
def zgv:Sp:=λvs H Q _=>∃(a:Addr),vs=[.ref a]/\Pot H a/\∀(l:Addr)(zs:List Str) H',But a H H'->Pot H' a->H l=none->H' l=some (.lst (zs.map V.str))->zs.length<=4->zs≠[]->Q (.ref l) H'
theorem zd3:zS ["_law_pot_here","_law_found","_law_k","_law_name_here"] ["_law_pot_here"] (zk zcQ):=⟨rfl,rfl,rfl,f!"",rfl,f!"",f!""⟩
theorem zri{f:Addr}{fd:FuncData}(F:Fun K "_law_names" "_law_names" zcQ f fd)(T:Txt K mg A)(Gb:GF P w K mg base true 1 "_law_take" ["_law_pot_here","_law_many"] zbk)(Gj:GF P w K mg base true 3 "_law_name" ["_law_pot_here"] zeV):zr P w K mg base CX0 true 4 f fd ["_law_pot_here"] zgv:=by
 refine F.ok zd3 (λvs H Q E h=>?_) (λcdv Ar outer s H vs Q E hr h=>?_)
 ·obtain ⟨a,rfl,_⟩:=h;rfl
 ·obtain ⟨a,rfl,hP,q⟩:=h
  have hu:_<cLine:=lt_of_succ_lt (zak hr)
  refine ⟨_,(W.h (zm (zG (i:=1) zd3.nd rfl (Or.inl rfl) (zah zd))
   (zm (zdv PassesOwn.never (λ_=>rfl) (zcy rfl T.n_range (zb (zC zal zq (zF Gb hr rfl (zb (za 0) (zb zq zd)))) zd)) (zaf (i:=2) zd3.nd rfl (Or.inl rfl))
   (zm (zG (i:=3) zd3.nd rfl (Or.inl rfl) (zF Gj hr rfl (zb (za 0) zd)))
   (zp (zac (z8 (zs5 hu) (za 3) (za 1) rfl)
   (zp (zbw (zgc (za 1) (za 3))))
   zai))))
   (zp (zH (za 1)))))),?_⟩
  simp_all only []
  refine ⟨by decide,λl H1 n1 _=>⟨a,_,rfl,hP.same n1.same,by decide,by decide,λr H2 b2 hP2 r0 r1=>?_⟩⟩
  simp_all only []
  have la:l≠a:=hP.ne n1.no
  refine ⟨by omega,by omega,zaG.rng (zlj H a l) ⟨⟨_,_,rfl⟩,⟨[],b2 _ _ la n1.at_,by simp,λz=>absurd z (by decide)⟩,(But.of n1.same).trans b2,hP2,n1.no⟩ ?_ ?_⟩
  ·rintro i σ H' hi ⟨⟨t1,t2,rfl⟩,⟨zs,ez,zl,zn⟩,bt,hP',_⟩
   simp_all only []
   refine ⟨a,rfl,hP',λz H3 b3 hP3=>?_⟩
   have e3:=b3 _ _ la ez
   have hz1:(zs.map V.str).length<sizeLine:=by rw [length_map];exact zco (by omega)
   simp_all only [e3]
   refine ⟨rfl,zcN,?_⟩
   rw [zr9]
   by_cases hm:z∈zs
   ·rw [decide_eq_true hm]
    simp_all only []
    exact ⟨⟨_,_,rfl⟩,⟨zs,e3,by omega,λ_ z=>by subst z;cases hm⟩,bt.trans b3,hP3,n1.no⟩
   ·rw [decide_eq_false hm]
    simp_all only [e3]
    refine ⟨hz1,⟨_,_,rfl⟩,⟨zs++[z],by rw [zx];simp,by simp;omega,λ_=>by simp⟩,λc o nc ec=>?_,?_,n1.no⟩
    ·rw [zh (λz=>by subst z;rw [n1.no] at ec;cases ec)];exact (bt.trans b3) c o nc ec
    ·obtain ⟨x,y,ep,r⟩:=hP3.ex
     exact ⟨⟨x,y,by rw [zh (Ne.symm la)];exact ep,r⟩⟩
  ·rintro σ H' ⟨⟨t1,t2,rfl⟩,⟨zs,ez,zl,zn⟩,bt,hP',_⟩
   simp_all only []
   exact q l zs H' bt hP' n1.no ez (by omega) (zn (by omega))
end
abbrev zcs:Stmt:=zbi (top 23) 0
abbrev zcl:Stmt:=zbi (top 23) 1
abbrev zcq:Stmt:=zbi (top 23) 2
abbrev zbU:Stmt:=zbi (top 23) 14
theorem znS{b:Bool}(h : ¬ (!b)=true):b=true:=by cases b;exact absurd rfl h;rfl
theorem zqA{b:Bool}(h:(!b)=true):b=false:=by cases b;rfl;cases h
abbrev Tab:=List (Str×List Int)
def zao(H:Hp)(v:V)(l:List Int):Prop:=∃p,v = .ref p/\H p=some (.tup (l.map V.int))
def zD(b k:Addr):List (Str×V):=[("births",.ref b),("kept",.ref k)]
structure zaY(H:Hp)(b:Addr)(t:Tab):Prop where
 ex:∃kvs,H b=some (.dK (sk kvs))/\Dct (zao H) kvs t
 nd:(names t).Nodup
structure za2(H:Hp)(b:Addr)(t:Tab):Prop where
 ex:∃kvs,Rd H b (.dK (sk kvs))/\Dct (zao H) kvs t
 nd:(names t).Nodup
theorem zaY.r{H:Hp}{b:Addr}{t:Tab}(h:zaY H b t):za2 H b t:=let ⟨kvs,e,d⟩:=h.ex;⟨⟨kvs,.inl e,d⟩,h.nd⟩
structure zaA(A:zj)(H:Hp)(q b k:Addr)(t:Tab):Prop where
 ob:∃dx,H q=some (.ins A.Files dx (zD b k))
 births:za2 H b t
 kept:Rd H k (.dK (sk []))
def zbD(A:zj)(H:Hp)(b k:Addr)(v:V)(t:Tab):Prop:=∃q b' k',v = .ref q/\zaA A H q b' k' t/\b'≠b/\b'≠k/\k'≠b/\k'≠k
structure zy(A:zj)(H:Hp)(p b k:Addr)(t:Tab)(ks:List (Str×Tab)):Prop where
 ob:∃dx,H p=some (.ins A.Files dx (zD b k))
 births:zaY H b t
 kept:∃kk,H k=some (.dK (sk kk))/\Dct (zbD A H b k) kk ks
 ndk:(names ks).Nodup
 ne:b≠k
structure zaN(A:zj)(H:Hp)(p b k:Addr)(t:Tab)(ks:List (Str×Tab)):Prop where
 ob:∃dx,H p=some (.ins A.Files dx (zD b k))
 births:za2 H b t
 kept:∃kk,Rd H k (.dK (sk kk))/\Dct (zbD A H b k) kk ks
 ndk:(names ks).Nodup
theorem zy.r{A:zj}{H:Hp}{p b k:Addr}{t:Tab}{ks:List (Str×Tab)}(h:zy A H p b k t ks):zaN A H p b k t ks:=let ⟨kk,e,d⟩:=h.kept;⟨h.ob,h.births.r,⟨kk,.inl e,d⟩,h.ndk⟩
structure FS(H H':Hp):Prop where
 oth:∀a o,(∀kvs,o≠.dK kvs)->(∀ob kvs,o≠.frz ob (.dK kvs))->H a=some o->H' a=some o
 dic:∀a kvs,Rd H a (.dK kvs)->Rd H' a (.dK kvs)
theorem FS.of{H H':Hp}(s:zg H H'):FS H H':=⟨λa o _ _ e=>s a o e,λa kvs r=>r.elim (λe=>.inl (s _ _ e)) (λ⟨o,e⟩=>.inr ⟨o,s _ _ e⟩)⟩
theorem FS.trans{H H1 H2:Hp}(x:FS H H1)(y:FS H1 H2):FS H H2:=⟨λa o n m e=>y.oth a o n m (x.oth a o n m e),λa kvs r=>y.dic a kvs (x.dic a kvs r)⟩
theorem Rd.same{H H':Hp}{a:Addr}{u:HO}(h:Rd H a u)(s:zg H H'):Rd H' a u:=h.elim (λe=>.inl (s _ _ e)) (λ⟨o,e⟩=>.inr ⟨o,s _ _ e⟩)
theorem But.upd{b:Addr}{H:Hp}{o:HO}:But b H (upd H b o):=λa u n e=>by rw [zh n];exact e
theorem zao.but{b:Addr}{H H':Hp}{v:V}{l:List Int}(h:zao H v l)(s:But b H H')(hb:∀xs,H b≠some (.tup xs)):zao H' v l:=by
 obtain ⟨p,e,hp⟩:=h
 exact ⟨p,e,s p _ (λz=>by subst z;exact hb _ hp) hp⟩
theorem zao.same{H H':Hp}{v:V}{l:List Int}(h:zao H v l)(s:zg H H'):zao H' v l:=let ⟨p,e,hp⟩:=h;⟨p,e,s p _ hp⟩
theorem zaY.but{x:Addr}{H H':Hp}{b:Addr}{t:Tab}(h:zaY H b t)(s:But x H H')(hx:∀xs,H x≠some (.tup xs))(n:b≠x):zaY H' b t:=by
 obtain ⟨kvs,e,d⟩:=h.ex
 exact ⟨⟨kvs,s _ _ n e,d.imp λv a r=>r.but s hx⟩,h.nd⟩
theorem zaY.same{H H':Hp}{b:Addr}{t:Tab}(h:zaY H b t)(s:zg H H'):zaY H' b t:=by
 obtain ⟨kvs,e,d⟩:=h.ex
 exact ⟨⟨kvs,s _ _ e,d.imp λv a r=>r.same s⟩,h.nd⟩
theorem za2.but{x:Addr}{H H':Hp}{b:Addr}{t:Tab}(h:za2 H b t)(s:But x H H')(hx:∀xs,H x≠some (.tup xs))(n:b≠x):za2 H' b t:=by
 obtain ⟨kvs,e,d⟩:=h.ex
 exact ⟨⟨kvs,e.elim (λe=>.inl (s _ _ n e)) (λ⟨o,e⟩=>.inr ⟨o,s _ _ n e⟩),d.imp λv a r=>r.but s hx⟩,h.nd⟩
theorem zao.fs{H H':Hp}{v:V}{l:List Int}(h:zao H v l)(s:FS H H'):zao H' v l:=let ⟨p,e,hp⟩:=h;⟨p,e,s.oth p _ (λ_=>nofun) (λ_ _=>nofun) hp⟩
theorem za2.fs{H H':Hp}{b:Addr}{t:Tab}(h:za2 H b t)(s:FS H H'):za2 H' b t:=by
 obtain ⟨kvs,e,d⟩:=h.ex
 exact ⟨⟨kvs,s.dic _ _ e,d.imp λv a r=>r.fs s⟩,h.nd⟩
theorem zaA.but{A:zj}{x:Addr}{H H':Hp}{q b k:Addr}{t:Tab}{kvs:List (Key×V)}(h:zaA A H q b k t)(s:But x H H')(hx:H x=some (.dK kvs))(n1:b≠x)(n2:k≠x):zaA A H' q b k t:=by
 obtain ⟨dx,e⟩:=h.ob
 exact ⟨⟨dx,s _ _ (λz=>by subst z;rw [e] at hx;cases hx) e⟩,h.births.but s (λxs z=>by rw [z] at hx;cases hx) n1,h.kept.elim (λe=>.inl (s _ _ n2 e)) (λ⟨o,e⟩=>.inr ⟨o,s _ _ n2 e⟩)⟩
theorem zaA.fs{A:zj}{H H':Hp}{q b k:Addr}{t:Tab}(h:zaA A H q b k t)(s:FS H H'):zaA A H' q b k t:=let ⟨dx,e⟩:=h.ob;⟨⟨dx,s.oth _ _ (λ_=>nofun) (λ_ _=>nofun) e⟩,h.births.fs s,s.dic _ _ h.kept⟩
theorem zaA.same{A:zj}{H H':Hp}{q b k:Addr}{t:Tab}(h:zaA A H q b k t)(s:zg H H'):zaA A H' q b k t:=h.fs (.of s)
theorem zbD.fs{A:zj}{H H':Hp}{b k:Addr}{v:V}{t:Tab}(h:zbD A H b k v t)(s:FS H H'):zbD A H' b k v t:=let ⟨q,b',k',e,r,n⟩:=h;⟨q,b',k',e,r.fs s,n⟩
theorem zaN.fs{A:zj}{H H':Hp}{p b k:Addr}{t:Tab}{ks:List (Str×Tab)}(h:zaN A H p b k t ks)(s:FS H H'):zaN A H' p b k t ks:=by
 obtain ⟨dx,e⟩:=h.ob
 obtain ⟨kk,e2,d⟩:=h.kept
 exact ⟨⟨dx,s.oth _ _ (λ_=>nofun) (λ_ _=>nofun) e⟩,h.births.fs s,⟨kk,s.dic _ _ e2,d.imp λv a r=>r.fs s⟩,h.ndk⟩
theorem zaN.same{A:zj}{H H':Hp}{p b k:Addr}{t:Tab}{ks:List (Str×Tab)}(h:zaN A H p b k t ks)(s:zg H H'):zaN A H' p b k t ks:=h.fs (.of s)
theorem zy.fs{A:zj}{H H':Hp}{p b k d:Addr}{t:Tab}{ks:List (Str×Tab)}(h:zy A H p b k t ks)(s:FS H H')(bt:But d H H')(n1:b≠d)(n2:k≠d):zy A H' p b k t ks:=by
 obtain ⟨dx,e⟩:=h.ob
 obtain ⟨kk,e2,d⟩:=h.kept
 obtain ⟨kvs,e3,d3⟩:=h.births.ex
 exact ⟨⟨dx,s.oth _ _ (λ_=>nofun) (λ_ _=>nofun) e⟩,⟨⟨kvs,bt _ _ n1 e3,d3.imp λv a r=>r.fs s⟩,h.births.nd⟩,⟨kk,bt _ _ n2 e2,d.imp λv a r=>r.fs s⟩,h.ndk,h.ne⟩
theorem zbD.same{A:zj}{H H':Hp}{b k:Addr}{v:V}{t:Tab}(h:zbD A H b k v t)(s:zg H H'):zbD A H' b k v t:=let ⟨q,b',k',e,r,n⟩:=h;⟨q,b',k',e,r.same s,n⟩
theorem zy.same{A:zj}{H H':Hp}{p b k:Addr}{t:Tab}{ks:List (Str×Tab)}(h:zy A H p b k t ks)(s:zg H H'):zy A H' p b k t ks:=by
 obtain ⟨dx,e⟩:=h.ob
 obtain ⟨kk,e2,d⟩:=h.kept
 exact ⟨⟨dx,s _ _ e⟩,h.births.same s,⟨kk,s _ _ e2,d.imp λv a r=>r.same s⟩,h.ndk,h.ne⟩
theorem zy.setB{A:zj}{H H':Hp}{p b k:Addr}{t t':Tab}{ks:List (Str×Tab)}{kvs':List (Str×V)}(h:zy A H p b k t ks)(s:But b H H')(e:H' b=some (.dK (sk kvs')))(d':Dct (zao H') kvs' t')(nd:(names t').Nodup):zy A H' p b k t' ks:=by
 obtain ⟨dx,e1⟩:=h.ob
 obtain ⟨kk,e2,d⟩:=h.kept
 obtain ⟨kvs,e3,_⟩:=h.births.ex
 exact ⟨⟨dx,s _ _ (λz=>by subst z;rw [e1] at e3;cases e3) e1⟩,⟨⟨kvs',e,d'⟩,nd⟩,⟨kk,s _ _ (Ne.symm h.ne) e2,d.imp λv a ⟨q,b',k',ev,r,n1,n2,n3,n4⟩=>⟨q,b',k',ev,r.but s e3 n1 n3,n1,n2,n3,n4⟩⟩,h.ndk,h.ne⟩
section
variable {P:Program}{w:World}{K:Frag}{mg:Str->Option Value}{base:Heap}{A:zj}{b k:Addr}
theorem zaJ:(zD b k).lookup ("births":Str)=some (.ref b):=by simp only [zD,List.lookup,beq_self_eq_true]
theorem zfl:(zD b k).lookup ("kept":Str)=some (.ref k):=by simp only [zD,List.lookup,beq_self_eq_true,zrp]
theorem zeg:(zD b k).lookup ("names":Str)=none:=by simp only [zD,List.lookup,znh,zqD]
theorem zcE:(zD b k).lookup ("many":Str)=none:=by simp only [zD,List.lookup,zpr,zrY]
theorem znW:(zD b k).lookup ("birth":Str)=none:=by simp only [zD,List.lookup,zsC,zoA]
theorem zpE:(zD b k).lookup ("put":Str)=none:=by simp only [zD,List.lookup,zl8,zo8]
theorem zpV:(zD b k).lookup ("cut":Str)=none:=by simp only [zD,List.lookup,zrq,zs4]
theorem zkh:(zD b k).lookup ("held":Str)=none:=by simp only [zD,List.lookup,zkB,zpA]
theorem zji:(zD b k).lookup ("living":Str)=none:=by simp only [zD,List.lookup,zqN,znC]
theorem zet:(zD b k).lookup ("refuse_if_none":Str)=none:=by simp only [zD,List.lookup,zkm,zmg]
def zfN(A:zj):Sp:=λvs H Q _=>∃(p dx:Addr),vs=[.ref p]/\H p=some (.ins A.Files dx [])/\∀b k H',But p H H'->H b=none->H k=none->H' b=some (.dK (sk []))->H' k=some (.dK (sk []))->b≠k->H' p=some (.ins A.Files dx (zD b k))->Q .non H'
theorem znE:zS ["self"] ["self"] (zk zcs):=⟨rfl,rfl,rfl,f!"",rfl,f!"",f!""⟩
theorem zoF{f:Addr}{fd:FuncData}(F:Fun K "__init__" "Files.__init__" zcs f fd)(T:Txt K mg A):zr P w K mg base CX0 true 1 f fd ["self"] (zfN A):=by
 refine F.ok znE (λvs H Q E h=>?_) (λcdv Ar outer s H vs Q E hr h=>?_)
 ·obtain ⟨p,dx,rfl,_⟩:=h;rfl
 ·obtain ⟨p,dx,rfl,hp,q⟩:=h
  refine ⟨_,(W.h (zm (zgJ T.cl_Files T.na_Files_births (za 0) zeO)
   (zp (zgJ T.cl_Files T.na_Files_kept (za 0) zeO)))),?_⟩
  simp_all only []
  refine λb H1 n1=>⟨dx,[],n1.same _ _ hp,by decide,λk H2 n2=>⟨dx,_,n2.same _ _ zx,by show 1<1000;decide,?_⟩⟩
  have bp:b≠p:=λz=>by have:=n1.no;rw [z,hp] at this;cases this
  have kp:k≠p:=λz=>by have:=n2.no;rw [z,zx] at this;cases this
  have k1:H1 k=none:=by have:=n2.no;rw [zh kp] at this;exact this
  have eF:zag ("kept":Str) (V.ref k) (zag ("births":Str) (V.ref b) [])=zD b k:=by simp only [zag,zD,zmm,if_false]
  have e2:H2 b=some (.dK []):=n2.same _ _ (by rw [zh bp];exact n1.at_)
  rw [eF]
  refine q b k _ (λa o n e=>?_) n1.no (n1.same.free k1) (by rw [zh bp];exact e2) (by rw [zh kp];exact n2.at_) (λz=>?_) zx
  ·rw [zh n]
   exact n2.same _ _ (by rw [zh n];exact n1.same _ _ e)
  ·have:=n2.no
   rw [<- z,zh bp,n1.at_] at this
   cases this
def zgg(A:zj):Sp:=λvs H Q _=>∃(p b k:Addr)(t:Tab)(ks:List (Str×Tab)),vs=[.ref p]/\zaN A H p b k t ks/\t.length<64/\∀l H',New H l (.lst ((zaK (names t)).map V.str)) H'->Q (.ref l) H'
theorem zlY:zS ["self"] ["self"] (zk zcl):=⟨rfl,rfl,rfl,f!"",rfl,f!"",f!""⟩
theorem zpU{f:Addr}{fd:FuncData}(F:Fun K "names" "Files.names" zcl f fd)(T:Txt K mg A):zr P w K mg base CX0 true 1 f fd ["self"] (zgg A):=by
 refine F.ok zlY (λvs H Q E h=>?_) (λcdv Ar outer s H vs Q E hr h=>?_)
 ·obtain ⟨p,b,k,t,ks,rfl,_⟩:=h;rfl
 ·obtain ⟨p,b,k,t,ks,rfl,hF,hl,q⟩:=h
  refine ⟨_,(W.h (zp (zH (zA (zdI rfl) rfl T.n_sorted boot_sorted (zb (zaQ T.cl_Files T.na_Files_births (za 0)) zd))))),?_⟩
  obtain ⟨dx,e1⟩:=hF.ob
  obtain ⟨kvs,e2,d⟩:=hF.births.ex
  simp_all only [e1,zaJ]
  refine ⟨kvs,e2,by rw [d.length];exact hl,?_⟩
  rw [d.names]
  exact q
def lk(t:Tab)(n:Str):List Int:=(look t n).getD []
def zcT(A:zj):Sp:=λvs H Q _=>∃(p b k:Addr)(t:Tab)(ks:List (Str×Tab))(n:Str),vs=[.ref p,.str n]/\zaN A H p b k t ks/\∀H',zg H H'->Q (.int (lk t n).length) H'
theorem zaY.get{H:Hp}{t:Tab}{kvs:List (Str×V)}(d:Dct (zao H) kvs t)(n:Str){p:Addr}{H':Hp}(s:zg H H')(hp:H' p=some (.tup [])):∃a,(look kvs n).getD (.ref p) = .ref a/\H' a=some (.tup ((lk t n).map V.int)):=by
 rcases d.look n with ⟨v,l,e1,e2,a,ev,ha⟩|⟨e1,e2⟩
 ·exact ⟨a,by rw [e1,ev];rfl,by unfold lk;rw [e2];exact s _ _ ha⟩
 ·exact ⟨p,by rw [e1];rfl,by unfold lk;rw [e2];exact hp⟩
theorem zpW:zS ["self","file"] ["self","file"] (zk zcq):=⟨rfl,rfl,rfl,f!"",rfl,f!"",f!""⟩
theorem zli{f:Addr}{fd:FuncData}(F:Fun K "many" "Files.many" zcq f fd)(T:Txt K mg A):zr P w K mg base CX0 true 1 f fd ["self","file"] (zcT A):=by
 refine F.ok zpW (λvs H Q E h=>?_) (λcdv Ar outer s H vs Q E hr h=>?_)
 ·obtain ⟨p,b,k,t,ks,n,rfl,_⟩:=h;rfl
 ·obtain ⟨p,b,k,t,ks,n,rfl,hF,q⟩:=h
  refine ⟨_,(W.h (zp (zH (zA zb9 rfl T.n_len PySem.boot_len (zb (zdf (zak hr) (zaQ T.cl_Files T.na_Files_births (za 0)) (za 1) (zcC zd)) zd))))),?_⟩
  obtain ⟨dx,e1⟩:=hF.ob
  obtain ⟨kvs,e2,d⟩:=hF.births.ex
  simp_all only [e1,zaJ]
  refine ⟨⟨_,e2⟩,zero_le _,λp' H2 n2=>⟨_,Rd.same e2 n2.same,?_⟩⟩
  obtain ⟨a,ea,ha⟩:=zaY.get d n n2.same n2.at_
  rw [zaP,ea,zgj]
  exact ⟨_,.inr ha,by rw [length_map];exact q H2 n2.same⟩
theorem Dct.some_iff{α:Type}{R:V->α->Prop}{kvs:List (Str×V)}{t:List (Str×α)}(d:Dct R kvs t)(n:Str):(look kvs n).isSome=(look t n).isSome:=by
 rcases d.look n with ⟨v,l,e1,e2,_⟩|⟨e1,e2⟩<;>rw [e1,e2]<;>rfl
def zdP(A:zj):Sp:=λvs H Q E=>∃(p b k:Addr)(t:Tab)(ks:List (Str×Tab))(n:Str),vs=[.ref p,.str n]/\zaN A H p b k t ks/\((look t n).isSome=true->Q .non H)/\((look t n).isSome=false->E (.ref A.NoFile) none H)
theorem zpZ:zS ["self","file"] ["self","file"] (zk zbU):=⟨rfl,rfl,rfl,f!"",rfl,f!"",f!""⟩
theorem zlN{f:Addr}{fd:FuncData}(F:Fun K "refuse_if_none" "Files.refuse_if_none" zbU f fd)(T:Txt K mg A):zr P w K mg base (CXW P w) true 1 f fd ["self","file"] (zdP A):=by
 refine F.okW zpZ (λvs H Q E h=>?_) (λcdv Ar outer s H vs Q E hr h=>?_)
 ·obtain ⟨p,b,k,t,ks,n,rfl,_⟩:=h;rfl
 ·obtain ⟨p,b,k,t,ks,n,rfl,hF,q,qe⟩:=h
  have Th:=zea (cm:=true) (P:=P) (w:=w) (K:=K) (mg:=mg) (base:=base) (N:=["self","file"]) (qual:="Files.refuse_if_none") (scope:=zk zbU) (f:=f) (cd:=cdv) (A:=Ar) (outer:=outer) (s:=s) (H:=H) (E:=E)
  refine ⟨_,(W.h (zp (zac (z8 (zg5 (zak hr)) (za 1) (zaQ T.cl_Files T.na_Files_births (za 0)) rfl)
   (zp (zeD rfl Th T.ek_NoFile rfl T.mg_NoFile (zb zz zd)))
   zai))),?_⟩
  obtain ⟨dx,e1⟩:=hF.ob
  obtain ⟨kvs,e2,d⟩:=hF.births.ex
  simp_all only [e1,zaJ]
  refine ⟨_,e2,?_⟩
  rw [zaP,Dct.some_iff d n]
  refine za7 (λh=>⟨by decide,qe (zqA h)⟩) (λh=>q (znS h))
end
abbrev zci:Stmt:=zbi (top 23) 3
abbrev zbY:Stmt:=zbi (top 23) 4
abbrev zck:Stmt:=zbi (top 23) 5
section
variable {P:Program}{w:World}{K:Frag}{mg:Str->Option Value}{base:Heap}{A:zj}{b k:Addr}
theorem ze5{i a b:Int}(h1:a<=i)(h2:i<=b):zb0 (.int i) a b=true:=by
 show (decide (a<=i)&&decide (i<=b))=true
 rw [decide_eq_true h1,decide_eq_true h2];rfl
theorem zfV{xs:List V}{i:Int}(h0:0<=i)(h1:i<=xs.length):zaq xs none (some i)=xs.take i.toNat:=by
 have e1:HT.sIx xs.length 0 none=0:=rfl
 have e2:HT.sIx xs.length xs.length (some i)=i.toNat:=by
  unfold HT.sIx
  simp only
  split<;>omega
 unfold zaq
 rw [e1,e2];simp
theorem zi3{xs:List V}{i:Int}(h0:0<=i)(h1:i<=xs.length+1):zaq xs (some i) none=xs.drop i.toNat:=by
 have e1:HT.sIx xs.length xs.length none=xs.length:=rfl
 have e2:HT.sIx xs.length 0 (some i)=min i.toNat xs.length:=by
  unfold HT.sIx
  simp only
  split<;>omega
 unfold zaq
 rw [e1,e2]
 by_cases h:i.toNat<=xs.length
 ·rw [Nat.min_eq_left h,take_of_length_le (by rw [length_drop];omega)]
 ·rw [Nat.min_eq_right (by omega),drop_eq_nil_of_le (Nat.le_refl _),drop_eq_nil_of_le (by omega)];simp
def ze1(A:zj):Sp:=λvs H Q E=>∃(p b k:Addr)(t:Tab)(ks:List (Str×Tab))(n:Str)(i:Int),vs=[.ref p,.str n,.int i]/\zaN A H p b k t ks/\(look t n=none->∀H',zg H H'->E (.ref A.NoFile) none H')/\∀l,look t n=some l->(i<0\/l.length<=i->∀H',zg H H'->E (.ref A.NoPlace) none H')/\(0<=i->i<l.length->∀H',zg H H'->Q (.int (l.getD i.toNat 0)) H')
theorem zk9:zS ["self","file","place"] ["self","file","place"] (zk zci):=⟨rfl,rfl,rfl,f!"",rfl,f!"",f!""⟩
theorem zk6{f:Addr}{fd:FuncData}(F:Fun K "birth" "Files.birth" zci f fd)(T:Txt K mg A)(M_Files_refuse_if_none:GMX P w K mg base true 1 A.Files "refuse_if_none" ["self","file"] (zdP A))(M_Files_many:GM P w K mg base true 1 A.Files "many" ["self","file"] (zcT A))(Gd:GF P w K mg base true 2 "is_within" ["value","least","most"] zc7):zr P w K mg base (CXW P w) true 4 f fd ["self","file","place"] (ze1 A):=by
 refine F.okW zk9 (λvs H Q E h=>?_) (λcdv Ar outer s H vs Q E hr h=>?_)
 ·obtain ⟨p,b,k,t,ks,n,i,rfl,_⟩:=h;rfl
 ·obtain ⟨p,b,k,t,ks,n,i,rfl,hF,qe,q⟩:=h
  have Th:=zea (cm:=true) (P:=P) (w:=w) (K:=K) (mg:=mg) (base:=base) (N:=["self","file","place"]) (qual:="Files.birth") (scope:=zk zci) (f:=f) (cd:=cdv) (A:=Ar) (outer:=outer) (s:=s) (H:=H) (E:=E)
  refine ⟨_,(W.h (zm (zbw (zdD (za 0) T.cl_Files Th M_Files_refuse_if_none hr (zb (za 1) zd)))
   (zm (zac (zcb (zcg (zF Gd hr rfl (zb (za 2) (zb zq (zb (zC zh1 (zey (za 0) T.cl_Files M_Files_many hr (zb (za 1) zd)) zq) zd))))))
   (zp (zeD rfl Th T.ek_NoPlace rfl T.mg_NoPlace (zb zz zd)))
   zai)
   (zp (zH (za6 zbq (za6 (ziH (zak hr)) (zaQ T.cl_Files T.na_Files_births (za 0)) (za 1) (λ_ _=>rfl)) (za 2) (λ_ _=>rfl))))))),?_⟩
  obtain ⟨dx,e1⟩:=hF.ob
  simp_all only [e1,zaJ,zet,zcE]
  refine ⟨p,b,k,t,ks,n,rfl,hF,λhs=>?_,λhs=>⟨_,rfl,qe (by cases e:look t n with|none=>rfl|some _=>rw [e] at hs;cases hs) _ (zg.refl _)⟩⟩
  obtain ⟨l,hn⟩:=isSome_iff_exists.mp hs
  obtain ⟨q1,q⟩:=q l hn
  simp_all only [e1,zaJ,zet,zcE]
  refine ⟨p,b,k,t,ks,n,rfl,hF,λH1 s1=>?_⟩
  have F1:=hF.same s1
  obtain ⟨dx',e1'⟩:=F1.ob
  obtain ⟨kvs,e2,d⟩:=F1.births.ex
  have el:lk t n=l:=by unfold lk;rw [hn];rfl
  simp_all only []
  refine ⟨_,_,_,rfl,.int i,?_⟩
  rw [el]
  by_cases i2:0<=i/\i<l.length
  case neg =>
   rw [show zb0 (.int i) 0 ((l.length:Int)-1)=false by
    show (decide (0<=i)&&decide (i<=(l.length:Int)-1))=false
    by_cases i0:0<=i
    ·rw [decide_eq_false (p:=i<=(l.length:Int)-1) (λz=>i2 ⟨i0,by omega⟩),Bool.and_false]
    ·rw [decide_eq_false i0,Bool.false_and]]
   simp_all only []
   exact ⟨by decide,q1 (by omega) H1 s1⟩
  obtain ⟨i0,i1⟩:=i2
  have q:=q i0 i1
  rw [ze5 i0 (by omega)]
  simp_all only [e1',zaJ]
  refine ⟨_,e2,?_⟩
  rcases d.look n with ⟨v,l',d1,d2,a,ev,ha⟩|⟨_,d2⟩
  ·rw [hn] at d2
   cases d2
   subst ev
   refine ⟨.ref a,by rw [zaP];exact d1,?_⟩
   rw [zeh]
   have hi:i.toNat<l.length:=by omega
   refine ⟨_,.inr ha,.int (l.getD i.toNat 0),?_,q H1 s1⟩
   have z:atI (l.map V.int) ((i.toNat:Nat):Int)=some (.int (l[i.toNat])):=zdU (by rw [getElem?_map,List.getElem?_eq_getElem hi];rfl)
   rw [show ((i.toNat:Nat):Int)=i by omega] at z
   rw [z,getD_eq_getElem?_getD,List.getElem?_eq_getElem hi];rfl
  ·rw [hn] at d2;cases d2
def zgd(A:zj):Sp:=λvs H Q E=>∃(p b k:Addr)(t:Tab)(ks:List (Str×Tab))(n:Str)(i x:Int),vs=[.ref p,.str n,.int i,.int x]/\zy A H p b k t ks/\(lk t n).length<=1000/\t.length<=1000 /\
 (0<=i->i<=(lk t n).length->∀H',But b H H'->zy A H' p b k (zJ t n ((lk t n).take i.toNat++[x]++(lk t n).drop (i.toNat+1))) ks->Q .non H')/\(i<0\/(lk t n).length<i->∀H',zg H H'->E (.ref A.NoPlace) none H')
theorem zjh:zS ["self","file","place","birth","births"] ["self","file","place","birth"] (zk zbY):=⟨rfl,rfl,rfl,f!"",rfl,f!"",f!""⟩
theorem zqJ{f:Addr}{fd:FuncData}(F:Fun K "put" "Files.put" zbY f fd)(T:Txt K mg A)(M_Files_many:GM P w K mg base true 1 A.Files "many" ["self","file"] (zcT A))(Gd:GF P w K mg base true 2 "is_within" ["value","least","most"] zc7):zr P w K mg base (CXW P w) true 4 f fd ["self","file","place","birth"] (zgd A):=by
 refine F.okW zjh (λvs H Q E h=>?_) (λcdv Ar outer s H vs Q E hr h=>?_)
 ·obtain ⟨p,b,k,t,ks,n,i,x,rfl,_⟩:=h;rfl
 ·obtain ⟨p,b,k,t,ks,n,i,x,rfl,hF,l1,t1,q,qe⟩:=h
  have Th:=zea (cm:=true) (P:=P) (w:=w) (K:=K) (mg:=mg) (base:=base) (N:=["self","file","place","birth","births"]) (qual:="Files.put") (scope:=zk zbY) (f:=f) (cd:=cdv) (A:=Ar) (outer:=outer) (s:=s) (H:=H) (E:=E)
  refine ⟨_,(W.h (zm (zac (zcb (zcg (zF Gd hr rfl (zb (za 2) (zb zq (zb (zey (za 0) T.cl_Files M_Files_many hr (zb (za 1) zd)) zd))))))
   (zp (zeD rfl Th T.ek_NoPlace rfl T.mg_NoPlace (zb zz zd)))
   zai)
   (zm (zG (i:=4) zjh.nd rfl (Or.inl rfl) (zdf (zak hr) (zaQ T.cl_Files T.na_Files_births (za 0)) (za 1) (zcC zd)))
   (zp (zbZ (zC ze7 (zC ze7 (zcG zfQ (za 4) zcw (zcB (za 2))) (zcC (zb (za 3) zd))) (zcG zfQ (za 4) (zcB (zC ze7 (za 2) zq)) zcw)) (zdn (zaQ T.cl_Files T.na_Files_births (za 0)) (za 1) (zff (zak hr)))))))),?_⟩
  obtain ⟨dx,e1⟩:=hF.ob
  simp_all only [e1,zaJ,zcE]
  refine ⟨p,b,k,t,ks,n,rfl,hF.r,λH1 s1=>?_⟩
  have F1:=hF.same s1
  obtain ⟨dx',e1'⟩:=F1.ob
  obtain ⟨kvs,e2,d⟩:=F1.births.ex
  simp_all only []
  refine ⟨_,_,_,rfl,.int i,?_⟩
  by_cases i01:0<=i/\i<=((lk t n).length:Int)
  case neg =>
   rw [show zb0 (.int i) 0 ((lk t n).length:Int)=false by show (decide (0<=i)&&decide (i<=((lk t n).length:Int)))=false;rw [<- Bool.decide_and];exact decide_eq_false i01]
   simp_all only []
   exact ⟨by decide,qe (by omega) H1 s1⟩
  obtain ⟨i0,i1⟩:=i01
  have q:=q i0 i1
  rw [ze5 i0 i1]
  simp_all only [e1',zaJ]
  refine ⟨⟨_,.inl e2⟩,zero_le _,λp1 H2 n2=>⟨_,.inl (n2.same _ _ e2),?_⟩⟩
  obtain ⟨a,ea,ha⟩:=zaY.get d n n2.same n2.at_
  rw [zaP,ea]
  simp_all only [ha]
  intro p2 H3 s3 e3
  refine ⟨by decide,λp3 H4 n4=>?_⟩
  rw [zfV i0 (by rw [length_map];exact i1)] at e3
  have big:∀n:Nat,n<=100000->n<=sizeLine:=λn h=>Nat.le_trans h (by decide)
  refine .inr ⟨_,n4.same _ _ e3,_,n4.at_,big _ (by simp;omega),λp4 H5 s5 e5=>?_⟩
  have ha5:=s5 _ _ (n4.same _ _ (s3 _ _ ha))
  refine .inr ⟨_,ha5,λp6 H6 s6 e6=>?_⟩
  rw [zi3 (by omega) (by rw [length_map];omega)] at e6
  refine .inr ⟨_,s6 _ _ e5,_,e6,big _ (by simp;omega),λp7 H7 s7 e7=>?_⟩
  have sB:zg H1 H7:=((((n2.same.trans s3).trans n4.same).trans s5).trans s6).trans s7
  have F7:=F1.same sB
  obtain ⟨dx7,e17⟩:=F7.ob
  simp_all only [e17,zaJ]
  refine ⟨_,sB _ _ e2,by rw [zfY,d.length];exact Nat.lt_of_le_of_lt t1 (by decide),?_⟩
  rw [zfJ]
  have bt:∀xs,H7 b≠some (.tup xs):=λxs z=>by rw [sB _ _ e2] at z;cases z
  have et:(i+1).toNat=i.toNat+1:=by omega
  have d7:Dct (zao H7) kvs t:=d.imp λv a r=>r.same sB
  have r7:zao H7 (.ref p7) ((lk t n).take i.toNat++[x]++(lk t n).drop (i.toNat+1)):=⟨p7,rfl,by rw [e7,et];simp [List.map_take,List.map_drop]⟩
  refine q _ (λc o nc e=>by rw [zh nc];exact sB _ _ (s1 _ _ e)) (F7.setB But.upd zx ((d7.put n r7).imp λv a r=>r.but But.upd bt) (zdz hF.births.nd))
def zdL(t:Tab)(n:Str)(m:Int):Tab:=if m=0 then zE t n else zJ t n ((lk t n).take m.toNat)
def zgE(A:zj):Sp:=λvs H Q E=>∃(p b k:Addr)(t:Tab)(ks:List (Str×Tab))(n:Str)(m:Int),vs=[.ref p,.str n,.int m]/\zy A H p b k t ks/\0<=m/\t.length<=1000/\(look t n=none->E (.ref A.NoFile) none H)/\∀l,look t n=some l->(l.length<m->∀H',zg H H'->E (.ref A.NoPlace) none H')/\(m<=l.length->∀H',But b H H'->zy A H' p b k (zdL t n m) ks->Q .non H')
theorem zmo:zS ["self","file","many"] ["self","file","many"] (zk zck):=⟨rfl,rfl,rfl,f!"",rfl,f!"",f!""⟩
theorem zo6{f:Addr}{fd:FuncData}(F:Fun K "cut" "Files.cut" zck f fd)(T:Txt K mg A)(M_Files_refuse_if_none:GMX P w K mg base true 1 A.Files "refuse_if_none" ["self","file"] (zdP A))(M_Files_many:GM P w K mg base true 1 A.Files "many" ["self","file"] (zcT A))(Gd:GF P w K mg base true 2 "is_within" ["value","least","most"] zc7):zr P w K mg base (CXW P w) true 4 f fd ["self","file","many"] (zgE A):=by
 refine F.okW zmo (λvs H Q E h=>?_) (λcdv Ar outer s H vs Q E hr h=>?_)
 ·obtain ⟨p,b,k,t,ks,n,m,rfl,_⟩:=h;rfl
 ·obtain ⟨p,b,k,t,ks,n,m,rfl,hF,m0,t1,qn,q⟩:=h
  have hu:_<cLine:=lt_of_succ_lt (zak hr)
  have Th:=zea (cm:=true) (P:=P) (w:=w) (K:=K) (mg:=mg) (base:=base) (N:=["self","file","many"]) (qual:="Files.cut") (scope:=zk zck) (f:=f) (cd:=cdv) (A:=Ar) (outer:=outer) (s:=s) (H:=H) (E:=E)
  refine ⟨_,(W.h (zm (zbw (zdD (za 0) T.cl_Files Th M_Files_refuse_if_none hr (zb (za 1) zd)))
   (zm (zac (zcb (zcg (zF Gd hr rfl (zb (za 2) (zb zq (zb (zey (za 0) T.cl_Files M_Files_many hr (zb (za 1) zd)) zd))))))
   (zp (zeD rfl Th T.ek_NoPlace rfl T.mg_NoPlace (zb zz zd)))
   zai)
   (zp (zac (z8 (zbO hu) (za 2) zq (zZ _))
   (zp (zpN (zaQ T.cl_Files T.na_Files_births (za 0)) (za 1)))
   (zp (zbZ (zcG zfQ (za6 (ziH (zak hr)) (zaQ T.cl_Files T.na_Files_births (za 0)) (za 1) (λ_ _=>rfl)) zcw (zcB (za 2))) (zdn (zaQ T.cl_Files T.na_Files_births (za 0)) (za 1) (zff (zak hr)))))))))),?_⟩
  obtain ⟨dx,e1⟩:=hF.ob
  simp_all only [e1,zaJ,zet,zcE]
  refine ⟨p,b,k,t,ks,n,rfl,hF.r,λhs=>?_,λhs=>⟨_,rfl,qn (by cases e:look t n with|none=>rfl|some _=>rw [e] at hs;cases hs)⟩⟩
  obtain ⟨l,hn⟩:=isSome_iff_exists.mp hs
  obtain ⟨qe,q⟩:=q l hn
  simp_all only [e1,zaJ,zet,zcE]
  refine ⟨p,b,k,t,ks,n,rfl,hF.r,λH1 s1=>?_⟩
  have F1:=hF.same s1
  obtain ⟨dx',e1'⟩:=F1.ob
  obtain ⟨kvs,e2,d⟩:=F1.births.ex
  have el:lk t n=l:=by unfold lk;rw [hn];rfl
  simp_all only []
  refine ⟨_,_,_,rfl,.int m,?_⟩
  by_cases m1:m<=(l.length:Int)
  case neg =>
   rw [el,show zb0 (.int m) 0 (l.length:Int)=false by show (decide (0<=m)&&decide (m<=(l.length:Int)))=false;rw [decide_eq_false m1,Bool.and_false]]
   simp_all only []
   exact ⟨by decide,qe (by omega) H1 s1⟩
  have q:=q m1
  rw [ze5 m0 (by rw [el];omega)]
  simp_all only [e1',zaJ]
  have bt:∀xs,H1 b≠some (.tup xs):=λxs z=>by rw [e2] at z;cases z
  obtain ⟨v,l',d1,d2,a,ev,ha⟩:∃v l',look kvs n=some v/\look t n=some l'/\zao H1 v l':=by
   rcases d.look n with ⟨v,l',d1,d2,r⟩|⟨_,d2⟩
   ·exact ⟨v,l',d1,d2,r⟩
   ·rw [hn] at d2;cases d2
  rw [hn] at d2
  cases d2
  subst ev
  refine za7 (λh=>?_) (λh=>?_)
  ·have hm:m=0:=of_decide_eq_true h
   refine ⟨_,e2,by rw [zaP,d1];rfl,?_⟩
   rw [ziS]
   have ec:zdL t n m=zE t n:=if_pos hm
   refine q _ (λc o nc e=>by rw [zh nc];exact s1 _ _ e) ?_
   rw [ec]
   exact F1.setB But.upd zx ((d.drop n).imp λv a r=>r.but But.upd bt) (zi9 hF.births.nd)
  ·have hm : ¬ m=0:=λz=>h (decide_eq_true z)
   refine ⟨_,.inl e2,.ref a,by rw [zaP];exact d1,?_⟩
   simp_all only [ha]
   intro p2 H2 s2 ep
   rw [zfV m0 (by rw [length_map];exact m1)] at ep
   have F2:=F1.same s2
   obtain ⟨dx2,e12⟩:=F2.ob
   simp_all only [e12,zaJ]
   refine ⟨_,s2 _ _ e2,by rw [zfY,d.length];exact Nat.lt_of_le_of_lt t1 (by decide),?_⟩
   rw [zfJ]
   have bt2:∀xs,H2 b≠some (.tup xs):=λxs z=>by rw [s2 _ _ e2] at z;cases z
   have d2:Dct (zao H2) kvs t:=d.imp λv a r=>r.same s2
   have r2:zao H2 (.ref p2) ((lk t n).take m.toNat):=⟨p2,rfl,by rw [ep,el,List.map_take]⟩
   have ec:zdL t n m=zJ t n ((lk t n).take m.toNat):=if_neg hm
   refine q _ (λc o nc e=>by rw [zh nc];exact s2 _ _ (s1 _ _ e)) ?_
   rw [ec]
   exact F2.setB But.upd zx ((d2.put n r2).imp λv a r=>r.but But.upd bt2) (zdz hF.births.nd)
end
abbrev zcv:Stmt:=zbi (top 23) 8
section
variable {P:Program}{w:World}{K:Frag}{mg:Str->Option Value}{base:Heap}{A:zj}{b k:Addr}
def ze3(A:zj):Sp:=λvs H Q _=>∃(p b k:Addr)(t:Tab)(ks:List (Str×Tab)),vs=[.ref p]/\zaN A H p b k t ks/\ks.length<64/\∀l H',New H l (.lst ((zaK (names ks)).map V.str)) H'->Q (.ref l) H'
theorem zm2:zS ["self"] ["self"] (zk zcv):=⟨rfl,rfl,rfl,f!"",rfl,f!"",f!""⟩
theorem zlT{f:Addr}{fd:FuncData}(F:Fun K "held" "Files.held" zcv f fd)(T:Txt K mg A):zr P w K mg base CX0 true 1 f fd ["self"] (ze3 A):=by
 refine F.ok zm2 (λvs H Q E h=>?_) (λcdv Ar outer s H vs Q E hr h=>?_)
 ·obtain ⟨p,b,k,t,ks,rfl,_⟩:=h;rfl
 ·obtain ⟨p,b,k,t,ks,rfl,hF,hl,q⟩:=h
  refine ⟨_,(W.h (zp (zH (zA (zdI rfl) rfl T.n_sorted boot_sorted (zb (zaQ T.cl_Files T.na_Files_kept (za 0)) zd))))),?_⟩
  obtain ⟨dx,e1⟩:=hF.ob
  obtain ⟨kk,e2,d⟩:=hF.kept
  simp_all only [e1,zfl]
  refine ⟨kk,e2,by rw [d.length];exact hl,?_⟩
  rw [d.names]
  exact q
theorem zmx{α:Type}{t:List (Str×α)}{n:Str}{a:α}{p:Str×α}(h:p∈zJ t n a):p∈t\/p=(n,a):=by
 unfold zJ at h
 split at h
 ·obtain ⟨q,hq,e⟩:=mem_map.mp h
  by_cases c:q.1=n
  ·rw [if_pos c] at e;right;rw [<- e,c]
  ·rw [if_neg c] at e;left;rw [<- e];exact hq
 ·rcases mem_append.mp h with h|h
  ·exact .inl h
  ·exact .inr (by simpa using h)
def zaF(A:zj)(H:Hp)(k c:Addr):Prop:=∀kvs,H k=some (.dK kvs)->∀pv∈kvs,∀q b' k' dx,pv.2 = .ref q->H q=some (.ins A.Files dx (zD b' k'))->b'≠c/\k'≠c
theorem zg9{b k b' k':Addr}(h:zD b k=zD b' k'):b=b'/\k=k':=by
 unfold zD at h
 injection h with h1 h2
 injection h1 with _ h1
 injection h2 with h2 _
 injection h2 with _ h2
 injection h1 with h1
 injection h2 with h2
 exact ⟨h1,h2⟩
end
theorem zn1(a b:Str):leS a b\/leS b a:=by
 unfold leS
 rw [ltCps_eq,ltCps_eq]
 by_cases h:PyProof.Rows.strKind.blt b.cps.toList a.cps.toList=true
 ·exact .inr (KeyOrd.klt_asymm (O:=PyProof.Rows.strKind.toKeyOrd) h)
 ·exact .inl (by simpa using h)
theorem zsn{a b c:Str}(h1:leS a b)(h2:leS b c):leS a c:=by
 unfold leS at *
 rw [ltCps_eq] at *
 exact KeyOrd.kle_trans (O:=PyProof.Rows.strKind.toKeyOrd) h1 h2
theorem zhI(x:Str):∀l:List Str,l.Pairwise leS->∃m:List Str,m.Perm (x::l)/\m.Pairwise leS
 | [],_=>⟨[x],List.Perm.refl _,by simp⟩
 | y::l,h=>by
  rcases zn1 x y with hx|hx
  ·refine ⟨x::y::l,List.Perm.refl _,pairwise_cons.mpr ⟨λz hz=>?_,h⟩⟩
   rcases mem_cons.mp hz with rfl|hz
   ·exact hx
   ·exact zsn hx ((pairwise_cons.mp h).1 z hz)
  ·obtain ⟨m,p,hm⟩:=zhI x l (pairwise_cons.mp h).2
   refine ⟨y::m,(List.Perm.cons y p).trans (List.Perm.swap x y l),pairwise_cons.mpr ⟨λz hz=>?_,hm⟩⟩
   rcases mem_cons.mp (p.mem_iff.mp hz) with rfl|hz
   ·exact hx
   ·exact (pairwise_cons.mp h).1 z hz
theorem zgZ:∀ks:List Str,∃ss:List Str,ss.Perm ks/\ss.Pairwise leS
 | []=>⟨[],List.Perm.refl _,.nil⟩
 | x::ks=>by
  obtain ⟨ss,p,h⟩:=zgZ ks
  obtain ⟨m,p2,h2⟩:=zhI x ss h
  exact ⟨m,p2.trans (List.Perm.cons x p),h2⟩
theorem zct(ks:List Str):(zaK ks).Perm ks/\(zaK ks).Pairwise leS:=by
 obtain ⟨ss,p,h⟩:=zgZ ks
 have e:=zgY p (sortedS_of_pairwise ss h)
 rw [<- e];exact ⟨p,h⟩
theorem zna{ks ls:List Str}(p:ks.Perm ls):zaK ks=zaK ls:=zfR (((zct ks).1.trans p).trans (zct ls).1.symm) (zct ks).2 (zct ls).2
theorem zhT{α:Type}{t u:List (Str×α)}(h:zay t u)(ht:(names t).Nodup)(hu:(names u).Nodup):zaK (names t)=zaK (names u):=zna (h.names ht hu)
theorem ze2{α:Type}{t u:List (Str×α)}(h:zay t u)(ht:(names t).Nodup)(hu:(names u).Nodup):t.length=u.length:=by
 have:=(h.names ht hu).length_eq
 simpa [names] using this
section
variable {P:Program}{w:World}{K:Frag}{mg:Str->Option Value}{base:Heap}{A:zj}{b k:Addr}
theorem zaA.files{H:Hp}{q:Addr}{t:Tab}(h:zaA A H q b k t):zaN A H q b k t []:=⟨h.ob,h.births,⟨[],h.kept,.nil⟩,by simp [names]⟩
end
abbrev zbF:Stmt:=zbi (top 23) 10
theorem FS.freeze{H:Hp}{d:Addr}{o:Obj}{kvs:List (Key×V)}(e:H d=some (.dK kvs)):FS H (upd H d (.frz o (.dK kvs))):=by
 refine ⟨λa u n m h=>?_,λa xs r=>?_⟩
 ·rw [zh (λz=>by subst z;rw [e] at h;cases h;exact n _ rfl)];exact h
 ·by_cases z:a=d
  ·subst z
   rcases r with r|⟨o',r⟩
   ·rw [e] at r;cases r;exact .inr ⟨o,zx⟩
   ·rw [e] at r;cases r
  ·unfold Rd;rw [zh z];exact r
theorem FS.thaw{H:Hp}{d:Addr}{o:Obj}{kvs:List (Key×V)}(e:H d=some (.frz o (.dK kvs))):FS H (upd H d (.dK kvs)):=by
 refine ⟨λa u n m h=>?_,λa xs r=>?_⟩
 ·rw [zh (λz=>by subst z;rw [e] at h;cases h;exact m _ _ rfl)];exact h
 ·by_cases z:a=d
  ·subst z
   rcases r with r|⟨o',r⟩
   ·rw [e] at r;cases r
   ·rw [e] at r;cases r;exact .inl zx
  ·unfold Rd;rw [zh z];exact r
theorem zoq{α β:Type}{R:α->β->Prop}{l1 l2:List α}{m1 m2:List β}(h1:Paired R l1 m1)(h2:Paired R l2 m2):Paired R (l1++l2) (m1++m2):=by
 induction h1 with
 | nil=>exact h2
 | cons r _ ih=>exact .cons r ih
def z6(t:Tab):List Int:=t.flatMap (·.2)
def zaW(t:Tab)(ks:List (Str×Tab)):List Int:=z6 t++ks.flatMap λp=>z6 p.2
section
variable {P:Program}{w:World}{K:Frag}{mg:Str->Option Value}{base:Heap}{A:zj}
def zgs(H:Hp)(v:V)(t:Tab):Prop:=∃b,v = .ref b/\za2 H b t
theorem zjP{ns:List Int}{n:Int}:ns.length<=(zt ns n).length:=by
 unfold zt
 split
 ·exact Nat.le_refl _
 ·simp
theorem zek:∀{l ns:List Int},ns.length<=(l.foldl zt ns).length
 | [],ns=>Nat.le_refl _
 | n::l,ns=>Nat.le_trans (zjP (n:=n)) (zek (l:=l) (ns:=zt ns n))
theorem zkv{l ns:List Int}{i:Nat}:((l.take i).foldl zt ns).length<=(l.foldl zt ns).length:=by
 have h:=zek (l:=l.drop i) (ns:=(l.take i).foldl zt ns)
 rw [<- foldl_append,take_append_drop] at h
 exact h
theorem znQ{l ns:List Int}{i:Nat}{n:Int}(h:l[i]?=some n):(l.take (i+1)).foldl zt ns=zt ((l.take i).foldl zt ns) n:=by
 rw [take_add_one,h,foldl_append]
 rfl
theorem zpP{Hx:Hp}{a:Addr}{l:List Int}(h:Hx a=some (.tup (l.map V.int))){x y z:Option V}{ns:List Int}(few:(l.foldl zt ns).length<3000){N:L2.St->List Int->Hp->Prop}(hN:∀z',N [x,y,z'] (l.foldl zt ns) Hx) :
  zaS (Itt K a) (zbv 2) (zcj (zb5 2)) [x,y,z] ns Hx N:=by
 refine zaS.tup (xs:=l.map V.int) (λi τ ns' H'=>H'=Hx/\(∃z',τ=[x,y,z'])/\ns'=(l.take i).foldl zt ns) (λi τ ns H ⟨e,_⟩=>e ▸ .inl (.inl h)) ⟨rfl,⟨z,rfl⟩,rfl⟩ ?_ ?_
 ·rintro N' i v τ ns' H' hv ⟨rfl,⟨z',rfl⟩,rfl⟩ hN'
  rw [getElem?_map] at hv
  obtain ⟨n,hn,rfl⟩:=map_eq_some_iff.mp hv
  simp_all only []
  exact ⟨Nat.lt_of_le_of_lt zkv few,hN' _ _ _ ⟨rfl,⟨_,rfl⟩,(znQ hn).symm⟩⟩
 ·rintro τ ns' H' ⟨rfl,⟨z',rfl⟩,rfl⟩
  rw [length_map,take_of_length_le (Nat.le_refl _)]
  exact hN z'
theorem ziW{u:Tab}{i:Nat}{p:Str×List Int}(h:u[i]?=some p):z6 (u.take (i+1))=z6 (u.take i)++p.2:=by
 unfold z6
 rw [take_add_one,h,flatMap_append]
 simp
theorem zpb{u:Tab}{i:Nat}:∃r,z6 u=z6 (u.take i)++r:=⟨z6 (u.drop i),by unfold z6;rw [<- flatMap_append,take_append_drop]⟩
theorem zjl{Hx:Hp}{d:Addr}{o:Obj}{kvs:List (Str×V)}{u:Tab}(h:Hx d=some (.frz o (.dK (sk kvs))))(dc:Dct (zao Hx) kvs u){x y z:Option V}{ns:List Int}(few:((z6 u).foldl zt ns).length<3000){N:L2.St->List Int->Hp->Prop}(hN:∀y' z',N [x,y',z'] ((z6 u).foldl zt ns) Hx) :
  zaS (Itw d o (sk kvs)) (zbv 1) (zbX (zdK K (zb5 1)) (zbv 2) (zcj (zb5 2))) [x,y,z] ns Hx N:=by
 have hl:=dc.length
 refine zaS.vals (λi τ ns' H'=>H'=Hx/\(∃y' z',τ=[x,y',z'])/\ns'=(z6 (u.take i)).foldl zt ns) (λi τ ns H ⟨e,_⟩=>e ▸ h) ⟨rfl,⟨y,z,rfl⟩,rfl⟩ ?_ ?_
 ·rintro N' i p τ ns' H' hp ⟨rfl,⟨y',z',rfl⟩,rfl⟩ hN'
  obtain ⟨pv,hpv,rfl⟩:∃pv,kvs[i]?=some pv/\p=(.inr pv.1,pv.2):=by
   unfold sk at hp
   rw [getElem?_map] at hp
   obtain ⟨pv,e1,e2⟩:=map_eq_some_iff.mp hp
   exact ⟨pv,e1,e2.symm⟩
  obtain ⟨l,hu,a,ea,ha⟩:=Dct.at dc hpv
  simp_all only [ea]
  have fw:(l.foldl zt ((z6 (u.take i)).foldl zt ns)).length<3000:=by
   have hs:=ziW hu
   rw [<- foldl_append,<- hs]
   obtain ⟨r,e⟩:=zpb (u:=u) (i:=i+1)
   rw [e,foldl_append] at few
   exact Nat.lt_of_le_of_lt zek few
  refine ⟨⟨_,.inl (.inl ha)⟩,zpP ha fw λz2=>hN' _ _ _ ⟨rfl,⟨_,_,rfl⟩,?_⟩⟩
  have hs:=ziW hu
  rw [<- foldl_append,<- hs]
 ·rintro τ ns' H' ⟨rfl,⟨y',z',rfl⟩,rfl⟩
  have e:(sk kvs).length=u.length:=by rw [<- hl];simp [sk]
  rw [e,take_of_length_le (Nat.le_refl _)]
  exact hN y' z'
structure LvI(Hf:Hp)(k:Addr)(o:Obj)(kk:List (Str×V))(ks:List (Str×Tab))(i:Nat)(τ:L2.St)(ys:List V)(H':Hp):Prop where
 ex:∃t1,τ=[t1]
 ys:Paired (zgs Hf) ys ((ks.take i).map (·.2))
 same:zg Hf H'
structure OuI(H4:Hp)(us:List Tab)(i:Nat)(τ:L2.St)(ns:List Int)(H':Hp):Prop where
 ex:∃x y z,τ=[x,y,z]
 ns:ns=((us.take i).flatMap z6).foldl zt []
 same:zg H4 H'
def zgi(A:zj):Sp:=λvs H Q _=>∃(p b k:Addr)(t:Tab)(ks:List (Str×Tab)),vs=[.ref p]/\zy A H p b k t ks/\(uniq (zaW t ks)).length<3000/\ks.length<=1000 /\
 ∀l (ns:List Int) H',zg H H'->H l=none->H' l=some (.lst (ns.map V.int))->ns.Perm (uniq (zaW t ks))->ns.Pairwise (·<=·)->Q (.ref l) H'
theorem ziC:zS ["self","tables"] ["self"] (zk zbF):=⟨rfl,rfl,rfl,f!"",rfl,f!"",f!""⟩
theorem zoe:zb4 { kind:=.function,names:=[(Str.ofString ".0",.local),(Str.ofString "files",.local)],isGenerator:=false,isCoroutine:=false,more:=[] } (zk zbF).names ["self","tables"] ["files"] [none]=true:=by decide +kernel
theorem zqo:(["files"]:List Str).Nodup:=by decide +kernel
theorem zkf:zb4 { kind:=.function,names:=[(Str.ofString ".0",.local),(Str.ofString "table",.local),(Str.ofString "births",.local),(Str.ofString "birth",.local)],isGenerator:=false,isCoroutine:=false,more:=[] } (zk zbF).names ["self","tables"] ["table","births","birth"] [none,none,none]=true:=by decide +kernel
theorem ze6:(["table","births","birth"]:List Str).Nodup:=by decide +kernel
theorem zrN{f:Addr}{fd:FuncData}(F:Fun K "living" "Files.living" zbF f fd)(T:Txt K mg A):zr P w K mg base CX0 true 1 f fd ["self"] (zgi A):=by
 refine F.ok ziC (λvs H Q E h=>?_) (λcdv Ar outer s H vs Q E hr h=>?_)
 ·obtain ⟨p,b,k,t,ks,rfl,_⟩:=h;rfl
 ·obtain ⟨p,b,k,t,ks,rfl,hF,h64,hk,q⟩:=h
  refine ⟨_,(W.h (zm (zG (i:=1) ziC.nd rfl (Or.inl rfl) (zC zal (zah (zb (zaQ T.cl_Files T.na_Files_births (za 0)) zd)) (zqm (zeA (λ_=>rfl) (za1.of zoe) (zhW (zaQ T.cl_Files T.na_Files_kept (za 0))) (λ_ _ _ _ _=>(zaf (i:=0) zqo rfl (Or.inl rfl))) (λ_ _ _ _ _=>zec) (λ_ _ _ _ _=>(zaQ T.cl_Files T.na_Files_births (za 0)))))))
   (zp (zH (zA (zfy rfl) rfl T.n_sorted boot_sorted (zb (znU (λ_=>rfl) (λ_=>rfl) (λ_=>rfl) (za1.of zkf) (zh5 (za 1)) (λ_ _ _ _ _=>(zaf (i:=0) ze6 rfl (Or.inl rfl))) (λ_ _ _ _ _=>(zhW (za 0))) (λ_ _ _ _ _=>(zaf (i:=1) ze6 rfl (Or.inl rfl))) (λ_ _ _ _ _=>(zkF (za 1))) (λ_ _ _ _ _=>(zaf (i:=2) ze6 rfl (Or.inl rfl))) (λ_ _ _ _ _=>(za 2))) zd)))))),?_⟩
  obtain ⟨dx,e1⟩:=hF.ob
  obtain ⟨kk,e2,d⟩:=hF.kept
  simp_all only [e1,zaJ,zfl]
  refine ⟨by decide,λlb H1 n1 nsm=>⟨k,sk kk,n1.same _ _ e2,λo=>?_⟩⟩
  have pk:p≠k:=λz=>by rw [z,e2] at e1;cases e1
  have hf:upd H1 k (.frz o (.dK (sk kk))) p=some (.ins A.Files dx (zD b k)):=by rw [zh pk];exact n1.same _ _ e1
  have fs:FS H (upd H1 k (.frz o (.dK (sk kk)))):=(FS.of n1.same).trans (.freeze (n1.same _ _ e2))
  simp_all only [hf,zfl]
  refine ⟨o,sk kk,zx,zax.vals (LvI (upd H1 k (.frz o (.dK (sk kk)))) k o kk ks) (λi τ ys H' I=>?_) (λi τ ys H' I=>I.same _ _ zx) ⟨⟨_,rfl⟩,by rw [List.take_zero];exact .nil,zg.refl _⟩ ?_ ?_⟩
  ·have:=I.ys.length
   have h2:=List.length_take_le' i ks
   rw [length_map] at this
   exact Nat.lt_of_le_of_lt (show ys.length<=1000 by omega) (by decide)
  ·intro N i pv τ ys H' hp I hN
   obtain ⟨t1,rfl⟩:=I.ex
   obtain ⟨qv,hqv,rfl⟩:∃qv,kk[i]?=some qv/\pv=(.inr qv.1,qv.2):=by
    unfold sk at hp
    rw [getElem?_map] at hp
    obtain ⟨pv,e1,e2⟩:=map_eq_some_iff.mp hp
    exact ⟨pv,e1,e2.symm⟩
   obtain ⟨u,hu,q1,b1,k1,eq1,hB,n1b,n1k,_⟩:=Dct.at d hqv
   have hB':=hB.fs fs
   obtain ⟨dx1,e11⟩:=hB'.ob
   have e12:=I.same _ _ e11
   simp_all only [eq1,e12,zaJ]
   refine hN _ _ _ ⟨⟨_,rfl⟩,?_,I.same⟩
   rw [take_add_one,hu,map_append]
   exact zoq I.ys (.cons ⟨b1,rfl,hB'.births⟩ .nil)
  ·intro τ ys H' I D H2 n2
   have hz:H2 k=some (.frz o (.dK (sk kk))):=n2.same _ _ (I.same _ _ zx)
   refine ⟨o,hz,?_⟩
   have e21:=n1.same _ _ e2
   have s3:zg H1 (upd H2 k (.dK (sk kk))):=λc u eu=>by
    by_cases z:c=k
    ·subst z;rw [e21] at eu;cases eu;exact zx
    ·rw [zh z];exact n2.same _ _ (I.same _ _ (by rw [zh z];exact eu))
   have Dk:D≠k:=λz=>by have:=n2.no;rw [z,I.same _ _ zx] at this;cases this
   have hD:upd H2 k (.dK (sk kk)) D=some (.lst ys):=by rw [zh Dk];exact n2.at_
   have hlb:=s3 _ _ n1.at_
   have fs3:FS (upd H1 k (.frz o (.dK (sk kk)))) (upd H2 k (.dK (sk kk))):=((FS.of I.same).trans (FS.of n2.same)).trans (.thaw hz)
   have py:Paired (zgs (upd H2 k (.dK (sk kk)))) ys (ks.map (·.2)):=by
    have:=I.ys
    rw [show (sk kk).length=ks.length by rw [<- d.length];simp [sk],take_of_length_le (Nat.le_refl _)] at this
    exact Paired.mapP this λv t ⟨b,e,hb⟩=>⟨b,e,hb.fs fs3⟩
   have hb3:za2 (upd H2 k (.dK (sk kk))) b t:=hF.births.r.fs ((FS.of n1.same).trans (.of s3))
   generalize upd H2 k (.dK (sk kk))=H3 at s3 hD hlb py hb3
   simp_all only []
   have ly:=py.length
   rw [length_map] at ly
   refine ⟨[.ref b],hlb,ys,hD,by rw [List.length_singleton];exact Nat.le_trans (show 1+ys.length<=1001 by omega) (by decide),λtl H4 n4=>⟨⟨_,.inl (.inl n4.at_)⟩,?_⟩⟩
   have pall:Paired (zgs H4) ([.ref b]++ys) (t::ks.map (·.2)):=.cons ⟨b,rfl,hb3.fs (.of n4.same)⟩ (Paired.mapP py λv t ⟨b,e,hb⟩=>⟨b,e,hb.fs (.of n4.same)⟩)
   have eU:(t::ks.map (·.2)).flatMap z6=zaW t ks:=by
    unfold zaW
    rw [List.flatMap_cons,List.flatMap_map]
   have hUl:=pall.length
   generalize hus:t::ks.map (·.2)=us at pall eU hUl
   refine zaS.lst (xs:=[.ref b]++ys) (OuI H4 us) (λi τ ns H' I=>.inl (.inl (I.same _ _ n4.at_))) ⟨⟨_,_,_,rfl⟩,rfl,zg.refl _⟩ ?_ ?_
   ·intro N i v τ ns H' hv I hN
    obtain ⟨x,y,z,rfl⟩:=I.ex
    have hi:i<us.length:=by rw [<- hUl];exact (List.getElem?_eq_some_iff.mp hv).1
    have hu:us[i]?=some us[i]:=List.getElem?_eq_getElem hi
    obtain ⟨bi,rfl,hb⟩:=ziZ pall hv hu
    have hb':=hb.fs (.of I.same)
    obtain ⟨kvs,hr',dc⟩:=hb'.ex
    have es:(z6 us[i]).foldl zt ns=((us.take (i+1)).flatMap z6).foldl zt []:=by
     rw [I.ns,<- foldl_append,take_add_one,hu,flatMap_append]
     simp
    have few:((z6 us[i]).foldl zt ns).length<3000:=by
     rw [es]
     have h1:=zek (l:=(us.drop (i+1)).flatMap z6) (ns:=((us.take (i+1)).flatMap z6).foldl zt [])
     rw [<- foldl_append,<- flatMap_append,take_append_drop,eU] at h1
     exact Nat.lt_of_le_of_lt h1 h64
    simp_all only []
    rcases hr' with e|⟨o',e⟩
    ·refine .inr ⟨bi,sk kvs,e,λo'=>⟨o',sk kvs,zx,zjl zx (dc.imp λv l ⟨a,ea,ha⟩=>⟨a,ea,by rw [zh (λz=>by rw [z,e] at ha;cases ha)];exact ha⟩) few λy' z'=>⟨o',zx,hN _ _ _ ⟨⟨_,_,_,rfl⟩,es,λc u eu=>?_⟩⟩⟩⟩
     by_cases zc:c=bi
     ·subst zc
      have:=I.same _ _ eu
      rw [e] at this;cases this
      exact zx
     ·rw [zh zc,zh zc];exact I.same _ _ eu
    ·exact .inl ⟨o',sk kvs,e,zjl e dc few λy' z'=>hN _ _ _ ⟨⟨_,_,_,rfl⟩,es,I.same⟩⟩
   ·intro τ ns H' I D' hD' _
    have en:ns=uniq (zaW t ks):=by
     rw [I.ns,hUl,take_of_length_le (Nat.le_refl _),eU]
     rfl
    subst en
    refine ⟨_,zx,h64,λl ns' H5 n5 pm so=>?_⟩
    have sA:∀{o:HO},zg H (upd H' D' o):=λ{o} c u eu=>by
     have h1:=I.same _ _ (n4.same _ _ (s3 _ _ (n1.same _ _ eu)))
     rw [zh (λz=>by rw [z,hD'] at h1;cases h1)]
     exact h1
    exact q l ns' H5 (sA.trans n5.same) (sA.free n5.no) n5.at_ pm so
end
structure zex(u:HO):Prop where
 d:∀kvs,u≠.dK kvs
 f:∀o kvs,u≠.frz o (.dK kvs)
 t:∀xs,u≠.tup xs
 i:∀C dx b k,u≠.ins C dx (zD b k)
theorem zex.lst{xs:List V}:zex (.lst xs):=⟨λ_ z=>HO.noConfusion z,λ_ _ z=>HO.noConfusion z,λ_ z=>HO.noConfusion z,λ_ _ _ _ z=>HO.noConfusion z⟩
theorem zaA.putX{A:zj}{H H':Hp}{x q b k:Addr}{t:Tab}{u:HO}(h:zaA A H q b k t)(s:But x H H')(hx:H x=some u)(np:zex u):zaA A H' q b k t:=by
 have ne:∀{c:Addr}{o:HO},H c=some o->o≠u->H' c=some o:=λ{c o} e n=>s _ _ (λz=>n (by rw [z,hx] at e;exact (Option.some.inj e).symm)) e
 have rd:∀{c:Addr}{kvs:List (Key×V)},Rd H c (.dK kvs)->Rd H' c (.dK kvs):=λ{c kvs} r=>r.elim (λe=>.inl (ne e λz=>np.d _ z.symm)) λ⟨o,e⟩=>.inr ⟨o,ne e λz=>np.f _ _ z.symm⟩
 obtain ⟨dx,e⟩:=h.ob
 obtain ⟨kvs,e1,d⟩:=h.births.ex
 exact ⟨⟨dx,ne e λz=>np.i _ _ _ _ z.symm⟩,⟨⟨kvs,rd e1,d.imp λv l ⟨a,ea,ha⟩=>⟨a,ea,ne ha λz=>np.t _ z.symm⟩⟩,h.births.nd⟩,rd h.kept⟩
theorem zy.putX{A:zj}{H H':Hp}{x p b k:Addr}{t:Tab}{ks:List (Str×Tab)}{u:HO}(h:zy A H p b k t ks)(s:But x H H')(hx:H x=some u)(np:zex u):zy A H' p b k t ks:=by
 have ne:∀{c:Addr}{o:HO},H c=some o->o≠u->H' c=some o:=λ{c o} e n=>s _ _ (λz=>n (by rw [z,hx] at e;exact (Option.some.inj e).symm)) e
 obtain ⟨dx,e⟩:=h.ob
 obtain ⟨kvs,e1,d⟩:=h.births.ex
 obtain ⟨kk,e2,d2⟩:=h.kept
 exact ⟨⟨dx,ne e λz=>np.i _ _ _ _ z.symm⟩,⟨⟨kvs,ne e1 λz=>np.d _ z.symm,d.imp λv l ⟨a,ea,ha⟩=>⟨a,ea,ne ha λz=>np.t _ z.symm⟩⟩,h.births.nd⟩,⟨kk,ne e2 λz=>np.d _ z.symm,d2.imp λv u ⟨q,b',k',ev,r,n⟩=>⟨q,b',k',ev,r.putX s hx np,n⟩⟩,h.ndk,h.ne⟩
def MdP(H:Hp)(a:Addr)(v:V)(l:List Int):Prop:=∃p,v = .ref p/\H p=some (.lst (l.map V.int))/\p≠a
structure zad(H:Hp)(a d:Addr)(u:Tab):Prop where
 ex:∃kvs,H d=some (.dK (sk kvs))/\Dct (MdP H a) kvs u
 nd:(names u).Nodup
def zaZ(a b d:Addr)(H H':Hp):Prop:=∀c o,c≠a->c≠b->c≠d->H c=some o->H' c=some o
theorem zaZ.of{a b d:Addr}{H H':Hp}(s:zg H H'):zaZ a b d H H':=λc o _ _ _ e=>s c o e
theorem zaZ.trans{a b d:Addr}{H H1 H2:Hp}(x:zaZ a b d H H1)(y:zaZ a b d H1 H2):zaZ a b d H H2:=λc o n1 n2 n3 e=>y c o n1 n2 n3 (x c o n1 n2 n3 e)
theorem zaZ.a{a b d:Addr}{H H':Hp}(s:But a H H'):zaZ a b d H H':=λc o n _ _ e=>s c o n e
theorem zaZ.b{a b d:Addr}{H H':Hp}(s:But b H H'):zaZ a b d H H':=λc o _ n _ e=>s c o n e
theorem zaZ.d{a b d:Addr}{H H':Hp}(s:But d H H'):zaZ a b d H H':=λc o _ _ n e=>s c o n e
section
variable {P:Program}{w:World}{K:Frag}{mg:Str->Option Value}{base:Heap}{A:zj}
theorem zad.same{H H':Hp}{a d:Addr}{u:Tab}(h:zad H a d u)(s:zg H H'):zad H' a d u:=let ⟨kvs,e,r⟩:=h.ex;⟨⟨kvs,s _ _ e,r.imp λv l ⟨p,e,hp,n⟩=>⟨p,e,s _ _ hp,n⟩⟩,h.nd⟩
theorem zad.dic{H H':Hp}{a d c:Addr}{u:Tab}{kv:List (Key×V)}(h:zad H a d u)(s:But c H H')(hc:H c=some (.dK kv))(n:d≠c):zad H' a d u :=
 let ⟨kvs,e,r⟩:=h.ex;⟨⟨kvs,s _ _ n e,r.imp λv l ⟨p,ev,hp,n⟩=>⟨p,ev,s _ _ (λz=>by rw [z,hc] at hp;cases hp) hp,n⟩⟩,h.nd⟩
theorem zad.pot{H H':Hp}{a d:Addr}{u:Tab}(h:zad H a d u)(s:But a H H')(hP:Pot H a):zad H' a d u :=
 let ⟨kvs,e,r⟩:=h.ex;let ⟨_,_,ea,_⟩:=hP.ex;⟨⟨kvs,s _ _ (λz=>by rw [z,ea] at e;cases e) e,r.imp λv l ⟨p,ev,hp,n⟩=>⟨p,ev,s _ _ n hp,n⟩⟩,h.nd⟩
theorem zy.pot{H H':Hp}{p b k a:Addr}{t:Tab}{ks:List (Str×Tab)}(h:zy A H p b k t ks)(s:But a H H')(hP:Pot H a):zy A H' p b k t ks:=let ⟨_,_,e,_⟩:=hP.ex;h.putX s e .lst
theorem Pot.dic{H H':Hp}{a c:Addr}{kvs:List (Key×V)}(hP:Pot H a)(s:But c H H')(e:H c=some (.dK kvs)):Pot H' a:=let ⟨x,y,ea,r⟩:=hP.ex;⟨⟨x,y,s _ _ (λz=>by rw [z,e] at ea;cases ea) ea,r⟩⟩
theorem zaF.keep{H H':Hp}{p b k c:Addr}{t:Tab}{ks:List (Str×Tab)}(h:zy A H p b k t ks)(av:zaF A H k c)(s1:∀kv,H k=some (.dK kv)->H' k=some (.dK kv))(s2:∀{q C dx:Addr}{fs:List (Str×V)},H q=some (.ins C dx fs)->H' q=some (.ins C dx fs)):zaF A H' k c:=by
 obtain ⟨kk,e2,d2⟩:=h.kept
 intro kvs' hk pv hpv q b' k' dx' ev eq
 have h2:=s1 _ e2
 rw [h2] at hk
 cases hk
 unfold sk at hpv
 obtain ⟨p',hp',rfl⟩:=mem_map.mp hpv
 have hq:∃dx0 b0 k0,H q=some (.ins A.Files dx0 (zD b0 k0)):=by
  obtain ⟨j,hj,ej⟩:=List.getElem_of_mem hp'
  obtain ⟨a2,_,q2,b2,k2,ev2,hB2,_⟩:=Dct.at d2 (List.getElem?_eq_getElem hj)
  have ev:p'.2 = .ref q:=ev
  rw [ej,ev] at ev2
  cases ev2
  obtain ⟨dx2,e22⟩:=hB2.ob
  exact ⟨_,_,_,e22⟩
 obtain ⟨dx0,b0,k0,e0⟩:=hq
 have e3:=s2 e0
 rw [e3] at eq
 injection eq with eq
 injection eq with _ _ eq
 obtain ⟨r1,r2⟩:=zg9 eq
 subst r1 r2
 exact av _ e2 _ (by unfold sk;exact mem_map.mpr ⟨p',hp',rfl⟩) q b0 k0 dx0 ev e0
theorem zaF.same{H H':Hp}{p b k c:Addr}{t:Tab}{ks:List (Str×Tab)}(h:zy A H p b k t ks)(av:zaF A H k c)(s:zg H H'):zaF A H' k c:=av.keep h (λ_ e=>s _ _ e) λe=>s _ _ e
theorem zaF.dic{H H':Hp}{p b k c x:Addr}{t:Tab}{ks:List (Str×Tab)}{kv:List (Key×V)}(h:zy A H p b k t ks)(av:zaF A H k c)(s:But x H H')(hx:H x=some (.dK kv))(n:k≠x):zaF A H' k c :=
 av.keep h (λ_ e=>s _ _ n e) λe=>s _ _ (λz=>by rw [z,hx] at e;cases e) e
theorem zad.get{H H':Hp}{a:Addr}{u:Tab}{kvs:List (Str×V)}(d:Dct (MdP H a) kvs u)(n:Str){p:Addr}(s:zg H H')(hp:H' p=some (.lst []))(pa:p≠a):∃r,(look kvs n).getD (.ref p) = .ref r/\H' r=some (.lst ((lk u n).map V.int))/\r≠a:=by
 unfold lk
 rcases d.look n with ⟨v,l,e1,e2,r,ev,hr,ra⟩|⟨e1,e2⟩
 ·rw [e1,e2];exact ⟨r,ev,s _ _ hr,ra⟩
 ·rw [e1,e2];exact ⟨p,rfl,hp,pa⟩
theorem zy.dic{H H':Hp}{p b k c:Addr}{t:Tab}{ks:List (Str×Tab)}{kv:List (Key×V)}(h:zy A H p b k t ks)(av:zaF A H k c)(s:But c H H')(hc:H c=some (.dK kv))(n1:b≠c)(n2:k≠c):zy A H' p b k t ks/\zaF A H' k c:=by
 obtain ⟨dx,e⟩:=h.ob
 obtain ⟨kvs,e1,d⟩:=h.births.ex
 obtain ⟨kk,e2,d2⟩:=h.kept
 have ni:∀{q C dx:Addr}{fs:List (Str×V)},H q=some (.ins C dx fs)->H' q=some (.ins C dx fs):=λ{q C dx fs} e=>s _ _ (λz=>by rw [z,hc] at e;cases e) e
 refine ⟨⟨⟨dx,ni e⟩,h.births.but s (λxs z=>by rw [hc] at z;cases z) n1,⟨kk,s _ _ n2 e2,?_⟩,h.ndk,h.ne⟩,?_⟩
 ·have mem:∀p∈kk,∀q b' k' dx,p.2 = .ref q->H q=some (.ins A.Files dx (zD b' k'))->b'≠c/\k'≠c:=λp hp q b' k' dx ev eq=>av _ e2 (.inr p.1,p.2) (by unfold sk;exact mem_map.mpr ⟨p,hp,rfl⟩) q b' k' dx ev eq
  clear e2 av h
  induction d2 with
  | nil=>exact .nil
  | cons z _ ih =>
   refine .cons ⟨z.1,?_⟩ (ih λp hp=>mem p (mem_cons_of_mem _ hp))
   obtain ⟨q,b',k',ev,hB,nn⟩:=z.2
   obtain ⟨dxq,eq⟩:=hB.ob
   obtain ⟨m1,m2⟩:=mem _ mem_cons_self q b' k' dxq ev eq
   exact ⟨q,b',k',ev,hB.but s hc m1 m2,nn⟩
 ·intro kvs' hk pv hpv q b' k' dx' ev eq
  have h2:=s _ _ n2 e2
  rw [h2] at hk
  cases hk
  unfold sk at hpv
  obtain ⟨p',hp',rfl⟩:=mem_map.mp hpv
  have hq:∃dx0 b0 k0,H q=some (.ins A.Files dx0 (zD b0 k0)):=by
   obtain ⟨j,hj,ej⟩:=List.getElem_of_mem hp'
   obtain ⟨a2,_,q2,b2,k2,ev2,hB2,_⟩:=Dct.at d2 (List.getElem?_eq_getElem hj)
   have ev:p'.2 = .ref q:=ev
   rw [ej,ev] at ev2
   cases ev2
   obtain ⟨dx2,e22⟩:=hB2.ob
   exact ⟨_,_,_,e22⟩
  obtain ⟨dx0,b0,k0,e0⟩:=hq
  have e3:=ni e0
  rw [e3] at eq
  injection eq with eq
  injection eq with _ _ eq
  obtain ⟨r1,r2⟩:=zg9 eq
  subst r1 r2
  exact av _ e2 _ (by unfold sk;exact mem_map.mpr ⟨p',hp',rfl⟩) q b0 k0 dx0 ev e0
structure Bud(t:Tab)(ks:List (Str×Tab))(B:Nat):Prop where
 few:t.length<=B
 row:∀n,(lk t n).length<=B
 live:∃L:List Int,L.length<=B/\∀y∈zaW t ks,y∈L
 ne:∀n l,look t n=some l->l≠[]
 old:∀p∈ks,p.2.length<=B/\∀m,(lk p.2 m).length<=B
theorem zkl{α:Type}{t:List (Str×α)}{n:Str}{a:α}:(zJ t n a).length<=t.length+1:=by
 unfold zJ
 split<;>simp
theorem zio{t:Tab}{n m:Str}{l:List Int}:lk (zJ t n l) m=if m=n then l else lk t m:=by
 unfold lk
 rw [zaL]
 split<;>rfl
theorem zqT{t:Tab}{y:Int}:y∈z6 t↔∃p∈t,y∈p.2:=by unfold z6;exact List.mem_flatMap
def KvR(H:Hp)(a:Addr)(X:List Addr)(v:V)(u:Tab):Prop:=∃e,v = .ref e/\e∉X/\zad H a e u
structure zef(H:Hp)(a:Addr)(X:List Addr)(kd:Addr)(ku:List (Str×Tab)):Prop where
 ex:∃kvs,H kd=some (.dK (sk kvs))/\Dct (KvR H a X) kvs ku
 nd:(names ku).Nodup
def KAl(ks ku:List (Str×Tab)):Prop:=∀n,(∃v w,look ks n=some v/\look ku n=some w/\zay v w/\(names v).Nodup)\/(look ks n=none/\look ku n=none)
def zbG(X:List Addr)(H H':Hp):Prop:=∀c o,c∉X->H c=some o->H' c=some o
theorem zbG.of{X:List Addr}{H H':Hp}(s:zg H H'):zbG X H H':=λc o _ e=>s c o e
theorem zbG.trans{X:List Addr}{H H1 H2:Hp}(x:zbG X H H1)(y:zbG X H1 H2):zbG X H H2:=λc o n e=>y c o n (x c o n e)
theorem zy.dicts{H:Hp}{p b k:Addr}{t:Tab}{ks:List (Str×Tab)}(h:zy A H p b k t ks):(∃kvs,H b=some (.dK kvs))/\∃kvs,H k=some (.dK kvs):=⟨let ⟨_,e,_⟩:=h.births.ex;⟨_,e⟩,let ⟨_,e,_⟩:=h.kept;⟨_,e⟩⟩
theorem KAl.drop{ks ku:List (Str×Tab)}(h:KAl ks ku)(z:Str):KAl (zE ks z) (zE ku z):=λn=>by
 rw [zbg,zbg]
 by_cases e:n=z
 ·rw [if_pos e,if_pos e];exact .inr ⟨rfl,rfl⟩
 ·rw [if_neg e,if_neg e];exact h n
theorem KAl.len{ks ku:List (Str×Tab)}(h:KAl ks ku)(n1:(names ks).Nodup)(n2:(names ku).Nodup):ks.length=ku.length:=by
 have p:(names ks).Perm (names ku):=(List.perm_ext_iff_of_nodup n1 n2).mpr λn=>by
  rcases h n with ⟨v,w,e1,e2,_⟩|⟨e1,e2⟩
  ·exact ⟨λ_=>Classical.byContradiction λz=>(by rw [zaD.mpr z] at e2;cases e2),λ_=>Classical.byContradiction λz=>(by rw [zaD.mpr z] at e1;cases e1)⟩
  ·exact ⟨λz=>absurd z (zaD.mp e1),λz=>absurd z (zaD.mp e2)⟩
 have:=p.length_eq
 unfold names at this
 rw [length_map,length_map] at this
 exact this
theorem zc9{t:Tab}{ks:List (Str×Tab)}{y:Int}:y∈zaW t ks↔y∈z6 t\/∃p∈ks,y∈z6 p.2:=by
 unfold zaW
 rw [mem_append,List.mem_flatMap]
theorem Bud.sub{t:Tab}{ks ks':List (Str×Tab)}{B:Nat}(h:Bud t ks B)(s:∀p∈ks',p∈ks\/p.2=t):Bud t ks' B:=by
 obtain ⟨L,hL,hm⟩:=h.live
 refine ⟨h.few,h.row,⟨L,hL,λy hy=>?_⟩,h.ne,λp hp=>(s p hp).elim (h.old p) λe=>by rw [e];exact ⟨h.few,h.row⟩⟩
 rcases zc9.mp hy with hy|⟨p,hp,hy⟩
 ·exact hm y (zc9.mpr (.inl hy))
 ·rcases s p hp with hp|e
  ·exact hm y (zc9.mpr (.inr ⟨p,hp,hy⟩))
  ·rw [e] at hy;exact hm y (zc9.mpr (.inl hy))
end
theorem zeC:∀{xs L:List Int},xs.Nodup->(∀y∈xs,y∈L)->xs.length<=L.length
 | [],_,_,_=>zero_le _
 | x::xs,L,nd,s=>by
  have nd':=nodup_cons.mp nd
  have hx:x∈L:=s x mem_cons_self
  have h1:=zeC (xs:=xs) (L:=L.erase x) nd'.2 λy hy=>(List.mem_erase_of_ne (λz:y=x=>nd'.1 (by rw [<- z];exact hy))).mpr (s y (mem_cons_of_mem _ hy))
  rw [List.length_erase_of_mem hx] at h1
  have:=List.length_pos_of_mem hx
  rw [length_cons]
  omega
theorem Bud.uniq{t:Tab}{ks:List (Str×Tab)}{B:Nat}(h:Bud t ks B):(L2.uniq (zaW t ks)).length<=B:=let ⟨L,hL,hm⟩:=h.live;Nat.le_trans (zeC zdi λy hy=>hm y (zdx.mp hy)) hL
theorem KAl.names{ks ku:List (Str×Tab)}(h:KAl ks ku)(n1:(L2.names ks).Nodup)(n2:(L2.names ku).Nodup):(L2.names ks).Perm (L2.names ku):=(List.perm_ext_iff_of_nodup n1 n2).mpr λn=>by
 rcases h n with ⟨v,w,e1,e2,_⟩|⟨e1,e2⟩
 ·exact ⟨λ_=>Classical.byContradiction λz=>(by rw [zaD.mpr z] at e2;cases e2),λ_=>Classical.byContradiction λz=>(by rw [zaD.mpr z] at e1;cases e1)⟩
 ·exact ⟨λz=>absurd z (zaD.mp e1),λz=>absurd z (zaD.mp e2)⟩
theorem zef.same{H H':Hp}{a kd:Addr}{X:List Addr}{ku:List (Str×Tab)}(h:zef H a X kd ku)(s:zg H H'):zef H' a X kd ku :=
 let ⟨kvs,e,d⟩:=h.ex;⟨⟨kvs,s _ _ e,d.imp λv u ⟨q,ev,nX,pl⟩=>⟨q,ev,nX,pl.same s⟩⟩,h.nd⟩
theorem zhk(zs:List Str):eqL (zs.map V.str) (zs.map V.str)=true:=zf7 zcN λx hx b e=>by
 obtain ⟨y,_,rfl⟩:=mem_map.mp hx
 cases e
theorem zb8{zs:List Int}:(zs.map V.int).all zv=true:=by simp [zv]
theorem zge(zs:List Int):eqL (zs.map V.int) (zs.map V.int)=true:=zf7 zb8 λx hx b e=>by
 obtain ⟨y,_,rfl⟩:=mem_map.mp hx
 cases e
theorem zaF.at{A:zj}{H:Hp}{p b k c:Addr}{t:Tab}{ks:List (Str×Tab)}(h:zy A H p b k t ks)(av:zaF A H k c){kk:List (Str×V)}(e:H k=some (.dK (sk kk))){j:Nat}{pv:Str×V}(hj:kk[j]?=some pv){q b' k':Addr}{u:Tab}(ev:pv.2 = .ref q)(hB:zaA A H q b' k' u):b'≠c/\k'≠c :=
 let ⟨dx,eo⟩:=hB.ob;av _ e (.inr pv.1,pv.2) (by unfold sk;exact mem_map.mpr ⟨pv,mem_of_getElem? hj,rfl⟩) q b' k' dx ev eo
structure zgr(A:zj)(H:Hp)(a:Addr)(M:List Addr)(p d kd b k:Addr)(t u:Tab)(ks ku:List (Str×Tab)):Prop where
 files:zy A H p b k t ks
 plain:zad H a d u
 kept:zef H a M kd ku
 av:∀c∈M,zaF A H k c
 mb:b∈M
 mkk:k∈M
 md:d∈M
 mkd:kd∈M
 ap:d≠b/\d≠k/\kd≠b/\kd≠k/\d≠kd
def Dcs(H:Hp)(M:List Addr):Prop:=∀x∈M,∃kvs,H x=some (.dK kvs)
theorem Dcs.same{H H':Hp}{M:List Addr}(h:Dcs H M)(s:zg H H'):Dcs H' M:=λx hx=>let ⟨kv,e⟩:=h x hx;⟨kv,s _ _ e⟩
theorem zgr.same{A:zj}{H H':Hp}{a:Addr}{M:List Addr}{p d kd b k:Addr}{t u:Tab}{ks ku:List (Str×Tab)}(o:zgr A H a M p d kd b k t u ks ku)(s:zg H H'):zgr A H' a M p d kd b k t u ks ku :=
 ⟨o.files.same s,o.plain.same s,o.kept.same s,λc hc=>(o.av c hc).same o.files s,o.mb,o.mkk,o.md,o.mkd,o.ap⟩
abbrev zcH:Stmt:=top 34
section
variable {P:Program}{w:World}{K:Frag}{mg:Str->Option Value}{base:Heap}{A:zj}
theorem zfk:1000<=sizeLine:=by decide
theorem zkN:bootBuiltins "ValueError"=some (.type "ValueError"):=by decide +kernel
theorem zav{K:Frag}{H:Hp}{e C:Addr}{o:Obj}{c:V}{u:Value}{b:Bool}{Q:VK}(he:H e=some (.frz o (.own 0)))(ho:zb7 C o)(O:zcz K C)(hk:kitOne K (.ref C) u=some b)(hc:zg3 c=some u)(q:Q (.bl b) H):zc1 K [.ref e,c] H Q :=
 ⟨_,_,_,_,_,rfl,hc,.exc he ho O,hk,q⟩
structure KC(K:Frag)(A:zj)(C:Addr)(n:Nat):Prop where
 ec:zcz K C
 lt:n<16
 k_ValueError:kitOne K (.ref C) (.type "ValueError")=some true
 k_Full:kitOne K (.ref C) (.ref A.Full)=some (decide (0=n))
 k_Gone:kitOne K (.ref C) (.ref A.Gone)=some (decide (1=n))
 k_HeldAlready:kitOne K (.ref C) (.ref A.HeldAlready)=some (decide (2=n))
 k_NoDeed:kitOne K (.ref C) (.ref A.NoDeed)=some (decide (3=n))
 k_NoDisk:kitOne K (.ref C) (.ref A.NoDisk)=some (decide (4=n))
 k_NoFile:kitOne K (.ref C) (.ref A.NoFile)=some (decide (5=n))
 k_NoFiles:kitOne K (.ref C) (.ref A.NoFiles)=some (decide (6=n))
 k_NoHouse:kitOne K (.ref C) (.ref A.NoHouse)=some (decide (7=n))
 k_NoMark:kitOne K (.ref C) (.ref A.NoMark)=some (decide (8=n))
 k_NoPlace:kitOne K (.ref C) (.ref A.NoPlace)=some (decide (9=n))
 k_NoRoom:kitOne K (.ref C) (.ref A.NoRoom)=some (decide (10=n))
 k_NoRow:kitOne K (.ref C) (.ref A.NoRow)=some (decide (11=n))
 k_NotBlank:kitOne K (.ref C) (.ref A.NotBlank)=some (decide (12=n))
 k_NotClosed:kitOne K (.ref C) (.ref A.NotClosed)=some (decide (13=n))
 k_NotHeld:kitOne K (.ref C) (.ref A.NotHeld)=some (decide (14=n))
 k_Stopped:kitOne K (.ref C) (.ref A.Stopped)=some (decide (15=n))
def fnb(n:Nat):List Bool:=[decide (0=n),decide (1=n),decide (2=n),decide (3=n),decide (4=n),decide (5=n),decide (6=n),decide (7=n),decide (8=n),decide (9=n),decide (10=n),decide (11=n),decide (12=n),decide (13=n),decide (14=n),decide (15=n)]
def wds:List V:=[.str "Full",.str "Gone",.str "HeldAlready",.str "NoDeed",.str "NoDisk",.str "NoFile",.str "NoFiles",.str "NoHouse",.str "NoMark",.str "NoPlace",.str "NoRoom",.str "NoRow",.str "NotBlank",.str "NotClosed",.str "NotHeld",.str "Stopped"]
theorem znG:∀n,n<16->(fnb n).count true=1:=by decide
theorem zoU:∀n,n<16->(fnb n)[n]?=some true/\∀m,m<n->(fnb n)[m]?≠some true:=by decide
theorem znp:∀n,n<16->∃z:Str,wds[n]?=some (.str z):=λn h=>by
 have:n=0\/n=1\/n=2\/n=3\/n=4\/n=5\/n=6\/n=7\/n=8\/n=9\/n=10\/n=11\/n=12\/n=13\/n=14\/n=15:=by omega
 rcases this with rfl|rfl|rfl|rfl|rfl|rfl|rfl|rfl|rfl|rfl|rfl|rfl|rfl|rfl|rfl|rfl<;>exact ⟨_,rfl⟩
def zeb(K:Frag)(A:zj):Sp:=λvs H Q _=>∃(e C:Addr)(o:Obj)(n:Nat),vs=[.ref e]/\H e=some (.frz o (.own 0))/\zb7 C o/\KC K A C n/\∀(v:V)(H':Hp),wds[n]?=some v->zg H H'->Q v H'
theorem zce:zS ["_law_e","_law_some","_law_names_here"] ["_law_e"] (zk zcH):=⟨rfl,rfl,rfl,f!"",rfl,f!"",f!""⟩
theorem znf{f:Addr}{fd:FuncData}(F:Fun K "_law_refusal" "_law_refusal" zcH f fd)(T:Txt K mg A):zr P w K mg base CX0 false 1 f fd ["_law_e"] (zeb K A):=by
 refine F.ok zce (λvs H Q E h=>?_) (λcdv Ar outer s H vs Q E hr h=>?_)
 ·obtain ⟨e,C,o,n,rfl,_⟩:=h;rfl
 ·obtain ⟨e,C,o,n,rfl,he,ho,KN,q⟩:=h
  have hu:_<cLine:=lt_of_succ_lt (zak hr)
  refine ⟨_,(W.h (zm (zG (i:=1) zce.nd rfl (Or.inl rfl) (zah (zb (zA (zap (K:=K) rfl) rfl T.n_isinstance boot_isinstance (zb (za 0) (zb (zaz rfl T.c_Full) zd))) (zb (zA (zap (K:=K) rfl) rfl T.n_isinstance boot_isinstance (zb (za 0) (zb (zaz rfl T.c_Gone) zd))) (zb (zA (zap (K:=K) rfl) rfl T.n_isinstance boot_isinstance (zb (za 0) (zb (zaz rfl T.c_HeldAlready) zd))) (zb (zA (zap (K:=K) rfl) rfl T.n_isinstance boot_isinstance (zb (za 0) (zb (zaz rfl T.c_NoDeed) zd))) zd))))))
   (zm (zG (i:=1) zce.nd rfl (Or.inl rfl) (zC zal (za 1) (zah (zb (zA (zap (K:=K) rfl) rfl T.n_isinstance boot_isinstance (zb (za 0) (zb (zaz rfl T.c_NoDisk) zd))) (zb (zA (zap (K:=K) rfl) rfl T.n_isinstance boot_isinstance (zb (za 0) (zb (zaz rfl T.c_NoFile) zd))) (zb (zA (zap (K:=K) rfl) rfl T.n_isinstance boot_isinstance (zb (za 0) (zb (zaz rfl T.c_NoFiles) zd))) (zb (zA (zap (K:=K) rfl) rfl T.n_isinstance boot_isinstance (zb (za 0) (zb (zaz rfl T.c_NoHouse) zd))) zd)))))))
   (zm (zG (i:=1) zce.nd rfl (Or.inl rfl) (zC zal (za 1) (zah (zb (zA (zap (K:=K) rfl) rfl T.n_isinstance boot_isinstance (zb (za 0) (zb (zaz rfl T.c_NoMark) zd))) (zb (zA (zap (K:=K) rfl) rfl T.n_isinstance boot_isinstance (zb (za 0) (zb (zaz rfl T.c_NoPlace) zd))) (zb (zA (zap (K:=K) rfl) rfl T.n_isinstance boot_isinstance (zb (za 0) (zb (zaz rfl T.c_NoRoom) zd))) (zb (zA (zap (K:=K) rfl) rfl T.n_isinstance boot_isinstance (zb (za 0) (zb (zaz rfl T.c_NoRow) zd))) zd)))))))
   (zm (zG (i:=1) zce.nd rfl (Or.inl rfl) (zC zal (za 1) (zah (zb (zA (zap (K:=K) rfl) rfl T.n_isinstance boot_isinstance (zb (za 0) (zb (zaz rfl T.c_NotBlank) zd))) (zb (zA (zap (K:=K) rfl) rfl T.n_isinstance boot_isinstance (zb (za 0) (zb (zaz rfl T.c_NotClosed) zd))) (zb (zA (zap (K:=K) rfl) rfl T.n_isinstance boot_isinstance (zb (za 0) (zb (zaz rfl T.c_NotHeld) zd))) (zb (zA (zap (K:=K) rfl) rfl T.n_isinstance boot_isinstance (zb (za 0) (zb (zaz rfl T.c_Stopped) zd))) zd)))))))
   (zm (zG (i:=2) zce.nd rfl (Or.inl rfl) (zah (zb zz (zb zz (zb zz (zb zz (zb zz (zb zz (zb zz (zb zz (zb zz (zb zz zd))))))))))))
   (zm (zG (i:=2) zce.nd rfl (Or.inl rfl) (zC zal (za 2) (zah (zb zz (zb zz (zb zz (zb zz (zb zz (zb zz zd)))))))))
   (zm (zac (zbS (zcD (zcb (zcg (zA (zap (K:=K) rfl) rfl T.n_isinstance boot_isinstance (zb (za 0) (zb (zdq rfl T.n_ValueError zkN (v:=.ty "ValueError") rfl) zd))))) (zcS (z8 (zbA hu) (zkW (za 1) zba) zq (zZ _)))))
   (zp (zH zz))
   zai)
   (zp (zH (za6 zbq (za 2) (zjN (za 1) zba) (λ_ _=>rfl)))))))))))),?_⟩
  simp_all only []
  refine zav he ho KN.ec KN.k_Full rfl (zav he ho KN.ec KN.k_Gone rfl (zav he ho KN.ec KN.k_HeldAlready rfl (zav he ho KN.ec KN.k_NoDeed rfl ⟨by decide,λp1 H1 n1 _=>?_⟩)))
  have he:=n1.same _ _ he
  refine zav he ho KN.ec KN.k_NoDisk rfl (zav he ho KN.ec KN.k_NoFile rfl (zav he ho KN.ec KN.k_NoFiles rfl (zav he ho KN.ec KN.k_NoHouse rfl ⟨by decide,λp2 H2 n2 _=>?_⟩)))
  have he:=n2.same _ _ he
  refine ⟨_,n2.same _ _ n1.at_,_,n2.at_,Nat.le_trans (show 8<=1000 by decide) zfk,λp3 H3 n3=>?_⟩
  have he:=n3.same _ _ he
  refine zav he ho KN.ec KN.k_NoMark rfl (zav he ho KN.ec KN.k_NoPlace rfl (zav he ho KN.ec KN.k_NoRoom rfl (zav he ho KN.ec KN.k_NoRow rfl ⟨by decide,λp4 H4 n4 _=>?_⟩)))
  have he:=n4.same _ _ he
  refine ⟨_,n4.same _ _ n3.at_,_,n4.at_,Nat.le_trans (show 12<=1000 by decide) zfk,λp5 H5 n5=>?_⟩
  have he:=n5.same _ _ he
  refine zav he ho KN.ec KN.k_NotBlank rfl (zav he ho KN.ec KN.k_NotClosed rfl (zav he ho KN.ec KN.k_NotHeld rfl (zav he ho KN.ec KN.k_Stopped rfl ⟨by decide,λp6 H6 n6 _=>?_⟩)))
  have he:=n6.same _ _ he
  refine ⟨_,n6.same _ _ n5.at_,_,n6.at_,Nat.le_trans (show 16<=1000 by decide) zfk,λp7 H7 n7=>?_⟩
  have he:=n7.same _ _ he
  refine ⟨by decide,λp8 H8 n8 _=>⟨by decide,λp9 H9 n9 _=>⟨_,n9.same _ _ n8.at_,_,n9.at_,by decide,λp10 H10 n10=>?_⟩⟩⟩
  have he:=n10.same _ _ (n9.same _ _ (n8.same _ _ he))
  have e1:H10 p10=some (.lst wds):=n10.at_
  have e2:H10 p7=some (.lst ((fnb n).map V.bl)):=n10.same _ _ (n9.same _ _ (n8.same _ _ n7.at_))
  have s10:zg H H10:=n1.same.trans (n2.same.trans (n3.same.trans (n4.same.trans (n5.same.trans (n6.same.trans (n7.same.trans (n8.same.trans (n9.same.trans n10.same))))))))
  refine zav he ho KN.ec KN.k_ValueError rfl ?_
  simp_all only []
  refine ⟨⟨_,e2⟩,fnb n,e2,?_⟩
  rw [znG n KN.lt,if_neg (by decide)]
  obtain ⟨a1,a2⟩:=zoU n KN.lt
  obtain ⟨z,hz⟩:=znp n KN.lt
  exact ⟨⟨_,e2⟩,fnb n,e2,n,a1,a2,wds,.inl e1,.str z,zdU hz,q _ _ hz s10⟩
theorem Txt.kc_NoFile(T:Txt K mg A):KC K A A.NoFile 5:=⟨T.ec_NoFile,by decide,T.k_NoFile_ValueError,T.k_NoFile_Full,T.k_NoFile_Gone,T.k_NoFile_HeldAlready,T.k_NoFile_NoDeed,T.k_NoFile_NoDisk,T.k_NoFile_NoFile,T.k_NoFile_NoFiles,T.k_NoFile_NoHouse,T.k_NoFile_NoMark,T.k_NoFile_NoPlace,T.k_NoFile_NoRoom,T.k_NoFile_NoRow,T.k_NoFile_NotBlank,T.k_NoFile_NotClosed,T.k_NoFile_NotHeld,T.k_NoFile_Stopped⟩
theorem Txt.kc_NoPlace(T:Txt K mg A):KC K A A.NoPlace 9:=⟨T.ec_NoPlace,by decide,T.k_NoPlace_ValueError,T.k_NoPlace_Full,T.k_NoPlace_Gone,T.k_NoPlace_HeldAlready,T.k_NoPlace_NoDeed,T.k_NoPlace_NoDisk,T.k_NoPlace_NoFile,T.k_NoPlace_NoFiles,T.k_NoPlace_NoHouse,T.k_NoPlace_NoMark,T.k_NoPlace_NoPlace,T.k_NoPlace_NoRoom,T.k_NoPlace_NoRow,T.k_NoPlace_NotBlank,T.k_NoPlace_NotClosed,T.k_NoPlace_NotHeld,T.k_NoPlace_Stopped⟩
end
abbrev zcn:Stmt:=top 36
section
variable {P:Program}{w:World}{K:Frag}{mg:Str->Option Value}{base:Heap}{A:zj}
def zc4(A:zj):Sp:=λvs H Q _=>∃(p b k:Addr)(t:Tab)(ks:List (Str×Tab))(n:Str)(i:Int),vs=[.ref p,.str n,.int i]/\zaN A H p b k t ks/\(look t n=none->∀H',zg H H'->Q (.str "NoFile") H')/\∀l,look t n=some l->(i<0\/l.length<=i->∀H',zg H H'->Q (.str "NoPlace") H')/\(0<=i->i<l.length->∀H',zg H H'->Q (.int (l.getD i.toNat 0)) H')
theorem zdo:zS ["_law_files","_law_file","_law_place","_law_told_here","_law_e"] ["_law_files","_law_file","_law_place"] (zk zcn):=⟨rfl,rfl,rfl,f!"",rfl,f!"",f!""⟩
theorem zsl{f:Addr}{fd:FuncData}(F:Fun K "_law_birth_told" "_law_birth_told" zcn f fd)(T:Txt K mg A)(M_Files_birth:GMX P w K mg base true 4 A.Files "birth" ["self","file","place"] (ze1 A))(Ge:GF P w K mg base false 1 "_law_refusal" ["_law_e"] (zeb K A)):zr P w K mg base CX0 true 5 f fd ["_law_files","_law_file","_law_place"] (zc4 A):=by
 refine F.ok zdo (λvs H Q E h=>?_) (λcdv Ar outer s H vs Q E hr h=>?_)
 ·obtain ⟨p,b,k,t,ks,n,i,rfl,_⟩:=h;rfl
 ·obtain ⟨p,b,k,t,ks,n,i,rfl,hF,qe,q⟩:=h
  refine ⟨_,(W.h (zm (zG (i:=3) zdo.nd rfl (Or.inl rfl) zsp)
   (zm (zhM (i:=4) rfl rfl ⟨rfl,rfl⟩ zdo.nd rfl rfl T.ek_CleanError rfl T.mg_CleanError (λGa Ex=>(zp (zG (i:=3) zdo.nd rfl (Or.inl rfl) (zdD (za 0) T.cl_Files zgp M_Files_birth hr (zb (za 1) (zb (za 2) zd)))))) (λGa ea=>by
   have hr:=hr.mark (v:=some (.ref ea))
   exact (zp (zG (i:=3) zdo.nd rfl (Or.inl rfl) (zF Ge hr rfl (zb (za 4) zd))))))
   (zp (zH (za 3)))))),?_⟩
  obtain ⟨dx,e1⟩:=hF.ob
  simp_all only [zdu,e1,znW]
  refine ⟨p,b,k,t,ks,n,i,rfl,hF,λhn H1 s1=>?_,λl hn=>⟨λhi H1 s1=>?_,λi0 i1 H1 s1=>?_⟩⟩
  ·refine ⟨A.NoFile,rfl,T.ek_NoFile,T.mro_NoFile,λea oe he ho=>⟨_,rfl,ea,A.NoFile,oe,5,rfl,zx,ho,T.kc_NoFile,λv H2 ev s2=>⟨v,rfl,?_⟩⟩⟩
   cases ev
   exact qe hn H2 (s1.trans ((New.mk' he).same.trans s2))
  ·refine ⟨A.NoPlace,rfl,T.ek_NoPlace,T.mro_NoPlace,λea oe he ho=>⟨_,rfl,ea,A.NoPlace,oe,9,rfl,zx,ho,T.kc_NoPlace,λv H2 ev s2=>⟨v,rfl,?_⟩⟩⟩
   cases ev
   exact (q l hn).1 hi H2 (s1.trans ((New.mk' he).same.trans s2))
  ·try simp_all only []
   exact (q l hn).2 i0 i1 H1 s1
end
abbrev zb6:Stmt:=top 32
section
variable {P:Program}{w:World}{K:Frag}{mg:Str->Option Value}{base:Heap}{A:zj}
structure zhR(m:Nat)(w:Str)(i:Int)(xs:List Int):Prop where
 word:(w="put"/\((i=m/\xs.length<=20/\(xs=[]->m≠0))\/∃x,xs=[x]))\/(w="cut"/\0<=i/\xs=[])
 ge : -1<=i
 le:i<=m+30
structure DeI(a:Addr)(H:Hp)(i:Nat)(τ:L2.St)(ys:List V)(H':Hp):Prop where
 ex:∃t,τ=[t,some (.ref a)]
 ys:∃xs:List Int,ys=xs.map V.int/\xs.length=i
 le:i<=20
 pot:Pot H' a
 but:But a H H'
def zfo:Sp:=λvs H Q _=>∃(a nl d:Addr)(u:Tab)(zs:List Str),vs=[.ref a,.ref nl,.ref d]/\Pot H a/\H nl=some (.lst (zs.map V.str))/\zs≠[]/\zs.length<=4/\zad H a d u/\(∀n,(lk u n).length<=1000) /\
 ∀g w n i l xs H',But a H H'->Pot H' a->H' g=some (.tup [.str w,.str n,.int i,.ref l])->H' l=some (.lst (xs.map V.int))->l≠a->zhR (lk u n).length w i xs->n∈zs->Q (.ref g) H'
theorem zdC:zS ["_law_pot_here","_law_names_here","_law_model","_law_file","_law_many","_law_way","_law_place"] ["_law_pot_here","_law_names_here","_law_model"] (zk zb6):=⟨rfl,rfl,rfl,f!"",rfl,f!"",f!""⟩
theorem zso:zb4 { kind:=.function,names:=[(Str.ofString ".0",.local),(Str.ofString "_law_k",.local),(Str.ofString "_law_birth",.globalImplicit),(Str.ofString "_law_pot_here",.free)],isGenerator:=false,isCoroutine:=false,more:=[] } (zk zb6).names ["_law_pot_here","_law_names_here","_law_model","_law_file","_law_many","_law_way","_law_place"] ["_law_k","_law_pot_here"] [none,some 0]=true:=by decide +kernel
theorem zlR:(["_law_k","_law_pot_here"]:List Str).Nodup:=by decide +kernel
theorem zrL{f:Addr}{fd:FuncData}(F:Fun K "_law_deed" "_law_deed" zb6 f fd)(T:Txt K mg A)(Gb:GF P w K mg base true 1 "_law_take" ["_law_pot_here","_law_many"] zbk)(Gc:GF P w K mg base true 2 "_law_drawn" ["_law_pot_here","_law_some"] zdk)(Gg:GF P w K mg base true 3 "_law_birth" ["_law_pot_here"] zeZ):zr P w K mg base CX0 true 4 f fd ["_law_pot_here","_law_names_here","_law_model"] zfo:=by
 refine F.ok zdC (λvs H Q E h=>?_) (λcdv Ar outer s H vs Q E hr h=>?_)
 ·obtain ⟨a,nl,d,u,zs,rfl,_⟩:=h;rfl
 ·obtain ⟨a,nl,d,u,zs,rfl,hP,hn,zne,zl,hD,rows,q⟩:=h
  have hu:_<cLine:=lt_of_succ_lt (zak hr)
  refine ⟨_,(W.h (zm (zG (i:=3) zdC.nd rfl (Or.inl rfl) (zF Gc hr rfl (zb (za 0) (zb (za 1) zd))))
   (zm (zG (i:=4) zdC.nd rfl (Or.inl rfl) (zA zb9 rfl T.n_len PySem.boot_len (zb (zdf (zak hr) (za 2) (za 3) (zah zd)) zd)))
   (zm (zG (i:=5) zdC.nd rfl (Or.inl rfl) (zF Gb hr rfl (zb (za 0) (zb zq zd))))
   (zm (zac (z8 zdy (za 5) zq (zZ _))
   (zm (zG (i:=6) zdC.nd rfl (Or.inl rfl) (za6 zbq (zah (zb (za 4) (zb (za 4) (zb (zF Gc hr rfl (zb (za 0) (zb (zah (zb (zC zal (za 4) zq) (zb (zh3 ziF zq) zd))) zd))) (zb (zC zal (za 4) (zF Gb hr rfl (zb (za 0) (zb zq zd)))) (zb (zF Gb hr rfl (zb (za 0) (zb (zC zal (za 4) zq) zd))) zd)))))) (za 5) (λ_ _=>rfl)))
   (zp (zH (zcC (zb zz (zb (za 3) (zb (za 6) (zb (zah (zb (zF Gg hr rfl (zb (za 0) zd)) zd)) zd))))))))
   zai)
   (zm (zac (z8 (zbO hu) (za 5) zq (zZ _))
   (zp (zH (zcC (zb zz (zb (za 3) (zb (za 4) (zb (zeA (λ_=>rfl) (za1.of zso) (zcy rfl T.n_range (zb (zC zen zq (zfm zqw rfl T.n_int boot_int (zb (zfE zdy (za 4) zq (zZ _)) zd))) zd)) (λ_ _ _ _ _=>(zaf (i:=0) zlR rfl (Or.inl rfl))) (λ_ _ _ _ _=>zec) (λ_ _ _ _ _=>(zF Gg hr rfl (zb (za 1) zd)))) zd)))))))
   zai)
   (zp (zH (zcC (zb zz (zb (za 3) (zb (zF Gb hr rfl (zb (za 0) (zb (zC zal (za 4) zq) zd))) (zb (zah zd) zd))))))))))))),?_⟩
  simp_all only []
  have nla:nl≠a:=λz=>by
   obtain ⟨x,y,ea,_⟩:=hP.ex
   rw [z,ea] at hn
   cases zs with
   | nil=>exact zne rfl
   | cons c zs=>injection hn with hn;injection hn with hn;injection hn with hn;cases hn
  have zpos:=length_pos_iff.mpr zne
  refine ⟨a,hP,.inl ⟨nl,_,rfl,nla,.inl hn,by rw [length_map];exact zpos,by rw [length_map];omega,λv H1 hv b1 P1=>?_⟩⟩
  obtain ⟨z,hz,rfl⟩:=mem_map.mp hv
  have D1:=hD.pot b1 hP
  obtain ⟨kvs,e1,dd⟩:=D1.ex
  simp_all only []
  refine ⟨⟨_,.inl e1⟩,zero_le _,λl2 H2 n2 _=>⟨_,.inl (n2.same _ _ e1),?_⟩⟩
  obtain ⟨r,er,hr2,ra⟩:=zad.get dd z n2.same n2.at_ (P1.ne n2.no)
  rw [zaP,er]
  have P2:=P1.same n2.same
  have b2:But a H H2:=b1.trans (.of n2.same)
  have lz:=rows z
  simp_all only []
  refine ⟨_,.inl hr2,?_⟩
  rw [length_map]
  refine ⟨a,8,rfl,P2,by decide,by decide,λway H3 b3 P3 w0 w1=>?_⟩
  have bb3:But a H H3:=b2.trans b3
  simp_all only []
  refine za7 (λh=>?_) (λh=>?_)
  ·have h5:=of_decide_eq_true h
   refine ⟨by decide,λl4 H4 n4 _=>⟨a,P3.same n4.same,.inl ⟨l4,_,rfl,P3.ne n4.no,.inl n4.at_,by simp,by simp,λv5 H5 hv5 b5 P5=>?_⟩⟩⟩
   obtain ⟨j,rfl,j0⟩:∃j:Int,v5 = .int j/\(j=(lk u z).length+1\/j = -1):=by
    simp only [mem_cons,not_mem_nil,or_false] at hv5
    rcases hv5 with rfl|rfl
    ·exact ⟨_,rfl,.inl rfl⟩
    ·exact ⟨_,rfl,.inr rfl⟩
   refine ⟨a,30,rfl,P5,by decide,by decide,λr6 H6 b6 P6 r60 r61=>?_⟩
   simp_all only []
   refine ⟨a,_,rfl,P6,by omega,by omega,λr7 H7 b7 P7 r70 r71=>⟨by decide,λl8 H8 n8 _=>?_⟩⟩
   obtain ⟨v,ev,hv⟩:=zgh (xs:=[V.int (lk u z).length,.int (lk u z).length,.int j,.int ((lk u z).length+r6),.int r7]) (i:=way) w0 (by show way<((5:Nat):Int);omega)
   obtain ⟨y,rfl,y0,y1⟩:∃y:Int,v = .int y/\-1<=y/\y<=(lk u z).length+30:=by
    simp only [mem_cons,not_mem_nil,or_false] at hv
    rcases hv with rfl|rfl|rfl|rfl|rfl<;>exact ⟨_,rfl,by omega,by omega⟩
   refine ⟨_,.inl n8.at_,_,ev,a,rfl,P7.same n8.same,λx H9 b9 P9 x0 x1=>⟨by decide,λl10 H10 n10 _=>⟨by decide,λg H11 n11=>?_⟩⟩⟩
   exact q g _ z y l10 [x] H11 (((((((bb3.trans (.of n4.same)).trans b5).trans b6).trans b7).trans (.of n8.same)).trans b9).trans (.of n10.same) |>.trans (.of n11.same)) ((P9.same n10.same).same n11.same) n11.at_ (n11.same _ _ n10.at_) (P9.ne n10.no) ⟨.inl ⟨rfl,.inr ⟨x,rfl⟩⟩,y0,y1⟩ hz
  refine za7 (λh5=>?_) (λh5=>?_)
  ·obtain ⟨N,eN,hN,hN0⟩:∃N:Nat,(20*if decide (((lk u z).length:Int)<100)=true then (1:Int) else 0)=(N:Int)/\N<=20/\(N=0->(lk u z).length≠0):=by
    by_cases hc:((lk u z).length:Int)<100
    ·rw [if_pos (decide_eq_true hc)];exact ⟨20,rfl,by decide,λz=>absurd z (by decide)⟩
    ·rw [if_neg (by simpa using hc)];exact ⟨0,rfl,by decide,λ_=>by omega⟩
   rw [eN,toNat_natCast]
   refine ⟨?_,by omega,by omega,zax.rng (DeI a H3) (λj τ ys H6 I=>?_) ⟨⟨_,rfl⟩,⟨[],rfl,rfl⟩,by omega,P3,.of (zg.refl _)⟩ ?_ ?_⟩
   ·exact .inl ⟨by decide,by decide⟩
   ·obtain ⟨xs,rfl,e⟩:=I.ys
    rw [length_map,e]
    exact zco (by have:=I.le;omega)
   ·intro N' j τ ys H6 hj I hN'
    obtain ⟨t,rfl⟩:=I.ex
    obtain ⟨xs,rfl,e⟩:=I.ys
    simp_all only []
    refine ⟨a,rfl,I.pot,λx H7 b7 P7 x0 x1=>hN' _ _ _ ⟨⟨_,rfl⟩,⟨xs++[x],by simp,by simp [e]⟩,by omega,P7,I.but.trans b7⟩⟩
   ·intro τ ys H6 I D H7 n7
    obtain ⟨xs,rfl,e⟩:=I.ys
    refine ⟨by decide,λg H8 n8=>?_⟩
    exact q g _ z _ D xs H8 (((bb3.trans I.but).trans (.of n7.same)).trans (.of n8.same)) ((I.pot.same n7.same).same n8.same) n8.at_ (n8.same _ _ n7.at_) (I.pot.ne n7.no) ⟨.inl ⟨rfl,.inl ⟨rfl,by omega,λz=>hN0 (by rw [<- e,z];rfl)⟩⟩,by omega,by omega⟩ hz
  ·refine ⟨a,_,rfl,P3,by omega,by omega,λi H4 b4 P4 i0 i1=>⟨by decide,λl5 H5 n5 _=>⟨by decide,λg H6 n6=>?_⟩⟩⟩
   exact q g _ z i l5 [] H6 (((bb3.trans b4).trans (.of n5.same)).trans (.of n6.same)) ((P4.same n5.same).same n6.same) n6.at_ (n6.same _ _ n5.at_) (P4.ne n5.no) ⟨.inr ⟨rfl,i0,rfl⟩,by omega,by omega⟩ hz
end
abbrev zcR:Stmt:=top 33
def zM(u:Tab)(w n:Str)(i:Int)(xs:List Int):List Int:=if w="put" then (lk u n).take i.toNat++xs++(lk u n).drop (i.toNat+1) else (lk u n).take i.toNat
def zaa(u:Tab)(w n:Str)(i:Int)(xs:List Int):Str×Tab :=
 if w="cut"/\look u n=none then ("NoFile",u) else if ((lk u n).length:Int)<i\/i<0 then ("NoPlace",u) else
 ("done",if zM u w n i xs=[] then zE (zJ u n (zM u w n i xs)) n else zJ u n (zM u w n i xs))
section
variable {P:Program}{w:World}{K:Frag}{mg:Str->Option Value}{base:Heap}{A:zj}
def zfP:Sp:=λvs H Q _=>∃(a d g l:Addr)(u:Tab)(w n:Str)(i:Int)(xs:List Int),vs=[.ref d,.ref g]/\Pot H a/\zad H a d u/\H g=some (.tup [.str w,.str n,.int i,.ref l])/\H l=some (.lst (xs.map V.int))/\xs.length<=1000/\(lk u n).length<=1000/\u.length<=1000 /\
 ∀H',But d H H'->zad H' a d (zaa u w n i xs).2->Q (.str (zaa u w n i xs).1) H'
theorem zbI:zS ["_law_model","_law_deed_here","_law_word","_law_file","_law_place","_law_births","_law_row"] ["_law_model","_law_deed_here"] (zk zcR):=⟨rfl,rfl,rfl,f!"",rfl,f!"",f!""⟩
theorem zlq{f:Addr}{fd:FuncData}(F:Fun K "_law_due" "_law_due" zcR f fd)(T:Txt K mg A):zr P w K mg base CX0 true 1 f fd ["_law_model","_law_deed_here"] zfP:=by
 refine F.ok zbI (λvs H Q E h=>?_) (λcdv Ar outer s H vs Q E hr h=>?_)
 ·obtain ⟨a,d,g,l,u,w,n,i,xs,rfl,_⟩:=h;rfl
 ·obtain ⟨a,d,g,l,u,w,n,i,xs,rfl,hP,hD,hg,hl,x1,l1,u1,q⟩:=h
  have hu:_<cLine:=lt_of_succ_lt (zak hr)
  refine ⟨_,(W.h (zm (zbZ (za 1) (zfa (n:=4) (za0 (zaf (i:=2) zbI.nd rfl (Or.inl rfl)) (za0 (zaf (i:=3) zbI.nd rfl (Or.inl rfl)) (za0 (zaf (i:=4) zbI.nd rfl (Or.inl rfl)) (za0 (zaf (i:=5) zbI.nd rfl (Or.inl rfl)) zeo))))))
   (zm (zG (i:=6) zbI.nd rfl (Or.inl rfl) (zdf (zak hr) (za 0) (za 3) (zah zd)))
   (zm (zsw (zac (zbS (zqE (z8 (zbO hu) (za 2) zz (zZ _)) (zj7 (z8 (zg5 (zak hr)) (za 3) (za 0) rfl))))
   (zp (zH zz))
   zai))
   (zm (zac (zbS (zcD (z8 zja (za 4) (zA zb9 rfl T.n_len PySem.boot_len (zb (za 6) zd)) (zZ _)) (zcS (z8 zdy (za 4) zq (zZ _)))))
   (zp (zH zz))
   zai)
   (zm (zac (z8 (zbO hu) (za 2) zz (zZ _))
   (zp (zG (i:=6) zbI.nd rfl (Or.inl rfl) (zC zal (zC zal (zcG zdO (za 6) zcw (zcB (za 4))) (za 5)) (zcG zdO (za 6) (zcB (zC zal (za 4) zq)) zcw))))
   (zp (zG (i:=6) zbI.nd rfl (Or.inl rfl) (zcG zdO (za 6) zcw (zcB (za 4))))))
   (zm (zbZ (za 6) (zdn (za 0) (za 3) (zff (zak hr))))
   (zm (zac (z8 (zpQ hu) (za 6) (zah zd) (zZ _))
   (zp (zbw (zn6 (za 0) (za 3))))
   zai)
   (zp (zH zz)))))))))),?_⟩
  simp_all only []
  refine ⟨g,_,rfl,SqT.of hg,rfl,?_⟩
  obtain ⟨kvs,e1,dd⟩:=hD.ex
  simp_all only []
  refine ⟨⟨_,.inl e1⟩,zero_le _,λl2 H2 n2 _=>⟨_,.inl (n2.same _ _ e1),?_⟩⟩
  obtain ⟨r,er,hr2,ra⟩:=zad.get dd n n2.same n2.at_ (hP.ne n2.no)
  rw [zaP,er]
  have e2:=n2.same _ _ e1
  have hl2:=n2.same _ _ hl
  rw [zpw]
  refine ⟨λσ' H'=>σ'=[some (.ref d),some (.ref g),some (.str w),some (.str n),some (.int i),some (.ref l),some (.ref r)]/\H'=H2/\¬ (w="cut"/\look u n=none),?_,?_⟩
  ·simp_all only []
   by_cases hc:w="cut"
   ·rw [if_pos (decide_eq_true hc)]
    refine ⟨_,.inl e2,?_⟩
    rw [zaP,Dct.some_iff dd n]
    cases hn:look u n with
    | none =>
     have e:zaa u w n i xs=(("NoFile":Str),u):=if_pos ⟨hc,hn⟩
     rw [e] at q
     exact q H2 (.of n2.same) (hD.same n2.same)
    | some l=>exact λz=>nomatch z.2
   ·rw [if_neg (by simpa using hc)]
    exact λz=>hc z.1
  ·rintro σ' H' ⟨rfl,rfl,hnc⟩
   have q:∀H',But d H H'->zad H' a d (if ((lk u n).length:Int)<i\/i<0 then (("NoPlace":Str),u) else ("done",if zM u w n i xs=[] then zE (zJ u n (zM u w n i xs)) n else zJ u n (zM u w n i xs))).2->Q (.str (if ((lk u n).length:Int)<i\/i<0 then (("NoPlace":Str),u) else ("done",if zM u w n i xs=[] then zE (zJ u n (zM u w n i xs)) n else zJ u n (zM u w n i xs))).1) H':=by
    have e:zaa u w n i xs=_:=if_neg hnc
    rw [e] at q
    exact q
   simp_all only []
   refine ⟨_,.inl hr2,?_⟩
   rw [length_map]
   try simp_all only []
   by_cases hb:((lk u n).length:Int)<i\/i<0
   ·rw [if_pos hb] at q
    have:=q H' (.of n2.same) (hD.same n2.same)
    by_cases hl:((lk u n).length:Int)<i
    ·rw [if_pos (decide_eq_true hl)];exact this
    ·rw [if_neg (by simpa using hl),if_pos (decide_eq_true (hb.resolve_left hl))];exact this
   rw [if_neg hb] at q
   have i1:i<=(lk u n).length:=by omega
   have i0:0<=i:=by omega
   rw [if_neg (by simpa using i1),if_neg (by simpa using i0)]
   have c1:zaq ((lk u n).map V.int) none (some i)=((lk u n).take i.toNat).map V.int:=by rw [zfV i0 (by rw [length_map];omega),List.map_take]
   have c2:zaq ((lk u n).map V.int) (some (i+1)) none=((lk u n).drop (i.toNat+1)).map V.int:=by rw [zi3 (by omega) (by rw [length_map];omega),show (i+1).toNat=i.toNat+1 by omega,List.map_drop]
   have fin:∀(l8:Addr)(H8:Hp),zg H' H8->H8 l8=some (.lst ((zM u w n i xs).map V.int))->l8≠a->∃kvs,H8 d=some (.dK kvs)/\kvs.length<sizeLine/\0<=sizeLine/\∀(p1:Addr)(H2:Hp),New (upd H8 d (.dK (zae kvs (.inr n) (.ref l8)))) p1 (.lst []) H2->p1≠sysModules ->
     ∃xs,H2 l8=some (.lst xs)/\∃x,H2 p1=some (.lst x)/\(xs.length=0\/x.length=0)/\if decide (xs.length=x.length)=true then (∃kvs,Rd H2 d (.dK kvs))/\∃kvs,H2 d=some (.dK kvs)/\(∃x,zB kvs (.inr n)=some x)/\Q (.str "done") (upd H2 d (.dK (zau kvs (.inr n)))) else Q (.str "done") H2:=λl8 H8 s8 e8 l8a=>by
    have ed8:=s8 _ _ e2
    have l8d:l8≠d:=λz=>by rw [z,ed8] at e8;cases e8
    refine ⟨_,ed8,by rw [zfY,dd.length];exact Nat.lt_of_le_of_lt u1 (by decide),zero_le _,λl9 H9 n9 _=>?_⟩
    rw [zfJ] at n9
    have s0:zg H H8:=n2.same.trans s8
    have bt:But d H H9:=λc o nc e=>n9.same _ _ (by rw [zh nc];exact s0 _ _ e)
    have h98:H9 l8=some (.lst ((zM u w n i xs).map V.int)):=n9.same _ _ (by rw [zh l8d];exact e8)
    have e9:=n9.same _ _ (zx (H:=H8) (a:=d))
    have dd9:Dct (MdP H9 a) (zJ kvs n (.ref l8)) (zJ u n (zM u w n i xs)):=(dd.imp λv l ⟨p,ev,hp,np⟩=>(⟨p,ev,bt _ _ (λz=>by rw [z,e1] at hp;cases hp) hp,np⟩:MdP H9 a v l)).put n ⟨l8,rfl,h98,l8a⟩
    refine ⟨_,h98,_,n9.at_,.inr rfl,?_⟩
    by_cases hr0:zM u w n i xs=[]
    ·rw [if_pos (by rw [hr0];rfl)]
     rw [if_pos hr0] at q
     refine ⟨⟨_,.inl e9⟩,_,e9,⟨.ref l8,by rw [zaP,zaL,if_pos rfl]⟩,?_⟩
     rw [ziS]
     exact q _ (λc o nc e=>by rw [zh nc];exact bt _ _ nc e) ⟨⟨_,zx,(dd9.drop n).imp λv l ⟨p,ev,hp,np⟩=>⟨p,ev,by rw [zh (λz=>by rw [z,e9] at hp;cases hp)];exact hp,np⟩⟩,zi9 (zdz hD.nd)⟩
    ·rw [if_neg (by
      have:=length_pos_iff.mpr hr0
      simp only [length_map,length_nil,decide_eq_true_eq];omega)]
     rw [if_neg hr0] at q
     exact q H9 bt ⟨⟨_,e9,dd9⟩,zdz hD.nd⟩
   have P2:Pot H' a:=hP.same n2.same
   refine za7 (λhw=>?_) (λhw=>?_)
   ·have hw:=of_decide_eq_true hw
    have er:zM u w n i xs=(lk u n).take i.toNat++xs++(lk u n).drop (i.toNat+1):=if_pos hw
    refine ⟨_,hr2,λl3 H3 n3=>?_⟩
    rw [c1] at n3
    refine ⟨_,n3.at_,_,n3.same _ _ hl2,zcX (by simp;omega),λl4 H4 n4=>⟨_,n4.same _ _ (n3.same _ _ hr2),λl5 H5 n5=>?_⟩⟩
    rw [c2] at n5
    refine ⟨_,n5.same _ _ n4.at_,_,n5.at_,zcX (by simp;omega),λl6 H6 n6=>?_⟩
    have s5:zg H' H5:=(n3.same.trans n4.same).trans n5.same
    exact fin l6 H6 (s5.trans n6.same) (by rw [n6.at_,er];simp) ((P2.same s5).ne n6.no)
   ·have hw:=λz=>hw (decide_eq_true z)
    have er:zM u w n i xs=(lk u n).take i.toNat:=if_neg hw
    refine ⟨_,hr2,λl3 H3 n3=>?_⟩
    rw [c1] at n3
    exact fin l3 H3 n3.same (by rw [n3.at_,er]) (P2.ne n3.no)
end
abbrev zcO:Stmt:=top 35
theorem zql{X:Cx}{K:Frag}{elts:List Expr}{kk:Nat}{tp p pos:Pos}{a:Expr}{ta:TA}(hK:X.K=K)(hg:Gl X "enumerate")(hm:X.mg "enumerate"=none)(ha:W (PA X [a] ta))(hp:zN a=true:=by rfl):W (PIc true X (.Tuple elts kk tp) (.Call (.Name "enumerate" p) [a] [] pos) (zem K ta)):=hK ▸ zjB hg hm ha hp
theorem zib{X:Cx}{K:Frag}{pos:Pos}{es:List Expr}{k:Nat}{t:TGs}{n:Nat}(hK:X.K=K)(h:W (PGs X es t))(hl:(assignEach es X.env).length=n:=by rfl)(hst:(assignEach es X.env).findIdx? (·.1)=none:=by rfl):W (PG X (.Tuple es k pos) (zfc K n t)):=hK ▸ zfa h hl hst
section
variable {P:Program}{w:World}{K:Frag}{mg:Str->Option Value}{base:Heap}{A:zj}
def zaV(r:List Int)(i:Int)(xs:List Int)(j:Nat):List Int:=r.take i.toNat++xs.take j++r.drop (i.toNat+1)
def TJ(t:Tab)(n:Str)(i:Int)(xs:List Int)(j:Nat):Tab:=if j=0 then t else zJ t n (zaV (lk t n) i xs j)
theorem zjF{t:Tab}{n:Str}{i:Int}{xs:List Int}{j:Nat}:lk (TJ t n i xs j) n=if j=0 then lk t n else zaV (lk t n) i xs j:=by
 unfold TJ
 split
 ·rfl
 ·rw [zio,if_pos rfl]
theorem zdW{r xs:List Int}{j:Nat}:zaV r (r.length:Int) xs j=r++xs.take j:=by
 unfold zaV
 rw [toNat_natCast,take_of_length_le (Nat.le_refl _),drop_eq_nil_of_le (le_succ _),append_nil]
theorem zlM{r xs:List Int}{i x:Int}{j:Nat}(hx:xs[j]?=some x)(h:j=0\/i=r.length)(i0:0<=i) :
  (if j=0 then r else zaV r i xs j).take (i+j).toNat++[x]++(if j=0 then r else zaV r i xs j).drop ((i+j).toNat+1)=zaV r i xs (j+1):=by
 by_cases hj:j=0
 ·subst hj
  rw [if_pos rfl]
  unfold zaV
  rw [take_add_one,hx,show (i+((0:Nat):Int)).toNat=i.toNat by omega]
  rfl
 ·rw [if_neg hj]
  have hi:=h.resolve_left hj
  subst hi
  have lj:j<xs.length:=(List.getElem?_eq_some_iff.mp hx).1
  have e:((r.length:Int)+(j:Int)).toNat=(r++xs.take j).length:=by rw [length_append,length_take];omega
  rw [zdW,zdW,e,take_of_length_le (Nat.le_refl _),drop_eq_nil_of_le (le_succ _),append_nil,take_add_one,hx,List.append_assoc]
  rfl
structure ToI(A:zj)(H:Hp)(p b k g l:Addr)(t:Tab)(w n:Str)(i:Int)(xs:List Int)(j:Nat)(σ:L2.St)(H':Hp):Prop where
 ex:∃t7 t8,σ=[some (.ref p),some (.ref g),some (.str w),some (.str n),some (.int i),some (.ref l),some (.str "done"),t7,t8,none]
 fil:∃tj,zy A H' p b k tj []/\zay tj (TJ t n i xs j)
 but:But b H H'
 rng:j≠0->0<=i/\i<=(lk t n).length
def zf8(A:zj):Sp:=λvs H Q _=>∃(p b k g l:Addr)(t:Tab)(w n:Str)(i:Int)(xs:List Int),vs=[.ref p,.ref g]/\zy A H p b k t []/\H g=some (.tup [.str w,.str n,.int i,.ref l])/\H l=some (.lst (xs.map V.int))/\zhR (lk t n).length w i xs/\(lk t n).length<=900/\t.length<=900/\(∀n l,look t n=some l->l≠[]) /\
 ∀H' t',But b H H'->zy A H' p b k t' []->zay t' (zaa t w n i xs).2->Q (.str (zaa t w n i xs).1) H'
theorem zbe:zS ["_law_files","_law_deed_here","_law_word","_law_file","_law_place","_law_births","_law_told_here","_law_k","_law_birth_here","_law_e"] ["_law_files","_law_deed_here"] (zk zcO):=⟨rfl,rfl,rfl,f!"",rfl,f!"",f!""⟩
theorem zmS{f:Addr}{fd:FuncData}(F:Fun K "_law_told" "_law_told" zcO f fd)(T:Txt K mg A)(M_Files_put:GMX P w K mg base true 4 A.Files "put" ["self","file","place","birth"] (zgd A))(M_Files_cut:GMX P w K mg base true 4 A.Files "cut" ["self","file","many"] (zgE A))(Ge:GF P w K mg base false 1 "_law_refusal" ["_law_e"] (zeb K A)):zr P w K mg base CX0 true 5 f fd ["_law_files","_law_deed_here"] (zf8 A):=by
 refine F.ok zbe (λvs H Q E h=>?_) (λcdv Ar outer s H vs Q E hr h=>?_)
 ·obtain ⟨p,b,k,g,l,t,w,n,i,xs,rfl,_⟩:=h;rfl
 ·obtain ⟨p,b,k,g,l,t,w,n,i,xs,rfl,hF,hg,hl,ok,rows,t1,ne,q⟩:=h
  have hu:_<cLine:=lt_of_succ_lt (zak hr)
  refine ⟨_,(W.h (zm (zbZ (za 1) (zib (K:=K) rfl (n:=4) (za0 (zaf (i:=2) zbe.nd rfl (Or.inl rfl)) (za0 (zaf (i:=3) zbe.nd rfl (Or.inl rfl)) (za0 (zaf (i:=4) zbe.nd rfl (Or.inl rfl)) (za0 (zaf (i:=5) zbe.nd rfl (Or.inl rfl)) zeo))))))
   (zm (zG (i:=6) zbe.nd rfl (Or.inl rfl) zz)
   (zm (zhM (i:=9) rfl rfl ⟨rfl,rfl⟩ zbe.nd rfl rfl T.ek_CleanError rfl T.mg_CleanError (λGa Ex=>(zm (zac (z8 (zbO hu) (za 2) zz (zZ _))
   (zp (zbw (zdD (za 0) T.cl_Files zgp M_Files_cut hr (zb (za 3) (zb (za 4) zd)))))
   zai)
   (zp (zn5 zgp (zdv (zr1 rfl (λok=>ok.frames) rfl) (λ_=>rfl) (zql (K:=K) rfl rfl T.n_enumerate (zb (za 5) zd)) (zib (K:=K) rfl (n:=2) (za0 (zaf (i:=7) zbe.nd rfl (Or.inl rfl)) (za0 (zaf (i:=8) zbe.nd rfl (Or.inl rfl)) zeo)))
   (zp (zbw (zdD (za 0) T.cl_Files zmz M_Files_put hr (zb (za 3) (zb (zC zal (za 4) (za 7)) (zb (za 8) zd))))))))))) (λGa ea=>by
   have hr:=hr.mark (v:=some (.ref ea))
   exact (zp (zG (i:=6) zbe.nd rfl (Or.inl rfl) (zF Ge hr rfl (zb (za 9) zd))))))
   (zp (zH (za 6))))))),?_⟩
  obtain ⟨dx,e1⟩:=hF.ob
  simp_all only [zdu]
  refine ⟨g,_,rfl,SqT.of hg,rfl,?_⟩
  simp_all only [zdu,e1,zpV]
  obtain ⟨⟨kvb,eb⟩,kvk,ek⟩:=hF.dicts
  have same_q:∀(z:Str) H2,zaa t w n i xs=(z,t)->zg H H2->Q (.str z) H2:=λz H2 e s=>by
   rw [e] at q
   exact q H2 t (.of s) (hF.same s) λ_=>rfl
  refine za7 (λhw=>?_) (λhw=>?_)
  ·have hw:=of_decide_eq_true hw
   obtain ⟨_,i0,rfl⟩:w="cut"/\0<=i/\xs=[]:=ok.word.resolve_left λz=>by rw [hw] at z;exact absurd z.1 (f!"")
   refine ⟨p,b,k,t,[],n,i,rfl,hF,i0,by omega,λhn=>?_,λr hn=>?_⟩
   ·refine ⟨A.NoFile,rfl,T.ek_NoFile,T.mro_NoFile,λea oe he ho=>⟨_,rfl,ea,A.NoFile,oe,5,rfl,zx,ho,T.kc_NoFile,λv H2 ev s2=>⟨v,rfl,?_⟩⟩⟩
    cases ev
    exact same_q _ H2 (if_pos ⟨hw,hn⟩) (((New.mk' he).same.trans s2))
   have hr:lk t n=r:=by unfold lk;rw [hn];rfl
   have hnc : ¬ (w="cut"/\look t n=none):=λz=>by rw [hn] at z;exact nomatch z.2
   refine ⟨λhi H1 s1=>?_,λhi H1 b1 F1=>?_⟩
   ·refine ⟨A.NoPlace,rfl,T.ek_NoPlace,T.mro_NoPlace,λea oe he ho=>⟨_,rfl,ea,A.NoPlace,oe,9,rfl,zx,ho,T.kc_NoPlace,λv H2 ev s2=>⟨v,rfl,?_⟩⟩⟩
    cases ev
    exact same_q _ H2 (by unfold zaa;rw [if_neg hnc,if_pos (.inl (by rw [hr];exact hi))]) (s1.trans ((New.mk' he).same.trans s2))
   ·have hl1:H1 l=some (.lst (([]:List Int).map V.int)):=b1 _ _ (λz=>by rw [z,eb] at hl;cases hl) hl
    refine ⟨⟨_,.inl (.inl hl1)⟩,zaG.enum (xs:=([]:List V)) (λj σ H'=>H'=H1/\σ=[some (.ref p),some (.ref g),some (.str w),some (.str n),some (.int i),some (.ref l),some (.str "done"),none,none,none]) ⟨rfl,rfl⟩ (λj σ H' _ I=>I.1 ▸ .inl (.inl hl1)) (λj x pp σ H' hx=>by cases hx) ?_⟩
    rintro σ H' ⟨rfl,rfl⟩
    simp_all only []
    have ew:zM t w n i []=r.take i.toNat:=by unfold zM;rw [if_neg (by rw [hw];decide +kernel),hr]
    have e:zaa t w n i []=(("done":Str),if zM t w n i []=[] then zE (zJ t n (zM t w n i [])) n else zJ t n (zM t w n i [])):=by unfold zaa;rw [if_neg hnc,if_neg (by rw [hr];omega)]
    rw [e,ew] at q
    refine q H' _ b1 F1 ?_
    have rpos:=length_pos_iff.mpr (ne n r hn)
    unfold zdL
    rw [hr]
    by_cases h0:i=0
    ·subst h0
     rw [if_pos rfl]
     dsimp only
     rw [show Int.toNat 0=0 from rfl,List.take_zero,if_pos rfl]
     intro m
     rw [zbg,zbg,zaL]
     by_cases hm:m=n
     ·rw [if_pos hm,if_pos hm]
     ·rw [if_neg hm,if_neg hm,if_neg hm]
    ·have h1:r.take i.toNat≠[]:=λz=>by
      have:=congrArg length z
      rw [length_take,length_nil] at this
      omega
     rw [if_neg h0]
     dsimp only
     rw [if_neg h1]
     exact λ_=>rfl
  have hw:=λz=>hw (decide_eq_true z)
  obtain ⟨hp,hx⟩:=ok.word.resolve_right λz=>hw z.1
  have hnc : ¬ (w="cut"/\look t n=none):=λz=>hw z.1
  have eU:zM t w n i xs=zaV (lk t n) i xs xs.length:=by unfold zM zaV;rw [if_pos hp,List.take_length]
  refine ⟨⟨_,.inl (.inl hl)⟩,zaG.enum (xs:=xs.map V.int) (ToI A H p b k g l t w n i xs) ⟨⟨_,_,rfl⟩,⟨t,hF,λ_=>rfl⟩,.of (zg.refl _),λz=>absurd rfl z⟩ (λj σ H' _ I=>.inl (.inl (I.but _ _ (λz=>by rw [z,eb] at hl;cases hl) hl))) ?_ ?_⟩
  ·intro j v pp σ H' hv I hpp
   obtain ⟨t7,t8,rfl⟩:=I.ex
   obtain ⟨tj,Fj,aj⟩:=I.fil
   rw [getElem?_map] at hv
   obtain ⟨x,hxj,rfl⟩:=map_eq_some_iff.mp hv
   have lj:j<xs.length:=(List.getElem?_eq_some_iff.mp hxj).1
   have sP:zg H' (upd H' pp (.tup [.int j,.int x])):=(New.mk' hpp).same
   have F1:=Fj.same sP
   obtain ⟨dx1,e11⟩:=F1.ob
   have hj:j=0\/i=(lk t n).length:=by
    rcases hx with ⟨z,_⟩|⟨y,rfl⟩
    ·exact .inr z
    ·exact .inl (by simp at lj;exact lj)
   have x20:xs.length<=20:=by
    rcases hx with ⟨_,z,_⟩|⟨y,rfl⟩
    ·exact z
    ·simp
   have elk:lk tj n=if j=0 then lk t n else zaV (lk t n) i xs j:=by rw [<- zjF];unfold lk;rw [aj n]
   have llk:(j=0->(lk tj n).length=(lk t n).length)/\(j≠0->(lk tj n).length=(lk t n).length+j):=by
    rw [elk]
    refine ⟨λz=>by rw [if_pos z],λz=>?_⟩
    rw [if_neg z,hj.resolve_left z,zdW,length_append,length_take]
    omega
   have ltj:tj.length<=t.length+1:=by
    rw [ze2 aj Fj.births.nd (by unfold TJ;split;exact hF.births.nd;exact zdz hF.births.nd)]
    unfold TJ
    split
    ·omega
    ·exact zkl
   simp_all only []
   refine ⟨pp,_,rfl,SqT.of zx,rfl,?_⟩
   simp_all only [e11,zpE]
   refine ⟨p,b,k,tj,[],n,i+j,x,rfl,F1,?_,by omega,λc0 c1 H1 b1 G1=>?_,λhb H1 s1=>?_⟩
   ·by_cases z:j=0
    ·rw [llk.1 z];omega
    ·rw [llk.2 z];omega
   ·have ri:0<=i/\i<=(lk t n).length:=by
     by_cases z:j=0
     ·rw [llk.1 z] at c1;omega
     ·exact I.rng z
    refine ⟨⟨_,_,rfl⟩,⟨_,G1,λm=>?_⟩,λc o nc e=>b1 _ _ nc (sP _ _ (I.but _ _ nc e)),λ_=>ri⟩
    rw [elk,zlM hxj hj ri.1]
    unfold TJ
    rw [if_neg (Nat.succ_ne_zero j),zaL,zaL,aj m]
    by_cases hm:m=n
    ·rw [if_pos hm,if_pos hm]
    ·rw [if_neg hm,if_neg hm]
     unfold TJ
     split
     ·rfl
     ·rw [zaL,if_neg hm]
   ·have z:j=0:=Classical.byContradiction λz=>by
     have:=I.rng z
     have:=llk.2 z
     have:=hj.resolve_left z
     omega
    have h1:=llk.1 z
    refine ⟨A.NoPlace,rfl,T.ek_NoPlace,T.mro_NoPlace,λea oe he ho=>⟨_,rfl,ea,A.NoPlace,oe,9,rfl,zx,ho,T.kc_NoPlace,λv H2 ev s2=>⟨v,rfl,?_⟩⟩⟩
    cases ev
    have e:zaa t w n i xs=(("NoPlace":Str),t):=by unfold zaa;rw [if_neg hnc,if_pos (by omega)]
    rw [e] at q
    have s02:zg H' H2:=(sP.trans s1).trans ((New.mk' he).same.trans s2)
    refine q H2 tj (λc o nc e=>s02 _ _ (I.but _ _ nc e)) (Fj.same s02) λm=>?_
    rw [aj m]
    unfold TJ
    rw [if_pos z]
  ·rintro σ H' ⟨⟨t7,t8,rfl⟩,⟨tj,Fj,aj⟩,bt,rng⟩
   rw [length_map] at aj rng
   simp_all only []
   have fin : ¬ (((lk t n).length:Int)<i\/i<0)->zM t w n i xs≠[]->zay tj (zJ t n (zM t w n i xs))->Q (.str "done") H':=λh1 h2 h3=>by
    have e:zaa t w n i xs=(("done":Str),zJ t n (zM t w n i xs)):=by unfold zaa;rw [if_neg hnc,if_neg h1,if_neg h2]
    rw [e] at q
    exact q H' tj bt Fj h3
   by_cases h0:xs.length=0
   ·have hx0:xs=[]:=length_eq_zero_iff.mp h0
    obtain ⟨hi,_,hm⟩:=hx.resolve_right λ⟨y,z⟩=>by rw [z] at h0;cases h0
    have hm:=hm hx0
    have er:zM t w n i xs=lk t n:=by rw [eU,hi,zdW,hx0];simp
    refine fin (by omega) (λz=>hm (by rw [<- er,z];rfl)) λm=>?_
    rw [aj m,er,zaL]
    unfold TJ
    rw [if_pos h0]
    by_cases hmn:m=n
    ·subst hmn
     rw [if_pos rfl]
     cases hl:look t m with
     | none=>unfold lk at hm;rw [hl] at hm;exact absurd rfl hm
     | some r=>unfold lk;rw [hl];rfl
    ·rw [if_neg hmn]
   ·have ri:=rng h0
    refine fin (by omega) (λz=>?_) λm=>?_
    ·have:=congrArg length z
     rw [eU] at this
     unfold zaV at this
     simp at this
     exact h0 (by rw [this.2.1];rfl)
    ·rw [aj m,eU]
     unfold TJ
     rw [if_neg h0]
end
abbrev zbL:Stmt:=top 37
theorem zgo:∀{xs L:List Str},xs.Nodup->(∀y∈xs,y∈L)->xs.length<=L.length
 | [],_,_,_=>zero_le _
 | x::xs,L,nd,s=>by
  have nd':=nodup_cons.mp nd
  have hx:x∈L:=s x mem_cons_self
  have h1:=zgo (xs:=xs) (L:=L.erase x) nd'.2 λy hy=>(List.mem_erase_of_ne (λz:y=x=>nd'.1 (by rw [<- z];exact hy))).mpr (s y (mem_cons_of_mem _ hy))
  rw [List.length_erase_of_mem hx] at h1
  have:=List.length_pos_of_mem hx
  rw [length_cons]
  omega
theorem zeP{α:Type}{t:List (Str×α)}:(names t).length=t.length:=by unfold names;rw [length_map]
theorem zgR{α:Type}{t:List (Str×α)}{n m:Str}{a:α}(h:m∈names (zJ t n a)):m∈names t\/m=n:=by
 unfold names at h ⊢
 obtain ⟨p,hp,rfl⟩:=mem_map.mp h
 rcases zmx hp with hp|rfl
 ·exact .inl (mem_map.mpr ⟨p,hp,rfl⟩)
 ·exact .inr rfl
theorem zk8{α:Type}{t:List (Str×α)}{n m:Str}(h:m∈names (zE t n)):m∈names t:=by
 unfold names zE at h
 unfold names
 obtain ⟨p,hp,rfl⟩:=mem_map.mp h
 exact mem_map.mpr ⟨p,(List.mem_filter.mp hp).1,rfl⟩
theorem zdh{α:Type}(f:α->List Int)(C:Nat):∀l:List α,(∀x∈l,(f x).length<=C)->(l.flatMap f).length<=l.length*C
 | [],_=>zero_le _
 | x::l,h=>by
  have h1:=h x mem_cons_self
  have h2:=zdh f C l λy hy=>h y (mem_cons_of_mem _ hy)
  rw [List.flatMap_cons,length_append,length_cons,Nat.succ_mul]
  omega
section
variable {P:Program}{w:World}{K:Frag}{mg:Str->Option Value}{base:Heap}{A:zj}
structure SoI(H:Hp)(p nl d:Addr)(u:Tab)(zs:List Str)(i:Nat)(σ:L2.St)(H':Hp):Prop where
 ex:∃lv t4 t5 t6 t7,σ=[some (.ref p),some (.ref nl),some (.ref d),some (.ref lv),t4,t5,t6,t7]/\H' lv=some (.lst (((zs.take i).flatMap (lk u)).map V.int))
 same:zg H H'
structure SoC(H:Hp)(p:Addr)(n:Str)(l:List Int)(i:Nat)(τ:L2.St)(ys:List V)(H':Hp):Prop where
 ex:∃t,τ=[t,some (V.ref p),some (.str n)]
 ys:ys=(l.take i).map V.int
 same:zg H H'
 le:i<=700
def zeQ(A:zj):Sp:=λvs H Q _=>∃(p b k d a nl:Addr)(t u:Tab)(zs:List Str),vs=[.ref p,.ref nl,.ref d]/\zy A H p b k t []/\Pot H a/\zad H a d u/\H nl=some (.lst (zs.map V.str))/\zs.length<=4/\(∀m∈names t,m∈zs)/\(∀n,(lk t n).length<=700)/\zay t u/\∀H',zg H H'->Q (.bl true) H'
theorem zbK:zS ["_law_files","_law_names_here","_law_model","_law_living","_law_file","_law_row","_law_beyond","_law_told_here"] ["_law_files","_law_names_here","_law_model"] (zk zbL):=⟨rfl,rfl,rfl,f!"",rfl,f!"",f!""⟩
theorem zsU:zb4 { kind:=.function,names:=[(Str.ofString ".0",.local),(Str.ofString "_law_place",.local),(Str.ofString "_law_birth_told",.globalImplicit),(Str.ofString "_law_files",.free),(Str.ofString "_law_file",.free)],isGenerator:=false,isCoroutine:=false,more:=[] } (zk zbL).names ["_law_files","_law_names_here","_law_model","_law_living","_law_file","_law_row","_law_beyond","_law_told_here"] ["_law_place","_law_files","_law_file"] [none,some 0,some 4]=true:=by decide +kernel
theorem znk:(["_law_place","_law_files","_law_file"]:List Str).Nodup:=by decide +kernel
theorem zkP{f:Addr}{fd:FuncData}(F:Fun K "_law_is_so" "_law_is_so" zbL f fd)(T:Txt K mg A)(M_Files_names:GM P w K mg base true 1 A.Files "names" ["self"] (zgg A))(M_Files_many:GM P w K mg base true 1 A.Files "many" ["self","file"] (zcT A))(Gf:GF P w K mg base true 5 "_law_birth_told" ["_law_files","_law_file","_law_place"] (zc4 A))(M_Files_living:GM P w K mg base true 1 A.Files "living" ["self"] (zgi A)):zr P w K mg base CX0 true 6 f fd ["_law_files","_law_names_here","_law_model"] (zeQ A):=by
 refine F.ok zbK (λvs H Q E h=>?_) (λcdv Ar outer s H vs Q E hr h=>?_)
 ·obtain ⟨p,b,k,d,a,nl,t,u,zs,rfl,_⟩:=h;rfl
 ·obtain ⟨p,b,k,d,a,nl,t,u,zs,rfl,hF,hP,hM,hnl,zl,nm,rows,al,q⟩:=h
  have hu:_<cLine:=lt_of_succ_lt (zak hr)
  refine ⟨_,(W.h (zm (zac (zbS (zcD (z8 (zbA hu) (zbN (za 0) T.cl_Files M_Files_names hr) (zA (zdI rfl) rfl T.n_sorted boot_sorted (zb (za 2) zd)) (zZ _)) (zcS (zcb (zcg (zA (zap (K:=K) rfl) rfl T.n_isinstance boot_isinstance (zb (zbN (za 0) T.cl_Files M_Files_names hr) (zb (zdq rfl T.n_list boot_list (v:=.ty "list") rfl) zd))))))))
   (zp (zH zba))
   zai)
   (zm (zG (i:=3) zbK.nd rfl (Or.inl rfl) (zah zd))
   (zm (zdv PassesOwn.never (λ_=>rfl) (zh5 (za 1)) (zaf (i:=4) zbK.nd rfl (Or.inr rfl))
   (zm (zG (i:=5) zbK.nd rfl (Or.inl rfl) (zdf (zak hr) (za 2) (za 4) (zah zd)))
   (zm (zG (i:=3) zbK.nd rfl (Or.inl rfl) (zC zal (za 3) (za 5)))
   (zm (zG (i:=6) zbK.nd rfl (Or.inl rfl) (zqS (z8 (zq9 (zak hr)) (za 4) (za 2) rfl) zz zz))
   (zm (zac (zbS (zcD (z8 (zbA hu) (zey (za 0) T.cl_Files M_Files_many hr (zb (za 4) zd)) (zA zb9 rfl T.n_len PySem.boot_len (zb (za 5) zd)) (zZ _)) (zcS (z8 (zbA hu) (zF Gf hr rfl (zb (za 0) (zb (za 4) (zb (zA zb9 rfl T.n_len PySem.boot_len (zb (za 5) zd)) zd)))) (za 6) (zZ _)))))
   (zp (zH zba))
   zai)
   (zm (zac (z8 (zbA hu) (zF Gf hr rfl (zb (za 0) (zb (za 4) (zb (zh3 ziF zq) zd)))) (za 6) (zZ _))
   (zp (zH zba))
   zai)
   (zp (zac (z8 (zbA hu) (zeA (λ_=>rfl) (za1.of zsU) (zcy rfl T.n_range (zb (zA zb9 rfl T.n_len PySem.boot_len (zb (za 5) zd)) zd)) (λ_ _ _ _ _=>(zaf (i:=0) znk rfl (Or.inl rfl))) (λ_ _ _ _ _=>zec) (λ_ _ _ _ _=>(zF Gf hr rfl (zb (za 1) (zb (za 2) (zb (za 0) zd)))))) (za 5) (zZ _))
   (zp (zH zba))
   zai))))))))
   (zm (zG (i:=7) zbK.nd rfl (Or.inl rfl) (zbN (za 0) T.cl_Files M_Files_living hr))
   (zm (zac (zbS (zcD (z8 (zbA hu) (za 7) (zA (zfy rfl) rfl T.n_sorted boot_sorted (zb (zfm (zg2 rfl) rfl T.n_set boot_set (zb (za 3) zd)) zd)) (zZ _)) (zcS (zcb (zcg (zA (zap (K:=K) rfl) rfl T.n_isinstance boot_isinstance (zb (za 7) (zb (zdq rfl T.n_list boot_list (v:=.ty "list") rfl) zd))))))))
   (zp (zH zba))
   zai)
   (zm (zbw (zgc (za 7) zq))
   (zm (zbw (zgc (zbN (za 0) T.cl_Files M_Files_names hr) zz))
   (zp (zH (zgf (zfE (zbO hu) (zbN (za 0) T.cl_Files M_Files_living hr) (zA (zfy rfl) rfl T.n_sorted boot_sorted (zb (zfm (zg2 rfl) rfl T.n_set boot_set (zb (za 3) zd)) zd)) (zZ _)) (zfH (zfE (zbO hu) (zbN (za 0) T.cl_Files M_Files_names hr) (zA (zdI rfl) rfl T.n_sorted boot_sorted (zb (za 2) zd)) (zZ _)))))))))))))),?_⟩
  obtain ⟨dx,e1⟩:=hF.ob
  obtain ⟨kvs,ed,dc⟩:=hM.ex
  have hlu:=ze2 al hF.births.nd hM.nd
  simp_all only [e1,zeg]
  have lu:∀n,lk u n=lk t n:=λn=>by unfold lk;rw [al n]
  have tl:t.length<=4:=by
   rw [<- zeP]
   exact Nat.le_trans (zgo hF.births.nd nm) zl
  refine ⟨p,b,k,t,[],rfl,hF.r,by omega,λn1' H1 n1=>⟨kvs,.inl (n1.same _ _ ed),by rw [dc.length];omega,λml H2 n2=>?_⟩⟩
  rw [dc.names,<- zhT al hF.births.nd hM.nd] at n2
  have nl2:=n2.same _ _ n1.at_
  simp_all only [nl2,n2.at_]
  refine ⟨zcN,zcN,?_⟩
  rw [zhk]
  simp_all only []
  have s2:zg H H2:=n1.same.trans n2.same
  obtain ⟨dx2,e2⟩:=(hF.same s2).ob
  refine ⟨dx2,_,e2,zeg,p,b,k,t,[],rfl,(hF.same s2).r,by omega,λl3 H3 n3=>?_⟩
  refine ⟨_,_,_,_,_,rfl,rfl,.of (.lst n3.at_),rfl,?_⟩
  simp_all only []
  refine ⟨zero_le _,λlv H4 n4 _=>?_⟩
  have s4:zg H H4:=(s2.trans n3.same).trans n4.same
  have few:∀i,((zs.take i).flatMap (lk u)).length<=2800:=λi=>by
   have:=zdh (lk u) 700 (zs.take i) λx _=>by rw [lu];exact rows x
   have h2:=List.length_take_le i zs
   have h3:(zs.take i).length<=4:=by rw [length_take];omega
   have:=Nat.mul_le_mul_right 700 h3
   omega
  refine ⟨⟨_,.inl (.inl (s4 _ _ hnl))⟩,zaG.lst (xs:=zs.map V.str) (SoI H p nl d u zs) ⟨⟨_,_,_,_,_,rfl,n4.at_⟩,s4⟩ (λi σ H' _ I=>.inl (.inl (I.same _ _ hnl))) ?_ ?_⟩
  ·rintro i v σ H5 hv ⟨⟨lv5,t4,t5,t6,t7,rfl,elv⟩,s5⟩
   rw [getElem?_map] at hv
   obtain ⟨z,hz,rfl⟩:=map_eq_some_iff.mp hv
   have P5:=hP.same s5
   have ed5:=s5 _ _ ed
   have F5:=hF.same s5
   simp_all only []
   refine ⟨⟨_,.inl ed5⟩,zero_le _,λl6 H6 n6 _=>⟨_,.inl (n6.same _ _ ed5),?_⟩⟩
   obtain ⟨r,er,hr6,ra⟩:=zad.get dc z (s5.trans n6.same) n6.at_ (P5.ne n6.no)
   rw [zaP,er]
   have rz:(lk u z).length<=700:=by rw [lu];exact rows z
   simp_all only []
   refine ⟨_,n6.same _ _ elv,_,hr6,zcX (by have:=few i;rw [length_map,length_map];omega),λl7 H7 n7=>?_⟩
   have s57:zg H5 H7:=n6.same.trans n7.same
   have F7:=F5.same s57
   have hr7:=n7.same _ _ hr6
   have el7:H7 l7=some (.lst (((zs.take (i+1)).flatMap (lk u)).map V.int)):=by
    rw [n7.at_,take_add_one,hz,flatMap_append]
    simp
   have bbN:look t z=none->∀(i:Int)(H1:Hp)(Q1:VK)(E1:XK),zy A H1 p b k t []->(i<0\/(lk u z).length<=i)->(∀H',zg H1 H'->Q1 (.str "NoFile") H')->zc4 A [.ref p,.str z,.int i] H1 Q1 E1:=λhn i H1 Q1 E1 F1 _ h=>⟨p,b,k,t,[],z,i,rfl,F1.r,λ_=>h,λl hl=>by rw [hn] at hl;cases hl⟩
   have bbP:∀l,look t z=some l->∀(i:Int)(H1:Hp)(Q1:VK)(E1:XK),zy A H1 p b k t []->(i<0\/(lk u z).length<=i)->(∀H',zg H1 H'->Q1 (.str "NoPlace") H')->zc4 A [.ref p,.str z,.int i] H1 Q1 E1:=λl hl i H1 Q1 E1 F1 hi h=>by
    have el:lk u z=l:=by rw [lu];unfold lk;rw [hl];rfl
    refine ⟨p,b,k,t,[],z,i,rfl,F1.r,(λhn=>by rw [hl] at hn;cases hn),λl' hl'=>?_⟩
    rw [hl] at hl'
    cases hl'
    rw [el] at hi
    exact ⟨λ_=>h,λi0 i1=>by omega⟩
   refine ⟨_,.inl (s57 _ _ ed5),?_⟩
   rw [zaP,Dct.some_iff dc z,<- al z]
   obtain ⟨dx7,e7⟩:=F7.ob
   by_cases hc:(look t z).isSome=true
   all_goals first
    | (rw [if_pos hc];obtain ⟨l0,hl0⟩:=isSome_iff_exists.mp hc;have bb:=bbP l0 hl0)
    | (rw [if_neg hc];have bb:=bbN (by cases e:look t z with|none=>rfl|some _=>rw [e] at hc;exact absurd rfl hc))
   all_goals
    refine ⟨dx7,_,e7,zcE,p,b,k,t,[],z,rfl,F7.r,λH8 s8=>⟨_,.inl (s8 _ _ hr7),?_⟩⟩
    rw [length_map,<- lu z]
    try simp_all only []
    rw [if_neg (by simp)]
    refine ⟨_,.inl (s8 _ _ hr7),?_⟩
    rw [length_map]
    refine bb _ _ _ _ (F7.same s8) (.inr (Int.le_refl _)) λH9 s9=>?_
    simp_all only []
    rw [if_neg (by simp)]
    refine bb _ _ _ _ ((F7.same s8).same s9) (.inl (by omega)) λH10 s10=>?_
    simp_all only []
    rw [if_neg (by simp)]
    have s710:zg H7 H10:=(s8.trans s9).trans s10
    have hr10:=s710 _ _ hr7
    refine ⟨_,.inl hr10,?_⟩
    rw [length_map,toNat_natCast]
    refine ⟨by omega,by omega,zax.rng (SoC H10 p z (lk u z)) (λj τ ys H6 I=>?_) ⟨⟨_,rfl⟩,by simp,zg.refl _,by omega⟩ ?_ ?_⟩
    ·rw [I.ys,length_map,length_take]
     exact zco (by have:=I.le;omega)
    ·intro N j τ ys H11 hj I hN
     obtain ⟨tt,rfl⟩:=I.ex
     have F11:=(F7.same s710).same I.same
     obtain ⟨l1,hl1⟩:∃l1,look t z=some l1:=by
      cases e:look t z with
      | none=>rw [lu] at hj;unfold lk at hj;rw [e] at hj;exact absurd hj (Nat.not_lt_zero _)
      | some l1=>exact ⟨l1,rfl⟩
     have el:lk u z=l1:=by rw [lu];unfold lk;rw [hl1];rfl
     rw [el] at hj
     simp_all only []
     refine ⟨p,b,k,t,[],z,_,rfl,F11.r,(λhn=>by rw [hl1] at hn;cases hn),λl' hl'=>?_⟩
     rw [hl1] at hl'
     cases hl'
     refine ⟨λh=>by omega,λ_ _ H12 s12=>?_⟩
     have ej:(0+(j:Int)).toNat=j:=by omega
     have eg:l1.getD j 0=l1[j]:=by rw [getD_eq_getElem?_getD,List.getElem?_eq_getElem hj];rfl
     rw [ej,eg]
     refine hN _ _ _ ⟨⟨_,rfl⟩,?_,I.same.trans s12,by have:=I.le;rw [el] at rz;omega⟩
     rw [I.ys,el,take_add_one,List.getElem?_eq_getElem hj,map_append]
     rfl
    ·intro τ ys H11 I D H12 n12
     have s12:zg H7 H12:=(s710.trans I.same).trans n12.same
     have e12:=s12 _ _ hr7
     have ey:ys=(lk u z).map V.int:=by rw [I.ys,take_of_length_le (Nat.le_refl _)]
     rw [ey] at n12
     simp_all only [n12.at_,e12]
     refine ⟨zb8,zb8,?_⟩
     rw [zge]
     simp_all only []
     exact ⟨⟨_,_,_,_,_,rfl,s12 _ _ el7⟩,(s5.trans s57).trans s12⟩
  ·rintro σ H5 ⟨⟨lv5,t4,t5,t6,t7,rfl,elv⟩,s5⟩
   rw [length_map,take_of_length_le (Nat.le_refl _)] at elv
   have fw:=few zs.length
   rw [take_of_length_le (Nat.le_refl _)] at fw
   have mem:∀y,y∈zaW t []↔y∈zs.flatMap (lk u):=λy=>by
    rw [zc9,zqT,List.mem_flatMap]
    constructor
    ·rintro (⟨q,hq,hy⟩|⟨q,hq,_⟩)
     ·refine ⟨q.1,nm _ (by unfold names;exact mem_map.mpr ⟨q,hq,rfl⟩),?_⟩
      rw [lu];unfold lk;rw [zkZ hF.births.nd hq];exact hy
     ·cases hq
    ·rintro ⟨m,_,hy⟩
     rw [lu] at hy
     unfold lk at hy
     cases e:look t m with
     | none=>rw [e] at hy;cases hy
     | some l=>rw [e] at hy;exact .inl ⟨_,zo7 e,hy⟩
   have un:(uniq (zaW t [])).length<3000:=Nat.lt_of_le_of_lt (zeC zdi λy hy=>(mem y).mp (zdx.mp hy)) (by omega)
   have un2:(uniq (zs.flatMap (lk u))).length<3000:=Nat.lt_of_le_of_lt (zeC zdi λy hy=>zdx.mp hy) (by omega)
   have same_ns:∀{ns ns2:List Int},ns.Perm (uniq (zaW t []))->ns.Pairwise (·<=·)->ns2.Perm (uniq (zs.flatMap (lk u)))->ns2.Pairwise (·<=·)->ns=ns2:=λ{ns ns2} pm so pm2 so2=>zrI so so2 (pm.nodup_iff.mpr zdi) (pm2.nodup_iff.mpr zdi) λy=>by
    rw [pm.mem_iff,pm2.mem_iff,zdx,zdx];exact mem y
   obtain ⟨dx5,e5⟩:=(hF.same s5).ob
   simp_all only [e5,zji]
   refine ⟨p,b,k,t,[],rfl,hF.same s5,un,zero_le _,λl6 ns6 H6 s6 no6 el6 pm6 so6=>?_⟩
   try simp_all only []
   refine ⟨_,.inl (s6 _ _ elv),by omega,λl7 H7 n7=>?_⟩
   try simp_all only []
   refine ⟨_,n7.at_,un2,λl8 ns8 H8 n8 pm8 so8=>?_⟩
   have e68:H8 l6=some (.lst (ns6.map V.int)):=n8.same _ _ (n7.same _ _ el6)
   have hns:=same_ns pm6 so6 pm8 so8
   subst hns
   refine ⟨_,e68,_,n8.at_,zb8,zb8,?_⟩
   rw [zge,if_neg (by simp)]
   refine ⟨_,_,_,_,_,rfl,rfl,.of (.lst e68),rfl,?_⟩
   simp_all only [e68]
   have s58:zg H5 H8:=(s6.trans n7.same).trans n8.same
   have ln6:ns6.length<3000:=by rw [pm6.length_eq];exact un
   generalize eo:HO.lst (ns6.map V.int++[V.int 5])=o9
   have s9:zg H5 (upd H8 l6 o9):=λc o e=>by rw [zh (zT e no6)];exact s58 _ _ e
   have F9:=(hF.same s5).same s9
   obtain ⟨dx9,e9⟩:=F9.ob
   refine ⟨by rw [length_map];exact zco (by omega),dx9,_,e9,zeg,p,b,k,t,[],rfl,F9.r,by omega,λl10 H10 n10=>?_⟩
   generalize upd H8 l6 o9=H9 at s9 n10 F9 e9
   simp_all only [n10.at_]
   generalize eo2:HO.lst ((zaK (names t)).map V.str++[V.str "zz"])=o11
   have s11:zg H5 (upd H10 l10 o11):=λc o e=>by
    have e1:=s9 _ _ e
    rw [zh (zT e1 n10.no)];exact n10.same _ _ e1
   have F11:=(hF.same s5).same s11
   obtain ⟨dx11,e11⟩:=F11.ob
   refine ⟨by rw [length_map,(zct _).1.length_eq,zeP];exact zco (by omega),dx11,_,e11,zji,p,b,k,t,[],rfl,F11,un,zero_le _,λl12 ns12 H12 s12 no12 el12 pm12 so12=>?_⟩
   generalize upd H10 l10 o11=H11 at s11 s12
   refine ⟨_,.inl (s12 _ _ (s11 _ _ elv)),by omega,λl13 H13 n13=>⟨_,n13.at_,un2,λl14 ns14 H14 n14 pm14 so14=>?_⟩⟩
   have e14:H14 l12=some (.lst (ns12.map V.int)):=n14.same _ _ (n13.same _ _ el12)
   have hns:=same_ns pm12 so12 pm14 so14
   subst hns
   simp_all only [e14,n14.at_]
   refine ⟨zb8,zb8,?_⟩
   rw [zge]
   simp_all only []
   have s14:zg H H14:=(((s5.trans s11).trans s12).trans n13.same).trans n14.same
   obtain ⟨dx14,e14'⟩:=(hF.same s14).ob
   refine ⟨dx14,_,e14',zeg,p,b,k,t,[],rfl,(hF.same s14).r,by omega,λl15 H15 n15=>⟨kvs,.inl (n15.same _ _ (s14 _ _ ed)),by rw [dc.length];omega,λl16 H16 n16=>?_⟩⟩
   rw [dc.names,<- zhT al hF.births.nd hM.nd] at n16
   have e16:=n16.same _ _ n15.at_
   simp_all only [e16,n16.at_]
   refine ⟨zcN,zcN,?_⟩
   rw [zhk]
   exact q H16 ((s14.trans n15.same).trans n16.same)
end
abbrev zbm:Stmt:=top 38
theorem SqL.sm{K:Frag}{H H':Hp}{a:Addr}{xs:List V}(h:SqL K H a xs)(s:zg H H'):SqL K H' a xs:=by
 rcases h with (h|⟨o,h⟩)|h
 ·exact .inl (.inl (s _ _ h))
 ·exact .inl (.inr ⟨o,s _ _ h⟩)
 ·exact .inr h
structure Fct(zs:List Str)(t:Tab)(B:Nat):Prop where
 row:∀n,(lk t n).length<=B
 ne:∀n l,look t n=some l->l≠[]
 nm:∀m∈names t,m∈zs
theorem Fct.alike{zs:List Str}{t u:Tab}{B:Nat}(h:Fct zs t B)(al:zay u t):Fct zs u B:=by
 refine ⟨λn=>?_,λn l e=>h.ne n l (by rw [<- al n];exact e),λm hm=>h.nm m ?_⟩
 ·have:=h.row n
  unfold lk at this ⊢
  rw [al n];exact this
 ·refine Classical.byContradiction λz=>?_
  have:=zaD.mpr z
  rw [<- al m] at this
  exact zaD.mp this hm
theorem zl6{u:Tab}{w n:Str}{i:Int}{xs:List Int}:(zM u w n i xs).length<=(lk u n).length+xs.length:=by
 unfold zM
 split
 ·simp;omega
 ·simp;omega
theorem Fct.step{zs:List Str}{t:Tab}{B:Nat}{w n:Str}{i:Int}{xs:List Int}(h:Fct zs t B)(hx:xs.length<=20)(hz:n∈zs):Fct zs (zaa t w n i xs).2 (B+20):=by
 have up:Fct zs t (B+20):=⟨λn=>Nat.le_trans (h.row n) (by omega),h.ne,h.nm⟩
 have lr:=zl6 (u:=t) (w:=w) (n:=n) (i:=i) (xs:=xs)
 have hr:=h.row n
 unfold zaa
 split
 ·exact up
 split
 ·exact up
 dsimp only
 split
 ·refine ⟨λm=>?_,λm l e=>?_,λm hm=>?_⟩
  ·have e:lk (zE (zJ t n (zM t w n i xs)) n) m=if m=n then [] else lk t m:=by
    unfold lk;rw [zbg,zaL];by_cases z:m=n
    ·rw [if_pos z,if_pos z];rfl
    ·rw [if_neg z,if_neg z,if_neg z]
   rw [e]
   split
   ·exact zero_le _
   ·exact up.row m
  ·rw [zbg,zaL] at e
   by_cases z:m=n
   ·rw [if_pos z] at e;cases e
   ·rw [if_neg z,if_neg z] at e;exact h.ne m l e
  ·rcases zgR (zk8 hm) with hm|rfl
   ·exact h.nm m hm
   ·exact hz
 ·rename_i hne
  refine ⟨λm=>?_,λm l e=>?_,λm hm=>?_⟩
  ·rw [zio]
   split
   ·omega
   ·exact up.row m
  ·rw [zaL] at e
   by_cases z:m=n
   ·rw [if_pos z] at e;cases e;exact hne
   ·rw [if_neg z] at e;exact h.ne m l e
  ·rcases zgR hm with hm|rfl
   ·exact h.nm m hm
   ·exact hz
theorem zrz{t u:Tab}{w n:Str}{i:Int}{xs:List Int}(al:zay t u):(zaa t w n i xs).1=(zaa u w n i xs).1/\zay (zaa t w n i xs).2 (zaa u w n i xs).2:=by
 have lu:lk u n=lk t n:=by unfold lk;rw [al n]
 have er:zM u w n i xs=zM t w n i xs:=by unfold zM;rw [lu]
 unfold zaa
 rw [lu,er,al n]
 split
 ·exact ⟨rfl,al⟩
 split
 ·exact ⟨rfl,al⟩
 dsimp only
 refine ⟨rfl,?_⟩
 split
 ·intro m
  rw [zbg,zbg,zaL,zaL,al m]
 ·intro m
  rw [zaL,zaL,al m]
section
variable {P:Program}{w:World}{K:Frag}{mg:Str->Option Value}{base:Heap}{A:zj}
structure LwI(H0:Hp)(sc:Addr)(i:Nat)(σ:L2.St)(H':Hp):Prop where
 ex:∃t1 t2 t3 t4 t5 t6 t7,σ=[some (.ref sc),t1,t2,t3,t4,t5,t6,t7]
 same:zg H0 H'
structure InI(A:zj)(H0:Hp)(sc:Addr)(kk:Int)(a nl p d b k:Addr)(zs:List Str)(i:Nat)(σ:L2.St)(H':Hp):Prop where
 ex:∃t6 t7,σ=[some (.ref sc),some (.int kk),some (.ref a),some (.ref nl),some (.ref p),some (.ref d),t6,t7]
 pot:Pot H' a
 nl:H' nl=some (.lst (zs.map V.str))
 one:∃t u,zy A H' p b k t []/\zad H' a d u/\zay t u/\Fct zs t (20*i)
 but:zbG [a,b,d] H0 H'
def zeq(K:Frag):Sp:=λvs H Q _=>∃(a:Addr)(ns:List Int),vs=[.ref a]/\SqL K H a (ns.map V.int)/\ns.length<=63/\∀H',Q (.bl true) H'
theorem zbs:zS ["_law_script","_law_k","_law_pot_here","_law_names_here","_law_files","_law_model","_law_turn","_law_deed_here"] ["_law_script"] (zk zbm):=⟨rfl,rfl,rfl,f!"",rfl,f!"",f!""⟩
theorem zsT{f:Addr}{fd:FuncData}(F:Fun K "law" "law" zbm f fd)(T:Txt K mg A)(Gk:GF P w K mg base true 2 "_law_pot" ["_law_script","_law_k"] (zf0 K))(Gm:GF P w K mg base true 4 "_law_names" ["_law_pot_here"] zgv)(Gn:GC P w K mg base true 1 "Files" A.Files ["self"] (zfN A))(Gb:GF P w K mg base true 1 "_law_take" ["_law_pot_here","_law_many"] zbk)(Go:GF P w K mg base true 4 "_law_deed" ["_law_pot_here","_law_names_here","_law_model"] zfo)(Gp:GF P w K mg base true 5 "_law_told" ["_law_files","_law_deed_here"] (zf8 A))(Gq:GF P w K mg base true 1 "_law_due" ["_law_model","_law_deed_here"] zfP)(Gr:GF P w K mg base true 6 "_law_is_so" ["_law_files","_law_names_here","_law_model"] (zeQ A))(M_Files_held:GM P w K mg base true 1 A.Files "held" ["self"] (ze3 A)):zr P w K mg base CX0 true 9 f fd ["_law_script"] (zeq K):=by
 refine F.ok zbs (λvs H Q E h=>?_) (λcdv Ar outer s H vs Q E hr h=>?_)
 ·obtain ⟨a,ns,rfl,_⟩:=h;rfl
 ·obtain ⟨sc,ns,rfl,hS,hl,q⟩:=h
  have hu:_<cLine:=lt_of_succ_lt (zak hr)
  refine ⟨_,(W.h (zm (zdv PassesOwn.never (λ_=>rfl) (zcy rfl T.n_range (zb (zA (zh6 rfl) rfl T.n_max boot_max (zb zq (zb (zA (zsg rfl) rfl T.n_min boot_min (zb (zA zgC rfl T.n_len PySem.boot_len (zb (za 0) zd)) (zb zq zd))) zd))) zd)) (zaf (i:=1) zbs.nd rfl (Or.inl rfl))
   (zm (zG (i:=2) zbs.nd rfl (Or.inl rfl) (zF Gk hr rfl (zb (za 0) (zb (za 1) zd))))
   (zm (zG (i:=3) zbs.nd rfl (Or.inl rfl) (zF Gm hr rfl (zb (za 2) zd)))
   (zm (zG (i:=4) zbs.nd rfl (Or.inl rfl) (zon Gn hr rfl))
   (zm (zG (i:=5) zbs.nd rfl (Or.inl rfl) zeO)
   (zm (zdv PassesOwn.never (λ_=>rfl) (zcy rfl T.n_range (zb (zC zal zq (zF Gb hr rfl (zb (za 2) (zb zq zd)))) zd)) (zaf (i:=6) zbs.nd rfl (Or.inl rfl))
   (zm (zG (i:=7) zbs.nd rfl (Or.inl rfl) (zF Go hr rfl (zb (za 2) (zb (za 3) (zb (za 5) zd)))))
   (zp (zac (zbS (zcD (z8 (zbA hu) (zF Gp hr rfl (zb (za 4) (zb (za 7) zd))) (zF Gq hr rfl (zb (za 5) (zb (za 7) zd))) (zZ _)) (zcS (zcb (zcg (zF Gr hr rfl (zb (za 4) (zb (za 3) (zb (za 5) zd)))))))))
   (zp (zH zba))
   zai))))
   (zp (zac (z8 (zqt hu) (zbN (za 4) T.cl_Files M_Files_held hr) (zah zd) (zZ _))
   (zp (zH zba))
   zai))))))))
   (zp (zH zba)))),?_⟩
  simp_all only []
  refine ⟨_,.inl hS,?_⟩
  rw [length_map]
  have hN:∃N:Nat,(if (if 6<(ns.length:Int) then 6 else (ns.length:Int))>1 then if 6<(ns.length:Int) then 6 else (ns.length:Int) else 1)=(N:Int)/\N<=6:=by
   by_cases h1:6<(ns.length:Int)
   ·rw [if_pos h1];exact ⟨6,rfl,by decide⟩
   ·rw [if_neg h1]
    split
    ·exact ⟨ns.length,rfl,by omega⟩
    ·exact ⟨1,rfl,by decide⟩
  obtain ⟨N,eN,hN3⟩:=hN
  rw [eN,toNat_natCast]
  refine ⟨by omega,by omega,zaG.rng (LwI H sc) ⟨⟨_,_,_,_,_,_,_,rfl⟩,zg.refl _⟩ ?_ ?_⟩
  ·rintro i σ H0 hi ⟨⟨t1,t2,t3,t4,t5,t6,t7,rfl⟩,s0⟩
   have ej:(0+(i:Int))=((i:Nat):Int):=by omega
   simp_all only [ej]
   refine ⟨sc,ns,i,rfl,SqL.sm hS s0,by omega,λa H1 s1 a0 hP1=>?_⟩
   try simp_all only []
   refine ⟨a,rfl,hP1,λnl zs H2 b2 P2 n2 hnl zl zne=>?_⟩
   try simp_all only []
   refine λp dxp H3 nI=>⟨p,dxp,rfl,nI.at_,λb k H4 s4 nb nk eb ek nbk ex=>⟨rfl,λd H5 n5=>?_⟩⟩
   have k24:zg H2 H4:=λc o e=>s4 _ _ (zT e nI.no) (nI.same _ _ e)
   have s25:zg H2 H5:=k24.trans n5.same
   have P5:Pot H5 a:=P2.same s25
   have ne3:∀{c:Addr}{o:HO},H4 c=some o->d≠c:=λ{c o} e z=>by have:=n5.no;rw [z,e] at this;cases this
   have F5:zy A H5 p b k [] []:=zy.same ⟨⟨dxp,ex⟩,⟨⟨[],eb,.nil⟩,by simp [names]⟩,⟨[],ek,.nil⟩,by simp [names],nbk⟩ n5.same
   have D5:zad H5 a d []:=⟨⟨[],n5.at_,.nil⟩,by simp [names]⟩
   have nla:nl≠a:=hP1.ne n2
   refine ⟨a,29,rfl,P5,by decide,by decide,λr H7 b7 P7 r0 r1=>?_⟩
   have but0:zbG [a,b,d] H0 H7:=λc o n e=>by
    simp only [mem_cons,not_mem_nil,or_false,not_or] at n
    exact b7 _ _ n.1 (s25 _ _ (b2 _ _ n.1 (s1 _ _ e)))
   simp_all only []
   refine ⟨by omega,by omega,zaG.rng (InI A H0 sc i a nl p d b k zs) ⟨⟨_,_,rfl⟩,P7,b7 _ _ nla (s25 _ _ hnl),⟨[],[],F5.pot b7 P5,D5.pot b7 P5,λ_=>rfl,⟨λn=>by simp [lk,look],λn l e=>by simp [look] at e,λm hm=>by simp [names] at hm⟩⟩,but0⟩ ?_ ?_⟩
   ·rintro j σ H8 hj ⟨⟨t6,t7,rfl⟩,P8,hnl8,⟨t,u,F8,D8,al,fc⟩,bt⟩
    have lu:∀n,lk u n=lk t n:=λn=>by unfold lk;rw [al n]
    have j30:20*j<=600:=by omega
    have row:∀n,(lk t n).length<=600:=λn=>Nat.le_trans (fc.row n) j30
    have tl:t.length<=4:=by
     rw [<- zeP]
     exact Nat.le_trans (zgo F8.births.nd fc.nm) zl
    have hul:=ze2 al F8.births.nd D8.nd
    simp_all only []
    refine ⟨a,nl,d,u,zs,rfl,P8,hnl8,zne,zl,D8,λn=>by rw [lu];have:=row n;omega,λg w n i' l xs H9 b9 P9 hg hl9 hla ok hz=>?_⟩
    rw [lu] at ok
    have x20:xs.length<=20:=by
     rcases ok.word with ⟨_,⟨_,z,_⟩|⟨x,rfl⟩⟩|⟨_,_,rfl⟩
     ·exact z
     ·simp
     ·simp
    have F9:=F8.pot b9 P8
    have D9:=D8.pot b9 P8
    obtain ⟨⟨kvb,eb9⟩,kvk,ek9⟩:=F9.dicts
    try simp_all only []
    refine ⟨p,b,k,g,l,t,w,n,i',xs,rfl,F9,hg,hl9,ok,by have:=row n;omega,by omega,fc.ne,λH10 t' b10 F10 al'=>?_⟩
    have P10:=P9.dic b10 eb9
    have D10:=D9.dic b10 eb9 (ne3 eb)
    have hg10:=b10 _ _ (λz=>by rw [z,eb9] at hg;cases hg) hg
    have hl10:=b10 _ _ (λz=>by rw [z,eb9] at hl9;cases hl9) hl9
    have hnl9:=b9 _ _ nla hnl8
    have hnl10:=b10 _ _ (λz=>by rw [z,eb9] at hnl9;cases hnl9) hnl9
    try simp_all only []
    refine ⟨a,d,g,l,u,w,n,i',xs,rfl,P10,D10,hg10,hl10,by omega,by rw [lu];have:=row n;omega,by omega,λH11 b11 D11=>?_⟩
    have st:=zrz (w:=w) (n:=n) (i:=i') (xs:=xs) al
    rw [st.1]
    simp_all only []
    rw [if_neg (by simp)]
    have fc':Fct zs t' (20*(j+1)):=(fc.step (w:=w) (i:=i') x20 hz).alike al'
    have al2:zay t' (zaa u w n i' xs).2:=λm=>(al' m).trans (st.2 m)
    generalize (zaa u w n i' xs).2=u' at *
    obtain ⟨kvd,ed10,_⟩:=D10.ex
    have av:zaF A H10 k d:=λkvs hk pv hpv=>by
     obtain ⟨kk,e,dk⟩:=F10.kept
     cases dk
     rw [e] at hk
     cases hk
     cases hpv
    have F11:=(F10.dic av b11 ed10 (ne3 eb).symm (ne3 ek).symm).1
    have P11:=P10.dic b11 ed10
    have hnl11:=b11 _ _ (λz=>by rw [z,ed10] at hnl10;cases hnl10) hnl10
    refine ⟨p,b,k,d,a,nl,t',u',zs,rfl,F11,P11,D11,hnl11,zl,fc'.nm,λn=>Nat.le_trans (fc'.row n) (by omega),al2,λH12 s12=>?_⟩
    simp_all only []
    refine ⟨⟨_,_,rfl⟩,P11.same s12,s12 _ _ hnl11,⟨t',u',F11.same s12,D11.same s12,al2,fc'⟩,λc o n e=>s12 _ _ ?_⟩
    have e8:=bt c o n e
    simp only [mem_cons,not_mem_nil,or_false,not_or] at n
    exact b11 _ _ n.2.2 (b10 _ _ n.2.1 (b9 _ _ n.1 e8))
   ·rintro σ H8 ⟨⟨t6,t7,rfl⟩,_,_,⟨t,u,F8,_,_,_⟩,bt⟩
    obtain ⟨dx8,e8⟩:=F8.ob
    simp_all only [e8,zkh]
    refine ⟨p,b,k,t,[],rfl,F8.r,by decide,λl9 H9 n9=>⟨zero_le _,λl10 H10 n10 _=>?_⟩⟩
    have e10:=n10.same _ _ n9.at_
    simp_all only [e10,n10.at_]
    have l0:((zaK (names ([]:List (Str×Tab)))).map V.str).length=0:=by rw [length_map,(zct _).1.length_eq];rfl
    refine ⟨.inr trivial,?_⟩
    rw [l0]
    rw [if_neg (by simp)]
    refine ⟨⟨_,_,_,_,_,_,_,rfl⟩,λc o e=>n10.same _ _ (n9.same _ _ ?_)⟩
    have e0:=s0 _ _ e
    refine bt c o ?_ e0
    have e1:=s1 _ _ e0
    have ca:=zT e0 a0
    have e2:=b2 _ _ ca e1
    have e4:=k24 _ _ e2
    simp only [mem_cons,not_mem_nil,or_false,not_or]
    exact ⟨ca,λz=>(by rw [z,nI.same.free nb] at e2;cases e2),(ne3 e4).symm⟩
  ·rintro σ H1 ⟨⟨t1,t2,t3,t4,t5,t6,t7,rfl⟩,s1⟩
   simp_all only []
   exact q H1
end
theorem all_mk{l:OpenLaw}{w:World}{K:Frag}{h:Heap}{mg:Str->Option Value}{fa:Addr}{x6 xU xw y9 xi x4 x3 x8 xj xk xx xz ya x9 xa xA xm x5 f_0 f_1 f_2 f_3 f_4 f_5 f_6 f_7 f_8 f_9 yT uk ul um uo uq ur ut uu uv uw ux uy uz uA:Addr}{x0r x0s x0t x0u x0v x0w x0x x0y x0z x0A x0B x0C x0D x0E x0F x0G x0H x0I x0J x0K uG uH uI uJ uL uM uO uP uQ uT uU uV uW uX uY uZ v0 v3 v4 v6 v7 v8 v9 va vb vc vd ve vf yX:Option Addr}{x0L x0M x0N x0O x0P x0Q x0R x0S x0T x0U vg vh vi vj vk vm vn vo vp vq vt vv vw vx vy:Array (Option Value)}{x0V x0W x0X x0Y vz x0Z x10 x11 x12 x13 vA x14 x15 x16 x17 x18 vB x19 x1a x1b x1c x1d vC x1e x1f x1g x1h x1i vD x1j x1k x1l x1m x1n vE x1o x1p x1q x1r x1s vF x1t x1u x1v x1w x1x vG x1y x1z x1A x1B x1C vH x1D x1E x1F x1G x1H vI x1I vJ vK vL vM yY vN vO vP vQ vR yZ vS vT vU vV vW u0 vX vY vZ q5 q9 u5 qc qd qf qg qh u6 qi qj qk ql qm u7 qo qp qq qr qt u8 qu qw qx qy qz u9 qC qD qE qF qG ua qH qI qJ qK qL ub qM qN qO qP qQ uc qR qS qT qU qV ud qW qX qY qZ x00 ue x01 x02 x03 x04 x05 uf x06 x07 ug uh ui yJ uj:Value}(X:K.In h)(G:h.Ns mainGlobals mg)(hfa:mg "law"=some (.ref fa))
  (yb:nsIn K mainGlobals "CleanError"=some (some (.ref x6)))
  (yU:nsIn K mainGlobals "NoRow"=some (some (.ref xU)))
  (yK:nsIn K mainGlobals "NoDisk"=some (some (.ref xw)))
  (uC:nsIn K mainGlobals "Full"=some (some (.ref y9)))
  (yu:nsIn K mainGlobals "Stopped"=some (some (.ref xi)))
  (yL:nsIn K mainGlobals "NoFile"=some (some (.ref x4)))
  (yw:nsIn K mainGlobals "NoPlace"=some (some (.ref x3)))
  (xY:nsIn K mainGlobals "HeldAlready"=some (some (.ref x8)))
  (yx:nsIn K mainGlobals "NotHeld"=some (some (.ref xj)))
  (yy:nsIn K mainGlobals "NoFiles"=some (some (.ref xk)))
  (yM:nsIn K mainGlobals "NoMark"=some (some (.ref xx)))
  (yN:nsIn K mainGlobals "NoRoom"=some (some (.ref xz)))
  (uD:nsIn K mainGlobals "Gone"=some (some (.ref ya)))
  (ye:nsIn K mainGlobals "NotClosed"=some (some (.ref x9)))
  (yl:nsIn K mainGlobals "NotBlank"=some (some (.ref xa)))
  (yO:nsIn K mainGlobals "NoDeed"=some (some (.ref xA)))
  (yA:nsIn K mainGlobals "NoHouse"=some (some (.ref xm)))
  (yt:nsIn K mainGlobals "Files"=some (some (.ref x5)))
  (a_0:nsIn K mainGlobals "is_whole"=some (some (.ref f_0)))
  (l_0:K.lookup f_0=some ⟨x0V,x0r,.func (fnOf "is_whole" "is_whole" (zO zcx) (zL zcx) (zk zcx) .none x0W x0X x0Y x0s vz x0Z),x0L⟩)
  (d_0:codeIn K vz "is_whole"=true)
  (k_0:keepIn K (.ref f_0)=true)
  (a_1:nsIn K mainGlobals "is_within"=some (some (.ref f_1)))
  (l_1:K.lookup f_1=some ⟨x10,x0t,.func (fnOf "is_within" "is_within" (zO zcm) (zL zcm) (zk zcm) .none x11 x12 x13 x0u vA x14),x0M⟩)
  (d_1:codeIn K vA "is_within"=true)
  (k_1:keepIn K (.ref f_1)=true)
  (a_2:findIn K (.ref x5) "__init__"=some (some (.ref f_2)))
  (i_2:isFn K (.ref f_2)=true)
  (l_2:K.lookup f_2=some ⟨x15,x0v,.func (fnOf "__init__" "Files.__init__" (zO zcs) (zL zcs) (zk zcs) .none x16 x17 x18 x0w vB x19),x0N⟩)
  (d_2:codeIn K vB "Files.__init__"=true)
  (k_2:keepIn K (.ref f_2)=true)
  (a_3:findIn K (.ref x5) "names"=some (some (.ref f_3)))
  (i_3:isFn K (.ref f_3)=true)
  (l_3:K.lookup f_3=some ⟨x1a,x0x,.func (fnOf "names" "Files.names" (zO zcl) (zL zcl) (zk zcl) .none x1b x1c x1d x0y vC x1e),x0O⟩)
  (d_3:codeIn K vC "Files.names"=true)
  (k_3:keepIn K (.ref f_3)=true)
  (a_4:findIn K (.ref x5) "many"=some (some (.ref f_4)))
  (i_4:isFn K (.ref f_4)=true)
  (l_4:K.lookup f_4=some ⟨x1f,x0z,.func (fnOf "many" "Files.many" (zO zcq) (zL zcq) (zk zcq) .none x1g x1h x1i x0A vD x1j),x0P⟩)
  (d_4:codeIn K vD "Files.many"=true)
  (k_4:keepIn K (.ref f_4)=true)
  (a_5:findIn K (.ref x5) "birth"=some (some (.ref f_5)))
  (i_5:isFn K (.ref f_5)=true)
  (l_5:K.lookup f_5=some ⟨x1k,x0B,.func (fnOf "birth" "Files.birth" (zO zci) (zL zci) (zk zci) .none x1l x1m x1n x0C vE x1o),x0Q⟩)
  (d_5:codeIn K vE "Files.birth"=true)
  (k_5:keepIn K (.ref f_5)=true)
  (a_6:findIn K (.ref x5) "put"=some (some (.ref f_6)))
  (i_6:isFn K (.ref f_6)=true)
  (l_6:K.lookup f_6=some ⟨x1p,x0D,.func (fnOf "put" "Files.put" (zO zbY) (zL zbY) (zk zbY) .none x1q x1r x1s x0E vF x1t),x0R⟩)
  (d_6:codeIn K vF "Files.put"=true)
  (k_6:keepIn K (.ref f_6)=true)
  (a_7:findIn K (.ref x5) "cut"=some (some (.ref f_7)))
  (i_7:isFn K (.ref f_7)=true)
  (l_7:K.lookup f_7=some ⟨x1u,x0F,.func (fnOf "cut" "Files.cut" (zO zck) (zL zck) (zk zck) .none x1v x1w x1x x0G vG x1y),x0S⟩)
  (d_7:codeIn K vG "Files.cut"=true)
  (k_7:keepIn K (.ref f_7)=true)
  (a_8:findIn K (.ref x5) "held"=some (some (.ref f_8)))
  (i_8:isFn K (.ref f_8)=true)
  (l_8:K.lookup f_8=some ⟨x1z,x0H,.func (fnOf "held" "Files.held" (zO zcv) (zL zcv) (zk zcv) .none x1A x1B x1C x0I vH x1D),x0T⟩)
  (d_8:codeIn K vH "Files.held"=true)
  (k_8:keepIn K (.ref f_8)=true)
  (a_9:findIn K (.ref x5) "living"=some (some (.ref f_9)))
  (i_9:isFn K (.ref f_9)=true)
  (l_9:K.lookup f_9=some ⟨x1E,x0J,.func (fnOf "living" "Files.living" (zO zbF) (zL zbF) (zk zbF) .none x1F x1G x1H x0K vI x1I),x0U⟩)
  (d_9:codeIn K vI "Files.living"=true)
  (k_9:keepIn K (.ref f_9)=true)
  (x1J:findIn K (.ref x5) "refuse_if_none"=some (some (.ref yT)))
  (x1K:isFn K (.ref yT)=true)
  (x1L:K.lookup yT=some ⟨vJ,uG,.func (fnOf "refuse_if_none" "Files.refuse_if_none" (zO zbU) (zL zbU) (zk zbU) .none vK vL vM uH yY vN),vg⟩)
  (x1M:codeIn K yY "Files.refuse_if_none"=true)
  (x08:keepIn K (.ref yT)=true)
  (x1N:nsIn K mainGlobals "_law_at"=some (some (.ref uk)))
  (x1O:K.lookup uk=some ⟨vO,uI,.func (fnOf "_law_at" "_law_at" (zO zcr) (zL zcr) (zk zcr) .none vP vQ vR uJ yZ vS),vh⟩)
  (x1P:codeIn K yZ "_law_at"=true)
  (x09:keepIn K (.ref uk)=true)
  (x1Q:nsIn K mainGlobals "_law_pot"=some (some (.ref ul)))
  (x1R:K.lookup ul=some ⟨vT,uL,.func (fnOf "_law_pot" "_law_pot" (zO zcU) (zL zcU) (zk zcU) .none vU vV vW uM u0 vX),vi⟩)
  (x1S:codeIn K u0 "_law_pot"=true)
  (x0a:keepIn K (.ref ul)=true)
  (x1T:nsIn K mainGlobals "_law_take"=some (some (.ref um)))
  (x1U:K.lookup um=some ⟨vY,uO,.func (fnOf "_law_take" "_law_take" (zO zcL) (zL zcL) (zk zcL) .none vZ q5 q9 uP u5 qc),vj⟩)
  (x1V:codeIn K u5 "_law_take"=true)
  (x0b:keepIn K (.ref um)=true)
  (x1W:nsIn K mainGlobals "_law_drawn"=some (some (.ref uo)))
  (x1X:K.lookup uo=some ⟨qd,uQ,.func (fnOf "_law_drawn" "_law_drawn" (zO zcK) (zL zcK) (zk zcK) .none qf qg qh uT u6 qi),vk⟩)
  (x1Y:codeIn K u6 "_law_drawn"=true)
  (x0c:keepIn K (.ref uo)=true)
  (x1Z:nsIn K mainGlobals "_law_name"=some (some (.ref uq)))
  (x21:K.lookup uq=some ⟨qj,uU,.func (fnOf "_law_name" "_law_name" (zO zbM) (zL zbM) (zk zbM) .none qk ql qm uV u7 qo),vm⟩)
  (x22:codeIn K u7 "_law_name"=true)
  (x0d:keepIn K (.ref uq)=true)
  (x23:nsIn K mainGlobals "_law_names"=some (some (.ref ur)))
  (x24:K.lookup ur=some ⟨qp,uW,.func (fnOf "_law_names" "_law_names" (zO zcQ) (zL zcQ) (zk zcQ) .none qq qr qt uX u8 qu),vn⟩)
  (x25:codeIn K u8 "_law_names"=true)
  (x0e:keepIn K (.ref ur)=true)
  (x26:nsIn K mainGlobals "_law_birth"=some (some (.ref ut)))
  (x27:K.lookup ut=some ⟨qw,uY,.func (fnOf "_law_birth" "_law_birth" (zO zcI) (zL zcI) (zk zcI) .none qx qy qz uZ u9 qC),vo⟩)
  (x28:codeIn K u9 "_law_birth"=true)
  (x0f:keepIn K (.ref ut)=true)
  (x29:nsIn K mainGlobals "_law_deed"=some (some (.ref uu)))
  (x2a:K.lookup uu=some ⟨qD,v0,.func (fnOf "_law_deed" "_law_deed" (zO zb6) (zL zb6) (zk zb6) .none qE qF qG v3 ua qH),vp⟩)
  (x2b:codeIn K ua "_law_deed"=true)
  (x0g:keepIn K (.ref uu)=true)
  (x2c:nsIn K mainGlobals "_law_due"=some (some (.ref uv)))
  (x2d:K.lookup uv=some ⟨qI,v4,.func (fnOf "_law_due" "_law_due" (zO zcR) (zL zcR) (zk zcR) .none qJ qK qL v6 ub qM),vq⟩)
  (x2e:codeIn K ub "_law_due"=true)
  (x0h:keepIn K (.ref uv)=true)
  (x2f:nsIn K mainGlobals "_law_refusal"=some (some (.ref uw)))
  (x2g:K.lookup uw=some ⟨qN,v7,.func (fnOf "_law_refusal" "_law_refusal" (zO zcH) (zL zcH) (zk zcH) .none qO qP qQ v8 uc qR),vt⟩)
  (x2h:codeIn K uc "_law_refusal"=true)
  (x0i:keepIn K (.ref uw)=true)
  (x2i:nsIn K mainGlobals "_law_told"=some (some (.ref ux)))
  (x2j:K.lookup ux=some ⟨qS,v9,.func (fnOf "_law_told" "_law_told" (zO zcO) (zL zcO) (zk zcO) .none qT qU qV va ud qW),vv⟩)
  (x2k:codeIn K ud "_law_told"=true)
  (x0j:keepIn K (.ref ux)=true)
  (x2l:nsIn K mainGlobals "_law_birth_told"=some (some (.ref uy)))
  (x2m:K.lookup uy=some ⟨qX,vb,.func (fnOf "_law_birth_told" "_law_birth_told" (zO zcn) (zL zcn) (zk zcn) .none qY qZ x00 vc ue x01),vw⟩)
  (x2n:codeIn K ue "_law_birth_told"=true)
  (x0k:keepIn K (.ref uy)=true)
  (x2o:nsIn K mainGlobals "_law_is_so"=some (some (.ref uz)))
  (x2p:K.lookup uz=some ⟨x02,vd,.func (fnOf "_law_is_so" "_law_is_so" (zO zbL) (zL zbL) (zk zbL) .none x03 x04 x05 ve uf x06),vx⟩)
  (x2q:codeIn K uf "_law_is_so"=true)
  (x0l:keepIn K (.ref uz)=true)
  (x2r:nsIn K mainGlobals "law"=some (some (.ref uA)))
  (x2s:K.lookup uA=some ⟨x07,vf,.func (fnOf "law" "law" (zO zbm) (zL zbm) (zk zbm) .none ug uh ui yX yJ uj),vy⟩)
  (x2t:codeIn K yJ "law"=true)
  (x2u:keepIn K (.ref uA)=true)
  (yc:nsIn K mainGlobals "ValueError"=some none)
  (uE:nsIn K mainGlobals "bool"=some none)
  (yP:nsIn K mainGlobals "divmod"=some none)
  (yf:nsIn K mainGlobals "enumerate"=some none)
  (x0m:nsIn K mainGlobals "int"=some none)
  (yd:nsIn K mainGlobals "isinstance"=some none)
  (x0n:nsIn K mainGlobals "len"=some none)
  (uF:nsIn K mainGlobals "list"=some none)
  (x0o:nsIn K mainGlobals "max"=some none)
  (x0p:nsIn K mainGlobals "min"=some none)
  (yV:nsIn K mainGlobals "range"=some none)
  (x0q:nsIn K mainGlobals "set"=some none)
  (yQ:nsIn K mainGlobals "sorted"=some none)
  (xZ:excIn K x6 [.type "ValueError",.type "Exception",.type "BaseException",.type "object"] "ValueError.__new__"=true)
  (y7:excIn K x4 [.type "ValueError",.type "Exception",.type "BaseException",.type "object"] "ValueError.__new__"=true)
  (xV:excIn K x3 [.type "ValueError",.type "Exception",.type "BaseException",.type "object"] "ValueError.__new__"=true)
  (yB:findIn K (.ref x4) "__getattribute__"=some (some (.builtin "BaseException.__getattribute__")))
  (yC:findIn K (.ref x4) "__getattr__"=some none)
  (ym:findIn K (.ref x4) "__class__"=some (some (.builtin "object.__class__")))
  (yD:mroIn K x4 (.type "object")=some true)
  (yE:mroIn K x4 (.type "BaseException")=some true)
  (yn:mroIn K x4 (.ref x6)=some true)
  (xg:kitOne K (.ref x4) (.type "ValueError")=some true)
  (xR:kitOne K (.ref x4) (.ref xU)=some false)
  (xL:kitOne K (.ref x4) (.ref xw)=some false)
  (xW:kitOne K (.ref x4) (.ref y9)=some false)
  (xB:kitOne K (.ref x4) (.ref xi)=some false)
  (xM:kitOne K (.ref x4) (.ref x4)=some true)
  (xC:kitOne K (.ref x4) (.ref x3)=some false)
  (xc:kitOne K (.ref x4) (.ref x8)=some false)
  (xD:kitOne K (.ref x4) (.ref xj)=some false)
  (xE:kitOne K (.ref x4) (.ref xk)=some false)
  (xN:kitOne K (.ref x4) (.ref xx)=some false)
  (xO:kitOne K (.ref x4) (.ref xz)=some false)
  (xX:kitOne K (.ref x4) (.ref ya)=some false)
  (xn:kitOne K (.ref x4) (.ref x9)=some false)
  (xp:kitOne K (.ref x4) (.ref xa)=some false)
  (xP:kitOne K (.ref x4) (.ref xA)=some false)
  (xF:kitOne K (.ref x4) (.ref xm)=some false)
  (yo:findIn K (.ref x3) "__getattribute__"=some (some (.builtin "BaseException.__getattribute__")))
  (yp:findIn K (.ref x3) "__getattr__"=some none)
  (yg:findIn K (.ref x3) "__class__"=some (some (.builtin "object.__class__")))
  (yq:mroIn K x3 (.type "object")=some true)
  (yr:mroIn K x3 (.type "BaseException")=some true)
  (yh:mroIn K x3 (.ref x6)=some true)
  (xf:kitOne K (.ref x3) (.type "ValueError")=some true)
  (xQ:kitOne K (.ref x3) (.ref xU)=some false)
  (xG:kitOne K (.ref x3) (.ref xw)=some false)
  (xS:kitOne K (.ref x3) (.ref y9)=some false)
  (xq:kitOne K (.ref x3) (.ref xi)=some false)
  (xH:kitOne K (.ref x3) (.ref x4)=some false)
  (xr:kitOne K (.ref x3) (.ref x3)=some true)
  (xb:kitOne K (.ref x3) (.ref x8)=some false)
  (xt:kitOne K (.ref x3) (.ref xj)=some false)
  (xu:kitOne K (.ref x3) (.ref xk)=some false)
  (xI:kitOne K (.ref x3) (.ref xx)=some false)
  (xJ:kitOne K (.ref x3) (.ref xz)=some false)
  (xT:kitOne K (.ref x3) (.ref ya)=some false)
  (xh:kitOne K (.ref x3) (.ref x9)=some false)
  (xo:kitOne K (.ref x3) (.ref xa)=some false)
  (xK:kitOne K (.ref x3) (.ref xA)=some false)
  (xv:kitOne K (.ref x3) (.ref xm)=some false)
  (yi:plainGet K x5 Str.empty=true)
  (y8:hasDictIn K x5=true)
  (yj:plainOver K x5=true)
  (yk:findIn K (.ref x5) "__setattr__"=some (some (.builtin "object.__setattr__")))
  (yR:makesIn K x5=true)
  (yS:keepIn K (.ref x5)=true)
  (yF:findIn K (.ref x5) "births"=some none)
  (yW:findIn K (.ref x5) "kept"=some none)
  (isg:specialIn K (.builtin "object.__class__") "__get__"=some (some (.builtin "getset_descriptor.__get__")))
  (ist:takesIn K (.builtin "object.__class__")=some true)
  (yG:findIn K (.ref x5) "__class__"=some (some (.builtin "object.__class__")))
  (yH:mroIn K x5 (.type "object")=some true)
  (yI:kitOne K (.ref x5) (.ref x5)=some true) :
  ∃fd:FuncData,(∀(s:Shared)(v:Value),BindsTo s fd ⟨[v],[]⟩ [("_law_script",v)])/\∀base:Heap,K.In base->base.Ns mainGlobals mg->zr l.prog w K mg base CX0 true 9 fa fd ["_law_script"] (zeq K):=by
 have e:=hfa.symm.trans (mg_of X G x2r)
 cases e
 have T:Txt K mg ⟨x6,xU,xw,y9,xi,x4,x3,x8,xj,xk,xx,xz,ya,x9,xa,xA,xm,x5⟩:=⟨mg_none_of X G yc,mg_none_of X G uE,mg_none_of X G yP,mg_none_of X G yf,mg_none_of X G x0m,mg_none_of X G yd,mg_none_of X G x0n,mg_none_of X G uF,mg_none_of X G x0o,mg_none_of X G x0p,mg_none_of X G yV,mg_none_of X G x0q,mg_none_of X G yQ,mg_of X G yb,mg_of X G yU,mg_of X G yK,mg_of X G uC,mg_of X G yu,mg_of X G yL,mg_of X G yw,mg_of X G xY,mg_of X G yx,mg_of X G yy,mg_of X G yM,mg_of X G yN,mg_of X G uD,mg_of X G ye,mg_of X G yl,mg_of X G yO,mg_of X G yA,mg_of X G yt,xZ,y7,xV,⟨y7,yB,yC,ym,yD,yE⟩,yn,xg,xR,xL,xW,xB,xM,xC,xc,xD,xE,xN,xO,xX,xn,xp,xP,xF,⟨xV,yo,yp,yg,yq,yr⟩,yh,xf,xQ,xG,xS,xq,xH,xr,xb,xt,xu,xI,xJ,xT,xh,xo,xK,xv,⟨yi,y8,yj,yk⟩,yF,yW,λH a dx fs e=>.of (.ins e ⟨yi,y8,yj,yk⟩ yG isg ist yH),yI⟩
 have Fis_whole:=zW (st:=zcx) l_0 d_0 k_0
 have bis_whole:=Fis_whole.binds (ps:=["value"]) fun|_,_,_,_,_,_,[_],_=>rfl
 have Fis_within:=zW (st:=zcm) l_1 d_1 k_1
 have bis_within:=Fis_within.binds (ps:=["value","least","most"]) fun|_,_,_,_,_,_,[_,_,_],_=>rfl
 have FFiles___init__:=zW (st:=zcs) l_2 d_2 k_2
 have bFiles___init__:=FFiles___init__.binds (ps:=["self"]) fun|_,_,_,_,_,_,[_],_=>rfl
 have FFiles_names:=zW (st:=zcl) l_3 d_3 k_3
 have bFiles_names:=FFiles_names.binds (ps:=["self"]) fun|_,_,_,_,_,_,[_],_=>rfl
 have FFiles_many:=zW (st:=zcq) l_4 d_4 k_4
 have bFiles_many:=FFiles_many.binds (ps:=["self","file"]) fun|_,_,_,_,_,_,[_,_],_=>rfl
 have FFiles_birth:=zW (st:=zci) l_5 d_5 k_5
 have bFiles_birth:=FFiles_birth.binds (ps:=["self","file","place"]) fun|_,_,_,_,_,_,[_,_,_],_=>rfl
 have FFiles_put:=zW (st:=zbY) l_6 d_6 k_6
 have bFiles_put:=FFiles_put.binds (ps:=["self","file","place","birth"]) fun|_,_,_,_,_,_,[_,_,_,_],_=>rfl
 have FFiles_cut:=zW (st:=zck) l_7 d_7 k_7
 have bFiles_cut:=FFiles_cut.binds (ps:=["self","file","many"]) fun|_,_,_,_,_,_,[_,_,_],_=>rfl
 have FFiles_held:=zW (st:=zcv) l_8 d_8 k_8
 have bFiles_held:=FFiles_held.binds (ps:=["self"]) fun|_,_,_,_,_,_,[_],_=>rfl
 have FFiles_living:=zW (st:=zbF) l_9 d_9 k_9
 have bFiles_living:=FFiles_living.binds (ps:=["self"]) fun|_,_,_,_,_,_,[_],_=>rfl
 have FFiles_refuse_if_none:=zW (st:=zbU) x1L x1M x08
 have bFiles_refuse_if_none:=FFiles_refuse_if_none.binds (ps:=["self","file"]) fun|_,_,_,_,_,_,[_,_],_=>rfl
 have F_law_at:=zW (st:=zcr) x1O x1P x09
 have b_law_at:=F_law_at.binds (ps:=["_law_script","_law_k"]) fun|_,_,_,_,_,_,[_,_],_=>rfl
 have F_law_pot:=zW (st:=zcU) x1R x1S x0a
 have b_law_pot:=F_law_pot.binds (ps:=["_law_script","_law_k"]) fun|_,_,_,_,_,_,[_,_],_=>rfl
 have F_law_take:=zW (st:=zcL) x1U x1V x0b
 have b_law_take:=F_law_take.binds (ps:=["_law_pot_here","_law_many"]) fun|_,_,_,_,_,_,[_,_],_=>rfl
 have F_law_drawn:=zW (st:=zcK) x1X x1Y x0c
 have b_law_drawn:=F_law_drawn.binds (ps:=["_law_pot_here","_law_some"]) fun|_,_,_,_,_,_,[_,_],_=>rfl
 have F_law_name:=zW (st:=zbM) x21 x22 x0d
 have b_law_name:=F_law_name.binds (ps:=["_law_pot_here"]) fun|_,_,_,_,_,_,[_],_=>rfl
 have F_law_names:=zW (st:=zcQ) x24 x25 x0e
 have b_law_names:=F_law_names.binds (ps:=["_law_pot_here"]) fun|_,_,_,_,_,_,[_],_=>rfl
 have F_law_birth:=zW (st:=zcI) x27 x28 x0f
 have b_law_birth:=F_law_birth.binds (ps:=["_law_pot_here"]) fun|_,_,_,_,_,_,[_],_=>rfl
 have F_law_deed:=zW (st:=zb6) x2a x2b x0g
 have b_law_deed:=F_law_deed.binds (ps:=["_law_pot_here","_law_names_here","_law_model"]) fun|_,_,_,_,_,_,[_,_,_],_=>rfl
 have F_law_due:=zW (st:=zcR) x2d x2e x0h
 have b_law_due:=F_law_due.binds (ps:=["_law_model","_law_deed_here"]) fun|_,_,_,_,_,_,[_,_],_=>rfl
 have F_law_refusal:=zW (st:=zcH) x2g x2h x0i
 have b_law_refusal:=F_law_refusal.binds (ps:=["_law_e"]) fun|_,_,_,_,_,_,[_],_=>rfl
 have F_law_told:=zW (st:=zcO) x2j x2k x0j
 have b_law_told:=F_law_told.binds (ps:=["_law_files","_law_deed_here"]) fun|_,_,_,_,_,_,[_,_],_=>rfl
 have F_law_birth_told:=zW (st:=zcn) x2m x2n x0k
 have b_law_birth_told:=F_law_birth_told.binds (ps:=["_law_files","_law_file","_law_place"]) fun|_,_,_,_,_,_,[_,_,_],_=>rfl
 have F_law_is_so:=zW (st:=zbL) x2p x2q x0l
 have b_law_is_so:=F_law_is_so.binds (ps:=["_law_files","_law_names_here","_law_model"]) fun|_,_,_,_,_,_,[_,_,_],_=>rfl
 have Flaw:=zW (st:=zbm) x2s x2t x2u
 have blaw:=Flaw.binds (ps:=["_law_script"]) fun|_,_,_,_,_,_,[_],_=>rfl
 refine ⟨fnOf "law" "law" (zO zbm) (zL zbm) (zk zbm) .none ug uh ui yX yJ uj,λs v=>.of_eq rfl,λbase _ _=>?_⟩
 have Gh:GF l.prog w K mg base true 1 "is_whole" ["value"] (ze9):=⟨_,_,zsi Fis_whole T,mg_of X G a_0,k_0,bis_whole⟩
 have Gd:GF l.prog w K mg base true 2 "is_within" ["value","least","most"] (zc7):=⟨_,_,zn7 Fis_within T Gh,mg_of X G a_1,k_1,bis_within⟩
 have Gi:GF l.prog w K mg base true 1 "_law_at" ["_law_script","_law_k"] (zgA K):=⟨_,_,zqj F_law_at T,mg_of X G x1N,x09,b_law_at⟩
 have Gk:GF l.prog w K mg base true 2 "_law_pot" ["_law_script","_law_k"] (zf0 K):=⟨_,_,zla F_law_pot T Gi,mg_of X G x1Q,x0a,b_law_pot⟩
 have Gb:GF l.prog w K mg base true 1 "_law_take" ["_law_pot_here","_law_many"] (zbk):=⟨_,_,zm3 F_law_take T,mg_of X G x1T,x0b,b_law_take⟩
 have Gc:GF l.prog w K mg base true 2 "_law_drawn" ["_law_pot_here","_law_some"] (zdk):=⟨_,_,zsZ F_law_drawn T Gb,mg_of X G x1W,x0c,b_law_drawn⟩
 have Gg:GF l.prog w K mg base true 3 "_law_birth" ["_law_pot_here"] (zeZ):=⟨_,_,znM F_law_birth T Gb Gc,mg_of X G x26,x0f,b_law_birth⟩
 have Gj:GF l.prog w K mg base true 3 "_law_name" ["_law_pot_here"] (zeV):=⟨_,_,zqF F_law_name T Gb Gc,mg_of X G x1Z,x0d,b_law_name⟩
 have Gm:GF l.prog w K mg base true 4 "_law_names" ["_law_pot_here"] (zgv):=⟨_,_,zri F_law_names T Gb Gj,mg_of X G x23,x0e,b_law_names⟩
 have Gn:GC l.prog w K mg base true 1 "Files" x5 ["self"] (zfN _):=⟨_,_,zoF FFiles___init__ T,mg_of X G yt,⟨yR,a_2,i_2,yS⟩,bFiles___init__⟩
 have M_Files_names:GM l.prog w K mg base true 1 x5 "names" ["self"] (zgg _):=⟨_,_,zpU FFiles_names T,⟨a_3,i_3,k_3⟩,bFiles_names⟩
 have M_Files_many:GM l.prog w K mg base true 1 x5 "many" ["self","file"] (zcT _):=⟨_,_,zli FFiles_many T,⟨a_4,i_4,k_4⟩,bFiles_many⟩
 have M_Files_refuse_if_none:GMX l.prog w K mg base true 1 x5 "refuse_if_none" ["self","file"] (zdP _):=⟨_,_,zlN FFiles_refuse_if_none T,⟨x1J,x1K,x08⟩,bFiles_refuse_if_none⟩
 have M_Files_birth:GMX l.prog w K mg base true 4 x5 "birth" ["self","file","place"] (ze1 _):=⟨_,_,zk6 FFiles_birth T M_Files_refuse_if_none M_Files_many Gd,⟨a_5,i_5,k_5⟩,bFiles_birth⟩
 have M_Files_put:GMX l.prog w K mg base true 4 x5 "put" ["self","file","place","birth"] (zgd _):=⟨_,_,zqJ FFiles_put T M_Files_many Gd,⟨a_6,i_6,k_6⟩,bFiles_put⟩
 have M_Files_cut:GMX l.prog w K mg base true 4 x5 "cut" ["self","file","many"] (zgE _):=⟨_,_,zo6 FFiles_cut T M_Files_refuse_if_none M_Files_many Gd,⟨a_7,i_7,k_7⟩,bFiles_cut⟩
 have M_Files_held:GM l.prog w K mg base true 1 x5 "held" ["self"] (ze3 _):=⟨_,_,zlT FFiles_held T,⟨a_8,i_8,k_8⟩,bFiles_held⟩
 have M_Files_living:GM l.prog w K mg base true 1 x5 "living" ["self"] (zgi _):=⟨_,_,zrN FFiles_living T,⟨a_9,i_9,k_9⟩,bFiles_living⟩
 have Ge:GF l.prog w K mg base false 1 "_law_refusal" ["_law_e"] (zeb K _):=⟨_,_,znf F_law_refusal T,mg_of X G x2f,x0i,b_law_refusal⟩
 have Gf:GF l.prog w K mg base true 5 "_law_birth_told" ["_law_files","_law_file","_law_place"] (zc4 _):=⟨_,_,zsl F_law_birth_told T M_Files_birth Ge,mg_of X G x2l,x0k,b_law_birth_told⟩
 have Go:GF l.prog w K mg base true 4 "_law_deed" ["_law_pot_here","_law_names_here","_law_model"] (zfo):=⟨_,_,zrL F_law_deed T Gb Gc Gg,mg_of X G x29,x0g,b_law_deed⟩
 have Gq:GF l.prog w K mg base true 1 "_law_due" ["_law_model","_law_deed_here"] (zfP):=⟨_,_,zlq F_law_due T,mg_of X G x2c,x0h,b_law_due⟩
 have Gp:GF l.prog w K mg base true 5 "_law_told" ["_law_files","_law_deed_here"] (zf8 _):=⟨_,_,zmS F_law_told T M_Files_put M_Files_cut Ge,mg_of X G x2i,x0j,b_law_told⟩
 have Gr:GF l.prog w K mg base true 6 "_law_is_so" ["_law_files","_law_names_here","_law_model"] (zeQ _):=⟨_,_,zkP F_law_is_so T M_Files_names M_Files_many Gf M_Files_living,mg_of X G x2o,x0l,b_law_is_so⟩
 exact zsT Flaw T Gk Gm Gn Gb Go Gp Gq Gr M_Files_held
theorem walk{l:OpenLaw}{q:Program}{loose:List Str}{XP:(Str->Option Value)->Heap->Prop}{YP:World->Heap->Prop}{d:DefRec}{K:Params->Frag}(hn:l.most=some 63)(hdf:d.params.defaults=[])
  (hY:∀(w:World)(h:Heap),YP w h->(K w.params).In h)
  (F:∀(w:World)(mg:Str->Option Value)(fa:Addr)(h:Heap),(K w.params).In h->h.Ns mainGlobals mg->mg d.name=some (.ref fa) ->
   ∃fd:FuncData,(∀(s:Shared)(u:Value),BindsTo s fd ⟨[u],[]⟩ [("_law_script",u)])/\∀base:Heap,(K w.params).In base->base.Ns mainGlobals mg->zr l.prog w (K w.params) mg base CX0 true 9 fa fd ["_law_script"] (zeq (K w.params))) :
  WalkO q loose XP YP l.row.toRowW d [] (λf vs=>PySem.call f vs) :=
 L2.walk_of (n:=63) (k:=9) (x:="_law_script") (CX:=λ_=>CX0) (sp:=λw=>zeq (K w.params)) hn (by decide) hdf ⟨λ_=>rfl,by decide,by decide,rfl⟩ hY F (λ_ _ a ns hl _ hS=>⟨a,ns,rfl,hS,hl,λ_=>rfl⟩) λ_ _ _ _ _ z=>z
end K21
namespace PySem.W.Fast
def tw5798112439644494313:=0
def tw472678218907423444:=0
def tw2442579682354871422:=0
def tw1319131218014795943:=0
def tw2932880057786800749:=0
def tw8433003369248485521:=0
def tw11841520832331577858:=0
def tw16287773263530450592:=0
def tw14394399258599608326:=0
def tw12811088507187014170:=0
def tw1519583528359389452:=0
def tw6433912570644248452:=0
def tw10593614924184026244:=0
def tw6483060004181700979:=0
def tw9200653682063415190:=0
def tw4359495896299404263:=0
def tw17929899395151595787:=0
def tw6050050333405842083:=0
def tw2183774161177377723:=0
def tw3077680129414588681:=0
def tw11099785589315015167:=0
def tw11507451096770696886:=0
def tw10627472873248036818:=0
def tw4574473689107600869:=0
def tw8671774404959730521:=0
def tw12589158628639921994:=0
def tw7123615455125528528:=0
def tw15042924622390889738:=0
def tw11550092292679727031:=0
def tw2524445551184849494:=0
def tw4958722885454742815:=0
def tw15854619437904533182:=0
def tw4509539419912329360:=0
def tw10964437434500271438:=0
def tw10251584484746281135:=0
def tw10530456333128171528:=0
def tw14321477302601425156:=0
def tw3759472582647287927:=0
def tw5007612301182742253:=0
def tw5793071965361721480:=0
def tw4416990744902280077:=0
def tw13577751237987948265:=0
def tw2164675209893761373:=0
def tw5373938685361009600:=0
def tw14202430941195613379:=0
def tw18436778245062687263:=0
def tw16309653735669459409:=0
def tw9753936315942697709:=0
def tw16579999700233985742:=0
def tw13477380824915411817:=0
def tw14774806355741262309:=0
def tw7577833127607101329:=0
def tw10642813781114253319:=0
def tw355244420127752369:=0
def tw11250019157665054713:=0
def tw14379347792162462838:=0
def tw5659324037094827130:=0
def tw3974798341041411274:=0
def tw16304567786483680828:=0
def tw17200938018982566279:=0
def tw17612123165366380691:=0
def tw6307698278027249446:=0
def tw13998627932343404230:=0
def tw10602724271472072382:=0
def tw15699758095516109517:=0
def tw6398931098110250570:=0
def tw18161593411629791903:=0
def tw15822479595451188534:=0
def tw3008151440993527668:=0
def tw9034315432172519328:=0
def tw14562274098179429407:=0
def tw11841002777917300938:=0
def tw10891746580908082885:=0
def tw17415117224891180912:=0
def tw109532129604661037:=0
def tw16527167597272641081:=0
def tw2847037852169476055:=0
def tw6135086631657278901:=0
def tw17113534985703129065:=0
def tw17846627197777188411:=0
def tw2501969164456093625:=0
def tw8041342365856397233:=0
def tw5853044096856628214:=0
def tw17499596823291618396:=0
def tw3599443549905106962:=0
def tw2226920944101204575:=0
def tw9595138069808675787:=0
def tw17129718668415276058:=0
def tw10377885495235949211:=0
def tw6013293698157313305:=0
def tw6415833671966459393:=0
def tw5905990864197318930:=0
def tw7471799184677911361:=0
def tw15267669582748491840:=0
def tw14072984975878249438:=0
def tw8434076997903367180:=0
def tw3094189111555704657:=0
def tw1592259355529694427:=0
def tw11392141338250534375:=0
def tw11892253175272446512:=0
def tw18349579538556138846:=0
def tw4219058380278933909:=0
def tw12829639889265597581:=0
def tw6219021458136222866:=0
def tw1862965223157091401:=0
def tw8387252282010920960:=0
def tw17668080381433861838:=0
def tw7555963085690972302:=0
def tw4430588570830969390:=0
def tw13523759082293576780:=0
def tw12441043363603881486:=0
def tw17228916281082981793:=0
def tw11471728113191965212:=0
def tw8238570085118474082:=0
def tw2240171387232790671:=0
def tw14857784912304174502:=0
def tw12045701407440088500:=0
def tw14280602279346709217:=0
def tw7241868704810741780:=0
def tw8195897946545153840:=0
def tw2949310415607895610:=0
def tw10593361122584731044:=0
end PySem.W.Fast
open PySem PySem.W PyProof.Rows
set_option maxRecDepth 100000 in
set_option maxHeartbeats 0 in
theorem PySem.Challenge.cw_cleanrows_k21_whole_put_and_cut_holds : PySem.Challenge.rw_cleanrows_k21_whole_put_and_cut.Holds := by
 w_on;o_law;k_head;(case hw=>w_witness2)
 k_fill
 refine K21.walk (l:=PySem.Challenge.rw_cleanrows_k21_whole_put_and_cut) rfl rfl (λw h Y=>PySem.W.kIn_of Y) ?F
 case F =>
  intro w mg fa h KX G hmg
  refine' K21.all_mk KX G hmg ..
  all_goals first|k_is|kit_is|k_exc|rfl|decide +kernel|skip
