import PyProof.Rows.All
import Wide.All
import OpenK.AllK
import Wide.FinOn
import Lean
import PyProof.EqAt
import PyProof.EqKinds
import PyProof.TupleCall
import KE.KUnpack
import PyProof.NeKinds
import PyProof.EnumFor
import PyProof.EnumStmt
import PyProof.EnumMake
import PyProof.Draws
import PyProof.StrWalks
import PyProof.Rows.FStr
import PyProof.Rows.CallKw2
import PyProof.StrBlockL
import KE.KIntText
import PyProof.ConsumeWalk
import PyProof.StrBlockG
import PyProof.CallStr
import PyProof.Rows.Range3
import PyProof.MeetsDict
import PyProof.DictList
import PyProof.StrLawsChain
import PyProof.StrLawsNeg
import KE.IntTextLaws
import KE.IntTextText
import PyProof.CallFns
import PyProof.CompUse
import PyProof.DictWalks
import KE.KDictSum
import PyProof.FString5
import KE.KLam
import KE.KSortKey
import KE.KNestM
import PyProof.Rows.RuleN_abs
import PyProof.WalkInts
import KE.KMinKey
import KE.KSortTup
import PyProof.DictCompW
import PyProof.SetRoads
import PyProof.SetNew
import KE.KEqDict
import PyProof.ListRange
import PySem.Challenge.RW_cleanrows_k31_states_told
local macro_rules | `(f!$_)=>`(by decide +kernel)
open PySem.W (instObj methodObj lookIn plainGet hasDictIn handedIn plainGet_of isFn plainOver takerIn makesIn emptyDict keepIn methodCall_KW callWith_K callWith_K0 fnOf codeIn excIn clsIn nsIn mg_of mg_none_of)
open List (mem_filter mem_range mem_cons_self mem_cons_of_mem mem_cons mem_append mem_append_left mem_append_right size_toArray length_cons map_cons length_map append_nil nodup_cons replicate length length_take getElem?_map mem_of_getElem? length_append length_drop any_cons replicate_succ flatten_cons foldl length_singleton map_nil lookup_cons all_eq_true getD_eq_getElem?_getD map_congr_left mem_singleton take_of_length_le getElem_mem any_map getElem_of_mem find?_cons length_nil filter_cons pairwise_cons Perm map_map map_append length_eq_zero_iff mem_map length_range not_mem_nil map_take foldl_append take_add_one flatMap_append length_take_le')
open PySem.Heap (lt_size SameBut get?_push_of_some get?_push_size size_push get?_update_self get?_update_other ExtBut)
open Nat (lt_of_lt_of_le lt_irrefl ne_of_lt le_trans le_of_lt ne_of_gt le_refl zero_le le_of_eq lt_succ_self le_succ lt_succ_of_lt lt_trans lt_of_succ_lt le_succ_of_le)
open Array (length_toList getElem?_toList toArray_toList getD getD_eq_getD_getElem?)
open Option (isSome_iff_exists getD_none isSome_map map_eq_some_iff)
open Bool (and_eq_true false_eq_true not_eq_true')
open Int (toNat_natCast)
open PySem.Value (float type builtin)
open PyProof.Rows (KeyOrd)
open PySem.F (slot_tuple_add entry_tuple_add args_tuple_add_2 plainAttrs_list slot_dict_get entry_dict_get plainAttrs_dict slot_dict_values)
open PySem.Obj (mapSeq)
set_option Elab.async false
set_option linter.all false
set_option maxRecDepth 100000
namespace L2
open PySem PySem.Spec PyProof.Rows
abbrev Key:=Sum Int Str
def zbu:Key->Value->Bool
 | .inl k,v=>Value.isInt k v
 | .inr x,v=>Value.isStrOf x v
def zk5(w:World):Key->Int
 | .inl k=>hashInt k
 | .inr x=>hashStr w x
theorem zbb:∀{k:Key}{v:Value},zbu k v=true->(∃i t,k=Sum.inl i/\v=Value.int i t)\/(∃x t,k=Sum.inr x/\v=Value.str x t)
 | .inl i,v,h=>by
  obtain ⟨t,e⟩:=Value.isInt_shape (k:=i) (v:=v) h
  exact .inl ⟨i,t,rfl,e⟩
 | .inr x,v,h=>by
  obtain ⟨t,e⟩:=Value.isStrOf_shape (x:=x) (v:=v) h
  exact .inr ⟨x,t,rfl,e⟩
theorem zoB(i:Int)(t:Tok):zbu (.inl i) (.int i t)=true:=by simp [zbu,Value.isInt]
theorem zn4(x:Str)(t:Tok):zbu (.inr x) (.str x t)=true:=by simp [zbu,Value.isStrOf]
theorem zmR(a b:Int):decide ((Sum.inl a:Key)=Sum.inl b)=(a==b):=by
 by_cases e:a=b
 ·subst e;simp
 ·have h : ¬ (Sum.inl a:Key)=Sum.inl b:=λq=>e (Sum.inl.inj q)
  rw [decide_eq_false h]
  exact (beq_eq_false_iff_ne.mpr e).symm
theorem zty(a b:Str):decide ((Sum.inr a:Key)=Sum.inr b)=decide (a=b):=by
 by_cases e:a=b
 ·subst e;simp
 ·have h : ¬ (Sum.inr a:Key)=Sum.inr b:=λq=>e (Sum.inr.inj q)
  rw [decide_eq_false h,decide_eq_false e]
theorem zoX(a:Int)(b:Str):decide ((Sum.inl a:Key)=Sum.inr b)=false:=decide_eq_false (λq=>nomatch q)
theorem zpn(a:Str)(b:Int):decide ((Sum.inr a:Key)=Sum.inl b)=false:=decide_eq_false (λq=>nomatch q)
def zW(prog:Program)(w:World):PySem.KeyKind prog w Key where
 is:=zbu
 hash:=zk5 w
 inj:=λv a b ha hb=>by
  rcases zbb ha with ⟨i,t,rfl,rfl⟩|⟨x,t,rfl,rfl⟩
  ·rcases zbb hb with ⟨j,u,rfl,e⟩|⟨y,u,rfl,e⟩
   ·injection e with e1 _;rw [e1]
   ·exact nomatch e
  ·rcases zbb hb with ⟨j,u,rfl,e⟩|⟨y,u,rfl,e⟩
   ·exact nomatch e
   ·injection e with e1 _;rw [e1]
 byValue:=λk v h=>by
  rcases zbb h with ⟨i,t,rfl,rfl⟩|⟨x,t,rfl,rfl⟩<;>rfl
 pyHash:=λhv h=>by
  rcases zbb hv with ⟨i,t,rfl,rfl⟩|⟨x,t,rfl,rfl⟩
  ·exact wpAny_pyHash_int h
  ·exact wpAny_pyHash_str h
 eqBool:=λhu hv h=>by
  rcases zbb hu with ⟨i,t,rfl,rfl⟩|⟨x,t,rfl,rfl⟩
  ·rcases zbb hv with ⟨j,u,rfl,rfl⟩|⟨y,u,rfl,rfl⟩
   ·rw [zmR] at h;exact wpAny_eqBool_int h
   ·rw [zoX] at h;exact SeqAt.EqAt.int_str i t y u _ _ _ _ h
  ·rcases zbb hv with ⟨j,u,rfl,rfl⟩|⟨y,u,rfl,rfl⟩
   ·rw [zpn] at h;exact SeqAt.EqAt.str_int x t j u _ _ _ _ h
   ·rw [zty] at h;exact wpAny_eqBool_str h
 «strs»:=λk x t v h=>by
  rcases zbb h with ⟨i,u,rfl,e⟩|⟨y,u,rfl,e⟩
  ·exact nomatch e
  ·injection e with e1 _
   subst e1
   cases v<;>rfl
theorem zu3(prog:Program)(w:World)(i:Int)(t:Tok):(zW prog w).is (.inl i) (.int i t)=true:=zoB i t
theorem zqi(prog:Program)(w:World)(x:Str)(t:Tok):(zW prog w).is (.inr x) (.str x t)=true:=zn4 x t
inductive V where
 | non|bl (b:Bool)|int (i:Int)|str (x:Str)|byt (b:Array UInt8)|flt (b:UInt64)|ref (a:Addr)|ty (n:String)
 deriving DecidableEq
def zm:V->Value->Prop
 | .non,u=>u=Value.none
 | .bl b,u=>u=Value.bool b
 | .int i,u=>∃t,u=Value.int i t
 | .str x,u=>∃t,u=Value.str x t
 | .byt b,u=>∃t,u=Value.bytes b t
 | .flt b,u=>∃t,u=float b t
 | .ref a,u=>u=Value.ref a
 | .ty n,u=>u=type n
abbrev zi:List V->List Value->Prop:=Paired zm
theorem zi.length{xs:List V}{us:List Value}(r:zi xs us):xs.length=us.length:=Paired.length r
theorem zi.get:∀{xs:List V}{us:List Value}{i:Nat}{x:V},zi xs us->xs[i]?=some x->∃u,us[i]?=some u/\zm x u
 | _,_,_,_,.nil,e=>by simp at e
 | _,_,0,_,.cons r _,e=>by simp at e;subst e;exact ⟨_,rfl,r⟩
 | _,_,i+1,x,.cons _ t,e=>by
  obtain ⟨u,h1,h2⟩:=zi.get (i:=i) (x:=x) t (by simpa using e)
  exact ⟨u,by simpa using h1,h2⟩
theorem zi.set{x:V}{u:Value}(r:zm x u):∀{xs:List V}{us:List Value}(i:Nat),zi xs us->zi (xs.set i x) (us.set i u)
 | _,_,_,.nil=>.nil
 | _,_,0,.cons _ t=>.cons r t
 | _,_,i+1,.cons q t=>.cons q (zi.set r i t)
theorem zi.append:∀{xs ys:List V}{us ws:List Value},zi xs us->zi ys ws->zi (xs++ys) (us++ws)
 | _,_,_,_,.nil,s=>s
 | _,_,_,_,.cons r t,s=>.cons r (zi.append t s)
theorem zi.take:∀{xs:List V}{us:List Value}(n:Nat),zi xs us->zi (xs.take n) (us.take n)
 | _,_,0,_=>.nil
 | _,_,_+1,.nil=>.nil
 | _,_,n+1,.cons r t=>.cons r (zi.take n t)
theorem zi.drop:∀{xs:List V}{us:List Value}(n:Nat),zi xs us->zi (xs.drop n) (us.drop n)
 | _,_,0,r=>r
 | _,_,_+1,.nil=>.nil
 | _,_,n+1,.cons _ t=>zi.drop n t
def zat:Option V->Option Value->Prop
 | some v,some u=>zm v u
 | none,none=>True
 | _,_=>False
def KV{κ:Type}:List (κ×V)->List (κ×Value)->Prop:=Paired λ(p:κ×V)(q:κ×Value)=>p.1=q.1/\zm p.2 q.2
def kV:Key->V
 | .inl i=>.int i
 | .inr x=>.str x
inductive HO where
 | lst (xs:List V)
 | tup (xs:List V)
 | dK (kvs:List (Key×V))|dT (kvs:List (List Key×V))
 | set (S:Int->Bool) (n:Nat)
 | ins (C dx:Addr) (fs:List (Str×V))
 | own (x:Addr)
 | xd (fs:List (Str×V))
 | met (f x:Addr)
 | rng (lo hi:Int)
 | frz (o:Obj) (u:HO)
 | tbl (ps:Array Value)
 | ext (φ:Heap->Prop)
abbrev Hp:=Addr->Option HO
def upd(H:Hp)(a:Addr)(o:HO):Hp:=λb=>if b=a then some o else H b
theorem zp{H:Hp}{a:Addr}{o:HO}:upd H a o a=some o:=by unfold upd;rw [if_pos rfl]
theorem ze{H:Hp}{a b:Addr}{o:HO}(h:b≠a):upd H a o b=H b:=by unfold upd;rw [if_neg h]
theorem zj8{H:Hp}{a:Addr}{o u:HO}:upd (upd H a o) a u=upd H a u:=by
 funext b;unfold upd;split<;>rfl
theorem zt9{H:Hp}{a b:Addr}{o u:HO}(h:H a=some o)(h':H b=some u)(d:o≠u):a≠b:=by
 intro e;subst e;rw [h] at h';exact d (Option.some.inj h')
theorem zD{H:Hp}{a b:Addr}{o:HO}(h:H a=some o)(h':H b=none):a≠b:=by
 intro e;subst e;rw [h] at h';cases h'
section
variable (P:Program) (w:World)
def zV(H:Hp)(h:Heap)(a:Addr):HO->Prop
 | .lst xs=>xs.length<=sizeLine/\∃(its:List Value)(n:Nat),zi xs its/\h.get? a=some { cls:=.type "list",data:=.seq its.toArray n }
 | .tup xs=>xs.length<=sizeLine/\∃its:List Value,zi xs its/\IsTup h a its.toArray
 | .dK kvs=>kvs.length<=sizeLine/\(a==sysModules)=false/\∃vs,KV kvs vs/\h.DictOf (zW P w) a vs
 | .dT kvs=>kvs.length<=sizeLine/\(a==sysModules)=false/\∃xs:List (List Key×Addr×Value),
   Paired (λ(p:List Key×V)(q:List Key×Addr×Value)=>p.1=q.1/\H q.2.1=some (.tup (p.1.map kV))/\zm p.2 q.2.2) kvs xs /\
   ∃o es ep,h.get? a=some o/\o.ExactDict/\o.data = .dict es ep/\es.toList=xs.map (entryOfKey (tupleKind (zW P w)))/\(xs.map (·.1)).Nodup
 | .set S n=>h.SetOf (intKind P w) a S n
 | .ins C dx fs=>H dx=some (.own a)/\fs.length<=1000/\dx≠a/\h.get? a=some (instObj C dx) /\
   ∃mA,h.Ns1 dx mA/\(∀f,zat (fs.lookup f) (mA f))/\PySem.Within mA (fs.map (·.1))
 | .own _=>∃o,h.get? a=some o
 | .xd fs=>∃mA,h.Ns1 a mA/\∀f,zat (fs.lookup f) (mA f)
 | .rng lo hi=>∃t u v,h.get? a=some { cls:=.type "range",data:=.fields #[.int lo t,.int hi u,.int 1 v] }
 | .frz o u=>h.get? a=some o/\zV H h a u
 | .tbl ps=>h.get? a=some { cls:=.none,data:=.fields ps }
 | .met f x=>h.get? a=some (methodObj (.ref f) (.ref x))
 | .ext φ=>φ h/\(∃o,h.get? a=some o)/\∀h1 h2:Heap,φ h1->(∀o,h1.get? a=some o->h2.get? a=some o)->φ h2
def HOk(H:Hp)(h:Heap):Prop:=∀a o,H a=some o->zV P w H h a o
end
section
variable {P:Program}{w:World}{H H':Hp}{h h':Heap}{a:Addr}{o:HO}
theorem zV.lt(x:zV P w H h a o):a<h.objs.size:=by
 cases o with
 | lst xs=>obtain ⟨_,_,_,_,e⟩:=x;exact lt_size e
 | tup xs=>obtain ⟨_,_,_,p⟩:=x;exact p.lt
 | dK kvs=>obtain ⟨_,_,_,_,o,_,_,e,_⟩:=x;exact lt_size e
 | dT kvs=>obtain ⟨_,_,_,_,o,_,_,e,_⟩:=x;exact lt_size e
 | set S n=>obtain ⟨o,_,_,_,e,_⟩:=x;exact lt_size e
 | ins C dx fs=>obtain ⟨_,_,_,e,_⟩:=x;exact lt_size e
 | own y=>obtain ⟨_,e⟩:=x;exact lt_size e
 | xd fs=>obtain ⟨_,⟨_,_,_,e,_⟩,_⟩:=x;exact lt_size e
 | rng lo hi=>obtain ⟨_,_,_,e⟩:=x;exact lt_size e
 | frz ob u=>obtain ⟨e,_⟩:=x;exact lt_size e
 | tbl ps=>exact lt_size (show h.get? a=some _ from x)
 | met f y=>exact lt_size (show h.get? a=some _ from x)
 | ext φ=>obtain ⟨_,⟨_,e⟩,_⟩:=x;exact lt_size e
theorem Paired.mapP{α β:Type}{F G:α->β->Prop}:∀{l₁:List α}{l₂:List β},Paired F l₁ l₂->(∀a b,F a b->G a b)->Paired G l₁ l₂
 | _,_,.nil,_=>.nil
 | _,_,.cons r t,f=>.cons (f _ _ r) (Paired.mapP t f)
theorem zV.stay(x:zV P w H h a o)(k:∀b u,(b=a\/H b=some (.own a))->h.get? b=some u->h'.get? b=some u)
  (ho:∀b,H b=some (.own a)->H' b=some (.own a)) (ht:∀b xs,H b=some (.tup xs)->H' b=some (.tup xs)):zV P w H' h' a o:=by
 induction o with
 | lst xs=>obtain ⟨z,its,n,r,e⟩:=x;exact ⟨z,its,n,r,k _ _ (.inl rfl) e⟩
 | tup xs=>obtain ⟨z,its,r,ob,e,c⟩:=x;exact ⟨z,its,r,ob,k _ _ (.inl rfl) e,c⟩
 | dK kvs=>obtain ⟨z,y,vs,r,ob,es,ep,e,c⟩:=x;exact ⟨z,y,vs,r,ob,es,ep,k _ _ (.inl rfl) e,c⟩
 | dT kvs =>
  obtain ⟨z,y,xs,r,ob,es,ep,e,c⟩:=x
  exact ⟨z,y,xs,Paired.mapP r λp q z=>⟨z.1,ht _ _ z.2.1,z.2.2⟩,ob,es,ep,k _ _ (.inl rfl) e,c⟩
 | set S n=>obtain ⟨ob,es,ep,t,e,c⟩:=x;exact ⟨ob,es,ep,t,k _ _ (.inl rfl) e,c⟩
 | ins C dx fs =>
  obtain ⟨d,z,ne,e,mA,⟨od,es,ep,e2,c⟩,r⟩:=x
  exact ⟨ho _ d,z,ne,k _ _ (.inl rfl) e,mA,⟨od,es,ep,k _ _ (.inr d) e2,c⟩,r⟩
 | own y=>obtain ⟨ob,e⟩:=x;exact ⟨ob,k _ _ (.inl rfl) e⟩
 | xd fs=>obtain ⟨mA,⟨od,es,ep,e,c⟩,r⟩:=x;exact ⟨mA,⟨od,es,ep,k _ _ (.inl rfl) e,c⟩,r⟩
 | rng lo hi=>obtain ⟨t,u,v,e⟩:=x;exact ⟨t,u,v,k _ _ (.inl rfl) e⟩
 | frz ob u ih=>obtain ⟨e,q⟩:=x;exact ⟨k _ _ (.inl rfl) e,ih q⟩
 | tbl ps =>
  have e:h.get? a=some { cls:=.none,data:=.fields ps }:=x
  show h'.get? a=some { cls:=.none,data:=.fields ps }
  exact k a _ (.inl rfl) e
 | met f y =>
  have e:h.get? a=some (methodObj (.ref f) (.ref y)):=x
  show h'.get? a=some (methodObj (.ref f) (.ref y))
  exact k a _ (.inl rfl) e
 | ext φ=>obtain ⟨p,⟨o,e⟩,st⟩:=x;exact ⟨st _ _ p λo q=>k _ _ (.inl rfl) q,⟨o,k _ _ (.inl rfl) e⟩,st⟩
theorem HOk.lt(x:HOk P w H h)(e:H a=some o):a<h.objs.size:=(x a o e).lt
theorem HOk.fresh(x:HOk P w H h)(e:h.objs.size<=a):H a=none:=by
 cases q:H a with
 | none=>rfl
 | some u=>exact absurd (lt_of_lt_of_le (x.lt q) e) (lt_irrefl _)
theorem HOk.kept(x:HOk P w H h)(k:∀b u,h.get? b=some u->h'.get? b=some u):HOk P w H h':=λa o e =>
 (x a o e).stay (λb u _ q=>k b u q) (λ_ q=>q) λ_ _ q=>q
theorem HOk.laid(x:HOk P w H h)(k:∀b u,h.get? b=some u->h'.get? b=some u)(hp:h.objs.size<=a)(new:zV P w (upd H a o) h' a o):HOk P w (upd H a o) h':=λb u e=>by
 have hn:=x.fresh hp
 by_cases hb:b=a
 ·subst hb;rw [zp] at e;cases e;exact new
 ·rw [ze hb] at e
  exact (x b u e).stay (λc v _ q=>k c v q) (λc q=>by rw [ze (zD q hn)];exact q) λc xs q=>by rw [ze (zD q hn)];exact q
end
def Rd(H:Hp)(a:Addr)(u:HO):Prop:=H a=some u\/∃o,H a=some (.frz o u)
theorem Rd.of{H:Hp}{a:Addr}{u:HO}(h:H a=some u):Rd H a u:=.inl h
theorem Rd.ok{P:Program}{w:World}{H:Hp}{h:Heap}{a:Addr}{u:HO}(r:Rd H a u)(x:HOk P w H h):zV P w H h a u:=by
 rcases r with r|⟨o,r⟩
 ·exact x a u r
 ·obtain ⟨_,q⟩:=x a _ r
  exact q
def Mut:Option HO->Prop
 | some (.lst _)=>True
 | some (.dK _)=>True
 | some (.dT _)=>True
 | some (.set _ _)=>True
 | some (.ins _ _ _)=>True
 | some (.ext _)=>True
 | _=>False
section
variable {P:Program}{w:World}{H:Hp}{h h':Heap}{x e:Addr}{o':HO}
theorem HOk.write(ok:HOk P w H h)(mu:Mut (H x))(he:e=x\/H e=some (.own x))(k:∀b u,b≠e->h.get? b=some u->h'.get? b=some u)(heo:∃u,h'.get? e=some u)
  (new:zV P w (upd H x o') h' x o'):HOk P w (upd H x o') h':=λb u q=>by
 have nown:∀c y,H c=some (.own y)->c≠x:=λc y r z=>by subst z;rw [r] at mu;exact mu
 have ntup:∀c xs,H c=some (.tup xs)->c≠x:=λc xs r z=>by subst z;rw [r] at mu;exact mu
 by_cases hb:b=x
 ·subst hb;rw [zp] at q;cases q;exact new
 ·rw [ze hb] at q
  by_cases hbe:b=e
  ·have q':H b=some (.own x):=by
    rcases he with z|z
    ·exact absurd (hbe.trans z) hb
    ·rw [hbe];exact z
   rw [q] at q';cases q'
   obtain ⟨v,hv⟩:=heo
   exact ⟨v,by rw [hbe];exact hv⟩
  ·refine (ok b u q).stay (λc v hc r=>k c v ?_ r) (λc r=>by rw [ze (nown c b r)];exact r) λc xs r=>by rw [ze (ntup c xs r)];exact r
   rcases hc with rfl|hc
   ·exact hbe
   ·rintro rfl
    rcases he with z|z
    ·exact nown c b hc z
    ·rw [hc] at z;cases z;exact hb rfl
end
structure Un(fs ex:List Addr)(H H':Hp)(h h':Heap):Prop where
 keep:∀b o,h.get? b=some o->H b=none->b∉fs->b∉ex->h'.get? b=some o
 slot:∀b o,h.get? b=some o->H b=none->b∈fs->b∉ex->∃sl,h'.get? b=some { o with slots:=sl }
 free:∀b o,h.get? b=some o->H b=none->b∉ex->H' b=none
 there:∀b o,h.get? b=some o->b∉ex->∃o',h'.get? b=some o'
 tups:∀b xs,H b=some (.tup xs)->H' b=some (.tup xs)
 frzs:∀b o u,H b=some (.frz o u)->H' b=some (.frz o u)
 tbls:∀b ps,H b=some (.tbl ps)->∃more,H' b=some (.tbl (ps++more))
section
variable {fs fs' ex ex':List Addr}{H H1 H2:Hp}{h h1 h2 h':Heap}{a x e:Addr}{o:HO}
theorem Un.any(u:Un fs ex H H1 h h1){b:Addr}{ob:Obj}(q:h.get? b=some ob)(n:H b=none)(hx:b∉ex):∃sl,h1.get? b=some { ob with slots:=sl }:=by
 by_cases hb:b∈fs
 ·exact u.slot b ob q n hb hx
 ·exact ⟨ob.slots,u.keep b ob q n hb hx⟩
theorem Un.trans(a:Un fs ex H H1 h h1)(b:Un fs ex H1 H2 h1 h2):Un fs ex H H2 h h2 where
 keep:=λc ob q n hc hx=>b.keep c ob (a.keep c ob q n hc hx) (a.free c ob q n hx) hc hx
 slot:=λc ob q n hc hx=>by
  obtain ⟨sl,e1⟩:=a.slot c ob q n hc hx
  obtain ⟨sl',e2⟩:=b.slot c _ e1 (a.free c ob q n hx) hc hx
  exact ⟨sl',e2⟩
 free:=λc ob q n hx=>by
  obtain ⟨o',e1⟩:=a.there c ob q hx
  exact b.free c o' e1 (a.free c ob q n hx) hx
 there:=λc ob q hx=>by
  obtain ⟨o',e1⟩:=a.there c ob q hx
  exact b.there c o' e1 hx
 tups:=λc xs q=>b.tups c xs (a.tups c xs q)
 frzs:=λc ob xs q=>b.frzs c ob xs (a.frzs c ob xs q)
 tbls:=λc ps q=>by
  obtain ⟨m1,e1⟩:=a.tbls c ps q
  obtain ⟨m2,e2⟩:=b.tbls c _ e1
  exact ⟨m1++m2,by rw [e2,Array.append_assoc]⟩
theorem Un.kept(k:∀b u,h.get? b=some u->h'.get? b=some u):Un fs ex H H h h' :=
 ⟨λb ob q _ _ _=>k b ob q,λb ob q _ _ _=>⟨ob.slots,k b ob q⟩,λ_ _ _ n _=>n,λb ob q _=>⟨ob,k b ob q⟩,λ_ _ q=>q,λ_ _ _ q=>q,λ_ ps q=>⟨#[],by rw [q];simp⟩⟩
theorem Un.refl:Un fs ex H H h h:=Un.kept λ_ _ q=>q
theorem Un.laid(k:∀b u,h.get? b=some u->h'.get? b=some u)(hp:h.objs.size<=a)(hn:H a=none):Un fs ex H (upd H a o) h h' where
 keep:=λb u q _ _ _=>k b u q
 slot:=λb u q _ _ _=>⟨u.slots,k b u q⟩
 free:=λb u q n _=>by rw [ze (ne_of_lt (lt_of_lt_of_le (lt_size q) hp))];exact n
 there:=λb u q _=>⟨u,k b u q⟩
 tups:=λb xs q=>by rw [ze (zD q hn)];exact q
 frzs:=λb u xs q=>by rw [ze (zD q hn)];exact q
 tbls:=λb ps q=>⟨#[],by rw [ze (zD q hn),q];simp⟩
theorem Un.write(mu:Mut (H x))(he:e=x\/H e=some (.own x))(k:∀b u,b≠e->h.get? b=some u->h'.get? b=some u)(heo:∃u,h'.get? e=some u):Un fs ex H (upd H x o) h h':=by
 have hx:∀b,H b=none->b≠x:=λb n z=>by subst z;rw [n] at mu;exact mu
 have hb:∀b,H b=none->b≠e:=λb n z=>by
  subst z
  rcases he with r|r
  ·exact hx b n r
  ·rw [n] at r;cases r
 have hm:∀b u,H b=some u->¬ Mut (some u)->b≠x:=λb u q nm z=>by subst z;rw [q] at mu;exact nm mu
 refine ⟨λb u q n _ _=>k b u (hb b n) q,λb u q n _ _=>⟨u.slots,k b u (hb b n) q⟩,λb u q n _=>by rw [ze (hx b n)];exact n,λb u q _=>?_,
  λb xs q=>by rw [ze (hm b _ q λz=>z)];exact q,λb u xs q=>by rw [ze (hm b _ q λz=>z)];exact q,λb ps q=>⟨#[],by rw [ze (hm b _ q λz=>z),q];simp⟩⟩
 by_cases hbe:b=e
 ·subst hbe;exact heo
 ·exact ⟨u,k b u hbe q⟩
end
def trk(h:Heap)(H:Hp):List Addr:=(List.range h.objs.size).filter λa=>(H a).isSome
def zbC(h:Heap)(H:Hp):Heap:=PySem.W.hideAll h (trk h H)
theorem znC(h:Heap)(H:Hp):(zbC h H).objs.size=h.objs.size:=PySem.W.hideAll_size _ _
theorem zlc{h:Heap}{H:Hp}{b:Addr}{o:Obj}(e:h.get? b=some o)(n:H b=none):(zbC h H).get? b=some o :=
 PySem.W.hideAll_get _ e λhm=>by
  have q:(H b).isSome=true:=(mem_filter.mp hm).2
  rw [n] at q;simp at q
theorem zst{h:Heap}{H:Hp}{b:Addr}{o:Obj}(e:(zbC h H).get? b=some o):h.get? b=some o/\H b=none:=by
 have e':h.get? b=some o:=PySem.W.of_hideAll (trk h H) e
 refine ⟨e',?_⟩
 cases q:H b with
 | none=>rfl
 | some x =>
  have hm:b∈trk h H:=mem_filter.mpr ⟨mem_range.mpr (lt_size e'),by simp [q]⟩
  have z:(zbC h H).get? b=none:=PySem.W.hideAll_none (trk h H) hm
  rw [z] at e;cases e
def zlQ(g h:Heap)(L:Addr):List (Addr×Obj):=(List.range h.objs.size).filterMap λa=>if a=L\/(g.get? a).isSome=true then none else (h.get? a).map λo=>(a,o)
def z9(g h:Heap)(L d:Addr):List (Addr×Obj):=(zlQ g h L).filter λp=>decide (p.1≠d)
structure Mod(K:PySem.W.Frag)(mg:Str->Option Value)(base:Heap):Prop where
 kin:K.In base
 glob:base.Ns mainGlobals mg
 blt:∃mb,base.Ns builtinsNs mb/\∀x:Str,x≠"__name__"->mb x=bootBuiltins x
 nolimit:base.NoLimit
def zdD(A:Around)(H:Hp):Prop:=A.handled=none\/∃(a:Addr)(o:Obj)(vs:Array Value),A.handled=some (.ref a)/\H a=some (.frz o (.own 0))/\o.data = .fields vs/\vs[2]?=some .none/\∃C,o.cls = .ref C
theorem zdD.same{A:Around}{H H':Hp}(x:zdD A H)(k:∀b o u,H b=some (.frz o u)->H' b=some (.frz o u)):zdD A H':=by
 rcases x with x|⟨a,o,vs,h1,h2,h3⟩
 ·exact .inl x
 ·exact .inr ⟨a,o,vs,h1,k _ _ _ h2,h3⟩
structure Cx where
 prog:Program
 w:World
 K:PySem.W.Frag
 mg:Str->Option Value
 base:Heap
 A:Around
 N:List Str
 s₀:Shared
 H₀:Hp
 env:Env
 outer:List Env
 stack:List Env
 ex:List Addr
 fn:Str->Bool
 calm:Bool
 pn:List (Addr×Obj)
 xe:Value->Shared->Prop
def frs(l:List Env):List Addr:=l.filterMap (·.frame)
abbrev Cx.fs(X:Cx):List Addr:=frs X.outer
def Vis(sc:Scope)(x:Str):Prop:=sc.names.lookup x=some .local\/sc.names.lookup x=some .cell\/sc.names.lookup x=some .free
def Loc(sc:Scope)(x:Str):Prop:=sc.names.lookup x=some .local\/sc.names.lookup x=some .cell
def zut(env:Env)(h:Heap)(m:Str->Option Value)(x:Str)(u:Value):Prop :=
 (env.kindOf x=some .local/\m x=some u)\/((env.kindOf x=some .cell\/env.kindOf x=some .free)/\∃c,env.cells.lookup x=some c/\h.IsCell c (some u))
structure Cx.Ok(X:Cx):Prop where
 mod:Mod X.K X.mg X.base
 kind:X.env.scope.kind = .function
 glob:X.env.globals=mainGlobals
 blt:X.env.builtins=builtinsNs
 above:X.s₀.heap.objs.size<=X.env.locals
 inj:∀x y c,X.env.cells.lookup x=some c->X.env.cells.lookup y=some c->x=y
 has:∀x,(X.env.kindOf x=some .cell\/X.env.kindOf x=some .free)->∃c,X.env.cells.lookup x=some c
 cab:∀x c,X.fn x=true->X.env.cells.lookup x=some c->X.s₀.heap.objs.size<=c
 hd:X.calm=true->X.A.handled=none
 frames:X.A.frames=some X.stack
 stk:X.stack=X.outer\/(X.stack=X.env::X.outer/\X.env.frame=some X.env.locals)
 exf:∀b∈X.ex,b≠X.env.locals/\∀x c,X.env.cells.lookup x=some c->c≠b
 bs:∀b o,X.base.get? b=some o->X.s₀.heap.get? b=some o/\X.H₀ b=none
 bsz:X.base.objs.size<=X.s₀.heap.objs.size
 noex:∀b o,X.base.get? b=some o->b∉X.ex
 exfs:∀b∈X.ex,b∉X.fs
 funs:X.s₀.heap.FunFrames X.base X.outer
 frf:∀b∈X.fs,X.H₀ b=none
structure Inv(X:Cx)(Ga:List (Addr×Obj))(σ:List (Option V))(H:Hp)(s:Shared):Prop where
 ok:X.Ok
 os:s.os=X.s₀.os
 bare:AllBare s.gens
 base:Un X.fs X.ex X.H₀ H X.s₀.heap s.heap
 loc:∃m,s.heap.Ns X.env.locals m/\∀(i:Nat)(x:Str)(v:V),X.N[i]?=some x->σ[i]?=some (some v)->Vis X.env.scope x->∃u,zm v u/\zut X.env s.heap m x u
 cell:∀x c,X.env.cells.lookup x=some c->∃v,s.heap.IsCell c v
 free:H X.env.locals=none
 freeC:∀x c,X.env.cells.lookup x=some c->H c=none
 pin:∀p∈X.pn++Ga,s.heap.get? p.1=some p.2/\H p.1=none/\p.1≠X.env.locals/\p.1∉X.fs/\∀v,p.2.data≠.cell v
 hok:HOk X.prog X.w H s.heap
 len:σ.length=X.N.length
 hdk:zdD X.A H
section
variable {X:Cx}{Ga:List (Addr×Obj)}{σ:List (Option V)}{H H':Hp}{s:Shared}{h':Heap}
theorem Cx.Ok.nofr(ok:X.Ok){b:Addr}{o:Obj}(e:X.base.get? b=some o):b∉X.fs:=λhb=>by
 have:=(ok.funs.mem hb).1
 rw [e] at this;cases this
theorem Inv.bs(I:Inv X Ga σ H s):∀b o,X.base.get? b=some o->s.heap.get? b=some o/\H b=none:=λb o e =>
 ⟨I.base.keep b o (I.ok.bs b o e).1 (I.ok.bs b o e).2 (I.ok.nofr e) (I.ok.noex b o e),I.base.free b o (I.ok.bs b o e).1 (I.ok.bs b o e).2 (I.ok.noex b o e)⟩
theorem Inv.bk(I:Inv X Ga σ H s):∀b o,X.base.get? b=some o->s.heap.get? b=some o:=λb o e=>(I.bs b o e).1
theorem Inv.mod(I:Inv X Ga σ H s):Mod X.K X.mg X.base:=I.ok.mod
theorem Inv.kIn(I:Inv X Ga σ H s):X.K.In s.heap:=I.ok.mod.kin.keeps I.bk
theorem Inv.lt(I:Inv X Ga σ H s):X.env.locals<s.heap.objs.size:=let ⟨_,hn,_⟩:=I.loc;hn.lt
theorem Inv.sz(I:Inv X Ga σ H s):X.s₀.heap.objs.size<=s.heap.objs.size:=le_trans I.ok.above (le_of_lt I.lt)
theorem Inv.nofs(I:Inv X Ga σ H s){a:Addr}(h:s.heap.objs.size<=a):a∉X.fs:=λhb=>by
 obtain ⟨_,o,ho,_⟩:=I.ok.funs.mem hb
 exact absurd (lt_of_lt_of_le (lt_size ho) (le_trans I.sz h)) (lt_irrefl _)
theorem Inv.cne(I:Inv X Ga σ H s):∀x c,X.env.cells.lookup x=some c->c≠X.env.locals:=λx c e z=>by
 obtain ⟨v,o,ho,hd⟩:=I.cell x c e
 obtain ⟨m,⟨o',es,ep,ho',hd',_⟩,_⟩:=I.loc
 rw [z,ho'] at ho;cases ho;rw [hd'] at hd;cases hd
theorem Inv.funs(I:Inv X Ga σ H s):s.heap.FunFrames X.base X.outer:=by
 have all:∀(l:List Env),(∀b∈frs l,b∈X.fs)->X.s₀.heap.FunFrames X.base l->s.heap.FunFrames X.base l:=by
  intro l
  induction l with
  | nil=>intro _ _;trivial
  | cons env r ih =>
   intro hs hl
   obtain ⟨hk,⟨L,o,hf,hn,ho,hd⟩,hr⟩:=hl
   have hL:L∈X.fs:=hs L (by unfold frs;rw [List.filterMap_cons,hf];exact mem_cons_self)
   obtain ⟨sl,e⟩:=I.base.slot L o ho (I.ok.frf L hL) hL λz=>I.ok.exfs L z hL
   exact ⟨hk,⟨L,_,hf,hn,e,hd⟩,ih (λb hb=>hs b (by unfold frs;rw [List.filterMap_cons,hf];exact mem_cons_of_mem _ hb)) hr⟩
 exact all X.outer (λ_ hb=>hb) I.ok.funs
theorem Inv.stack(I:Inv X Ga σ H s):s.heap.FunFrames X.base X.stack:=by
 rcases I.ok.stk with e|⟨e,hf⟩
 ·rw [e];exact I.funs
 ·rw [e]
  obtain ⟨m,hn,_⟩:=I.loc
  refine .cons (by rw [I.ok.kind];decide) hf hn ?_ I.funs
  exact Heap.get?_none_of_le (le_trans I.ok.bsz I.ok.above)
theorem Inv.stkSub(I:Inv X Ga σ H s):∀b∈frs X.stack,b∈X.env.locals::X.fs:=λb hb=>by
 rcases I.ok.stk with e|⟨e,hf⟩
 ·rw [e] at hb;exact mem_cons_of_mem _ hb
 ·rw [e] at hb
  unfold frs at hb
  rw [List.filterMap_cons,hf] at hb
  exact hb
theorem Inv.stkFree(I:Inv X Ga σ H s):∀b∈frs X.stack,H b=none:=λb hb=>by
 rcases mem_cons.mp (I.stkSub b hb) with e|hb
 ·rw [e];exact I.free
 ·obtain ⟨_,o,ho,_⟩:=I.ok.funs.mem hb
  exact I.base.free b o ho (I.ok.frf b hb) λz=>I.ok.exfs b z hb
theorem Inv.step{g':Array GenState}{t':Nat}{d':Drawn}{ch:List Addr}(I:Inv X Ga σ H s)
  (hch:∀b∈ch,(b∈X.ex\/X.s₀.heap.objs.size<=b)/\b≠X.env.locals/\(∀x c,X.env.cells.lookup x=some c->c≠b)/\∀p∈X.pn++Ga,p.1≠b)
  (keep:∀b o,b≠X.env.locals->b∉X.fs->b∉ch->s.heap.get? b=some o->H b=none->h'.get? b=some o)
  (slot:∀b o,b≠X.env.locals->b∈X.fs->b∉ch->s.heap.get? b=some o->H b=none->∃sl,h'.get? b=some { o with slots:=sl }) (free:∀b o,b∉ch->s.heap.get? b=some o->H b=none->H' b=none)
  (there:∀b o,b∉ch->s.heap.get? b=some o->∃o',h'.get? b=some o')
  (tups:∀b xs,H b=some (.tup xs)->H' b=some (.tup xs)) (frzs:∀b o u,H b=some (.frz o u)->H' b=some (.frz o u)) (tbls:∀b ps,H b=some (.tbl ps)->∃more,H' b=some (.tbl (ps++more)))
  (ns:∀m,s.heap.Ns X.env.locals m->h'.Ns X.env.locals m) (hok:HOk X.prog X.w H' h') (hg:AllBare g') :
  Inv X Ga σ H' { s with heap:=h',gens:=g',drawn:=d',toks:=t' }:=by
 have neL:∀b o,X.s₀.heap.get? b=some o->b≠X.env.locals:=λb o e=>ne_of_lt (lt_of_lt_of_le (lt_size e) I.ok.above)
 have neC:∀b o,X.s₀.heap.get? b=some o->b∉X.ex->b∉ch:=λb o e hx hb=>by
  rcases (hch b hb).1 with z|z
  ·exact hx z
  ·exact absurd (lt_of_lt_of_le (lt_size e) z) (lt_irrefl _)
 have cellK:∀x c,X.env.cells.lookup x=some c->∀v,s.heap.IsCell c v->h'.IsCell c v:=λx c e v ⟨o,ho,hd⟩=>by
  have nch:c∉ch:=λz=>(hch c z).2.2.1 x c e rfl
  by_cases hc:c∈X.fs
  ·obtain ⟨sl,q⟩:=slot c o (I.cne x c e) hc nch ho (I.freeC x c e)
   exact ⟨_,q,hd⟩
  ·exact ⟨o,keep c o (I.cne x c e) hc nch ho (I.freeC x c e),hd⟩
 refine ⟨I.ok,I.os,hg,⟨λb o e n hb hx=>?_,λb o e n hb hx=>?_,λb o e n hx=>?_,λb o e hx=>?_,λb xs e=>tups b xs (I.base.tups b xs e),λb o xs e=>frzs b o xs (I.base.frzs b o xs e),λb ps e=>?_⟩,?_,λx c e=>?_,?_,λx c e=>?_,λp hp=>?_,hok,I.len,I.hdk.same frzs⟩
 ·exact keep b o (neL b o e) hb (neC b o e hx) (I.base.keep b o e n hb hx) (I.base.free b o e n hx)
 ·obtain ⟨sl,e1⟩:=I.base.slot b o e n hb hx
  obtain ⟨sl',e2⟩:=slot b _ (neL b o e) hb (neC b o e hx) e1 (I.base.free b o e n hx)
  exact ⟨sl',e2⟩
 ·obtain ⟨o',e1⟩:=I.base.there b o e hx
  exact free b o' (neC b o e hx) e1 (I.base.free b o e n hx)
 ·obtain ⟨o',e1⟩:=I.base.there b o e hx
  exact there b o' (neC b o e hx) e1
 ·obtain ⟨m1,e1⟩:=I.base.tbls b ps e
  obtain ⟨m2,e2⟩:=tbls b _ e1
  exact ⟨m1++m2,by rw [e2,Array.append_assoc]⟩
 ·obtain ⟨m,hn,hl⟩:=I.loc
  refine ⟨m,ns m hn,λi x v e1 e2 e3=>?_⟩
  obtain ⟨u,r,l⟩:=hl i x v e1 e2 e3
  refine ⟨u,r,?_⟩
  rcases l with l|⟨k,c,e,z⟩
  ·exact .inl l
  ·exact .inr ⟨k,c,e,cellK x c e _ z⟩
 ·obtain ⟨v,z⟩:=I.cell x c e
  exact ⟨v,cellK x c e v z⟩
 ·obtain ⟨m,⟨o,_,_,ho,_⟩,_⟩:=I.loc
  exact free _ o (λz=>(hch _ z).2.1 rfl) ho I.free
 ·obtain ⟨v,o,ho,hd⟩:=I.cell x c e
  exact free c o (λz=>(hch c z).2.2.1 x c e rfl) ho (I.freeC x c e)
 ·obtain ⟨e,n,ne,nf,d⟩:=I.pin p hp
  have nch:p.1∉ch:=λz=>(hch p.1 z).2.2.2 p hp rfl
  exact ⟨keep p.1 p.2 ne nf nch e n,free p.1 p.2 nch e n,ne,nf,d⟩
theorem Inv.un{t':Nat}(I:Inv X Ga σ H s)(u:Un X.fs [] H H' s.heap h')(hok:HOk X.prog X.w H' h'):Inv X Ga σ H' { s with heap:=h',toks:=t' }:=by
 obtain ⟨m,⟨o,es,ep,ho,r⟩,_⟩:=id I.loc
 obtain ⟨sl,hL⟩:=u.any ho I.free (by simp)
 exact I.step (g':=s.gens) (d':=s.drawn) (ch:=[]) (λ_ z=>nomatch z) (λb o _ hb _ e n=>u.keep b o e n hb (by simp)) (λb o _ hb _ e n=>u.slot b o e n hb (by simp)) (λb o _ e n=>u.free b o e n (by simp)) (λb o _ e=>u.there b o e (by simp)) u.tups u.frzs u.tbls (λm' hm=>by
  obtain ⟨o',es',ep',ho',r'⟩:=hm
  rw [ho] at ho';cases ho'
  exact ⟨_,es',ep',hL,r'⟩) hok I.bare
theorem Inv.call{g':Array GenState}{t':Nat}{d':Drawn}{ch:List Addr}(I:Inv X Ga σ H s)(u:Un (frs X.stack) ch H H' s.heap h')(hok:HOk X.prog X.w H' h')(hg:AllBare g')
  (hch:∀b∈ch,(b∈X.ex\/X.s₀.heap.objs.size<=b)/\b≠X.env.locals/\(∀x c,X.env.cells.lookup x=some c->c≠b)/\∀p∈X.pn++Ga,p.1≠b) :
  Inv X Ga σ H' { s with heap:=h',gens:=g',drawn:=d',toks:=t' }:=by
 obtain ⟨m,⟨o,es,ep,ho,r⟩,_⟩:=id I.loc
 obtain ⟨sl,hL⟩:=u.any ho I.free λz=>(hch _ z).2.1 rfl
 exact I.step (ch:=ch) hch (λb o hL hb hc e n=>u.keep b o e n (λz=>(mem_cons.mp (I.stkSub b z)).elim hL hb) hc) (λb o _ _ hc e n=>u.any e n hc) (λb o hc e n=>u.free b o e n hc) (λb o hc e=>u.there b o e hc) u.tups u.frzs u.tbls (λm' hm=>by
  obtain ⟨o',es',ep',ho',r'⟩:=hm
  rw [ho] at ho';cases ho'
  exact ⟨_,es',ep',hL,r'⟩) hok hg
theorem Inv.turned{t':Nat}{it:Addr}(I:Inv X Ga σ H s)(k:∀b o,b≠it->s.heap.get? b=some o->h'.get? b=some o)(hn:H it=none)(hL:it≠X.env.locals)
  (h1:it∈X.ex\/X.s₀.heap.objs.size<=it) (h2:∀x c,X.env.cells.lookup x=some c->c≠it) (h3:∀p∈X.pn++Ga,p.1≠it):Inv X Ga σ H { s with heap:=h',toks:=t' }:=by
 have nit:∀b u,H b=some u->b≠it:=λb u e z=>by rw [z,hn] at e;cases e
 refine I.step (g':=s.gens) (d':=s.drawn) (ch:=[it]) (λb hb=>?_) (λb o _ _ hc e _=>k b o (λz=>hc (by simp [z])) e) (λb o _ _ hc e _=>⟨o.slots,k b o (λz=>hc (by simp [z])) e⟩) (λ_ _ _ _ n=>n)
  (λb o hc e=>⟨o,k b o (λz=>hc (by simp [z])) e⟩) (λ_ _ e=>e) (λ_ _ _ e=>e) (λb ps e=>⟨#[],by rw [e];simp⟩) (λm hm=>?_) (λb u e=>?_) I.bare
 ·have e:b=it:=by simpa using hb
  subst e
  exact ⟨h1,hL,h2,h3⟩
 ·obtain ⟨o,es,ep,ho,r⟩:=hm
  exact ⟨o,es,ep,k _ o (Ne.symm hL) ho,r⟩
 ·refine (I.hok b u e).stay (λc v hc q=>k c v ?_ q) (λ_ q=>q) λ_ _ q=>q
  rcases hc with z|z
  ·rw [z];exact nit b u e
  ·exact nit c _ z
theorem Inv.tok(I:Inv X Ga σ H s)(t:Nat):Inv X Ga σ H { s with toks:=t }:=I.un (h':=s.heap) (t':=t) Un.refl I.hok
theorem Inv.kept{t':Nat}(I:Inv X Ga σ H s)(k:∀b u,s.heap.get? b=some u->h'.get? b=some u):Inv X Ga σ H { s with heap:=h',toks:=t' }:=I.un (Un.kept k) (I.hok.kept k)
theorem Inv.laid{a:Addr}{o:HO}{t':Nat}(I:Inv X Ga σ H s)(k:∀b u,s.heap.get? b=some u->h'.get? b=some u)(hp:s.heap.objs.size<=a)(new:zV X.prog X.w (upd H a o) h' a o) :
  Inv X Ga σ (upd H a o) { s with heap:=h',toks:=t' }:=I.un (Un.laid k hp (I.hok.fresh hp)) (I.hok.laid k hp new)
theorem Inv.write{x e:Addr}{o:HO}{t':Nat}(I:Inv X Ga σ H s)(mu:Mut (H x))(he:e=x\/H e=some (.own x))(k:∀b u,b≠e->s.heap.get? b=some u->h'.get? b=some u)(heo:∃u,h'.get? e=some u)
  (new:zV X.prog X.w (upd H x o) h' x o):Inv X Ga σ (upd H x o) { s with heap:=h',toks:=t' }:=I.un (Un.write mu he k heo) (I.hok.write mu he k heo new)
theorem Inv.pins_of{pins':List (Addr×Obj)}(I:Inv X Ga σ H s)(h:∀p∈pins',s.heap.get? p.1=some p.2/\H p.1=none/\p.1≠X.env.locals/\p.1∉X.fs/\∀v,p.2.data≠.cell v):Inv X pins' σ H s :=
 ⟨I.ok,I.os,I.bare,I.base,I.loc,I.cell,I.free,I.freeC,λp hp=>(mem_append.mp hp).elim (λz=>I.pin p (mem_append_left _ z)) (h p),I.hok,I.len,I.hdk⟩
theorem zkC{N:List Str}(hN:N.Nodup){i j:Nat}{x:Str}(a:N[i]?=some x)(b:N[j]?=some x):i=j:=by
 obtain ⟨h1,e1⟩:=List.getElem?_eq_some_iff.mp a
 obtain ⟨h2,e2⟩:=List.getElem?_eq_some_iff.mp b
 exact (List.getElem_inj hN).mp (e1.trans e2.symm)
theorem zms{M:Model}{A:Around}{E:Value->Shared->Prop}{i:Nat}{x:Str}{v:V}{u:Value}{Q:Unit->Shared->Prop}(I:Inv X Ga σ H s)(hN:X.N.Nodup)(hi:X.N[i]?=some x)(hx:Loc X.env.scope x)(r:zm v u)
  (h:∀s',Inv X Ga (σ.set i (some v)) H s'->(∃a,SameBut a s.heap s'.heap/\(a=X.env.locals\/X.env.cells.lookup x=some a))->Q () s') (hf:X.fn x=true\/X.env.scope.names.lookup x=some .local:=by first|exact .inl rfl|exact .inr rfl|assumption):wpAny M A (storeName X.env x u) Q E s:=by
 obtain ⟨m,hn,hl⟩:=id I.loc
 have hcls:(X.env.scope.kind == .class||(X.env.scope.kind == .module&&X.env.locals != X.env.globals))=false:=by rw [I.ok.kind];rfl
 have hiσ:i<σ.length:=by rw [I.len];exact (List.getElem?_eq_some_iff.mp hi).1
 have cne:=I.cne
 have tracked:∀{a:Addr}{h':Heap},(∃o,s.heap.get? a=some o/\H a=none)->SameBut a s.heap h'->HOk X.prog X.w H h':=λ{a h'} ha hs b ob e=>by
  obtain ⟨_,_,hfree⟩:=ha
  refine (I.hok b ob e).stay (λc w' hc q=>(hs.2 c ?_).trans q) (λ_ q=>q) λ_ _ q=>q
  rintro rfl
  rcases hc with rfl|hc
  ·rw [hfree] at e;cases e
  ·rw [hfree] at hc;cases hc
 rcases hx with hk|hk
 ·refine wpAny_storeName_local hk hn (λh' hn' hs=>?_) hcls
  obtain ⟨oL,_,_,hoL,_⟩:=id hn
  refine h _ ⟨I.ok,I.os,I.bare,⟨λb o e n hb hx=>?_,λb o e n hb hx=>?_,I.base.free,λb o e hx=>?_,I.base.tups,I.base.frzs,I.base.tbls⟩,⟨_,hn',λj y v' e1 e2 e3=>?_⟩,λy c e=>?_,I.free,I.freeC,λp hp=>?_,tracked ⟨oL,hoL,I.free⟩ hs,by simpa using I.len,I.hdk⟩ ⟨_,hs,.inl rfl⟩
  ·exact (hs.2 b (ne_of_lt (lt_of_lt_of_le (lt_size e) I.ok.above))).trans (I.base.keep b o e n hb hx)
  ·obtain ⟨sl,e1⟩:=I.base.slot b o e n hb hx
   exact ⟨sl,(hs.2 b (ne_of_lt (lt_of_lt_of_le (lt_size e) I.ok.above))).trans e1⟩
  ·obtain ⟨o',e1⟩:=I.base.there b o e hx
   exact ⟨o',(hs.2 b (ne_of_lt (lt_of_lt_of_le (lt_size e) I.ok.above))).trans e1⟩
  ·by_cases hj:j=i
   ·subst hj
    rw [hi] at e1;cases e1
    rw [List.getElem?_set_self hiσ] at e2
    cases e2
    exact ⟨u,r,.inl ⟨hk,by simp⟩⟩
   ·rw [List.getElem?_set_ne (Ne.symm hj)] at e2
    obtain ⟨u',r',q⟩:=hl j y v' e1 e2 e3
    refine ⟨u',r',?_⟩
    rcases q with ⟨k,e⟩|⟨k,c,e,z⟩
    ·refine .inl ⟨k,?_⟩
     have:y≠x:=λe=>hj (zkC hN e1 (e ▸ hi))
     simp [this,e]
    ·exact .inr ⟨k,c,e,z.sameBut hs (cne y c e)⟩
  ·obtain ⟨w',z⟩:=I.cell y c e
   exact ⟨w',z.sameBut hs (cne y c e)⟩
  ·obtain ⟨e,n,ne,nf,d⟩:=I.pin p hp
   exact ⟨(hs.2 p.1 ne).trans e,n,ne,nf,d⟩
 ·have hfn:X.fn x=true:=by
   rcases hf with z|z
   ·exact z
   ·rw [z] at hk;cases hk
  obtain ⟨c,hc⟩:=I.ok.has x (.inl hk)
  obtain ⟨w',z⟩:=I.cell x c hc
  refine wpAny_storeName_cell I.ok.kind hk hc z (λh' hc' hs=>?_)
  obtain ⟨oc,hoc,hocd⟩:=id z
  refine h { s with heap:=h' } ⟨I.ok,I.os,I.bare,⟨λb o e n hb hx=>?_,λb o e n hb hx=>?_,I.base.free,λb o e hx=>?_,I.base.tups,I.base.frzs,I.base.tbls⟩,⟨m,hn.sameBut hs (Ne.symm (cne x c hc)),λj y v' e1 e2 e3=>?_⟩,λy c' e=>?_,I.free,I.freeC,λp hp=>?_,tracked ⟨oc,hoc,I.freeC x c hc⟩ hs,by simpa using I.len,I.hdk⟩ ⟨c,hs,.inr hc⟩
  ·exact (hs.2 b (ne_of_lt (lt_of_lt_of_le (lt_size e) (I.ok.cab x c hfn hc)))).trans (I.base.keep b o e n hb hx)
  ·obtain ⟨sl,e1⟩:=I.base.slot b o e n hb hx
   exact ⟨sl,(hs.2 b (ne_of_lt (lt_of_lt_of_le (lt_size e) (I.ok.cab x c hfn hc)))).trans e1⟩
  ·obtain ⟨o',e1⟩:=I.base.there b o e hx
   exact ⟨o',(hs.2 b (ne_of_lt (lt_of_lt_of_le (lt_size e) (I.ok.cab x c hfn hc)))).trans e1⟩
  ·by_cases hj:j=i
   ·subst hj
    rw [hi] at e1;cases e1
    rw [List.getElem?_set_self hiσ] at e2
    cases e2
    exact ⟨u,r,.inr ⟨.inl hk,c,hc,hc'⟩⟩
   ·rw [List.getElem?_set_ne (Ne.symm hj)] at e2
    obtain ⟨u',r',q⟩:=hl j y v' e1 e2 e3
    refine ⟨u',r',?_⟩
    rcases q with q|⟨k,c',e,z'⟩
    ·exact .inl q
    ·refine .inr ⟨k,c',e,z'.sameBut hs ?_⟩
     rintro rfl
     exact hj (zkC hN e1 (I.ok.inj _ _ _ e hc ▸ hi))
  ·by_cases hcc:c'=c
   ·subst hcc;exact ⟨_,hc'⟩
   ·obtain ⟨w2,z2⟩:=I.cell y c' e
    exact ⟨w2,z2.sameBut hs hcc⟩
  ·obtain ⟨e,n,ne,nf,d⟩:=I.pin p hp
   refine ⟨(hs.2 p.1 ?_).trans e,n,ne,nf,d⟩
   intro q
   rw [q,hoc] at e
   have q':oc=p.2:=Option.some.inj e
   exact d w' (by rw [<- q'];exact hocd)
theorem zkm{M:Model}{A:Around}{E:Value->Shared->Prop}{i:Nat}{x:Str}{v:V}{u:Value}{Q:Unit->Shared->Prop}(I:Inv X Ga σ H s)(hN:X.N.Nodup)(hi:X.N[i]?=some x)(hx:Loc X.env.scope x)(r:zm v u)
  (h:∀s',Inv X Ga (σ.set i (some v)) H s'->Q () s') (hf:X.fn x=true\/X.env.scope.names.lookup x=some .local:=by first|exact .inl rfl|exact .inr rfl|assumption):wpAny M A (storeName X.env x u) Q E s :=
 zms I hN hi hx r (λs' I' _=>h s' I') hf
theorem Inv.call'{s':Shared}{ch:List Addr}(I:Inv X Ga σ H s)(ho:s'.os=s.os)(u:Un (frs X.stack) ch H H' s.heap s'.heap)(hok:HOk X.prog X.w H' s'.heap)(hg:AllBare s'.gens)
  (hch:∀b∈ch,(b∈X.ex\/X.s₀.heap.objs.size<=b)/\b≠X.env.locals/\(∀x c,X.env.cells.lookup x=some c->c≠b)/\∀p∈X.pn++Ga,p.1≠b):Inv X Ga σ H' s':=by
 obtain ⟨h',g',d',t',o'⟩:=s'
 have e:o'=s.os:=ho
 subst e
 exact I.call (g':=g') (t':=t') (d':=d') u hok hg hch
end
abbrev XK:=Value->Option Addr->Hp->Prop
abbrev St:=List (Option V)
abbrev VK:=V->Hp->Prop
abbrev TE:=St->Hp->VK->Prop
abbrev TT:=St->Hp->(Bool->Hp->Prop)->Prop
abbrev TA:=St->Hp->(List V->Hp->Prop)->Prop
structure zah where
 nx:St->Hp->Prop
 rt:VK
 bk:St->Hp->Prop:=λ_ _=>False
 ct:St->Hp->Prop:=λ_ _=>False
abbrev TS:=zah->St->Hp->Prop
def EP(X:Cx)(Ga:List (Addr×Obj))(σ:St)(Q:VK)(u:Value)(s':Shared):Prop:=∃v H',Inv X Ga σ H' s'/\zm v u/\Q v H'
def TP(X:Cx)(Ga:List (Addr×Obj))(σ:St)(Q:Bool->Hp->Prop)(b:Bool)(s':Shared):Prop:=∃H',Inv X Ga σ H' s'/\Q b H'
def AP(X:Cx)(Ga:List (Addr×Obj))(σ:St)(Q:List V->Hp->Prop)(us:List Value)(s':Shared):Prop:=∃vs H',Inv X Ga σ H' s'/\zi vs us/\Q vs H'
def SP(X:Cx)(Ga:List (Addr×Obj))(D:zah)(f:Flow)(s':Shared):Prop :=
 match f with
 | .next=>∃σ' H',Inv X Ga σ' H' s'/\D.nx σ' H'
 | .brk=>∃σ' H',Inv X Ga σ' H' s'/\D.bk σ' H'
 | .cont=>∃σ' H',Inv X Ga σ' H' s'/\D.ct σ' H'
 | .ret u=>∃v σ' H',Inv X Ga σ' H' s'/\zm v u/\D.rt v H'
def PE(X:Cx)(e:Expr)(t:TE):Prop :=
 ∀(Ga:List (Addr×Obj))(s:Shared)(σ:St)(H:Hp)(Q:VK),Inv X Ga σ H s->t σ H Q->wpAny (model X.prog X.w) X.A (eval e X.env) (EP X Ga σ Q) X.xe s
def PT(X:Cx)(e:Expr)(t:TT):Prop :=
 ∀(Ga:List (Addr×Obj))(s:Shared)(σ:St)(H:Hp)(Q:Bool->Hp->Prop),Inv X Ga σ H s->t σ H Q->wpAny (model X.prog X.w) X.A (isTrue e X.env (eval e X.env)) (TP X Ga σ Q) X.xe s
def PW(X:Cx)(e:Expr)(t:TT):Prop :=
 ∀(whole:Sem Value)(Ga:List (Addr×Obj))(s:Shared)(σ:St)(H:Hp)(Q:Bool->Hp->Prop),Inv X Ga σ H s->t σ H Q->wpAny (model X.prog X.w) X.A (isTrue e X.env whole) (TP X Ga σ Q) X.xe s
theorem PW.pt{X:Cx}{e:Expr}{t:TT}(h:PW X e t):PT X e t:=h _
def PA(X:Cx)(es:List Expr)(t:TA):Prop :=
 ∀(pos:Pos)(Ga:List (Addr×Obj))(s:Shared)(σ:St)(H:Hp)(Q:List V->Hp->Prop),Inv X Ga σ H s->t σ H Q->wpAny (model X.prog X.w) X.A (spliced (backTo pos (starEach es X.env))) (AP X Ga σ Q) X.xe s
def PS(X:Cx)(st:Stmt)(t:TS):Prop :=
 ∀(Ga:List (Addr×Obj))(s:Shared)(σ:St)(H:Hp)(D:zah),Inv X Ga σ H s->t D σ H->wpAny (model X.prog X.w) X.A (exec st X.env) (SP X Ga D) X.xe s
def PSs(X:Cx)(st:List Stmt)(t:TS):Prop :=
 ∀(Ga:List (Addr×Obj))(s:Shared)(σ:St)(H:Hp)(D:zah),Inv X Ga σ H s->t D σ H->wpAny (model X.prog X.w) X.A (execs st X.env) (SP X Ga D) X.xe s
theorem thn{α:Type}{t:Sem α}{Q Q':α->Shared->Prop}{M:Model}{A:Around}{E:Value->Shared->Prop}{s:Shared}(h:wpAny M A t Q E s)(hQ:∀a s,Q a s->Q' a s):wpAny M A t Q' E s:=wpAny_mono h hQ λ_ _ x=>x
section
variable {X:Cx}
theorem bin{a b:Expr}{ta tb:TE}(ha:PE X a ta)(hb:PE X b tb){Ga:List (Addr×Obj)}{s:Shared}{σ:St}{H:Hp}{R:V->V->Hp->Prop}(I:Inv X Ga σ H s)(h:ta σ H λx H1=>tb σ H1 λy H2=>R x y H2)
  {α:Type}{Q:α->Shared->Prop}{f:Value->Value->Sem α}
  (hf:∀v u s2 x y H2,Inv X Ga σ H2 s2->zm x v->zm y u->R x y H2->wpAny (model X.prog X.w) X.A (f v u) Q X.xe s2) :
  wpAny (model X.prog X.w) X.A (eval a X.env) (λv s₁=>wpAny (model X.prog X.w) X.A (eval b X.env) (λu s₂=>wpAny (model X.prog X.w) X.A (f v u) Q X.xe s₂) X.xe s₁) X.xe s:=by
 refine thn (ha Ga s σ H _ I h) λv s1 ⟨x,H1,I1,r1,q1⟩=>?_
 refine thn (hb Ga s1 σ H1 _ I1 q1) λu s2 ⟨y,H2,I2,r2,q2⟩=>?_
 exact hf v u s2 x y H2 I2 r1 r2 q2
def zbp(i:Nat):TE:=λσ H Q=>∃v,σ[i]?=some (some v)/\Q v H
def tC(v:V):TE:=λ_ H Q=>Q v H
theorem ztF{i:Nat}{x:Str}{pos:Pos}(hN:X.N[i]?=some x)(hv:Vis X.env.scope x)(hd:(x==("__debug__":Str))=false:=by decide)(hcd:(x==("__classdict__":Str))=false:=by decide):PE X (.Name x pos) (zbp i):=by
 intro Ga s σ H Q I h
 obtain ⟨v,e,h⟩:=h
 obtain ⟨m,hn,hl⟩:=I.loc
 obtain ⟨u,r,l⟩:=hl i x v hN e hv
 have fin:EP X Ga σ Q u s:=⟨v,H,I,r,h⟩
 rcases l with ⟨hk,hm⟩|⟨hk,c,hc,hcell⟩
 ·exact wpAny_Name (wpAny_loadName_local I.ok.kind hk hn hm fin) hd
 ·rcases hk with hk|hk
  ·exact wpAny_Name (wpAny_loadName_cell I.ok.kind hk hc hcell fin) hd
  ·exact wpAny_Name (wpAny_loadName_free I.ok.kind hk hc hcell fin hcd) hd
theorem zjR{i j pos}:PE X (.Constant (.int i) j pos) (tC (.int i)):=λ_ _ _ H _ I h=>wpAny_Constant_int ⟨.int i,H,I.tok _,⟨_,rfl⟩,h⟩
theorem zrs{b j pos}:PE X (.Constant (.bool b) j pos) (tC (.bl b)):=λ_ _ _ H _ I h=>Constant_bool ⟨.bl b,H,I,rfl,h⟩
theorem zmY{j pos}:PE X (.Constant .none j pos) (tC .non):=λ_ _ _ H _ I h=>Constant_none ⟨.non,H,I,rfl,h⟩
theorem zl9{x j pos}:PE X (.Constant (.str x) j pos) (tC (.str x)):=λ_ _ _ H _ I h=>Calls.Constant_str ⟨.str x,H,I.tok _,⟨_,rfl⟩,h⟩
def Gl(X:Cx)(x:Str):Prop:=X.env.kindOf x=some .globalImplicit
theorem zeK{E:Value->Shared->Prop}{Ga:List (Addr×Obj)}{s:Shared}{σ:St}{H:Hp}{x:Str}{u:Value}{pos:Pos}{Q:Value->Shared->Prop}(I:Inv X Ga σ H s)(hg:Gl X x)(hm:X.mg x=some u)(h:Q u s)
  (hd:(x==("__debug__":Str))=false:=by decide):wpAny (model X.prog X.w) X.A (eval (.Name x pos) X.env) Q E s :=
 Calls.Name_function_global I.ok.kind hg (Calls.loadGlobal_global (by rw [I.ok.glob];exact I.mod.glob.keeps I.bk) hm h) hd
theorem zeO{E:Value->Shared->Prop}{Ga:List (Addr×Obj)}{s:Shared}{σ:St}{H:Hp}{x:Str}{u:Value}{pos:Pos}{Q:Value->Shared->Prop}(I:Inv X Ga σ H s)(hg:Gl X x)(hm:X.mg x=none)(hv:bootBuiltins x=some u)(h:Q u s)
  (hn:x≠"__name__":=by decide) (hd:(x==("__debug__":Str))=false:=by decide):wpAny (model X.prog X.w) X.A (eval (.Name x pos) X.env) Q E s:=by
 obtain ⟨mb,h1,h2⟩:=I.mod.blt
 exact Calls.Name_function_global I.ok.kind hg (Calls.loadGlobal_builtin (by rw [I.ok.glob];exact I.mod.glob.keeps I.bk) hm (by rw [I.ok.blt];exact h1.keeps I.bk) ((h2 x hn).trans hv) h) hd
theorem zog{x:Str}{v:V}{u:Value}{pos:Pos}(hg:Gl X x)(hm:X.mg x=none)(hv:bootBuiltins x=some u)(r:zm v u)(hn:x≠"__name__":=by decide)(hd:(x==("__debug__":Str))=false:=by decide):PE X (.Name x pos) (tC v) :=
 λ_ _ _ H _ I h=>zeO I hg hm hv ⟨v,H,I,r,h⟩ hn hd
variable {a b:Expr}{ta tb:TE}{pos:Pos}
def tB(t:TE):TT:=λσ H Q=>t σ H λx H1=>∃c,x = .bl c/\Q c H1
variable {tA tB':TT}{z9:List Expr}
def zfK(t u:TT):TT:=λσ H Q=>t σ H λc H1=>if c=true then u σ H1 Q else Q false H1
def tOr(t u:TT):TT:=λσ H Q=>t σ H λc H1=>if c=true then Q true H1 else u σ H1 Q
def zhc(t:TT):TT:=λσ H Q=>t σ H λc H1=>Q (!c) H1
theorem zoO(ha:PT X a tA):PW X (.BoolOp .And [a] pos) tA:=by
 intro wh Ga s σ H Q I h
 refine isTrue_and (thn (ha Ga s σ H Q I h) λc s1 e=>?_)
 cases c with
 | true=>exact isTrue_and_nil e
 | false=>exact e
theorem zk1(ha:PT X a tA):PW X (.BoolOp .Or [a] pos) tA:=by
 intro wh Ga s σ H Q I h
 refine isTrue_or (thn (ha Ga s σ H Q I h) λc s1 e=>?_)
 cases c with
 | false=>exact isTrue_or_nil e
 | true=>exact e
theorem zry(ha:PT X a tA)(hb:PW X (.BoolOp .And (b::z9) pos) tB'):PW X (.BoolOp .And (a::b::z9) pos) (zfK tA tB'):=by
 intro wh Ga s σ H Q I h
 refine isTrue_and (thn (ha Ga s σ H _ I h) λc s1 ⟨H1,I1,q1⟩=>?_)
 cases c with
 | true=>exact hb wh Ga s1 σ H1 Q I1 q1
 | false=>exact ⟨H1,I1,q1⟩
theorem zly(ha:PT X a tA)(hb:PW X (.BoolOp .Or (b::z9) pos) tB'):PW X (.BoolOp .Or (a::b::z9) pos) (tOr tA tB'):=by
 intro wh Ga s σ H Q I h
 refine isTrue_or (thn (ha Ga s σ H _ I h) λc s1 ⟨H1,I1,q1⟩=>?_)
 cases c with
 | true=>exact ⟨H1,I1,q1⟩
 | false=>exact hb wh Ga s1 σ H1 Q I1 q1
theorem zmh(ha:PT X a tA):PT X (.UnaryOp .Not a pos) (zhc tA):=by
 intro Ga s σ H Q I h
 exact isTrue_not (ha Ga s σ H (λc H1=>Q (!c) H1) I h)
def zfD(ta tb:TE):TE:=λσ H Q=>ta σ H λx H1=>∃c,x = .bl c/\if c=true then tb σ H1 Q else Q (.bl false) H1
def zqU(ta tb:TE):TE:=λσ H Q=>ta σ H λx H1=>∃c,x = .bl c/\if c=true then Q (.bl true) H1 else tb σ H1 Q
def zgQ(ta:TE):TE:=λσ H Q=>ta σ H λx H1=>∃c,x = .bl c/\Q (.bl (!c)) H1
theorem zrf{op}{t:TE}(h:PE X a t):PE X (.BoolOp op [a] pos) t:=λGa s σ H Q I hw=>BoolOp_one (h Ga s σ H Q I hw)
theorem zpp(ha:PE X a ta)(hb:PE X (.BoolOp .And (b::z9) pos) tb):PE X (.BoolOp .And (a::b::z9) pos) (zfD ta tb):=by
 intro Ga s σ H Q I h
 refine BoolOp_and (thn (ha Ga s σ H _ I h) λv s1 ⟨x,H1,I1,r1,q1⟩=>?_)
 obtain ⟨c,rfl,q1⟩:=q1
 cases r1
 refine wpAny_truthy_bool ?_
 cases c with
 | true=>exact hb Ga s1 σ H1 Q I1 q1
 | false=>exact ⟨.bl false,H1,I1,rfl,q1⟩
theorem zuV(ha:PE X a ta):PE X (.UnaryOp .Not a pos) (zgQ ta):=by
 intro Ga s σ H Q I h
 refine UnaryOp_ (thn (ha Ga s σ H _ I h) λv s1 ⟨x,H1,I1,r1,q1⟩=>?_)
 obtain ⟨c,rfl,q1⟩:=q1
 cases r1
 exact not_of (wpAny_truthy_bool ⟨.bl (!c),H1,I1,rfl,q1⟩)
def tIf(t:TT)(ta tb:TE):TE:=λσ H Q=>t σ H λc H1=>if c=true then ta σ H1 Q else tb σ H1 Q
theorem zue{c:Expr}(hc:PT X c tA)(ha:PE X a ta)(hb:PE X b tb):PE X (.IfExp c a b pos) (tIf tA ta tb):=by
 intro Ga s σ H Q I h
 refine wpAny_IfExp (thn (hc Ga s σ H _ I h) λd s1 ⟨H1,I1,q1⟩=>?_)
 cases d with
 | true=>exact ha Ga s1 σ H1 Q I1 q1
 | false=>exact hb Ga s1 σ H1 Q I1 q1
end
def SqL(K:PySem.W.Frag)(H:Hp)(a:Addr)(xs:List V):Prop :=
 Rd H a (.lst xs) \/
  ∃(o:Obj)(its:Array Value)(n:Nat),K.lookup a=some o/\o.cls = .type "list"/\o.dict=none/\o.data = .seq its n/\its.size<=sizeLine/\zi xs its.toList
def SqT(K:PySem.W.Frag)(H:Hp)(a:Addr)(xs:List V):Prop :=
 Rd H a (.tup xs) \/
  ∃(o:Obj)(its:Array Value)(n:Nat),K.lookup a=some o/\o.cls = .type "tuple"/\o.data = .seq its n/\its.size<=sizeLine/\zi xs its.toList
def zsS:Value->Option V
 | .none=>some .non
 | .bool b=>some (.bl b)
 | .int i _=>some (.int i)
 | .str x _=>some (.str x)
 | .bytes b _=>some (.byt b)
 | .float b _=>some (.flt b)
 | .ref a=>some (.ref a)
 | .type n=>some (.ty n)
 | _=>none
theorem zm.abs{x:V}{u:Value}(r:zm x u):zsS u=some x:=by
 cases x with
 | non=>cases r;rfl
 | bl _=>cases r;rfl
 | int _=>obtain ⟨t,rfl⟩:=r;rfl
 | str _=>obtain ⟨t,rfl⟩:=r;rfl
 | byt _=>obtain ⟨t,rfl⟩:=r;rfl
 | flt _=>obtain ⟨t,rfl⟩:=r;rfl
 | ref _=>cases r;rfl
 | ty _=>cases r;rfl
theorem zm.inj{x y:V}{u:Value}(r:zm x u)(q:zm y u):x=y:=Option.some.inj (r.abs.symm.trans q.abs)
theorem zi.inj:∀{xs ys:List V}{us:List Value},zi xs us->zi ys us->xs=ys
 | _,_,_,.nil,.nil=>rfl
 | _,_,_,.cons r t,.cons r' t'=>by rw [r.inj r',zi.inj t t']
section
variable {X:Cx}{Ga:List (Addr×Obj)}{σ:St}{H:Hp}{s:Shared}{a:Addr}{xs ys:List V}
theorem SqL.of{K:PySem.W.Frag}(h:H a=some (.lst xs)):SqL K H a xs:=.inl (.inl h)
theorem SqT.of{K:PySem.W.Frag}(h:H a=some (.tup xs)):SqT K H a xs:=.inl (.inl h)
theorem Inv.list(I:Inv X Ga σ H s)(h:SqL X.K H a xs):∃its:List Value,zi xs its/\PlainL s.heap a its.toArray/\xs.length<=sizeLine:=by
 rcases h with h|⟨o,its,n,hk,hc,hd,hs,hz,r⟩
 ·obtain ⟨z,its,n,r,e⟩:=h.ok I.hok
  exact ⟨its,r,⟨_,n,e,rfl,rfl,rfl⟩,z⟩
 ·refine ⟨its.toList,r,⟨o,n,I.kIn a o hk,hc,hd,by simpa using hs⟩,?_⟩
  have e:=r.length
  simp only [length_toList] at e
  omega
theorem Inv.tuple(I:Inv X Ga σ H s)(h:SqT X.K H a xs):∃its:List Value,zi xs its/\IsTup s.heap a its.toArray/\xs.length<=sizeLine:=by
 rcases h with h|⟨o,its,n,hk,hc,hs,hz,r⟩
 ·obtain ⟨z,its,r,p⟩:=h.ok I.hok
  exact ⟨its,r,p,z⟩
 ·refine ⟨its.toList,r,⟨o,I.kIn a o hk,hc,n,by simpa using hs⟩,?_⟩
  have e:=r.length
  simp only [length_toList] at e
  omega
theorem Inv.list_inj(I:Inv X Ga σ H s)(h:SqL X.K H a xs)(h':SqL X.K H a ys):xs=ys:=by
 obtain ⟨its,r,⟨o,n,e,_,_,d⟩,_⟩:=I.list h
 obtain ⟨its',r',⟨o',n',e',_,_,d'⟩,_⟩:=I.list h'
 rw [e] at e';cases e'
 rw [d] at d'
 injection d' with d1 _
 have:its=its':=by simpa using congrArg Array.toList d1
 subst this
 exact r.inj r'
theorem Inv.tuple_inj(I:Inv X Ga σ H s)(h:SqT X.K H a xs)(h':SqT X.K H a ys):xs=ys:=by
 obtain ⟨its,r,⟨o,e,_,n,d⟩,_⟩:=I.tuple h
 obtain ⟨its',r',⟨o',e',_,n',d'⟩,_⟩:=I.tuple h'
 rw [e] at e';cases e'
 rw [d] at d'
 injection d' with d1 _
 have:its=its':=by simpa using congrArg Array.toList d1
 subst this
 exact r.inj r'
end
abbrev Cx.wish(X:Cx)(E:Value->Shared->Prop):Cx:={ X with xe:=E }
abbrev Cx.nox(X:Cx):Cx:=X.wish λ_ _=>False
theorem Cx.Ok.wish{X:Cx}(ok:X.Ok)(E:Value->Shared->Prop):(X.wish E).Ok :=
 ⟨ok.mod,ok.kind,ok.glob,ok.blt,ok.above,ok.inj,ok.has,ok.cab,ok.hd,ok.frames,ok.stk,ok.exf,ok.bs,ok.bsz,ok.noex,ok.exfs,ok.funs,ok.frf⟩
theorem Cx.Ok.unwish{X:Cx}{E:Value->Shared->Prop}(ok:(X.wish E).Ok):X.Ok :=
 ⟨ok.mod,ok.kind,ok.glob,ok.blt,ok.above,ok.inj,ok.has,ok.cab,ok.hd,ok.frames,ok.stk,ok.exf,ok.bs,ok.bsz,ok.noex,ok.exfs,ok.funs,ok.frf⟩
section
variable {X:Cx}{Ga:List (Addr×Obj)}{σ:St}{H:Hp}{s:Shared}{E:Value->Shared->Prop}
theorem Inv.wish(I:Inv X Ga σ H s)(E:Value->Shared->Prop):Inv (X.wish E) Ga σ H s:=⟨I.ok.wish E,I.os,I.bare,I.base,I.loc,I.cell,I.free,I.freeC,I.pin,I.hok,I.len,I.hdk⟩
theorem Inv.unwish(I:Inv (X.wish E) Ga σ H s):Inv X Ga σ H s:=⟨I.ok.unwish,I.os,I.bare,I.base,I.loc,I.cell,I.free,I.freeC,I.pin,I.hok,I.len,I.hdk⟩
theorem SP.unwish{D:zah}{f:Flow}{s':Shared}(h:SP (X.wish E) Ga D f s'):SP X Ga D f s':=by
 cases f with
 | next=>obtain ⟨σ',H',I,q⟩:=h;exact ⟨σ',H',I.unwish,q⟩
 | brk=>obtain ⟨σ',H',I,q⟩:=h;exact ⟨σ',H',I.unwish,q⟩
 | cont=>obtain ⟨σ',H',I,q⟩:=h;exact ⟨σ',H',I.unwish,q⟩
 | ret u=>obtain ⟨v,σ',H',I,r,q⟩:=h;exact ⟨v,σ',H',I.unwish,r,q⟩
theorem PSs.nox{st:List Stmt}{t:TS}(h:PSs X.nox st t):PSs X st t:=λGa s σ H D I hw =>
 wpAny_mono (h Ga s σ H D (I.wish _) hw) (λ_ _ q=>q.unwish) λ_ _ z=>False.elim z
end
section
variable {X:Cx}{st:Stmt}{z9:List Stmt}{t u:TS}{e:Expr}{te:TE}{pos:Pos}
def zfX:TS:=λD σ H=>D.nx σ H
def zfI(t u:TS):TS:=λD σ H=>t { D with nx:=u D } σ H
theorem zkf:PSs X [] zfX:=λ_ _ σ H _ I h=>wpAny_execs_nil ⟨σ,H,I,h⟩
theorem zhO(h1:PS X st t)(h2:PSs X z9 u):PSs X (st::z9) (zfI t u):=by
 intro Ga s σ H D I h
 refine wpAny_execs_cons (thn (h1 Ga s σ H { D with nx:=u D } I h) λf s1 q=>?_)
 cases f with
 | next =>
  obtain ⟨σ',H',I',q⟩:=q
  exact h2 Ga s1 σ' H' D I' q
 | ret v=>exact q
 | brk=>exact q
 | cont=>exact q
theorem zgL(h1:PS X st t):PSs X [st] t:=by
 intro Ga s σ H D I h
 refine wpAny_execs_cons (thn (h1 Ga s σ H D I h) λf s1 q=>?_)
 cases f with
 | next=>exact wpAny_execs_nil q
 | ret v=>exact q
 | brk=>exact q
 | cont=>exact q
def zps:TS:=λD σ H=>D.bk σ H
def zr8:TS:=λD σ H=>D.ct σ H
theorem Inv.quiet{Ga:List (Addr×Obj)}{σ:St}{H:Hp}{s:Shared}(I:Inv X Ga σ H s):interactive X.env=false:=by simp [interactive,I.ok.kind]
def zgk(te:TE):TS:=λD σ H=>te σ H λ_ H1=>D.nx σ H1
theorem znA(he:PE X e te)(hs:swapsWith e none pos.line X.env=pure false:=by rfl):PS X (.Expr e pos) (zgk te):=by
 intro Ga s σ H D I h
 exact wpAny_Expr_any (thn (he Ga s σ H _ I h) λv s1 ⟨x,H1,I1,r1,q1⟩=>⟨σ,H1,I1,q1⟩) I.quiet hs
def zgp(te:TE):TS:=λD σ H=>te σ H D.rt
theorem zfV(he:PE X e te):PS X (.Return (some e) pos) (zgp te):=by
 intro Ga s σ H D I h
 exact wpAny_Return_some (thn (he Ga s σ H _ I h) λv s1 ⟨x,H1,I1,r1,q1⟩=>⟨x,σ,H1,I1,r1,q1⟩)
def zon:TS:=λD _ H=>D.rt .non H
def zgg(c:TT)(t u:TS):TS:=λD σ H=>c σ H λb H1=>if b=true then t D σ H1 else u D σ H1
theorem zhP{c:Expr}{a b:List Stmt}{tc:TT}(hc:PT X c tc)(ha:PSs X a t)(hb:PSs X b u):PS X (.If c a b pos) (zgg tc t u):=by
 intro Ga s σ H D I h
 refine wpAny_If (thn (hc Ga s σ H _ I h) λd s1 ⟨H1,I1,q1⟩=>?_)
 cases d with
 | true=>exact ha Ga s1 σ H1 D I1 q1
 | false=>exact hb Ga s1 σ H1 D I1 q1
end
abbrev TG:=V->St->Hp->(St->Hp->Prop)->Prop
abbrev TGs:=List V->St->Hp->(St->Hp->Prop)->Prop
def PG(X:Cx)(target:Expr)(t:TG):Prop :=
 ∀(Ga:List (Addr×Obj))(s:Shared)(σ:St)(H:Hp)(v:V)(u:Value)(Q:St->Hp->Prop),Inv X Ga σ H s->zm v u->t v σ H Q ->
  wpAny (model X.prog X.w) X.A (assign target X.env u) (λ_ s'=>∃σ' H',Inv X Ga σ' H' s'/\Q σ' H') X.xe s
def PGs(X:Cx)(ts:List Expr)(t:TGs):Prop :=
 ∀(Ga:List (Addr×Obj))(s:Shared)(σ:St)(H:Hp)(vs:List V)(us:List Value)(Q:St->Hp->Prop),Inv X Ga σ H s->zi vs us->t vs σ H Q ->
  wpAny (model X.prog X.w) X.A (assignInOrder ((assignEach ts X.env).map (·.2)) us) (λ_ s'=>∃σ' H',Inv X Ga σ' H' s'/\Q σ' H') X.xe s
abbrev zeR:=V->V->V->Hp->(Hp->Prop)->Prop
def zeD(X:Cx)(t:zeR):Prop :=
 ∀(Ga:List (Addr×Obj))(s:Shared)(σ:St)(H:Hp)(o i v:V)(ov iv u:Value)(Q:Hp->Prop),Inv X Ga σ H s->zm o ov->zm i iv->zm v u->t o i v H Q ->
  wpAny (model X.prog X.w) X.A (setItem ov iv u) (λ_ s'=>∃H',Inv X Ga σ H' s'/\Q H') X.xe s
abbrev TIp:=V->V->Hp->VK->Prop
section
variable {X:Cx}{pos:Pos}
def zaM(i:Nat):TG:=λv σ H Q=>Q (σ.set i (some v)) H
theorem zj3{i:Nat}{x:Str}(hN:X.N.Nodup)(hi:X.N[i]?=some x)(hx:Loc X.env.scope x)(hf:X.fn x=true\/X.env.scope.names.lookup x=some .local:=by first|exact .inl rfl|exact .inr rfl|assumption):PG X (.Name x pos) (zaM i):=by
 intro Ga s σ H v u Q I r h
 exact wpAny_assign_Name (zkm I hN hi hx r (λs' I'=>⟨_,H,I',h⟩) hf)
def zeV:TGs:=λvs σ H Q=>vs=[]/\Q σ H
def zcX(t:TG)(u:TGs):TGs:=λvs σ H Q=>∃v r,vs=v::r/\t v σ H λσ' H'=>u r σ' H' Q
theorem zm6:PGs X [] zeV:=by
 intro Ga s σ H vs us Q I r h
 obtain ⟨e,h⟩:=h
 subst e
 cases r
 exact assignInOrder_nil ⟨σ,H,I,h⟩
theorem zm0{e:Expr}{es:List Expr}{t:TG}{u:TGs}(h1:PG X e t)(h2:PGs X es u)
  (hs:(assignEach (e::es) X.env).map (·.2)=assign e X.env::(assignEach es X.env).map (·.2):=by rfl):PGs X (e::es) (zcX t u):=by
 intro Ga s σ H vs us Q I r h
 obtain ⟨v,vr,e1,h⟩:=h
 subst e1
 cases r with
 | cons r rr =>
  rw [hs]
  refine assignInOrder_cons (thn (h1 Ga s σ H _ _ _ I r h) λ_ s1 ⟨σ1,H1,I1,q1⟩=>?_)
  exact h2 Ga s1 σ1 H1 _ _ Q I1 rr q1
def zgK(K:PySem.W.Frag)(n:Nat)(t:TGs):TG:=λv σ H Q=>∃a xs,v = .ref a/\SqT K H a xs/\xs.length=n/\t xs σ H Q
def zgV(to ti:TE)(t:zeR):TG:=λv σ H Q=>to σ H λo H1=>ti σ H1 λi H2=>t o i v H2 λH3=>Q σ H3
theorem zla{o i:Expr}{to ti:TE}{t:zeR}(ho:PE X o to)(hi:PE X i ti)(hs:zeD X t)
  (ha:∀v,assign (.Subscript o i pos) X.env v=(do
   let ov<-holding [v] (eval o X.env)
   let iv<-holding [v,ov] (eval i X.env)
   standAt pos
   holding [v,ov,iv] (setItem ov iv v)
   release [v,ov,iv] []):=by intro _;rfl):PG X (.Subscript o i pos) (zgV to ti t):=by
 intro Ga s σ H v u Q I r h
 rw [ha]
 refine wpAny_bind (wpAny_holding (thn (ho Ga s σ H _ I h) λov s1 ⟨x,H1,I1,r1,q1⟩=>?_))
 refine wpAny_bind (wpAny_holding (thn (hi Ga s1 σ H1 _ I1 q1) λiv s2 ⟨y,H2,I2,r2,q2⟩=>?_))
 refine wpAny_bind (wpAny_standAt (wpAny_bind (wpAny_holding (thn (hs Ga s2 σ H2 x y v ov iv u _ I2 r1 r2 r q2) λ_ s3 ⟨H3,I3,q3⟩=>?_))))
 exact wpAny_release ⟨σ,H3,I3,q3⟩
def zcj(te:TE)(g:TG):TS:=λD σ H=>te σ H λx H1=>g x σ H1 D.nx
theorem zpR{tg e:Expr}{te:TE}{g:TG}(he:PE X e te)(hg:PG X tg g)(hs:swapsWithSole [tg] e pos.line X.env=pure false:=by rfl)(hw:swappedStores [tg] e X.env=pure none:=by rfl)
  (h1:(assignEach [tg] X.env).map (·.2)=[assign tg X.env]:=by rfl):PS X (.Assign [tg] e pos) (zcj te g):=by
 intro Ga s σ H D I h
 refine wpAny_Assign_stores (thn (he Ga s σ H _ I h) λv s1 ⟨x,H1,I1,r1,q1⟩=>?_) hs hw
 rw [h1]
 exact thn (hg Ga s1 σ H1 x v _ I1 r1 q1) λ_ s2 q=>q
theorem zq6{i:Nat}{x:Str}{e:Expr}{te:TE}{pos':Pos}(hN:X.N.Nodup)(hi:X.N[i]?=some x)(hx:Loc X.env.scope x)(he:PE X e te)(hs:swapsWith e (some (.Name x pos')) pos.line X.env=pure false:=by rfl)(hf:X.fn x=true\/X.env.scope.names.lookup x=some .local:=by first|exact .inl rfl|exact .inr rfl|assumption) :
  PS X (.Assign [.Name x pos'] e pos) (zcj te (zaM i)):=by
 intro Ga s σ H D I h
 refine wpAny_Assign_Name (thn (he Ga s σ H _ I h) λv s1 ⟨y,H1,I1,r1,q1⟩=>?_) hs
 exact zkm I1 hN hi hx r1 (λs2 I2=>⟨_,H1,I2,q1⟩) hf
def zoo(i:Nat)(te:TE)(ti:TIp):TS:=λD σ H=>∃x,σ[i]?=some (some x)/\te σ H λy H1=>ti x y H1 λz H2=>D.nx (σ.set i (some z)) H2
def ipI(f:Int->Int->Int):TIp:=λx y H Q=>∃i j,x = .int i/\y = .int j/\Q (.int (f i j)) H
end
structure It where
 go:Nat->Hp->Prop
 yld:Nat->Hp->V->Hp->Prop
 stop:Nat->Hp->Prop
def zS(X:Cx)(Ga:List (Addr×Obj))(H:Hp)(b:Addr):Prop :=
 H b=none/\b≠X.env.locals/\b∉X.fs/\(b∈X.ex\/X.s₀.heap.objs.size<=b)/\(∀x c,X.env.cells.lookup x=some c->c≠b)/\∀p∈X.pn++Ga,p.1≠b
theorem Inv.fpOk{X:Cx}{Ga:List (Addr×Obj)}{σ:St}{H H':Hp}{s:Shared}{b:Addr}(I:Inv X Ga σ H s)(hb:s.heap.objs.size<=b)(hn:H' b=none):zS X Ga H' b:=by
 refine ⟨hn,ne_of_gt (lt_of_lt_of_le I.lt hb),I.nofs hb,.inr (le_trans I.sz hb),λx c e z=>?_,λp hp z=>?_⟩
 ·obtain ⟨v,q⟩:=I.cell x c e
  exact absurd (lt_of_lt_of_le q.lt (by rw [z];exact hb)) (lt_irrefl _)
 ·exact absurd (lt_of_lt_of_le (lt_size (I.pin p hp).1) (by rw [z];exact hb)) (lt_irrefl _)
structure zbY(c:Bool)(P:Program)(w:World)(K:PySem.W.Frag)(tg:Expr)(J:It)(fp:List Addr)(it:Addr)(tn:Nat->Heap->Prop):Prop where
 mem:it∈fp
 obj:∀i h,tn i h->∀b∈fp,∃o,h.get? b=some o/\∀v,o.data≠.cell v
 keep:∀i h h',tn i h->(∀b∈fp,∀o,h.get? b=some o->h'.get? b=some o)->tn i h'
 item:∀(X:Cx),X.prog=P->X.w=w->X.K=K->(c=true->X.calm=true)->∀(i:Nat)(Ga:List (Addr×Obj))(s:Shared)(σ:St)(H:Hp)(E:Value->Shared->Prop),Inv X Ga σ H s->(∀b∈fp,zS X Ga H b)->tn i s.heap->J.go i H ->
  wpAny (model P w) X.A (pyNext (.ref it)) (λr s1=>∃u,r=some u /\
   wpAny (model P w) X.A (letOwnedTupleGo tg (.ref it) u) (λ_ s2=>∃x H',Inv X Ga σ H' s2/\zm x u/\J.yld i H x H'/\tn (i+1) s2.heap/\∀b∈fp,H' b=none) E s1) E s
 done:∀(X:Cx),X.prog=P->X.w=w->X.K=K->(c=true->X.calm=true)->∀(i:Nat)(Ga:List (Addr×Obj))(s:Shared)(σ:St)(H:Hp)(E:Value->Shared->Prop),Inv X Ga σ H s->(∀b∈fp,zS X Ga H b)->tn i s.heap->J.stop i H ->
  wpAny (model P w) X.A (pyNext (.ref it)) (λr s1=>r=none/\Inv X Ga σ H s1) E s
 self:∀(A:Around)(i:Nat)(s:Shared)(Q:Value->Shared->Prop)(E:Value->Shared->Prop),tn i s.heap->Q (.ref it) s->wpAny (model P w) A (pyIter (.ref it)) Q E s
abbrev TI:=St->Hp->(It->Hp->Prop)->Prop
def PIE(c:Bool)(X:Cx)(Ga:List (Addr×Obj))(σ:St)(tg:Expr)(R:It->Hp->Prop)(itv:Value)(s2:Shared):Prop :=
 ∃(it:Addr)(fp:List Addr)(tn:Nat->Heap->Prop)(J:It)(H':Hp),itv = .ref it/\Inv X Ga σ H' s2/\zbY c X.prog X.w X.K tg J fp it tn/\tn 0 s2.heap/\(∀b∈fp,zS X Ga H' b)/\R J H'
def PIc(c:Bool)(X:Cx)(tg iter:Expr)(wi:TI):Prop :=
 ∀(Ga:List (Addr×Obj))(s:Shared)(σ:St)(H:Hp)(R:It->Hp->Prop),Inv X Ga σ H s->wi σ H R ->
  wpAny (model X.prog X.w) X.A (eval iter X.env) (λv s1=>wpAny (model X.prog X.w) X.A (pyIter v) (PIE c X Ga σ tg R) X.xe s1) X.xe s
abbrev PI:=PIc true
theorem zdY{M:Model}{A:Around}{E:Value->Shared->Prop}{s:Shared}{tg:Expr}{it:Addr}{u:Value}{o:Obj}{n:String}{vs:Array Value}{Q:Unit->Shared->Prop}(ho:s.heap.get? it=some o)(hc:o.cls = .type n)(hd:o.data = .fields vs)
  (hn:["enumerate","zip","dict_itemiterator","dict_reverseitemiterator","odict_iterator","itertools.zip_longest","itertools.pairwise"].contains n=false) (hQ:Q () s):wpAny M A (letOwnedTupleGo tg (.ref it) u) Q E s:=by
 unfold letOwnedTupleGo
 cases tg<;>first
  | exact wpAny_pure hQ
  | (cases u<;>first
    | exact wpAny_pure hQ
    | (refine wpAny_bind (wpAny_load ho ?_)
       rw [hc, hd]
       show wpAny M A (if (["enumerate", "zip", "dict_itemiterator", "dict_reverseitemiterator", "odict_iterator", "itertools.zip_longest", "itertools.pairwise"].contains n && vs[0]? == some (rawInt _)) = true then _ else _) Q E s
       rw [if_neg (by intro h; rw [hn, Bool.false_and] at h; cases h)]
       exact wpAny_pure hQ))
def Itl(K:PySem.W.Frag)(a:Addr):It :=
 ⟨λi H=>∃xs x,SqL K H a xs/\xs[i]?=some x,λi H x H'=>H'=H/\∀xs,SqL K H a xs->xs[i]?=some x,λi H=>∃xs,SqL K H a xs/\xs.length<=i⟩
def Itt(K:PySem.W.Frag)(a:Addr):It :=
 ⟨λi H=>∃xs x,SqT K H a xs/\xs[i]?=some x,λi H x H'=>H'=H/\∀xs,SqT K H a xs->xs[i]?=some x,λi H=>∃xs,SqT K H a xs/\xs.length<=i⟩
def Itr(lo:Int)(n:Nat):It:=⟨λi _=>i<n,λi H x H'=>H'=H/\x = .int (lo+i),λi _=>n<=i⟩
theorem zkw{P:Program}{w:World}{K:PySem.W.Frag}{tg:Expr}(a it:Addr):zbY true P w K tg (Itl K a) [it] it (λi h=>h.IsListIter it a i) where
 mem:=by simp
 obj:=λi h st b hb=>by
  have e:b=it:=by simpa using hb
  subst e
  obtain ⟨o,e,c,d⟩:=st
  exact ⟨o,e,λv z=>by rw [d] at z;cases z⟩
 keep:=λi h h' st k=>st.at λo e=>k it (by simp) o e
 item:=by
  intro X hP hw hK hc i Ga s σ H E I hf st hg
  subst hP hw hK
  obtain ⟨xs,x,hq,hx⟩:=hg
  obtain ⟨its,rv,p,hz⟩:=I.list hq
  obtain ⟨u,hu,ru⟩:=rv.get hx
  obtain ⟨f0,f1,f2,f3,f4,f5⟩:=hf it (by simp)
  refine wpAny_pyNext_list_item st p.isList (x:=u) (by simpa using hu) λh' st' sb=>?_
  have I1:Inv X Ga σ H { s with heap:=h' }:=I.turned (t':=s.toks) (λb o hb e=>(sb.2 b hb).trans e) f0 f1 f3 f4 f5
  obtain ⟨o,e,c,d⟩:=id st'
  exact ⟨u,rfl,zdY (s:={ s with heap:=h' }) e c d (by decide) ⟨x,H,I1,ru,⟨rfl,λys hy=>by rw [I.list_inj hy hq];exact hx⟩,st',λb hb=>(hf b hb).1⟩⟩
 done:=by
  intro X hP hw hK hc i Ga s σ H E I hf st hg
  subst hP hw hK
  obtain ⟨xs,hq,hx⟩:=hg
  obtain ⟨its,rv,p,hz⟩:=I.list hq
  obtain ⟨f0,f1,f2,f3,f4,f5⟩:=hf it (by simp)
  have hl:=rv.length
  exact wpAny_pyNext_list_end (I.ok.hd (hc rfl)) st p.isList (by simp;omega) λh' eb=>⟨rfl,I.turned (t':=s.toks) (λb o hb e=>eb b o hb e) f0 f1 f3 f4 f5⟩
 self:=λ_ _ _ _ _ st h=>wpAny_pyIter_listiter st h
theorem zhL{P:Program}{w:World}{K:PySem.W.Frag}{tg:Expr}(a it:Addr):zbY true P w K tg (Itt K a) [it] it (λi h=>h.IsTupleIter it a i) where
 mem:=by simp
 obj:=λi h st b hb=>by
  have e:b=it:=by simpa using hb
  subst e
  obtain ⟨o,e,c,d⟩:=st
  exact ⟨o,e,λv z=>by rw [d] at z;cases z⟩
 keep:=λi h h' st k=>st.at λo e=>k it (by simp) o e
 item:=by
  intro X hP hw hK hc i Ga s σ H E I hf st hg
  subst hP hw hK
  obtain ⟨xs,x,hq,hx⟩:=hg
  obtain ⟨its,rv,p,hz⟩:=I.tuple hq
  obtain ⟨u,hu,ru⟩:=rv.get hx
  obtain ⟨f0,f1,f2,f3,f4,f5⟩:=hf it (by simp)
  refine wpAny_pyNext_tuple_item st (show s.heap.IsTuple a its.toArray from p) (x:=u) (by simpa using hu) λh' st' sb=>?_
  have I1:Inv X Ga σ H { s with heap:=h' }:=I.turned (t':=s.toks) (λb o hb e=>(sb.2 b hb).trans e) f0 f1 f3 f4 f5
  obtain ⟨o,e,c,d⟩:=id st'
  exact ⟨u,rfl,zdY (s:={ s with heap:=h' }) e c d (by decide) ⟨x,H,I1,ru,⟨rfl,λys hy=>by rw [I.tuple_inj hy hq];exact hx⟩,st',λb hb=>(hf b hb).1⟩⟩
 done:=by
  intro X hP hw hK hc i Ga s σ H E I hf st hg
  subst hP hw hK
  obtain ⟨xs,hq,hx⟩:=hg
  obtain ⟨its,rv,p,hz⟩:=I.tuple hq
  obtain ⟨f0,f1,f2,f3,f4,f5⟩:=hf it (by simp)
  have hl:=rv.length
  exact wpAny_pyNext_tuple_end (I.ok.hd (hc rfl)) st (show s.heap.IsTuple a its.toArray from p) (by simp;omega) λh' eb=>⟨rfl,I.turned (t':=s.toks) (λb o hb e=>eb b o hb e) f0 f1 f3 f4 f5⟩
 self:=λ_ _ _ _ _ st h=>wpAny_pyIter_tupleiter st h
theorem zmv{P:Program}{w:World}{K:PySem.W.Frag}{tg:Expr}(it:Addr)(lo:Int)(n:Nat):zbY true P w K tg (Itr lo n) [it] it (λi h=>IsRangeIter h it (lo+(i:Nat)*1) ((n:Int)-(i:Nat)) 1) where
 mem:=by simp
 obj:=λi h st b hb=>by
  have e:b=it:=by simpa using hb
  subst e
  exact ⟨_,st,λv z=>by
   have z':Data.fields _=Data.cell v:=z
   cases z'⟩
 keep:=λi h h' st k=>k it (by simp) _ st
 item:=by
  intro X hP hw hK hc i Ga s σ H E I hf st hg
  subst hP hw hK
  obtain ⟨f0,f1,f2,f3,f4,f5⟩:=hf it (by simp)
  have W:=Walks.range (prog:=X.prog) (w:=X.w) (I.ok.hd (hc rfl)) it lo 1 n
  refine W.item i s _ _ hg st λv h' tk hv st' kk=>?_
  obtain ⟨t,rfl⟩:=hv
  have I1:Inv X Ga σ H { s with heap:=h',toks:=tk }:=I.turned (λb o hb e=>kk b o (by simpa using hb) e) f0 f1 f3 f4 f5
  refine ⟨_,rfl,zdY (s:={ s with heap:=h',toks:=tk }) (n:="range_iterator") st' rfl rfl (by decide) ⟨.int (lo+i),H,I1,⟨t,?_⟩,⟨rfl,rfl⟩,st',λb hb=>(hf b hb).1⟩⟩
  rw [Int.mul_one]
 done:=by
  intro X hP hw hK hc i Ga s σ H E I hf st hg
  subst hP hw hK
  obtain ⟨f0,f1,f2,f3,f4,f5⟩:=hf it (by simp)
  exact wpAny_pyNext_range_end (I.ok.hd (hc rfl)) st (by have:n<=i:=hg;omega) λh' eb=>⟨rfl,I.turned (t':=s.toks) (λb o hb e=>eb b o hb e) f0 f1 f3 f4 f5⟩
 self:=λ_ _ _ _ _ st h=>wpAny_pyIter_rangeiter st h
section
variable {X:Cx}{tg:Expr}
def zfR(K:PySem.W.Frag)(tl:TE):TI:=λσ H R=>tl σ H λx H1=>∃a,x = .ref a/\(∃xs,SqL K H1 a xs)/\R (Itl K a) H1
def zeg(K:PySem.W.Frag)(tl:TE):TI:=λσ H R=>tl σ H λx H1=>∃a,x = .ref a/\(∃xs,SqT K H1 a xs)/\R (Itt K a) H1
theorem zpB{l:Expr}{tl:TE}(hl:PE X l tl):PI X tg l (zfR X.K tl):=by
 intro Ga s σ H R I h
 refine thn (hl Ga s σ H _ I h) λv s1 ⟨x,H1,I1,r1,q1⟩=>?_
 obtain ⟨a,e,⟨xs,hq⟩,q⟩:=q1
 subst e
 cases r1
 obtain ⟨its,rv,p,hz⟩:=I1.list hq
 refine wpAny_pyIter_list p.isList ?_
 refine ⟨s1.heap.objs.size,[s1.heap.objs.size],_,_,H1,rfl,I1.kept (t':=s1.toks) λb o e=>get?_push_of_some _ e,zkw a _,⟨_,get?_push_size _ rfl,rfl,rfl⟩,λb hb=>?_,q⟩
 have e:b=s1.heap.objs.size:=by simpa using hb
 subst e
 exact I1.fpOk (le_refl _) (I1.hok.fresh (le_refl _))
theorem zt0{l:Expr}{tl:TE}(hl:PE X l tl):PI X tg l (zeg X.K tl):=by
 intro Ga s σ H R I h
 refine thn (hl Ga s σ H _ I h) λv s1 ⟨x,H1,I1,r1,q1⟩=>?_
 obtain ⟨a,e,⟨xs,hq⟩,q⟩:=q1
 subst e
 cases r1
 obtain ⟨its,rv,p,hz⟩:=I1.tuple hq
 refine wpAny_pyIter_tuple (show s1.heap.IsTuple a its.toArray from p) ?_
 refine ⟨s1.heap.objs.size,[s1.heap.objs.size],_,_,H1,rfl,I1.kept (t':=s1.toks) λb o e=>get?_push_of_some _ e,zhL a _,⟨_,get?_push_size _ rfl,rfl,rfl⟩,λb hb=>?_,q⟩
 have e:b=s1.heap.objs.size:=by simpa using hb
 subst e
 exact I1.fpOk (le_refl _) (I1.hok.fresh (le_refl _))
theorem zre{Ga:List (Addr×Obj)}{σ:St}{H:Hp}{s:Shared}{R:It->Hp->Prop}{E:Value->Shared->Prop}{lo hi:Int}{t u v:Tok}{tk:Nat}(I:Inv X Ga σ H s)(h1 : -(2 ^ 62)<=lo)(h2:lo<2 ^ 62)(h3 : -(2 ^ 62)<=hi)(h4:hi<2 ^ 62)
  (q:R (Itr lo (hi-lo).toNat) H):wpAny (model X.prog X.w) X.A (pyIter (.ref s.heap.objs.size)) (PIE true X Ga σ tg R) E { s with heap:=s.heap.push { cls:=.type "range",data:=.fields #[.int lo t,.int hi u,.int 1 v] },toks:=tk }:=by
 refine wpAny_pyIter_range (IsRange.new ..) (small_one h1 h2 h3 h4) ?_
 have I1:Inv X Ga σ H { s with heap:=s.heap.push { cls:=.type "range",data:=.fields #[.int lo t,.int hi u,.int 1 v] },toks:=tk }:=I.kept λb o e=>get?_push_of_some _ e
 refine ⟨(s.heap.push { cls:=.type "range",data:=.fields #[.int lo t,.int hi u,.int 1 v] }).objs.size,[(s.heap.push { cls:=.type "range",data:=.fields #[.int lo t,.int hi u,.int 1 v] }).objs.size],_,_,H,rfl,
  I1.kept (t':=tk) λb o e=>get?_push_of_some _ e,zmv _ lo (hi-lo).toNat,?_,λb hb=>?_,q⟩
 ·have e1:lo+((0:Nat):Int)*1=lo:=by simp
  have e2:(((hi-lo).toNat:Nat):Int)-((0:Nat):Int)=Builtin.Range.rangeSize lo hi 1:=by rw [rangeSize_one];split<;>omega
  show IsRangeIter _ _ (lo+((0:Nat):Int)*1) ((((hi-lo).toNat:Nat):Int)-((0:Nat):Int)) 1
  rw [e1,e2]
  exact get?_push_size _ rfl
 ·have e:b=(s.heap.push { cls:=.type "range",data:=.fields #[.int lo t,.int hi u,.int 1 v] }).objs.size:=by simpa using hb
  subst e
  exact I1.fpOk (le_refl _) (I1.hok.fresh (le_refl _))
def zes(ta:TA):TI:=λσ H R=>ta σ H λvs H1=>∃j:Int,vs=[.int j]/\-(2 ^ 62)<=j/\j<2 ^ 62/\R (Itr 0 j.toNat) H1
def zq8(ta:TA):TI:=λσ H R=>ta σ H λvs H1=>∃i j:Int,vs=[.int i,.int j]/\(-(2 ^ 62)<=i/\i<2 ^ 62/\-(2 ^ 62)<=j/\j<2 ^ 62)/\R (Itr i (j-i).toNat) H1
theorem zrg{a:Expr}{ta:TA}{p pos:Pos}(hg:Gl X "range")(hm:X.mg "range"=none)(ha:PA X [a] ta)(hs:starEach [a] X.env=[(false,eval a X.env)]:=by rfl):PI X tg (.Call (.Name "range" p) [a] [] pos) (zes ta):=by
 intro Ga s σ H R I h
 refine Call_ (zeO I hg hm boot_range (PyProof.Rows.callWith_type1 (thn (ha pos Ga s σ H _ I h) λus s1 ⟨vs,H1,I1,r1,q1⟩=>?_) hs rfl))
 obtain ⟨j,e,q1,q2,q⟩:=q1
 subst e
 cases r1 with
 | cons r rr =>
  cases rr
  obtain ⟨t,rfl⟩:=r
  exact call_range_1 (zre I1 (by omega) (by omega) q1 q2 (by simpa using q))
def zgJ(wi:TI)(g:TG)(tb:TS):TS:=λD σ H=>wi σ H λJ H1=>∃W:Nat->Nat->St->Hp->Prop,(∃m,W 0 m σ H1)/\∀i m σ H,W i m σ H ->
 (J.stop i H/\D.nx σ H)\/(J.go i H/\∃N:St->Hp->Prop,(∀σ' H',N σ' H'->∃m',m'<m/\W (i+1) m' σ' H')/\∀x H',J.yld i H x H'->g x σ H' λσ2 H2=>tb { D with nx:=N,ct:=N,bk:=D.nx } σ2 H2)
def zby(fp:List Addr)(h:Heap):List (Addr×Obj):=fp.filterMap λb=>(h.get? b).map λo=>(b,o)
theorem zbG{fp:List Addr}{h:Heap}{b:Addr}{o:Obj}(hb:b∈fp)(e:h.get? b=some o):(b,o)∈zby fp h:=List.mem_filterMap.mpr ⟨b,hb,by rw [e];rfl⟩
theorem zhi{fp:List Addr}{h:Heap}{p:Addr×Obj}(hp:p∈zby fp h):p.1∈fp/\h.get? p.1=some p.2:=by
 obtain ⟨b,hb,e⟩:=List.mem_filterMap.mp hp
 cases q:h.get? b with
 | none=>rw [q] at e;cases e
 | some o =>
  rw [q] at e
  have e':(b,o)=p:=Option.some.inj e
  subst e'
  exact ⟨hb,q⟩
theorem Inv.pinned{Ga:List (Addr×Obj)}{σ:St}{H:Hp}{s:Shared}{fp:List Addr}(I:Inv X Ga σ H s)(hf:∀b∈fp,zS X Ga H b)(ho:∀b∈fp,∃o,s.heap.get? b=some o/\∀v,o.data≠.cell v):Inv X (Ga++zby fp s.heap) σ H s :=
 I.pins_of λp hp=>(mem_append.mp hp).elim (λz=>I.pin p (mem_append_right _ z)) λz=>by
  obtain ⟨hb,e⟩:=zhi z
  obtain ⟨f0,f1,f2,_⟩:=hf p.1 hb
  obtain ⟨o,e',d⟩:=ho p.1 hb
  rw [e] at e';cases e'
  exact ⟨e,f0,f1,f2,d⟩
theorem Inv.unpinned{Ga pl:List (Addr×Obj)}{σ:St}{H:Hp}{s:Shared}(I:Inv X (Ga++pl) σ H s):Inv X Ga σ H s:=I.pins_of λp hp=>I.pin p (mem_append_right _ (mem_append_left _ hp))
theorem zr9{c:Bool}{iter:Expr}{body:List Stmt}{wi:TI}{g:TG}{tb:TS}{pos:Pos}(hp:PassesOwn (model X.prog X.w) X.A X.env X.xe)(hc:c=true->X.calm=true)(hi:PIc c X tg iter wi)(hg:PG X tg g)(hb:PSs X body tb)
  (hs:∀x,foldedSetIterable iter X.env x=pure x:=by intro _;rfl):PS X (.For tg iter body [] pos) (zgJ wi g tb):=by
 intro Ga s σ H D I h
 refine wpAny_For (thn (hi Ga s σ H _ I h) λv s1 h1=>thn h1 λitv s2 h2=>?_) hs
 obtain ⟨it,fp,tn,J,H2,e,I2,T,st2,f2,W,⟨m0,w0⟩,turn⟩:=h2
 subst e
 have stat:∀{H':Hp},(∀b∈fp,H' b=none)->∀b∈fp,zS X Ga H' b:=λhn b hb=>⟨hn b hb,(f2 b hb).2⟩
 refine codeAny_forLoop_any (λn s'=>∃i σ' H',Inv X Ga σ' H' s'/\tn i s'.heap/\(∀b∈fp,H' b=none)/\W i n σ' H') ?_ m0 ⟨0,σ,H2,I2,st2,λb hb=>(f2 b hb).1,w0⟩
 rintro n s3 ⟨i,σ3,H3,I3,st3,fr3,w3⟩
 rcases turn i n σ3 H3 w3 with ⟨stop,qn⟩|⟨go,N,hN,step⟩
 ·refine wpAny_passesOwn hp (thn (T.done X rfl rfl rfl hc i Ga s3 σ3 H3 X.xe I3 (stat fr3) st3 stop) λr s4 ⟨hr,I4⟩=>?_)
  subst hr
  exact wpAny_execs_nil ⟨σ3,H3,I4,qn⟩
 ·refine wpAny_passesOwn hp (thn (T.item X rfl rfl rfl hc i Ga s3 σ3 H3 X.xe I3 (stat fr3) st3 go) λr s4 ⟨u,hr,h4⟩=>?_)
  subst hr
  refine wpAny_passesOwn hp (thn h4 λ_ s5 ⟨x,H5,I5,r5,y5,st5,fr5⟩=>?_)
  have I5':=I5.pinned (stat fr5) (T.obj _ _ st5)
  refine wpAny_passesOwn hp (thn (hg _ s5 σ3 H5 x u _ I5' r5 (step x H5 y5)) λ_ s6 ⟨σ6,H6,I6,q6⟩=>?_)
  refine wpAny_passesOwn hp (thn (hb _ s6 σ6 H6 _ I6 q6) λf s7 q7=>?_)
  have again:∀{σ7:St}{H7:Hp},Inv X (Ga++zby fp s5.heap) σ7 H7 s7->N σ7 H7->∃m,m<n/\∃i σ' H',Inv X Ga σ' H' s7/\tn i s7.heap/\(∀b∈fp,H' b=none)/\W i m σ' H':=λ{σ7 H7} I7 n7=>by
   obtain ⟨m',hm,w7⟩:=hN σ7 H7 n7
   refine ⟨m',hm,i+1,σ7,H7,I7.unpinned,T.keep _ _ _ st5 λb hb o e=>(I7.pin (b,o) (mem_append_right _ (mem_append_right _ (zbG hb e)))).1,λb hb=>?_,w7⟩
   obtain ⟨o,e,d⟩:=T.obj _ _ st5 b hb
   exact (I7.pin (b,o) (mem_append_right _ (mem_append_right _ (zbG hb e)))).2.1
  cases f with
  | next=>obtain ⟨σ7,H7,I7,n7⟩:=q7;exact again I7 n7
  | cont=>obtain ⟨σ7,H7,I7,n7⟩:=q7;exact again I7 n7
  | brk=>obtain ⟨σ7,H7,I7,q7⟩:=q7;exact ⟨σ7,H7,I7.unpinned,q7⟩
  | ret v=>obtain ⟨x7,σ7,H7,I7,r7,q7⟩:=q7;exact ⟨x7,σ7,H7,I7.unpinned,r7,q7⟩
end
theorem zmu{K:PySem.W.Frag}{a:Addr}{xs:List V}{g:TG}{tb:TS}{D:zah}{σ:St}{H:Hp}(Pv:Nat->St->Hp->Prop)(h0:Pv 0 σ H)(hl:∀i σ H,i<=xs.length->Pv i σ H->SqL K H a xs)
  (hs:∀i x σ H,xs[i]?=some x->Pv i σ H->g x σ H λσ2 H2=>tb { D with nx:=Pv (i+1),ct:=Pv (i+1),bk:=D.nx } σ2 H2) (hd:∀σ H,Pv xs.length σ H->D.nx σ H) :
  ∃W:Nat->Nat->St->Hp->Prop,(∃m,W 0 m σ H)/\∀i m σ H,W i m σ H ->
   ((Itl K a).stop i H/\D.nx σ H)\/((Itl K a).go i H/\∃N:St->Hp->Prop,(∀σ' H',N σ' H'->∃m',m'<m/\W (i+1) m' σ' H')/\∀x H',(Itl K a).yld i H x H'->g x σ H' λσ2 H2=>tb { D with nx:=N,ct:=N,bk:=D.nx } σ2 H2):=by
 refine ⟨λi m σ H=>m=xs.length-i/\i<=xs.length/\Pv i σ H,⟨xs.length,by simp,zero_le _,h0⟩,?_⟩
 rintro i m σ H ⟨rfl,hi,p⟩
 have q:=hl i σ H hi p
 by_cases hlt:i<xs.length
 ·refine .inr ⟨⟨xs,xs[i],q,by simp [hlt]⟩,Pv (i+1),λσ' H' p'=>⟨xs.length-(i+1),by omega,rfl,hlt,p'⟩,λx H' y=>?_⟩
  obtain ⟨e,y⟩:=y
  subst e
  exact hs i x σ _ (y xs q) p
 ·have e:i=xs.length:=by omega
  subst e
  exact .inl ⟨⟨xs,q,le_refl _⟩,hd σ H p⟩
theorem zl8{K:PySem.W.Frag}{a:Addr}{xs:List V}{g:TG}{tb:TS}{D:zah}{σ:St}{H:Hp}(Pv:Nat->St->Hp->Prop)(h0:Pv 0 σ H)(hl:∀i σ H,i<=xs.length->Pv i σ H->SqT K H a xs)
  (hs:∀i x σ H,xs[i]?=some x->Pv i σ H->g x σ H λσ2 H2=>tb { D with nx:=Pv (i+1),ct:=Pv (i+1),bk:=D.nx } σ2 H2) (hd:∀σ H,Pv xs.length σ H->D.nx σ H) :
  ∃W:Nat->Nat->St->Hp->Prop,(∃m,W 0 m σ H)/\∀i m σ H,W i m σ H ->
   ((Itt K a).stop i H/\D.nx σ H)\/((Itt K a).go i H/\∃N:St->Hp->Prop,(∀σ' H',N σ' H'->∃m',m'<m/\W (i+1) m' σ' H')/\∀x H',(Itt K a).yld i H x H'->g x σ H' λσ2 H2=>tb { D with nx:=N,ct:=N,bk:=D.nx } σ2 H2):=by
 refine ⟨λi m σ H=>m=xs.length-i/\i<=xs.length/\Pv i σ H,⟨xs.length,by simp,zero_le _,h0⟩,?_⟩
 rintro i m σ H ⟨rfl,hi,p⟩
 have q:=hl i σ H hi p
 by_cases hlt:i<xs.length
 ·refine .inr ⟨⟨xs,xs[i],q,by simp [hlt]⟩,Pv (i+1),λσ' H' p'=>⟨xs.length-(i+1),by omega,rfl,hlt,p'⟩,λx H' y=>?_⟩
  obtain ⟨e,y⟩:=y
  subst e
  exact hs i x σ _ (y xs q) p
 ·have e:i=xs.length:=by omega
  subst e
  exact .inl ⟨⟨xs,q,le_refl _⟩,hd σ H p⟩
theorem ztE{lo:Int}{n:Nat}{g:TG}{tb:TS}{D:zah}{σ:St}{H:Hp}(Pv:Nat->St->Hp->Prop)(h0:Pv 0 σ H)
  (hs:∀i σ H,i<n->Pv i σ H->g (.int (lo+i)) σ H λσ2 H2=>tb { D with nx:=Pv (i+1),ct:=Pv (i+1),bk:=D.nx } σ2 H2) (hd:∀σ H,Pv n σ H->D.nx σ H) :
  ∃W:Nat->Nat->St->Hp->Prop,(∃m,W 0 m σ H)/\∀i m σ H,W i m σ H ->
   ((Itr lo n).stop i H/\D.nx σ H)\/((Itr lo n).go i H/\∃N:St->Hp->Prop,(∀σ' H',N σ' H'->∃m',m'<m/\W (i+1) m' σ' H')/\∀x H',(Itr lo n).yld i H x H'->g x σ H' λσ2 H2=>tb { D with nx:=N,ct:=N,bk:=D.nx } σ2 H2):=by
 refine ⟨λi m σ H=>m=n-i/\i<=n/\Pv i σ H,⟨n,by simp,zero_le _,h0⟩,?_⟩
 rintro i m σ H ⟨rfl,hi,p⟩
 by_cases hlt:i<n
 ·refine .inr ⟨hlt,Pv (i+1),λσ' H' p'=>⟨n-(i+1),by omega,rfl,hlt,p'⟩,λx H' y=>?_⟩
  obtain ⟨e,y⟩:=y
  subst e y
  exact hs i σ _ hlt p
 ·have e:i=n:=by omega
  subst e
  exact .inl ⟨le_refl _,hd σ H p⟩
abbrev R2:=V->V->Hp->VK->Prop
def OpR(X:Cx)(f:Value->Value->Sem Value)(r:R2):Prop :=
 ∀(Ga:List (Addr×Obj))(s:Shared)(σ:St)(H:Hp)(x y:V)(v u:Value)(Q:VK),Inv X Ga σ H s->zm x v->zm y u->r x y H Q ->
  wpAny (model X.prog X.w) X.A (f v u) (EP X Ga σ Q) X.xe s
def zL(X:Cx)(f:Value)(r:List V->Hp->VK->Prop):Prop :=
 ∀(Ga:List (Addr×Obj))(s:Shared)(σ:St)(H:Hp)(xs:List V)(us:List Value)(Q:VK),Inv X Ga σ H s->zi xs us->r xs H Q ->
  wpAny (model X.prog X.w) X.A (call f us) (EP X Ga σ Q) X.xe s
def zlZ(X:Cx)(r:V->Hp->(Bool->Hp->Prop)->Prop):Prop :=
 ∀(Ga:List (Addr×Obj))(s:Shared)(σ:St)(H:Hp)(x:V)(v:Value)(Q:Bool->Hp->Prop),Inv X Ga σ H s->zm x v->r x H Q ->
  wpAny (model X.prog X.w) X.A (truthy v) (TP X Ga σ Q) X.xe s
def tOp(r:R2)(ta tb:TE):TE:=λσ H Q=>ta σ H λx H1=>tb σ H1 λy H2=>r x y H2 Q
def tUn(r:V->Hp->VK->Prop)(ta:TE):TE:=λσ H Q=>ta σ H λx H1=>r x H1 Q
def rI(C:Int->Int->Prop)(g:Int->Int->V):R2:=λx y H Q=>∃i j,x = .int i/\y = .int j/\C i j/\Q (g i j) H
def rI0(g:Int->Int->V):R2:=λx y H Q=>∃i j,x = .int i/\y = .int j/\Q (g i j) H
def rU(g:Int->V):V->Hp->VK->Prop:=λx H Q=>∃i,x = .int i/\Q (g i) H
section
variable {X:Cx}{a b c:Expr}{ta tb tc:TE}{pos:Pos}
theorem zgE(ha:PE X a ta)(hb:PE X b tb){Ga:List (Addr×Obj)}{s:Shared}{σ:St}{H:Hp}{R:V->V->Hp->Prop}(I:Inv X Ga σ H s)
  (h:ta σ H λx H1=>tb σ H1 λy H2=>R x y H2) {Q:Value->Shared->Prop}{f:Value->Value->Sem Value}
  (hf:∀v u s2 x y H2,Inv X Ga σ H2 s2->zm x v->zm y u->R x y H2->wpAny (model X.prog X.w) X.A (f v u) Q X.xe s2) :
  wpAny (model X.prog X.w) X.A (eval a X.env) (λv s₁=>wpAny (model X.prog X.w) X.A (eval b X.env) (λu s₂=>wpAny (model X.prog X.w) X.A (f v u) Q X.xe s₂) X.xe s₁) X.xe s:=by
 refine thn (ha Ga s σ H _ I h) λv s1 ⟨x,H1,I1,r1,q1⟩=>?_
 refine thn (hb Ga s1 σ H1 _ I1 q1) λu s2 ⟨y,H2,I2,r2,q2⟩=>?_
 exact hf v u s2 x y H2 I2 r1 r2 q2
theorem zmi{op:Operator}{r:R2}(ho:OpR X (binaryOp op) r)(ha:PE X a ta)(hb:PE X b tb):PE X (.BinOp a op b pos) (tOp r ta tb):=by
 intro Ga s σ H Q I h
 exact wpAny_BinOp (zgE ha hb I h λv u s2 x y H2 I2 rx ry q=>ho Ga s2 σ H2 x y v u Q I2 rx ry q)
theorem opI{f:Value->Value->Sem Value}{C:Int->Int->Prop}{g:Int->Int->Int}
  (rule:∀(i j:Int)(t u:Tok)(s:Shared)(Q:Value->Shared->Prop)(E:Value->Shared->Prop),C i j->Q (.int (g i j) s.toks) { s with toks:=s.toks+1 }->wpAny (model X.prog X.w) X.A (f (.int i t) (.int j u)) Q E s) :
  OpR X f (rI C λi j=>.int (g i j)):=by
 intro Ga s σ H x y v u Q I rx ry h
 obtain ⟨i,j,rfl,rfl,hc,q⟩:=h
 obtain ⟨t,rfl⟩:=rx
 obtain ⟨t',rfl⟩:=ry
 exact rule i j t t' s _ _ hc ⟨.int (g i j),H,I.tok _,⟨_,rfl⟩,q⟩
theorem zie{f:Value->Value->Sem Value}{g:Int->Int->Int}
  (rule:∀(i j:Int)(t u:Tok)(s:Shared)(Q:Value->Shared->Prop)(E:Value->Shared->Prop),Q (.int (g i j) s.toks) { s with toks:=s.toks+1 }->wpAny (model X.prog X.w) X.A (f (.int i t) (.int j u)) Q E s) :
  OpR X f (rI0 λi j=>.int (g i j)):=by
 intro Ga s σ H x y v u Q I rx ry h
 obtain ⟨i,j,rfl,rfl,q⟩:=h
 obtain ⟨t,rfl⟩:=rx
 obtain ⟨t',rfl⟩:=ry
 exact rule i j t t' s _ _ ⟨.int (g i j),H,I.tok _,⟨_,rfl⟩,q⟩
theorem zfC{f:Value->Value->Sem Value}{g:Int->Int->Bool}
  (rule:∀(i j:Int)(t u:Tok)(s:Shared)(Q:Value->Shared->Prop)(E:Value->Shared->Prop),Q (.bool (g i j)) s->wpAny (model X.prog X.w) X.A (f (.int i t) (.int j u)) Q E s) :
  OpR X f (rI0 λi j=>.bl (g i j)):=by
 intro Ga s σ H x y v u Q I rx ry h
 obtain ⟨i,j,rfl,rfl,q⟩:=h
 obtain ⟨t,rfl⟩:=rx
 obtain ⟨t',rfl⟩:=ry
 exact rule i j t t' s _ _ ⟨.bl (g i j),H,I,rfl,q⟩
def zuN(i j:Int):Prop:=0<j/\j<1073741824
def zll(i j:Int):Prop:=0<=j/\j<=1000000/\i.natAbs<2 ^ 64
def zdr(i j:Int):Prop:=(-(2 ^ 64)<i/\i<2 ^ 64)\/(-(2 ^ 64)<j/\j<2 ^ 64)
theorem zdr.ok{i j:Int}(h:zdr i j):IntMulOk i j:=by
 rcases h with ⟨h1,h2⟩|⟨h1,h2⟩
 ·exact .of_left (intBits_le_64 h1 h2)
 ·exact .of_right (intBits_le_64 h1 h2)
theorem zlF:OpR X (binaryOp .Add) (rI0 λi j=>.int (i+j)):=zie λ_ _ _ _ _ _ _ q=>add_int q
theorem ziv:OpR X (binaryOp .Sub) (rI0 λi j=>.int (i-j)):=zie λ_ _ _ _ _ _ _ q=>sub_int q
theorem zoW:OpR X (binaryOp .Mult) (rI zdr λi j=>.int (i*j)):=opI λ_ _ _ _ _ _ _ hc q=>mul_int q hc.ok
theorem zhn:OpR X (binaryOp .FloorDiv) (rI zuN λi j=>.int (i / j)):=opI λi j _ _ _ _ _ hc q=>by
 have h1:(0:Int)<j:=hc.1
 have h2:j<1073741824:=hc.2
 exact floordiv_int (by omega) (by rw [Int.fdiv_eq_ediv_of_nonneg i (by omega)];exact q) (.inl (PyProof.noPylong_small (by omega)))
theorem zcG:OpR X (binaryOp .Mod) (rI (λ_ j=>0<j) λi j=>.int (i % j)):=opI λi j _ _ _ _ _ hc q=>by
 have h1:(0:Int)<j:=hc
 exact mod_int' (by omega) (by rw [Int.fmod_eq_emod_of_nonneg i (by omega)];exact q)
theorem ze4:OpR X (binaryOp .Pow) (rI zll λi j=>.int (i ^ j.toNat)):=opI λ_ _ _ _ _ _ _ hc q=>pow_int_small hc.1 hc.2.1 hc.2.2 q
end
def zbr:V->V->Bool
 | .non,.non=>true | .non,.int _=>true | .int _,.non=>true | .non,.bl _=>true | .bl _,.non=>true | .non,.str _=>true | .str _,.non=>true
 | .int _,.int _=>true | .bl _,.bl _=>true | .str _,.str _=>true | .byt _,.byt _=>true
 | .int _,.str _=>true | .str _,.int _=>true | .bl _,.str _=>true | .str _,.bl _=>true
 | _,_=>false
def rEq:R2:=λx y H Q=>zbr x y=true/\Q (.bl (decide (x=y))) H
def rNe:R2:=λx y H Q=>zbr x y=true/\Q (.bl (!decide (x=y))) H
theorem ziu{i j:Int}:decide (V.int i=V.int j)=(i==j):=by
 rw [Bool.eq_iff_iff]
 simp
theorem ziX{i j:Bool}:decide (V.bl i=V.bl j)=(i==j):=by
 rw [Bool.eq_iff_iff]
 simp
theorem zhH{i j:Str}:decide (V.str i=V.str j)=(i==j):=by
 rw [Bool.eq_iff_iff]
 simp
theorem ziN{i j:Array UInt8}:decide (V.byt i=V.byt j)=(i.toList==j.toList):=by
 rw [Bool.eq_iff_iff]
 cases i
 cases j
 simp
section
variable {X:Cx}{a b c:Expr}{ta tb tc:TE}{pos:Pos}
theorem zT{Ga:List (Addr×Obj)}{σ:St}{H:Hp}{s:Shared}{Q:VK}{k k':Bool}(I:Inv X Ga σ H s)(q:Q (.bl k) H)(e:k=k'):EP X Ga σ Q (.bool k') s:=by
 subst e
 exact ⟨.bl k,H,I,rfl,q⟩
theorem zuL:OpR X (compareOp .Eq) rEq:=by
 intro Ga s σ H x y v u Q I rx ry h
 obtain ⟨hs,q⟩:=h
 cases x with
 | non =>
  cases rx
  cases y with
  | non=>cases ry;exact PySem.EqNone.eq_none_none (zT I q (by simp))
  | bl j=>cases ry;exact PySem.EqNone.eq_none_bool (zT I q (by simp))
  | int j=>obtain ⟨t',rfl⟩:=ry;exact PySem.EqNone.eq_none_int (zT I q (by simp))
  | str j=>obtain ⟨t',rfl⟩:=ry;exact PySem.EqNone.eq_none_str (zT I q (by simp))
  | _=>exact absurd (show false=true from hs) Bool.false_ne_true
 | bl i =>
  cases rx
  cases y with
  | non=>cases ry;exact PySem.EqNone.eq_bool_none (zT I q (by simp))
  | bl j=>cases ry;exact eq_bool (zT I q ziX)
  | str j=>obtain ⟨t',rfl⟩:=ry;exact PySem.EqMixed.eq_bool_str (zT I q (by simp))
  | _=>exact absurd (show false=true from hs) Bool.false_ne_true
 | int i =>
  obtain ⟨t,rfl⟩:=rx
  cases y with
  | non=>cases ry;exact PySem.EqNone.eq_int_none (zT I q (by simp))
  | int j=>obtain ⟨t',rfl⟩:=ry;exact eq_int (zT I q ziu)
  | str j=>obtain ⟨t',rfl⟩:=ry;exact PySem.EqMixed.eq_int_str (zT I q (by simp))
  | _=>exact absurd (show false=true from hs) Bool.false_ne_true
 | str i =>
  obtain ⟨t,rfl⟩:=rx
  cases y with
  | non=>cases ry;exact PySem.EqNone.eq_str_none (zT I q (by simp))
  | bl j=>cases ry;exact PySem.EqMixed.eq_str_bool (zT I q (by simp))
  | int j=>obtain ⟨t',rfl⟩:=ry;exact PySem.EqMixed.eq_str_int (zT I q (by simp))
  | str j=>obtain ⟨t',rfl⟩:=ry;exact eq_str (zT I q zhH)
  | _=>exact absurd (show false=true from hs) Bool.false_ne_true
 | byt i =>
  obtain ⟨t,rfl⟩:=rx
  cases y with
  | byt j=>obtain ⟨t',rfl⟩:=ry;exact PySem.W.eq_bytes (zT I q ziN)
  | _=>exact absurd (show false=true from hs) Bool.false_ne_true
 | _=>cases y<;>exact absurd (show false=true from hs) Bool.false_ne_true
theorem zu5:OpR X (compareOp .NotEq) rNe:=by
 intro Ga s σ H x y v u Q I rx ry h
 obtain ⟨hs,q⟩:=h
 cases x with
 | non =>
  cases rx
  cases y with
  | non=>cases ry;exact PySem.EqNone.ne_none_none (zT I q (by simp))
  | bl j=>cases ry;exact PySem.EqNone.ne_none_bool (zT I q (by simp))
  | int j=>obtain ⟨t',rfl⟩:=ry;exact PySem.EqNone.ne_none_int (zT I q (by simp))
  | str j=>obtain ⟨t',rfl⟩:=ry;exact PySem.EqNone.ne_none_str (zT I q (by simp))
  | _=>exact absurd (show false=true from hs) Bool.false_ne_true
 | bl i =>
  cases rx
  cases y with
  | non=>cases ry;exact PySem.EqNone.ne_bool_none (zT I q (by simp))
  | bl j=>cases ry;exact ne_bool (zT I q (congrArg not ziX))
  | str j=>obtain ⟨t',rfl⟩:=ry;exact PySem.EqMixed.ne_bool_str (zT I q (by simp))
  | _=>exact absurd (show false=true from hs) Bool.false_ne_true
 | int i =>
  obtain ⟨t,rfl⟩:=rx
  cases y with
  | non=>cases ry;exact PySem.EqNone.ne_int_none (zT I q (by simp))
  | int j=>obtain ⟨t',rfl⟩:=ry;exact ne_int (zT I q (congrArg not ziu))
  | str j=>obtain ⟨t',rfl⟩:=ry;exact PySem.EqMixed.ne_int_str (zT I q (by simp))
  | _=>exact absurd (show false=true from hs) Bool.false_ne_true
 | str i =>
  obtain ⟨t,rfl⟩:=rx
  cases y with
  | non=>cases ry;exact PySem.EqNone.ne_str_none (zT I q (by simp))
  | bl j=>cases ry;exact PySem.EqMixed.ne_str_bool (zT I q (by simp))
  | int j=>obtain ⟨t',rfl⟩:=ry;exact PySem.EqMixed.ne_str_int (zT I q (by simp))
  | str j=>obtain ⟨t',rfl⟩:=ry;exact ne_str (zT I q (congrArg not zhH))
  | _=>exact absurd (show false=true from hs) Bool.false_ne_true
 | byt i =>
  obtain ⟨t,rfl⟩:=rx
  cases y with
  | byt j=>obtain ⟨t',rfl⟩:=ry;exact PySem.W.ne_bytes (zT I q (congrArg not ziN))
  | _=>exact absurd (show false=true from hs) Bool.false_ne_true
 | _=>cases y<;>exact absurd (show false=true from hs) Bool.false_ne_true
theorem zjr:OpR X (compareOp .Lt) (rI0 λi j=>.bl (decide (i<j))):=zfC λ_ _ _ _ _ _ _ q=>lt_int q
theorem ziT:OpR X (compareOp .LtE) (rI0 λi j=>.bl (decide (i<=j))):=zfC λ_ _ _ _ _ _ _ q=>le_int q
theorem ziR:OpR X (compareOp .Gt) (rI0 λi j=>.bl (decide (j<i))):=zfC λ_ _ _ _ _ _ _ q=>gt_int q
theorem zmQ:OpR X (compareOp .Is) (λx y H Q=>y = .non/\Q (.bl (decide (x = .non))) H):=by
 intro Ga s σ H x y v u Q I rx ry h
 obtain ⟨rfl,q⟩:=h
 cases ry
 refine is_none_gen (zT I q ?_)
 cases x<;>first
  | (cases rx;rfl)
  | (obtain ⟨t,rfl⟩:=rx;rfl)
theorem zu2:OpR X (compareOp .IsNot) (λx y H Q=>y = .non/\Q (.bl (!decide (x = .non))) H):=by
 intro Ga s σ H x y v u Q I rx ry h
 obtain ⟨rfl,q⟩:=h
 cases ry
 refine isnot_none_gen (zT I q ?_)
 cases x<;>first
  | (cases rx;rfl)
  | (obtain ⟨t,rfl⟩:=rx;rfl)
theorem OpR.or{f:Value->Value->Sem Value}{r r':R2}(h:OpR X f r)(h':OpR X f r'):OpR X f (λx y H Q=>r x y H Q\/r' x y H Q):=by
 intro Ga s σ H x y v u Q I rx ry q
 rcases q with q|q
 ·exact h Ga s σ H x y v u Q I rx ry q
 ·exact h' Ga s σ H x y v u Q I rx ry q
theorem zal(b:Expr){op:CmpOp}(h:op≠.In:=by decide)(h2:op≠.NotIn:=by decide):behindInMarks op b=false:=by
 have e1:(op==CmpOp.In)=false:=by cases op<;>first|rfl|exact absurd rfl h
 have e2:(op==CmpOp.NotIn)=false:=by cases op<;>first|rfl|exact absurd rfl h2
 cases b<;>simp [behindInMarks,e1,e2]
theorem zul{op:CmpOp}{r:R2}(ho:OpR X (compareOp op) r)(ha:PE X a ta)(hb:PE X b tb)(hm:behindInMarks op b=false):PE X (.Compare a [op] [b] pos) (tOp r ta tb):=by
 intro Ga s σ H Q I h
 exact wpAny_Compare1 (zgE ha hb I h λv u s2 x y H2 I2 rx ry q=>ho Ga s2 σ H2 x y v u Q I2 rx ry q) hm
def zhd(t:TE):TT:=λσ H Q=>t σ H λx H'=>∃k,x = .bl k/\Q k H'
theorem zkt{op:CmpOp}{r:R2}(ho:OpR X (compareOp op) r)(ha:PE X a ta)(hb:PE X b tb)(hm:behindInMarks op b=false):PT X (.Compare a [op] [b] pos) (zhd (tOp r ta tb)):=by
 intro Ga s σ H Q I h
 refine wpAny_isTrue_Compare1 (thn (ha Ga s σ H _ I h) λv s1 ⟨x,H1,I1,r1,q1⟩=>thn (hb Ga s1 σ H1 _ I1 q1) λu s2 ⟨y,H2,I2,r2,q2⟩ =>
  thn (ho Ga s2 σ H2 x y v u _ I2 r1 r2 q2) λc s3 ⟨z,H3,I3,r3,k,e,q3⟩=>?_) hm
 subst e
 cases r3
 exact wpAny_truthy_bool ⟨H3,I3,q3⟩
def zgF(r r':R2)(ta tb tc:TE):TE:=λσ H Q=>ta σ H λx H1=>tb σ H1 λy H2=>r x y H2 λz H3=>∃k,z = .bl k /\
 (if k=true then tc σ H3 λw' H4=>r' y w' H4 Q else Q (.bl false) H3)
theorem zlq{op op':CmpOp}{r r':R2}(ho:OpR X (compareOp op) r)(ho':OpR X (compareOp op') r')(ha:PE X a ta)(hb:PE X b tb)(hc:PE X c tc)
  (hm:lastMarks [op,op'] [b,c]=false:=by with_unfolding_all rfl):PE X (.Compare a [op,op'] [b,c] pos) (zgF r r' ta tb tc):=by
 intro Ga s σ H Q I h
 refine Compare_chain (thn (ha Ga s σ H _ I h) λv s1 ⟨x,H1,I1,r1,q1⟩=>chain_link (thn (hb Ga s1 σ H1 _ I1 q1) λu s2 ⟨y,H2,I2,r2,q2⟩ =>
  thn (ho Ga s2 σ H2 x y v u _ I2 r1 r2 q2) λd s3 ⟨z,H3,I3,r3,k,e,q3⟩=>?_)) hm
 subst e
 cases r3
 refine wpAny_truthy_bool ?_
 cases k with
 | false=>exact ite_ff ⟨.bl false,H3,I3,rfl,q3⟩
 | true=>exact ite_tt (chain_last (thn (hc Ga s3 σ H3 _ I3 q3) λw' s4 ⟨z',H4,I4,r4,q4⟩=>ho' Ga s4 σ H4 y z' u w' Q I4 r2 r4 q4))
def zb7(K:PySem.W.Frag)(x:V)(H:Hp)(k:Bool):Prop :=
 match x with
 | .non=>k=false
 | .bl b=>k=b
 | .int i=>k=(i != 0)
 | .str y=>y.length<=sizeLine/\k=((y.length:Int) != 0)
 | .byt y=>y.size<=sizeLine/\k=((y.size:Int) != 0)
 | .ref p=>(∃xs,SqL K H p xs/\k = !xs.isEmpty)\/(∃xs,SqT K H p xs/\k = !xs.isEmpty)\/∃kvs,H p=some (.dK kvs)/\k = !kvs.isEmpty
 | _=>False
theorem zqG{κ:Type}{kvs:List (κ×V)}{vs:List (κ×Value)}(r:KV kvs vs):(!vs.isEmpty) = !kvs.isEmpty:=by
 cases r<;>rfl
theorem zkr{xs:List V}{its:List Value}(r:zi xs its):(!its.toArray.isEmpty) = !xs.isEmpty:=by
 cases r<;>simp
theorem zbZ:(sizeLine:Nat)<2 ^ 63:=by rw [sizeLine_eq];decide
theorem zmF:zlZ X (λx H Q=>∃k,zb7 X.K x H k/\Q k H):=by
 intro Ga s σ H x v Q I rx h
 obtain ⟨k,e,q⟩:=h
 have hl:=zbZ
 have hs:sizeLine=16777216:=sizeLine_eq
 cases x with
 | non =>
  cases rx
  have e':k=false:=e
  subst e'
  exact truthy_none ⟨H,I,q⟩
 | bl b =>
  cases rx
  have e':k=b:=e
  subst e'
  exact wpAny_truthy_bool ⟨H,I,q⟩
 | int i =>
  obtain ⟨t,rfl⟩:=rx
  have e':k=(i != 0):=e
  subst e'
  exact PySem.P.truthy_int ⟨H,I,q⟩
 | str y =>
  obtain ⟨t,rfl⟩:=rx
  obtain ⟨hy,e'⟩:y.length<=sizeLine/\k=((y.length:Int) != 0):=e
  subst e'
  exact PySem.P.truthy_str (by omega) ⟨H,I.tok _,q⟩
 | byt y =>
  obtain ⟨t,rfl⟩:=rx
  obtain ⟨hy,e'⟩:y.size<=sizeLine/\k=((y.size:Int) != 0):=e
  subst e'
  exact PySem.W.truthy_bytes (by omega) ⟨H,I.tok _,q⟩
 | ref p =>
  cases rx
  have e':(∃xs,SqL X.K H p xs/\k = !xs.isEmpty)\/(∃xs,SqT X.K H p xs/\k = !xs.isEmpty)\/∃kvs,H p=some (.dK kvs)/\k = !kvs.isEmpty:=e
  rcases e' with ⟨xs,hx,e'⟩|⟨xs,hx,e'⟩|⟨kvs,hx,e'⟩
  ·subst e'
   obtain ⟨its,r,pl,hz⟩:=I.list hx
   have hlen:=r.length
   exact wpAny_truthy_list pl.isList (by simp only [size_toArray];omega) ⟨H,I.tok _,by rw [zkr r];exact q⟩
  ·subst e'
   obtain ⟨its,r,pl,hz⟩:=I.tuple hx
   have hlen:=r.length
   exact truthy_tuple pl (by simp only [size_toArray];omega) ⟨H,I.tok _,by rw [zkr r];exact q⟩
  ·subst e'
   obtain ⟨hz,hS,vs,r,m⟩:kvs.length<=sizeLine/\(p==sysModules)=false/\∃vs,KV kvs vs/\s.heap.DictOf (zW X.prog X.w) p vs:=I.hok p _ hx
   have hlen:kvs.length=vs.length:=Paired.length r
   exact wpAny_truthy_dict hS m (by omega) ⟨H,I.tok _,by rw [zqG r];exact q⟩
 | _=>exact (show False from e).elim
theorem zus(ha:PE X a ta)(he:∀whole,isTrue a X.env whole=(do let v<-whole;standAt a.pos;holding [v] (truthy v))) :
  PT X a (λσ H Q=>ta σ H λx H'=>∃k,zb7 X.K x H' k/\Q k H'):=by
 intro Ga s σ H Q I h
 exact isTrue_plain (thn (ha Ga s σ H _ I h) λv s1 ⟨x,H1,I1,r1,q1⟩=>zmF Ga s1 σ H1 x v Q I1 r1 q1) (he _)
theorem zrE:OpR X (binaryOp .Add) (λx y H Q=>∃i j,x = .str i/\y = .str j/\i.length+j.length<=sizeLine/\Q (.str (i++j)) H):=by
 intro Ga s σ H x y v u Q I rx ry h
 obtain ⟨i,j,rfl,rfl,hz,q⟩:=h
 obtain ⟨t,rfl⟩:=rx
 obtain ⟨t',rfl⟩:=ry
 exact add_str (λt' tk=>⟨.str (i++j),H,I.tok _,⟨_,rfl⟩,q⟩) hz
theorem zaR{x:V}{us:List Value}(r:zi [x] us):∃u,us=[u]/\zm x u:=by
 cases r with
 | cons r1 r2=>cases r2;exact ⟨_,rfl,r1⟩
theorem zfu{x y:V}{us:List Value}(r:zi [x,y] us):∃u w',us=[u,w']/\zm x u/\zm y w':=by
 cases r with
 | cons r1 r2 =>
  cases r2 with
  | cons r3 r4=>cases r4;exact ⟨_,_,rfl,r1,r3⟩
theorem zsL(hc:X.calm=true):zL X (.builtin "max") (λxs H Q=>∃i j,xs=[.int i,.int j]/\Q (.int (if j>i then j else i)) H):=by
 intro Ga s σ H xs us Q I r h
 obtain ⟨i,j,rfl,q⟩:=h
 obtain ⟨u,w',rfl,⟨t,rfl⟩,⟨t',rfl⟩⟩:=zfu r
 refine max_two_ints (I.ok.hd hc) λh' tk k=>⟨_,H,I.kept k,?_,q⟩
 by_cases hj:j>i
 ·rw [if_pos hj,if_pos hj];exact ⟨_,rfl⟩
 ·rw [if_neg hj,if_neg hj];exact ⟨_,rfl⟩
theorem zpK(hc:X.calm=true):zL X (.builtin "min") (λxs H Q=>∃i j,xs=[.int i,.int j]/\Q (.int (if j<i then j else i)) H):=by
 intro Ga s σ H xs us Q I r h
 obtain ⟨i,j,rfl,q⟩:=h
 obtain ⟨u,w',rfl,⟨t,rfl⟩,⟨t',rfl⟩⟩:=zfu r
 refine min_two_ints (I.ok.hd hc) λh' tk k=>⟨_,H,I.kept k,?_,q⟩
 by_cases hj:j<i
 ·rw [if_pos hj,if_pos hj];exact ⟨_,rfl⟩
 ·rw [if_neg hj,if_neg hj];exact ⟨_,rfl⟩
end
structure zcb(h:Heap)(x dx C:Addr)(mA:Str->Option Value):Prop where
 obj:h.get? x=some (instObj C dx)
 ns:h.Ns1 dx mA
 ne:dx≠x
theorem znF{h:Heap}{dx:Addr}{mA:Str->Option Value}(n:h.Ns1 dx mA):∃od,h.get? dx=some od/\∀name,lookIn name od=some (mA name):=by
 obtain ⟨o,es,ep,ho,hd,hk,_,hm⟩:=n
 refine ⟨o,ho,λname=>?_⟩
 have e:=hm name
 unfold nsFind findBy at e
 rw [<- Array.find?_toList] at e
 unfold lookIn
 rw [hd]
 dsimp only
 split
 ·rename_i y q
  rw [q] at e
  exact congrArg some e
 ·rename_i q
  rw [q] at e
  have a:es.toList.any (·.refKey)=false:=by
   rw [List.any_eq_false]
   intro y hy
   obtain ⟨z,t,hkey⟩:=hk y (Array.mem_toList_iff.mp hy)
   simp [DictEntry.refKey,hkey]
  have a' : ¬ es.toList.any (·.refKey)=true:=by rw [a];exact Bool.false_ne_true
  rw [if_neg a']
  exact congrArg some e
theorem zcb.look{h:Heap}{x dx C:Addr}{mA:Str->Option Value}(I:zcb h x dx C mA):∃od,PySem.W.InstAt h x (instObj C dx) C (some od)/\∀name,lookIn name od=some (mA name) :=
 let ⟨od,ho,hl⟩:=znF I.ns
 ⟨od,⟨I.obj,rfl,rfl,ho⟩,hl⟩
section
variable {prog:Program}{w:World}{A:Around}{E:Value->Shared->Prop}{s:Shared}{K:PySem.W.Frag}{x dx C f:Addr}{mA:Str->Option Value}{name:Str}{v:Value}
theorem zru{expr:Bool}{Q:Value->Shared->Prop}(X:K.In s.heap)(I:zcb s.heap x dx C mA)(hg:plainGet K C name=true)(hh:hasDictIn K C=true)
  (ha:PySem.W.findIn K (.ref C) name=some none) (hv:mA name=some v) (hv':handedIn v=true) (h:Q v { s with toks:=s.toks+1 }) :
  wpAny (model prog w) A (getAttr (.ref x) name expr) Q E s:=by
 obtain ⟨od,J,hl⟩:=I.look
 exact PySem.W.get_value X J (plainGet_of hg).1 (PySem.W.findObj_own hh ha rfl (by rw [hl,hv])) hv' h
theorem zu4{pl:Sem Bool}{Q:Value×List Value->Shared->Prop}(X:K.In s.heap)(I:zcb s.heap x dx C mA)(hg:plainGet K C name=true)
  (hf:PySem.W.findIn K (.ref C) name=some (some (.ref f))) (ht:isFn K (.ref f)=true) (hv:mA name=none) (h:Q (.ref f,[.ref x]) s) :
  wpAny (model prog w) A (getMethod (.ref x) name pl) Q E s:=by
 obtain ⟨od,J,hl⟩:=I.look
 exact PySem.W.method_fn X J (plainGet_of hg).1 (plainGet_of hg).2 hf (beq_iff_eq.mp ht) (by show (lookIn name od).map (·.isSome)=some false;rw [hl,hv];rfl) h
theorem zqq{ns:List Str}{Q:Unit->Shared->Prop}(X:K.In s.heap)(I:zcb s.heap x dx C mA)
  (hs:PySem.W.findIn K (.ref C) "__setattr__"=some (some (.builtin "object.__setattr__"))) (hp:plainOver K C=true) (ht:takerIn K C name=some none) (hh:hasDictIn K C=true)
  (hw:PySem.Within mA ns) (hsz:ns.length<=sizeLine)
  (h:∀h',zcb h' x dx C (λy=>if y=name then some v else mA y)->SameBut dx s.heap h'->Q () { s with heap:=h',toks:=s.toks+2 }) :
  wpAny (model prog w) A (setAttr (.ref x) name v) Q E s:=by
 obtain ⟨od,J,hl⟩:=I.look
 refine PySem.W.set_plain X J hs (PySem.W.osa_open (s:={ s with toks:=s.toks+1 }) (r:=none) X J hp ht λb=>?_)
 obtain ⟨cd,hc,hd'⟩:=PySem.W.any_some hh
 have hx:s.heap.get? x=some ⟨.ref C,some dx,.plain,#[]⟩:=I.obj
 refine wpAny_bind (wpAny_pure (wpAny_bind (wpAny_bind (wpAny_loadPart hx (wpAny_bind (PySem.W.Looks.here (s:={ s with toks:=s.toks+1 }) (PySem.W.looks_clsIn X hc) ?_))))))
 rw [hd']
 refine wpAny_pure (a:=some dx) (wpAny_bind (wpAny_pure (wpAny_bind ?_)))
 refine wpAny_nsSet1 (s:={ s with toks:=s.toks+1 }) I.ns λh' hn2 hs2=>?_
 obtain ⟨oD,esD,epD,hoD,hdD,hcD⟩:=hn2.count (PySem.Within.cons name v hw)
 refine wpAny_bind (wpAny_lookBehind hoD (by rw [hdD];exact pastItsLine_dict (le_trans hcD (by rw [length_cons];omega))) ?_)
 exact wpAny_pure (h _ ⟨(hs2.2 _ (Ne.symm I.ne)).trans I.obj,hn2,I.ne⟩ hs2)
theorem zmy{R:Result->Shared->Prop}{vs:List Value}{kw:List (Str×Value)}(X:K.In s.heap)(hm:makesIn K C=true)
  (hi:PySem.W.findIn K (.ref C) "__init__"=some (some (.ref f))) (hf:PySem.W.typeIn K (.ref f)=some (.type "function"))
  (h:codeAny (model prog w) (A.under (.builtin "type.__call__" ⟨.ref C::vs,kw⟩)) (.call (.ref f) ⟨.ref (s.heap.objs.size+1)::vs,kw⟩) (PySem.W.InitBack (s.heap.objs.size+1) R)
   { s with heap:=(s.heap.push emptyDict).push (instObj C s.heap.objs.size) }) :
  codeAny (model prog w) A (.call (.ref C) ⟨vs,kw⟩) R s:=by
 obtain ⟨hh,g,d,t,os⟩:=s
 exact PySem.W.make_core (PySem.W.makes_of X hm) (PySem.W.looks_findIn X hi) (λself=>PySem.W.bind_fn X self hf) (.inl rfl) h
end
def zN(f:Str)(v:V):List (Str×V)->List (Str×V)
 | []=>[(f,v)]
 | (g,x)::r=>if g=f then (g,v)::r else (g,x)::zN f v r
theorem zhT(f g:Str)(v:V):∀fs:List (Str×V),(zN f v fs).lookup g=if g=f then some v else fs.lookup g
 | []=>by
  show List.lookup g [(f,v)]=_
  by_cases h:g=f
  ·have hb:(g==f)=true:=beq_iff_eq.mpr h
   simp only [List.lookup,hb,if_pos h]
  ·have hb:(g==f)=false:=beq_eq_false_iff_ne.mpr h
   simp only [List.lookup,hb,if_neg h]
 | (k,x)::r=>by
  have ih:=zhT f g v r
  rw [show zN f v ((k,x)::r)=(if k=f then (k,v)::r else (k,x)::zN f v r) from rfl]
  by_cases hk:k=f
  ·rw [if_pos hk]
   by_cases h:g=k
   ·have hb:(g==k)=true:=beq_iff_eq.mpr h
    simp only [List.lookup,hb,if_pos (h.trans hk)]
   ·have hb:(g==k)=false:=beq_eq_false_iff_ne.mpr h
    simp only [List.lookup,hb,if_neg (λe:g=f=>h (e.trans hk.symm))]
  ·rw [if_neg hk]
   by_cases h:g=k
   ·have hb:(g==k)=true:=beq_iff_eq.mpr h
    simp only [List.lookup,hb,if_neg (λe:g=f=>hk (h.symm.trans e))]
   ·have hb:(g==k)=false:=beq_eq_false_iff_ne.mpr h
    simp only [List.lookup,hb]
    exact ih
theorem zft(f:Str)(v:V):∀fs:List (Str×V),f∈(zN f v fs).map (·.1)/\∀g,g∈fs.map (·.1)->g∈(zN f v fs).map (·.1)
 | []=>⟨by simp [zN],λg h=>by simp at h⟩
 | (k,x)::r=>by
  obtain ⟨i1,i2⟩:=zft f v r
  rw [show zN f v ((k,x)::r)=(if k=f then (k,v)::r else (k,x)::zN f v r) from rfl]
  by_cases hk:k=f
  ·rw [if_pos hk]
   subst hk
   exact ⟨by simp,λg h=>by simpa using h⟩
  ·rw [if_neg hk]
   refine ⟨?_,λg h=>?_⟩
   ·rw [map_cons]
    exact mem_cons_of_mem _ i1
   ·rw [map_cons] at h ⊢
    rcases mem_cons.mp h with e|e
    ·exact mem_cons.mpr (.inl e)
    ·exact mem_cons_of_mem _ (i2 g e)
theorem zjF(f:Str)(v:V):∀fs:List (Str×V),(zN f v fs).length<=fs.length+1
 | []=>by simp [zN]
 | (k,x)::r=>by
  have ih:=zjF f v r
  rw [show zN f v ((k,x)::r)=(if k=f then (k,v)::r else (k,x)::zN f v r) from rfl]
  by_cases hk:k=f
  ·rw [if_pos hk,length_cons,length_cons];omega
  ·rw [if_neg hk,length_cons,length_cons];omega
theorem zat.some_of{v:V}{o:Option Value}(r:zat (some v) o):∃u,o=some u/\zm v u:=by
 cases o with
 | none=>exact (show False from r).elim
 | some u=>exact ⟨u,rfl,r⟩
theorem zat.none_of{o:Option Value}(r:zat none o):o=none:=by
 cases o with
 | none=>rfl
 | some u=>exact (show False from r).elim
theorem zmB{v:V}{u:Value}(r:zm v u):handedIn u=true:=by
 cases v with
 | non=>cases (show u=Value.none from r);rfl
 | bl b=>cases (show u=Value.bool b from r);rfl
 | int i=>obtain ⟨t,e⟩:=(show ∃t,u=Value.int i t from r);cases e;rfl
 | str x=>obtain ⟨t,e⟩:=(show ∃t,u=Value.str x t from r);cases e;rfl
 | byt b=>obtain ⟨t,e⟩:=(show ∃t,u=Value.bytes b t from r);cases e;rfl
 | flt b=>obtain ⟨t,e⟩:=(show ∃t,u=float b t from r);cases e;rfl
 | ref a=>cases (show u=Value.ref a from r);rfl
 | ty n=>cases (show u=type n from r);rfl
section
variable {P:Program}{w:World}{H H':Hp}{h h':Heap}{a C dx:Addr}{fs fs':List (Str×V)}
theorem zez(hok:HOk P w H h)(e:H a=some (.ins C dx fs)):∃mA,zcb h a dx C mA/\(∀f,zat (fs.lookup f) (mA f))/\PySem.Within mA (fs.map (·.1))/\fs.length<=1000/\H dx=some (.own a):=by
 obtain ⟨d,z,ne,ob,mA,n,r,q⟩:=(show zV P w H h a (.ins C dx fs) from hok a _ e)
 exact ⟨mA,⟨ob,n,ne⟩,r,q,z,d⟩
end
structure Cls(K:PySem.W.Frag)(C:Addr):Prop where
 pg:plainGet K C Str.empty=true
 hd:hasDictIn K C=true
 po:plainOver K C=true
 sa:PySem.W.findIn K (.ref C) "__setattr__"=some (some (.builtin "object.__setattr__"))
theorem Cls.get{K:PySem.W.Frag}{C:Addr}(c:Cls K C)(f:Str):plainGet K C f=true:=c.pg
def zaT(K:PySem.W.Frag)(C:Addr)(f:Str):Prop:=PySem.W.findIn K (.ref C) f=some none
theorem zaT.taker{K:PySem.W.Frag}{C:Addr}{f:Str}(n:zaT K C f):takerIn K C f=some none:=by
 unfold takerIn
 rw [show PySem.W.findIn K (.ref C) f=some none from n]
 rfl
structure zdC(K:PySem.W.Frag)(C:Addr)(m:Str)(f:Addr):Prop where
 at_:PySem.W.findIn K (.ref C) m=some (some (.ref f))
 fn:isFn K (.ref f)=true
 kp:keepIn K (.ref f)=true
section
variable {X:Cx}{Ga:List (Addr×Obj)}{σ:St}{H:Hp}{s:Shared}{a C dx:Addr}{fs:List (Str×V)}{f:Str}{v:V}{A:Around}{E:Value->Shared->Prop}
theorem zmw{b:Bool}{Q:Value->Shared->Prop}(I:Inv X Ga σ H s)(e:H a=some (.ins C dx fs))(c:Cls X.K C)(n:zaT X.K C f)(l:fs.lookup f=some v)
  (h:∀u s',Inv X Ga σ H s'->zm v u->Q u s'):wpAny (model X.prog X.w) A (getAttr (.ref a) f b) Q E s:=by
 obtain ⟨mA,O,r,_,_,_⟩:=zez I.hok e
 obtain ⟨u,hu,ru⟩:=zat.some_of (v:=v) (o:=mA f) (by rw [<- l];exact r f)
 exact zru I.kIn O (c.get f) c.hd n hu (zmB ru) (h u _ (I.tok _) ru)
theorem zga{m:Str}{g:Addr}{pl:Sem Bool}{Q:Value×List Value->Shared->Prop}(I:Inv X Ga σ H s)(e:H a=some (.ins C dx fs))(c:Cls X.K C)(k:zdC X.K C m g)(l:fs.lookup m=none)
  (h:Q (.ref g,[.ref a]) s):wpAny (model X.prog X.w) A (getMethod (.ref a) m pl) Q E s:=by
 obtain ⟨mA,O,r,_,_,_⟩:=zez I.hok e
 have hn:mA m=none:=zat.none_of (by rw [<- l];exact r m)
 exact zu4 I.kIn O (c.get m) k.at_ k.fn hn h
theorem zkJ{y:V}{u:Value}{Q:Unit->Shared->Prop}(I:Inv X Ga σ H s)(e:H a=some (.ins C dx fs))(c:Cls X.K C)(n:zaT X.K C f)(hl:fs.length<1000)(ry:zm y u)
  (h:∀s',Inv X Ga σ (upd H a (.ins C dx (zN f y fs))) s'->Q () s'):wpAny (model X.prog X.w) A (setAttr (.ref a) f u) Q E s:=by
 obtain ⟨mA,O,r,wi,_,ho⟩:=zez I.hok e
 have hz:(fs.map (·.1)).length<=sizeLine:=by rw [length_map,sizeLine_eq];omega
 refine zqq I.kIn O c.sa c.po n.taker c.hd wi hz λh' O' sb=>h _ ?_
 have hd:∃o,h'.get? dx=some o:=let ⟨o,_,_,e',_⟩:=O'.ns;⟨o,e'⟩
 refine I.write (x:=a) (e:=dx) (by rw [e];exact True.intro) (.inr ho) (λb q hb z=>(sb.2 b hb).trans z) hd ?_
 refine ⟨by rw [ze O.ne];exact ho,?_,O.ne,O'.obj,_,O'.ns,λg=>?_,λg hg=>?_⟩
 ·have:=zjF f y fs;omega
 ·show zat ((zN f y fs).lookup g) (if g=f then some u else mA g)
  rw [zhT]
  by_cases q:g=f
  ·rw [if_pos q,if_pos q];exact ry
  ·rw [if_neg q,if_neg q];exact r g
 ·by_cases q:g=f
  ·rw [q];exact (zft f y fs).1
  ·refine (zft f y fs).2 g (wi g λz=>hg ?_)
   show (if g=f then some u else mA g)=none
   rw [if_neg q];exact z
theorem Inv.made(I:Inv X Ga σ H s):Inv X Ga σ (upd (upd H s.heap.objs.size (.own (s.heap.objs.size+1))) (s.heap.objs.size+1) (.ins C s.heap.objs.size []))
  { s with heap:=(s.heap.push emptyDict).push (instObj C s.heap.objs.size) }:=by
 have e1:(s.heap.push emptyDict).get? s.heap.objs.size=some emptyDict:=get?_push_size s.heap rfl
 have e2:((s.heap.push emptyDict).push (instObj C s.heap.objs.size)).get? (s.heap.objs.size+1)=some (instObj C s.heap.objs.size):=by
  have:=get?_push_size (s.heap.push emptyDict) (o:=instObj C s.heap.objs.size) rfl
  rwa [size_push] at this
 have e3:(s.heap.push emptyDict).Ns s.heap.objs.size (λ_=>none):=⟨emptyDict,#[],_,e1,rfl,(λe he=>absurd he (by simp)),λ_=>rfl⟩
 have I1:=I.laid (a:=s.heap.objs.size) (o:=.own (s.heap.objs.size+1)) (h':=s.heap.push emptyDict) (t':=s.toks) (λb u q=>get?_push_of_some _ q) (le_refl _) ⟨_,e1⟩
 refine I1.laid (a:=s.heap.objs.size+1) (o:=.ins C s.heap.objs.size []) (t':=s.toks) (λb u q=>get?_push_of_some _ q) (le_of_eq (size_push _ _)) ?_
 have ne:s.heap.objs.size≠s.heap.objs.size+1:=ne_of_lt (lt_succ_self _)
 refine ⟨by rw [ze ne,zp],zero_le _,ne,e2,λ_=>none,(Heap.Ns1.of_empty e3).at λo q=>get?_push_of_some _ q,λ_=>True.intro,λy hy=>absurd rfl hy⟩
theorem zs1{prog:Program}{w:World}{env:Env}{e:Expr}{f:Str}{pos:Pos}{s:Shared}{Q:Value->Shared->Prop}(hb:attributeBase e f env (eval e env)=eval e env)
  (h:wpAny (model prog w) A (eval e env) (λo s₁=>wpAny (model prog w) A (getAttr o f true) Q E s₁) E s):wpAny (model prog w) A (eval (.Attribute e f pos) env) Q E s :=
 Attribute_any_ h (by rw [arm_eval_Attribute,hb])
end
section
variable {X:Cx}{o e value:Expr}{f:Str}{pos pos' tpos:Pos}{ta tv:TE}
def zkz:V->V->Hp->VK->Prop:=λx y H Q=>∃i j,x = .int i/\y = .int j/\Q (.int (i+j)) H
def zji:V->V->Hp->VK->Prop:=λx y H Q=>∃i j,x = .int i/\y = .int j/\Q (.int (i-j)) H
theorem zvk{pl:Sem Bool}{m:Str}{apos:Pos}{args:List Expr}{Ga:List (Addr×Obj)}{s:Shared}{σ:St}{H:Hp}{Q:Value->Shared->Prop}{te:TE}(he:PE X e te)(I:Inv X Ga σ H s)
  (h:te σ H λx H1=>∃a C dx fs g,x = .ref a/\H1 a=some (.ins C dx fs)/\Cls X.K C/\zdC X.K C m g/\fs.lookup m=none /\
   ∀s1,Inv X Ga σ H1 s1->wpAny (model X.prog X.w) X.A (callWith pos (.ref g) [.ref a] (backTo pos (starEach args X.env)) (backToKw pos (keywordEach [] X.env))) Q X.xe s1)
  (ht:eval (.Call (.Attribute e m apos) args [] pos) X.env=(do
   let ov<-eval e X.env
   standAt apos.atName
   let (f,first)<-holding [ov] (getMethod ov m pl)
   callWith pos f first (backTo pos (starEach args X.env)) (backToKw pos (keywordEach [] X.env)))) :
  wpAny (model X.prog X.w) X.A (eval (.Call (.Attribute e m apos) args [] pos) X.env) Q X.xe s:=by
 refine methodCall_KW (pl:=pl) (thn (he Ga s σ H _ I h) λu s1 ⟨x,H1,I1,rx,a,C,dx,fs,g,ex,ea,c,k,l,q⟩=>?_) ht
 subst ex
 obtain rfl:u=Value.ref a:=rx
 exact zga I1 ea c k l (q s1 I1)
end
section
variable {X:Cx}{Ga:List (Addr×Obj)}{σ:St}{H:Hp}{s:Shared}{A:Around}{E:Value->Shared->Prop}{Q:Value->Shared->Prop}{c:Value}{b:Bool}
inductive za0(K:PySem.W.Frag)(H:Hp):V->Value->Prop where
 | non:za0 K H .non (.type "NoneType")
 | bl (x:Bool):za0 K H (.bl x) (.type "bool")
 | int (i:Int):za0 K H (.int i) (.type "int")
 | str (x:Str):za0 K H (.str x) (.type "str")
 | flt (x:UInt64):za0 K H (.flt x) (.type "float")
 | lst {a:Addr}{xs:List V} (e:H a=some (.lst xs)):za0 K H (.ref a) (.type "list")
 | frz {a:Addr}{o:Obj}{xs:List V} (e:H a=some (.frz o (.lst xs))):za0 K H (.ref a) (.type "list")
 | tup {a:Addr}{xs:List V} (e:H a=some (.tup xs)):za0 K H (.ref a) (.type "tuple")
 | dK {a:Addr}{kvs:List (Key×V)} (e:H a=some (.dK kvs)):za0 K H (.ref a) (.type "dict")
 | dT {a:Addr}{kvs:List (List Key×V)} (e:H a=some (.dT kvs)):za0 K H (.ref a) (.type "dict")
 | ins {a C dx:Addr}{fs:List (Str×V)} (e:H a=some (.ins C dx fs)) (cl:Cls K C) (ha:PySem.W.findIn K (.ref C) "__class__"=some (some (.builtin "object.__class__")))
   (hn:PySem.W.specialIn K (.builtin "object.__class__") "__get__"=some (some (.builtin "getset_descriptor.__get__"))) (htk:PySem.W.takesIn K (.builtin "object.__class__")=some true)
   (hm:PySem.W.mroIn K C (.type "object")=some true):za0 K H (.ref a) (.ref C)
theorem zkR{x:V}{u t:Value}(I:Inv X Ga σ H s)(rx:zm x u)(ty:za0 X.K H x t)(e:PySem.W.kitOne X.K t c=some b)(h:∀tk,Q (.bool b) { s with toks:=tk }) :
  wpAny (model X.prog X.w) A (call (.builtin "isinstance") [u,c]) Q E s:=by
 cases ty with
 | non=>cases (show u=Value.none from rx);exact PySem.W.kia_one PySem.W.kitx_none I.kIn True.intro e (λz=>nomatch z) h
 | bl y=>cases (show u=Value.bool y from rx);exact PySem.W.kia_one PySem.W.kitx_bool I.kIn True.intro e (λz=>nomatch z) h
 | int i=>obtain ⟨t,q⟩:=(show ∃t,u=Value.int i t from rx);cases q;exact PySem.W.kia_one PySem.W.kitx_int I.kIn True.intro e (λz=>nomatch z) h
 | str y=>obtain ⟨t,q⟩:=(show ∃t,u=Value.str y t from rx);cases q;exact PySem.W.kia_one PySem.W.kitx_str I.kIn True.intro e (λz=>nomatch z) h
 | flt y=>obtain ⟨t,q⟩:=(show ∃t,u=float y t from rx);cases q;exact PySem.W.kia_one PySem.W.kitx_float I.kIn True.intro e (λz=>nomatch z) h
 | @lst a xs ea =>
  cases (show u=Value.ref a from rx)
  obtain ⟨_,_,n,_,h1⟩:=(show zV X.prog X.w H s.heap a (.lst xs) from I.hok a _ ea)
  exact PySem.W.kia_one PySem.W.kitx_list I.kIn ⟨_,h1,rfl⟩ e (λz=>nomatch z) h
 | @frz a ob xs ea =>
  cases (show u=Value.ref a from rx)
  obtain ⟨_,_,_,n,_,h1⟩:=(show zV X.prog X.w H s.heap a (.frz ob (.lst xs)) from I.hok a _ ea)
  exact PySem.W.kia_one PySem.W.kitx_list I.kIn ⟨_,h1,rfl⟩ e (λz=>nomatch z) h
 | @tup a xs ea =>
  cases (show u=Value.ref a from rx)
  obtain ⟨_,_,_,p⟩:=(show zV X.prog X.w H s.heap a (.tup xs) from I.hok a _ ea)
  obtain ⟨o,h1,h2,_⟩:=p
  exact PySem.W.kia_one PySem.W.kitx_tuple I.kIn ⟨o,h1,h2⟩ e (λz=>nomatch z) h
 | @dK a kvs ea =>
  cases (show u=Value.ref a from rx)
  obtain ⟨_,_,vs,_,p⟩:=(show zV X.prog X.w H s.heap a (.dK kvs) from I.hok a _ ea)
  obtain ⟨o,es,ep,h1,h2,_⟩:=p
  exact PySem.W.kia_one PySem.W.kitx_dict I.kIn ⟨o,h1,h2.1⟩ e (λz=>nomatch z) h
 | @dT a kvs ea =>
  cases (show u=Value.ref a from rx)
  obtain ⟨_,_,xs,_,o,es,ep,h1,h2,_⟩:=(show zV X.prog X.w H s.heap a (.dT kvs) from I.hok a _ ea)
  exact PySem.W.kia_one PySem.W.kitx_dict I.kIn ⟨o,h1,h2.1⟩ e (λz=>nomatch z) h
 | @ins a C dx fs ea cl ha hn htk hm =>
  cases (show u=Value.ref a from rx)
  obtain ⟨mA,O,_⟩:=zez I.hok ea
  obtain ⟨od,J,_⟩:=O.look
  exact PySem.W.kia_one (PySem.W.kitx_own (cl.get _) cl.hd ha hn htk hm) I.kIn J e (λz=>nomatch z) h
end
structure zJ(c:Bool)(k:Nat)(A:Around):Prop where
 hd:c=true->A.handled=none
 dp:A.depth+3*k+5<recursionLimit
 un:A.units+16*k+200<cLine
 gd:A.guards=some []
theorem zJ.mono{c:Bool}{j k:Nat}{A:Around}(r:zJ c k A)(h:j<=k):zJ c j A:=⟨r.hd,by have:=r.dp;omega,by have:=r.un;omega,r.gd⟩
theorem zJ.deeper{c:Bool}{k:Nat}{A:Around}(r:zJ c (k+1) A)(env:Env):zJ c k (A.deeper env) :=
 ⟨r.hd,by have:=r.dp;show A.depth+1+3*k+5<_;omega,by have:=r.un;show A.units+3+16*k+200<_;omega,by first|exact r.gd|simpa [Around.deeper,Around.under,Code.isGuard] using r.gd⟩
theorem zsO{A:Around}{C:Addr}{us:List Value}{kw:List (Str×Value)}:(A.under (.builtin "type.__call__" ⟨.ref C::us,kw⟩)).depth=A.depth+1:=by
 first|rfl|simp [Around.under,Code.weight,Code.isCreation,Code.isGuard,Code.isCaller,Code.frames,Code.isFrame,guardIds]
theorem zqX{A:Around}{C:Addr}{us:List Value}{kw:List (Str×Value)}:(A.under (.builtin "type.__call__" ⟨.ref C::us,kw⟩)).units=A.units+1:=by
 first|rfl|simp [Around.under,Code.cUnits,Code.frames,Code.isFrame]
theorem zJ.make{c:Bool}{k:Nat}{A:Around}(r:zJ c (k+1) A)(C:Addr)(us:List Value)(kw:List (Str×Value)):zJ c k (A.under (.builtin "type.__call__" ⟨.ref C::us,kw⟩)) :=
 ⟨r.hd,by have:=r.dp;rw [zsO];omega,by have:=r.un;rw [zqX];omega,by first|exact r.gd|simpa [Around.under,Code.isGuard,guardIds] using r.gd⟩
theorem zJ.depth{c:Bool}{k:Nat}{A:Around}(r:zJ c k A):A.depth<recursionLimit:=by have:=r.dp;omega
theorem zJ.units{c:Bool}{k:Nat}{A:Around}(r:zJ c k A):A.units+64<cLine:=by have:=r.un;omega
def zaX:TA:=λ_ H Q=>Q [] H
def zcV(ta:TE)(tr:TA):TA:=λσ H Q=>ta σ H λx H1=>tr σ H1 λxs H2=>Q (x::xs) H2
section
variable {X:Cx}{e:Expr}{es:List Expr}{te:TE}{t:TA}{pos:Pos}
theorem zfi:PA X [] zaX:=λ_ _ _ _ H Q I h=>Calls.spliced_nil ⟨[],H,I,.nil,h⟩
theorem zeM(ha:PE X e te)(hr:PA X es t)(hs:starEach (e::es) X.env=(false,eval e X.env)::starEach es X.env:=by rfl):PA X (e::es) (zcV te t):=by
 intro pos Ga s σ H Q I h
 rw [hs]
 show wpAny _ _ (spliced ((false,eval e X.env)::backTo pos (starEach es X.env))) _ _ s
 refine Calls.spliced_cons (thn (ha Ga s σ H _ I h) λu s1 ⟨x,H1,I1,r1,q1⟩=>?_)
 exact thn (hr pos Ga s1 σ H1 _ I1 q1) λus s2 ⟨xs,H2,I2,r2,q2⟩=>⟨x::xs,H2,I2,.cons r1 r2,q2⟩
def zsk(t:TA):TE:=λσ H Q=>t σ H λxs H1=>xs.length<=sizeLine/\∀p,H1 p=none->Q (.ref p) (upd H1 p (.tup xs))
theorem zq5{x1}(h:PA X es t):PE X (.Tuple es x1 pos) (zsk t):=by
 intro Ga s σ H Q I hq
 refine wpAny_Tuple_spliced (thn (h pos Ga s σ H _ I hq) λus s1 ⟨xs,H1,I1,r,z,q⟩=>⟨by rw [<- r.length];exact z,?_⟩)
 have hf:H1 s1.heap.objs.size=none:=I1.hok.fresh (le_refl _)
 refine ⟨.ref s1.heap.objs.size,upd H1 s1.heap.objs.size (.tup xs),I1.laid (t':=s1.toks) (λb u e=>get?_push_of_some _ e) (le_refl _) ?_,rfl,q _ hf⟩
 exact ⟨z,us,r,⟨_,get?_push_size _ rfl,rfl,_,rfl⟩⟩
end
abbrev Sp:=List V->Hp->VK->XK->Prop
abbrev CXT:=List Env->Hp->Shared->XK->Value->Shared->Prop
structure zb0(P:Program)(w:World)(K:PySem.W.Frag)(mg:Str->Option Value)(base:Heap)(A:Around)(outer:List Env)(s:Shared)(H:Hp):Prop where
 frames:A.frames=some outer
 hdk:zdD A H
 mod:Mod K mg base
 bs:∀b o,base.get? b=some o->s.heap.get? b=some o/\H b=none
 bsz:base.objs.size<=s.heap.objs.size
 funs:s.heap.FunFrames base outer
 frf:∀b∈frs outer,H b=none
 hok:HOk P w H s.heap
 bare:AllBare s.gens
def CE(outer:List Env)(P:Program)(w:World)(H:Hp)(s:Shared)(Q:VK)(u:Value)(s':Shared):Prop :=
 ∃v H',s'.os=s.os/\AllBare s'.gens/\Un (frs outer) [] H H' s.heap s'.heap/\HOk P w H' s'.heap/\zm v u/\Q v H'
def CR(CX:CXT)(outer:List Env)(P:Program)(w:World)(H:Hp)(s:Shared)(Q:VK)(E:XK)(r:Result)(s':Shared):Prop :=
 match r with
 | .ok (.ret u)=>CE outer P w H s Q u s'
 | .ok _=>False
 | .error e=>CX outer H s E e s'
structure zr(P:Program)(w:World)(K:PySem.W.Frag)(mg:Str->Option Value)(base:Heap)(CX:CXT)(c:Bool)(k:Nat)(f:Addr)(fd:FuncData)(ps:List Str)(sp:Sp):Prop where
 len:∀vs H Q E,sp vs H Q E->vs.length=ps.length
 run:∀(A:Around)(outer:List Env)(s:Shared)(H:Hp)(args:Args)(us:List Value)(vs:List V)(Q:VK)(E:XK),zJ c k A->zb0 P w K mg base A outer s H->BindsTo s fd args (ps.zip us)->zi vs us->sp vs H Q E ->
  codeAny (model P w) A (.call (.ref f) args) (CR CX outer P w H s Q E) s
theorem zr.imp{P:Program}{w:World}{K:PySem.W.Frag}{mg:Str->Option Value}{base:Heap}{CX:CXT}{c:Bool}{k:Nat}{f:Addr}{fd:FuncData}{ps:List Str}{sp sp':Sp}(F:zr P w K mg base CX c k f fd ps sp)
  (h:∀vs H Q E,sp' vs H Q E->sp vs H Q E):zr P w K mg base CX c k f fd ps sp' :=
 ⟨λvs H Q E q=>F.len vs H Q E (h _ _ _ _ q),λA outer s H args us vs Q E hr he hb hv hs=>F.run A outer s H args us vs Q E hr he hb hv (h _ _ _ _ hs)⟩
theorem zb0.make{P:Program}{w:World}{K:PySem.W.Frag}{mg:Str->Option Value}{base:Heap}{A:Around}{outer:List Env}{s:Shared}{H:Hp}(e:zb0 P w K mg base A outer s H)(C:Addr)(us:List Value)(kw:List (Str×Value)) :
  zb0 P w K mg base (A.under (.builtin "type.__call__" ⟨.ref C::us,kw⟩)) outer s H:=⟨by first|exact e.frames|(simpa [Around.under,Code.envs,Code.isFrame,pushEnvs] using e.frames),e.hdk,e.mod,e.bs,e.bsz,e.funs,e.frf,e.hok,e.bare⟩
section
variable {X:Cx}{Ga:List (Addr×Obj)}{σ:St}{H:Hp}{s s':Shared}
theorem Inv.env0(I:Inv X Ga σ H s):zb0 X.prog X.w X.K X.mg X.base X.A X.stack s H :=
 ⟨I.ok.frames,I.hdk,I.ok.mod,I.bs,le_trans I.ok.bsz I.sz,I.stack,I.stkFree,I.hok,I.bare⟩
theorem Inv.after{Q:VK}{u:Value}(I:Inv X Ga σ H s)(h:CE X.stack X.prog X.w H s Q u s'):EP X Ga σ Q u s':=by
 obtain ⟨v,H',os,bare,un,hok,r,q⟩:=h
 obtain ⟨hh,g,d,t,os'⟩:=s'
 obtain rfl:os'=s.os:=os
 exact ⟨v,H',I.call (h':=hh) (g':=g) (d':=d) (t':=t) (ch:=[]) un hok bare (λb z=>absurd z (by simp)),r,q⟩
end
def zb9(sp:Sp)(dvs:List V)(E:XK)(t:TA):TE:=λσ H Q=>t σ H λvs H1=>sp (vs++dvs) H1 Q E
def zbR(C:Addr)(m:Str)(sp:Sp)(dvs:List V)(E:XK)(ta:TE)(t:TA):TE:=λσ H Q=>ta σ H λx H1=>∃a dx fs,x = .ref a/\H1 a=some (.ins C dx fs)/\fs.lookup m=none /\
 t σ H1 λvs H2=>sp (x::(vs++dvs)) H2 Q E
def zkj(C:Addr)(sp:Sp)(dvs:List V)(E:XK)(t:TA):TE:=λσ H Q=>t σ H λvs H1=>∀x dx,H1 x=none->H1 dx=none->dx≠x ->
 sp (.ref x::(vs++dvs)) (upd (upd H1 dx (.own x)) x (.ins C dx [])) (λv H2=>v = .non/\Q (.ref x) H2) E
def zaS(K:PySem.W.Frag)(fd:FuncData)(ps:List Str)(ds:List Value):Prop :=
 ∀(s:Shared)(us:List Value),K.In s.heap->(us++ds).length=ps.length->BindsTo s fd ⟨us,[]⟩ (ps.zip (us++ds))
theorem zaS.all{K:PySem.W.Frag}{fd:FuncData}{ps:List Str}(h:∀us:List Value,us.length=ps.length->bindArgs fd ⟨us,[]⟩=pure (ps.zip us)):zaS K fd ps []:=λs us _ hl=>by
 rw [append_nil] at hl ⊢
 exact .of_eq (h us hl)
def zbB(CX:CXT)(X:Cx)(E:XK):Prop:=∀(Ga:List (Addr×Obj))(σ:St)(H:Hp)(s:Shared)(e:Value)(s':Shared),Inv X Ga σ H s->CX X.stack H s E e s'->X.xe e s'
section
variable {X:Cx}{CX:CXT}{cm:Bool}{k:Nat}{f C:Addr}{fd:FuncData}{ps:List Str}{sp:Sp}{dvs:List V}{ds:List Value}{E:XK}{x m:Str}{p pos apos:Pos}{e o:Expr}{es:List Expr}{ta:TE}{t:TA}
theorem zfo{Ga:List (Addr×Obj)}{σ:St}{H:Hp}{s:Shared}{Q:VK}{us:List Value}{vs:List V}(F:zr X.prog X.w X.K X.mg X.base CX cm k f fd ps sp)(hr:zJ cm k X.A)(hb:zaS X.K fd ps ds)(hd:zi dvs ds)(hx:zbB CX X E)
  (I:Inv X Ga σ H s) (r:zi vs us) (h:sp (vs++dvs) H Q E):wpAny (model X.prog X.w) X.A (call (.ref f) us) (EP X Ga σ Q) X.xe s:=by
 have r2:zi (vs++dvs) (us++ds):=r.append hd
 have hl:(us++ds).length=ps.length:=by rw [<- r2.length];exact F.len _ _ _ _ h
 refine wpAny_call (codeAny_mono (F.run X.A X.stack s H ⟨us,[]⟩ (us++ds) (vs++dvs) Q E hr I.env0 (hb s us I.kIn hl) r2 h) λr s' hq=>?_)
 cases r with
 | error e=>exact hx Ga σ H s e s' I hq
 | ok fl =>
  cases fl with
  | ret u=>exact I.after hq
  | next=>exact False.elim hq
  | brk=>exact False.elim hq
  | cont=>exact False.elim hq
theorem zlp(F:zr X.prog X.w X.K X.mg X.base CX cm k f fd ps sp)(hr:zJ cm k X.A)(hg:Gl X x)(hm:X.mg x=some (.ref f))(hk:keepIn X.K (.ref f)=true)(hb:zaS X.K fd ps ds)(hd:zi dvs ds)(hx:zbB CX X E)
  (ha:PA X (e::es) t) (hdb:(x==("__debug__":Str))=false:=by decide) (he:starEach (e::es) X.env=(false,eval e X.env)::starEach es X.env:=by rfl) (hpl:(backTo pos (starEach es X.env)).any (·.1)=false:=by rfl) :
  PE X (.Call (.Name x p) (e::es) [] pos) (zb9 sp dvs E t):=by
 intro Ga s σ H Q I h
 refine wpAny_Call_Name_kw (zeK I hg hm ?_ hdb)
 refine callWith_K (h₀:=X.base) I.ok.mod.kin hk (thn (ha pos Ga s σ H _ I h) λus s1 ⟨vs,H1,I1,r,q⟩=>⟨I1.kIn,?_⟩) he hpl
 exact zfo F hr hb hd hx I1 r q
theorem ztY(F:zr X.prog X.w X.K X.mg X.base CX cm k f fd ps sp)(hr:zJ cm k X.A)(hg:Gl X x)(hm:X.mg x=some (.ref f))(hk:keepIn X.K (.ref f)=true)(hb:zaS X.K fd ps ds)(hd:zi dvs ds)(hx:zbB CX X E)
  (hdb:(x==("__debug__":Str))=false:=by decide):PE X (.Call (.Name x p) [] [] pos) (zb9 sp dvs E zaX):=by
 intro Ga s σ H Q I h
 refine wpAny_Call_Name_kw (zeK I hg hm ?_ hdb)
 exact callWith_K0 I.kIn hk (zfo (us:=[]) F hr hb hd hx I .nil h)
theorem ztC{pl:Sem Bool}(he:PE X o ta)(c:Cls X.K C)(hm:zdC X.K C m f)(F:zr X.prog X.w X.K X.mg X.base CX cm k f fd ps sp)(hr:zJ cm k X.A)(hb:zaS X.K fd ps ds)(hd:zi dvs ds)(hx:zbB CX X E)(ha:PA X (e::es) t)
  (hst:starEach (e::es) X.env=(false,eval e X.env)::starEach es X.env:=by rfl) (hpl:(backTo pos (starEach es X.env)).any (·.1)=false:=by rfl)
  (ht:eval (.Call (.Attribute o m apos) (e::es) [] pos) X.env=(do
   let ov<-eval o X.env
   standAt apos.atName
   let (f,first)<-holding [ov] (getMethod ov m pl)
   callWith pos f first (backTo pos (starEach (e::es) X.env)) (backToKw pos (keywordEach [] X.env))):=by rfl) :
  PE X (.Call (.Attribute o m apos) (e::es) [] pos) (zbR C m sp dvs E ta t):=by
 intro Ga s σ H Q I h
 refine methodCall_KW (pl:=pl) (thn (he Ga s σ H _ I h) λu s1 ⟨x,H1,I1,rx,a,dx,fs,ex,ea,l,q⟩=>?_) ht
 subst ex
 obtain rfl:u=Value.ref a:=rx
 refine zga I1 ea c hm l ?_
 refine callWith_K (first:=[.ref a]) (h₀:=X.base) I.ok.mod.kin hm.kp (thn (ha pos Ga s1 σ H1 _ I1 q) λus s2 ⟨vs,H2,I2,r,q2⟩=>⟨I2.kIn,?_⟩) hst hpl
 exact zfo (us:=.ref a::us) (vs:=.ref a::vs) F hr hb hd hx I2 (.cons rfl r) q2
theorem zsq{pl:Sem Bool}(he:PE X o ta)(c:Cls X.K C)(hm:zdC X.K C m f)(F:zr X.prog X.w X.K X.mg X.base CX cm k f fd ps sp)(hr:zJ cm k X.A)(hb:zaS X.K fd ps ds)(hd:zi dvs ds)(hx:zbB CX X E)
  (ht:eval (.Call (.Attribute o m apos) [] [] pos) X.env=(do
   let ov<-eval o X.env
   standAt apos.atName
   let (f,first)<-holding [ov] (getMethod ov m pl)
   callWith pos f first (backTo pos (starEach [] X.env)) (backToKw pos (keywordEach [] X.env))):=by rfl) :
  PE X (.Call (.Attribute o m apos) [] [] pos) (zbR C m sp dvs E ta zaX):=by
 intro Ga s σ H Q I h
 refine methodCall_KW (pl:=pl) (thn (he Ga s σ H _ I h) λu s1 ⟨x,H1,I1,rx,a,dx,fs,ex,ea,l,q⟩=>?_) ht
 subst ex
 obtain rfl:u=Value.ref a:=rx
 refine zga I1 ea c hm l ?_
 exact callWith_K0 (first:=[.ref a]) I1.kIn hm.kp (zfo (us:=[.ref a]) (vs:=[.ref a]) F hr hb hd hx I1 (.cons rfl .nil) q)
structure Mk(K:PySem.W.Frag)(C f:Addr):Prop where
 makes:makesIn K C=true
 init:PySem.W.findIn K (.ref C) "__init__"=some (some (.ref f))
 fn:isFn K (.ref f)=true
 kp:keepIn K (.ref C)=true
theorem ziI{Ga:List (Addr×Obj)}{σ:St}{H:Hp}{s:Shared}{Q:VK}{us:List Value}{vs:List V}(M:Mk X.K C f)(F:zr X.prog X.w X.K X.mg X.base CX cm k f fd ps sp)(hr:zJ cm (k+1) X.A)(hb:zaS X.K fd ps ds)(hd:zi dvs ds)
  (hx:zbB CX X E) (I:Inv X Ga σ H s) (r:zi vs us)
  (h:∀x dx,H x=none->H dx=none->dx≠x->sp (.ref x::(vs++dvs)) (upd (upd H dx (.own x)) x (.ins C dx [])) (λv H2=>v = .non/\Q (.ref x) H2) E) :
  wpAny (model X.prog X.w) X.A (call (.ref C) us) (EP X Ga σ Q) X.xe s:=by
 have hq:=h (s.heap.objs.size+1) s.heap.objs.size (I.hok.fresh (le_succ _)) (I.hok.fresh (le_refl _)) (ne_of_lt (lt_succ_self _))
 have I2:=Inv.made (C:=C) I
 have r2:zi (V.ref (s.heap.objs.size+1)::(vs++dvs)) (Value.ref (s.heap.objs.size+1)::(us++ds)):=.cons rfl (r.append hd)
 have hl:(Value.ref (s.heap.objs.size+1)::us++ds).length=ps.length:=by
  have e:=r2.length
  rw [F.len _ _ _ _ hq] at e
  exact e.symm
 refine wpAny_call (zmy (f:=f) I.kIn M.makes M.init (beq_iff_eq.mp M.fn) (codeAny_mono (F.run _ X.stack _ _ ⟨Value.ref (s.heap.objs.size+1)::us,[]⟩ (Value.ref (s.heap.objs.size+1)::(us++ds)) _ _ E (hr.make C us [])
  (I2.env0.make C us []) (hb _ (Value.ref (s.heap.objs.size+1)::us) I2.kIn hl) r2 hq) λr s' hq'=>?_))
 cases r with
 | error e=>exact hx Ga σ _ _ e s' I2 hq'
 | ok fl =>
  cases fl with
  | ret u =>
   obtain ⟨v,H',I3,rv,ev,q3⟩:=I2.after hq'
   subst ev
   exact ⟨rv,⟨V.ref (s.heap.objs.size+1),H',I3,rfl,q3⟩⟩
  | next=>exact False.elim hq'
  | brk=>exact False.elim hq'
  | cont=>exact False.elim hq'
theorem zmK(M:Mk X.K C f)(F:zr X.prog X.w X.K X.mg X.base CX cm k f fd ps sp)(hr:zJ cm (k+1) X.A)(hg:Gl X x)(hm:X.mg x=some (.ref C))(hb:zaS X.K fd ps ds)(hd:zi dvs ds)(hx:zbB CX X E)
  (ha:PA X (e::es) t) (hdb:(x==("__debug__":Str))=false:=by decide) (he:starEach (e::es) X.env=(false,eval e X.env)::starEach es X.env:=by rfl) (hpl:(backTo pos (starEach es X.env)).any (·.1)=false:=by rfl) :
  PE X (.Call (.Name x p) (e::es) [] pos) (zkj C sp dvs E t):=by
 intro Ga s σ H Q I h
 refine wpAny_Call_Name_kw (zeK I hg hm ?_ hdb)
 refine callWith_K (h₀:=X.base) I.ok.mod.kin M.kp (thn (ha pos Ga s σ H _ I h) λus s1 ⟨vs,H1,I1,r,q⟩=>⟨I1.kIn,?_⟩) he hpl
 exact ziI M F hr hb hd hx I1 r q
theorem zuA(M:Mk X.K C f)(F:zr X.prog X.w X.K X.mg X.base CX cm k f fd ps sp)(hr:zJ cm (k+1) X.A)(hg:Gl X x)(hm:X.mg x=some (.ref C))(hb:zaS X.K fd ps ds)(hd:zi dvs ds)(hx:zbB CX X E)
  (hdb:(x==("__debug__":Str))=false:=by decide):PE X (.Call (.Name x p) [] [] pos) (zkj C sp dvs E zaX):=by
 intro Ga s σ H Q I h
 refine wpAny_Call_Name_kw (zeK I hg hm ?_ hdb)
 exact callWith_K0 I.kIn M.kp (ziI (us:=[]) M F hr hb hd hx I .nil h)
end
section
variable {X:Cx}{CX:CXT}{cm:Bool}{k:Nat}{f C:Addr}{fd:FuncData}{ps ks:List Str}{sp:Sp}{E:XK}{x m:Str}{p pos apos kpos:Pos}{e o:Expr}{es:List Expr}{kws:List Keyword}{te ta:TE}{t tk:TA}{nm:Option Str}
variable {g:List Value->List Value->List Value}{gV:List V->List V->List V}
end
structure zB(N P:List Str)(sc:Scope):Prop where
 kind:sc.kind = .function
 co:sc.isCoroutine=false
 gen:sc.isGenerator=false
 nd:N.Nodup
 pre:N.take P.length=P
 par:∀x∈P,sc.names.lookup x=some .local\/sc.names.lookup x=some .cell
 nofree:∀y∈sc.names,y.2≠.free
theorem zjm{kindOf:Str->Option NameKind}{x:Str}:∀{binds:List (Str×Value)}{m:Str->Option Value},(∀v,(x,v)∉binds)->bindL kindOf binds m x=m x
 | [],_,_=>rfl
 | (n,v)::r,m,h=>by
  unfold bindL
  rw [zjm λw hw=>h w (mem_cons_of_mem _ hw)]
  split
  ·have:x≠n:=by rintro rfl;exact h v mem_cons_self
   simp [this]
  ·rfl
theorem zj4{kindOf:Str->Option NameKind}{x:Str}:∀{binds:List (Str×Value)}{m:Str->Option Value},(∀v,(x,v)∉binds)->bindC kindOf binds m x=m x
 | [],_,_=>rfl
 | (n,v)::r,m,h=>by
  unfold bindC
  rw [zj4 λw hw=>h w (mem_cons_of_mem _ hw)]
  split
  ·rfl
  ·have:x≠n:=by rintro rfl;exact h v mem_cons_self
   simp [this]
theorem zid{kindOf:Str->Option NameKind}{x:Str}{v:Value}:∀{P:List Str}{vs:List Value}{i:Nat}{m:Str->Option Value},P.Nodup->P[i]?=some x->vs[i]?=some v->kindOf x=some .local ->
  bindL kindOf (P.zip vs) m x=some v
 | [],_,_,_,_,h,_,_=>by simp at h
 | _::_,[],_,_,_,_,h,_=>by simp at h
 | p::P,w::vs,0,m,nd,h1,h2,hk=>by
  simp at h1 h2;subst h1;subst h2
  show bindL kindOf ((p,w)::P.zip vs) m p=_
  unfold bindL
  rw [zjm λv hv=>(nodup_cons.mp nd).1 (List.of_mem_zip hv).1,if_pos hk]
  simp
 | p::P,w::vs,i+1,m,nd,h1,h2,hk=>by
  show bindL kindOf ((p,w)::P.zip vs) m x=_
  unfold bindL
  exact zid (i:=i) (nodup_cons.mp nd).2 (by simpa using h1) (by simpa using h2) hk
theorem zh7{kindOf:Str->Option NameKind}{x:Str}{v:Value}:∀{P:List Str}{vs:List Value}{i:Nat}{m:Str->Option Value},P.Nodup->P[i]?=some x->vs[i]?=some v->kindOf x≠some .local ->
  bindC kindOf (P.zip vs) m x=some v
 | [],_,_,_,_,h,_,_=>by simp at h
 | _::_,[],_,_,_,_,h,_=>by simp at h
 | p::P,w::vs,0,m,nd,h1,h2,hk=>by
  simp at h1 h2;subst h1;subst h2
  show bindC kindOf ((p,w)::P.zip vs) m p=_
  unfold bindC
  rw [zj4 λv hv=>(nodup_cons.mp nd).1 (List.of_mem_zip hv).1,if_neg hk]
  simp
 | p::P,w::vs,i+1,m,nd,h1,h2,hk=>by
  show bindC kindOf ((p,w)::P.zip vs) m x=_
  unfold bindC
  exact zh7 (i:=i) (nodup_cons.mp nd).2 (by simpa using h1) (by simpa using h2) hk
def start(N:List Str)(vs:List V):St:=vs.map some++replicate (N.length-vs.length) none
def zcL(CX:CXT)(cm:Bool)(P:Program)(w:World)(K:PySem.W.Frag)(mg:Str->Option Value)(base:Heap)(N:List Str)(qual:Str)(scope:Scope)(f:Addr)(cd:Value)(A:Around)(outer:List Env)(s:Shared)(H:Hp)(E:XK):Cx where
 prog:=P
 w:=w
 K:=K
 mg:=mg
 base:=base
 A:=A.deeper (envOfC qual scope s.heap.objs.size f cd)
 N:=N
 s₀:=s
 H₀:=H
 env:=envOfC qual scope s.heap.objs.size f cd
 outer:=outer
 stack:=envOfC qual scope s.heap.objs.size f cd::outer
 ex:=[]
 calm:=cm
 fn:=λ_=>true
 pn:=[]
 xe:=λe s'=>wpAny (model P w) (A.deeper (envOfC qual scope s.heap.objs.size f cd)) (leaving (envOfC qual scope s.heap.objs.size f cd) e) (λ_ s''=>CX outer H s E e s'') (λe' s''=>CX outer H s E e' s'') s'
theorem zkh{sc:Scope}{n:Nat}{x:Str}(h:sc.names.lookup x=some .cell):∃c,(cellsFrom n sc.names []).lookup x=some c:=by
 have q:=PySem.W.cellsFrom_some sc.names n [] (.inl h)
 exact isSome_iff_exists.mp q
theorem znJ{CX:CXT}{cm:Bool}{P:Program}{w:World}{K:PySem.W.Frag}{mg:Str->Option Value}{base:Heap}{N ps:List Str}{qual:Str}{scope:Scope}{f:Addr}{cd:Value}{A:Around}{outer:List Env}{s s1:Shared}{H:Hp}{E:XK}{us:List Value}{vs:List V}
  (S:zB N ps scope) (hd:cm=true->A.handled=none) (e0:zb0 P w K mg base A outer s H) (hl:vs.length=ps.length) (r:zi vs us)
  (x:InCallC s s.heap.objs.size (bindL (envOfC qual scope s.heap.objs.size f cd).kindOf (ps.zip us) λ_=>none) (cellsFrom (s.heap.objs.size+1) scope.names []) (bindC (envOfC qual scope s.heap.objs.size f cd).kindOf (ps.zip us) λ_=>none) s1) :
  Inv (zcL CX cm P w K mg base N qual scope f cd A outer s H E) [] (start N vs) H s1:=by
 have hpl:ps.length<=N.length:=by have:=congrArg length S.pre;rw [length_take] at this;omega
 obtain ⟨h1,tk,rfl,hk⟩:=x.done
 have noA:∀b:Addr,b∉(zcL CX cm P w K mg base N qual scope f cd A outer s H E).ex:=λb z=>absurd (show b∈([]:List Addr) from z) (by simp)
 refine ⟨⟨e0.mod,S.kind,rfl,rfl,le_refl _,λy z c h1 h2=>?_,λy hy=>?_,λy c _ h=>?_,hd,Around.frames_deeper e0.frames,.inr ⟨rfl,rfl⟩,λb z=>absurd z (noA b),e0.bs,e0.bsz,λb _ _=>noA b,λb z=>absurd z (noA b),e0.funs,e0.frf⟩,
  rfl,e0.bare,Un.kept hk,⟨_,x.toInCall.ns,λi y v h1 h2 h3=>?_⟩,λy c h=>⟨_,x.cell y c h⟩,e0.hok.fresh (le_refl _),λy c h=>?_,λp hp=>absurd (show p∈([]:List (Addr×Obj)) from hp) (by simp),e0.hok.kept hk,?_,e0.hdk⟩
 ·exact name_of_addr x.apart (PySem.mem_of_lookup h1) (PySem.mem_of_lookup h2)
 ·have hy:scope.names.lookup y=some .cell\/scope.names.lookup y=some .free:=hy
  rcases hy with hy|hy
  ·exact zkh hy
  ·exact absurd rfl (S.nofree _ (PySem.mem_of_lookup hy))
 ·exact le_of_lt (x.above y c (PySem.mem_of_lookup h))
 ·have hi:i<vs.length:=by
   unfold start at h2
   by_cases hi:i<vs.length
   ·exact hi
   ·rw [List.getElem?_append_right (by simpa using hi)] at h2
    rw [List.getElem?_replicate] at h2
    split at h2<;>cases h2
  have ha:vs[i]?=some v:=by
   unfold start at h2
   rw [List.getElem?_append_left (by simpa using hi),getElem?_map] at h2
   cases e:vs[i]? with
   | none=>rw [e] at h2;cases h2
   | some a=>rw [e] at h2;cases h2;rfl
  obtain ⟨u,hu,rv⟩:=r.get ha
  have hp:ps[i]?=some y:=by
   rw [<- S.pre,List.getElem?_take_of_lt (by omega)];exact h1
  have ndP:ps.Nodup:=by rw [<- S.pre];exact S.nd.sublist (List.take_sublist _ _)
  refine ⟨u,rv,?_⟩
  rcases S.par y (mem_of_getElem? hp) with k|k
  ·exact .inl ⟨k,zid ndP hp hu k⟩
  ·obtain ⟨c,e⟩:=zkh (n:=s.heap.objs.size+1) k
   refine .inr ⟨.inl k,c,e,?_⟩
   have q:=x.cell y c e
   rw [zh7 ndP hp hu (by show scope.names.lookup y≠_;rw [k];decide)] at q
   exact q
 ·exact e0.hok.fresh (le_of_lt (x.above y c (PySem.mem_of_lookup h)))
 ·unfold start
  show _=N.length
  rw [length_append,length_map,List.length_replicate]
  omega
theorem zn2{CX:CXT}{cm:Bool}{P:Program}{w:World}{K:PySem.W.Frag}{mg:Str->Option Value}{base:Heap}{k:Nat}{f:Addr}{name qual:Str}{params:Arguments}{body:List Stmt}{scope:Scope}{dV kV doc pm cdv ct oc:Value}{an od:Option Addr}
  {osl:Array (Option Value)}{N ps:List Str}{sp:Sp} (lk:K.lookup f=some ⟨oc,od,.func (fnOf name qual params body scope dV kV doc pm an cdv ct),osl⟩) (hcd:codeIn K cdv qual=true) (S:zB N ps scope)
  (len:∀vs H Q E,sp vs H Q E->vs.length=ps.length)
  (hbody:∀(A:Around)(outer:List Env)(s:Shared)(H:Hp)(vs:List V)(Q:VK)(E:XK),zJ cm k (A.deeper (envOfC qual scope s.heap.objs.size f cdv))->sp vs H Q E ->
   ∃t,PSs (zcL CX cm P w K mg base N qual scope f cdv A outer s H E) body t/\t { nx:=λ_ H'=>Q .non H',rt:=Q } (start N vs) H) :
  zr P w K mg base CX cm (k+1) f (fnOf name qual params body scope dV kV doc pm an cdv ct) ps sp:=by
 refine ⟨len,λA outer s H args us vs Q E hr e0 hb r hsp=>?_⟩
 have hl:=len _ _ _ _ hsp
 have KX:K.In s.heap:=e0.mod.kin.keeps λb o e=>(e0.bs b o e).1
 have lim:s.heap.NoLimit:=e0.mod.nolimit.keeps λb o e=>(e0.bs b o e).1
 have hkind:∀y∈ps.zip us,scope.names.lookup y.1=some .local\/(scope.names.lookup y.1=some .cell/\((cellsFrom (s.heap.objs.size+1) scope.names []).lookup y.1).isSome=true):=λ⟨n,v⟩ hy=>by
  rcases S.par n (List.of_mem_zip hy).1 with q|q
  ·exact .inl q
  ·exact .inr ⟨q,PySem.W.cellsFrom_some _ _ _ (.inl q)⟩
 refine codeAny_call_function hr.depth (KX _ _ lk) rfl S.co S.gen rfl (PySem.W.codeRec_of KX hcd) (hb _ _ _ _ ?_)
 refine wpAny_newFunctionEnv_cells S.kind hkind λenv he s1 x=>?_
 subst he
 refine ⟨lim.keeps x.toInCall.keep,codeAny_func ?_⟩
 obtain ⟨t,ht,hq⟩:=hbody A outer s H vs Q E (hr.deeper _) hsp
 have I:Inv (zcL CX cm P w K mg base N qual scope f cdv A outer s H E) [] (start N vs) H s1:=znJ S hr.hd e0 hl r x
 refine wpAny_mono (ht [] s1 (start N vs) H _ I hq) (λfl s' hs=>?_) λe s' hs=>hs
 have fin:∀{σ':St}{H':Hp}{v:V}{u:Value},Inv (zcL CX cm P w K mg base N qual scope f cdv A outer s H E) [] σ' H' s'->zm v u->Q v H'->CE outer P w H s Q u s' :=
  λ{σ' H' v u} J rv q=>⟨v,H',J.os,J.bare,J.base,J.hok,rv,q⟩
 cases fl with
 | ret u =>
  obtain ⟨v,σ',H',J,rv,q⟩:=hs
  exact fin J rv q
 | next =>
  obtain ⟨σ',H',J,q⟩:=hs
  exact fin (v:=V.non) (u:=Value.none) J rfl q
 | brk =>
  obtain ⟨_,_,_,q⟩:=hs
  exact False.elim q
 | cont =>
  obtain ⟨_,_,_,q⟩:=hs
  exact False.elim q
section
variable {X:Cx}{x:Str}{p pos:Pos}{e:Expr}{es:List Expr}{t:TA}{id T:String}{r:List V->Hp->VK->Prop}
def tCB(r:List V->Hp->VK->Prop)(t:TA):TE:=λσ H Q=>t σ H λvs H1=>r vs H1 Q
theorem zjX(hc:zL X (.builtin id) r)(hg:Gl X x)(hm:X.mg x=none)(hv:bootBuiltins x=some (.builtin id))(ha:PA X (e::es) t)(hn:x≠"__name__":=by decide)(hdb:(x==("__debug__":Str))=false:=by decide)
  (he:starEach (e::es) X.env=(false,eval e X.env)::starEach es X.env:=by rfl) (hpl:(backTo pos (starEach es X.env)).any (·.1)=false:=by rfl):PE X (.Call (.Name x p) (e::es) [] pos) (tCB r t):=by
 intro Ga s σ H Q I h
 refine wpAny_Call_Name_kw (zeO I hg hm hv ?_ hn hdb)
 exact PyProof.Rows.callWith_builtin1 (thn (ha pos Ga s σ H _ I h) λus s1 ⟨vs,H1,I1,r1,q1⟩=>hc Ga s1 σ H1 vs us Q I1 r1 q1) he hpl
theorem zop(hc:zL X (.type T) r)(hg:Gl X x)(hm:X.mg x=none)(hv:bootBuiltins x=some (.type T))(ha:PA X (e::es) t)(hn:x≠"__name__":=by decide)(hdb:(x==("__debug__":Str))=false:=by decide)
  (he:starEach (e::es) X.env=(false,eval e X.env)::starEach es X.env:=by rfl) (hpl:(backTo pos (starEach es X.env)).any (·.1)=false:=by rfl):PE X (.Call (.Name x p) (e::es) [] pos) (tCB r t):=by
 intro Ga s σ H Q I h
 refine wpAny_Call_Name_kw (zeO I hg hm hv ?_ hn hdb)
 exact PyProof.Rows.callWith_type1 (thn (ha pos Ga s σ H _ I h) λus s1 ⟨vs,H1,I1,r1,q1⟩=>hc Ga s1 σ H1 vs us Q I1 r1 q1) he hpl
end
end L2
namespace HT
open PySem PyProof.Rows
section
open PySem.SeqAt
open PySem.AutoSeq1 (wpAny_loadPart')
open PySem.MeetsSeq PySem.MeetsSeq2 PySem.MeetsSeq3
end
section
variable {prog:Program}{w:World}{A:Around}{E:Value->Shared->Prop}{s:Shared}
theorem cat_tup{t b:Addr}{vs ws:List Value}{Q:Value->Shared->Prop}(ht:IsTup s.heap t vs.toArray)(hb:IsTup s.heap b ws.toArray)(hv:vs≠[])
  (h1:ws=[]->Q (.ref t) s) (h2:ws≠[]->Q (.ref s.heap.objs.size) { s with heap:=s.heap.push { cls:=.type "tuple",data:=.seq (vs++ws).toArray } })
  (hsz:vs.length+ws.length<=sizeLine):wpAny (model prog w) A (binaryOp .Add (.ref t) (.ref b)) Q E s:=by
 obtain ⟨⟨cls,dd,data,sl⟩,ho,hc,n,hd⟩:=id ht
 obtain ⟨⟨cls2,dd2,data2,sl2⟩,ho2,hc2,n2,hd2⟩:=id hb
 simp only at hc hd hc2 hd2
 subst hc hd hc2 hd2
 have e:vs.toArray++ws.toArray=(vs++ws).toArray:=by simp
 by_cases hw:ws=[]
 ·exact concat_meets ⟨_,ho,rfl⟩ ⟨_,ho2,rfl⟩ noFill_tuple_add seq_tuple_add slot_tuple_add entry_tuple_add (args_tuple_add_2 _ _)
   (tuple_addW1 t b vs.toArray ws.toArray n n2 dd dd2 sl sl2 (by simpa using hv) (by simp [hw])) ⟨ho,ho2,h1 hw⟩
 ·refine concat_meets ⟨_,ho,rfl⟩ ⟨_,ho2,rfl⟩ noFill_tuple_add seq_tuple_add slot_tuple_add entry_tuple_add (args_tuple_add_2 _ _)
   (tuple_addW2 t b vs.toArray ws.toArray n n2 dd dd2 sl sl2 (by simpa using hv) (by simpa using hw) (by rw [size_toArray,size_toArray];exact hsz)) ⟨ho,ho2,?_⟩
  rw [e]
  exact h2 hw
def sIx(n d:Nat):Option Int->Nat
 | none=>d
 | some v=>if v<0 then (v+(n:Int)).toNat else min v.toNat n
theorem zlL(n d:Nat)(hd:d<=n)(o:Option Int):sIx n d o<=n:=by
 cases o with
 | none=>exact hd
 | some v =>
  show (if v<0 then (v+(n:Int)).toNat else min v.toNat n)<=n
  by_cases hv:v<0
  ·rw [if_pos hv];omega
  ·rw [if_neg hv];exact Nat.min_le_right _ _
theorem zin(v:Int)(n d:Nat):(if v<0 then max (v+(n:Int)) 0 else min v (n:Int))=((sIx n d (some v):Nat):Int):=by
 show (if v<0 then max (v+(n:Int)) 0 else min v (n:Int))=(((if v<0 then (v+(n:Int)).toNat else min v.toNat n):Nat):Int)
 by_cases hv:v<0
 ·simp only [if_pos hv];omega
 ·simp only [if_neg hv];omega
theorem zuu(lo hi:Option Int)(n:Nat):Builtin.Slice.sliceAdjust lo hi 1 (n:Int)=(((sIx n 0 lo:Nat):Int),((sIx n n hi:Nat):Int)):=by
 have h1 : ¬ ((1:Int)<0):=by omega
 unfold Builtin.Slice.sliceAdjust
 simp only [h1,if_false]
 refine Prod.ext ?_ ?_
 ·cases lo with
  | none=>rfl
  | some v=>exact zin v n 0
 ·cases hi with
  | none=>rfl
  | some v=>exact zin v n n
theorem ztq(i j:Nat):Builtin.Slice.slicePlaces (i:Int) (j:Int) 1=j-i:=by
 unfold Builtin.Slice.slicePlaces
 have h1:(1:Int)>0:=by omega
 simp only [h1,if_true,Int.ediv_one]
 split<;>omega
theorem zig{v:Value}{o:Option Int}{Q:Option Int->Shared->Prop}(p:IsPart v o)(h:Q o s):wpAny (model prog w) A (Builtin.Slice.slicePartIndex v) Q E s:=by
 cases p with
 | none=>exact slicePart_none h
 | int i t=>exact slicePart_int h
theorem ziK{sl:Addr}{vl vu:Value}{lo hi:Option Int}{n:Nat}{Q:Int×Int×Nat->Shared->Prop}(hs:s.heap.IsSliceOf sl vl vu .none)(pl:IsPart vl lo)(pu:IsPart vu hi)
  (h:Q (((sIx n 0 lo:Nat):Int),1,sIx n n hi-sIx n 0 lo) s):wpAny (model prog w) A (Builtin.Slice.sliceApplied (.ref sl) (pure (n:Int))) Q E s:=by
 obtain ⟨os,hos,hcs,hds⟩:=id hs
 unfold Builtin.Slice.sliceApplied Builtin.Slice.sliceFields
 refine wpAny_bind (wpAny_bind (wpAny_field hos hds (x:=vl) rfl (wpAny_bind (wpAny_field hos hds (x:=vu) rfl (wpAny_bind (wpAny_field hos hds (x:=.none) rfl (wpAny_pure ?_)))))))
 refine wpAny_bind (slicePart_none ?_)
 show wpAny _ _ (if ((1:Int)==0)=true then _ else _) _ _ s
 rw [if_neg (by decide)]
 refine wpAny_bind (zig pl (wpAny_bind (zig pu (wpAny_bind (wpAny_pure ?_)))))
 show wpAny _ _ (match Builtin.Slice.sliceAdjust lo hi 1 (n:Int) with|(lo,hi)=>pure (lo,(1:Int),Builtin.Slice.slicePlaces lo hi 1)) _ _ s
 rw [zuu lo hi n]
 show wpAny _ _ (pure (((sIx n 0 lo:Nat):Int),(1:Int),Builtin.Slice.slicePlaces ((sIx n 0 lo:Nat):Int) ((sIx n n hi:Nat):Int) 1)) _ _ s
 rw [ztq]
 exact wpAny_pure h
theorem zn3(xs:Array Value)(i k:Nat):((List.range k).filterMap λ(m:Nat)=>xs[((i:Int)+(m:Int)*1).toNat]?).toArray=((xs.toList.drop i).take k).toArray:=by
 have e:(λ(m:Nat)=>xs[((i:Int)+(m:Int)*1).toNat]?)=λm=>xs[i+m]?:=by
  funext m
  have:((i:Int)+(m:Int)*1).toNat=i+m:=by omega
  rw [this]
 rw [e]
 have:=pick_run xs i k
 rw [List.filterMap_map] at this
 have e2:((λx=>xs[x]?)∘λx=>i+x)=λm=>xs[i+m]?:=rfl
 rw [e2] at this
 rw [this]
theorem getItem_tuple_cut{t sl:Addr}{items:Array Value}{vl vu:Value}{lo hi:Option Int}{Q:Value->Shared->Prop}(ht:IsTup s.heap t items)(hs:s.heap.IsSliceOf sl vl vu .none)(pl:IsPart vl lo)(pu:IsPart vu hi)
  (hw : ¬ (sIx items.size 0 lo=0/\sIx items.size items.size hi=items.size))
  (h:Q (.ref s.heap.objs.size) { s with heap:=s.heap.push { cls:=.type "tuple",data:=.seq ((items.toList.drop (sIx items.size 0 lo)).take (sIx items.size items.size hi-sIx items.size 0 lo)).toArray } })
  (hsz:items.size<=sizeLine):wpAny (model prog w) A (getItem (.ref t) (.ref sl)) Q E s:=by
 have htake:sizeOk (.seq ((items.toList.drop (sIx items.size 0 lo)).take (sIx items.size items.size hi-sIx items.size 0 lo)).toArray):=by
  show ((items.toList.drop (sIx items.size 0 lo)).take (sIx items.size items.size hi-sIx items.size 0 lo)).toArray.size<=sizeLine
  rw [size_toArray,length_take,length_drop,length_toList]
  omega
 have hj:sIx items.size items.size hi<=items.size:=zlL _ _ (le_refl _) hi
 obtain ⟨os,hos,hcs,hds⟩:=id hs
 have hTs:s.TypeIs (.ref sl) "slice":=⟨os,hos,hcs⟩
 unfold getItem
 try with_reducible refine wpAny_holding ?_
 first|refine wpAny_bind (wpAny_pure ?_)|skip
 refine wpAny_bind (wpAny_sequenceKey ht.typeIs (by decide) ?_)
 refine wpAny_bind (wpAny_callSpecial?_slot (name:=Str.ofString "__getitem__") ht.typeIs PyProof.Rows.slot_tuple_getitem
  (wpAny_call_entry PyProof.Rows.slot_tuple_getitem ht.typeIs entry_tuple_getitem ?_ (args_tuple_getitem _ _)))
 show wpAny _ _ (Builtin.Tuple.tupleItemsOf (.ref t)>>=_) _ _ s
 refine wpAny_bind (tupleItemsOf_ ht ?_)
 refine wpAny_bind (wpAny_typeOf hTs ?_)
 rw [if_pos (by decide)]
 refine wpAny_bind (ziK hs pl pu ?_)
 have hno : ¬ ((((sIx items.size 0 lo:Nat):Int)==0&&(1:Int)==1&&(sIx items.size items.size hi-sIx items.size 0 lo)==items.size)=true):=by
  intro q
  rw [and_eq_true,and_eq_true] at q
  have q1:((sIx items.size 0 lo:Nat):Int)=0:=eq_of_beq q.1.1
  have q2:sIx items.size items.size hi-sIx items.size 0 lo=items.size:=eq_of_beq q.2
  exact hw ⟨by omega,by omega⟩
 show wpAny _ _ (if (((sIx items.size 0 lo:Nat):Int)==0&&(1:Int)==1&&(sIx items.size items.size hi-sIx items.size 0 lo)==items.size)=true then _ else _) _ _ s
 rw [if_neg hno,zn3]
 first
  | exact wpAny_bind (m:=Builtin.Tuple.tupleExact _) (wpAny_newObj_type (wpAny_pure ⟨_,rfl,wpAny_pure h⟩) htake)
  | exact wpAny_bind (m:=Builtin.Tuple.tupleExact _) (wpAny_newObj_type (wpAny_bind (wpAny_pure (wpAny_pure ⟨_,rfl,wpAny_pure h⟩))) htake)
  | exact wpAny_bind (wpAny_bind (m:=Builtin.Tuple.tupleExact _) (wpAny_newObj_type (wpAny_pure (wpAny_pure ⟨_,rfl,wpAny_pure h⟩)) htake))
  | exact wpAny_bind (wpAny_bind (m:=Builtin.Tuple.tupleExact _) (wpAny_newObj_type (wpAny_pure ⟨_,rfl,wpAny_pure h⟩) htake))
end
end HT
namespace L2
open PySem PySem.Spec PyProof.Rows
abbrev TO:=St->Hp->(Option Int->Hp->Prop)->Prop
def PO(X:Cx)(e:Option Expr)(t:TO):Prop :=
 ∀(Ga:List (Addr×Obj))(s:Shared)(σ:St)(H:Hp)(Q:Option Int->Hp->Prop),Inv X Ga σ H s->t σ H Q ->
  wpAny (model X.prog X.w) X.A (evalPart e X.env) (λu s'=>∃o H',Inv X Ga σ H' s'/\IsPart u o/\Q o H') X.xe s
def zhk:TO:=λ_ H Q=>Q none H
def zhv(t:TE):TO:=λσ H Q=>t σ H λx H1=>∃i,x = .int i/\Q (some i) H1
section
variable {X:Cx}{e:Expr}{te:TE}{lo hi:Option Expr}{tl th:TO}{pos p2:Pos}
theorem zqW:PO X none zhk:=by
 intro Ga s σ H Q I h
 rw [evalPart_none]
 exact wpAny_pure ⟨none,H,I,.none,h⟩
theorem zpS(h:PE X e te):PO X (some e) (zhv te):=by
 intro Ga s σ H Q I hw
 rw [evalPart_some]
 refine thn (h Ga s σ H _ I hw) λu s1 ⟨x,H1,I1,r1,q1⟩=>?_
 obtain ⟨i,rfl,q⟩:=q1
 obtain ⟨t,rfl⟩:=r1
 exact ⟨some i,H1,I1,.int i t,q⟩
def SlR(X:Cx)(r:V->Option Int->Option Int->Hp->VK->Prop):Prop :=
 ∀(Ga:List (Addr×Obj))(s:Shared)(σ:St)(H:Hp)(x:V)(v vl vu:Value)(lo hi:Option Int)(sl:Addr)(Q:VK),Inv X Ga σ H s->zm x v->s.heap.IsSliceOf sl vl vu .none->IsPart vl lo->IsPart vu hi->r x lo hi H Q ->
  ∃T id,typeLookup (.type T) "__getitem__"=pure (some (.builtin id))/\s.TypeIs v T/\wpAny (model X.prog X.w) X.A (getItem v (.ref sl)) (EP X Ga σ Q) X.xe s
theorem SlR.or{r r':V->Option Int->Option Int->Hp->VK->Prop}(h:SlR X r)(h':SlR X r'):SlR X (λx lo hi H Q=>r x lo hi H Q\/r' x lo hi H Q):=by
 intro Ga s σ H x v vl vu lo hi sl Q I rx hs pl pu q
 rcases q with q|q
 ·exact h Ga s σ H x v vl vu lo hi sl Q I rx hs pl pu q
 ·exact h' Ga s σ H x v vl vu lo hi sl Q I rx hs pl pu q
def tSl(r:V->Option Int->Option Int->Hp->VK->Prop)(te:TE)(tl th:TO):TE:=λσ H Q=>te σ H λx H1=>tl σ H1 λl H2=>th σ H2 λu H3=>r x l u H3 Q
theorem zss{r:V->Option Int->Option Int->Hp->VK->Prop}(hr:SlR X r)(he:PE X e te)(hl:PO X lo tl)(hu:PO X hi th):PE X (.Subscript e (.Slice lo hi none p2) pos) (tSl r te tl th):=by
 intro Ga s σ H Q I h
 refine Subscript_ (thn (he Ga s σ H _ I h) λv s1 ⟨x,H1,I1,r1,q1⟩=>?_)
 refine wpAny_Slice (thn (hl Ga s1 σ H1 _ I1 q1) λvl s2 ⟨l,H2,I2,pl,q2⟩=>thn (hu Ga s2 σ H2 _ I2 q2) λvu s3 ⟨u,H3,I3,pu,q3⟩=>?_)
 rw [evalPart_none]
 refine wpAny_pure ?_
 have I4:Inv X Ga σ H3 { s3 with heap:=s3.heap.push { cls:=.type "slice",data:=.fields #[vl,vu,.none] } }:=I3.kept (t':=s3.toks) λb ob q=>get?_push_of_some _ q
 obtain ⟨T,id,hT,ht,hg⟩:=hr Ga { s3 with heap:=s3.heap.push { cls:=.type "slice",data:=.fields #[vl,vu,.none] } } σ H3 x v vl vu l u s3.heap.objs.size Q I4 r1 (Heap.IsSliceOf.new ..) pl pu q3
 show wpAny (model X.prog X.w) X.A (subscriptTail e (.Slice lo hi none p2) v (.ref s3.heap.objs.size)) (EP X Ga σ Q) X.xe { s3 with heap:=s3.heap.push { cls:=.type "slice",data:=.fields #[vl,vu,.none] } }
 exact tail_any (ops:=[.ref s3.heap.objs.size,v]) ht hT hg (by with_unfolding_all rfl)
def zaq(xs:List V)(lo hi:Option Int):List V:=(xs.drop (HT.sIx xs.length 0 lo)).take (HT.sIx xs.length xs.length hi-HT.sIx xs.length 0 lo)
theorem zjb(xs:List V)(lo hi:Option Int):(zaq xs lo hi).length<=xs.length:=by
 unfold zaq
 rw [length_take,length_drop]
 omega
def zqh(K:PySem.W.Frag):V->Option Int->Option Int->Hp->VK->Prop:=λx lo hi H Q=>∃a xs,x = .ref a/\SqT K H a xs /\
 ¬ (HT.sIx xs.length 0 lo=0/\HT.sIx xs.length xs.length hi=xs.length)/\∀p,H p=none->Q (.ref p) (upd H p (.tup (zaq xs lo hi)))
theorem zk9:SlR X (zqh X.K):=by
 intro Ga s σ H x v vl vu lo hi sl Q I rx hs pl pu h
 obtain ⟨a,xs,rfl,hx,hw,q⟩:=h
 cases rx
 obtain ⟨its,r,ht,hz⟩:=I.tuple hx
 have hlen:its.toArray.size=xs.length:=by rw [size_toArray];exact r.length.symm
 refine ⟨"tuple",_,PyProof.Rows.slot_tuple_getitem.lookup,ht.typeIs,?_⟩
 refine HT.getItem_tuple_cut ht hs pl pu (by rw [hlen];exact hw) ?_ (by rw [hlen];exact hz)
 rw [hlen]
 refine ⟨.ref s.heap.objs.size,_,I.laid (t':=s.toks) (o:=.tup (zaq xs lo hi)) (λb ob q=>get?_push_of_some _ q) (le_refl _) ?_,rfl,q _ (I.hok.fresh (le_refl _))⟩
 exact ⟨le_trans (zjb xs lo hi) hz,_,(r.drop (HT.sIx xs.length 0 lo)).take (HT.sIx xs.length xs.length hi-HT.sIx xs.length 0 lo),IsTup.new _ _⟩
def zrr(K:PySem.W.Frag):R2:=λx y H Q=>∃a b xs ys,x = .ref a/\y = .ref b/\SqT K H a xs/\SqT K H b ys/\xs≠[]/\xs.length+ys.length<=sizeLine /\
 (ys=[]->Q (.ref a) H)/\(ys≠[]->∀p,H p=none->Q (.ref p) (upd H p (.tup (xs++ys))))
theorem zi.nil_iff{xs:List V}{us:List Value}(r:zi xs us):us=[]↔xs=[]:=by
 cases r with
 | nil=>simp
 | cons _ _=>simp
theorem zmx:OpR X (binaryOp .Add) (zrr X.K):=by
 intro Ga s σ H x y v u Q I rx ry h
 obtain ⟨a,b,xs,ys,rfl,rfl,ha,hb,hx,hz,q1,q2⟩:=h
 cases rx
 cases ry
 obtain ⟨its,r1,p1,_⟩:=I.tuple ha
 obtain ⟨its2,r2,p2,_⟩:=I.tuple hb
 refine HT.cat_tup p1 p2 (λz=>hx (r1.nil_iff.mp z)) (λz=>⟨.ref a,H,I,rfl,q1 (r2.nil_iff.mp z)⟩) (λz=>?_) (by rw [<- r1.length,<- r2.length];exact hz)
 refine ⟨.ref s.heap.objs.size,_,I.laid (t':=s.toks) (o:=.tup (xs++ys)) (λb ob q=>get?_push_of_some _ q) (le_refl _) ?_,rfl,q2 (λw=>z (r2.nil_iff.mpr w)) _ (I.hok.fresh (le_refl _))⟩
 exact ⟨by rw [length_append];exact hz,_,r1.append r2,IsTup.new _ _⟩
end
def ixN(n:Nat)(i:Int):Option Nat:=if 0<=i then (if i<n then some i.toNat else none) else if -(n:Int)<=i then some (i+n).toNat else none
def atI{α:Type}(xs:List α)(i:Int):Option α:=(ixN xs.length i).bind λj=>xs[j]?
theorem zjk{n:Nat}{i:Int}{j:Nat}(h:ixN n i=some j):seqIndex? i n=some j/\j<n/\-(n:Int)<=i/\i<n:=by
 unfold ixN at h
 by_cases h0:0<=i
 ·rw [if_pos h0] at h
  by_cases h1:i<n
  ·rw [if_pos h1] at h
   have e:i.toNat=j:=Option.some.inj h
   exact ⟨by rw [seqIndex_of h0 h1,e],by omega,by omega,h1⟩
  ·rw [if_neg h1] at h;cases h
 ·rw [if_neg h0] at h
  by_cases h1 : -(n:Int)<=i
  ·rw [if_pos h1] at h
   have e:(i+n).toNat=j:=Option.some.inj h
   exact ⟨by rw [seqIndex_neg (by omega) h1,e],by omega,h1,by omega⟩
  ·rw [if_neg h1] at h;cases h
theorem zg1{α:Type}{xs:List α}{i:Int}{v:α}(h:atI xs i=some v):∃j,seqIndex? i xs.length=some j/\xs[j]?=some v/\j<xs.length/\-(xs.length:Int)<=i/\i<xs.length:=by
 unfold atI at h
 cases e:ixN xs.length i with
 | none=>rw [e] at h;cases h
 | some j =>
  rw [e] at h
  obtain ⟨h1,h2,h3,h4⟩:=zjk e
  exact ⟨j,h1,h,h2,h3,h4⟩
theorem zgu{α:Type}{xs:List α}{j:Nat}{v:α}(h:xs[j]?=some v):atI xs (j:Int)=some v:=by
 have hj:j<xs.length:=(List.getElem?_eq_some_iff.mp h).1
 have e:ixN xs.length (j:Int)=some j:=by
  unfold ixN
  rw [if_pos (by omega),if_pos (by omega)];simp
 unfold atI;rw [e];exact h
def ziV(b:Expr):Prop:=∀o i,subscripted b false o i=operate [o,i] (getItem o i)
def IxR(X:Cx)(r:R2):Prop :=
 ∀(value slice:Expr)(Ga:List (Addr×Obj))(s:Shared)(σ:St)(H:Hp)(x y:V)(v u:Value)(Q:VK),Inv X Ga σ H s->zm x v->zm y u->r x y H Q ->
  subscripted slice false v u=operate [v,u] (getItem v u)->wpAny (model X.prog X.w) X.A (subscriptTail value slice v u) (EP X Ga σ Q) X.xe s
section
variable {X:Cx}{a b:Expr}{ta tb:TE}{pos:Pos}
theorem IxR.or{r r':R2}(h:IxR X r)(h':IxR X r'):IxR X (λx y H Q=>r x y H Q\/r' x y H Q):=by
 intro value slice Ga s σ H x y v u Q I rx ry q hs
 rcases q with q|q
 ·exact h value slice Ga s σ H x y v u Q I rx ry q hs
 ·exact h' value slice Ga s σ H x y v u Q I rx ry q hs
theorem zkq{r:R2}(hr:IxR X r)(ha:PE X a ta)(hb:PE X b tb)(hs:ziV b):PE X (.Subscript a b pos) (tOp r ta tb):=by
 intro Ga s σ H Q I h
 exact Subscript_ (zgE ha hb I h λv u s2 x y H2 I2 rx ry q=>hr a b Ga s2 σ H2 x y v u Q I2 rx ry q (hs _ _))
def zjG(K:PySem.W.Frag):R2:=λx y H Q=>∃p xs i v,x = .ref p/\y = .int i/\SqL K H p xs/\atI xs i=some v/\Q v H
def zhK(K:PySem.W.Frag):R2:=λx y H Q=>∃p xs i v,x = .ref p/\y = .int i/\SqT K H p xs/\atI xs i=some v/\Q v H
def zks:R2:=λx y H Q=>∃z i c,x = .str z/\y = .int i/\z.length<=sizeLine/\atI z.cps.toList i=some c/\Q (.str ⟨#[c]⟩) H
theorem zjI:IxR X (zjG X.K):=by
 intro value slice Ga s σ H x y v u Q I rx ry h hs
 obtain ⟨p,xs,i,z,rfl,rfl,hq,he,q⟩:=h
 cases rx
 obtain ⟨t,rfl⟩:=ry
 obtain ⟨its,r,pl,hz⟩:=I.list hq
 obtain ⟨j,h1,h2,h3,h4,h5⟩:=zg1 he
 obtain ⟨w,ew,rw'⟩:=r.get h2
 have hl:=r.length
 have hn:=zbZ
 have fin:EP X Ga σ Q w s:=⟨z,H,I,rw',q⟩
 by_cases h0:0<=i
 ·have hj:i.toNat=j:=by
   rw [seqIndex_of h0 h5] at h1
   exact Option.some.inj h1
  exact item_listR pl.isList h0 (by omega) (by rw [hj];simpa using ew) fin hs
 ·have hj:(i+(its.toArray.size:Int)).toNat=j:=by
   rw [seqIndex_neg (by omega) h4] at h1
   rw [size_toArray,<- hl]
   exact Option.some.inj h1
  exact subscriptTail_builtinR (x:=w) pl.isList.typeIs slot_list_getitem.lookup
   (wpAny_getItem_list_neg (Q:=λr s'=>r=w/\EP X Ga σ Q r s') pl.isList (by omega) (by rw [size_toArray]<;>omega) (by omega) (by rw [hj];simpa using ew) ⟨rfl,fin⟩) hs
theorem zmX:IxR X (zhK X.K):=by
 intro value slice Ga s σ H x y v u Q I rx ry h hs
 obtain ⟨p,xs,i,z,rfl,rfl,hq,he,q⟩:=h
 cases rx
 obtain ⟨t,rfl⟩:=ry
 obtain ⟨its,r,pl,hz⟩:=I.tuple hq
 obtain ⟨j,h1,h2,h3,h4,h5⟩:=zg1 he
 obtain ⟨w,ew,rw'⟩:=r.get h2
 have hl:=r.length
 have hn:=zbZ
 have fin:EP X Ga σ Q w s:=⟨z,H,I,rw',q⟩
 exact subscriptTail_builtinR (x:=w) pl.typeIs slot_tuple_getitem.lookup
  (getItem_tuple (j:=j) (Q:=λr s'=>r=w/\EP X Ga σ Q r s') pl (by omega) (by omega) (by rw [size_toArray,<- hl];exact h1) (by simpa using ew) ⟨rfl,fin⟩) hs
theorem zoc:IxR X zks:=by
 intro value slice Ga s σ H x y v u Q I rx ry h hs
 obtain ⟨z,i,c,rfl,rfl,hz,he,q⟩:=h
 obtain ⟨t,rfl⟩:=rx
 obtain ⟨t',rfl⟩:=ry
 obtain ⟨j,h1,h2,h3,h4,h5⟩:=zg1 he
 have hl:z.cps.toList.length=z.length:=by simp [Str.length]
 rw [hl] at h1 h4 h5
 have hn:=zbZ
 exact tail_any (typeIs_str s z t) slot_str_getitem.lookup (getItem_str (c:=c) (by
  have e1:decide (i < -(2 ^ 63:Int))=false:=decide_eq_false (by omega)
  have e2:decide (i ≥ 2 ^ 63)=false:=decide_eq_false (by omega)
  rw [e1,e2,Bool.or_false]) (by rw [h1];simpa using h2) ⟨.str ⟨#[c]⟩,H,I.tok _,⟨_,rfl⟩,q⟩) hs
def rIx(K:PySem.W.Frag):R2:=λx y H Q=>zjG K x y H Q\/zhK K x y H Q\/zks x y H Q
theorem zkV:IxR X (rIx X.K):=zjI.or (zmX.or zoc)
theorem zsH(its:List Value)(n j:Nat)(u:Value):mapSeq (·.setIfInBounds j u) { cls:=.type "list",data:=.seq its.toArray n }={ cls:=.type "list",data:=.seq (its.set j u).toArray n }:=by
 simp [mapSeq]
theorem Inv.lst{Ga:List (Addr×Obj)}{σ:St}{H:Hp}{s:Shared}{p:Addr}{xs:List V}(I:Inv X Ga σ H s)(h:H p=some (.lst xs)) :
  ∃(its:List Value)(n:Nat),zi xs its/\s.heap.get? p=some { cls:=.type "list",data:=.seq its.toArray n }/\xs.length<=sizeLine:=by
 obtain ⟨z,its,n,r,e⟩:=I.hok p _ h
 exact ⟨its,n,r,e,z⟩
theorem Inv.lstUpd{Ga:List (Addr×Obj)}{σ:St}{H:Hp}{s:Shared}{p:Addr}{xs ys:List V}{its its':List Value}{n n':Nat}{f:Obj->Obj}(I:Inv X Ga σ H s)(h:H p=some (.lst xs))
  (ho:s.heap.get? p=some { cls:=.type "list",data:=.seq its.toArray n }) (hf:f { cls:=.type "list",data:=.seq its.toArray n }={ cls:=.type "list",data:=.seq its'.toArray n' }) (r:zi ys its') (hz:ys.length<=sizeLine) (t:Nat) :
  Inv X Ga σ (upd H p (.lst ys)) { s with heap:=s.heap.update p f,toks:=t }:=by
 have e:(s.heap.update p f).get? p=some { cls:=.type "list",data:=.seq its'.toArray n' }:=by
  rw [get?_update_self f ho (by rw [hf]<;>rfl),hf]
 refine I.write (x:=p) (e:=p) (by rw [h];trivial) (.inl rfl) (λb u hb q=>(get?_update_other _ _ (Ne.symm hb)).trans q) ⟨_,e⟩ ?_
 exact ⟨hz,its',n',r,e⟩
def zfQ:V->V->V->Hp->(Hp->Prop)->Prop:=λo i v H Q=>∃p xs k j,o = .ref p/\i = .int k/\H p=some (.lst xs)/\ixN xs.length k=some j/\Q (upd H p (.lst (xs.set j v)))
theorem zf0:zeD X zfQ:=by
 intro Ga s σ H o i v ov iv u Q I ro ri rv h
 obtain ⟨p,xs,k,j,rfl,rfl,hp,hj,q⟩:=h
 cases ro
 obtain ⟨t,rfl⟩:=ri
 obtain ⟨its,n,r,ho,hz⟩:=I.lst hp
 obtain ⟨h1,h2,h3,h4⟩:=zjk hj
 have hl:=r.length
 have hn:=zbZ
 have I':Inv X Ga σ (upd H p (.lst (xs.set j v))) { s with heap:=s.heap.update p (mapSeq (·.setIfInBounds j u)) } :=
  I.lstUpd hp ho (zsH its n j u) (r.set rv j) (by rw [List.length_set];exact hz) s.toks
 by_cases h0:0<=k
 ·have hk:k.toNat=j:=by
   rw [seqIndex_of h0 h4] at h1
   exact Option.some.inj h1
  exact PySem.W.ki_setAt ho h0 (by omega) (by rw [size_toArray,<- hl];exact h4) (by rw [hk];exact ⟨_,I',q⟩)
 ·have hk:(k+(its.toArray.size:Int)).toNat=j:=by
   rw [seqIndex_neg (by omega) h3] at h1
   rw [size_toArray,<- hl]
   exact Option.some.inj h1
  exact PySem.W.ki_setBack ho (by omega) (by rw [size_toArray,<- hl];exact h3) (by omega) (by rw [hk];exact ⟨_,I',q⟩)
theorem zkP(lo hi:Option Int)(n:Nat):(sliceBounds lo hi none n).1=((HT.sIx n 0 lo:Nat):Int)/\(sliceBounds lo hi none n).2.1=((HT.sIx n n hi:Nat):Int)/\(sliceBounds lo hi none n).2.2=1:=by
 refine ⟨?_,?_,rfl⟩
 ·cases lo with
  | none=>simp [sliceBounds,HT.sIx]
  | some i =>
   simp only [sliceBounds,HT.sIx,getD_none,show (1:Int)>0 by decide,if_true]
   by_cases h:i<0
   ·simp only [h,if_true]<;>omega
   ·simp only [h,if_false]<;>omega
 ·cases hi with
  | none=>simp [sliceBounds,HT.sIx]
  | some i =>
   simp only [sliceBounds,HT.sIx,getD_none,show (1:Int)>0 by decide,if_true]
   by_cases h:i<0
   ·simp only [h,if_true]<;>omega
   ·simp only [h,if_false]<;>omega
theorem zuW(its:List Value)(lo hi:Option Int):slicePick its.toArray lo hi none=((its.drop (HT.sIx its.length 0 lo)).take (HT.sIx its.length its.length hi-HT.sIx its.length 0 lo)).toArray:=by
 obtain ⟨h1,h2,h3⟩:=zkP lo hi its.toArray.size
 unfold slicePick
 rw [h1,h2,h3]
 simp only [sliceRange_one,pick_run,size_toArray]<;>rfl
def zsX(K:PySem.W.Frag):V->Option Int->Option Int->Hp->VK->Prop:=λx lo hi H Q=>∃a xs,x = .ref a/\SqL K H a xs/\∀p,H p=none->Q (.ref p) (upd H p (.lst (zaq xs lo hi)))
theorem zmm:SlR X (zsX X.K):=by
 intro Ga s σ H x v vl vu lo hi sl Q I rx hs pl pu h
 obtain ⟨a,xs,rfl,hx,q⟩:=h
 cases rx
 obtain ⟨its,r,ht,hz⟩:=I.list hx
 have hlen:=r.length
 refine ⟨"list",_,slot_list_getitem.lookup,ht.isList.typeIs,?_⟩
 refine wpAny_getItem_list_slice ht.isList hs pl pu .none (by simp) ?_ (by rw [size_toArray]<;>omega)
 rw [zuW,<- hlen]
 refine ⟨.ref s.heap.objs.size,_,I.laid (t':=s.toks) (o:=.lst (zaq xs lo hi)) (λb ob q=>get?_push_of_some _ q) (le_refl _) ?_,rfl,q _ (I.hok.fresh (le_refl _))⟩
 exact ⟨le_trans (zjb xs lo hi) hz,_,0,(r.drop (HT.sIx xs.length 0 lo)).take (HT.sIx xs.length xs.length hi-HT.sIx xs.length 0 lo),get?_push_size _ rfl⟩
def zF:V->Bool
 | .non=>true
 | .bl _=>true
 | .int _=>true
 | .str _=>true
 | _=>false
def eqV:V->V->Bool
 | .non,.non=>true
 | .bl a,.bl b=>a==b
 | .bl a,.int b=>(if a then 1 else 0)==b
 | .int a,.bl b=>a==(if b then 1 else 0)
 | .int a,.int b=>a==b
 | .str a,.str b=>a==b
 | _,_=>false
theorem zeY{A:Around}{s:Shared}{y x:V}{u v:Value}(ry:zm y u)(rx:zm x v)(fy:zF y=true)(fx:zF x=true):SeqAt.EqAt A s u v (eqV y x):=by
 cases y with
 | non =>
  cases ry
  cases x with
  | non=>cases rx;exact SeqAt.EqAt.same _
  | bl b=>cases rx;exact SeqAt.EqAt.none_bool b
  | int b=>obtain ⟨t,rfl⟩:=rx;exact SeqAt.EqAt.none_int b t
  | str b=>obtain ⟨t,rfl⟩:=rx;exact SeqAt.EqAt.none_str b t
  | _=>exact absurd (show false=true from fx) Bool.false_ne_true
 | bl a =>
  cases ry
  cases x with
  | non=>cases rx;exact SeqAt.EqAt.bool_none a
  | bl b=>cases rx;exact SeqAt.EqAt.bool_bool a b
  | int b=>obtain ⟨t,rfl⟩:=rx;exact SeqAt.EqAt.bool_int a b t
  | str b=>obtain ⟨t,rfl⟩:=rx;exact SeqAt.EqAt.bool_str a b t
  | _=>exact absurd (show false=true from fx) Bool.false_ne_true
 | int a =>
  obtain ⟨t',rfl⟩:=ry
  cases x with
  | non=>cases rx;exact SeqAt.EqAt.int_none a t'
  | bl b=>cases rx;exact SeqAt.EqAt.int_bool a t' b
  | int b=>obtain ⟨t,rfl⟩:=rx;exact SeqAt.EqAt.int_int a t' b t
  | str b=>obtain ⟨t,rfl⟩:=rx;exact SeqAt.EqAt.int_str a t' b t
  | _=>exact absurd (show false=true from fx) Bool.false_ne_true
 | str a =>
  obtain ⟨t',rfl⟩:=ry
  cases x with
  | non=>cases rx;exact SeqAt.EqAt.str_none a t'
  | bl b=>cases rx;exact SeqAt.EqAt.str_bool a t' b
  | int b=>obtain ⟨t,rfl⟩:=rx;exact SeqAt.EqAt.str_int a t' b t
  | str b=>obtain ⟨t,rfl⟩:=rx;exact SeqAt.EqAt.str_str a t' b t
  | _=>exact absurd (show false=true from fx) Bool.false_ne_true
 | _=>exact absurd (show false=true from fy) Bool.false_ne_true
def eqU(x:V)(u:Value):Bool:=match u with
 | .none=>eqV .non x
 | .bool b=>eqV (.bl b) x
 | .int i _=>eqV (.int i) x
 | .str z _=>eqV (.str z) x
 | _=>false
theorem zi0{x y:V}{u:Value}(r:zm y u)(f:zF y=true):eqU x u=eqV y x:=by
 cases y with
 | non=>cases r;rfl
 | bl b=>cases r;rfl
 | int i=>obtain ⟨t,rfl⟩:=r;rfl
 | str z=>obtain ⟨t,rfl⟩:=r;rfl
 | _=>exact absurd (show false=true from f) Bool.false_ne_true
theorem zfM{x:V}:∀{xs:List V}{us:List Value},zi xs us->xs.all zF=true->us.any (eqU x)=xs.any λy=>eqV y x
 | _,_,.nil,_=>rfl
 | y::xs,u::us,.cons r t,f=>by
  rw [List.all_cons,and_eq_true] at f
  rw [any_cons,any_cons,zi0 r f.1,zfM t f.2]
theorem zfv{A:Around}{s:Shared}{x:V}{v:Value}(rx:zm x v)(fx:zF x=true):∀{xs:List V}{us:List Value},zi xs us->xs.all zF=true->∀u∈us,SeqAt.EqAt A s u v (eqU x u)
 | _,_,.nil,_=>λu hu=>by cases hu
 | y::xs,u::us,.cons r t,f=>λu' hu=>by
  rw [List.all_cons,and_eq_true] at f
  rcases mem_cons.mp hu with rfl|hu
  ·rw [zi0 r f.1];exact zeY r rx f.1 fx
  ·exact zfv rx fx t f.2 u' hu
def inV(x:V)(xs:List V):Bool:=xs.any λy=>eqV y x
def rIn(K:PySem.W.Frag)(neg:Bool):R2:=λx y H Q=>∃p xs,y = .ref p/\(SqL K H p xs\/SqT K H p xs)/\zF x=true/\xs.all zF=true/\Q (.bl (if neg then !inV x xs else inV x xs)) H
theorem zph:OpR X (compareOp .NotIn) (rIn X.K true):=by
 intro Ga s σ H x y v u Q I rx ry h
 obtain ⟨p,xs,rfl,hq,fx,fs,q⟩:=h
 cases ry
 rcases hq with hq|hq
 ·obtain ⟨its,r,pl,hz⟩:=I.list hq
  refine SeqAt.notIn_listAt (eqU x) pl.isList (λw hw=>zfv rx fx r fs w (by simpa using hw)) ⟨.bl _,H,I,rfl,?_⟩
  rw [show its.toArray.any (eqU x)=its.any (eqU x) by simp,zfM r fs]
  exact q
 ·obtain ⟨its,r,pl,hz⟩:=I.tuple hq
  refine SeqAt.notIn_tupleAt (eqU x) pl (λw hw=>zfv rx fx r fs w (by simpa using hw)) ⟨.bl _,H,I,rfl,?_⟩
  rw [show its.toArray.any (eqU x)=its.any (eqU x) by simp,zfM r fs]
  exact q
theorem zfx:zL X (.builtin "len") (λxs H Q=>∃p ys,xs=[.ref p]/\(SqL X.K H p ys\/SqT X.K H p ys)/\Q (.int ys.length) H):=by
 intro Ga s σ H xs us Q I r h
 obtain ⟨p,ys,rfl,hq,q⟩:=h
 obtain ⟨u,rfl,rx⟩:=zaR r
 cases rx
 have hn:=zbZ
 rcases hq with hq|hq
 ·obtain ⟨its,r',pl,hz⟩:=I.list hq
  have hlen:=r'.length
  exact Calls.call_len_list pl.isList (by simp only [size_toArray]<;>omega) ⟨.int ys.length,H,I.tok _,⟨s.toks+1,by rw [size_toArray,hlen]⟩,q⟩
 ·obtain ⟨its,r',pl,hz⟩:=I.tuple hq
  have hlen:=r'.length
  exact len_tuple pl (by simp only [size_toArray]<;>omega) ⟨.int ys.length,H,I.tok _,⟨s.toks+1,by rw [size_toArray,hlen]⟩,q⟩
theorem zp6:zL X (.builtin "len") (λxs H Q=>∃z,xs=[.str z]/\z.length<=sizeLine/\Q (.int z.length) H):=by
 intro Ga s σ H xs us Q I r h
 obtain ⟨z,rfl,hz,q⟩:=h
 obtain ⟨u,rfl,t,rfl⟩:=zaR r
 have hn:=zbZ
 exact len_str (by omega) ⟨.int z.length,H,I.tok _,⟨_,rfl⟩,q⟩
theorem zL.or{f:Value}{r r':List V->Hp->VK->Prop}(h:zL X f r)(h':zL X f r'):zL X f (λxs H Q=>r xs H Q\/r' xs H Q):=by
 intro Ga s σ H xs us Q I rs q
 rcases q with q|q
 ·exact h Ga s σ H xs us Q I rs q
 ·exact h' Ga s σ H xs us Q I rs q
theorem zte:zL X (.type "list") (λxs H Q=>∃p ys,xs=[.ref p]/\(SqL X.K H p ys\/SqT X.K H p ys)/\∀l,H l=none->Q (.ref l) (upd H l (.lst ys))):=by
 intro Ga s σ H xs us Q I r h
 obtain ⟨p,ys,rfl,hq,q⟩:=h
 obtain ⟨u,rfl,rx⟩:=zaR r
 cases rx
 have fin:∀(its:List Value),zi ys its->ys.length<=sizeLine->∀(h':Heap)(c':Nat),(∀b o',s.heap.get? b=some o'->h'.get? b=some o') ->
   h'.get? s.heap.objs.size=some { cls:=.type "list",dict:=none,data:=.seq its.toArray c',slots:=#[] }->EP X Ga σ Q (.ref s.heap.objs.size) { s with heap:=h' }:=λits r' hz h' c' kp e =>
  ⟨.ref s.heap.objs.size,_,I.laid (t':=s.toks) kp (le_refl _) (show zV X.prog X.w _ h' _ (.lst ys) from ⟨hz,its,c',r',e⟩),rfl,q _ (I.hok.fresh (le_refl _))⟩
 rcases hq with hq|hq
 ·obtain ⟨its,r',pl,hz⟩:=I.list hq
  have hlen:=r'.length
  obtain ⟨o,ho,hc,n,hd⟩:=pl.isList
  exact call_list_seq p (.inl rfl) ho hc hd (λh' c' kp e=>fin its r' hz h' c' kp e) (by simp only [size_toArray]<;>omega)
 ·obtain ⟨its,r',pl,hz⟩:=I.tuple hq
  have hlen:=r'.length
  obtain ⟨o,ho,hc,n,hd⟩:=pl
  exact call_list_seq p (.inr rfl) ho hc hd (λh' c' kp e=>fin its r' hz h' c' kp e) (by simp only [size_toArray]<;>omega)
theorem zqL:zL X (.type "tuple") (λxs H Q=>∃p ys,xs=[.ref p]/\((SqL X.K H p ys/\∀l,H l=none->Q (.ref l) (upd H l (.tup ys)))\/(SqT X.K H p ys/\Q (.ref p) H))):=by
 intro Ga s σ H xs us Q I r h
 obtain ⟨p,ys,rfl,h⟩:=h
 obtain ⟨u,rfl,rx⟩:=zaR r
 cases rx
 rcases h with ⟨hq,q⟩|⟨hq,q⟩
 ·obtain ⟨its,r',pl,hz⟩:=I.list hq
  have hlen:=r'.length
  refine call_tuple_list pl.isList (λh' kp=>?_) (by simp only [size_toArray]<;>omega)
  have I1:Inv X Ga σ H { s with heap:=h' }:=I.kept (t':=s.toks) kp
  have I2:Inv X Ga σ (upd H h'.objs.size (.tup ys)) { s with heap:=h'.push { cls:=.type "tuple",data:=.seq its.toArray } } :=
   I1.laid (t':=s.toks) (λb o e=>get?_push_of_some _ e) (le_refl _) (show zV X.prog X.w _ _ _ (.tup ys) from ⟨hz,its,r',IsTup.new _ _⟩)
  exact ⟨.ref h'.objs.size,_,I2,rfl,q _ (I1.hok.fresh (le_refl _))⟩
 ·obtain ⟨its,r',pl,hz⟩:=I.tuple hq
  exact call_tuple_same pl ⟨.ref p,H,I,rfl,q⟩
def tyV(K:PySem.W.Frag)(T:String)(x:V)(H:Hp):Prop:=match x with
 | .str _=>T="str"
 | .int _=>T="int"
 | .ref p=>(T="list"/\∃xs,SqL K H p xs)\/(T="tuple"/\∃o,K.lookup p=some o/\o.cls = .type "tuple"/\o.dict=none) \/
   (T="dict"/\((∃kvs,H p=some (.dK kvs))\/∃kvs,H p=some (.dT kvs)))\/(T="set"/\∃S n,H p=some (.set S n))
 | _=>False
theorem zgz{Ga:List (Addr×Obj)}{σ:St}{H:Hp}{s:Shared}{T:String}{x:V}{v:Value}(I:Inv X Ga σ H s)(r:zm x v)(ty:tyV X.K T x H) :
  s.TypeIs v T/\∀a,v = .ref a->∃ob,s.heap.get? a=some ob/\ob.dict=none:=by
 cases x with
 | str z =>
  obtain ⟨t,rfl⟩:=r
  cases (show T="str" from ty)
  exact ⟨typeIs_str s z t,λ_ e=>nomatch e⟩
 | int i =>
  obtain ⟨t,rfl⟩:=r
  cases (show T="int" from ty)
  exact ⟨typeIs_int s i t,λ_ e=>nomatch e⟩
 | ref p =>
  cases r
  rcases ty with ⟨rfl,xs,hq⟩|⟨rfl,o,hk,hc,hd⟩|⟨rfl,hk⟩|⟨rfl,S,n,hk⟩
  ·obtain ⟨its,_,pl,_⟩:=I.list hq
   refine ⟨pl.isList.typeIs,λa e=>?_⟩
   cases e
   obtain ⟨o,n,e,c,hd,_⟩:=pl
   exact ⟨o,e,hd⟩
  ·refine ⟨⟨o,I.kIn p o hk,hc⟩,λa e=>?_⟩
   cases e
   exact ⟨o,I.kIn _ o hk,hd⟩
  ·have z:∃o,s.heap.get? p=some o/\o.ExactDict:=by
    rcases hk with ⟨kvs,hk⟩|⟨kvs,hk⟩
    ·obtain ⟨_,_,_,_,o,_,_,e,ex,_⟩:=I.hok p _ hk
     exact ⟨o,e,ex⟩
    ·obtain ⟨_,_,_,_,o,_,_,e,ex,_⟩:=I.hok p _ hk
     exact ⟨o,e,ex⟩
   obtain ⟨o,e,ex⟩:=z
   refine ⟨⟨o,e,ex.1⟩,λa e2=>?_⟩
   cases e2
   exact ⟨o,e,ex.2.1⟩
  ·obtain ⟨o,_,_,_,e,ex,_⟩:=I.hok p _ hk
   refine ⟨⟨o,e,ex.1⟩,λa e2=>?_⟩
   cases e2
   exact ⟨o,e,ex.2.1⟩
 | _=>exact False.elim ty
variable {o e:Expr}{es:List Expr}{to:TE}{t:TA}{name:Str}{apos cpos:Pos}{T id:String}{r:V->List V->Hp->VK->Prop}
end
def MtM(X:Cx)(id:String)(r:V->List V->Hp->VK->Prop):Prop :=
 ∀(Ga:List (Addr×Obj))(s:Shared)(σ:St)(H:Hp)(x:V)(xs:List V)(v:Value)(us:List Value)(Q:VK),Inv X Ga σ H s->zm x v->zi xs us->r x xs H Q ->
  wpAny (model X.prog X.w) X.A (call (.builtin id) (v::us)) (EP X Ga σ Q) X.xe s
theorem zi.one:∀{x:V}{us:List Value},zi [x] us->∃u,us=[u]/\zm x u
 | _,_,.cons r .nil=>⟨_,rfl,r⟩
theorem zi.zero:∀{us:List Value},zi [] us->us=[]
 | _,.nil=>rfl
theorem zi.dropLast{xs:List V}{us:List Value}(h:zi xs us):zi xs.dropLast us.dropLast:=by
 induction h with
 | nil=>exact .nil
 | cons r t ih =>
  cases t with
  | nil=>exact .nil
  | cons q t'=>exact .cons r ih
theorem zi.eraseIdx:∀{xs:List V}{us:List Value}(i:Nat),zi xs us->zi (xs.eraseIdx i) (us.eraseIdx i)
 | _,_,_,.nil=>.nil
 | _,_,0,.cons _ t=>t
 | _,_,i+1,.cons r t=>.cons r (zi.eraseIdx i t)
theorem zi.rep{xs:List V}{us:List Value}(h:zi xs us):∀k:Nat,zi (replicate k xs).flatten (replicate k us).flatten
 | 0=>.nil
 | k+1=>by
  rw [replicate_succ,replicate_succ,flatten_cons,flatten_cons]
  exact zi.append h (zi.rep h k)
theorem zn6{α:Type}(l:List α):l.eraseIdx (l.length-1)=l.dropLast:=by
 induction l with
 | nil=>rfl
 | cons a r ih =>
  cases r with
  | nil=>rfl
  | cons b r =>
   have e:(a::b::r).length-1=((b::r).length-1)+1:=by
    have h1:(a::b::r).length=r.length+2:=rfl
    have h2:(b::r).length=r.length+1:=rfl
    omega
   rw [e,List.eraseIdx_cons_succ,ih]
   all_goals rfl
theorem zjw{α:Type}:∀(l:List α)(i:Nat),(l.eraseIdx i).length<=l.length
 | [],_=>le_refl _
 | _::_,0=>le_succ _
 | _::r,i+1=>Nat.succ_le_succ (zjw r i)
theorem zib(its:List Value):∀(k:Nat)(acc:List Value),
  foldl (λx1 x2=>x1++x2) acc.toArray (replicate k its.toArray)=(acc++(replicate k its).flatten).toArray
 | 0,acc=>by simp
 | k+1,acc=>by
  have e:acc.toArray++its.toArray=(acc++its).toArray:=by simp
  have e2:(acc++its)++(replicate k its).flatten=acc++(replicate (k+1) its).flatten:=by
   rw [replicate_succ,flatten_cons,List.append_assoc]
  rw [<- e2,<- zib its k (acc++its),<- e,replicate_succ,List.foldl_cons]
section
variable {X:Cx}{Ga:List (Addr×Obj)}{σ:St}{H:Hp}{s:Shared}{l b:Addr}{xs ys zs:List V}
theorem Inv.lset{its its':List Value}{n:Nat}{f:Array Value->Array Value}{t':Nat}(I:Inv X Ga σ H s)(hH:H l=some (.lst xs))
  (e:s.heap.get? l=some { cls:=.type "list",data:=.seq its.toArray n }) (hf:f its.toArray=its'.toArray) (hv:zi ys its') (hz:ys.length<=sizeLine) :
  Inv X Ga σ (upd H l (.lst ys)) { s with heap:=s.heap.update l (mapSeq f),toks:=t' }:=by
 have q:=PySem.IsL.update e f
 rw [hf] at q
 refine I.write (x:=l) (e:=l) (by rw [hH];exact trivial) (.inl rfl) (λb' u hb hu=>(get?_update_other s.heap (mapSeq f) (Ne.symm hb)).trans hu) ⟨_,q⟩ ?_
 exact ⟨hz,its',_,hv,q⟩
theorem Inv.lnew{its:List Value}{t':Nat}(I:Inv X Ga σ H s)(hv:zi ys its)(hz:ys.length<=sizeLine) :
  Inv X Ga σ (upd H s.heap.objs.size (.lst ys)) { s with heap:=s.heap.push { cls:=.type "list",data:=.seq its.toArray },toks:=t' } :=
 I.laid (λ_ _ q=>get?_push_of_some _ q) (le_refl _) ⟨hz,its,0,hv,get?_push_size _ rfl⟩
theorem Inv.fresh(I:Inv X Ga σ H s):H s.heap.objs.size=none:=I.hok.fresh (le_refl _)
theorem Inv.lstM(I:Inv X Ga σ H s)(hH:H l=some (.lst xs)):xs.length<=sizeLine/\∃(its:List Value)(n:Nat),zi xs its/\xs.length=its.length/\s.heap.get? l=some { cls:=.type "list",data:=.seq its.toArray n }:=by
 obtain ⟨z,its,n,r,e⟩:=I.hok l _ hH
 exact ⟨z,its,n,r,r.length,e⟩
theorem zic{n:Nat}(h:n<=sizeLine):Builtin.List.listTooLong n=false:=by
 unfold Builtin.List.listTooLong
 exact decide_eq_false (by omega)
end
section
variable {X:Cx}
def zmZ:V->List V->Hp->VK->Prop:=λx vs H Q=>∃l xs y,x = .ref l/\vs=[y]/\H l=some (.lst xs)/\xs.length<sizeLine/\Q .non (upd H l (.lst (xs++[y])))
theorem zmr:MtM X "list.append" zmZ:=by
 intro Ga s σ H x vs v us Q I rx rv h
 obtain ⟨l,xs,y,rfl,rfl,hH,hz,q⟩:=h
 cases rx
 obtain ⟨u,rfl,ru⟩:=rv.one
 obtain ⟨z,its,n,r,hl,e⟩:=I.lstM hH
 refine call_meets F.slot_list_append ⟨_,e,rfl⟩ F.entry_list_append (F.args_list_append_2 _ _) (PySem.list_append l its.toArray n u (by rw [size_toArray];omega)) ⟨e,?_⟩
 refine ⟨.non,_,I.lset (its':=its++[u]) hH e (by simp) (r.append (.cons ru .nil)) ?_,rfl,q⟩
 rw [length_append,length_singleton]
 omega
def zrL:V->List V->Hp->VK->Prop:=λx vs H Q=>∃l b xs zs,x = .ref l/\vs=[.ref b]/\H l=some (.lst xs)/\H b=some (.lst zs)/\xs.length+zs.length<=sizeLine/\Q .non (upd H l (.lst (xs++zs)))
theorem zvi:MtM X "list.extend" zrL:=by
 intro Ga s σ H x vs v us Q I rx rv h
 obtain ⟨l,b,xs,zs,rfl,rfl,hH,hB,hz,q⟩:=h
 cases rx
 obtain ⟨u,rfl,ru⟩:=rv.one
 cases ru
 obtain ⟨z,its,n,r,hl,e⟩:=I.lstM hH
 obtain ⟨z2,its2,n2,r2,hl2,e2⟩:=I.lstM hB
 have hsz:its.toArray.size+its2.toArray.size<=sizeLine:=by rw [size_toArray,size_toArray];omega
 have hlong : ¬ (!its.toArray.isEmpty&&Builtin.List.listTooLong (its.toArray.size+its2.toArray.size))=true:=by
  rw [zic hsz,Bool.and_false]
  exact Bool.false_ne_true
 refine call_meets F.slot_list_extend ⟨_,e,rfl⟩ F.entry_list_extend (F.args_list_extend_2 _ _)
  (AutoSeq1.list_extend_list_list_0 l its.toArray n b its2.toArray n2 hlong (by rw [size_toArray];omega) (by omega)) ⟨e,e2,?_⟩
 refine ⟨.non,_,I.lset (its':=its++its2) hH e (by simp) (r.append r2) ?_,rfl,q⟩
 rw [length_append]
 omega
def zmV:V->List V->Hp->VK->Prop:=λx vs H Q=>∃l xs y,x = .ref l/\vs=[]/\H l=some (.lst xs)/\xs[xs.length-1]?=some y/\Q y (upd H l (.lst xs.dropLast))
theorem zvg:MtM X "list.pop" zmV:=by
 intro Ga s σ H x vs v us Q I rx rv h
 obtain ⟨l,xs,y,rfl,rfl,hH,hy,q⟩:=h
 cases rx
 have hus:=rv.zero
 subst hus
 obtain ⟨z,its,n,r,hl,e⟩:=I.lstM hH
 obtain ⟨u,hu,ru⟩:=r.get hy
 have hy':its.toArray[its.toArray.size-1]?=some u:=by
  show its.toArray[its.length-1]?=some u
  rw [<- getElem?_toList,<- hl]
  exact hu
 refine call_meets F.slot_list_pop ⟨_,e,rfl⟩ F.entry_list_pop (F.args_list_pop_1 _) (MeetsSeq.list_pop_last l its.toArray n u hy' (by rw [size_toArray];omega)) ⟨e,?_⟩
 refine ⟨y,_,I.lset (its':=its.dropLast) hH e ?_ r.dropLast ?_,ru,q⟩
 ·show its.toArray.eraseIdxIfInBounds (its.toArray.size-1)=its.dropLast.toArray
  rw [size_toArray,List.eraseIdxIfInBounds_toArray,zn6]
 ·rw [List.length_dropLast]
  omega
def zmA:V->List V->Hp->VK->Prop:=λx vs H Q=>∃l xs i k y,x = .ref l/\vs=[.int i]/\H l=some (.lst xs)/\-(2 ^ 63)<=i/\i<2 ^ 63/\seqIndex? i xs.length=some k/\xs[k]?=some y/\Q y (upd H l (.lst (xs.eraseIdx k)))
theorem zlP:MtM X "list.pop" zmA:=by
 intro Ga s σ H x vs v us Q I rx rv h
 obtain ⟨l,xs,i,k,y,rfl,rfl,hH,h1,h2,hk,hy,q⟩:=h
 cases rx
 obtain ⟨u,rfl,ru⟩:=rv.one
 obtain ⟨t,rfl⟩:=ru
 obtain ⟨z,its,n,r,hl,e⟩:=I.lstM hH
 obtain ⟨w,hw,rw'⟩:=r.get hy
 refine call_meets F.slot_list_pop ⟨_,e,rfl⟩ F.entry_list_pop (F.args_list_pop_2 _ _)
  (MeetsSeq.list_pop_at l its.toArray n i t k w (fitsIndex_both h1 h2) (by rw [size_toArray,<- hl];exact hk) (by rw [<- getElem?_toList];exact hw) (by rw [size_toArray];omega)) ⟨e,?_⟩
 refine ⟨y,_,I.lset (its':=its.eraseIdx k) hH e ?_ (r.eraseIdx k) ?_,rw',q⟩
 ·show its.toArray.eraseIdxIfInBounds k=(its.eraseIdx k).toArray
  rw [List.eraseIdxIfInBounds_toArray]
 ·have:=zjw xs k
  omega
def zoL:V->List V->Hp->VK->Prop:=λx vs H Q=>∃l xs,x = .ref l/\vs=[]/\H l=some (.lst xs)/\Q .non (upd H l (.lst []))
theorem zsZ:MtM X "list.clear" zoL:=by
 intro Ga s σ H x vs v us Q I rx rv h
 obtain ⟨l,xs,rfl,rfl,hH,q⟩:=h
 cases rx
 have hus:=rv.zero
 subst hus
 obtain ⟨z,its,n,r,hl,e⟩:=I.lstM hH
 refine call_meets F.slot_list_clear ⟨_,e,rfl⟩ F.entry_list_clear (F.args_list_clear_1 _) (AutoSeq1.list_clear_list_0 l its.toArray n (by rw [size_toArray];omega)) ⟨e,?_⟩
 exact ⟨.non,_,I.lset (its':=[]) (ys:=[]) hH e rfl .nil (zero_le _),rfl,q⟩
def zkN:R2:=λx y H Q=>∃l b xs zs,x = .ref l/\y = .ref b/\H l=some (.lst xs)/\H b=some (.lst zs)/\xs.length+zs.length<=sizeLine/\∀p,H p=none->Q (.ref p) (upd H p (.lst (xs++zs)))
theorem ztc:OpR X (binaryOp .Add) zkN:=by
 intro Ga s σ H x y v u Q I rx ry h
 obtain ⟨l,b,xs,zs,rfl,rfl,hH,hB,hz,q⟩:=h
 cases rx
 cases ry
 obtain ⟨z,its,n,r,hl,e⟩:=I.lstM hH
 obtain ⟨z2,its2,n2,r2,hl2,e2⟩:=I.lstM hB
 refine PySem.P.add_list e e2 ?_ (by rw [size_toArray,size_toArray];omega)
 have ea:its.toArray++its2.toArray=(its++its2).toArray:=by simp
 rw [ea]
 exact ⟨.ref _,_,I.lnew (t':=s.toks) (r.append r2) (by rw [length_append];omega),rfl,q _ I.fresh⟩
def zoN:R2:=λx y H Q=>∃l k xs,x = .ref l/\y = .int k/\H l=some (.lst xs)/\-(2 ^ 63)<=k/\k<2 ^ 63/\xs.length*k.toNat<=sizeLine /\
 ∀p,H p=none->Q (.ref p) (upd H p (.lst (replicate k.toNat xs).flatten))
theorem zkI{α:Type}(xs:List α)(k:Nat):(replicate k xs).flatten.length=k*xs.length:=by
 induction k with
 | zero=>simp
 | succ k ih=>rw [replicate_succ,flatten_cons,length_append,ih,Nat.succ_mul,Nat.add_comm]
theorem zsp:OpR X (binaryOp .Mult) zoN:=by
 intro Ga s σ H x y v u Q I rx ry h
 obtain ⟨l,k,xs,rfl,rfl,hH,h1,h2,hz,q⟩:=h
 cases rx
 obtain ⟨t,rfl⟩:=ry
 obtain ⟨z,its,n,r,hl,e⟩:=I.lstM hH
 have hlen:its.toArray.size*k.toNat<=sizeLine:=by rw [size_toArray,<- hl];exact hz
 have hcap : ¬ its.toArray.size*k.toNat>(2 ^ 63-1) / 8:=by
  have:(sizeLine:Nat)<=(2 ^ 63-1) / 8:=by decide
  omega
 have hfit : ¬ (!Builtin.List.listFitsIndex k)=true:=by
  rw [fitsIndex_both h1 h2]
  exact Bool.false_ne_true
 have hlong : ¬ Builtin.List.listTooLong (its.toArray.size*k.toNat)=true:=by
  rw [zic hlen]
  exact Bool.false_ne_true
 have hnew:foldl (λx1 x2=>x1++x2) #[] (replicate (if its.toArray.isEmpty=true then 0 else k.toNat) its.toArray)=(replicate k.toNat its).flatten.toArray:=by
  have f0:∀m:Nat,foldl (λx1 x2=>x1++x2) #[] (replicate m its.toArray)=(replicate m its).flatten.toArray:=λm=>by
   have:=zib its m []
   rw [List.nil_append] at this
   exact this
  rw [f0]
  cases its with
  | nil=>simp
  | cons a r'=>rw [if_neg (by simp)]
 refine wpAny_binaryOp_repeat_ref (T:="list") (U:="int") (by decide) ⟨_,e,rfl⟩ (λs'=>typeIs_int s' k t) noFill_list_mul F.fills_int_mul F.slot_int_rmul repeat_list F.slot_int_index.lookup
  (call_meets F.slot_int_rmul (typeIs_int s k t) F.entry_int_rmul (F.args_int_rmul_2 _ _) (int___rmul___int_list k t l its.toArray n)
   ⟨e,rfl,⟨_,e,rfl⟩,call_meets F.slot_list_mul ⟨_,e,rfl⟩ F.entry_list_mul (F.args_list_mul_2 _ _) (AutoListH.list___mul___list_int_3 l its.toArray n k t hfit hcap hlong) ⟨e,?_⟩⟩)
 rw [hnew]
 exact ⟨.ref _,_,I.lnew (t':=s.toks) (r.rep k.toNat) (by rw [zkI,Nat.mul_comm];exact hz),rfl,q _ I.fresh⟩
end
section
variable {prog:Program}{w:World}{A:Around}{E:Value->Shared->Prop}{s:Shared}
end
section
variable {X:Cx}
end
end L2
namespace Att
open PySem PySem.W PySem.Calls PyProof.Rows
theorem zr1{P:Params}{h:Heap}:∀(ns:List Int)(vs:List Value),WellAll P h vs (ns.map WData.int)->IntsAre vs ns:=by
 intro ns
 induction ns with
 | nil =>
  intro vs w
  rw [map_nil] at w
  cases w
  exact .nil
 | cons n ns ih =>
  intro vs w
  rw [map_cons] at w
  cases w with
  | cons a b =>
   cases a
   exact .cons _ _ (ih _ b)
theorem zm5{l:OpenLaw}{n:Nat}(hn:l.most=some n){P:Params}{h:Heap}{args:List WData}{vals:List Value}
  (hpre:l.row.toRowW.claim.pre args=true) (hwl:WellAll P h vals args) :
  ∃a vs ns,vals=[Value.ref a]/\args=[WData.list (ns.map WData.int)]/\h.get? a=some { cls:=.type "list",data:=.seq vs.toArray }/\IntsAre vs ns/\ns.length<=n:=by
 have hsh:WShape.hasAll [] args [.list .int]=true:=(pre_splitW hpre).1
 have hc:l.pre.holds [] { args:=args }=true:=(pre_splitW hpre).2
 obtain ⟨d,r,rfl,h1,h2⟩:=hasAllW_cons hsh
 obtain rfl:=hasAllW_nil h2
 obtain ⟨xs,rfl,h3⟩:=hasW_list h1
 obtain ⟨ns,rfl⟩:=items_int h3
 have hlen:ns.length<=n:=by
  unfold OpenLaw.pre at hc
  have h4:(WTm.not (.lt (.lit (.int (n:Int))) (.len (.arg 0)))).holds [] { args:=[.list (ns.map .int)] }=true:=by
   have h4:=(holds_andW hc).1
   rw [hn] at h4
   exact h4
  have h5:=condW_of h4 (w_not (w_lt w_lit (w_len_list (w_arg rfl))))
  rw [length_map] at h5
  refine Nat.le_of_not_lt λq=>?_
  have q':(n:Int)<((ns.length:Nat):Int):=by omega
  first
   | (rw [decide_eq_true q'] at h5;exact absurd h5 (by decide))
   | (simp at h5;omega)
 cases hwl with
 | cons w1 w2 =>
  cases w2
  cases w1 with
  | list ho hall=>exact ⟨_,_,ns,rfl,rfl,ho,zr1 ns _ hall,hlen⟩
theorem znI(l:OpenLaw)(args:List WData):l.row.toRowW.claim.post args (.bool true) args=true :=
 postW_of (r:=l.row.toRowW) (X:=(true==true))
  (show WShape.has [] (.bool true) .bool=true by first|rfl|decide|simp [WShape.has,WShape.arms,WShape.armsAll])
  (show (WTm.eq .res (.lit (.bool true))).value [] { args:=args,res:=some (.bool true),after:=args }=some (.bool (true==true)) from w_eq_bool (w_res rfl) w_lit) rfl
theorem attach_call{l:OpenLaw}{n:Nat}{q:Program}{loose:List Str}{XP:(Str->Option Value)->Heap->Prop}{YP:World->Heap->Prop}{d:DefRec}
  (hn:l.most=some n) (hdf:d.params.defaults=[])
  (call:∀(w:World)(s₀ s₁:Shared)(mg mb:Str->Option Value)(fa:Addr)(o:Obj)(pm cd doc:Value)(a:Addr)(vs:List Value)(ns:List Int),
   Ground q loose [] XP w s₀ mg mb s₁.heap->YP w s₁.heap ->
   s₁.heap.get? fa=some o->o.data = .func (docDef d.name d.params d.body d.scope pm cd doc)->s₁.heap.CodeRec cd d.name->mg d.name=some (.ref fa) ->
   s₁.heap.get? a=some { cls:=.type "list",data:=.seq vs.toArray }->IntsAre vs ns->ns.length<=n->s₁.gens = #[] ->
   codeAny (model l.prog w) callerA (.call (.ref fa) ⟨[.ref a],[]⟩) (λr s'=>r = .ok (.ret (.bool true))/\OldK s₁.heap s'.heap/\s'.os=s₁.os/\AllBare s'.gens) s₁) :
  WalkO q loose XP YP l.row.toRowW d [] (λf vs=>PySem.call f vs):=by
 intro w s₀ s₁ mg mb G Y fa o pm cd doc dV kV ho hd hcd hD hmg hg args vals as hpre hlay hrd hwl hlo
 obtain rfl:dV = .none:=Dflts.none hD hdf
 obtain rfl:kV = .none:=Dflts.noKw hD
 obtain ⟨a,vs,ns,rfl,rfl,hobj,hints,hlen⟩:=zm5 hn hpre hwl
 refine enter_call (codeAny_mono (call w s₀ s₁ mg mb fa o pm cd doc a vs ns G Y ho (fd_plain hd) hcd hmg hobj hints hlen hg) λr s' hq=>?_)
 obtain ⟨rfl,h2,h3,h4⟩:=hq
 exact ⟨.inl ⟨.bool true,.bool true,[],rfl,λ_=>rfl,.bool true,znI l _,λ_=>⟨List.Pairwise.nil,λ_ hm=>(nomatch hm)⟩⟩,h2,h3,h4⟩
section
variable {prog:Program}{w:World}{A:Around}{E:Value->Shared->Prop}{s:Shared}{K:Frag}
end
end Att
namespace L2
open PySem PySem.Spec PyProof.Rows
theorem ze9:∀{vs:List Value}{ns:List Int},IntsAre vs ns->zi (ns.map V.int) vs
 | _,_,.nil=>.nil
 | _,_,.cons n t h=>.cons ⟨t,rfl⟩ (ze9 h)
def zgU(H:Hp):Prop:=∀b,H b=none\/∃o xs,H b=some (.frz o (.lst xs))
theorem zsT{P:Program}{w:World}{K:PySem.W.Frag}{mg mb:Str->Option Value}{CX:CXT}{k:Nat}{fa a:Addr}{fd:FuncData}{x:Str}{sp:Sp}{s₁:Shared}{vs:List Value}{ns:List Int}
  (KX:K.In s₁.heap) (hns:s₁.heap.Ns mainGlobals mg) (hb:s₁.heap.Ns builtinsNs mb) (hbb:∀x:Str,x≠"__name__"->mb x=bootBuiltins x) (hlim:s₁.heap.NoLimit) (hg:s₁.gens = #[])
  (ha:s₁.heap.get? a=some { cls:=.type "list",data:=.seq vs.toArray }) (hi:IntsAre vs ns) (hl:ns.length<=sizeLine) (hr:zJ true k callerA)
  (F:∀base:Heap,K.In base->base.Ns mainGlobals mg->zr P w K mg base CX true k fa fd [x] sp) (hbind:∀(s:Shared)(u:Value),BindsTo s fd ⟨[u],[]⟩ [(x,u)])
  (hsp:∀H:Hp,zgU H->SqL K H a (ns.map V.int)->sp [.ref a] H (λv _=>v = .bl true) λ_ _ _=>False)
  (hCX:∀H e s',CX [] H s₁ (λ_ _ _=>False) e s'->False) :
  codeAny (model P w) callerA (.call (.ref fa) ⟨[.ref a],[]⟩) (λr s'=>r = .ok (.ret (.bool true))/\OldK s₁.heap s'.heap/\s'.os=s₁.os/\AllBare s'.gens) s₁:=by
 have rv:=ze9 hi
 have lenV:=hi.length
 have core:∀H:Hp,zgU H->SqL K H a (ns.map V.int)->HOk P w H s₁.heap->(∀b,H b≠none->b=a)->(H a≠none->K.lookup a=none) ->
   codeAny (model P w) callerA (.call (.ref fa) ⟨[.ref a],[]⟩) (λr s'=>r = .ok (.ret (.bool true))/\OldK s₁.heap s'.heap/\s'.os=s₁.os/\AllBare s'.gens) s₁:=by
  intro H hO hS hok hA hK
  have base_of:∀{b:Addr}{o:Obj},s₁.heap.get? b=some o->H b=none->(zbC s₁.heap H).get? b=some o:=λe n=>zlc e n
  have noA:∀{b:Addr}{o:Obj}{es:Array DictEntry}{ep:Nat},s₁.heap.get? b=some o->o.data = .dict es ep->H b=none:=λ{b o es ep} e d=>by
   cases q:H b with
   | none=>rfl
   | some u =>
    have e':b=a:=hA b (by rw [q];simp)
    subst e'
    rw [ha] at e;cases e
    have d':Data.seq vs.toArray _=Data.dict es ep:=d
    cases d'
  have nsK:∀{b:Addr}{m:Str->Option Value},s₁.heap.Ns b m->(zbC s₁.heap H).Ns b m:=λ{b m} ⟨o,es,ep,e,d,r⟩=>⟨o,es,ep,base_of e (noA e d),d,r⟩
  have hKb:K.In (zbC s₁.heap H):=λb o e=>base_of (KX b o e) (by
   cases q:H b with
   | none=>rfl
   | some u =>
    have e':b=a:=hA b (by rw [q];simp)
    subst e'
    rw [hK (by rw [q];simp)] at e;cases e)
  have hM:Mod K mg (zbC s₁.heap H):=⟨hKb,nsK hns,⟨mb,nsK hb,hbb⟩,let ⟨mc,h1,h2⟩:=hlim;⟨mc,nsK h1,h2⟩⟩
  have e0:zb0 P w K mg (zbC s₁.heap H) callerA [] s₁ H:=⟨rfl,.inl rfl,hM,λb o e=>zst e,le_of_eq (znC _ _),trivial,λb hb=>absurd (show b∈([]:List Addr) from hb) (by simp),hok,.of_eq hg⟩
  refine codeAny_mono ((F _ hKb (nsK hns)).run callerA [] s₁ H ⟨[.ref a],[]⟩ [.ref a] [.ref a] _ _ hr e0 (hbind s₁ (.ref a)) (.cons rfl .nil) (hsp H hO hS)) λr s' h=>?_
  cases r with
  | error e=>exact (hCX H e s' h).elim
  | ok fl =>
   cases fl with
   | next=>exact False.elim h
   | brk=>exact False.elim h
   | cont=>exact False.elim h
   | ret u =>
    obtain ⟨v,H',os,bare,un,hok',r',q⟩:=h
    have q':v = .bl true:=q
    subst q'
    obtain rfl:u=Value.bool true:=r'
    refine ⟨rfl,OldK.of_keep λb o e=>?_,os,bare⟩
    cases q:H b with
    | none=>exact un.keep b o e q (by intro z;exact absurd (show b∈([]:List Addr) from z) (by simp)) (by simp)
    | some u =>
     rcases hO b with z|⟨ob,xs,z⟩
     ·rw [q] at z;cases z
     ·have z2:=un.frzs b ob _ z
      obtain ⟨e1,_⟩:=hok b _ z
      obtain ⟨e2,_⟩:=hok' b _ z2
      rw [e] at e1;cases e1
      exact e2
 cases hk:K.lookup a with
 | some o =>
  have e:=KX a o hk
  rw [ha] at e
  cases e
  refine core (λ_=>none) (λ_=>.inl rfl) (.inr ⟨_,vs.toArray,_,hk,rfl,rfl,rfl,by rw [size_toArray,lenV];exact hl,by simpa using rv⟩) (λb u z=>by have z':(none:Option HO)=some u:=z;cases z') (λb z=>absurd rfl z) λz=>absurd rfl z
 | none =>
  refine core (λb=>if b=a then some (.frz { cls:=.type "list",data:=.seq vs.toArray } (.lst (ns.map V.int))) else none) (λb=>?_) (.inl (.inr ⟨{ cls:=.type "list",data:=.seq vs.toArray },if_pos rfl⟩)) (λb u z=>?_) (λb z=>?_) λ_=>hk
  ·by_cases hb:b=a
   ·exact .inr ⟨_,_,if_pos hb⟩
   ·exact .inl (if_neg hb)
  ·by_cases hb:b=a
   ·have z':=(if_pos hb).symm.trans z
    cases z'
    subst hb
    exact ⟨ha,by rw [length_map];exact hl,vs,_,rv,ha⟩
   ·have z':=(if_neg hb).symm.trans z
    cases z'
  ·by_cases hb:b=a
   ·exact hb
   ·exact absurd (if_neg hb) z
theorem walk_of{l:PySem.W.OpenLaw}{n k:Nat}{q:Program}{loose:List Str}{XP:(Str->Option Value)->Heap->Prop}{YP:World->Heap->Prop}{d:DefRec}{K:Params->PySem.W.Frag}{CX:World->CXT}{sp:World->Sp}{x:Str}
  (hn:l.most=some n) (hn2:n<=sizeLine) (hdf:d.params.defaults=[]) (hr:zJ true k callerA)
  (hY:∀(w:World)(h:Heap),YP w h->(K w.params).In h)
  (F:∀(w:World)(mg:Str->Option Value)(fa:Addr)(h:Heap),(K w.params).In h->h.Ns mainGlobals mg->mg d.name=some (.ref fa) ->
   ∃fd:FuncData,(∀(s:Shared)(u:Value),BindsTo s fd ⟨[u],[]⟩ [(x,u)]) /\
    ∀base:Heap,(K w.params).In base->base.Ns mainGlobals mg->zr l.prog w (K w.params) mg base (CX w) true k fa fd [x] (sp w))
  (hsp:∀(w:World)(H:Hp)(a:Addr)(ns:List Int),ns.length<=n->zgU H->SqL (K w.params) H a (ns.map V.int)->sp w [.ref a] H (λv _=>v = .bl true) λ_ _ _=>False)
  (hCX:∀(w:World)(H:Hp)(s:Shared)(e:Value)(s':Shared),CX w [] H s (λ_ _ _=>False) e s'->False) :
  PySem.W.WalkO q loose XP YP l.row.toRowW d [] (λf vs=>PySem.call f vs):=by
 refine Att.attach_call hn hdf λw s₀ s₁ mg mb fa o pm cd doc a vs ns G Y ho hd hcd hmg hobj hints hlen hg=>?_
 have KX:=hY w _ Y
 obtain ⟨fd,hb,hF⟩:=F w mg fa _ KX G.T.g hmg
 exact zsT KX G.T.g G.T.b G.T.builtins G.T.nolimit hg hobj hints (le_trans hlen hn2) hr hF hb (λH hO hS=>hsp w H a ns hlen hO hS) λH e s'=>hCX w H s₁ e s'
def zam(s:Stmt)(j:Nat):Stmt:=match s with
 | .ClassDef _ _ _ body _ _ _ _ _ _ _=>body.getD j (.Pass ⟨0,0,0,0⟩)
 | _=>.Pass ⟨0,0,0,0⟩
def zw(s:Stmt):Arguments:=match s with
 | .FunctionDef _ a _ _ _ _ _ _ _ _=>a
 | _=>{ posonlyargs:=[],args:=[],vararg:=none,kwonlyargs:=[],kw_defaults:=[],kwarg:=none,defaults:=[] }
def zu(s:Stmt):List Stmt:=match s with
 | .FunctionDef _ _ b _ _ _ _ _ _ _=>b
 | _=>[]
def zg(s:Stmt):Scope:=match s with
 | .FunctionDef _ _ _ _ _ _ sc _ _ _=>sc
 | _=>{ kind:=.function,names:=[],isGenerator:=false,isCoroutine:=false }
abbrev CX0:CXT:=λ_ _ _ _ _ _=>False
abbrev E0:XK:=λ_ _ _=>False
theorem zcF{X:Cx}:zbB CX0 X E0:=λ_ _ _ _ _ _ _ h=>h.elim
structure Fun(K:PySem.W.Frag)(x qual:Str)(st:Stmt)(f:Addr)(fd:FuncData):Prop where
 ex:∃(oc:Value)(od:Option Addr)(kV doc pm:Value)(an:Option Addr)(cdv ct:Value)(osl:Array (Option Value)),
  fd=fnOf x qual (zw st) (zu st) (zg st) .none kV doc pm an cdv ct/\K.lookup f=some ⟨oc,od,.func fd,osl⟩/\codeIn K cdv qual=true
 kp:keepIn K (.ref f)=true
section
variable {P:Program}{w:World}{K:PySem.W.Frag}{mg:Str->Option Value}{base:Heap}
theorem Fun.ok{x qual:Str}{st:Stmt}{f:Addr}{fd:FuncData}{N ps:List Str}{cm:Bool}{k:Nat}{sp:Sp}(F:Fun K x qual st f fd)(S:zB N ps (zg st))(len:∀vs H Q E,sp vs H Q E->vs.length=ps.length)
  (hbody:∀(cdv:Value)(A:Around)(outer:List Env)(s:Shared)(H:Hp)(vs:List V)(Q:VK)(E:XK),zJ cm k (A.deeper (envOfC qual (zg st) s.heap.objs.size f cdv))->sp vs H Q E ->
   ∃t,PSs (zcL CX0 cm P w K mg base N qual (zg st) f cdv A outer s H E).nox (zu st) t/\t { nx:=λ_ H'=>Q .non H',rt:=Q } (start N vs) H):zr P w K mg base CX0 cm (k+1) f fd ps sp:=by
 obtain ⟨oc,od,kV,doc,pm,an,cdv,ct,osl,rfl,lk,hcd⟩:=F.ex
 refine zn2 lk hcd S len λA outer s H vs Q E hr hsp=>?_
 obtain ⟨t,h,q⟩:=hbody cdv A outer s H vs Q E hr hsp
 exact ⟨t,h.nox,q⟩
theorem Fun.binds{x qual:Str}{st:Stmt}{f:Addr}{fd:FuncData}{ps:List Str}(F:Fun K x qual st f fd)
  (h:∀(kV doc pm:Value)(an:Option Addr)(cdv ct:Value)(us:List Value),us.length=ps.length->bindArgs (fnOf x qual (zw st) (zu st) (zg st) .none kV doc pm an cdv ct) ⟨us,[]⟩=pure (ps.zip us)):zaS K fd ps []:=by
 obtain ⟨oc,od,kV,doc,pm,an,cdv,ct,osl,rfl,lk,hcd⟩:=F.ex
 exact .all (h kV doc pm an cdv ct)
theorem zE{x qual:Str}{st:Stmt}{f:Addr}{oc:Value}{od an:Option Addr}{osl:Array (Option Value)}{kV doc pm cdv ct:Value}(l:K.lookup f=some ⟨oc,od,.func (fnOf x qual (zw st) (zu st) (zg st) .none kV doc pm an cdv ct),osl⟩)
  (c:codeIn K cdv qual=true) (k:keepIn K (.ref f)=true):Fun K x qual st f (fnOf x qual (zw st) (zu st) (zg st) .none kV doc pm an cdv ct):=⟨⟨oc,od,kV,doc,pm,an,cdv,ct,osl,rfl,l,c⟩,k⟩
end
theorem zR{A:Around}{c:Bool}{k:Nat}(hr:zJ c k A):A.units+1<cLine:=Nat.lt_of_le_of_lt (Nat.add_le_add_left (by decide:1<=64) _) hr.units
section
variable {X:Cx}
theorem pv(i:Nat){x:Str}{pos:Pos}(hN:X.N[i]?=some x:=by rfl)(hv:Vis X.env.scope x:=by first|exact Or.inl rfl|exact Or.inr (Or.inl rfl)|exact Or.inr (Or.inr rfl))(hd:(x==("__debug__":Str))=false:=by decide)
  (hcd:(x==("__classdict__":Str))=false:=by decide):PE X (.Name x pos) (zbp i):=ztF hN hv hd hcd
end
theorem zdJ{A B:Prop}(h:B):if false=true then A else B:=by
 rw [if_neg Bool.false_ne_true]
 exact h
theorem ze2{A B:Prop}(h:A):if true=true then A else B:=by
 rw [if_pos rfl]
 exact h
theorem zdx{c A B:Prop} [Decidable c] (h1:c->A) (h2 : ¬ c->B):if c then A else B:=by
 by_cases h:c
 ·rw [if_pos h]
  exact h1 h
 ·rw [if_neg h]
  exact h2 h
def zf(H H':Hp):Prop:=∀b o,H b=some o->H' b=some o
theorem zf.refl(H:Hp):zf H H:=λ_ _ h=>h
theorem zf.trans{H H1 H2:Hp}(a:zf H H1)(b:zf H1 H2):zf H H2:=λc o h=>b c o (a c o h)
theorem zf.free{H H':Hp}(e:zf H H'){l:Addr}(h:H' l=Option.none):H l=Option.none:=by
 cases q:H l with
 | none=>rfl
 | some o =>
  rw [e l o q] at h
  cases h
end L2
set_option maxHeartbeats 4000000
namespace L2
open PySem PySem.Spec PyProof.Rows
def zaa(cells:List (Str×Addr)):List (Str×NameKind)->List (Str×Addr)->List (Str×Addr)
 | [],cs=>cs
 | (n,k)::r,cs=>zaa cells r (if k == .free then (match cells.lookup n with|some c=>(n,c)::cs|none=>cs) else cs)
theorem zfd{scope:Scope}{env:Env}(h:∀y∈scope.names,y.2 = .free->∃c,env.cells.lookup y.1=some c):closureFor scope env=pure (zaa env.cells scope.names []):=by
 simp only [closureFor]
 have all:∀(l:List (Str×NameKind))(cs:List (Str×Addr)),(∀y∈l,y.2 = .free->∃c,env.cells.lookup y.1=some c) ->
   (forIn l cs λ(x:Str×NameKind)(r:List (Str×Addr))=>match x with|(name,kind)=>if (kind==NameKind.free)=true then do let a<-cellOf env name;pure (ForInStep.yield ((name,a)::r)) else pure (ForInStep.yield r):Sem (List (Str×Addr)))=pure (zaa env.cells l cs):=by
  intro l
  induction l with
  | nil=>intro cs _;rfl
  | cons y r ih =>
   intro cs hy
   obtain ⟨n,k⟩:=y
   rw [List.forIn_cons]
   by_cases hk:k = .free
   ·subst hk
    obtain ⟨c,hc⟩:=hy (n,.free) mem_cons_self rfl
    have hc':env.cells.lookup n=some c:=hc
    simp only [cellOf,hc',zaa,beq_self_eq_true,if_true]
    exact ih _ λz hz=>hy z (mem_cons_of_mem _ hz)
   ·have hb:(k==NameKind.free)=false:=by simpa using hk
    simp only [zaa,hb,false_eq_true,if_false]
    exact ih _ λz hz=>hy z (mem_cons_of_mem _ hz)
 have e:=all scope.names [] h
 show (do let cs<-forIn scope.names [] _;pure cs)=_
 first
  | (rw [bind_pure];exact e)
  | exact e
  | (simpa using e)
theorem zdv{cells:List (Str×Addr)}:∀{l:List (Str×NameKind)}{cs:List (Str×Addr)}{x:Str}{c:Addr},(zaa cells l cs).lookup x=some c->cs.lookup x=some c\/(cells.lookup x=some c/\(x,NameKind.free)∈l)
 | [],_,_,_,h=>.inl h
 | (n,k)::r,cs,x,c,h=>by
  unfold zaa at h
  rcases zdv h with h|⟨h1,h2⟩
  ·by_cases hk:k = .free
   ·subst hk
    simp only [beq_self_eq_true,if_true] at h
    cases e:cells.lookup n with
    | none=>rw [e] at h;exact .inl h
    | some c' =>
     rw [e] at h
     simp only [lookup_cons] at h
     by_cases hx:x=n
     ·subst hx
      simp only [beq_self_eq_true] at h
      cases h
      exact .inr ⟨e,mem_cons_self⟩
     ·have hb:(x==n)=false:=by simpa using hx
      rw [hb] at h
      exact .inl h
   ·have hb:(k==NameKind.free)=false:=by simpa using hk
    rw [hb] at h
    exact .inl h
  ·exact .inr ⟨h1,mem_cons_of_mem _ h2⟩
theorem zjE{cells:List (Str×Addr)}:∀{l:List (Str×NameKind)}{cs:List (Str×Addr)}{x:Str},(cs.lookup x).isSome=true->((zaa cells l cs).lookup x).isSome=true
 | [],_,_,h=>h
 | (n,k)::r,cs,x,h=>by
  unfold zaa
  refine zjE ?_
  split
  ·split
   ·simp only [lookup_cons]
    split
    ·rfl
    ·exact h
   ·exact h
  ·exact h
theorem zhS{cells:List (Str×Addr)}:∀{l:List (Str×NameKind)}{cs:List (Str×Addr)}{x:Str}{c:Addr},(x,NameKind.free)∈l->cells.lookup x=some c->((zaa cells l cs).lookup x).isSome=true
 | (n,k)::r,cs,x,c,hm,hc=>by
  unfold zaa
  rcases mem_cons.mp hm with e|hm
  ·cases e
   refine zjE ?_
   simp only [beq_self_eq_true,if_true,hc,lookup_cons]
   rfl
  ·exact zhS hm hc
def zaW(sc:Scope)(names:List (Str×NameKind))(N N':List Str)(ix:List (Option Nat)):Bool :=
 sc.kind == .function&&sc.names.all (λy=>y.2 != .cell&&(y.2 != .local||sc.names.lookup y.1==some .local)&&(y.2 != .free||(names.lookup y.1==some .cell&&sc.names.lookup y.1==some .free)) ) &&
 ix.length==N'.length&&(List.range ix.length).all (λi=>match ix.getD i none with
  | none=>true
  | some j=>(match N'[i]?,N[j]? with|some x,some y=>x==y&&sc.names.lookup x==some .free|_,_=>false))
def zaG(ix:List (Option Nat))(σ:St):St:=ix.map λo=>o.bind λj=>(σ[j]?).join
structure zaj(X:Cx)(sc:Scope)(N':List Str)(ix:List (Option Nat)):Prop where
 kind:sc.kind = .function
 cell:∀y∈sc.names,y.2≠.cell
 names:∀y∈sc.names,y.2 = .local->sc.names.lookup y.1=some .local
 free:∀y∈sc.names,y.2 = .free->X.env.kindOf y.1=some .cell/\sc.names.lookup y.1=some .free
 len:ix.length=N'.length
 at_:∀(i j:Nat),ix[i]?=some (some j)->∃x,N'[i]?=some x/\X.N[j]?=some x/\sc.names.lookup x=some .free
theorem zaj.of{X:Cx}{sc:Scope}{N':List Str}{ix:List (Option Nat)}(h:zaW sc X.env.scope.names X.N N' ix=true):zaj X sc N' ix:=by
 unfold zaW at h
 simp only [and_eq_true,all_eq_true] at h
 obtain ⟨⟨⟨h1,h2⟩,h3⟩,h4⟩:=h
 refine ⟨by simpa using h1,λy hy=>?_,λy hy hk=>?_,λy hy hk=>?_,by simpa using h3,λi j e=>?_⟩
 ·simpa using (h2 y hy).1.1
 ·have q:=(h2 y hy).1.2
  rw [hk] at q
  simpa using q
 ·have q:=(h2 y hy).2
  rw [hk] at q
  simp only [bne_self_eq_false,Bool.false_or,and_eq_true,beq_iff_eq] at q
  exact q
 ·have hi:i<ix.length:=(List.getElem?_eq_some_iff.mp e).1
  have:=h4 i (mem_range.mpr hi)
  have eg:ix.getD i none=some j:=by rw [getD_eq_getElem?_getD,e];rfl
  rw [eg] at this
  dsimp only at this
  cases e1:N'[i]? with
  | none=>rw [e1] at this;simp at this
  | some x =>
   cases e2:X.N[j]? with
   | none=>rw [e1,e2] at this;simp at this
   | some y =>
    rw [e1,e2] at this
    simp only [and_eq_true,beq_iff_eq] at this
    exact ⟨x,rfl,by rw [this.1],this.2⟩
def zo(X:Cx)(sc:Scope)(N':List Str)(Ga:List (Addr×Obj))(C:Addr)(fp:List Addr)(s:Shared)(H:Hp):Cx :=
 { X with N:=N',s₀:=s,H₀:=H,env:=compEnvC sc (zaa X.env.cells sc.names []) C X.env,outer:=X.stack,stack:=X.stack,ex:=fp,fn:=λ_=>false,pn:=X.pn++Ga,xe:=λ_ _=>False }
theorem HOk.add{P:Program}{w:World}{H:Hp}{h:Heap}{D:Addr}{o:HO}(x:HOk P w H h)(hn:H D=none)(new:zV P w (upd H D o) h D o):HOk P w (upd H D o) h:=λb u e=>by
 by_cases hb:b=D
 ·subst hb;rw [zp] at e;cases e;exact new
 ·rw [ze hb] at e
  exact (x b u e).stay (λ_ _ _ q=>q) (λc q=>by rw [ze (zD q hn)];exact q) λc xs q=>by rw [ze (zD q hn)];exact q
theorem HOk.but{P:Program}{w:World}{H:Hp}{h h':Heap}{C:Addr}(x:HOk P w H h)(hn:H C=none)(k:∀b u,b≠C->h.get? b=some u->h'.get? b=some u):HOk P w H h':=λb u e =>
 (x b u e).stay (λc v hc q=>k c v (by
  rcases hc with z|z
  ·rw [z];exact zD e hn
  ·exact zD z hn) q) (λ_ q=>q) λ_ _ q=>q
theorem zlK{sc:Scope}{env:Env}(hk:env.scope.kind = .function)(hf:∀y∈sc.names,y.2 = .free->env.kindOf y.1=some .cell) :
  ∀x,(relabel sc env).names.lookup x=(sc.names.lookup x).map λk=>if k == .free then .cell else k:=by
 intro x
 have em:(relabel sc env).names=sc.names.map λy=>(y.1,if y.2 == .free then NameKind.cell else y.2):=by
  show sc.names.map _=_
  refine map_congr_left λy hy=>?_
  obtain ⟨n,k⟩:=y
  by_cases hk':k = .free
  ·subst hk'
   have e:env.kindOf n=some .cell:=hf (n,.free) hy rfl
   simp [hk,e]
  ·have hb:(k==NameKind.free)=false:=by simpa using hk'
   simp [hb]
 rw [em]
 generalize sc.names=l
 induction l with
 | nil=>rfl
 | cons y r ih =>
  obtain ⟨n,k⟩:=y
  simp only [map_cons,lookup_cons]
  cases x==n with
  | true=>rfl
  | false=>exact ih
section
variable {X:Cx}{sc:Scope}{N':List Str}{ix:List (Option Nat)}
theorem zkZ{σ:St}{i:Nat}{v:V}(h:(zaG ix σ)[i]?=some (some v)):∃j,ix[i]?=some (some j)/\σ[j]?=some (some v):=by
 unfold zaG at h
 rw [getElem?_map] at h
 cases e:ix[i]? with
 | none=>rw [e] at h;cases h
 | some o =>
  rw [e] at h
  have h':(o.bind λj=>(σ[j]?).join)=some v:=Option.some.inj h
  cases o with
  | none=>cases h'
  | some j =>
   have h'':(σ[j]?).join=some v:=h'
   cases e2:σ[j]? with
   | none=>rw [e2] at h'';cases h''
   | some z =>
    rw [e2] at h''
    have:z=some v:=h''
    exact ⟨j,rfl,by rw [e2,this]⟩
theorem zff{Ga:List (Addr×Obj)}{σ:St}{H:Hp}{s:Shared}{fp:List Addr}{h₁:Heap}{C:Addr}{tk:Nat}{m:Str->Option Value}(I:Inv X Ga σ H s)(L:zaj X sc N' ix)(f:∀b∈fp,zS X Ga H b)(fl:∀b∈fp,b<s.heap.objs.size)
  (hC:s.heap.objs.size<=C) (hns:h₁.Ns C m) (old:∀b o,s.heap.get? b=some o->h₁.get? b=some o) :
  Inv (zo X sc N' Ga C fp s H) [] (zaG ix σ) H { s with heap:=h₁,toks:=tk }:=by
 have cof:∀x c,(zaa X.env.cells sc.names []).lookup x=some c->X.env.cells.lookup x=some c/\(x,NameKind.free)∈sc.names:=λx c h=>by
  rcases zdv h with h|h
  ·cases h
  ·exact h
 have rl:=zlK (sc:=sc) (env:=X.env) I.ok.kind λy hy hk=>(L.free y hy hk).1
 have chas:∀x,sc.names.lookup x=some .free->∃c,(zaa X.env.cells sc.names []).lookup x=some c/\X.env.cells.lookup x=some c:=λx hx=>by
  have hm:(x,NameKind.free)∈sc.names:=PySem.mem_of_lookup hx
  obtain ⟨c,hc⟩:=I.ok.has x (.inl (L.free _ hm rfl).1)
  obtain ⟨c',hc'⟩:=isSome_iff_exists.mp (zhS (cs:=[]) hm hc)
  exact ⟨c',hc',(cof x c' hc').1⟩
 refine ⟨⟨I.ok.mod,L.kind,I.ok.glob,I.ok.blt,hC,λx y c h1 h2=>I.ok.inj x y c (cof x c h1).1 (cof y c h2).1,λx hx=>?_,λx c h=>(nomatch h),I.ok.hd,I.ok.frames,.inl rfl,λb hb=>⟨ne_of_lt (lt_of_lt_of_le (fl b hb) hC),λx c h=>(f b hb).2.2.2.2.1 x c (cof x c h).1⟩,
   I.bs,le_trans I.ok.bsz I.sz,λb o e hb=>?_,λb hb z=>?_,I.stack,I.stkFree⟩,rfl,I.bare,Un.kept old,⟨m,hns,λi x v e1 e2 e3=>?_⟩,λx c h=>?_,I.hok.fresh hC,λx c h=>I.freeC x c (cof x c h).1,λp hp=>?_,I.hok.kept old,?_,I.hdk⟩
 ·have hx':(relabel sc X.env).names.lookup x=some .cell\/(relabel sc X.env).names.lookup x=some .free:=hx
  rw [rl x] at hx'
  cases e:sc.names.lookup x with
  | none=>rw [e] at hx';simp at hx'
  | some k =>
   have hk:k = .free:=by
    cases k with
    | free=>rfl
    | cell=>exact absurd rfl (L.cell _ (PySem.mem_of_lookup e))
    | _=>rw [e] at hx';revert hx';decide
   subst hk
   obtain ⟨c,h1,_⟩:=chas x e
   exact ⟨c,h1⟩
 ·rcases (f b hb).2.2.2.1 with z|z
  ·exact I.ok.noex b o e z
  ·exact absurd (lt_of_lt_of_le (lt_size (I.ok.bs b o e).1) z) (lt_irrefl _)
 ·rcases mem_cons.mp (I.stkSub b z) with e|e
  ·exact (f b hb).2.1 e
  ·exact (f b hb).2.2.1 e
 ·obtain ⟨j,hj,hv⟩:=zkZ e2
  obtain ⟨y,n1,n2,n3⟩:=L.at_ i j hj
  have exy:x=y:=Option.some.inj ((show N'[i]?=some x from e1).symm.trans n1)
  subst exy
  obtain ⟨c,c1,c2⟩:=chas x n3
  have kf:=(L.free _ (PySem.mem_of_lookup n3) rfl).1
  obtain ⟨m0,hn0,hl⟩:=I.loc
  obtain ⟨u,r,l⟩:=hl j x v n2 hv (.inr (.inl kf))
  refine ⟨u,r,.inr ⟨.inl ?_,c,c1,?_⟩⟩
  ·show (relabel sc X.env).names.lookup x=some .cell
   rw [rl x,n3];rfl
  ·rcases l with ⟨hk,_⟩|⟨_,c',hc',z⟩
   ·have kf':X.env.kindOf x=some .cell:=kf
    rw [hk] at kf';cases kf'
   ·rw [c2] at hc'
    cases hc'
    obtain ⟨oc,ho,hd⟩:=z
    exact ⟨oc,old _ _ ho,hd⟩
 ·obtain ⟨v,oc,ho,hd⟩:=I.cell x c (cof x c h).1
  exact ⟨v,oc,old _ _ ho,hd⟩
 ·have hp':p∈X.pn++Ga:=by
   have:p∈(X.pn++Ga)++[]:=hp
   simpa using this
  obtain ⟨a,b,c,d,e⟩:=I.pin p hp'
  exact ⟨old _ _ a,b,ne_of_lt (lt_of_lt_of_le (lt_size a) hC),λz=>(mem_cons.mp (I.stkSub p.1 z)).elim c d,e⟩
 ·show (zaG ix σ).length=N'.length
  unfold zaG
  rw [length_map,L.len]
end
def PTs(X:Cx)(ifs:List Expr)(t:TT):Prop :=
 ∀(Ga:List (Addr×Obj))(s:Shared)(σ:St)(H:Hp)(Q:Bool->Hp->Prop),Inv X Ga σ H s->t σ H Q ->
  wpAny (model X.prog X.w) X.A (forIn ifs true λc r=>if r=true then do let ok<-isTrue c X.env (eval c X.env);pure (ForInStep.yield ok) else pure (ForInStep.yield r)) (TP X Ga σ Q) X.xe s
def ze0:TT:=λ_ H Q=>Q true H
theorem zlw{X:Cx}:PTs X [] ze0:=λ_ _ _ H _ I h=>wpAny_tests_nil ⟨H,I,h⟩
theorem zkS{X:Cx}{c:Expr}{t:TT}(h:PT X c t):PTs X [c] t:=λGa s σ H Q I q=>wpAny_tests_one (h Ga s σ H Q I q)
theorem zhY{prog:Program}{w:World}{A:Around}{R:Result->Shared->Prop}{s:Shared}{elt target iter:Expr}{ifs:List Expr}{scope:Scope}{pos:Pos}{it acc:Value}{env:Env}(I:Nat->Shared->Prop)
  (turn:∀n s,I n s->wpAny (model prog w) A (pyNext it) (λr s₁=>match r with
   | none=>R (.ok .next) s₁
   | some v=>wpAny (model prog w) A (letOwnedTupleGo target it v) (λ_ s₁'=>wpAny (model prog w) A (assign target env v) (λ_ s₂ =>
     wpAny (model prog w) A (forIn ifs true λc r=>if r=true then do let ok<-isTrue c env (eval c env);pure (ForInStep.yield ok) else pure (ForInStep.yield r)) (λok s₃ =>
      if ok=true then wpAny (model prog w) A (eval elt env) (λx s₄ =>
       wpAny (model prog w) A (call (.builtin "list.append") [acc,x]) (λ_ s₅=>∃m,m<n/\I m s₅) (λ_ _=>False) s₄) (λ_ _=>False) s₃
      else ∃m,m<n/\I m s₃) (λ_ _=>False) s₂) (λ_ _=>False) s₁') (λ_ _=>False) s₁) (λ_ _=>False) s)
  (n:Nat) (h:I n s):codeAny (model prog w) A (.compLoop (.ListComp elt [⟨target,iter,ifs,0⟩] scope pos) 0 it acc env) R s:=by
 refine codeAny_loop rfl I (λn s hI=>?_) n h
 show wpAny _ A ((compTurn (.ListComp elt [⟨target,iter,ifs,0⟩] scope pos) 0 it acc env).onRaise (λx=>do noteFrame x env;theTreesLotGoes x)) _ _ s
 refine wpAny_noted (wpAny_mono (E:=λ_ _=>False) ?_ (λ_ _ q=>q) λ_ _ z=>z.elim)
 rw [compTurn_list]
 refine wpAny_bind (wpAny_standAt (wpAny_bind (wpAny_mono (turn n s hI) (λr s₁ h₁=>?_) λ_ _ h'=>h')))
 cases r with
 | none=>exact wpAny_pure h₁
 | some v =>
  refine wpAny_bind (wpAny_mono h₁ (λ_ s₁' h₁'=>?_) λ_ _ h'=>h')
  refine wpAny_bind (wpAny_mono h₁' (λ_ s₂ h₂=>wpAny_bind (wpAny_mono h₂ (λok s₃ h₃=>?_) λ_ _ h'=>h')) λ_ _ h'=>h')
  cases ok with
  | false=>exact wpAny_pure ⟨rfl,h₃⟩
  | true=>exact wpAny_bind (wpAny_bind (wpAny_mono h₃ (λx s₄ h₄=>wpAny_bind (wpAny_mono h₄ (λ_ s₅ h₅=>wpAny_pure (wpAny_pure ⟨rfl,h₅⟩)) λ_ _ h'=>h')) λ_ _ h'=>h'))
def tLC(ix:List (Option Nat))(wi:TI)(g:TG)(tt:TT)(te:TE):TE:=λσ H Q=>wi σ H λJ H1=>∃W:Nat->Nat->St->List V->Hp->Prop,(∃m,W 0 m (zaG ix σ) [] H1)/\∀i m τ ys H2,W i m τ ys H2->ys.length<sizeLine /\
 ((J.stop i H2 ∧ ∀ D, H2 D = none → D ≠ sysModules → Q (.ref D) (upd H2 D (.lst ys))) ∨
  (J.go i H2 ∧ ∀ x H3, J.yld i H2 x H3 → g x τ H3 fun τ1 H4 => tt τ1 H4 fun ok H5 => if ok = true then te τ1 H5 fun y H6 => ∃ m', m' < m ∧ W (i + 1) m' τ1 (ys ++ [y]) H6 else ∃ m', m' < m ∧ W (i + 1) m' τ1 ys H5))
theorem znB{c:Bool}{X:Cx}{elt tg iter:Expr}{ifs:List Expr}{sc:Scope}{pos:Pos}{N':List Str}{ix:List (Option Nat)}{wi:TI}{g:TG}{tt:TT}{te:TE}(hc:c=true->X.calm=true)(L:zaj X sc N' ix)(hi:PIc c X tg iter wi)
  (hg:∀Ga C fp s H,PG (zo X sc N' Ga C fp s H) tg g) (ht:∀Ga C fp s H,PTs (zo X sc N' Ga C fp s H) ifs tt) (he:∀Ga C fp s H,PE (zo X sc N' Ga C fp s H) elt te)
  (hs:∀x,foldedSetIterable iter X.env x=pure x:=by intro _;rfl):PE X (.ListComp elt [⟨tg,iter,ifs,0⟩] sc pos) (tLC ix wi g tt te):=by
 intro Ga s σ H Q I h
 rw [eval_ListComp]
 have hclos:closureFor sc X.env=pure (zaa X.env.cells sc.names []):=zfd λy hy hk=>I.ok.has y.1 (.inl (L.free y hy hk).1)
 refine wpAny_comprehension_free (use:=none) rfl hs hclos L.kind L.names (thn (hi Ga s σ H _ I h) λv s1 h1=>thn h1 λitv s2 h2=>?_)
 obtain ⟨it,fp,tn,J,H2,e,I2,T,st2,f2,W,⟨m0,w0⟩,turn⟩:=h2
 subst e
 refine wpAny_newObj_type (wpAny_newFunctionEnv L.cell (by intro y hy;simp at hy) (λh₁ hns₁ hsb₁=>?_) L.kind)
 dsimp only at hns₁ hsb₁ ⊢
 generalize hH2:s2.heap.push { cls:=.type "list",dict:=none,data:=.seq ([]:List Value).toArray }=G2 at hns₁ hsb₁ ⊢
 have hC:G2.objs.size=s2.heap.objs.size+1:=by rw [<- hH2,size_push]
 have hDC:s2.heap.objs.size≠G2.objs.size:=by rw [hC];exact ne_of_lt (lt_succ_self _)
 have hCle:s2.heap.objs.size<=G2.objs.size:=by rw [hC];exact le_succ _
 have below:∀b,b<s2.heap.objs.size->b≠G2.objs.size/\b≠s2.heap.objs.size:=λb hb=>⟨by rw [hC];exact ne_of_lt (lt_succ_of_lt hb),ne_of_lt hb⟩
 have old:∀b o,s2.heap.get? b=some o->h₁.get? b=some o:=λb o e=>hsb₁.extBut b o (below b (lt_size e)).1 (get?_push_of_some _ (hH2 ▸ get?_push_of_some _ e))
 have hacc:h₁.get? s2.heap.objs.size=some { cls:=.type "list",data:=.seq ([]:List Value).toArray 0 }:=hsb₁.extBut _ _ hDC (get?_push_of_some _ (hH2 ▸ get?_push_size _ rfl))
 have fl:∀b∈fp,b<s2.heap.objs.size:=λb hb=>by
  obtain ⟨o,e,_⟩:=T.obj 0 _ st2 b hb
  exact lt_size e
 have hDfp:s2.heap.objs.size∉fp:=λz=>lt_irrefl _ (fl _ z)
 generalize hD:s2.heap.objs.size=D at *
 generalize hCe:G2.objs.size=C at *
 have cof:∀x c,(zaa X.env.cells sc.names []).lookup x=some c->X.env.cells.lookup x=some c:=λx c h=>by
  rcases zdv h with h|h
  ·cases h
  ·exact h.1
 have st1:tn 0 h₁:=T.keep _ _ _ st2 λb _ o e=>old b o e
 have I3:Inv (zo X sc N' Ga C fp s2 H2) [] (zaG ix σ) H2 { s2 with heap:=h₁,toks:=s2.toks+([]:List (Str×Value)).length }:=zff I2 L f2 (λb hb=>by rw [hD];exact fl b hb) (by rw [hD];exact hCle) hns₁ old
 have D0:H2 D=none:=I2.hok.fresh (le_of_eq hD)
 have fD:∀{H':Hp},H' D=none->zS (zo X sc N' Ga C fp s2 H2) [] H' D:=λ{H'} hn=>by
  refine ⟨hn,hDC,λz=>?_,.inr (le_of_eq hD),λx c hx z=>?_,λp hp z=>?_⟩
  ·obtain ⟨_,o,ho,_⟩:=I2.stack.mem (show D∈frs X.stack from z)
   exact absurd (lt_size ho) (by rw [hD];exact lt_irrefl _)
  ·obtain ⟨v,q⟩:=I2.cell x c (cof x c hx)
   have:=q.lt
   rw [z,hD] at this
   exact lt_irrefl _ this
  ·have hp':p∈X.pn++Ga:=by
    have:p∈(X.pn++Ga)++[]:=hp
    simpa using this
   have:=lt_size (I2.pin p hp').1
   rw [z,hD] at this
   exact lt_irrefl _ this
 have fF:∀{H':Hp},(∀b∈fp,H' b=none)->∀b∈fp,zS (zo X sc N' Ga C fp s2 H2) [] H' b:=λ{H'} hn b hb=>by
  obtain ⟨_,g1,g2,g3,g4,g5⟩:=f2 b hb
  refine ⟨hn b hb,(below b (fl b hb)).1,λz=>?_,.inl hb,λx c hx=>g4 x c (cof x c hx),λp hp=>g5 p ?_⟩
  ·rcases mem_cons.mp (I2.stkSub b z) with e|e
   ·exact g1 e
   ·exact g2 e
  ·have:p∈(X.pn++Ga)++[]:=hp
   simpa using this
 have loop:∀s₃:Shared,s₃={ s2 with heap:=h₁,toks:=s2.toks+([]:List (Str×Value)).length } ->
   codeAny (model X.prog X.w) X.A (.compLoop (.ListComp elt [⟨tg,iter,ifs,0⟩] sc pos) 0 (.ref it) (.ref D) (compEnvC sc (zaa X.env.cells sc.names []) C X.env))
    (compPost (model X.prog X.w) X.A X.xe none (EP X Ga σ Q) (.ref D) C) s₃:=by
  rintro s₃ rfl
  refine zhY (λn s'=>∃i τ ys H',Inv (zo X sc N' Ga C fp s2 H2) [] τ H' s'/\tn i s'.heap/\(∀b∈fp,H' b=none)/\H' D=none/\(∃its k,zi ys its/\s'.heap.get? D=some { cls:=.type "list",data:=.seq its.toArray k })/\W i n τ ys H')
   ?_ m0 ⟨0,_,[],H2,I3,st1,λb hb=>(f2 b hb).1,D0,⟨[],0,.nil,hacc⟩,w0⟩
  rintro n s4 ⟨i,τ,ys,H4,I4,st4,fr4,dn4,⟨its,k,rv,dg⟩,w4⟩
  obtain ⟨hlen,step⟩:=turn i n τ ys H4 w4
  rcases step with ⟨stop,fin⟩|⟨go,step⟩
  ·refine thn (T.done (zo X sc N' Ga C fp s2 H2) rfl rfl rfl hc i [(D,({ cls:=.type "list",data:=.seq its.toArray k }:Obj))] s4 τ H4 (λ_ _=>False) (I4.pins_of λp hp=>?_) (λb hb=>?_) st4 stop) λr s5 ⟨hr,I5⟩=>?_
   ·have e:p=(D,{ cls:=.type "list",data:=.seq its.toArray k }):=by simpa using hp
    subst e
    obtain ⟨g0,g1,g2,_⟩:=fD dn4
    exact ⟨dg,g0,g1,g2,λv z=>(nomatch z)⟩
   ·obtain ⟨g0,g1,g2,g3,g4,g5⟩:=fF fr4 b hb
    refine ⟨g0,g1,g2,g3,g4,λp hp=>?_⟩
    rcases mem_append.mp hp with z|z
    ·exact g5 p (mem_append_left _ z)
    ·have e:p=(D,{ cls:=.type "list",data:=.seq its.toArray k }):=by simpa using z
     subst e
     exact λq=>hDfp (by have q':D=b:=q;rw [q'];exact hb)
   ·subst hr
    have dg5:=(I5.pin (D,_) (mem_append_right _ (mem_singleton.mpr rfl))).1
    obtain ⟨m5,hn5,_⟩:=id I5.loc
    refine ⟨m5,hn5,λh' hsb=>?_⟩
    have kb:∀b u,b≠C->s5.heap.get? b=some u->h'.get? b=some u:=λb u hb e=>(hsb.2 b hb).trans e
    have hlt:∀b o,s2.heap.get? b=some o->b≠C/\b≠D:=λb o e=>by
     have:=lt_size e
     rw [hD] at this
     exact below b this
    have U:=I5.base
    refine ⟨.ref D,upd H4 D (.lst ys),I2.call' (s':={ s5 with heap:=h' }) (ch:=fp) I5.os ⟨λb o e n hb hx=>kb b o (hlt b o e).1 (U.keep b o e n hb hx),λb o e n hb hx=>?_,λb o e n hx=>?_,λb o e hx=>?_,λb xs e=>?_,λb o u e=>?_,λb ps e=>?_⟩ ?_ I5.bare (λb hb=>?_),rfl,fin D dn4 (by have h:mainGlobals<s2.heap.objs.size:=(I2.mod.glob.keeps I2.bk).lt;rw [hD] at h;exact ne_of_gt (lt_trans (by decide) h))⟩
    ·obtain ⟨sl,q⟩:=U.slot b o e n hb hx
     exact ⟨sl,kb b _ (hlt b o e).1 q⟩
    ·rw [ze (hlt b o e).2]
     exact U.free b o e n hx
    ·obtain ⟨o',q⟩:=U.there b o e hx
     exact ⟨o',kb b _ (hlt b o e).1 q⟩
    ·have q:=U.tups b xs e
     rw [ze (zD q dn4)]
     exact q
    ·have q:=U.frzs b o u e
     rw [ze (zD q dn4)]
     exact q
    ·obtain ⟨more,q⟩:=U.tbls b ps e
     exact ⟨more,by rw [ze (zD q dn4)];exact q⟩
    ·refine (I5.hok.but I5.free kb).add dn4 ?_
     exact ⟨le_of_lt hlen,its,k,rv,kb _ _ hDC dg5⟩
    ·obtain ⟨_,g1,g2,g3,g4,g5⟩:=f2 b hb
     exact ⟨g3,g1,g4,g5⟩
  ·refine thn (T.item (zo X sc N' Ga C fp s2 H2) rfl rfl rfl hc i [(D,({ cls:=.type "list",data:=.seq its.toArray k }:Obj))] s4 τ H4 (λ_ _=>False) (I4.pins_of λp hp=>?_) (λb hb=>?_) st4 go) λr s5 ⟨u,hr,h5⟩=>?_
   ·have e:p=(D,{ cls:=.type "list",data:=.seq its.toArray k }):=by simpa using hp
    subst e
    obtain ⟨g0,g1,g2,_⟩:=fD dn4
    exact ⟨dg,g0,g1,g2,λv z=>(nomatch z)⟩
   ·obtain ⟨g0,g1,g2,g3,g4,g5⟩:=fF fr4 b hb
    refine ⟨g0,g1,g2,g3,g4,λp hp=>?_⟩
    rcases mem_append.mp hp with z|z
    ·exact g5 p (mem_append_left _ z)
    ·have e:p=(D,{ cls:=.type "list",data:=.seq its.toArray k }):=by simpa using z
     subst e
     exact λq=>hDfp (by have q':D=b:=q;rw [q'];exact hb)
   ·subst hr
    refine thn h5 λ_ s6 ⟨x,H6,I6,r6,y6,st6,fr6⟩=>?_
    obtain ⟨dg6,dn6,_⟩:=I6.pin (D,_) (mem_append_right _ (mem_singleton.mpr rfl))
    have dn6':H6 D=none:=dn6
    have all6:∀b∈D::fp,zS (zo X sc N' Ga C fp s2 H2) [] H6 b:=λb hb=>by
     rcases mem_cons.mp hb with z|z
     ·subst z;exact fD dn6'
     ·exact fF fr6 b z
    have obj6:∀b∈D::fp,∃o,s6.heap.get? b=some o/\∀v,o.data≠.cell v:=λb hb=>by
     rcases mem_cons.mp hb with z|z
     ·subst z;exact ⟨_,dg6,λv q=>(nomatch q)⟩
     ·exact T.obj _ _ st6 b z
    have I6':=(I6.unpinned (Ga:=[])).pinned all6 obj6
    refine thn (hg Ga C fp s2 H2 _ s6 τ H6 x u _ I6' r6 (step x H6 y6)) λ_ s7 ⟨τ7,H7,I7,q7⟩=>?_
    refine thn (ht Ga C fp s2 H2 _ s7 τ7 H7 _ I7 q7) λok s8 ⟨H8,I8,q8⟩=>?_
    have back:∀{s9:Shared}{H9:Hp},Inv (zo X sc N' Ga C fp s2 H2) ([]++zby (D::fp) s6.heap) τ7 H9 s9->s9.heap.get? D=some { cls:=.type "list",data:=.seq its.toArray k }/\H9 D=none/\tn (i+1) s9.heap/\∀b∈fp,H9 b=none:=λ{s9 H9} I9=>by
     have pin:∀b o,b∈D::fp->s6.heap.get? b=some o->s9.heap.get? b=some o/\H9 b=none:=λb o hb e=>by
      have q:=I9.pin (b,o) (mem_append_right _ (mem_append_right _ (zbG hb e)))
      exact ⟨q.1,q.2.1⟩
     refine ⟨(pin D _ mem_cons_self dg6).1,(pin D _ mem_cons_self dg6).2,T.keep _ _ _ st6 λb hb o e=>(pin b o (mem_cons_of_mem _ hb) e).1,λb hb=>?_⟩
     obtain ⟨o,e,_⟩:=T.obj _ _ st6 b hb
     exact (pin b o (mem_cons_of_mem _ hb) e).2
    cases ok with
    | false =>
     obtain ⟨b1,b2,b3,b4⟩:=back I8
     simp only [false_eq_true,if_false] at q8 ⊢
     obtain ⟨m',hm,w'⟩:=q8
     exact ⟨m',hm,i+1,τ7,ys,H8,I8.unpinned,b3,b4,b2,⟨its,k,rv,b1⟩,w'⟩
    | true =>
     simp only [if_true] at q8 ⊢
     refine thn (he Ga C fp s2 H2 _ s8 τ7 H8 _ I8 q8) λy s9 ⟨yv,H9,I9,r9,m',hm,w'⟩=>?_
     obtain ⟨b1,b2,b3,b4⟩:=back I9
     have el:its.toArray.size<=sizeLine:=by
      have:=rv.length
      simp only [size_toArray]
      omega
     refine append_at (hsz:=el) b1 λh10 sb hD10=>?_
     obtain ⟨_,g1,_,g3,g4,g5⟩:=fD b2
     refine ⟨m',hm,i+1,τ7,ys++[yv],H9,(I9.unpinned (Ga:=[])).turned (t':=s9.toks) (λb o hb e=>(sb.2 b hb).trans e) b2 g1 g3 g4 g5,T.keep _ _ _ b3 λb hb o e=>(sb.2 b λq=>hDfp (by rw [<- q];exact hb)).trans e,b4,b2,⟨its++[y],k+1,rv.append (.cons r9 .nil),?_⟩,w'⟩
     show h10.get? D=_
     rw [hD10]
     simp
 exact codeAny_compStart_list (loop _ rfl) (T.self _ 0 _ _ _ st1 (loop _ rfl))
structure ziU(B:Heap)(l:List Env)(e:Addr)(cls fl:Value)(h:Heap):Prop where
 stays:B.StaysIn h
 new:B.get? e=none
 frames:h.FunFrames B l
 obj:∃oe vs,h.get? e=some oe/\oe.cls=cls/\oe.dict=none/\oe.data = .fields vs/\2<vs.size/\vs[2]?=some .none /\
  (vs[1]?=some .none\/∃T oT ts,vs[1]?=some (.ref T)/\B.get? T=none/\T≠e/\h.get? T=some oT/\oT.data = .fields ts/\ts[3]?=some fl)
section
variable {M:Model}{A:Around}{E:Value->Shared->Prop}{s:Shared}{B:Heap}{env:Env}{outer l:List Env}{L e:Addr}{cls fl:Value}
end
def CXW(P:Program)(w:World):CXT:=λouter H s E e s'=>∃(ea C:Addr)(B:Heap)(H':Hp)(sI:Shared),e = .ref ea/\ziU B outer ea (.ref C) .none s'.heap/\Un (frs outer) [] H H' s.heap sI.heap/\HOk P w H' sI.heap /\
 sI.os=s.os/\AllBare sI.gens/\s'.os=s.os/\AllBare s'.gens/\(∀b o,sI.heap.get? b=some o->b∉frs outer->B.get? b=some o)/\sI.heap.UpToSlots s'.heap/\E (.ref C) none H'
def zdH(X:Cx)(Ex:Addr->St->Hp->Prop):Prop:=∀(Ga:List (Addr×Obj))(σ:St)(H:Hp)(sI:Shared)(ea C:Addr)(B:Heap)(fl:Value)(s':Shared),Inv X Ga σ H sI->ziU B X.stack ea (.ref C) fl s'.heap->s'.os=sI.os->AllBare s'.gens ->
 (∀b o,sI.heap.get? b=some o->b∉frs X.stack->B.get? b=some o)->sI.heap.UpToSlots s'.heap->Ex C σ H->X.xe (.ref ea) s'
theorem zdH.imp{X:Cx}{Ex Ex':Addr->St->Hp->Prop}(T:zdH X Ex)(h:∀C σ H,Ex' C σ H->Ex C σ H):zdH X Ex':=λGa σ H sI ea C B fl s' I f a b c d q=>T Ga σ H sI ea C B fl s' I f a b c d (h _ _ _ q)
def XE(Ex:Addr->St->Hp->Prop)(σ:St):XK:=λc _ H'=>∃C,c = .ref C/\Ex C σ H'
def ztN(sp:Sp)(dvs:List V)(Ex:Addr->St->Hp->Prop)(t:TA):TE:=λσ H Q=>t σ H λvs H1=>sp (vs++dvs) H1 Q (XE Ex σ)
def zjC(C:Addr)(m:Str)(sp:Sp)(dvs:List V)(Ex:Addr->St->Hp->Prop)(ta:TE)(t:TA):TE:=λσ H Q=>ta σ H λx H1=>∃a dx fs,x = .ref a/\H1 a=some (.ins C dx fs)/\fs.lookup m=none /\
 t σ H1 λvs H2=>sp (x::(vs++dvs)) H2 Q (XE Ex σ)
section
variable {X:Cx}{cm:Bool}{k:Nat}{f C:Addr}{fd:FuncData}{ps:List Str}{sp:Sp}{dvs:List V}{ds:List Value}{Ex:Addr->St->Hp->Prop}{x m:Str}{p pos apos:Pos}{e o:Expr}{es:List Expr}{ta:TE}{t:TA}
theorem zdH.of{Ga:List (Addr×Obj)}{σ:St}{H:Hp}{s s':Shared}{v:Value}(T:zdH X Ex)(I:Inv X Ga σ H s)(h:CXW X.prog X.w X.stack H s (XE Ex σ) v s'):X.xe v s':=by
 obtain ⟨ea,C,B,H',sI,rfl,y,un,hok,os,bare,os',bare',hB,up,C',ec,q⟩:=h
 cases ec
 exact T Ga σ H' sI ea C B .none s' (I.call' os un hok bare λb z=>absurd z (by simp)) y (os'.trans os.symm) bare' hB up q
end
def bmV:List Value:=[.type "ValueError",.type "Exception",.type "BaseException",.type "object"]
def zcT(K:PySem.W.Frag)(C:Addr):Prop:=excIn K C bmV "ValueError.__new__"=true
structure zob(h:Heap)(C:Addr)(mro:List Value):Prop where
 ex:∃bm N nm q bs hdct sn sub ab col dd k0 k1 k2 k3 k5 mN,mro = .ref C::bm/\h.get? C=some (excClassObj nm q C N bs bm hdct sn sub ab col dd k0 k1 k2 k3 k5 "ValueError.__new__")/\h.Ns N mN/\mN "__init__"=none/\OwnTail h bmV bm
theorem zcT.obj{K:PySem.W.Frag}{C:Addr}{h:Heap}(x:zcT K C)(X:K.In h):∃cd,clsIn K C=some cd/\zob h C cd.mro:=by
 unfold zcT excIn at x
 split at x
 ·rename_i dd cd sl look
  have hc:clsIn K C=some cd:=by
   unfold clsIn
   rw [look]
  refine ⟨cd,hc,?_⟩
  split at x
  ·rename_i C' bm k0 k1 k2 k3 n k5 em es
   simp only [and_eq_true,beq_iff_eq,not_eq_true'] at x
   obtain ⟨⟨⟨⟨⟨c1,c2⟩,c3⟩,c4⟩,c5⟩,c6⟩:=x
   subst c1 c2
   obtain ⟨a1,a2,a3,a4,a5,a6,a7,a8,a9,a10,a11⟩:=cd
   dsimp only at em c3 c5 c6 ⊢
   subst em c3
   obtain ⟨sl⟩:=sl
   dsimp only at es
   subst es
   exact ⟨bm,a4,a1,a5,a2,a6,a7,a8,a9,a10,dd,k0,k1,k2,k3,k5,_,rfl,X _ _ look,.of_isNs (PySem.W.isNs_of_in X c5),PySem.W.nsMap_none_of_in X c5 c6,PySem.W.tail_of_in X c4⟩
  ·cases x
 ·cases x
def zqf(C:Addr)(Ex:Addr->St->Hp->Prop)(t:TA):TS:=λ_ σ H=>t σ H λvs H1=>vs.length<=sizeLine/\Ex C σ H1
section
variable {M:Model}{A:Around}{E:Value->Shared->Prop}
end
theorem zV.ex{P:Program}{w:World}{H:Hp}{h:Heap}{a:Addr}{o:HO}(x:zV P w H h a o):∃ob,h.get? a=some ob:=by
 cases o with
 | lst xs=>obtain ⟨_,_,_,_,e⟩:=x;exact ⟨_,e⟩
 | tup xs=>obtain ⟨_,_,_,o,e,_⟩:=x;exact ⟨_,e⟩
 | dK kvs=>obtain ⟨_,_,_,_,o,_,_,e,_⟩:=x;exact ⟨_,e⟩
 | dT kvs=>obtain ⟨_,_,_,_,o,_,_,e,_⟩:=x;exact ⟨_,e⟩
 | set S n=>obtain ⟨o,_,_,_,e,_⟩:=x;exact ⟨_,e⟩
 | ins C dx fs=>obtain ⟨_,_,_,e,_⟩:=x;exact ⟨_,e⟩
 | own y=>exact x
 | xd fs=>obtain ⟨_,⟨_,_,_,e,_⟩,_⟩:=x;exact ⟨_,e⟩
 | rng lo hi=>obtain ⟨_,_,_,e⟩:=x;exact ⟨_,e⟩
 | frz ob u=>exact ⟨_,x.1⟩
 | tbl ps=>exact ⟨_,x⟩
 | met f y=>exact ⟨_,x⟩
 | ext φ=>exact x.2.1
abbrev cxP(X:Cx)(Ga:List (Addr×Obj)):Cx:={ X with pn:=X.pn++Ga }
theorem Cx.Ok.p{X:Cx}(ok:X.Ok)(Ga:List (Addr×Obj)):(cxP X Ga).Ok :=
 ⟨ok.mod,ok.kind,ok.glob,ok.blt,ok.above,ok.inj,ok.has,ok.cab,ok.hd,ok.frames,ok.stk,ok.exf,ok.bs,ok.bsz,ok.noex,ok.exfs,ok.funs,ok.frf⟩
theorem Inv.p{X:Cx}{Ga:List (Addr×Obj)}{σ:St}{H:Hp}{s:Shared}(I:Inv X Ga σ H s):Inv (cxP X Ga) [] σ H s :=
 ⟨I.ok.p Ga,I.os,I.bare,I.base,I.loc,I.cell,I.free,I.freeC,λp hp=>I.pin p (by have h:p∈(X.pn++Ga)++[]:=hp;simpa using h),I.hok,I.len,I.hdk⟩
def zfL(C:Addr)(o:Obj):Prop:=o.cls = .ref C/\o.dict=none/\∃vs,o.data = .fields vs
end L2
namespace L2
open PySem PySem.Spec PyProof.Rows PySem.W
section
variable {prog:Program}{w:World}{A:Around}{E:Value->Shared->Prop}{K:Frag}{h:Heap}{g:Array GenState}{d:Drawn}{t:Nat}{os:OsState}{e C:Addr}{oe:Obj}
theorem zql{tk:Tok}{Q:Fin->Shared->Prop}(X:K.In h)(I:InstAt h e oe C none)(f3:findIn K (.ref C) "__class__"=some (some (.builtin "object.__class__")))(hm:mroIn K C (.type "object")=some true)
  (hq:Q (.done (.ret (.ref C))) ⟨h,g,d,t,os⟩):wpAny (model prog w) A (Builtin.«object.__getattribute__» ⟨[.ref e,.str "__class__" tk],[]⟩) Q E ⟨h,g,d,t,os⟩:=by
 have L0:=I.type (M:=model prog w)
 have L3:=looks_findIn (M:=model prog w) X f3
 have f5:=F.typeOf_object_class
 have f6:=F.slot_gs_get.lookup
 have f7:=F.slot_gs_set.lookup
 repeat (any_goals (first|assumption|with_reducible refine L0.at ?_|with_reducible refine L3.at ?_|wp_step))
 exact class_get (s:=⟨h,g,d,t,os⟩) X I hm (wpAny_pure hq)
theorem zng{nameV:Value}{Q:Unit->Shared->Prop}(X:K.In h)(I:InstAt h e oe C none)(hb:mroIn K C (.type "BaseException")=some true)(hq:Q () ⟨h,g,d,t,os⟩) :
  wpAny (model prog w) A (checkBuiltinCall "BaseException.__getattribute__" ⟨[.ref e,nameV],[]⟩) Q E ⟨h,g,d,t,os⟩:=by
 have L0:=I.type (M:=model prog w)
 have L4:=looks_mroIn (M:=model prog w) X hb
 have c1:builtinKind "BaseException.__getattribute__"=some .slot:=by decide +kernel
 have c2:splitId "BaseException.__getattribute__"=some ("BaseException","__getattribute__"):=by decide +kernel
 have c3:=F.args_bexc_ga (.ref e) nameV
 simp only [checkBuiltinCall,c1,c2]
 refine wpAny_bind ?_
 unfold isInstance
 repeat (first|with_reducible refine L0.at ?_|with_reducible refine L4.at ?_|wp_step)
 exact hq
theorem ztz{Q:Option Value->Shared->Prop}(X:K.In h)(I:InstAt h e oe C none)(f1:findIn K (.ref C) "__getattribute__"=some (some (.builtin "BaseException.__getattribute__")))(f2:findIn K (.ref C) "__getattr__"=some none)
  (f3:findIn K (.ref C) "__class__"=some (some (.builtin "object.__class__"))) (hm:mroIn K C (.type "object")=some true) (hb:mroIn K C (.type "BaseException")=some true) (hq:Q (some (.ref C)) ⟨h,g,d,t+1,os⟩) :
  wpAny (model prog w) A (getAttr? (.ref e) "__class__") Q E ⟨h,g,d,t,os⟩:=by
 have L0:=I.type (M:=model prog w)
 have L1:=looks_findIn (M:=model prog w) X f1
 have L2:=looks_findIn (M:=model prog w) X f2
 have f4:=PySem.F.attr_ValueError.ga.bind (.ref e)
 have x2:(builtin "BaseException.__getattribute__" == builtin "object.__getattribute__")=false:=by decide +kernel
 have x1:(onTheHeap (Value.ref C)&&builtin "BaseException.__getattribute__" == builtin "object.__getattribute__")=false:=by rw [x2];rfl
 have x0:(false&&onTheHeap (builtin "BaseException.__getattribute__"))=false:=rfl
 unfold getAttr? getAttrBy?
 refine wpAny_bind (wpAny_mkText (wpAny_bind (wpAny_attempt ?_)))
 repeat (any_goals (first|assumption|with_reducible refine L0.at ?_|with_reducible refine L1.at ?_|with_reducible refine L2.at ?_|wp_step))
 refine codeAny_call_builtin PySem.F.attr_ValueError.ga.plain F.entry_bexc_ga (zng X I hb (zql X I f3 hm ?_))
 repeat (any_goals (first|assumption|wp_step))
structure zkc(K:Frag)(C:Addr):Prop where
 err:zcT K C
 ga:findIn K (.ref C) "__getattribute__"=some (some (.builtin "BaseException.__getattribute__"))
 gr:findIn K (.ref C) "__getattr__"=some none
 cl:findIn K (.ref C) "__class__"=some (some (.builtin "object.__class__"))
 ob:mroIn K C (.type "object")=some true
 ba:mroIn K C (.type "BaseException")=some true
theorem zmg(O:zkc K C):KitX K (.ref e) (.ref C) (λh=>InstAt h e oe C none) where
 ty:=λ_ _ _ I=>I.type
 it:=λM h X I=>by
  obtain ⟨cd,_,⟨bm,N,nm,q,bs,hdct,sn,sub,ab,col,dd,k0,k1,k2,k3,k5,mN,_,hC,_⟩⟩:=O.err.obj X
  intro A' Q' E' s' k q'
  unfold isType loadHead
  exact wpAny_bind (wpAny_loadPart (k _ _ hC) (wpAny_pure q'))
 ne:=λh tp dd its n sl X htp=>by
  obtain ⟨cd,_,⟨bm,N,nm,q,bs,hdct,sn,sub,ab,col,d1,k0,k1,k2,k3,k5,mN,_,hC,_⟩⟩:=O.err.obj X
  refine Bool.eq_false_iff.mpr λz=>?_
  have ec:C=tp:=Value.ref.inj (beq_iff_eq.mp z)
  subst ec
  have wd:=congrArg Obj.data (Option.some.inj (hC.symm.trans htp))
  cases wd
 ca:=λ{prog w A E Q s} X I k=>by
  obtain ⟨h,g,d,t,os⟩:=s
  exact ztz X I O.ga O.gr O.cl O.ob O.ba k
end
def ztL:V->Option Value
 | .ref a=>some (.ref a)
 | .ty n=>some (.type n)
 | _=>none
inductive TyX(K:Frag)(H:Hp):V->Value->Prop where
 | of {x:V}{t:Value} (h:za0 K H x t):TyX K H x t
 | exc {a C:Addr}{o:Obj} (e:H a=some (.frz o (.own 0))) (ho:zfL C o) (O:zkc K C):TyX K H (.ref a) (.ref C)
def zej(K:Frag):List V->Hp->VK->Prop:=λxs H Q=>∃x c t u b,xs=[x,c]/\ztL c=some u/\TyX K H x t/\kitOne K t u=some b/\Q (.bl b) H
theorem zcO{X:Cx}:zL X (.builtin "isinstance") (zej X.K):=by
 intro Ga s σ H xs us Q I r h
 obtain ⟨x,c,t,u,b,rfl,hc,ty,hk,q⟩:=h
 cases r with
 | cons r1 rr =>
  cases rr with
  | cons r2 rr =>
   cases rr
   rename_i v1 v2
   have e2:v2=u:=by
    cases c with
    | ref a=>cases hc;exact r2
    | ty n=>cases hc;exact r2
    | _=>cases hc
   subst e2
   cases ty with
   | of ty=>exact zkR I r1 ty hk λtk=>⟨.bl b,H,I.tok tk,rfl,q⟩
   | exc e ho O =>
    rename_i a C o
    obtain rfl:v1=Value.ref a:=r1
    obtain ⟨z,_⟩:=I.hok a _ e
    obtain ⟨c1,c2,vs,c3⟩:=ho
    have J:InstAt s.heap a o C none:=⟨z,c1,by unfold notCls;rw [c3],by rw [c2];trivial⟩
    exact kia_one (zmg O) I.kIn J hk (λw=>nomatch w) λtk=>⟨.bl b,H,I.tok tk,rfl,q⟩
end L2
namespace L2
open PySem PySem.Spec PyProof.Rows
def Hnd(A:Around)(h:Heap):Prop:=A.handled=none\/∃(a:Addr)(o:Obj)(vs:Array Value),A.handled=some (.ref a)/\h.get? a=some o/\o.data = .fields vs/\vs[2]?=some .none/\∃C,o.cls = .ref C
theorem Inv.hnd{X:Cx}{Ga:List (Addr×Obj)}{σ:St}{H:Hp}{s:Shared}(I:Inv X Ga σ H s):Hnd X.A s.heap:=by
 rcases I.hdk with h|⟨a,o,vs,h1,h2,h3⟩
 ·exact .inl h
 ·exact .inr ⟨a,o,vs,h1,(I.hok a _ h2).1,h3⟩
theorem Hnd.keeps{A:Around}{h h':Heap}(x:Hnd A h)(k:∀b o,(∃C,o.cls = .ref C)->h.get? b=some o->h'.get? b=some o):Hnd A h':=by
 rcases x with x|⟨a,o,vs,h1,h2,h3,h4,h5⟩
 ·exact .inl x
 ·exact .inr ⟨a,o,vs,h1,k a o h5 h2,h3,h4,h5⟩
theorem zkL:entryFor table "proto.unchain"=some Builtin.«proto.unchain»:=entryFor_of_tree (by kernel_rfl)
section
variable {prog:Program}{w:World}{A:Around}{E:Value->Shared->Prop}{s:Shared}
theorem zrt{α:Type}{e:Addr}{oe:Obj}{ws:Array Value}{Q:α->Shared->Prop}(hh:Hnd A s.heap)(he:s.heap.get? e=some oe)(hd:oe.data = .fields ws)(hz:2<ws.size)(hc:∀C,oe.cls≠.ref C)
  (k:∀h',SameBut e s.heap h'->(∃o,h'.get? e=some o/\o.cls=oe.cls)->E (.ref e) { s with heap:=h' }):wpAny (model prog w) A (raiseNew (.ref e):Sem α) Q E s:=by
 unfold raiseNew
 refine wpAny_bind (wpAny_handled ?_)
 rcases hh with hh|⟨a,o,vs,h1,h2,h3,h4,C,h5⟩
 ·rw [hh]
  exact wpAny_bind (wpAny_pure (wpAny_throw (k s.heap (SameBut.refl _ _) ⟨oe,he,rfl⟩)))
 ·rw [h1]
  have ne:a≠e:=λz=>by rw [z,he] at h2;cases h2;exact hc C h5
  dsimp only
  rw [if_pos (show (Value.ref a != Value.ref e)=true by simpa using ne)]
  refine wpAny_bind (wpAny_holding (wpAny_runValue (codeAny_builtin zkL ?_)))
  refine wpAny_bind (m:=field (.ref a) 2) (wpAny_field h2 h3 h4 ?_)
  rw [if_pos (show (Value.none==Value.none)=true by rfl)]
  refine wpAny_pure (wpAny_bind ?_)
  show wpAny _ _ (setField (.ref e) 2 (.ref a)) _ _ _
  have dd:=Obj.data_mapFields hd (·.setIfInBounds 2 (Value.ref a))
  exact wpAny_setField he hd hz (wpAny_throw (k _ (SameBut.update ..) ⟨_,get?_update_self _ he (Obj.isFreed_of_fields dd),Obj.cls_mapFields _ _⟩))
theorem zoQ{α:Type}{Q:α->Shared->Prop}(hh:Hnd A s.heap)(k:∀h' e,(∀b o,s.heap.get? b=some o->h'.get? b=some o)->(∃o,h'.get? e=some o/\o.cls = .type "StopIteration")->E (.ref e) { s with heap:=h' }) :
  wpAny (model prog w) A (newExc (.type "StopIteration") []>>=λe=>(raiseNew e:Sem α)) Q E s:=by
 refine wpAny_bind ?_
 simp only [newExc,newTuple]
 refine wpAny_bind (wpAny_newObj_type (wpAny_bind (m:=firstArgMember _ _) (wpAny_of_eq (a:=Value.none) (by first|rfl|(simp only [firstArgMember];rfl)) (wpAny_newObj_type ?_ (by size_fits)))) (by size_fits))
 have old:∀(o1 o2:Obj) b o,s.heap.get? b=some o->((s.heap.push o1).push o2).get? b=some o:=λo1 o2 b o q=>get?_push_of_some _ (get?_push_of_some _ q)
 refine zrt (hh.keeps λb o _ q=>old _ _ b o q) (get?_push_size _ rfl) rfl (by simp;omega) (λC z=>by cases z) λh' sb ⟨o,g,c⟩=>k h' _ (λb o q=>?_) ⟨o,g,c⟩
 refine (sb.2 b (λz=>?_)).trans (old _ _ b o q)
 have:=lt_size q
 rw [z,size_push] at this
 exact absurd (lt_of_succ_lt this) (lt_irrefl _)
theorem znx{it t:Addr}{i:Nat}{items:Array Value}{Q:Option Value->Shared->Prop}(hh:Hnd A s.heap)(hit:s.heap.IsTupleIter it t i)(ht:s.heap.IsTuple t items)(hx:items[i]?=none)
  (k:∀h',ExtBut it s.heap h'->Q none { s with heap:=h' }):wpAny (model prog w) A (pyNext (.ref it)) Q E s:=by
 obtain ⟨o,ho,hc,hd⟩:=id hit
 obtain ⟨ol,hol,_,nl,hdl⟩:=ht
 unfold pyNext
 refine wpAny_bind (wpAny_attempt (wpAny_callSpecial?_slot (name:=Str.ofString "__next__") hit.typeIs F.slot_tuple_iterator_next (wpAny_call_entry F.slot_tuple_iterator_next hit.typeIs F.entry_tuple_iterator_next ?_ (F.args_tuple_iterator_next_1 _))))
 refine wpAny_bind (m:=field (.ref it) 0) (wpAny_field ho hd (x:=.ref t) rfl ?_)
 rw [if_neg (show ¬ ((Value.ref t==Value.none)=true) by simp)]
 refine wpAny_bind (m:=field (.ref it) 1) (wpAny_field ho hd (x:=.int i 0) rfl (wpAny_bind (m:=seqItems? (.ref t)) (wpAny_seqItems hol hdl ?_)))
 simp only [toNat_natCast,hx]
 refine wpAny_bind (wpAny_rule (wpAny_bind (wpAny_setField ho hd (by simp) ?_)))
 refine zoQ (hh.keeps λb q hq e=>(get?_update_other _ _ λz=>?_).trans e) λh' e up ⟨o',g',c'⟩ =>
  wpAny_bind (wpAny_isInstance (T:="StopIteration") (b:=true) ⟨o',g',c'⟩ isSubtype_stop (wpAny_pure (k h' λb q hb z=>up b q ((get?_update_other _ _ (Ne.symm hb)).trans z))))
 obtain ⟨C,hC⟩:=hq
 rw [<- z,ho] at e
 cases e
 rw [hc] at hC
 cases hC
theorem zpJ{env:Env}{elts:List Expr}{x1}{pos:Pos}{t:Addr}{items:Array Value}{Q:Unit->Shared->Prop}(hh:Hnd A s.heap)(ht:IsTup s.heap t items)(hn:(assignEach elts env).length=items.size)(hstar:(assignEach elts env).findIdx? (·.1)=none)
  (h:∀h',ExtBut s.heap.objs.size s.heap h'->wpAny (model prog w) A (assignInOrder ((assignEach elts env).map (·.2)) items.toList) Q E { s with heap:=h' }):wpAny (model prog w) A (assign (.Tuple elts x1 pos) env (.ref t)) Q E s:=by
 have lt:t≠s.heap.objs.size:=by obtain ⟨o,ho,_⟩:=ht;exact ne_of_lt (lt_size ho)
 have all:List.take items.size (List.drop 0 items.toList)=items.toList:=by rw [List.drop_zero];exact take_of_length_le (by simp)
 have core:wpAny (model prog w) A (unpackItems (.ref t) items.size none) (λvs s'=>∃h',vs=items.toList/\s'={ s with heap:=h' }/\ExtBut s.heap.objs.size s.heap h') E s:=by
  unfold unpackItems
  refine wpAny_bind ?_
  unfold notIterableAtAll
  refine wpAny_bind (wpAny_specialOf ht.typeIs slot_tuple_iter.lookup (wpAny_pure ?_))
  simp only [false_eq_true,if_false]
  refine wpAny_bind (wpAny_holding (iter_tuple ht (wpAny_bind (wpAny_holding (draw_tuple lt items.size 0 _ _ ⟨_,get?_push_size _ rfl,rfl,rfl⟩ (ht.push _) (by omega) λh1 it1 s1=>?_)))))
  rw [all,if_neg (by simp)]
  have t1:IsTup h1 t items:=(ht.push _).extBut s1.extBut lt
  have up1:∀b o,b≠s.heap.objs.size->s.heap.get? b=some o->h1.get? b=some o:=λb o hb e=>s1.extBut b o hb (get?_push_of_some _ e)
  refine wpAny_bind (wpAny_holding (znx (s:={ s with heap:=h1 }) (hh.keeps λb o _ e=>up1 b o (ne_of_lt (lt_size e)) e) it1 t1 (by simp) λh2 e2=>?_))
  simp only [Option.isSome_none,false_eq_true,if_false]
  exact wpAny_pure ⟨h2,rfl,rfl,λb o hb e=>e2 b o hb (up1 b o hb e)⟩
 rw [assign_Tuple]
 refine wpAny_bind (wpAny_standAt ?_)
 unfold unpack
 rw [hstar,hn]
 refine wpAny_bind (wpAny_holding (wpAny_mono core (λvs s' ⟨h',e1,e2,x⟩=>?_) λ_ _ z=>z))
 subst e1 e2
 exact h h' x
end
theorem ziA{X:Cx}{pos:Pos}{es:List Expr}{k:Nat}{t:TGs}{n:Nat}(h:PGs X es t)(hl:(assignEach es X.env).length=n:=by rfl)(hst:(assignEach es X.env).findIdx? (·.1)=none:=by rfl):PG X (.Tuple es k pos) (zgK X.K n t):=by
 intro Ga s σ H v u Q I r q
 obtain ⟨a,xs,rfl,hx,hn,q⟩:=q
 obtain rfl:u=Value.ref a:=r
 obtain ⟨its,rv,ht,hz⟩:=I.tuple hx
 refine zpJ I.hnd ht (by rw [hl,<- hn,rv.length];simp) hst λh' ex=>?_
 have I1:Inv X Ga σ H { s with heap:=h' }:=I.kept (t':=s.toks) λb o e=>ex b o (ne_of_lt (lt_size e)) e
 have:=h Ga { s with heap:=h' } σ H xs its Q I1 rv q
 simpa using this
section
variable {prog:Program}{w:World}{A:Around}{E:Value->Shared->Prop}{s:Shared}
end
def Itz(K:PySem.W.Frag)(a b:Addr):It :=
 ⟨λi H=>∃xs ys x y,SqL K H a xs/\SqL K H b ys/\xs[i]?=some x/\ys[i]?=some y,λi H v H'=>∃T x y,H T=none/\v = .ref T/\H'=upd H T (.tup [x,y])/\(∀xs,SqL K H a xs->xs[i]?=some x)/\∀ys,SqL K H b ys->ys[i]?=some y,
  λi H=>∃xs ys,SqL K H a xs/\SqL K H b ys/\xs.length<=i⟩
structure zfN(z TI TO i1 i2 l1 l2:Addr)(i:Nat)(h:Heap):Prop where
 z:IsZip h z TI TO .none
 ti:IsPair h TI (.ref i1) (.ref i2)
 to:∃a b,IsPair h TO a b
 a:h.IsListIter i1 l1 i
 b:h.IsListIter i2 l2 i
theorem zfN.keep{z TI TO i1 i2 l1 l2:Addr}{i:Nat}{h h':Heap}(x:zfN z TI TO i1 i2 l1 l2 i h)(k:∀b∈[z,TI,TO,i1,i2],∀o,h.get? b=some o->h'.get? b=some o):zfN z TI TO i1 i2 l1 l2 i h':=by
 obtain ⟨a1,a2,⟨u,v,a3⟩,a4,a5⟩:=x
 exact ⟨k _ (by simp) _ a1,k _ (by simp) _ a2,⟨u,v,k _ (by simp) _ a3⟩,a4.at λo e=>k _ (by simp) o e,a5.at λo e=>k _ (by simp) o e⟩
def eqL(xs ys:List V):Bool:=xs.length==ys.length&&(List.range xs.length).all λi=>eqV (xs.getD i .non) (ys.getD i .non)
theorem zeo:∀{xs:List V},xs.all zF=true->(∀x∈xs,∀b,x≠.byt b)->eqL xs xs=true:=by
 intro xs h _
 unfold eqL
 rw [beq_self_eq_true,Bool.true_and,all_eq_true]
 intro i hi
 have hlt:=mem_range.mp hi
 have hm:xs[i]∈xs:=getElem_mem hlt
 have:=all_eq_true.mp h _ hm
 rw [getD_eq_getElem?_getD,List.getElem?_eq_getElem hlt,Option.getD_some]
 cases e:xs[i] with
 | non=>rfl
 | bl b=>simp [eqV]
 | int j=>simp [eqV]
 | str x=>simp [eqV]
 | _=>rw [e] at this;cases this
section
variable {X:Cx}
def ziz(K:PySem.W.Frag)(neg:Bool):R2:=λx y H Q=>∃a b xs ys,x = .ref a/\y = .ref b/\SqL K H a xs/\SqL K H b ys/\xs.all zF=true/\ys.all zF=true/\Q (.bl (if neg then !eqL xs ys else eqL xs ys)) H
theorem zij{Ga:List (Addr×Obj)}{σ:St}{H:Hp}{s:Shared}{a b:Addr}{xs ys:List V}(I:Inv X Ga σ H s)(ha:SqL X.K H a xs)(hb:SqL X.K H b ys)(fx:xs.all zF=true)(fy:ys.all zF=true) :
  ∃is js:List Value,s.heap.IsList a is.toArray/\s.heap.IsList b js.toArray/\xs.length=is.length/\ys.length=js.length/\∀(A:Around)(j:Nat)(h1:j<is.toArray.size)(h2:j<js.toArray.size),SeqAt.EqAt A s is.toArray[j] js.toArray[j] (eqV (xs.getD j .non) (ys.getD j .non)):=by
 obtain ⟨is,r1,p1,_⟩:=I.list ha
 obtain ⟨js,r2,p2,_⟩:=I.list hb
 refine ⟨is,js,p1.isList,p2.isList,r1.length,r2.length,λA j h1 h2=>?_⟩
 have l1:=r1.length
 have l2:=r2.length
 simp only [size_toArray] at h1 h2
 have e1:xs[j]?=some (xs.getD j .non):=by rw [getD_eq_getElem?_getD,List.getElem?_eq_getElem (by omega)];rfl
 have e2:ys[j]?=some (ys.getD j .non):=by rw [getD_eq_getElem?_getD,List.getElem?_eq_getElem (by omega)];rfl
 obtain ⟨u,g1,q1⟩:=r1.get e1
 obtain ⟨v,g2,q2⟩:=r2.get e2
 rw [List.getElem?_eq_getElem h1] at g1
 rw [List.getElem?_eq_getElem h2] at g2
 have f1:=all_eq_true.mp fx _ (mem_of_getElem? e1)
 have f2:=all_eq_true.mp fy _ (mem_of_getElem? e2)
 have z:=zeY (A:=A) (s:=s) q1 q2 f1 f2
 have w1:is.toArray[j]=u:=by simpa using Option.some.inj g1
 have w2:js.toArray[j]=v:=by simpa using Option.some.inj g2
 rw [w1,w2]
 exact z
theorem zjW(hu:X.A.units<cLine):OpR X (compareOp .Eq) (ziz X.K false):=by
 intro Ga s σ H x y v u Q I rx ry h
 obtain ⟨a,b,xs,ys,rfl,rfl,ha,hb,fx,fy,q⟩:=h
 cases rx
 cases ry
 obtain ⟨is,js,p1,p2,l1,l2,eq⟩:=zij I ha hb fx fy
 by_cases hz:is.toArray.size=js.toArray.size
 ·refine SeqAt.eq_listAt p1 p2 hz hu (λj h1 h2=>eq _ j h1 h2) ⟨.bl _,H,I,rfl,?_⟩
  have e:eqL xs ys=(List.range is.toArray.size).all λj=>eqV (xs.getD j .non) (ys.getD j .non):=by
   unfold eqL
   simp only [size_toArray] at hz ⊢
   rw [l1,l2,hz]
   simp
  rw [<- e]
  exact q
 ·refine SeqAt.eq_list_lengthsAt p1 p2 (by simpa using hz) hu ⟨.bl false,H,I,rfl,?_⟩
  have e:eqL xs ys=false:=by
   unfold eqL
   have:(xs.length==ys.length)=false:=by simp only [size_toArray] at hz;rw [l1,l2];simpa using hz
   rw [this,Bool.false_and]
  have q':Q (.bl (eqL xs ys)) H:=q
  rw [e] at q'
  exact q'
theorem zjT(hu:X.A.units<cLine):OpR X (compareOp .NotEq) (ziz X.K true):=by
 intro Ga s σ H x y v u Q I rx ry h
 obtain ⟨a,b,xs,ys,rfl,rfl,ha,hb,fx,fy,q⟩:=h
 cases rx
 cases ry
 obtain ⟨is,js,p1,p2,l1,l2,eq⟩:=zij I ha hb fx fy
 have q':Q (.bl (!eqL xs ys)) H:=q
 by_cases hz:is.toArray.size=js.toArray.size
 ·refine SeqAt.RcNeAt.lists p1 p2 hz hu (λj h1 h2=>eq _ j h1 h2) _ _ _ _ ⟨.bl _,H,I,rfl,?_⟩
  have e:eqL xs ys=(List.range is.toArray.size).all λj=>eqV (xs.getD j .non) (ys.getD j .non):=by
   unfold eqL
   simp only [size_toArray] at hz ⊢
   rw [l1,l2,hz]
   simp
  rw [<- e]
  exact q'
 ·refine SeqAt.RcNeAt.lists_lengths p1 p2 (by simpa using hz) hu _ _ _ _ ⟨.bl true,H,I,rfl,?_⟩
  have e:eqL xs ys=false:=by
   unfold eqL
   have:(xs.length==ys.length)=false:=by simp only [size_toArray] at hz;rw [l1,l2];simpa using hz
   rw [this,Bool.false_and]
  rw [e] at q'
  exact q'
theorem Inv.big{Ga:List (Addr×Obj)}{σ:St}{H:Hp}{s:Shared}(I:Inv X Ga σ H s):sysModules<s.heap.objs.size:=by
 have h:mainGlobals<s.heap.objs.size:=(I.mod.glob.keeps I.bk).lt
 exact lt_trans (by decide) h
def zle:TE:=λ_ H Q=>∀p,H p=none->Q (.ref p) (upd H p (.dK []))
theorem zuy{pos:Pos}:PE X (.Dict [] [] pos) zle:=λGa s σ H Q I h =>
 wpAny_Dict_empty ⟨.ref s.heap.objs.size,_,I.laid (a:=s.heap.objs.size) (o:=.dK []) (t':=s.toks) (λ_ _ q=>get?_push_of_some _ q) (le_refl _) ⟨zero_le _,beq_eq_false_iff_ne.mpr (Ne.symm (ne_of_lt I.big)),[],.nil,Heap.DictOf.new s.heap⟩,rfl,h _ (I.hok.fresh (le_refl _))⟩
def zrU(K:PySem.W.Frag)(n:Nat)(t:TGs):TG:=λv σ H Q=>∃a xs,v = .ref a/\SqL K H a xs/\xs.length=n/\t xs σ H Q
theorem znG{pos:Pos}{es:List Expr}{k:Nat}{t:TGs}{n:Nat}(hc:X.calm=true)(h:PGs X es t)(hl:(assignEach es X.env).length=n:=by rfl)(hst:(assignEach es X.env).findIdx? (·.1)=none:=by rfl):PG X (.Tuple es k pos) (zrU X.K n t):=by
 intro Ga s σ H v u Q I r q
 obtain ⟨a,xs,rfl,hx,hn,q⟩:=q
 obtain rfl:u=Value.ref a:=r
 obtain ⟨its,rv,hp,hz⟩:=I.list hx
 rw [assign_Tuple]
 refine wpAny_bind (wpAny_standAt ?_)
 unfold unpack
 have hs:n=its.toArray.size:=by rw [<- hn,rv.length];simp
 rw [hl,hst,hs]
 refine wpAny_bind (wpAny_holding (PySem.W.kun_itemsOf (I.ok.hd hc) hp.isList λh' ex=>?_))
 have I1:Inv X Ga σ H { s with heap:=h' }:=I.kept (t':=s.toks) λb o e=>ex b o (ne_of_lt (lt_size e)) e
 have:=h Ga { s with heap:=h' } σ H xs its Q I1 rv q
 simpa using this
def ziS(K:PySem.W.Frag)(ta:TA):TI:=λσ H R=>ta σ H λvs H1=>∃a b,vs=[.ref a,.ref b]/\(∃xs,SqL K H1 a xs)/\(∃ys,SqL K H1 b ys)/\R (Itz K a b) H1
end
def zap:Expr->Bool
 | .Starred _ _=>false
 | _=>true
theorem zbL{e:Expr}{es:List Expr}{env:Env}(h:zap e=true):starEach (e::es) env=(false,eval e env)::starEach es env:=by
 cases e<;>first|rfl|(exact absurd (show false=true from h) Bool.false_ne_true)
def zaY(es:List Expr):Bool:=es.all zap
theorem zi1{env:Env}:∀{es:List Expr}(h:zaY es=true),(starEach es env).any (·.1)=false
 | [],_=>rfl
 | e::es,h=>by
  unfold zaY at h
  rw [List.all_cons,and_eq_true] at h
  rw [zbL h.1,any_cons,zi1 h.2]
  rfl
theorem zdM{pos:Pos}{env:Env}{es:List Expr}(h:zaY es=true):(backTo pos (starEach es env)).any (·.1)=false:=by
 have q:=zi1 (env:=env) h
 unfold backTo
 rw [any_map]
 exact q
theorem zhj{e:Expr}{env:Env}(h:zap e=true):starEach [e] env=[(false,eval e env)]:=(zbL h).trans rfl
section
variable {X:Cx}
theorem zsh{e:Expr}{es:List Expr}{te:TE}{t:TA}(ha:PE X e te)(hr:PA X es t)(hp:zap e=true:=by rfl):PA X (e::es) (zcV te t):=zeM ha hr (zbL hp)
theorem zpw{id:String}{r:List V->Hp->VK->Prop}{x:Str}{e:Expr}{es:List Expr}{t:TA}{p pos:Pos}(hc:zL X (.builtin id) r)(hg:Gl X x)(hm:X.mg x=none)(hv:bootBuiltins x=some (.builtin id))(ha:PA X (e::es) t)(hp:zap e=true:=by rfl)(hps:zaY es=true:=by rfl)(hn:x≠"__name__":=by decide)(hdb:(x==("__debug__":Str))=false:=by decide):PE X (.Call (.Name x p) (e::es) [] pos) (tCB r t) :=
 zjX hc hg hm hv ha hn hdb (zbL hp) (zdM hps)
theorem ztg{T:String}{r:List V->Hp->VK->Prop}{x:Str}{e:Expr}{es:List Expr}{t:TA}{p pos:Pos}(hc:zL X (.type T) r)(hg:Gl X x)(hm:X.mg x=none)(hv:bootBuiltins x=some (.type T))(ha:PA X (e::es) t)(hp:zap e=true:=by rfl)(hps:zaY es=true:=by rfl)(hn:x≠"__name__":=by decide)(hdb:(x==("__debug__":Str))=false:=by decide):PE X (.Call (.Name x p) (e::es) [] pos) (tCB r t) :=
 zop hc hg hm hv ha hn hdb (zbL hp) (zdM hps)
theorem zrw{tg a:Expr}{ta:TA}{p pos:Pos}(hg:Gl X "range")(hm:X.mg "range"=none)(ha:PA X [a] ta)(hp:zap a=true:=by rfl):PIc true X tg (.Call (.Name "range" p) [a] [] pos) (zes ta):=zrg hg hm ha (zhj hp)
end
structure New(H:Hp)(p:Addr)(o:HO)(H':Hp):Prop where
 no:H p=none
 at_:H' p=some o
 same:zf H H'
theorem New.mk'{H:Hp}{p:Addr}{o:HO}(h:H p=none):New H p o (upd H p o):=⟨h,zp,λb u e=>by rw [ze (zD e h)];exact e⟩
section
variable {X:Cx}
def zg7(t:TA):TE:=λσ H Q=>t σ H λxs H1=>xs.length<=sizeLine/\∀p H2,New H1 p (.lst xs) H2->p≠sysModules->Q (.ref p) H2
theorem zlW{es:List Expr}{t:TA}{pos:Pos}(h:PA X es t):PE X (.List es pos) (zg7 t):=by
 intro Ga s σ H Q I hq
 refine wpAny_List_spliced (thn (h pos Ga s σ H _ I hq) λus s1 ⟨xs,H1,I1,r,z,q⟩=>⟨by rw [<- r.length];exact z,?_⟩)
 have hf:H1 s1.heap.objs.size=none:=I1.hok.fresh (le_refl _)
 refine ⟨.ref s1.heap.objs.size,upd H1 s1.heap.objs.size (.lst xs),I1.laid (t':=s1.toks) (λb u e=>get?_push_of_some _ e) (le_refl _) ?_,rfl,q _ _ (.mk' hf) (ne_of_gt I1.big)⟩
 exact ⟨z,us,0,r,get?_push_size _ rfl⟩
def zeA(t:TA):TE:=λσ H Q=>t σ H λxs H1=>xs.length<=sizeLine/\∀p H2,New H1 p (.tup xs) H2->Q (.ref p) H2
theorem zhR{es:List Expr}{t:TA}{R R':List V->Hp->Prop}(hw:∀xs H,R xs H->R' xs H)(h:PA X es t)(pos:Pos)(Ga:List (Addr×Obj))(s:Shared)(σ:St)(H:Hp)(I:Inv X Ga σ H s)(q:t σ H R) :
  wpAny (model X.prog X.w) X.A (spliced (backTo pos (starEach es X.env))) (AP X Ga σ R') X.xe s :=
 thn (h pos Ga s σ H R I q) λ_ _ ⟨vs,H',a,b,c⟩=>⟨vs,H',a,b,hw _ _ c⟩
theorem zld{es:List Expr}{t:TA}{x1}{pos:Pos}(h:PA X es t):PE X (.Tuple es x1 pos) (zeA t):=by
 have h':PA X es (λσ H Q=>∃R:List V->Hp->Prop,t σ H R/\∀xs H,R xs H->Q xs H):=λpos Ga s σ H Q I ⟨R,q,hw⟩=>zhR hw h pos Ga s σ H I q
 intro Ga s σ H Q I hq
 exact zq5 h' Ga s σ H Q I ⟨_,hq,λxs H1 ⟨z,q⟩=>⟨z,λp hp=>q p _ (.mk' hp)⟩⟩
def zgS:TE:=λ_ H Q=>∀p H2,New H p (.dK []) H2->Q (.ref p) H2
theorem znR{pos:Pos}:PE X (.Dict [] [] pos) zgS:=λGa s σ H Q I h=>zuy Ga s σ H Q I λp hp=>h p _ (.mk' hp)
end
def uR(v:V)(q:Addr->Prop):Prop:=∃a,v = .ref a/\q a
def zg9(to te:TE):TE:=λσ H Q=>to σ H λx H1=>uR x λl=>(∃xs,H1 l=some (.lst xs))/\te σ H1 λy H2=>∃xs,H2 l=some (.lst xs)/\xs.length<sizeLine/\Q .non (upd H2 l (.lst (xs++[y])))
section
variable {X:Cx}
theorem OpR.weak{f:Value->Value->Sem Value}{r r':R2}(h:OpR X f r)(hw:∀x y H Q,r' x y H Q->r x y H Q):OpR X f r' :=
 λGa s σ H x y v u Q I rx ry q=>h Ga s σ H x y v u Q I rx ry (hw x y H Q q)
theorem zL.weak{f:Value}{r r':List V->Hp->VK->Prop}(h:zL X f r)(hw:∀xs H Q,r' xs H Q->r xs H Q):zL X f r' :=
 λGa s σ H xs us Q I rs q=>h Ga s σ H xs us Q I rs (hw xs H Q q)
theorem IxR.weak{r r':R2}(h:IxR X r)(hw:∀x y H Q,r' x y H Q->r x y H Q):IxR X r' :=
 λvalue slice Ga s σ H x y v u Q I rx ry q hs=>h value slice Ga s σ H x y v u Q I rx ry (hw x y H Q q) hs
def zbd:R2:=λx y H Q=>(∃i j,x = .int i/\y = .int j/\Q (.int (i+j)) H)\/(∃i j,x = .str i/\y = .str j/\i.length+j.length<=sizeLine/\Q (.str (i++j)) H) \/
 (∃l b xs zs,x = .ref l/\y = .ref b/\H l=some (.lst xs)/\H b=some (.lst zs)/\xs.length+zs.length<=sizeLine/\∀p H2,New H p (.lst (xs++zs)) H2->Q (.ref p) H2)
theorem zaA:OpR X (binaryOp .Add) zbd:=zlF.or (zrE.or (ztc.weak λx y H Q h=>by
 obtain ⟨l,b,xs,zs,e1,e2,h1,h2,h3,h4⟩:=h
 exact ⟨l,b,xs,zs,e1,e2,h1,h2,h3,λp hp=>h4 p _ (.mk' hp)⟩))
def zbK:R2:=λx y H Q=>(∃i j,x = .int i/\y = .int j/\zdr i j/\Q (.int (i*j)) H) \/
 (∃l k xs,x = .ref l/\y = .int k/\H l=some (.lst xs)/\-(2 ^ 63)<=k/\k<2 ^ 63/\xs.length*k.toNat<=sizeLine/\∀p H2,New H p (.lst (replicate k.toNat xs).flatten) H2->Q (.ref p) H2)
theorem zpi:OpR X (binaryOp .Mult) zbK:=zoW.or (zsp.weak λx y H Q h=>by
 obtain ⟨l,k,xs,e1,e2,h1,h2,h3,h5,h4⟩:=h
 exact ⟨l,k,xs,e1,e2,h1,h2,h3,h5,λp hp=>h4 p _ (.mk' hp)⟩)
def uIx:R2:=λx y H Q=>(∃p xs i v,x = .ref p/\y = .int i/\H p=some (.lst xs)/\atI xs i=some v/\Q v H) \/
 (∃p xs i v,x = .ref p/\y = .int i/\H p=some (.tup xs)/\atI xs i=some v/\Q v H)\/(∃z i c,x = .str z/\y = .int i/\z.length<=sizeLine/\atI z.cps.toList i=some c/\Q (.str ⟨#[c]⟩) H)
theorem zai:IxR X uIx:=zkV.weak λx y H Q h=>by
 rcases h with ⟨p,xs,i,v,e1,e2,h,r⟩|⟨p,xs,i,v,e1,e2,h,r⟩|h
 ·exact .inl ⟨p,xs,i,v,e1,e2,SqL.of h,r⟩
 ·exact .inr (.inl ⟨p,xs,i,v,e1,e2,SqT.of h,r⟩)
 ·exact .inr (.inr h)
def zdU:List V->Hp->VK->Prop:=λxs H Q=>(∃p ys,xs=[.ref p]/\H p=some (.lst ys)/\Q (.int ys.length) H)\/(∃p ys,xs=[.ref p]/\H p=some (.tup ys)/\Q (.int ys.length) H) \/
 (∃z,xs=[.str z]/\z.length<=sizeLine/\Q (.int z.length) H)
theorem zbV:zL X (.builtin "len") zdU:=(zfx.or zp6).weak λxs H Q h=>by
 rcases h with ⟨p,ys,e,h,q⟩|⟨p,ys,e,h,q⟩|h
 ·exact .inl ⟨p,ys,e,.inl (SqL.of h),q⟩
 ·exact .inl ⟨p,ys,e,.inr (SqT.of h),q⟩
 ·exact .inr h
def uEq(neg:Bool):R2:=λx y H Q=>(zbr x y=true/\Q (.bl (if neg then !decide (x=y) else decide (x=y))) H) \/
 (∃a b xs ys,x = .ref a/\y = .ref b/\H a=some (.lst xs)/\H b=some (.lst ys)/\xs.all zF=true/\ys.all zF=true/\Q (.bl (if neg then !eqL xs ys else eqL xs ys)) H)
theorem zd3(hu:X.A.units<cLine):OpR X (compareOp .Eq) (uEq false):=(zuL.or (zjW hu)).weak λx y H Q h=>by
 rcases h with h|⟨a,b,xs,ys,e1,e2,h1,h2,r⟩
 ·exact .inl ⟨h.1,by simpa using h.2⟩
 ·exact .inr ⟨a,b,xs,ys,e1,e2,SqL.of h1,SqL.of h2,r⟩
theorem zdI(hu:X.A.units<cLine):OpR X (compareOp .NotEq) (uEq true):=(zu5.or (zjT hu)).weak λx y H Q h=>by
 rcases h with h|⟨a,b,xs,ys,e1,e2,h1,h2,r⟩
 ·exact .inl ⟨h.1,by simpa using h.2⟩
 ·exact .inr ⟨a,b,xs,ys,e1,e2,SqL.of h1,SqL.of h2,r⟩
def zfT(K:PySem.W.Frag)(ta:TE):TT:=λσ H Q=>ta σ H λx H'=>∃k,zb7 K x H' k/\Q k H'
theorem zot{a:Expr}{ta:TE}(ha:PE X a ta)(he:∀whole,isTrue a X.env whole=(do let v<-whole;standAt a.pos;holding [v] (truthy v)):=by intro _;rfl):PT X a (zfT X.K ta):=zus ha he
def zfm(C:Addr)(ta:TE)(f:Str):TE:=λσ H Q=>ta σ H λx H1=>∃a dx fs v,x = .ref a/\H1 a=some (.ins C dx fs)/\fs.lookup f=some v/\Q v H1
theorem znE{C:Addr}{e:Expr}{ta:TE}{f:Str}{pos:Pos}(c:Cls X.K C)(n:zaT X.K C f)(he:PE X e ta)(hb:attributeBase e f X.env (eval e X.env)=eval e X.env:=by rfl):PE X (.Attribute e f pos) (zfm C ta f):=by
 intro Ga s σ H Q I h
 refine zs1 hb (thn (he Ga s σ H _ I h) λu s1 ⟨x,H1,I1,rx,a,dx,fs,v,ex,ea,l,q⟩=>?_)
 subst ex
 obtain rfl:u=Value.ref a:=rx
 exact zmw I1 ea c n l λu' s2 I2 ru=>⟨v,H1,I2,ru,q⟩
def zeI(C:Addr)(ta tv:TE)(f:Str):TS:=λD σ H=>tv σ H λy H1=>ta σ H1 λx H2=>∃a dx fs,x = .ref a/\H2 a=some (.ins C dx fs)/\fs.length<1000/\D.nx σ (upd H2 a (.ins C dx (zN f y fs)))
theorem zuI{C:Addr}{o value:Expr}{ta tv:TE}{f:Str}{pos pos':Pos}(c:Cls X.K C)(n:zaT X.K C f)(ha:PE X o ta)(hv:PE X value tv)(hs:swapsWith value (some (.Attribute o f pos')) pos.line X.env=pure false:=by rfl):PS X (.Assign [.Attribute o f pos'] value pos) (zeI C ta tv f):=by
 intro Ga s σ H D I h
 refine plainObj_wpAny_Assign_Attribute (thn (hv Ga s σ H _ I h) λu s1 ⟨y,H1,I1,ry,q⟩=>thn (ha Ga s1 σ H1 _ I1 q) λov s2 ⟨x,H2,I2,rx,a,dx,fs,ex,ea,l,q2⟩=>?_) hs
 subst ex
 obtain rfl:ov=Value.ref a:=rx
 exact zkJ I2 ea c n l ry λs3 I3=>⟨σ,_,I3,q2⟩
structure GF(P:Program)(w:World)(K:PySem.W.Frag)(mg:Str->Option Value)(base:Heap)(cm:Bool)(k:Nat)(x:Str)(ps:List Str)(sp:Sp):Prop where
 ex:∃(f:Addr)(fd:FuncData),zr P w K mg base CX0 cm k f fd ps sp/\mg x=some (.ref f)/\keepIn K (.ref f)=true/\zaS K fd ps []
structure GM(P:Program)(w:World)(K:PySem.W.Frag)(mg:Str->Option Value)(base:Heap)(cm:Bool)(k:Nat)(C:Addr)(m:Str)(ps:List Str)(sp:Sp):Prop where
 ex:∃(f:Addr)(fd:FuncData),zr P w K mg base CX0 cm k f fd ps sp/\zdC K C m f/\zaS K fd ps []
structure GC(P:Program)(w:World)(K:PySem.W.Frag)(mg:Str->Option Value)(base:Heap)(cm:Bool)(k:Nat)(x:Str)(C:Addr)(ps:List Str)(sp:Sp):Prop where
 ex:∃(f:Addr)(fd:FuncData),zr P w K mg base CX0 cm k f fd ps sp/\mg x=some (.ref C)/\Mk K C f/\zaS K fd ps []
variable {cm:Bool}{k j:Nat}{x m:Str}{C:Addr}{ps:List Str}{sp:Sp}{e o:Expr}{es:List Expr}{t:TA}{ta:TE}{p pos apos:Pos}{Ex:Addr->St->Hp->Prop}
theorem zqc(G:GF X.prog X.w X.K X.mg X.base cm j x ps sp)(hr:zJ cm k X.A)(hg:Gl X x)(ha:PA X (e::es) t)(hj:j<=k:=by decide)(hdb:(x==("__debug__":Str))=false:=by decide)(hp:zap e=true:=by rfl)(hps:zaY es=true:=by rfl) :
  PE X (.Call (.Name x p) (e::es) [] pos) (zb9 sp [] E0 t):=by
 obtain ⟨f,fd,F,hm,hk,hb⟩:=G.ex
 exact zlp F (hr.mono hj) hg hm hk hb .nil zcF ha hdb (zbL hp) (zdM hps)
theorem zuf{pl:Sem Bool}(he:PE X o ta)(c:Cls X.K C)(G:GM X.prog X.w X.K X.mg X.base cm j C m ps sp)(hr:zJ cm k X.A)(ha:PA X (e::es) t)(hj:j<=k:=by decide)
  (hp:zap e=true:=by rfl) (hps:zaY es=true:=by rfl)
  (ht:eval (.Call (.Attribute o m apos) (e::es) [] pos) X.env=(do
   let ov<-eval o X.env
   standAt apos.atName
   let (f,first)<-holding [ov] (getMethod ov m pl)
   callWith pos f first (backTo pos (starEach (e::es) X.env)) (backToKw pos (keywordEach [] X.env))):=by rfl) :
  PE X (.Call (.Attribute o m apos) (e::es) [] pos) (zbR C m sp [] E0 ta t):=by
 obtain ⟨f,fd,F,hm,hb⟩:=G.ex
 exact ztC he c hm F (hr.mono hj) hb .nil zcF ha (zbL hp) (zdM hps) ht
theorem zqy{pl:Sem Bool}(he:PE X o ta)(c:Cls X.K C)(G:GM X.prog X.w X.K X.mg X.base cm j C m ps sp)(hr:zJ cm k X.A)(hj:j<=k:=by decide)
  (ht:eval (.Call (.Attribute o m apos) [] [] pos) X.env=(do
   let ov<-eval o X.env
   standAt apos.atName
   let (f,first)<-holding [ov] (getMethod ov m pl)
   callWith pos f first (backTo pos (starEach [] X.env)) (backToKw pos (keywordEach [] X.env))):=by rfl) :
  PE X (.Call (.Attribute o m apos) [] [] pos) (zbR C m sp [] E0 ta zaX):=by
 obtain ⟨f,fd,F,hm,hb⟩:=G.ex
 exact zsq he c hm F (hr.mono hj) hb .nil zcF ht
structure zd8(H:Hp)(C x dx:Addr)(H':Hp):Prop where
 no:H x=none
 nod:H dx=none
 ne:dx≠x
 at_:H' x=some (.ins C dx [])
 own:H' dx=some (.own x)
 same:zf H H'
theorem zd8.mk'{H:Hp}{C x dx:Addr}(h:H x=none)(hd:H dx=none)(ne:dx≠x):zd8 H C x dx (upd (upd H dx (.own x)) x (.ins C dx [])) :=
 ⟨h,hd,ne,zp,by rw [ze ne,zp],λb u e=>by rw [ze (zD e h),ze (zD e hd)];exact e⟩
def zdW(C:Addr)(sp:Sp)(t:TA):TE:=λσ H Q=>t σ H λvs H1=>∀x dx H2,zd8 H1 C x dx H2->sp (.ref x::vs) H2 (λv H3=>v = .non/\Q (.ref x) H3) E0
def ztb(C:Addr)(sp:Sp)(Ex:Addr->St->Hp->Prop)(t:TA):TE:=λσ H Q=>t σ H λvs H1=>∀x dx H2,zd8 H1 C x dx H2->sp (.ref x::vs) H2 (λv H3=>v = .non/\Q (.ref x) H3) (XE Ex σ)
theorem PA.any{es:List Expr}{t:TA}(h:PA X es t):PA X es (λσ H Q=>∃R:List V->Hp->Prop,t σ H R/\∀xs H,R xs H->Q xs H):=λpos Ga s σ H Q I ⟨R,q,hw⟩=>zhR hw h pos Ga s σ H I q
theorem zoI(G:GC X.prog X.w X.K X.mg X.base cm j x C ps sp)(hr:zJ cm k X.A)(hg:Gl X x)(ha:PA X (e::es) t)(hj:j+1<=k:=by decide)(hdb:(x==("__debug__":Str))=false:=by decide)(hp:zap e=true:=by rfl)(hps:zaY es=true:=by rfl) :
  PE X (.Call (.Name x p) (e::es) [] pos) (zdW C sp t):=by
 obtain ⟨f,fd,F,hm,M,hb⟩:=G.ex
 intro Ga s σ H Q I h
 exact zmK M F (hr.mono hj) hg hm hb .nil zcF ha.any hdb (zbL hp) (zdM hps) Ga s σ H Q I ⟨_,h,λvs H1 q x dx hx hd ne=>by rw [append_nil];exact q x dx _ (.mk' hx hd ne)⟩
theorem zpk{o e:Expr}{to te:TE}{apos cpos:Pos}(ho:PE X o to)(he:PE X e te)
  (hbase:attributeBase o "append" X.env (eval o X.env)=eval o X.env:=by rfl)
  (hline:(apos.endLine==cpos.line)=true:=by rfl) (hp:zap e=true:=by rfl):PE X (.Call (.Attribute o "append" apos) [e] [] cpos) (zg9 to te):=by
 intro Ga s σ H Q I h
 have hs:starEach [e] X.env=[(false,eval e X.env)]:=zhj hp
 refine wpAny_Call_method_late hbase (by rw [hs];rfl) hline rfl (thn (ho Ga s σ H _ I h) λv s1 ⟨x,H1,I1,r1,l,ex,⟨xs,hx⟩,q1⟩=>?_)
 subst ex
 obtain ⟨h1,h2⟩:=zgz (T:="list") I1 r1 (.inl ⟨rfl,xs,SqL.of hx⟩)
 refine ⟨"list","list.append",plainAttrs_list,PySem.F.slot_list_append,PySem.F.type_list_append,h1,h2,?_⟩
 rw [hs]
 refine Calls.callWith_builtin rfl (Calls.evalArgs_plain ?_)
 have hA:=zeM he zfi (hs:=hs) cpos Ga s1 σ H1 (λys H2=>match ys with|[y]=>∃xs,H2 l=some (.lst xs)/\xs.length<sizeLine/\Q .non (upd H2 l (.lst (xs++[y])))|_=>False) I1 q1
 rw [hs] at hA
 refine thn hA λus s2 ⟨vs,H2,I2,r2,q2⟩=>?_
 match vs,q2,r2 with
 | [y],⟨xs2,hx2,hl2,q2⟩,r2=>exact zmr Ga s2 σ H2 (.ref l) [y] v us Q I2 r1 r2 ⟨l,xs2,y,rfl,rfl,hx2,hl2,q2⟩
end
section
variable {X:Cx}
def zbQ:List V->Hp->VK->Prop:=λxs H Q=>(∃i,xs=[.int i]/\Q (.int i) H)\/∃k,xs=[.bl k]/\Q (.int (if k then 1 else 0)) H
def zcA:List V->Hp->VK->Prop:=λxs H Q=>∃i,xs=[.int i]/\i.natAbs.log2<1920/\Q (.str (toString i)) H
theorem zrJ{i:Int}{H:Hp}{Q:VK}:zbQ [.int i] H Q=Q (.int i) H:=by simp [zbQ]
theorem zp0{k:Bool}{H:Hp}{Q:VK}:zbQ [.bl k] H Q=Q (.int (if k then 1 else 0)) H:=by simp [zbQ]
theorem ztK{i:Int}{H:Hp}{Q:VK}:zcA [.int i] H Q=(i.natAbs.log2<1920/\Q (.str (toString i)) H):=by simp [zcA]
def zg8:List V->Hp->VK->Prop:=λxs H Q=>∃i j,xs=[.int i,.int j]/\Q (.int (if j>i then j else i)) H
def zi5:List V->Hp->VK->Prop:=λxs H Q=>∃i j,xs=[.int i,.int j]/\Q (.int (if j<i then j else i)) H
theorem zrG(hc:X.calm=true):zL X (.builtin "max") zg8:=zsL hc
theorem zk7(hc:X.calm=true):zL X (.builtin "min") zi5:=zpK hc
theorem zgd{i j:Int}{H:Hp}{Q:VK}:zg8 [.int i,.int j] H Q=Q (.int (if j>i then j else i)) H:=by
 apply propext;constructor
 ·rintro ⟨a,b,e,q⟩;cases e;exact q
 ·exact λq=>⟨i,j,rfl,q⟩
theorem znw{i j:Int}{H:Hp}{Q:VK}:zi5 [.int i,.int j] H Q=Q (.int (if j<i then j else i)) H:=by
 apply propext;constructor
 ·rintro ⟨a,b,e,q⟩;cases e;exact q
 ·exact λq=>⟨i,j,rfl,q⟩
end
section
variable {Y:Cx}{sc:Scope}{N':List Str}{Ga:List (Addr×Obj)}{D:Addr}{fp:List Addr}{s:Shared}{H:Hp}
theorem zmM{pos:Pos}{es:List Expr}{k:Nat}{t:TGs}{n:Nat}(h:PGs (zo Y sc N' Ga D fp s H) es t)(hl:(assignEach es (zo Y sc N' Ga D fp s H).env).length=n:=by rfl)(hst:(assignEach es (zo Y sc N' Ga D fp s H).env).findIdx? (·.1)=none:=by rfl):PG (zo Y sc N' Ga D fp s H) (.Tuple es k pos) (zgK Y.K n t):=ziA h hl hst
end
theorem zmc{t:TG}{u:TGs}{v:V}{r:List V}{σ:St}{H:Hp}{Q:St->Hp->Prop}:zcX t u (v::r) σ H Q=t v σ H λσ' H'=>u r σ' H' Q:=by
 apply propext;constructor
 ·rintro ⟨v,r,e,h⟩;cases e;exact h
 ·exact λh=>⟨v,r,rfl,h⟩
theorem zpC{σ:St}{H:Hp}{Q:St->Hp->Prop}:zeV [] σ H Q=Q σ H:=by
 apply propext;constructor
 ·exact λh=>h.2
 ·exact λh=>⟨rfl,h⟩
section
variable {H:Hp}{Q:VK}{i j:Int}{x y:Str}{a b:Addr}{K:PySem.W.Frag}{g:Int->Int->V}{C:Int->Int->Prop}{k c:Bool}{QB:Bool->Hp->Prop}
theorem zqo:zbd (.int i) (.int j) H Q=Q (.int (i+j)) H:=by simp [zbd]
theorem znv:zbd (.str x) (.str y) H Q=(x.length+y.length<=sizeLine/\Q (.str (x++y)) H):=by simp [zbd]
theorem zho:zbd (.ref a) (.ref b) H Q = ∃xs zs,H a=some (.lst xs)/\H b=some (.lst zs)/\xs.length+zs.length<=sizeLine/\∀p H2,New H p (.lst (xs++zs)) H2->Q (.ref p) H2:=by simp [zbd]
theorem zi8:zbK (.int i) (.int j) H Q=(zdr i j/\Q (.int (i*j)) H):=by simp [zbK]
theorem zoG:zbK (.ref a) (.int i) H Q = ∃xs,H a=some (.lst xs)/\-(2 ^ 63)<=i/\i<2 ^ 63/\xs.length*i.toNat<=sizeLine/\∀p H2,New H p (.lst (replicate i.toNat xs).flatten) H2->Q (.ref p) H2:=by simp [zbK]
theorem zfb:uIx (.ref a) (.int i) H Q = ∃xs,(H a=some (.lst xs)\/H a=some (.tup xs))/\∃v,atI xs i=some v/\Q v H:=by
 apply propext;constructor
 ·rintro (⟨p,xs,i,v,e1,e2,h,r⟩|⟨p,xs,i,v,e1,e2,h,r⟩|⟨z,i,c,e,_⟩)
  ·cases e1;cases e2;exact ⟨xs,.inl h,v,r⟩
  ·cases e1;cases e2;exact ⟨xs,.inr h,v,r⟩
  ·cases e
 ·rintro ⟨xs,h|h,v,r⟩
  ·exact .inl ⟨_,xs,_,v,rfl,rfl,h,r⟩
  ·exact .inr (.inl ⟨_,xs,_,v,rfl,rfl,h,r⟩)
theorem zhp:uIx (.str x) (.int i) H Q=(x.length<=sizeLine/\∃c,atI x.cps.toList i=some c/\Q (.str ⟨#[c]⟩) H):=by simp [uIx]
theorem zgD:zdU [.ref a] H Q = ∃ys,(H a=some (.lst ys)\/H a=some (.tup ys))/\Q (.int ys.length) H:=by
 apply propext;constructor
 ·rintro (⟨p,xs,e1,h,r⟩|⟨p,xs,e1,h,r⟩|⟨z,e,_⟩)
  ·cases e1;exact ⟨xs,.inl h,r⟩
  ·cases e1;exact ⟨xs,.inr h,r⟩
  ·cases e
 ·rintro ⟨xs,h|h,r⟩
  ·exact .inl ⟨_,xs,rfl,h,r⟩
  ·exact .inr (.inl ⟨_,xs,rfl,h,r⟩)
theorem zjt:zdU [.str x] H Q=(x.length<=sizeLine/\Q (.int x.length) H):=by simp [zdU]
theorem zoS:rI C g (.int i) (.int j) H Q=(C i j/\Q (g i j) H):=by simp [rI]
theorem zow:rI0 g (.int i) (.int j) H Q=Q (g i j) H:=by simp [rI0]
theorem zq7{g:Int->V}:rU g (.int i) H Q=Q (g i) H:=by simp [rU]
theorem zmf:uEq c (.int i) (.int j) H Q=Q (.bl (if c then !decide (i=j) else decide (i=j))) H:=by simp [uEq,zbr]
theorem zpW:uEq c (.str x) (.str y) H Q=Q (.bl (if c then !decide (x=y) else decide (x=y))) H:=by simp [uEq,zbr]
theorem zpc:uEq c (.bl k) (.bl k') H Q=Q (.bl (if c then !decide (k=k') else decide (k=k'))) H:=by simp [uEq,zbr]
theorem zdN:uEq c (.ref a) (.ref b) H Q = ∃xs ys,H a=some (.lst xs)/\H b=some (.lst ys)/\xs.all zF=true/\ys.all zF=true/\Q (.bl (if c then !eqL xs ys else eqL xs ys)) H:=by simp [uEq,zbr]
def zb8(K:PySem.W.Frag)(v:V)(H:Hp)(Q:Bool->Hp->Prop):Prop:=∃k,zb7 K v H k/\Q k H
theorem zs8:zb8 K (.bl k) H QB=QB k H:=by simp [zb8,zb7]
theorem zpo:zb8 K .non H QB=QB false H:=by simp [zb8,zb7]
theorem zpV:zb8 K (.int i) H QB=QB (i != 0) H:=by simp [zb8,zb7]
theorem zq2{ta:TE}{σ:St}:zfT K ta σ H QB=ta σ H λx H'=>zb8 K x H' QB:=rfl
def uB(v:V)(q:Bool->Prop):Prop:=∃c,v = .bl c/\q c
theorem zso{q:Bool->Prop}:uB (.bl k) q=q k:=by simp [uB]
theorem zu1{t:TE}{σ:St}:tB t σ H QB=t σ H λx H1=>uB x λc=>QB c H1:=rfl
theorem zlY{t:TE}{σ:St}:zhd t σ H QB=t σ H λx H1=>uB x λc=>QB c H1:=rfl
theorem zlS{t u:TE}{σ:St}:zfD t u σ H Q=t σ H λx H1=>uB x λc=>if c=true then u σ H1 Q else Q (.bl false) H1:=rfl
theorem zpL{t u:TE}{σ:St}:zqU t u σ H Q=t σ H λx H1=>uB x λc=>if c=true then Q (.bl true) H1 else u σ H1 Q:=rfl
theorem znz{t:TE}{σ:St}:zgQ t σ H Q=t σ H λx H1=>uB x λc=>Q (.bl (!c)) H1:=rfl
theorem zn5{r r':R2}{ta tb tc:TE}{σ:St}:zgF r r' ta tb tc σ H Q=ta σ H λx H1=>tb σ H1 λy H2=>r x y H2 λz H3=>uB z λk=>if k=true then tc σ H3 λw' H4=>r' y w' H4 Q else Q (.bl false) H3:=rfl
theorem zjJ{q:Addr->Prop}:uR (.ref a) q=q a:=by simp [uR]
theorem zsd{C:Addr}{ta:TE}{f:Str}{σ:St}:zfm C ta f σ H Q=ta σ H λx H1=>uR x λa=>∃dx fs v,H1 a=some (.ins C dx fs)/\fs.lookup f=some v/\Q v H1:=by
 unfold zfm uR
 congr;funext x H1
 apply propext
 constructor
 ·rintro ⟨a,dx,fs,v,h1,h2,h3,h4⟩;exact ⟨a,h1,dx,fs,v,h2,h3,h4⟩
 ·rintro ⟨a,h1,dx,fs,v,h2,h3,h4⟩;exact ⟨a,dx,fs,v,h1,h2,h3,h4⟩
theorem ztx{C:Addr}{ta tv:TE}{f:Str}{σ:St}{D:zah}:zeI C ta tv f D σ H=tv σ H λy H1=>ta σ H1 λx H2=>uR x λa=>∃dx fs,H2 a=some (.ins C dx fs)/\fs.length<1000/\D.nx σ (upd H2 a (.ins C dx (zN f y fs))):=by
 unfold zeI uR
 congr;funext x H1;congr;funext x2 H2
 apply propext
 constructor
 ·rintro ⟨a,dx,fs,h1,h2,h3,h4⟩;exact ⟨a,h1,dx,fs,h2,h3,h4⟩
 ·rintro ⟨a,h1,dx,fs,h2,h3,h4⟩;exact ⟨a,dx,fs,h1,h2,h3,h4⟩
theorem zto{C:Addr}{m:Str}{sp:Sp}{dvs:List V}{E:XK}{ta:TE}{t:TA}{σ:St}:zbR C m sp dvs E ta t σ H Q=ta σ H λx H1=>uR x λa=>∃dx fs,H1 a=some (.ins C dx fs)/\fs.lookup m=none/\t σ H1 λvs H2=>sp (.ref a::(vs++dvs)) H2 Q E:=by
 unfold zbR uR
 congr;funext x H1
 apply propext
 constructor
 ·rintro ⟨a,dx,fs,rfl,h2,h3,h4⟩;exact ⟨a,rfl,dx,fs,h2,h3,h4⟩
 ·rintro ⟨a,rfl,dx,fs,h2,h3,h4⟩;exact ⟨a,dx,fs,rfl,h2,h3,h4⟩
theorem zkK{C:Addr}{m:Str}{sp:Sp}{dvs:List V}{Ex:Addr->St->Hp->Prop}{ta:TE}{t:TA}{σ:St}:zjC C m sp dvs Ex ta t σ H Q=ta σ H λx H1=>uR x λa=>∃dx fs,H1 a=some (.ins C dx fs)/\fs.lookup m=none/\t σ H1 λvs H2=>sp (.ref a::(vs++dvs)) H2 Q (XE Ex σ):=by
 unfold zjC uR
 congr;funext x H1
 apply propext
 constructor
 ·rintro ⟨a,dx,fs,rfl,h2,h3,h4⟩;exact ⟨a,rfl,dx,fs,h2,h3,h4⟩
 ·rintro ⟨a,rfl,dx,fs,h2,h3,h4⟩;exact ⟨a,dx,fs,rfl,h2,h3,h4⟩
end
section
variable {K:PySem.W.Frag}{g:TG}{tb:TS}{D:zah}{σ:St}{H:Hp}{ta:TA}{tl:TE}{wi:TI}{R:It->Hp->Prop}{j:Int}{tt:TT}{te:TE}{ix:List (Option Nat)}{Q:VK}
def zan(J:It)(g:TG)(tb:TS)(D:zah)(σ:St)(H:Hp):Prop:=∃W:Nat->Nat->St->Hp->Prop,(∃m,W 0 m σ H)/\∀i m σ H,W i m σ H ->
 (J.stop i H/\D.nx σ H)\/(J.go i H/\∃N:St->Hp->Prop,(∀σ' H',N σ' H'->∃m',m'<m/\W (i+1) m' σ' H')/\∀x H',J.yld i H x H'->g x σ H' λσ2 H2=>tb { D with nx:=N,ct:=N,bk:=D.nx } σ2 H2)
theorem zoY:zgJ wi g tb D σ H=wi σ H λJ H1=>zan J g tb D σ H1:=rfl
def uI1(vs:List V)(q:Int->Prop):Prop:=∃j,vs=[.int j]/\q j
theorem zrQ{q:Int->Prop}:uI1 [.int j] q=q j:=by simp [uI1]
theorem zlB:zes ta σ H R=ta σ H λvs H1=>uI1 vs λj=>-(2 ^ 62)<=j/\j<2 ^ 62/\R (Itr 0 j.toNat) H1:=rfl
theorem zkE:zfR K tl σ H R=tl σ H λx H1=>uR x λa=>(∃xs,SqL K H1 a xs)/\R (Itl K a) H1:=rfl
theorem zmC:zeg K tl σ H R=tl σ H λx H1=>uR x λa=>(∃xs,SqT K H1 a xs)/\R (Itt K a) H1:=rfl
def uR2(vs:List V)(q:Addr->Addr->Prop):Prop:=∃a b,vs=[.ref a,.ref b]/\q a b
theorem zpE{q:Addr->Addr->Prop}{a b:Addr}:uR2 [.ref a,.ref b] q=q a b:=by
 apply propext
 constructor
 ·rintro ⟨c,d,e,h⟩;cases e;exact h
 ·exact λh=>⟨a,b,rfl,h⟩
theorem zpf:ziS K ta σ H R=ta σ H λvs H1=>uR2 vs λa b=>(∃xs,SqL K H1 a xs)/\(∃ys,SqL K H1 b ys)/\R (Itz K a b) H1:=by
 unfold ziS uR2
 rfl
def zak(J:It)(g:TG)(tt:TT)(te:TE)(τ:St)(H:Hp)(Q:VK):Prop:=∃W:Nat->Nat->St->List V->Hp->Prop,(∃m,W 0 m τ [] H)/\∀i m τ ys H2,W i m τ ys H2->ys.length<sizeLine /\
 ((J.stop i H2 ∧ ∀ D, H2 D = none → D ≠ sysModules → Q (.ref D) (upd H2 D (.lst ys))) ∨
  (J.go i H2 ∧ ∀ x H3, J.yld i H2 x H3 → g x τ H3 fun τ1 H4 => tt τ1 H4 fun ok H5 => if ok = true then te τ1 H5 fun y H6 => ∃ m', m' < m ∧ W (i + 1) m' τ1 (ys ++ [y]) H6 else ∃ m', m' < m ∧ W (i + 1) m' τ1 ys H5))
theorem ztO:tLC ix wi g tt te σ H Q=wi σ H λJ H1=>zak J g tt te (zaG ix σ) H1 Q:=rfl
theorem zan.rng{lo:Int}{n:Nat}(Pv:Nat->St->Hp->Prop)(h0:Pv 0 σ H)
  (hs:∀i σ H,i<n->Pv i σ H->g (.int (lo+i)) σ H λσ2 H2=>tb { D with nx:=Pv (i+1),ct:=Pv (i+1),bk:=D.nx } σ2 H2) (hd:∀σ H,Pv n σ H->D.nx σ H):zan (Itr lo n) g tb D σ H:=ztE Pv h0 hs hd
theorem zan.lst{a:Addr}{xs:List V}(Pv:Nat->St->Hp->Prop)(h0:Pv 0 σ H)(hl:∀i σ H,i<=xs.length->Pv i σ H->SqL K H a xs)
  (hs:∀i x σ H,xs[i]?=some x->Pv i σ H->g x σ H λσ2 H2=>tb { D with nx:=Pv (i+1),ct:=Pv (i+1),bk:=D.nx } σ2 H2) (hd:∀σ H,Pv xs.length σ H->D.nx σ H):zan (Itl K a) g tb D σ H:=zmu Pv h0 hl hs hd
def zbO(N:St->List V->Hp->Prop)(ys:List V)(τ1:St)(te:TE)(ok:Bool)(H5:Hp):Prop:=if ok=true then te τ1 H5 λy H6=>N τ1 (ys++[y]) H6 else N τ1 ys H5
theorem zlu{N:St->List V->Hp->Prop}{ys:List V}{τ:St}:zbO N ys τ te true H=te τ H λy H6=>N τ (ys++[y]) H6:=rfl
theorem zt1{N:St->List V->Hp->Prop}{ys:List V}{τ:St}:zbO N ys τ te false H=N τ ys H:=rfl
theorem zak.rng{lo:Int}{n:Nat}{τ:St}(Pv:Nat->St->List V->Hp->Prop)(hz:∀i τ ys H,Pv i τ ys H->ys.length<sizeLine)(h0:Pv 0 τ [] H)
  (hs:∀(N:St->List V->Hp->Prop) i τ ys H,i<n->Pv i τ ys H->(∀τ ys H,Pv (i+1) τ ys H->N τ ys H)->g (.int (lo+i)) τ H λτ1 H4=>tt τ1 H4 λok H5=>zbO N ys τ1 te ok H5) (hd:∀τ ys H,Pv n τ ys H->∀D H',New H D (.lst ys) H'->Q (.ref D) H'):zak (Itr lo n) g tt te τ H Q:=by
 refine ⟨λi m τ ys H=>m=n-i/\i<=n/\Pv i τ ys H,⟨n,by simp,zero_le _,h0⟩,?_⟩
 rintro i m τ ys H2 ⟨rfl,hi,p⟩
 refine ⟨hz i τ ys H2 p,?_⟩
 by_cases hlt:i<n
 ·refine .inr ⟨hlt,λx H' y=>?_⟩
  obtain ⟨e,y⟩:=y
  subst e y
  exact hs (λτ1 ys H=>∃m',m'<n-i/\m'=n-(i+1)/\i+1<=n/\Pv (i+1) τ1 ys H) i τ ys _ hlt p λτ1 zs H q=>⟨n-(i+1),by omega,rfl,hlt,q⟩
 ·have e:i=n:=by omega
  subst e
  exact .inl ⟨le_refl _,λD hD _=>hd τ ys H2 p D _ (.mk' hD)⟩
theorem zak.zip{a b:Addr}{xs ys:List V}{τ:St}(hlen:xs.length=ys.length)(Pv:Nat->St->List V->Hp->Prop)(hz:∀i τ zs H,Pv i τ zs H->zs.length<sizeLine)(ha:∀i τ zs H,Pv i τ zs H->SqL K H a xs/\SqL K H b ys)(h0:Pv 0 τ [] H)
  (hs:∀(N:St->List V->Hp->Prop) i x y p τ zs H,xs[i]?=some x->ys[i]?=some y->Pv i τ zs H->H p=none->(∀τ zs H,Pv (i+1) τ zs H->N τ zs H)->g (.ref p) τ (upd H p (.tup [x,y])) λτ1 H4=>tt τ1 H4 λok H5=>zbO N zs τ1 te ok H5) (hd:∀τ zs H,Pv xs.length τ zs H->∀D H',New H D (.lst zs) H'->Q (.ref D) H'):zak (Itz K a b) g tt te τ H Q:=by
 refine ⟨λi m τ zs H=>m=xs.length-i/\i<=xs.length/\Pv i τ zs H,⟨xs.length,by simp,zero_le _,h0⟩,?_⟩
 rintro i m τ zs H2 ⟨rfl,hi,p⟩
 refine ⟨hz i τ zs H2 p,?_⟩
 obtain ⟨qa,qb⟩:=ha i τ zs H2 p
 by_cases hlt:i<xs.length
 ·refine .inr ⟨⟨xs,ys,xs[i],ys[i]'(by omega),qa,qb,List.getElem?_eq_getElem hlt,List.getElem?_eq_getElem _⟩,λv H' y=>?_⟩
  obtain ⟨T,x,y,hT,rfl,rfl,hx,hy⟩:=y
  exact hs (λτ1 ys H=>∃m',m'<xs.length-i/\m'=xs.length-(i+1)/\i+1<=xs.length/\Pv (i+1) τ1 ys H) i x y T τ zs _ (hx _ qa) (hy _ qb) p hT λτ1 zs H q=>⟨xs.length-(i+1),by omega,rfl,hlt,q⟩
 ·have e:i=xs.length:=by omega
  subst e
  exact .inl ⟨⟨xs,ys,qa,qb,le_refl _⟩,λD hD _=>hd τ zs H2 p D _ (.mk' hD)⟩
end
section
variable {X:Cx}
def zeJ:V->Option Int->Option Int->Hp->VK->Prop:=λx lo hi H Q=>∃z,x = .str z/\z.length<=sizeLine/\Q (.str (Txt.slice z lo hi)) H
theorem zp7{h:Heap}{sl:Addr}{vl vu:Value}{lo hi:Option Int}(hs:h.IsSliceOf sl vl vu .none)(pl:IsPart vl lo)(pu:IsPart vu hi):∃l u:Option (Int×Tok),h.IsSlice sl l u none/\l.map (·.1)=lo/\u.map (·.1)=hi:=by
 obtain ⟨o,h1,h2,h3⟩:=hs
 cases pl with
 | none =>
  cases pu with
  | none=>exact ⟨none,none,⟨o,h1,h2,h3⟩,rfl,rfl⟩
  | int j t=>exact ⟨none,some (j,t),⟨o,h1,h2,h3⟩,rfl,rfl⟩
 | int i t' =>
  cases pu with
  | none=>exact ⟨some (i,t'),none,⟨o,h1,h2,h3⟩,rfl,rfl⟩
  | int j t=>exact ⟨some (i,t'),some (j,t),⟨o,h1,h2,h3⟩,rfl,rfl⟩
theorem znL:SlR X zeJ:=by
 intro Ga s σ H x v vl vu lo hi sl Q I rx hs pl pu h
 obtain ⟨z,rfl,hz,q⟩:=h
 obtain ⟨t,rfl⟩:=rx
 obtain ⟨l,u,hS,e1,e2⟩:=zp7 hs pl pu
 subst e1 e2
 exact ⟨"str",_,F.slot_str_getitem.lookup,typeIs_str _ _ _,wpAny_getItem_str_slice (l:=l) (u:=u) (st:=none) hS rfl
  (post_val_or_str ⟨le_trans (Txt.slice_le z _ _) hz,λt' k=>⟨.str _,H,I.tok k,⟨_,rfl⟩,q⟩⟩)⟩
def uSl:V->Option Int->Option Int->Hp->VK->Prop:=λx lo hi H Q=>(∃a xs,x = .ref a/\H a=some (.lst xs)/\∀p H2,New H p (.lst (zaq xs lo hi)) H2->Q (.ref p) H2)\/zeJ x lo hi H Q
theorem SlR.weak{r r':V->Option Int->Option Int->Hp->VK->Prop}(h:SlR X r)(hw:∀x l u H Q,r' x l u H Q->r x l u H Q):SlR X r' :=
 λGa s σ H x v vl vu lo hi sl Q I rx hs pl pu q=>h Ga s σ H x v vl vu lo hi sl Q I rx hs pl pu (hw _ _ _ _ _ q)
theorem zey:SlR X uSl:=((zmm (X:=X)).or znL).weak λx l u H Q h=>by
 rcases h with ⟨a,xs,e,h,q⟩|h
 ·exact .inl ⟨a,xs,e,SqL.of h,λp hp=>q p _ (.mk' hp)⟩
 ·exact .inr h
def zgq(v:V)(q:Int->Prop):Prop:=∃i,v = .int i/\q i
theorem zqu{i:Int}{q:Int->Prop}:zgq (.int i) q=q i:=by simp [zgq]
theorem zud{t:TE}{σ:St}{H:Hp}{Q:Option Int->Hp->Prop}:zhv t σ H Q=t σ H λx H1=>zgq x λi=>Q (some i) H1:=rfl
theorem ziE{z:Str}{lo hi:Option Int}{H:Hp}{Q:VK}:uSl (.str z) lo hi H Q=(z.length<=sizeLine/\Q (.str (Txt.slice z lo hi)) H):=by simp [uSl,zeJ]
theorem zi6{a:Addr}{lo hi:Option Int}{H:Hp}{Q:VK}:uSl (.ref a) lo hi H Q = ∃xs,H a=some (.lst xs)/\∀p H2,New H p (.lst (zaq xs lo hi)) H2->Q (.ref p) H2:=by simp [uSl,zeJ]
def zhN:V->List V->Hp->VK->Prop:=λx vs H Q=>∃z p ys,x = .str z/\vs=[.ref p]/\H p=some (.lst (ys.map V.str))/\(ys.map (·.length)).sum+ys.length*z.length<=16777216/\Q (.str (Txt.join z ys)) H
def zed(z:Str)(n:Nat):Str:=⟨((replicate n z.cps.toList).flatten).toArray⟩
theorem zky{α:Type}(l:List α):∀(n:Nat)(acc:List α),foldl (λx1 x2:Array α=>x1++x2) acc.toArray (replicate n l.toArray)=(acc++(replicate n l).flatten).toArray
 | 0,acc=>by simp
 | n+1,acc=>by
  rw [replicate_succ,List.foldl_cons,List.append_toArray,zky l n (acc++l)]
  simp [replicate_succ]
theorem zsR(z:Str)(n:Nat):(⟨(replicate n z.cps).foldl (·++·) #[]⟩:Str)=zed z n:=by
 have h:=zky z.cps.toList n []
 unfold zed
 congr 1
theorem zjL{α:Type}(l:List α):∀n:Nat,((replicate n l).flatten).length=l.length*n
 | 0=>by simp
 | n+1=>by rw [replicate_succ,flatten_cons,length_append,zjL l n,Nat.mul_succ];omega
theorem zr6(z:Str)(n:Nat):(zed z n).length=z.length*n:=by
 show (((replicate n z.cps.toList).flatten).toArray).size=_
 rw [size_toArray,zjL]
 rfl
def zdw:R2:=λx y H Q=>∃z n,x = .str z/\y = .int n/\1<n/\n<2 ^ 31/\z.length≠0/\z.length*n.toNat<=sizeLine/\Q (.str (zed z n.toNat)) H
theorem zk4:OpR X (binaryOp .Mult) zdw:=by
 intro Ga s σ H x y v u Q I rx ry h
 obtain ⟨z,n,rfl,rfl,h1,h2,h3,h4,q⟩:=h
 obtain ⟨t,rfl⟩:=rx
 obtain ⟨t',rfl⟩:=ry
 have hs:sizeLine=16777216:=sizeLine_eq
 have hc:(n==1||z.length==0)=false:=by
  rw [Bool.or_eq_false_iff]
  exact ⟨beq_eq_false_iff_ne.mpr (by omega),beq_eq_false_iff_ne.mpr h3⟩
 have hz:z.length<=16777216:=by
  have:z.length*1<=z.length*n.toNat:=Nat.mul_le_mul_left _ (by omega)
  omega
 refine PySem.P.mul_str ?_ ?_ ?_ ?_
 ·rw [decide_eq_false (show ¬ n < -(2 ^ 63:Int) by omega),decide_eq_false (show ¬ n ≥ 2 ^ 63 by omega)];rfl
 ·intro _ _ hgt
  have:(16777216:Int)<=(2 ^ 63-1) / n:=Int.le_ediv_of_mul_le (by omega) (by omega)
  omega
 ·intro _ _
  exact decide_eq_false (by omega)
 ·rw [if_neg (show ¬ n<1 by omega),if_neg (by rw [hc];exact Bool.false_ne_true),zsR]
  exact ⟨by rw [zr6];omega,⟨.str _,H,I.tok _,⟨_,rfl⟩,q⟩⟩
theorem zhF{p:Addr}{k:Int}{v:V}{H:Hp}{Q:Hp->Prop}:zfQ (.ref p) (.int k) v H Q = ∃xs j,H p=some (.lst xs)/\ixN xs.length k=some j/\Q (upd H p (.lst (xs.set j v))):=by
 apply propext;constructor
 ·rintro ⟨p',xs,k',j,e1,e2,h⟩;cases e1;cases e2;exact ⟨xs,j,h⟩
 ·rintro ⟨xs,j,h⟩;exact ⟨p,xs,k,j,rfl,rfl,h⟩
def zia:List V->Hp->VK->Prop:=λxs H Q=>∃p ys,xs=[.ref p]/\(H p=some (.lst ys)\/H p=some (.tup ys))/\∀l H2,New H l (.lst ys) H2->Q (.ref l) H2
theorem zhV:zL X (.type "list") zia:=zte.weak λxs H Q h=>by
 obtain ⟨p,ys,e,h1,q⟩:=h
 exact ⟨p,ys,e,h1.elim (λh=>.inl (SqL.of h)) (λh=>.inr (SqT.of h)),λl hl=>q l _ (.mk' hl)⟩
theorem zrK{a:Addr}{H:Hp}{Q:VK}:zia [.ref a] H Q = ∃ys,(H a=some (.lst ys)\/H a=some (.tup ys))/\∀l H2,New H l (.lst ys) H2->Q (.ref l) H2:=by
 apply propext;constructor
 ·rintro ⟨p,ys,e,h⟩;cases e;exact ⟨ys,h⟩
 ·rintro ⟨ys,h⟩;exact ⟨a,ys,rfl,h⟩
def zfE(to:TE):TE:=λσ H Q=>to σ H λx H1=>uR x λl=>∃xs,H1 l=some (.lst xs)/\Q .non (upd H1 l (.lst []))
theorem znU{o:Expr}{to:TE}{apos cpos:Pos}(ho:PE X o to)(hbase:attributeBase o "clear" X.env (eval o X.env)=eval o X.env:=by rfl)(hline:(apos.endLine==cpos.line)=true:=by rfl):PE X (.Call (.Attribute o "clear" apos) [] [] cpos) (zfE to):=by
 intro Ga s σ H Q I h
 refine wpAny_Call_method0_late hbase hline (thn (ho Ga s σ H _ I h) λv s1 ⟨x,H1,I1,r1,l,ex,xs,hx,q1⟩=>?_)
 subst ex
 obtain ⟨h1,h2⟩:=zgz (T:="list") I1 r1 (.inl ⟨rfl,xs,SqL.of hx⟩)
 exact ⟨"list","list.clear",plainAttrs_list,PySem.F.slot_list_clear,PySem.F.type_list_clear,h1,h2,Calls.callWith_builtin rfl (PySem.evalArgs_none (zsZ Ga s1 σ H1 (.ref l) [] v [] Q I1 r1 .nil ⟨l,xs,rfl,rfl,hx,q1⟩))⟩
theorem zo4{z:Str}{p:Addr}{H:Hp}{Q:VK}:zhN (.str z) [.ref p] H Q = ∃ys:List Str,H p=some (.lst (ys.map V.str))/\(ys.map (·.length)).sum+ys.length*z.length<=16777216/\Q (.str (Txt.join z ys)) H:=by
 apply propext;constructor
 ·rintro ⟨z',p',ys,e1,e2,h⟩;cases e1;cases e2;exact ⟨ys,h⟩
 ·rintro ⟨ys,h⟩;exact ⟨z,p,ys,rfl,rfl,h⟩
end
def Ite(K:PySem.W.Frag)(a:Addr):It :=
 ⟨λi H=>∃xs x,SqL K H a xs/\xs[i]?=some x,λi H v H'=>∃T x,H T=none/\v = .ref T/\H'=upd H T (.tup [.int i,x])/\∀xs,SqL K H a xs->xs[i]?=some x,λi H=>∃xs,SqL K H a xs/\xs.length<=i⟩
section
variable {X:Cx}
def zoC(K:PySem.W.Frag)(ta:TA):TI:=λσ H R=>ta σ H λvs H1=>∃a,vs=[.ref a]/\(∃xs,SqL K H1 a xs)/\R (Ite K a) H1
end
section
variable {K:PySem.W.Frag}{g:TG}{tb:TS}{D:zah}{σ:St}{H:Hp}{ta:TA}{R:It->Hp->Prop}
def uR1(vs:List V)(q:Addr->Prop):Prop:=∃a,vs=[.ref a]/\q a
theorem za8{q:Addr->Prop}{a:Addr}:uR1 [.ref a] q=q a:=by
 apply propext;constructor
 ·rintro ⟨c,e,h⟩;cases e;exact h
 ·exact λh=>⟨a,rfl,h⟩
theorem zpu:zoC K ta σ H R=ta σ H λvs H1=>uR1 vs λa=>(∃xs,SqL K H1 a xs)/\R (Ite K a) H1:=rfl
end
section
variable {X:Cx}
def zof(C:Addr)(ta tv:TE)(rd:V->V->Hp->VK->Prop)(f:Str):TS:=λD σ H=>ta σ H λx H1=>uR x λa=>∃dx fs v,H1 a=some (.ins C dx fs)/\fs.lookup f=some v /\
 tv σ H1 λy H2=>rd v y H2 λz H3=>∃dx' fs',H3 a=some (.ins C dx' fs')/\fs'.length<1000/\D.nx σ (upd H3 a (.ins C dx' (zN f z fs')))
theorem zli{i j:Int}{H:Hp}{Q:VK}:zkz (.int i) (.int j) H Q=Q (.int (i+j)) H:=by simp [zkz]
theorem zrW{i j:Int}{H:Hp}{Q:VK}:zji (.int i) (.int j) H Q=Q (.int (i-j)) H:=by simp [zji]
theorem zp4{cm:Bool}{k j:Nat}{x:Str}{ps:List Str}{sp:Sp}{p pos:Pos}(G:GF X.prog X.w X.K X.mg X.base cm j x ps sp)(hr:zJ cm k X.A)(hg:Gl X x)(hj:j<=k:=by decide)(hdb:(x==("__debug__":Str))=false:=by decide):PE X (.Call (.Name x p) [] [] pos) (zb9 sp [] E0 zaX):=by
 obtain ⟨f,fd,F,hm,hk,hb⟩:=G.ex
 exact ztY F (hr.mono hj) hg hm hk hb .nil zcF hdb
def zbt(neg:Bool):R2:=λx y H Q=>y = .non/\Q (.bl (if neg then !decide (x = .non) else decide (x = .non))) H
theorem zo2:OpR X (compareOp .Is) (zbt false):=zmQ.weak λx y H Q h=>⟨h.1,by simpa using h.2⟩
theorem zpt:OpR X (compareOp .IsNot) (zbt true):=zu2.weak λx y H Q h=>⟨h.1,by simpa using h.2⟩
theorem zri{c:Bool}{H:Hp}{Q:VK}:zbt c .non .non H Q=Q (.bl (if c then false else true)) H:=by simp [zbt]
theorem zo1{c:Bool}{i:Int}{H:Hp}{Q:VK}:zbt c (.int i) .non H Q=Q (.bl (if c then true else false)) H:=by simp [zbt]
def zcf:R2:=λx y H Q=>zbK x y H Q\/zdw x y H Q
theorem zgG:OpR X (binaryOp .Mult) zcf:=zpi.or zk4
theorem zt4{i j:Int}{H:Hp}{Q:VK}:zcf (.int i) (.int j) H Q=(zdr i j/\Q (.int (i*j)) H):=by simp [zcf,zi8,zdw]
theorem zs3{a:Addr}{i:Int}{H:Hp}{Q:VK}:zcf (.ref a) (.int i) H Q=zbK (.ref a) (.int i) H Q:=by simp [zcf,zdw]
theorem zpl{z:Str}{i:Int}{H:Hp}{Q:VK}:zcf (.str z) (.int i) H Q=(1<i/\i<2 ^ 31/\z.length≠0/\z.length*i.toNat<=sizeLine/\Q (.str (zed z i.toNat)) H):=by
 simp [zcf,zbK,zdw]
def uS(v:V)(q:Str->Prop):Prop:=∃z,v = .str z/\q z
theorem zeP{z:Str}{q:Str->Prop}:uS (.str z) q=q z:=by simp [uS]
def zqE(to te:TE):TE:=λσ H Q=>to σ H λx H1=>uS x λz=>te σ H1 λy H2=>zhN (.str z) [y] H2 Q
def zlx(te:TE):TE:=λσ H Q=>te σ H λx H1=>uR x λa=>∃xs,H1 a=some (.lst xs)/\∀ys:List V,(∀y∈ys,y∈xs)->ys.length<=xs.length->∀p H2,New H1 p (.lst ys) H2->Q (.ref p) H2
end
section
variable {K:PySem.W.Frag}{g:TG}{tb:TS}{D:zah}{σ:St}{H:Hp}{ta:TA}{tl:TE}{wi:TI}{R:It->Hp->Prop}{j:Int}{tt:TT}{te:TE}{ix:List (Option Nat)}{Q:VK}
def uI2(vs:List V)(q:Int->Int->Prop):Prop:=∃i j,vs=[.int i,.int j]/\q i j
theorem zuK{i:Int}{q:Int->Int->Prop}:uI2 [.int i,.int j] q=q i j:=by
 apply propext;constructor
 ·rintro ⟨a,b,e,h⟩;cases e;exact h
 ·exact λh=>⟨i,j,rfl,h⟩
theorem zqx:zq8 ta σ H R=ta σ H λvs H1=>uI2 vs λi j=>(-(2 ^ 62)<=i/\i<2 ^ 62/\-(2 ^ 62)<=j/\j<2 ^ 62)/\R (Itr i (j-i).toNat) H1:=rfl
theorem zan.tup{a:Addr}{xs:List V}(Pv:Nat->St->Hp->Prop)(h0:Pv 0 σ H)(hl:∀i σ H,i<=xs.length->Pv i σ H->SqT K H a xs)
  (hs:∀i x σ H,xs[i]?=some x->Pv i σ H->g x σ H λσ2 H2=>tb { D with nx:=Pv (i+1),ct:=Pv (i+1),bk:=D.nx } σ2 H2) (hd:∀σ H,Pv xs.length σ H->D.nx σ H):zan (Itt K a) g tb D σ H:=zl8 Pv h0 hl hs hd
theorem zak.lst{a:Addr}{xs:List V}{τ:St}(Pv:Nat->St->List V->Hp->Prop)(hz:∀i τ ys H,Pv i τ ys H->ys.length<sizeLine)(ha:∀i τ ys H,Pv i τ ys H->SqL K H a xs)(h0:Pv 0 τ [] H)
  (hs:∀(N:St->List V->Hp->Prop) i x τ ys H,xs[i]?=some x->Pv i τ ys H->(∀τ ys H,Pv (i+1) τ ys H->N τ ys H)->g x τ H λτ1 H4=>tt τ1 H4 λok H5=>zbO N ys τ1 te ok H5) (hd:∀τ ys H,Pv xs.length τ ys H->∀D H',New H D (.lst ys) H'->Q (.ref D) H'):zak (Itl K a) g tt te τ H Q:=by
 refine ⟨λi m τ ys H=>m=xs.length-i/\i<=xs.length/\Pv i τ ys H,⟨xs.length,by simp,zero_le _,h0⟩,?_⟩
 rintro i m τ ys H2 ⟨rfl,hi,p⟩
 refine ⟨hz i τ ys H2 p,?_⟩
 have q:=ha i τ ys H2 p
 by_cases hlt:i<xs.length
 ·refine .inr ⟨⟨xs,xs[i],q,by simp [hlt]⟩,λx H' y=>?_⟩
  obtain ⟨e,y⟩:=y
  subst e
  exact hs (λτ1 ys H=>∃m',m'<xs.length-i/\m'=xs.length-(i+1)/\i+1<=xs.length/\Pv (i+1) τ1 ys H) i x τ ys _ (y xs q) p λτ1 zs H q=>⟨xs.length-(i+1),by omega,rfl,hlt,q⟩
 ·have e:i=xs.length:=by omega
  subst e
  exact .inl ⟨⟨xs,q,le_refl _⟩,λD hD _=>hd τ ys H2 p D _ (.mk' hD)⟩
def zgl(t:TS):TS:=λD σ H=>∃Mid:St->Hp->Prop,t { D with nx:=Mid } σ H/\∀σ' H',Mid σ' H'->D.nx σ' H'
theorem zkX{st:Stmt}{t:TS}(h:PS X st t):PS X st (zgl t):=λGa s σ H D I hw=>by
 obtain ⟨Mid,h1,h2⟩:=hw
 refine thn (h Ga s σ H _ I h1) λf s1 q=>?_
 cases f with
 | next=>obtain ⟨σ',H',I',q⟩:=q;exact ⟨σ',H',I',h2 _ _ q⟩
 | ret v=>exact q
 | brk=>exact q
 | cont=>exact q
theorem zt7{t:TS}{D:zah}{σ:St}{H:Hp}:zgl t D σ H = ∃Mid:St->Hp->Prop,t { D with nx:=Mid } σ H/\∀σ' H',Mid σ' H'->D.nx σ' H':=rfl
end
structure W(p:Prop):Prop where
 h:p
section
variable {X:Cx}
theorem zas  : W (PSs X [] zfX):=⟨zkf ⟩
theorem zk{st:Stmt}{z9:List Stmt}{t:TS}{u:TS}(h1:W (PS X st t))(h2:W (PSs X z9 u)):W (PSs X (st::z9) (zfI t u)):=⟨zhO (h1:=h1.h) (h2:=h2.h)⟩
theorem zl{st:Stmt}{t:TS}(h1:W (PS X st t)):W (PSs X [st] t):=⟨zgL (h1:=h1.h)⟩
theorem zG{e:Expr}{te:TE}{pos:Pos}(he:W (PE X e te)):W (PS X (.Return (some e) pos) (zgp te)):=⟨zfV (he:=he.h)⟩
theorem z6{e:Expr}{te:TE}{pos:Pos}(he:W (PE X e te))(hs:swapsWith e none pos.line X.env=pure false:=by rfl):W (PS X (.Expr e pos) (zgk te)):=⟨znA (he:=he.h) (hs:=hs)⟩
theorem zI{pos:Pos}{i:Nat}{x:Str}{e:Expr}{te:TE}{pos':Pos}(hN:X.N.Nodup)(hi:X.N[i]?=some x)(hx:Loc X.env.scope x)(he:W (PE X e te))(hs:swapsWith e (some (.Name x pos')) pos.line X.env=pure false:=by rfl)(hf:X.fn x=true\/X.env.scope.names.lookup x=some .local:=by first|exact .inl rfl|exact .inr rfl|assumption):W (PS X (.Assign [.Name x pos'] e pos) (zcj te (zaM i))):=⟨zq6 (hN:=hN) (hi:=hi) (hx:=hx) (he:=he.h) (hs:=hs) (hf:=hf)⟩
theorem zbN{C:Addr}{o value:Expr}{ta tv:TE}{f:Str}{pos pos':Pos}(c:Cls X.K C)(n:zaT X.K C f)(ha:W (PE X o ta))(hv:W (PE X value tv))(hs:swapsWith value (some (.Attribute o f pos')) pos.line X.env=pure false:=by rfl):W (PS X (.Assign [.Attribute o f pos'] value pos) (zeI C ta tv f)):=⟨zuI (c:=c) (n:=n) (ha:=ha.h) (hv:=hv.h) (hs:=hs)⟩
theorem zbs{pos:Pos}{tg e:Expr}{te:TE}{g:TG}(he:W (PE X e te))(hg:W (PG X tg g))(hs:swapsWithSole [tg] e pos.line X.env=pure false:=by rfl)(hw:swappedStores [tg] e X.env=pure none:=by rfl)(h1:(assignEach [tg] X.env).map (·.2)=[assign tg X.env]:=by rfl):W (PS X (.Assign [tg] e pos) (zcj te g)):=⟨zpR (he:=he.h) (hg:=hg.h) (hs:=hs) (hw:=hw) (h1:=h1)⟩
theorem z7{t:TS}{u:TS}{pos:Pos}{c:Expr}{a b:List Stmt}{tc:TT}(hc:W (PT X c tc))(ha:W (PSs X a t))(hb:W (PSs X b u)):W (PS X (.If c a b pos) (zgg tc t u)):=⟨zhP (hc:=hc.h) (ha:=ha.h) (hb:=hb.h)⟩
theorem zbi{tg:Expr}{c:Bool}{iter:Expr}{body:List Stmt}{wi:TI}{g:TG}{tb:TS}{pos:Pos}(hp:PassesOwn (model X.prog X.w) X.A X.env X.xe)(hc:c=true->X.calm=true)(hi:W (PIc c X tg iter wi))(hg:W (PG X tg g))(hb:W (PSs X body tb))(hs:∀x,foldedSetIterable iter X.env x=pure x:=by intro _;rfl):W (PS X (.For tg iter body [] pos) (zgJ wi g tb)):=⟨zr9 (hp:=hp) (hc:=hc) (hi:=hi.h) (hg:=hg.h) (hb:=hb.h) (hs:=hs)⟩
theorem zfl{tg a:Expr}{ta:TA}{p pos:Pos}(hg:Gl X "range")(hm:X.mg "range"=none)(ha:W (PA X [a] ta))(hp:zap a=true:=by rfl):W (PIc true X tg (.Call (.Name "range" p) [a] [] pos) (zes ta)):=⟨zrw (hg:=hg) (hm:=hm) (ha:=ha.h) (hp:=hp)⟩
theorem za2{tg:Expr}{l:Expr}{tl:TE}(hl:W (PE X l tl)):W (PI X tg l (zfR X.K tl)):=⟨zpB (hl:=hl.h)⟩
theorem zd  : W (PA X [] zaX):=⟨zfi ⟩
theorem zb{e:Expr}{es:List Expr}{te:TE}{t:TA}(ha:W (PE X e te))(hr:W (PA X es t))(hp:zap e=true:=by rfl):W (PA X (e::es) (zcV te t)):=⟨zsh (ha:=ha.h) (hr:=hr.h) (hp:=hp)⟩
theorem za7{a:Expr}{pos:Pos}{tA:TT}(ha:W (PT X a tA)):W (PT X (.UnaryOp .Not a pos) (zhc tA)):=⟨zmh (ha:=ha.h)⟩
theorem zfr{a:Expr}{pos:Pos}{tA:TT}(ha:W (PT X a tA)):W (PW X (.BoolOp .And [a] pos) tA):=⟨zoO (ha:=ha.h)⟩
theorem zd4{a:Expr}{pos:Pos}{tA:TT}(ha:W (PT X a tA)):W (PW X (.BoolOp .Or [a] pos) tA):=⟨zk1 (ha:=ha.h)⟩
theorem zet{a:Expr}{b:Expr}{pos:Pos}{tA:TT}{tB':TT}{z9:List Expr}(ha:W (PT X a tA))(hb:W (PW X (.BoolOp .And (b::z9) pos) tB')):W (PW X (.BoolOp .And (a::b::z9) pos) (zfK tA tB')):=⟨zry (ha:=ha.h) (hb:=hb.h)⟩
theorem zcv{a:Expr}{b:Expr}{pos:Pos}{tA:TT}{tB':TT}{z9:List Expr}(ha:W (PT X a tA))(hb:W (PW X (.BoolOp .Or (b::z9) pos) tB')):W (PW X (.BoolOp .Or (a::b::z9) pos) (tOr tA tB')):=⟨zly (ha:=ha.h) (hb:=hb.h)⟩
theorem zad{a:Expr}{b:Expr}{ta:TE}{tb:TE}{pos:Pos}{op:CmpOp}{r:R2}(ho:OpR X (compareOp op) r)(ha:W (PE X a ta))(hb:W (PE X b tb))(hm:behindInMarks op b=false):W (PT X (.Compare a [op] [b] pos) (zhd (tOp r ta tb))):=⟨zkt (ho:=ho) (ha:=ha.h) (hb:=hb.h) (hm:=hm)⟩
theorem zaV{a:Expr}{ta:TE}(ha:W (PE X a ta))(he:∀whole,isTrue a X.env whole=(do let v<-whole;standAt a.pos;holding [v] (truthy v)):=by intro _;rfl):W (PT X a (zfT X.K ta)):=⟨zot (ha:=ha.h) (he:=he)⟩
theorem za(i:Nat){x:Str}{pos:Pos}(hN:X.N[i]?=some x:=by rfl)(hv:Vis X.env.scope x:=by first|exact Or.inl rfl|exact Or.inr (Or.inl rfl)|exact Or.inr (Or.inr rfl))(hd:(x==("__debug__":Str))=false:=by decide)(hcd:(x==("__classdict__":Str))=false:=by decide):W (PE X (.Name x pos) (zbp i)):=⟨pv (i:=i) (hN:=hN) (hv:=hv) (hd:=hd) (hcd:=hcd)⟩
theorem zbH{x:Str}{v:V}{u:Value}{pos:Pos}(hg:Gl X x)(hm:X.mg x=none)(hv:bootBuiltins x=some u)(r:zm v u)(hn:x≠"__name__":=by decide)(hd:(x==("__debug__":Str))=false:=by decide):W (PE X (.Name x pos) (tC v)):=⟨zog (hg:=hg) (hm:=hm) (hv:=hv) (r:=r) (hn:=hn) (hd:=hd)⟩
theorem zeu{j pos}:W (PE X (.Constant .none j pos) (tC .non)):=⟨zmY ⟩
theorem za5{b j pos}:W (PE X (.Constant (.bool b) j pos) (tC (.bl b))):=⟨zrs ⟩
theorem zj{i j pos}:W (PE X (.Constant (.int i) j pos) (tC (.int i))):=⟨zjR ⟩
theorem zaz{x j pos}:W (PE X (.Constant (.str x) j pos) (tC (.str x))):=⟨zl9 ⟩
theorem zK{a:Expr}{b:Expr}{ta:TE}{tb:TE}{pos:Pos}{op:Operator}{r:R2}(ho:OpR X (binaryOp op) r)(ha:W (PE X a ta))(hb:W (PE X b tb)):W (PE X (.BinOp a op b pos) (tOp r ta tb)):=⟨zmi (ho:=ho) (ha:=ha.h) (hb:=hb.h)⟩
theorem ziO{a:Expr}{ta:TE}{pos:Pos}(ha:W (PE X a ta)):W (PE X (.UnaryOp .Not a pos) (zgQ ta)):=⟨zuV (ha:=ha.h)⟩
theorem zdn{a:Expr}{pos:Pos}{op}{t:TE}(h:W (PE X a t)):W (PE X (.BoolOp op [a] pos) t):=⟨zrf (h:=h.h)⟩
theorem zdd{a:Expr}{b:Expr}{ta:TE}{tb:TE}{pos:Pos}{z9:List Expr}(ha:W (PE X a ta))(hb:W (PE X (.BoolOp .And (b::z9) pos) tb)):W (PE X (.BoolOp .And (a::b::z9) pos) (zfD ta tb)):=⟨zpp (ha:=ha.h) (hb:=hb.h)⟩
theorem zg0{a:Expr}{b:Expr}{ta:TE}{tb:TE}{pos:Pos}{op:CmpOp}{r:R2}(ho:OpR X (compareOp op) r)(ha:W (PE X a ta))(hb:W (PE X b tb))(hm:behindInMarks op b=false):W (PE X (.Compare a [op] [b] pos) (tOp r ta tb)):=⟨zul (ho:=ho) (ha:=ha.h) (hb:=hb.h) (hm:=hm)⟩
theorem zrc{a:Expr}{b:Expr}{c:Expr}{ta:TE}{tb:TE}{tc:TE}{pos:Pos}{op op':CmpOp}{r r':R2}(ho:OpR X (compareOp op) r)(ho':OpR X (compareOp op') r')(ha:W (PE X a ta))(hb:W (PE X b tb))(hc:W (PE X c tc))(hm:lastMarks [op,op'] [b,c]=false:=by with_unfolding_all rfl):W (PE X (.Compare a [op,op'] [b,c] pos) (zgF r r' ta tb tc)):=⟨zlq (ho:=ho) (ho':=ho') (ha:=ha.h) (hb:=hb.h) (hc:=hc.h) (hm:=hm)⟩
theorem zu0{a:Expr}{b:Expr}{ta:TE}{tb:TE}{pos:Pos}{tA:TT}{c:Expr}(hc:W (PT X c tA))(ha:W (PE X a ta))(hb:W (PE X b tb)):W (PE X (.IfExp c a b pos) (tIf tA ta tb)):=⟨zue (hc:=hc.h) (ha:=ha.h) (hb:=hb.h)⟩
theorem zab{es:List Expr}{t:TA}{pos:Pos}(h:W (PA X es t)):W (PE X (.List es pos) (zg7 t)):=⟨zlW (h:=h.h)⟩
theorem zbq{es:List Expr}{t:TA}{x1}{pos:Pos}(h:W (PA X es t)):W (PE X (.Tuple es x1 pos) (zeA t)):=⟨zld (h:=h.h)⟩
theorem zbe{pos:Pos}:W (PE X (.Dict [] [] pos) zgS):=⟨znR ⟩
theorem zZ{C:Addr}{e:Expr}{ta:TE}{f:Str}{pos:Pos}(c:Cls X.K C)(n:zaT X.K C f)(he:W (PE X e ta))(hb:attributeBase e f X.env (eval e X.env)=eval e X.env:=by rfl):W (PE X (.Attribute e f pos) (zfm C ta f)):=⟨znE (c:=c) (n:=n) (he:=he.h) (hb:=hb)⟩
theorem zY{a:Expr}{b:Expr}{ta:TE}{tb:TE}{pos:Pos}{r:R2}(hr:IxR X r)(ha:W (PE X a ta))(hb:W (PE X b tb))(hs:ziV b):W (PE X (.Subscript a b pos) (tOp r ta tb)):=⟨zkq (hr:=hr) (ha:=ha.h) (hb:=hb.h) (hs:=hs)⟩
theorem zdh{e:Expr}{te:TE}{lo:Option Expr}{hi:Option Expr}{tl:TO}{th:TO}{pos:Pos}{p2:Pos}{r:V->Option Int->Option Int->Hp->VK->Prop}(hr:SlR X r)(he:W (PE X e te))(hl:W (PO X lo tl))(hu:W (PO X hi th)):W (PE X (.Subscript e (.Slice lo hi none p2) pos) (tSl r te tl th)):=⟨zss (hr:=hr) (he:=he.h) (hl:=hl.h) (hu:=hu.h)⟩
theorem zC{cm:Bool}{k:Nat}{j:Nat}{x:Str}{ps:List Str}{sp:Sp}{e:Expr}{es:List Expr}{t:TA}{p:Pos}{pos:Pos}(G:GF X.prog X.w X.K X.mg X.base cm j x ps sp)(hr:zJ cm k X.A)(hg:Gl X x)(ha:W (PA X (e::es) t))(hj:j<=k:=by decide)(hdb:(x==("__debug__":Str))=false:=by decide)(hp:zap e=true:=by rfl)(hps:zaY es=true:=by rfl):W (PE X (.Call (.Name x p) (e::es) [] pos) (zb9 sp [] E0 t)):=⟨zqc (G:=G) (hr:=hr) (hg:=hg) (ha:=ha.h) (hj:=hj) (hdb:=hdb) (hp:=hp) (hps:=hps)⟩
theorem zhA{cm:Bool}{k:Nat}{j:Nat}{x:Str}{C:Addr}{ps:List Str}{sp:Sp}{e:Expr}{es:List Expr}{t:TA}{p:Pos}{pos:Pos}(G:GC X.prog X.w X.K X.mg X.base cm j x C ps sp)(hr:zJ cm k X.A)(hg:Gl X x)(ha:W (PA X (e::es) t))(hj:j+1<=k:=by decide)(hdb:(x==("__debug__":Str))=false:=by decide)(hp:zap e=true:=by rfl)(hps:zaY es=true:=by rfl):W (PE X (.Call (.Name x p) (e::es) [] pos) (zdW C sp t)):=⟨zoI (G:=G) (hr:=hr) (hg:=hg) (ha:=ha.h) (hj:=hj) (hdb:=hdb) (hp:=hp) (hps:=hps)⟩
theorem zP{id:String}{r:List V->Hp->VK->Prop}{x:Str}{e:Expr}{es:List Expr}{t:TA}{p pos:Pos}(hc:zL X (.builtin id) r)(hg:Gl X x)(hm:X.mg x=none)(hv:bootBuiltins x=some (.builtin id))(ha:W (PA X (e::es) t))(hp:zap e=true:=by rfl)(hps:zaY es=true:=by rfl)(hn:x≠"__name__":=by decide)(hdb:(x==("__debug__":Str))=false:=by decide):W (PE X (.Call (.Name x p) (e::es) [] pos) (tCB r t)):=⟨zpw (hc:=hc) (hg:=hg) (hm:=hm) (hv:=hv) (ha:=ha.h) (hp:=hp) (hps:=hps) (hn:=hn) (hdb:=hdb)⟩
theorem zbw{T:String}{r:List V->Hp->VK->Prop}{x:Str}{e:Expr}{es:List Expr}{t:TA}{p pos:Pos}(hc:zL X (.type T) r)(hg:Gl X x)(hm:X.mg x=none)(hv:bootBuiltins x=some (.type T))(ha:W (PA X (e::es) t))(hp:zap e=true:=by rfl)(hps:zaY es=true:=by rfl)(hn:x≠"__name__":=by decide)(hdb:(x==("__debug__":Str))=false:=by decide):W (PE X (.Call (.Name x p) (e::es) [] pos) (tCB r t)):=⟨ztg (hc:=hc) (hg:=hg) (hm:=hm) (hv:=hv) (ha:=ha.h) (hp:=hp) (hps:=hps) (hn:=hn) (hdb:=hdb)⟩
theorem zae {cm : Bool} {k : Nat} {j : Nat} {m : Str} {C : Addr} {ps : List Str} {sp : Sp} {e : Expr} {o : Expr} {es : List Expr} {t : TA} {ta : TE} {pos : Pos} {apos : Pos} {pl : Sem Bool} (he : W (PE X o ta)) (c : Cls X.K C) (G : GM X.prog X.w X.K X.mg X.base cm j C m ps sp) (hr : zJ cm k X.A) (ha : W (PA X (e :: es) t)) (hj : j ≤ k := by decide) (hp : zap e = true := by rfl) (hps : zaY es = true := by rfl) (ht : eval (.Call (.Attribute o m apos) (e :: es) [] pos) X.env = (do
      let ov ← eval o X.env
      standAt apos.atName
      let (f, first) ← holding [ov] (getMethod ov m pl)
      callWith pos f first (backTo pos (starEach (e :: es) X.env)) (backToKw pos (keywordEach [] X.env))) := by rfl) : W (PE X (.Call (.Attribute o m apos) (e :: es) [] pos) (zbR C m sp [] E0 ta t)) := ⟨zuf (he := he.h) (c := c) (G := G) (hr := hr) (ha := ha.h) (hj := hj) (hp := hp) (hps := hps) (ht := ht)⟩
theorem zaF {cm : Bool} {k : Nat} {j : Nat} {m : Str} {C : Addr} {ps : List Str} {sp : Sp} {o : Expr} {ta : TE} {pos : Pos} {apos : Pos} {pl : Sem Bool} (he : W (PE X o ta)) (c : Cls X.K C) (G : GM X.prog X.w X.K X.mg X.base cm j C m ps sp) (hr : zJ cm k X.A) (hj : j ≤ k := by decide) (ht : eval (.Call (.Attribute o m apos) [] [] pos) X.env = (do
      let ov ← eval o X.env
      standAt apos.atName
      let (f, first) ← holding [ov] (getMethod ov m pl)
      callWith pos f first (backTo pos (starEach [] X.env)) (backToKw pos (keywordEach [] X.env))) := by rfl) : W (PE X (.Call (.Attribute o m apos) [] [] pos) (zbR C m sp [] E0 ta zaX)) := ⟨zqy (he := he.h) (c := c) (G := G) (hr := hr) (hj := hj) (ht := ht)⟩
theorem zgt{o e:Expr}{to te:TE}{apos cpos:Pos}(ho:W (PE X o to))(he:W (PE X e te))(hbase:attributeBase o "append" X.env (eval o X.env)=eval o X.env:=by rfl)(hline:(apos.endLine==cpos.line)=true:=by rfl)(hp:zap e=true:=by rfl):W (PE X (.Call (.Attribute o "append" apos) [e] [] cpos) (zg9 to te)):=⟨zpk (ho:=ho.h) (he:=he.h) (hbase:=hbase) (hline:=hline) (hp:=hp)⟩
theorem zcc{c:Bool}{X:Cx}{elt tg iter:Expr}{ifs:List Expr}{sc:Scope}{pos:Pos}{N':List Str}{ix:List (Option Nat)}{wi:TI}{g:TG}{tt:TT}{te:TE}(hc:c=true->X.calm=true)(L:zaj X sc N' ix)(hi:W (PIc c X tg iter wi))(hg:∀Ga C fp s H,W (PG (zo X sc N' Ga C fp s H) tg g))(ht:∀Ga C fp s H,W (PTs (zo X sc N' Ga C fp s H) ifs tt))(he:∀Ga C fp s H,W (PE (zo X sc N' Ga C fp s H) elt te))(hs:∀x,foldedSetIterable iter X.env x=pure x:=by intro _;rfl):W (PE X (.ListComp elt [⟨tg,iter,ifs,0⟩] sc pos) (tLC ix wi g tt te)):=⟨znB (hc:=hc) (L:=L) (hi:=hi.h) (hg:=λz0 z1 z2 z3 z4=>(hg z0 z1 z2 z3 z4).h) (ht:=λz0 z1 z2 z3 z4=>(ht z0 z1 z2 z3 z4).h) (he:=λz0 z1 z2 z3 z4=>(he z0 z1 z2 z3 z4).h) (hs:=hs)⟩
theorem zU{pos:Pos}{i:Nat}{x:Str}(hN:X.N.Nodup)(hi:X.N[i]?=some x)(hx:Loc X.env.scope x)(hf:X.fn x=true\/X.env.scope.names.lookup x=some .local:=by first|exact .inl rfl|exact .inr rfl|assumption):W (PG X (.Name x pos) (zaM i)):=⟨zj3 (hN:=hN) (hi:=hi) (hx:=hx) (hf:=hf)⟩
theorem zgH{X:Cx}{pos:Pos}{es:List Expr}{k:Nat}{t:TGs}{n:Nat}(h:W (PGs X es t))(hl:(assignEach es X.env).length=n:=by rfl)(hst:(assignEach es X.env).findIdx? (·.1)=none:=by rfl):W (PG X (.Tuple es k pos) (zgK X.K n t)):=⟨ziA (h:=h.h) (hl:=hl) (hst:=hst)⟩
theorem zfk  : W (PGs X [] zeV):=⟨zm6 ⟩
theorem zbh{e:Expr}{es:List Expr}{t:TG}{u:TGs}(h1:W (PG X e t))(h2:W (PGs X es u))(hs:(assignEach (e::es) X.env).map (·.2)=assign e X.env::(assignEach es X.env).map (·.2):=by rfl):W (PGs X (e::es) (zcX t u)):=⟨zm0 (h1:=h1.h) (h2:=h2.h) (hs:=hs)⟩
theorem zbD{X:Cx}:W (PTs X [] ze0):=⟨zlw ⟩
theorem zu7{X:Cx}{c:Expr}{t:TT}(h:W (PT X c t)):W (PTs X [c] t):=⟨zkS (h:=h.h)⟩
theorem zhQ{o:Expr}{to:TE}{apos cpos:Pos}(ho:W (PE X o to))(hbase:attributeBase o "clear" X.env (eval o X.env)=eval o X.env:=by rfl)(hline:(apos.endLine==cpos.line)=true:=by rfl):W (PE X (.Call (.Attribute o "clear" apos) [] [] cpos) (zfE to)):=⟨znU (ho:=ho.h) (hbase:=hbase) (hline:=hline)⟩
theorem zbA {pos : Pos} {o i : Expr} {to ti : TE} {t : zeR} (ho : W (PE X o to)) (hi : W (PE X i ti)) (hs : zeD X t) (ha : ∀ v, assign (.Subscript o i pos) X.env v = (do
      let ov ← holding [v] (eval o X.env)
      let iv ← holding [v, ov] (eval i X.env)
      standAt pos
      holding [v, ov, iv] (setItem ov iv v)
      release [v, ov, iv] []) := by intro _; rfl) : W (PG X (.Subscript o i pos) (zgV to ti t)) := ⟨zla (ho := ho.h) (hi := hi.h) (hs := hs) (ha := ha)⟩
theorem zc9  : W (PO X none zhk):=⟨zqW ⟩
theorem zcW{e:Expr}{te:TE}(h:W (PE X e te)):W (PO X (some e) (zhv te)):=⟨zpS (h:=h.h)⟩
theorem zgm{cm:Bool}{k j:Nat}{x:Str}{ps:List Str}{sp:Sp}{p pos:Pos}(G:GF X.prog X.w X.K X.mg X.base cm j x ps sp)(hr:zJ cm k X.A)(hg:Gl X x)(hj:j<=k:=by decide)(hdb:(x==("__debug__":Str))=false:=by decide):W (PE X (.Call (.Name x p) [] [] pos) (zb9 sp [] E0 zaX)):=⟨zp4 (G:=G) (hr:=hr) (hg:=hg) (hj:=hj) (hdb:=hdb)⟩
theorem zod{st:Stmt}{t:TS}(h:W (PS X st t)):W (PS X st (zgl t)):=⟨zkX (h:=h.h)⟩
theorem zbF{e:Expr}{t:TT}(h:W (PW X e t)):W (PT X e t):=⟨PW.pt h.h⟩
end
def asc(z:Str):Bool:=z.cps.all (· < 128)
def Its(z:Str):It:=⟨λi _=>i<z.cps.size,λi H x H'=>H'=H/\∃c,z.cps[i]?=some c/\x = .str ⟨#[c]⟩,λi _=>z.cps.size<=i⟩
section
variable {X:Cx}{tg:Expr}
def zlr(tl:TE):TI:=λσ H R=>tl σ H λx H1=>uS x λz=>asc z=true/\R (Its z) H1
theorem zui{tl:TE}{σ:St}{H:Hp}{R:It->Hp->Prop}:zlr tl σ H R=tl σ H λx H1=>uS x λz=>asc z=true/\R (Its z) H1:=rfl
end
def ziW(z:Str)(k:Nat):It :=
 ⟨λi _=>i<z.cps.size,λi H v H'=>∃T c,H T=none/\v = .ref T/\z.cps[i]?=some c/\H'=upd H T (.tup [.int ((i:Nat)+k:Nat),.str ⟨#[c]⟩]),λi _=>i=z.cps.size⟩
section
variable {prog:Program}{w:World}{A:Around}{E:Value->Shared->Prop}{s:Shared}
end
section
variable {X:Cx}
def ztj(k:Nat)(ta:TE):TI:=λσ H R=>ta σ H λx H1=>uS x λz=>asc z=true/\R (ziW z k) H1
theorem ztl{k:Nat}{ta:TE}{σ:St}{H:Hp}{R:It->Hp->Prop}:ztj k ta σ H R=ta σ H λx H1=>uS x λz=>asc z=true/\R (ziW z k) H1:=rfl
end
section
variable {K:PySem.W.Frag}{g:TG}{tb:TS}{D:zah}{σ:St}{H:Hp}{tt:TT}{te:TE}{Q:VK}
theorem zak.str{z:Str}{τ:St}(Pv:Nat->St->List V->Hp->Prop)(hz:∀i τ ys H,Pv i τ ys H->ys.length<sizeLine)(h0:Pv 0 τ [] H)
  (hs:∀(N:St->List V->Hp->Prop) i c τ ys H,z.cps[i]?=some c->Pv i τ ys H->(∀τ ys H,Pv (i+1) τ ys H->N τ ys H)->g (.str ⟨#[c]⟩) τ H λτ1 H4=>tt τ1 H4 λok H5=>zbO N ys τ1 te ok H5) (hd:∀τ ys H,Pv z.cps.size τ ys H->∀D H',New H D (.lst ys) H'->Q (.ref D) H'):zak (Its z) g tt te τ H Q:=by
 refine ⟨λi m τ ys H=>m=z.cps.size-i/\i<=z.cps.size/\Pv i τ ys H,⟨z.cps.size,by simp,zero_le _,h0⟩,?_⟩
 rintro i m τ ys H2 ⟨rfl,hi,p⟩
 refine ⟨hz i τ ys H2 p,?_⟩
 by_cases hlt:i<z.cps.size
 ·refine .inr ⟨hlt,λx H' y=>?_⟩
  obtain ⟨e,c,hc,rfl⟩:=y
  subst e
  exact hs (λτ1 ys H=>∃m',m'<z.cps.size-i/\m'=z.cps.size-(i+1)/\i+1<=z.cps.size/\Pv (i+1) τ1 ys H) i c τ ys _ hc p λτ1 zs H q=>⟨z.cps.size-(i+1),by omega,rfl,hlt,q⟩
 ·have e:i=z.cps.size:=by omega
  subst e
  exact .inl ⟨le_refl _,λD hD _=>hd τ ys H2 p D _ (.mk' hD)⟩
end
section
variable {X:Cx}
def zkB:List V->Hp->VK->Prop:=λxs H Q=>uR1 xs λp=>∃bs:List Bool,H p=some (.lst (bs.map V.bl))/\Q (.bl (bs.all id)) H
theorem zr5{bs:List Bool}:∀{us:List Value},zi (bs.map V.bl) us->us=bs.map Value.bool:=by
 induction bs with
 | nil=>intro us r;rw [map_nil] at r;cases r;rfl
 | cons b bs ih =>
  intro us r
  rw [map_cons] at r
  cases r with
  | cons r1 r2=>rw [show _=Value.bool b from r1,ih r2];rfl
theorem zgZ(hc:X.calm=true):zL X (.builtin "all") zkB:=by
 intro Ga s σ H xs us Q I r h
 obtain ⟨p,rfl,bs,hp,q⟩:=h
 cases r with
 | cons r1 rr =>
  cases rr
  cases (show _=Value.ref p from r1)
  obtain ⟨its,rv,pl,_⟩:=I.list (SqL.of (K:=X.K) hp)
  have e:=zr5 rv
  subst e
  have hne:p≠s.heap.objs.size:=by obtain ⟨o,e,_⟩:=pl.isList;exact ne_of_lt (lt_size e)
  refine call_all_walk (wpAny_pyIter_list pl.isList ?_)
  have hl:∀k:Nat,k=bs.length->(List.range k).all (λi=>bs.getD i true)=bs.all id:=by
   intro k e
   subst e
   rw [Bool.eq_iff_iff,all_eq_true,all_eq_true]
   constructor
   ·intro h x hx
    obtain ⟨i,hi,rfl⟩:=getElem_of_mem hx
    have:=h i (mem_range.mpr hi)
    rw [getD_eq_getElem?_getD,List.getElem?_eq_getElem hi] at this
    exact this
   ·intro h i hi
    have hi:=mem_range.mp hi
    rw [getD_eq_getElem?_getD,List.getElem?_eq_getElem hi]
    exact h _ (getElem_mem hi)
  refine ⟨s.heap.objs.size,_,_,_,_,_,λi=>bs.getD i true,rfl,Walks.list (prog:=X.prog) (w:=X.w) (A:=X.A.in1) (show X.A.in1.handled=none from I.ok.hd hc) s.heap.objs.size p hne (bs.map Value.bool).toArray,⟨⟨_,get?_push_size _ rfl,rfl,rfl⟩,pl.isList.push _⟩,?_,λh' tk kp=>?_⟩
  ·intro i v s2 Q2 E2 hv hQ
   have hv:(bs.map Value.bool)[i]?=some v:=by simpa using hv
   rw [getElem?_map] at hv
   cases e:bs[i]? with
   | none=>rw [e] at hv;cases hv
   | some b =>
    rw [e] at hv
    cases hv
    have e2:bs.getD i true=b:=by rw [getD_eq_getElem?_getD,e];rfl
    have hQ:Q2 (bs.getD i true) s2:=hQ
    rw [e2] at hQ
    exact wpAny_pure hQ
  ·refine ⟨.bl _,H,I.kept (t':=tk) λb o e=>kp b o ?_ (get?_push_of_some _ e),rfl,?_⟩
   ·simpa using ne_of_lt (lt_size e)
   ·rw [hl _ (by simp)];exact q
theorem zfg{p:Addr}{H:Hp}{Q:VK}:zkB [.ref p] H Q = ∃bs:List Bool,H p=some (.lst (bs.map V.bl))/\Q (.bl (bs.all id)) H:=za8
def uIs(neg:Bool):R2:=λx y H Q=>(y = .non\/∃b,y = .bl b/\zF x=true)/\Q (.bl (if neg then !decide (x=y) else decide (x=y))) H
theorem znV{c b:Bool}{x:V}{H:Hp}{Q:VK}:uIs c x (.bl b) H Q=(zF x=true/\Q (.bl (if c then !decide (x = .bl b) else decide (x = .bl b))) H):=by simp [uIs]
theorem ztp{c:Bool}{x:V}{H:Hp}{Q:VK}:uIs c x .non H Q=Q (.bl (if c then !decide (x = .non) else decide (x = .non))) H:=by simp [uIs]
def uIn:R2:=λx y H Q=>(∃i j,x = .str i/\y = .str j/\Q (.bl (!(Builtin.Str.occurrences j i 0 j.length 1).isEmpty)) H)\/∃p xs,y = .ref p/\(H p=some (.lst xs)\/H p=some (.tup xs))/\zF x=true/\xs.all zF=true/\Q (.bl (inV x xs)) H
theorem zit{x y:Str}{H:Hp}{Q:VK}:uIn (.str x) (.str y) H Q=Q (.bl (!(Builtin.Str.occurrences y x 0 y.length 1).isEmpty)) H:=by simp [uIn]
theorem zkx{x:V}{p:Addr}{H:Hp}{Q:VK}:uIn x (.ref p) H Q = ∃xs,(H p=some (.lst xs)\/H p=some (.tup xs))/\zF x=true/\xs.all zF=true/\Q (.bl (inV x xs)) H:=by simp [uIn]
def uM1(to te:TE)(r:Str->V->Hp->VK->Prop):TE:=λσ H Q=>to σ H λx H1=>uS x λz=>te σ H1 λy H2=>r z y H2 Q
theorem zl6{to te:TE}{r:Str->V->Hp->VK->Prop}{σ:St}{H:Hp}{Q:VK}:uM1 to te r σ H Q=to σ H λx H1=>uS x λz=>te σ H1 λy H2=>r z y H2 Q:=rfl
def zp3:Str->V->Hp->VK->Prop:=λz y H Q=>uS y λq=>Q (.int (PySem.Txt.rfind z q)) H
theorem zm9{z q:Str}{H:Hp}{Q:VK}:zp3 z (.str q) H Q=Q (.int (PySem.Txt.rfind z q)) H:=zeP
def zoE:Str->V->Hp->VK->Prop:=λz y H Q=>uS y λq=>(q.length==0)=false/\z.length<sizeLine/\(PySem.Txt.split z q).length<=sizeLine/\∀p H2,New H p (.lst ((PySem.Txt.split z q).map V.str)) H2->Q (.ref p) H2
theorem ztX{z q:Str}{H:Hp}{Q:VK}:zoE z (.str q) H Q=((q.length==0)=false/\z.length<sizeLine/\(PySem.Txt.split z q).length<=sizeLine/\∀p H2,New H p (.lst ((PySem.Txt.split z q).map V.str)) H2->Q (.ref p) H2):=zeP
def zk0(te:TE):TE:=λσ H Q=>te σ H λx H1=>(∃z,x = .str z/\z.length<=sizeLine/\Q (.str z) H1)\/∃i,x = .int i/\i.natAbs.log2<1920/\Q (.str (toString i)) H1
def zd6:V->Hp->VK->Prop:=λx H1 Q=>(∃z,x = .str z/\z.length<=sizeLine/\Q (.str z) H1)\/∃i,x = .int i/\i.natAbs.log2<1920/\Q (.str (toString i)) H1
theorem zoR{te:TE}{σ:St}{H:Hp}{Q:VK}:zk0 te σ H Q=te σ H λx H1=>zd6 x H1 Q:=rfl
theorem zsG{z:Str}{H:Hp}{Q:VK}:zd6 (.str z) H Q=(z.length<=sizeLine/\Q (.str z) H):=by simp [zd6]
theorem zoH{i:Int}{H:Hp}{Q:VK}:zd6 (.int i) H Q=(i.natAbs.log2<1920/\Q (.str (toString i)) H):=by simp [zd6]
abbrev TJ:=Str->TE
def zpZ:TJ:=λout _ H Q=>out.length<=sizeLine/\Q (.str out) H
def zsJ(te:TE)(tj:TJ):TJ:=λout σ H Q=>te σ H λx H1=>uS x λy=>(out++y).length<=sizeLine/\tj (out++y) σ H1 Q
def zuq(tj:TJ):TE:=tj Str.empty
theorem zuY{tj:TJ}:zuq tj=tj Str.empty:=rfl
def zdj:List V->Hp->VK->Prop:=λxs H Q=>zbQ xs H Q\/∃z n,xs=[.str z]/\z.length<=640/\PySem.intText? z=some n/\Q (.int n) H
theorem zmP{i:Int}{H:Hp}{Q:VK}:zdj [.int i] H Q=Q (.int i) H:=by simp [zdj,zbQ]
theorem zro{k:Bool}{H:Hp}{Q:VK}:zdj [.bl k] H Q=Q (.int (if k then 1 else 0)) H:=by simp [zdj,zbQ]
theorem zkU{z:Str}{H:Hp}{Q:VK}:zdj [.str z] H Q = ∃n,z.length<=640/\PySem.intText? z=some n/\Q (.int n) H:=by simp [zdj,zbQ]
def zct:List V->Hp->VK->Prop:=λxs H Q=>zcA xs H Q\/∃z,xs=[.str z]/\Q (.str z) H
theorem zjU{i:Int}{H:Hp}{Q:VK}:zct [.int i] H Q=(i.natAbs.log2<1920/\Q (.str (toString i)) H):=by simp [zct,zcA]
theorem zh3{z:Str}{H:Hp}{Q:VK}:zct [.str z] H Q=Q (.str z) H:=by simp [zct,zcA]
def ziZ:List V->Hp->VK->Prop:=λxs H Q=>uR1 xs λp=>∃ys,H p=some (.lst ys)/\∀l H2,New H l (.tup ys) H2->Q (.ref l) H2
theorem zos:zL X (.type "tuple") ziZ:=zqL.weak λxs H Q h=>by
 obtain ⟨p,e,ys,h1,q⟩:=h
 exact ⟨p,ys,e,.inl ⟨SqL.of h1,λl hl=>q l _ (.mk' hl)⟩⟩
theorem zqv{p:Addr}{H:Hp}{Q:VK}:ziZ [.ref p] H Q = ∃ys,H p=some (.lst ys)/\∀l H2,New H l (.tup ys) H2->Q (.ref l) H2:=za8
def zif:List V->Hp->VK->Prop:=λxs H Q=>∃x,xs=[.str x]/\x.length=1/\Q (.int (x.cps.getD 0 0:Nat)) H
theorem zq1{x:Str}{H:Hp}{Q:VK}:zif [.str x] H Q=(x.length=1/\Q (.int (x.cps.getD 0 0:Nat)) H):=by simp [zif]
def zcg:R2:=λx y H Q=>uEq false x y H Q\/∃a b xs ys,x = .ref a/\y = .ref b/\H a=some (.tup xs)/\H b=some (.tup ys)/\xs.all zF=true/\ys.all zF=true/\Q (.bl (eqL xs ys)) H
theorem zve{i j:Int}{H:Hp}{Q:VK}:zcg (.int i) (.int j) H Q=Q (.bl (decide (i=j))) H:=by simp [zcg,uEq,zbr]
theorem znk{x y:Str}{H:Hp}{Q:VK}:zcg (.str x) (.str y) H Q=Q (.bl (decide (x=y))) H:=by simp [zcg,uEq,zbr]
theorem zp5{x y:Bool}{H:Hp}{Q:VK}:zcg (.bl x) (.bl y) H Q=Q (.bl (decide (x=y))) H:=by simp [zcg,uEq,zbr]
theorem zuB{a b:Addr}{H:Hp}{Q:VK}:zcg (.ref a) (.ref b) H Q = ∃xs ys,((H a=some (.lst xs)/\H b=some (.lst ys))\/(H a=some (.tup xs)/\H b=some (.tup ys)))/\xs.all zF=true/\ys.all zF=true/\Q (.bl (eqL xs ys)) H:=by
 apply propext;constructor
 ·rintro (h|⟨a',b',xs,ys,e1,e2,h1,h2,f1,f2,q⟩)
  ·rw [zdN] at h
   obtain ⟨xs,ys,h1,h2,f1,f2,q⟩:=h
   exact ⟨xs,ys,.inl ⟨h1,h2⟩,f1,f2,q⟩
  ·cases e1;cases e2;exact ⟨xs,ys,.inr ⟨h1,h2⟩,f1,f2,q⟩
 ·rintro ⟨xs,ys,⟨h1,h2⟩|⟨h1,h2⟩,f1,f2,q⟩
  ·exact .inl (by rw [zdN];exact ⟨xs,ys,h1,h2,f1,f2,q⟩)
  ·exact .inr ⟨a,b,xs,ys,rfl,rfl,h1,h2,f1,f2,q⟩
def zis(kvs:List (Str×Addr))(z:Str):V:=match kvs.find? (λp=>p.1=z) with|some p=>.ref p.2|none=>.non
def zlU(kvs:List (Str×Addr))(te:TE):TE:=λσ H Q=>te σ H λy H1=>uS y λz=>Q (zis kvs z) H1
theorem zna{kvs:List (Str×Addr)}{te:TE}{σ:St}{H:Hp}{Q:VK}:zlU kvs te σ H Q=te σ H λy H1=>uS y λz=>Q (zis kvs z) H1:=rfl
end
def zjq(lo st:Int)(n:Nat):It:=⟨λi _=>i<n,λi H x H'=>H'=H/\x = .int (lo+i*st),λi _=>n<=i⟩
section
variable {X:Cx}{tg:Expr}
def uI3(vs:List V)(q:Int->Int->Int->Prop):Prop:=∃i j k,vs=[.int i,.int j,.int k]/\q i j k
theorem zpA{i j k:Int}{q:Int->Int->Int->Prop}:uI3 [.int i,.int j,.int k] q=q i j k:=by
 apply propext;constructor
 ·rintro ⟨a,b,c,e,h⟩;cases e;exact h
 ·exact λh=>⟨i,j,k,rfl,h⟩
def zmJ(ta:TA):TI:=λσ H R=>ta σ H λvs H1=>uI3 vs λi j k=>(0<=i/\i<=j/\j<2 ^ 20/\0<k/\k<2 ^ 20)/\R (zjq i k ((j-i+k-1) / k).toNat) H1
theorem zsx{ta:TA}{σ:St}{H:Hp}{R:It->Hp->Prop}:zmJ ta σ H R=ta σ H λvs H1=>uI3 vs λi j k=>(0<=i/\i<=j/\j<2 ^ 20/\0<k/\k<2 ^ 20)/\R (zjq i k ((j-i+k-1) / k).toNat) H1:=rfl
end
section
variable {g:TG}{tb:TS}{D:zah}{σ:St}{H:Hp}
end
section
variable {prog:Program}{w:World}{A:Around}{E:Value->Shared->Prop}{s:Shared}
end
def zi4(K:PySem.W.Frag)(a b:Addr):It :=
 ⟨λi H=>∃xs ys x y,SqT K H a xs/\SqL K H b ys/\xs[i]?=some x/\ys[i]?=some y,λi H v H'=>∃T x y,H T=none/\v = .ref T/\H'=upd H T (.tup [x,y])/\(∀xs,SqT K H a xs->xs[i]?=some x)/\∀ys,SqL K H b ys->ys[i]?=some y,
  λi H=>∃xs ys,SqT K H a xs/\SqL K H b ys/\xs.length<=i⟩
structure zhD(z TI TO i1 i2 l1 l2:Addr)(i:Nat)(h:Heap):Prop where
 z:IsZip h z TI TO .none
 ti:IsPair h TI (.ref i1) (.ref i2)
 to:∃a b,IsPair h TO a b
 a:h.IsTupleIter i1 l1 i
 b:h.IsListIter i2 l2 i
theorem zhD.keep{z TI TO i1 i2 l1 l2:Addr}{i:Nat}{h h':Heap}(x:zhD z TI TO i1 i2 l1 l2 i h)(k:∀b∈[z,TI,TO,i1,i2],∀o,h.get? b=some o->h'.get? b=some o):zhD z TI TO i1 i2 l1 l2 i h':=by
 obtain ⟨a1,a2,⟨u,v,a3⟩,a4,a5⟩:=x
 exact ⟨k _ (by simp) _ a1,k _ (by simp) _ a2,⟨u,v,k _ (by simp) _ a3⟩,a4.at λo e=>k _ (by simp) o e,a5.at λo e=>k _ (by simp) o e⟩
section
variable {X:Cx}
def zlA(K:PySem.W.Frag)(ta:TA):TI:=λσ H R=>ta σ H λvs H1=>∃a b,vs=[.ref a,.ref b]/\(∃xs,SqT K H1 a xs)/\(∃ys,SqL K H1 b ys)/\R (zi4 K a b) H1
end
section
variable {K:PySem.W.Frag}{g:TG}{tb:TS}{D:zah}{σ:St}{H:Hp}{ta:TA}{R:It->Hp->Prop}
theorem zpv:zlA K ta σ H R=ta σ H λvs H1=>uR2 vs λa b=>(∃xs,SqT K H1 a xs)/\(∃ys,SqL K H1 b ys)/\R (zi4 K a b) H1:=by
 apply propext
 constructor
 ·intro h
  exact h
 ·intro h
  exact h
end
section
variable {X:Cx}
end
def tx(l:List Nat):Str:=⟨l.toArray⟩
def sg(z:Str):List Nat:=z.cps.toList
theorem zju(z:Str):tx (sg z)=z:=by cases z;simp [sg,tx]
theorem zsg{a b:Str}(h:sg a=sg b):a=b:=by rw [<- zju a,h,zju]
theorem zrF(z:Str):(sg z).length=z.length:=by simp [sg,Str.length]
def c1(c:Nat):Str:=⟨#[c]⟩
section
variable {X:Cx}{tg:Expr}
def zg2(K:PySem.W.Frag)(tl:TE):TI:=λσ H R=>tl σ H λx H1=>uR x λa=>(∃xs,SqL K H1 a xs/\R (Itl K a) H1)\/∃xs,SqT K H1 a xs/\R (Itt K a) H1
theorem zlh{K:PySem.W.Frag}{tl:TE}{σ:St}{H:Hp}{R:It->Hp->Prop}:zg2 K tl σ H R=tl σ H λx H1=>uR x λa=>(∃xs,SqL K H1 a xs/\R (Itl K a) H1)\/∃xs,SqT K H1 a xs/\R (Itt K a) H1:=rfl
theorem zqk{l:Expr}{tl:TE}(hl:PE X l tl):PIc true X tg l (zg2 X.K tl):=by
 intro Ga s σ H R I h
 refine thn (hl Ga s σ H _ I h) λv s1 ⟨x,H1,I1,r1,q1⟩=>?_
 obtain ⟨a,e,q1⟩:=q1
 subst e
 cases r1
 rcases q1 with ⟨xs,hq,q⟩|⟨xs,hq,q⟩
 ·obtain ⟨its,rv,p,hz⟩:=I1.list hq
  refine wpAny_pyIter_list p.isList ⟨s1.heap.objs.size,[s1.heap.objs.size],_,_,H1,rfl,I1.kept (t':=s1.toks) λb o e=>get?_push_of_some _ e,zkw a _,⟨_,get?_push_size _ rfl,rfl,rfl⟩,λb hb=>?_,q⟩
  have e:b=s1.heap.objs.size:=by simpa using hb
  subst e
  exact I1.fpOk (le_refl _) (I1.hok.fresh (le_refl _))
 ·obtain ⟨its,rv,p,hz⟩:=I1.tuple hq
  refine wpAny_pyIter_tuple (show s1.heap.IsTuple a its.toArray from p) ⟨s1.heap.objs.size,[s1.heap.objs.size],_,_,H1,rfl,I1.kept (t':=s1.toks) λb o e=>get?_push_of_some _ e,zhL a _,⟨_,get?_push_size _ rfl,rfl,rfl⟩,λb hb=>?_,q⟩
  have e:b=s1.heap.objs.size:=by simpa using hb
  subst e
  exact I1.fpOk (le_refl _) (I1.hok.fresh (le_refl _))
theorem zn8{l:Expr}{tl:TE}(hl:W (PE X l tl)):W (PIc true X tg l (zg2 X.K tl)):=⟨zqk hl.h⟩
end
section
variable {K:PySem.W.Frag}{g:TG}{tt:TT}{te:TE}{H:Hp}{Q:VK}{R:It->Hp->Prop}
theorem zak.tup{a:Addr}{xs:List V}{τ:St}(Pv:Nat->St->List V->Hp->Prop)(hz:∀i τ ys H,Pv i τ ys H->ys.length<sizeLine)(ha:∀i τ ys H,Pv i τ ys H->SqT K H a xs)(h0:Pv 0 τ [] H)
  (hs:∀(N:St->List V->Hp->Prop) i x τ ys H,xs[i]?=some x->Pv i τ ys H->(∀τ ys H,Pv (i+1) τ ys H->N τ ys H)->g x τ H λτ1 H4=>tt τ1 H4 λok H5=>zbO N ys τ1 te ok H5) (hd:∀τ ys H,Pv xs.length τ ys H->∀D H',New H D (.lst ys) H'->Q (.ref D) H'):zak (Itt K a) g tt te τ H Q:=by
 refine ⟨λi m τ ys H=>m=xs.length-i/\i<=xs.length/\Pv i τ ys H,⟨xs.length,by simp,zero_le _,h0⟩,?_⟩
 rintro i m τ ys H2 ⟨rfl,hi,p⟩
 refine ⟨hz i τ ys H2 p,?_⟩
 have q:=ha i τ ys H2 p
 by_cases hlt:i<xs.length
 ·refine .inr ⟨⟨xs,xs[i],q,by simp [hlt]⟩,λx H' y=>?_⟩
  obtain ⟨e,y⟩:=y
  subst e
  exact hs (λτ1 ys H=>∃m',m'<xs.length-i/\m'=xs.length-(i+1)/\i+1<=xs.length/\Pv (i+1) τ1 ys H) i x τ ys _ (y xs q) p λτ1 zs H q=>⟨xs.length-(i+1),by omega,rfl,hlt,q⟩
 ·have e:i=xs.length:=by omega
  subst e
  exact .inl ⟨⟨xs,q,le_refl _⟩,λD hD _=>hd τ ys H2 p D _ (.mk' hD)⟩
theorem zqR{c:Bool}{a:Addr}{H:Hp}{Q:VK}:zbt c (.ref a) .non H Q=Q (.bl (if c then true else false)) H:=by simp [zbt]
theorem zr4{c:Bool}{a:Str}{H:Hp}{Q:VK}:zbt c (.str a) .non H Q=Q (.bl (if c then true else false)) H:=by simp [zbt]
end
section
variable {M:Model}{A:Around}{E:Value->Shared->Prop}{s:Shared}{B:Heap}{env:Env}{outer l:List Env}{L e:Addr}{cls fl:Value}
end
section
variable {X:Cx}
def ziF:R2:=λx y H Q=>uEq true x y H Q\/∃a b xs ys,x = .ref a/\y = .ref b/\H a=some (.tup xs)/\H b=some (.tup ys)/\xs.all zF=true/\ys.all zF=true/\Q (.bl (!eqL xs ys)) H
theorem zuR(hu:X.A.units<cLine):OpR X (compareOp .NotEq) (λx y H Q=>∃a b xs ys,x = .ref a/\y = .ref b/\H a=some (.tup xs)/\H b=some (.tup ys)/\xs.all zF=true/\ys.all zF=true/\Q (.bl (!eqL xs ys)) H):=by
 intro Ga s σ H x y v u Q I rx ry h
 obtain ⟨a,b,xs,ys,rfl,rfl,ha,hb,fx,fy,q⟩:=h
 cases rx
 cases ry
 obtain ⟨is,r1,p1,_⟩:=I.tuple (SqT.of (K:=X.K) ha)
 obtain ⟨js,r2,p2,_⟩:=I.tuple (SqT.of (K:=X.K) hb)
 have l1:=r1.length
 have l2:=r2.length
 refine SeqAt.RcNeAt.tuples (e:=λj=>eqV (xs.getD j .non) (ys.getD j .non)) p1 p2 hu (λj h1 h2=>?_) _ _ _ _ ⟨.bl _,H,I,rfl,?_⟩
 ·simp only [size_toArray] at h1 h2
  have e1:xs[j]?=some (xs.getD j .non):=by rw [getD_eq_getElem?_getD,List.getElem?_eq_getElem (by omega)];rfl
  have e2:ys[j]?=some (ys.getD j .non):=by rw [getD_eq_getElem?_getD,List.getElem?_eq_getElem (by omega)];rfl
  obtain ⟨u,g1,q1⟩:=r1.get e1
  obtain ⟨v,g2,q2⟩:=r2.get e2
  rw [List.getElem?_eq_getElem h1] at g1
  rw [List.getElem?_eq_getElem h2] at g2
  have w1:is.toArray[j]=u:=by simpa using Option.some.inj g1
  have w2:js.toArray[j]=v:=by simpa using Option.some.inj g2
  rw [w1,w2]
  exact zeY q1 q2 (all_eq_true.mp fx _ (mem_of_getElem? e1)) (all_eq_true.mp fy _ (mem_of_getElem? e2))
 ·have e:eqL xs ys=((List.range (min is.toArray.size js.toArray.size)).all (λj=>eqV (xs.getD j .non) (ys.getD j .non))&&is.toArray.size==js.toArray.size):=by
   unfold eqL
   simp only [size_toArray]
   rw [l1,l2]
   by_cases hz:is.length=js.length
   ·rw [hz];simp
   ·have z:(is.length==js.length)=false:=by simpa using hz
    rw [z,Bool.false_and,Bool.and_false]
  rw [<- e]
  exact q
theorem zpq(hu:X.A.units<cLine):OpR X (compareOp .NotEq) ziF:=(zdI hu).or (zuR hu)
theorem zuJ{a b:Addr}{H:Hp}{Q:VK}:ziF (.ref a) (.ref b) H Q = ∃xs ys,((H a=some (.lst xs)/\H b=some (.lst ys))\/(H a=some (.tup xs)/\H b=some (.tup ys)))/\xs.all zF=true/\ys.all zF=true/\Q (.bl (!eqL xs ys)) H:=by
 apply propext;constructor
 ·rintro (h|⟨a',b',xs,ys,e1,e2,h1,h2,f1,f2,q⟩)
  ·rw [zdN] at h
   obtain ⟨xs,ys,h1,h2,f1,f2,q⟩:=h
   exact ⟨xs,ys,.inl ⟨h1,h2⟩,f1,f2,q⟩
  ·cases e1;cases e2;exact ⟨xs,ys,.inr ⟨h1,h2⟩,f1,f2,q⟩
 ·rintro ⟨xs,ys,⟨h1,h2⟩|⟨h1,h2⟩,f1,f2,q⟩
  ·exact .inl (by rw [zdN];exact ⟨xs,ys,h1,h2,f1,f2,q⟩)
  ·exact .inr ⟨a,b,xs,ys,rfl,rfl,h1,h2,f1,f2,q⟩
theorem zhu{K:PySem.W.Frag}(h:X.K=K):zL X (.builtin "isinstance") (zej K):=by subst h;exact zcO
def zrZ:Str->V->Hp->VK->Prop:=λz y H Q=>uS y λq=>Q (.int (PySem.Txt.find z q)) H
theorem zqA{z q:Str}{H:Hp}{Q:VK}:zrZ z (.str q) H Q=Q (.int (PySem.Txt.find z q)) H:=zeP
def zda:List V->Hp->VK->Prop:=λxs H Q=>zct xs H Q\/∃b:Bool,xs=[.bl b]/\Q (.str (if b then "True" else "False")) H
theorem znZ{i:Int}{H:Hp}{Q:VK}:zda [.int i] H Q=(i.natAbs.log2<1920/\Q (.str (toString i)) H):=by simp [zda,zjU]
theorem zlG{z:Str}{H:Hp}{Q:VK}:zda [.str z] H Q=Q (.str z) H:=by simp [zda,zh3]
theorem zt8{b:Bool}{H:Hp}{Q:VK}:zda [.bl b] H Q=Q (.str (if b then "True" else "False")) H:=by simp [zda,zct,zcA]
end
theorem zny{c:Bool}{X:Cx}{elt tg iter:Expr}{ifs:List Expr}{sc:Scope}{pos pos' pos0:Pos}{N':List Str}{ix:List (Option Nat)}{wi:TI}{g:TG}{tt:TT}{te:TE}{i0:Nat}{x0:Str}(hN0:X.N.Nodup)(hi0:X.N[i0]?=some x0)(hx0:Loc X.env.scope x0)(hc:c=true->X.calm=true)(L:zaj X sc N' ix)(hi:PIc c X tg iter wi)
  (hg:∀Ga C fp s H,PG (zo X sc N' Ga C fp s H) tg g) (ht:∀Ga C fp s H,PTs (zo X sc N' Ga C fp s H) ifs tt) (he:∀Ga C fp s H,PE (zo X sc N' Ga C fp s H) elt te)
  (hs:∀x,foldedSetIterable iter X.env x=pure x:=by intro _;rfl) (hsw:swapsWith (.ListComp elt [⟨tg,iter,ifs,0⟩] sc pos) (some (.Name x0 pos')) pos0.line X.env=pure true:=by rfl) (hf0:X.fn x0=true\/X.env.scope.names.lookup x0=some .local:=by first|exact .inl rfl|exact .inr rfl|assumption) :
  PS X (.Assign [.Name x0 pos'] (.ListComp elt [⟨tg,iter,ifs,0⟩] sc pos) pos0) (zcj (tLC ix wi g tt te) (zaM i0)):=by
 intro Ga s σ H Z I h
 rw [exec_Assign_Name_used x0 pos' _ pos0 hsw]
 refine wpAny_bind (wpAny_standAt (wpAny_bind ?_))
 rw [arm_evalThenUse_ListComp]
 have hclos:closureFor sc X.env=pure (zaa X.env.cells sc.names []):=zfd λy hy hk=>I.ok.has y.1 (.inl (L.free y hy hk).1)
 show wpAny (model X.prog X.w) X.A (comprehension (.ListComp elt [⟨tg,iter,ifs,0⟩] sc pos) sc X.env (firstIterPos [⟨tg,iter,ifs,0⟩] pos) (newList []) (firstAsync [⟨tg,iter,ifs,0⟩]) (firstIter [⟨tg,iter,ifs,0⟩] X.env) (some (assign (.Name x0 pos') X.env))>>=λ_=>pure ()) _ _ _
 refine wpAny_bind ?_
 refine wpAny_comprehension_free (use:=some (assign (.Name x0 pos') X.env)) rfl hs hclos L.kind L.names (thn (hi Ga s σ H _ I h) λv s1 h1=>thn h1 λitv s2 h2=>?_)
 obtain ⟨it,fp,tn,J,H2,e,I2,T,st2,f2,W,⟨m0,w0⟩,turn⟩:=h2
 subst e
 refine wpAny_newObj_type (wpAny_newFunctionEnv L.cell (by intro y hy;simp at hy) (λh₁ hns₁ hsb₁=>?_) L.kind)
 dsimp only at hns₁ hsb₁ ⊢
 generalize hH2:s2.heap.push { cls:=.type "list",dict:=none,data:=.seq ([]:List Value).toArray }=G2 at hns₁ hsb₁ ⊢
 have hC:G2.objs.size=s2.heap.objs.size+1:=by rw [<- hH2,size_push]
 have hDC:s2.heap.objs.size≠G2.objs.size:=by rw [hC];exact ne_of_lt (lt_succ_self _)
 have hCle:s2.heap.objs.size<=G2.objs.size:=by rw [hC];exact le_succ _
 have below:∀b,b<s2.heap.objs.size->b≠G2.objs.size/\b≠s2.heap.objs.size:=λb hb=>⟨by rw [hC];exact ne_of_lt (lt_succ_of_lt hb),ne_of_lt hb⟩
 have old:∀b o,s2.heap.get? b=some o->h₁.get? b=some o:=λb o e=>hsb₁.extBut b o (below b (lt_size e)).1 (get?_push_of_some _ (hH2 ▸ get?_push_of_some _ e))
 have hacc:h₁.get? s2.heap.objs.size=some { cls:=.type "list",data:=.seq ([]:List Value).toArray 0 }:=hsb₁.extBut _ _ hDC (get?_push_of_some _ (hH2 ▸ get?_push_size _ rfl))
 have fl:∀b∈fp,b<s2.heap.objs.size:=λb hb=>by
  obtain ⟨o,e,_⟩:=T.obj 0 _ st2 b hb
  exact lt_size e
 have hDfp:s2.heap.objs.size∉fp:=λz=>lt_irrefl _ (fl _ z)
 generalize hD:s2.heap.objs.size=D at *
 generalize hCe:G2.objs.size=C at *
 have cof:∀x c,(zaa X.env.cells sc.names []).lookup x=some c->X.env.cells.lookup x=some c:=λx c h=>by
  rcases zdv h with h|h
  ·cases h
  ·exact h.1
 have st1:tn 0 h₁:=T.keep _ _ _ st2 λb _ o e=>old b o e
 have I3:Inv (zo X sc N' Ga C fp s2 H2) [] (zaG ix σ) H2 { s2 with heap:=h₁,toks:=s2.toks+([]:List (Str×Value)).length }:=zff I2 L f2 (λb hb=>by rw [hD];exact fl b hb) (by rw [hD];exact hCle) hns₁ old
 have D0:H2 D=none:=I2.hok.fresh (le_of_eq hD)
 have fD:∀{H':Hp},H' D=none->zS (zo X sc N' Ga C fp s2 H2) [] H' D:=λ{H'} hn=>by
  refine ⟨hn,hDC,λz=>?_,.inr (le_of_eq hD),λx c hx z=>?_,λp hp z=>?_⟩
  ·obtain ⟨_,o,ho,_⟩:=I2.stack.mem (show D∈frs X.stack from z)
   exact absurd (lt_size ho) (by rw [hD];exact lt_irrefl _)
  ·obtain ⟨v,q⟩:=I2.cell x c (cof x c hx)
   have:=q.lt
   rw [z,hD] at this
   exact lt_irrefl _ this
  ·have hp':p∈X.pn++Ga:=by
    have:p∈(X.pn++Ga)++[]:=hp
    simpa using this
   have:=lt_size (I2.pin p hp').1
   rw [z,hD] at this
   exact lt_irrefl _ this
 have fF:∀{H':Hp},(∀b∈fp,H' b=none)->∀b∈fp,zS (zo X sc N' Ga C fp s2 H2) [] H' b:=λ{H'} hn b hb=>by
  obtain ⟨_,g1,g2,g3,g4,g5⟩:=f2 b hb
  refine ⟨hn b hb,(below b (fl b hb)).1,λz=>?_,.inl hb,λx c hx=>g4 x c (cof x c hx),λp hp=>g5 p ?_⟩
  ·rcases mem_cons.mp (I2.stkSub b z) with e|e
   ·exact g1 e
   ·exact g2 e
  ·have:p∈(X.pn++Ga)++[]:=hp
   simpa using this
 have loop:∀s₃:Shared,s₃={ s2 with heap:=h₁,toks:=s2.toks+([]:List (Str×Value)).length } ->
   codeAny (model X.prog X.w) X.A (.compLoop (.ListComp elt [⟨tg,iter,ifs,0⟩] sc pos) 0 (.ref it) (.ref D) (compEnvC sc (zaa X.env.cells sc.names []) C X.env))
    (compPost (model X.prog X.w) X.A X.xe (some (assign (.Name x0 pos') X.env)) (λ_ s'=>wpAny (model X.prog X.w) X.A (pure ()) (λ_ s''=>wpAny (model X.prog X.w) X.A (pure Flow.next) (SP X Ga Z) X.xe s'') X.xe s') (.ref D) C) s₃:=by
  rintro s₃ rfl
  refine zhY (λn s'=>∃i τ ys H',Inv (zo X sc N' Ga C fp s2 H2) [] τ H' s'/\tn i s'.heap/\(∀b∈fp,H' b=none)/\H' D=none/\(∃its k,zi ys its/\s'.heap.get? D=some { cls:=.type "list",data:=.seq its.toArray k })/\W i n τ ys H')
   ?_ m0 ⟨0,_,[],H2,I3,st1,λb hb=>(f2 b hb).1,D0,⟨[],0,.nil,hacc⟩,w0⟩
  rintro n s4 ⟨i,τ,ys,H4,I4,st4,fr4,dn4,⟨its,k,rv,dg⟩,w4⟩
  obtain ⟨hlen,step⟩:=turn i n τ ys H4 w4
  rcases step with ⟨stop,fin⟩|⟨go,step⟩
  ·refine thn (T.done (zo X sc N' Ga C fp s2 H2) rfl rfl rfl hc i [(D,({ cls:=.type "list",data:=.seq its.toArray k }:Obj))] s4 τ H4 (λ_ _=>False) (I4.pins_of λp hp=>?_) (λb hb=>?_) st4 stop) λr s5 ⟨hr,I5⟩=>?_
   ·have e:p=(D,{ cls:=.type "list",data:=.seq its.toArray k }):=by simpa using hp
    subst e
    obtain ⟨g0,g1,g2,_⟩:=fD dn4
    exact ⟨dg,g0,g1,g2,λv z=>(nomatch z)⟩
   ·obtain ⟨g0,g1,g2,g3,g4,g5⟩:=fF fr4 b hb
    refine ⟨g0,g1,g2,g3,g4,λp hp=>?_⟩
    rcases mem_append.mp hp with z|z
    ·exact g5 p (mem_append_left _ z)
    ·have e:p=(D,{ cls:=.type "list",data:=.seq its.toArray k }):=by simpa using z
     subst e
     exact λq=>hDfp (by have q':D=b:=q;rw [q'];exact hb)
   ·subst hr
    have dg5:=(I5.pin (D,_) (mem_append_right _ (mem_singleton.mpr rfl))).1
    obtain ⟨m5,hn5,_⟩:=id I5.loc
    have hlt:∀b o,s2.heap.get? b=some o->b≠C/\b≠D:=λb o e=>by
     have:=lt_size e
     rw [hD] at this
     exact below b this
    have U:=I5.base
    have IX:Inv X Ga σ (upd H4 D (.lst ys)) s5:=by
     refine I2.call' (s':=s5) (ch:=fp) I5.os ⟨λb o e n hb hx=>U.keep b o e n hb hx,λb o e n hb hx=>U.slot b o e n hb hx,λb o e n hx=>?_,λb o e hx=>U.there b o e hx,λb xs e=>?_,λb o u e=>?_,λb ps e=>?_⟩ ?_ I5.bare (λb hb=>?_)
     ·rw [ze (hlt b o e).2]
      exact U.free b o e n hx
     ·have q:=U.tups b xs e
      rw [ze (zD q dn4)]
      exact q
     ·have q:=U.frzs b o u e
      rw [ze (zD q dn4)]
      exact q
     ·obtain ⟨more,q⟩:=U.tbls b ps e
      exact ⟨more,by rw [ze (zD q dn4)];exact q⟩
     ·exact I5.hok.add dn4 ⟨le_of_lt hlen,its,k,rv,dg5⟩
     ·obtain ⟨_,g1,g2,g3,g4,g5⟩:=f2 b hb
      exact ⟨g3,g1,g4,g5⟩
    obtain ⟨oC,esC,epC,gC,rC⟩:=id hn5
    have dataC:∀v,oC.data≠.cell v:=λv z=>by rw [rC.1] at z;cases z
    have CneD:C≠D:=Ne.symm hDC
    have HC:upd H4 D (.lst ys) C=none:=by rw [ze CneD];exact I5.free
    have CneL:C≠X.env.locals:=λz=>by
     have:=I2.lt
     rw [<- z,hD] at this
     exact absurd (lt_of_lt_of_le this hCle) (lt_irrefl _)
    have Cfs:C∉X.fs:=I2.nofs (by rw [hD];exact hCle)
    have IXp:=IX.pins_of (pins':=Ga++[(C,oC)]) λp hp=>by
     rcases mem_append.mp hp with z|z
     ·exact IX.pin p (mem_append_right _ z)
     ·rw [mem_singleton.mp z]
      exact ⟨gC,HC,CneL,Cfs,dataC⟩
    refine thn (zj3 hN0 hi0 hx0 hf0 (Ga++[(C,oC)]) s5 σ (upd H4 D (.lst ys)) (.ref D) (.ref D) Z.nx IXp rfl (fin D dn4 (by have h:mainGlobals<s2.heap.objs.size:=(I2.mod.glob.keeps I2.bk).lt;rw [hD] at h;exact ne_of_gt (lt_trans (by decide) h)))) λ_ s6 ⟨σ6,H6,I6,q6⟩=>?_
    obtain ⟨p6,p6n,_⟩:=I6.pin (C,oC) (mem_append_right _ (mem_append_right _ (mem_singleton.mpr rfl)))
    refine ⟨m5,⟨oC,esC,epC,p6,rC⟩,λh' hsb=>wpAny_pure (wpAny_pure ?_)⟩
    have I7:Inv X Ga σ6 H6 s6:=I6.pins_of λp hp=>I6.pin p (mem_append_right _ (mem_append_left _ hp))
    refine ⟨σ6,H6,I7.turned (t':=s6.toks) (it:=C) (λb o hb e=>(hsb.2 b hb).trans e) p6n CneL (.inr (le_trans I2.sz (by rw [hD];exact hCle))) (λx c hx z=>?_) (λp hp z=>?_),q6⟩
    ·obtain ⟨v,q⟩:=I2.cell x c hx
     have:=q.lt
     rw [z,hD] at this
     exact absurd (lt_of_lt_of_le this hCle) (lt_irrefl _)
    ·have:=lt_size (I2.pin p hp).1
     rw [z,hD] at this
     exact absurd (lt_of_lt_of_le this hCle) (lt_irrefl _)
  ·refine thn (T.item (zo X sc N' Ga C fp s2 H2) rfl rfl rfl hc i [(D,({ cls:=.type "list",data:=.seq its.toArray k }:Obj))] s4 τ H4 (λ_ _=>False) (I4.pins_of λp hp=>?_) (λb hb=>?_) st4 go) λr s5 ⟨u,hr,h5⟩=>?_
   ·have e:p=(D,{ cls:=.type "list",data:=.seq its.toArray k }):=by simpa using hp
    subst e
    obtain ⟨g0,g1,g2,_⟩:=fD dn4
    exact ⟨dg,g0,g1,g2,λv z=>(nomatch z)⟩
   ·obtain ⟨g0,g1,g2,g3,g4,g5⟩:=fF fr4 b hb
    refine ⟨g0,g1,g2,g3,g4,λp hp=>?_⟩
    rcases mem_append.mp hp with z|z
    ·exact g5 p (mem_append_left _ z)
    ·have e:p=(D,{ cls:=.type "list",data:=.seq its.toArray k }):=by simpa using z
     subst e
     exact λq=>hDfp (by have q':D=b:=q;rw [q'];exact hb)
   ·subst hr
    refine thn h5 λ_ s6 ⟨x,H6,I6,r6,y6,st6,fr6⟩=>?_
    obtain ⟨dg6,dn6,_⟩:=I6.pin (D,_) (mem_append_right _ (mem_singleton.mpr rfl))
    have dn6':H6 D=none:=dn6
    have all6:∀b∈D::fp,zS (zo X sc N' Ga C fp s2 H2) [] H6 b:=λb hb=>by
     rcases mem_cons.mp hb with z|z
     ·subst z;exact fD dn6'
     ·exact fF fr6 b z
    have obj6:∀b∈D::fp,∃o,s6.heap.get? b=some o/\∀v,o.data≠.cell v:=λb hb=>by
     rcases mem_cons.mp hb with z|z
     ·subst z;exact ⟨_,dg6,λv q=>(nomatch q)⟩
     ·exact T.obj _ _ st6 b z
    have I6':=(I6.unpinned (Ga:=[])).pinned all6 obj6
    refine thn (hg Ga C fp s2 H2 _ s6 τ H6 x u _ I6' r6 (step x H6 y6)) λ_ s7 ⟨τ7,H7,I7,q7⟩=>?_
    refine thn (ht Ga C fp s2 H2 _ s7 τ7 H7 _ I7 q7) λok s8 ⟨H8,I8,q8⟩=>?_
    have back:∀{s9:Shared}{H9:Hp},Inv (zo X sc N' Ga C fp s2 H2) ([]++zby (D::fp) s6.heap) τ7 H9 s9->s9.heap.get? D=some { cls:=.type "list",data:=.seq its.toArray k }/\H9 D=none/\tn (i+1) s9.heap/\∀b∈fp,H9 b=none:=λ{s9 H9} I9=>by
     have pin:∀b o,b∈D::fp->s6.heap.get? b=some o->s9.heap.get? b=some o/\H9 b=none:=λb o hb e=>by
      have q:=I9.pin (b,o) (mem_append_right _ (mem_append_right _ (zbG hb e)))
      exact ⟨q.1,q.2.1⟩
     refine ⟨(pin D _ mem_cons_self dg6).1,(pin D _ mem_cons_self dg6).2,T.keep _ _ _ st6 λb hb o e=>(pin b o (mem_cons_of_mem _ hb) e).1,λb hb=>?_⟩
     obtain ⟨o,e,_⟩:=T.obj _ _ st6 b hb
     exact (pin b o (mem_cons_of_mem _ hb) e).2
    cases ok with
    | false =>
     obtain ⟨b1,b2,b3,b4⟩:=back I8
     simp only [false_eq_true,if_false] at q8 ⊢
     obtain ⟨m',hm,w'⟩:=q8
     exact ⟨m',hm,i+1,τ7,ys,H8,I8.unpinned,b3,b4,b2,⟨its,k,rv,b1⟩,w'⟩
    | true =>
     simp only [if_true] at q8 ⊢
     refine thn (he Ga C fp s2 H2 _ s8 τ7 H8 _ I8 q8) λy s9 ⟨yv,H9,I9,r9,m',hm,w'⟩=>?_
     obtain ⟨b1,b2,b3,b4⟩:=back I9
     have el:its.toArray.size<=sizeLine:=by
      have:=rv.length
      simp only [size_toArray]
      omega
     refine append_at (hsz:=el) b1 λh10 sb hD10=>?_
     obtain ⟨_,g1,_,g3,g4,g5⟩:=fD b2
     refine ⟨m',hm,i+1,τ7,ys++[yv],H9,(I9.unpinned (Ga:=[])).turned (t':=s9.toks) (λb o hb e=>(sb.2 b hb).trans e) b2 g1 g3 g4 g5,T.keep _ _ _ b3 λb hb o e=>(sb.2 b λq=>hDfp (by rw [<- q];exact hb)).trans e,b4,b2,⟨its++[y],k+1,rv.append (.cons r9 .nil),?_⟩,w'⟩
     show h10.get? D=_
     rw [hD10]
     simp
 exact codeAny_compStart_list (loop _ rfl) (T.self _ 0 _ _ _ st1 (loop _ rfl))
theorem zjs{c:Bool}{X:Cx}{elt tg iter:Expr}{ifs:List Expr}{sc:Scope}{pos pos' pos0:Pos}{N':List Str}{ix:List (Option Nat)}{wi:TI}{g:TG}{tt:TT}{te:TE}{i0:Nat}{x0:Str}(hN0:X.N.Nodup)(hi0:X.N[i0]?=some x0)(hx0:Loc X.env.scope x0)(hc:c=true->X.calm=true)(L:zaj X sc N' ix)(hi:W (PIc c X tg iter wi))
  (hg:∀Ga C fp s H,W (PG (zo X sc N' Ga C fp s H) tg g)) (ht:∀Ga C fp s H,W (PTs (zo X sc N' Ga C fp s H) ifs tt)) (he:∀Ga C fp s H,W (PE (zo X sc N' Ga C fp s H) elt te))
  (hs:∀x,foldedSetIterable iter X.env x=pure x:=by intro _;rfl) (hsw:swapsWith (.ListComp elt [⟨tg,iter,ifs,0⟩] sc pos) (some (.Name x0 pos')) pos0.line X.env=pure true:=by rfl) (hf0:X.fn x0=true\/X.env.scope.names.lookup x0=some .local:=by first|exact .inl rfl|exact .inr rfl|assumption) :
  W (PS X (.Assign [.Name x0 pos'] (.ListComp elt [⟨tg,iter,ifs,0⟩] sc pos) pos0) (zcj (tLC ix wi g tt te) (zaM i0))) :=
 ⟨zny hN0 hi0 hx0 hc L hi.h (λa b c d e=>(hg a b c d e).h) (λa b c d e=>(ht a b c d e).h) (λa b c d e=>(he a b c d e).h) hs hsw hf0⟩
section
variable {κ:Type} [DecidableEq κ]
def zH(kvs:List (κ×V))(k:κ):Option V:=(kvs.find? λkv=>decide (kv.1=k)).map (·.2)
def zac(kvs:List (κ×V))(k:κ)(v:V):List (κ×V) :=
 if (kvs.any λkv=>decide (kv.1=k))=true then kvs.map (λkv=>if kv.1=k then (kv.1,v) else kv) else kvs++[(k,v)]
def zaB(kvs:List (κ×V))(k:κ):List (κ×V):=kvs.filter λkv=>decide (kv.1≠k)
theorem zdL{p:κ×V}{r:List (κ×V)}{k:κ}(e:p.1=k):zH (p::r) k=some p.2:=by simp [zH,find?_cons,e]
theorem zds{p:κ×V}{r:List (κ×V)}{k:κ}(e : ¬ p.1=k):zH (p::r) k=zH r k:=by simp [zH,find?_cons,e]
theorem zht(k:κ):∀kvs:List (κ×V),(kvs.any λkv=>decide (kv.1=k))=(zH kvs k).isSome
 | []=>rfl
 | p::r=>by
  rw [any_cons]
  by_cases e:p.1=k
  ·simp only [zdL e,decide_eq_true e,Bool.true_or,Option.isSome_some]
  ·rw [zds e,decide_eq_false e,Bool.false_or];exact zht k r
theorem zjo(kvs:List (κ×V))(k:κ)(v:V):(zac kvs k v).length<=kvs.length+1:=by
 unfold zac
 split
 ·rw [length_map];omega
 ·rw [length_append,length_cons,length_nil];omega
theorem zat.isSome_eq{o:Option V}{u:Option Value}(r:zat o u):o.isSome=u.isSome:=by
 cases o with
 | none=>cases u with
  | none=>rfl
  | some _=>exact (show False from r).elim
 | some _=>cases u with
  | none=>exact (show False from r).elim
  | some _=>rfl
theorem zat.getD{o:Option V}{u:Option Value}{d:V}{d':Value}(r:zat o u)(rd:zm d d'):zm (o.getD d) (u.getD d'):=by
 cases o with
 | none=>cases u with
  | none=>exact rd
  | some _=>exact (show False from r).elim
 | some _=>cases u with
  | none=>exact (show False from r).elim
  | some _=>exact r
theorem KV.val{kvs:List (κ×V)}{vs:List (κ×Value)}(r:KV kvs vs)(k:κ):zat (zH kvs k) (valueAt vs k):=by
 unfold KV at r
 induction r with
 | nil=>exact True.intro
 | @cons p q ps qs h t ih =>
  obtain ⟨h1,h2⟩:=h
  by_cases e:p.1=k
  ·have e':q.1=k:=h1.symm.trans e
   have b:valueAt (q::qs) k=some q.2:=by simp [valueAt,find?_cons,e']
   rw [zdL e,b];exact h2
  ·have e' : ¬ q.1=k:=λz=>e (h1.trans z)
   have b:valueAt (q::qs) k=valueAt qs k:=by simp [valueAt,find?_cons,e']
   rw [zds e,b];exact ih
theorem KV.any{kvs:List (κ×V)}{vs:List (κ×Value)}(r:KV kvs vs)(k:κ):(kvs.any λkv=>decide (kv.1=k))=vs.any λkv=>decide (kv.1=k):=by
 unfold KV at r
 induction r with
 | nil=>rfl
 | cons h t ih=>rw [any_cons,any_cons,ih,h.1]
theorem KV.repl{kvs:List (κ×V)}{vs:List (κ×Value)}(r:KV kvs vs)(k:κ){y:V}{u:Value}(ry:zm y u) :
  KV (kvs.map λkv=>if kv.1=k then (kv.1,y) else kv) (vs.map λkv=>if kv.1=k then (kv.1,u) else kv):=by
 unfold KV at r ⊢
 induction r with
 | nil=>exact .nil
 | @cons p q ps qs h t ih =>
  rw [map_cons,map_cons]
  refine .cons ?_ ih
  obtain ⟨h1,h2⟩:=h
  by_cases e:p.1=k
  ·rw [if_pos e,if_pos (h1.symm.trans e)];exact ⟨h1,ry⟩
  ·rw [if_neg e,if_neg (λz=>e (h1.trans z))];exact ⟨h1,h2⟩
theorem KV.put{kvs:List (κ×V)}{vs:List (κ×Value)}(r:KV kvs vs)(k:κ){y:V}{u:Value}(ry:zm y u):KV (zac kvs k y) (stored vs k u):=by
 unfold zac stored
 rw [r.any k]
 by_cases e:(vs.any λkv=>decide (kv.1=k))=true
 ·rw [if_pos e,if_pos e];exact r.repl k ry
 ·rw [if_neg e,if_neg e];exact Paired.snoc r ⟨rfl,ry⟩
theorem KV.drop{kvs:List (κ×V)}{vs:List (κ×Value)}(r:KV kvs vs)(k:κ):KV (zaB kvs k) (without vs k):=by
 unfold KV at r ⊢
 unfold zaB without
 induction r with
 | nil=>exact .nil
 | @cons p q ps qs h t ih =>
  obtain ⟨h1,h2⟩:=h
  rw [filter_cons,filter_cons]
  by_cases e:p.1=k
  ·have a : ¬ decide (p.1≠k)=true:=by simp [e]
   have b : ¬ decide (q.1≠k)=true:=by simp [h1.symm.trans e]
   rw [if_neg a,if_neg b];exact ih
  ·have e' : ¬ q.1=k:=λz=>e (h1.trans z)
   have a:decide (p.1≠k)=true:=by simp [e]
   have b:decide (q.1≠k)=true:=by simp [e']
   rw [if_pos a,if_pos b];exact .cons ⟨h1,h2⟩ ih
theorem KV.length{kvs:List (κ×V)}{vs:List (κ×Value)}(r:KV kvs vs):kvs.length=vs.length:=Paired.length r
theorem ziy(kvs:List (κ×V))(k:κ):(zaB kvs k).length<=kvs.length:=List.length_filter_le _ _
end
theorem zbl{P:Program}{w:World}{k:Key}{u:Value}(r:zm (kV k) u):(zW P w).is k u=true:=by
 cases k with
 | inl i=>obtain ⟨t,e⟩:=(show ∃t,u=Value.int i t from r);subst e;exact zu3 P w i t
 | inr x=>obtain ⟨t,e⟩:=(show ∃t,u=Value.str x t from r);subst e;exact zqi P w x t
theorem zkl{P:Program}{w:World}:∀{ks:List Key}{us:List Value},zi (ks.map kV) us->ItemsAre (zW P w) ks us
 | [],_,r=>by rw [map_nil] at r;cases r;exact .nil
 | k::ks,_,r=>by
  rw [map_cons] at r
  cases r with
  | cons h t=>exact .cons (zbl h) (zkl t)
abbrev KT(H:Hp):List (List Key×V)->List (List Key×Addr×Value)->Prop:=Paired λp q=>p.1=q.1/\H q.2.1=some (.tup (p.1.map kV))/\zm p.2 q.2.2
theorem KT.val{H:Hp}{kvs:List (List Key×V)}{xs:List (List Key×Addr×Value)}(r:KT H kvs xs)(k:List Key):zat (zH kvs k) ((atKey xs k).map (·.2)):=by
 induction r with
 | nil=>exact True.intro
 | @cons p q ps qs h t ih =>
  obtain ⟨h1,_,h2⟩:=h
  by_cases e:p.1=k
  ·have e':q.1=k:=h1.symm.trans e
   have b:atKey (q::qs) k=some q.2:=by simp [atKey,find?_cons,e']
   rw [zdL e,b];exact h2
  ·have e' : ¬ q.1=k:=λz=>e (h1.trans z)
   have b:atKey (q::qs) k=atKey qs k:=by simp [atKey,find?_cons,e']
   rw [zds e,b];exact ih
theorem KT.repl{H:Hp}{kvs:List (List Key×V)}{xs:List (List Key×Addr×Value)}(r:KT H kvs xs)(k:List Key){y:V}{u:Value}(ry:zm y u) :
  KT H (kvs.map λkv=>if kv.1=k then (kv.1,y) else kv) (xs.map (putAt k u)):=by
 induction r with
 | nil=>exact .nil
 | @cons p q ps qs h t ih =>
  rw [map_cons,map_cons]
  refine .cons ?_ ih
  obtain ⟨h1,h2,h3⟩:=h
  unfold putAt
  by_cases e:p.1=k
  ·rw [if_pos e,if_pos (h1.symm.trans e)];exact ⟨h1,h2,ry⟩
  ·rw [if_neg e,if_neg (λz=>e (h1.trans z))];exact ⟨h1,h2,h3⟩
theorem KT.put{H:Hp}{kvs:List (List Key×V)}{xs:List (List Key×Addr×Value)}(r:KT H kvs xs)(k:List Key){b:Addr}{y:V}{u:Value}(hb:H b=some (.tup (k.map kV)))(ry:zm y u) :
  KT H (zac kvs k y) (storedH xs k b u):=by
 have e:(kvs.any λkv=>decide (kv.1=k))=(atKey xs k).isSome:=by
  rw [zht,(r.val k).isSome_eq,isSome_map]
 unfold zac storedH
 rw [e]
 by_cases q:(atKey xs k).isSome=true
 ·rw [if_pos q,if_pos q];exact r.repl k ry
 ·rw [if_neg q,if_neg q];exact Paired.snoc r ⟨rfl,hb,ry⟩
theorem KT.keeps{H H':Hp}{kvs:List (List Key×V)}{xs:List (List Key×Addr×Value)}(r:KT H kvs xs)(ht:∀b ys,H b=some (.tup ys)->H' b=some (.tup ys)):KT H' kvs xs :=
 Paired.mapP r λ_ _ z=>⟨z.1,ht _ _ z.2.1,z.2.2⟩
section
variable {P:Program}{w:World}{H:Hp}{h:Heap}{a:Addr}
theorem ziP{u:HO}(ok:HOk P w H h)(e:Rd H a u):zV P w H h a u:=e.ok ok
theorem zaE{kvs:List (Key×V)}(ok:HOk P w H h)(e:Rd H a (.dK kvs)):kvs.length<=sizeLine/\(a==sysModules)=false/\∃vs,KV kvs vs/\h.DictOf (zW P w) a vs :=
 show zV P w H h a (.dK kvs) from ziP ok e
theorem zeW{kvs:List (Key×V)}(ok:HOk P w H h)(e:H a=some (.dK kvs)):kvs.length<=sizeLine/\(a==sysModules)=false/\∃vs,KV kvs vs/\h.DictOf (zW P w) a vs:=zaE ok (.inl e)
theorem zca{ks:List Key}(ok:HOk P w H h)(e:H a=some (.tup (ks.map kV))):(tupleKind (zW P w)).is h ks a:=by
 obtain ⟨_,its,r,o,h1,h2,n,h3⟩:=(show zV P w H h a (.tup (ks.map kV)) from ok a _ e)
 exact ⟨o,its.toArray,n,h1,h2,h3,by simpa using zkl r⟩
theorem zbP{kvs:List (List Key×V)}(ok:HOk P w H h)(e:Rd H a (.dT kvs)):kvs.length<=sizeLine/\(a==sysModules)=false /\
  ∃xs,KT H kvs xs/\h.DictOfH (tupleKind (zW P w)) a xs:=by
 obtain ⟨z,y,xs,r,o,es,ep,h1,h2,h3,h4,h5⟩:=(show zV P w H h a (.dT kvs) from ziP ok e)
 refine ⟨z,y,xs,r,o,es,ep,h1,h2,h3,h4,λx hx=>?_,h5⟩
 have all:∀{l:List (List Key×V)}{m:List (List Key×Addr×Value)},KT H l m->∀x∈m,(tupleKind (zW P w)).is h x.1 x.2.1:=by
  intro l m q
  induction q with
  | nil=>intro x hx;exact nomatch hx
  | @cons p q ps qs hq t ih =>
   intro x hx
   rcases mem_cons.mp hx with e|hx
   ·subst e
    exact zca ok (by rw [<- hq.1];exact hq.2.1)
   ·exact ih x hx
 exact all r x hx
theorem zrI{kvs:List (List Key×V)}(ok:HOk P w H h)(e:H a=some (.dT kvs)):kvs.length<=sizeLine/\(a==sysModules)=false /\
  ∃xs,KT H kvs xs/\h.DictOfH (tupleKind (zW P w)) a xs:=zbP ok (.inl e)
end
def zbg(H:Hp)(a:Addr)(y:V)(r:Option V):Prop :=
 (∃kvs k,Rd H a (.dK kvs)/\y=kV k/\r=zH kvs k)\/∃kvs k b,Rd H a (.dT kvs)/\y = .ref b/\H b=some (.tup (k.map kV))/\r=zH kvs k
def zdR(H:Hp)(a:Addr)(y v:V)(H':Hp):Prop :=
 (∃kvs k,H a=some (.dK kvs)/\y=kV k/\kvs.length<sizeLine/\H'=upd H a (.dK (zac kvs k v))) \/
 ∃kvs k b,H a=some (.dT kvs)/\y = .ref b/\H b=some (.tup (k.map kV))/\kvs.length<sizeLine/\H'=upd H a (.dT (zac kvs k v))
theorem zbg.k{H:Hp}{a:Addr}{kvs:List (Key×V)}{k:Key}(e:H a=some (.dK kvs)):zbg H a (kV k) (zH kvs k):=.inl ⟨kvs,k,.inl e,rfl,rfl⟩
theorem zbg.t{H:Hp}{a b:Addr}{kvs:List (List Key×V)}{k:List Key}(e:H a=some (.dT kvs))(eb:H b=some (.tup (k.map kV))):zbg H a (.ref b) (zH kvs k):=.inr ⟨kvs,k,b,.inl e,rfl,eb,rfl⟩
theorem zdR.k{H:Hp}{a:Addr}{kvs:List (Key×V)}{k:Key}{v:V}(e:H a=some (.dK kvs))(hl:kvs.length<sizeLine):zdR H a (kV k) v (upd H a (.dK (zac kvs k v))):=.inl ⟨kvs,k,e,rfl,hl,rfl⟩
theorem zdR.t{H:Hp}{a b:Addr}{kvs:List (List Key×V)}{k:List Key}{v:V}(e:H a=some (.dT kvs))(eb:H b=some (.tup (k.map kV)))(hl:kvs.length<sizeLine) :
  zdR H a (.ref b) v (upd H a (.dT (zac kvs k v))):=.inr ⟨kvs,k,b,e,rfl,eb,hl,rfl⟩
section
variable {X:Cx}{Ga:List (Addr×Obj)}{σ:St}{H:Hp}{s:Shared}{a:Addr}{y v:V}{u r:Value}{o:Option V}{A:Around}{E:Value->Shared->Prop}
theorem zlv{Q:Value->Shared->Prop}(hu:A.units+1<cLine)(I:Inv X Ga σ H s)(g:zbg H a y (some v))(ry:zm y u)(h:∀w' s',Inv X Ga σ H s'->zm v w'->Q w' s') :
  wpAny (model X.prog X.w) A (getItem (.ref a) u) Q E s:=by
 rcases g with ⟨kvs,k,e,ey,l⟩|⟨kvs,k,b,e,ey,eb,l⟩
 ·subst ey
  obtain ⟨z,hd,vs,rel,dd⟩:=zaE I.hok e
  obtain ⟨w',hw,rw'⟩:=zat.some_of (v:=v) (o:=valueAt vs k) (by rw [l];exact rel.val k)
  exact wpAny_getItem_of (zbl ry) dd.mapOf hw (h w' _ (I.tok _) rw')
 ·subst ey
  cases (show u=Value.ref b from ry)
  obtain ⟨z,hd,xs,rel,dd⟩:=zbP I.hok e
  obtain ⟨w',hw,rw'⟩:=zat.some_of (v:=v) (o:=(atKey xs k).map (·.2)) (by rw [l];exact rel.val k)
  obtain ⟨p,hp,hp2⟩:=map_eq_some_iff.mp hw
  refine wpAny_getItem_heap (tupleKind_room_in1 hu) (zca I.hok eb) dd hp ?_
  rw [hp2]
  exact h w' _ (I.tok _) rw'
theorem znH{Q:Value->Shared->Prop}(hu:A.units+1<cLine)(I:Inv X Ga σ H s)(g:zbg H a y o)(ry:zm y u)(h:∀s',Inv X Ga σ H s'->Q (.bool o.isSome) s') :
  wpAny (model X.prog X.w) A (compareOp .In u (.ref a)) Q E s:=by
 rcases g with ⟨kvs,k,e,ey,l⟩|⟨kvs,k,b,e,ey,eb,l⟩
 ·subst ey
  obtain ⟨z,hd,vs,rel,dd⟩:=zaE I.hok e
  refine wpAny_in_of (zbl ry) hd dd.mapOf ?_
  rw [<- (rel.val k).isSome_eq,<- l]
  exact h _ (I.tok _)
 ·subst ey
  cases (show u=Value.ref b from ry)
  obtain ⟨z,hd,xs,rel,dd⟩:=zbP I.hok e
  refine wpAny_in_heap (tupleKind_room_in1 hu) (zca I.hok eb) hd dd ?_
  have q:=(rel.val k).isSome_eq
  rw [isSome_map] at q
  rw [<- q,<- l]
  exact h _ (I.tok _)
theorem zrT{Q:Value->Shared->Prop}(hu:A.units+1<cLine)(I:Inv X Ga σ H s)(g:zbg H a y o)(ry:zm y u)(h:∀s',Inv X Ga σ H s'->Q (.bool (!o.isSome)) s') :
  wpAny (model X.prog X.w) A (compareOp .NotIn u (.ref a)) Q E s:=by
 rcases g with ⟨kvs,k,e,ey,l⟩|⟨kvs,k,b,e,ey,eb,l⟩
 ·subst ey
  obtain ⟨z,hd,vs,rel,dd⟩:=zaE I.hok e
  refine wpAny_notIn_of (zbl ry) hd dd.mapOf ?_
  rw [<- (rel.val k).isSome_eq,<- l]
  exact h _ (I.tok _)
 ·subst ey
  cases (show u=Value.ref b from ry)
  obtain ⟨z,hd,xs,rel,dd⟩:=zbP I.hok e
  refine wpAny_notIn_heap (tupleKind_room_in1 hu) (zca I.hok eb) hd dd ?_
  have q:=(rel.val k).isSome_eq
  rw [isSome_map] at q
  rw [<- q,<- l]
  exact h _ (I.tok _)
theorem zfe{h':Heap}{t':Nat}{ob:HO}(I:Inv X Ga σ H s)(mu:Mut (H a))(hs:SameBut a s.heap h')(he:∃q,h'.get? a=some q)(new:zV X.prog X.w (upd H a ob) h' a ob) :
  Inv X Ga σ (upd H a ob) { s with heap:=h',toks:=t' } :=
 I.write (x:=a) (e:=a) mu (.inl rfl) (λb q hb z=>(hs.2 b hb).trans z) he new
theorem ze8{P:Program}{w:World}{H':Hp}{h':Heap}{kvs:List (Key×V)}{vs:List (Key×Value)}(z:kvs.length<=sizeLine)(hd:(a==sysModules)=false)(rel:KV kvs vs)(dd:h'.DictOf (zW P w) a vs) :
  zV P w H' h' a (.dK kvs):=⟨z,hd,vs,rel,dd⟩
theorem zln{H':Hp}{Q:Unit->Shared->Prop}(hu:A.units+1<cLine)(I:Inv X Ga σ H s)(g:zdR H a y v H')(ry:zm y u)(rv:zm v r)(h:∀s',Inv X Ga σ H' s'->Q () s') :
  wpAny (model X.prog X.w) A (setItem (.ref a) u r) Q E s:=by
 rcases g with ⟨kvs,k,e,ey,l,eH⟩|⟨kvs,k,b,e,ey,eb,l,eH⟩
 ·subst ey eH
  obtain ⟨z,hd,vs,rel,dd⟩:=zeW I.hok e
  have hz:vs.length<=sizeLine:=by rw [<- rel.length];exact z
  have hl:(zac kvs k v).length<=sizeLine:=by have:=zjo kvs k v;omega
  refine wpAny_setItem_pairs (hsz:=hz) (zbl ry) dd λh' dd' hs=>h _ ?_
  have he:∃q,h'.get? a=some q:=let ⟨q,_,_,hq,_⟩:=dd';⟨q,hq⟩
  exact zfe I (by rw [e];exact True.intro) hs he (ze8 hl hd (rel.put k rv) dd')
 ·subst ey eH
  cases (show u=Value.ref b from ry)
  obtain ⟨z,hd,xs,rel,dd⟩:=zrI I.hok e
  have hz:xs.length<=sizeLine:=by rw [<- Paired.length rel];exact z
  have hl:(zac kvs k v).length<=sizeLine:=by have:=zjo kvs k v;omega
  refine wpAny_setItem_heap (hsz:=hz) (tupleKind_room_in1 hu) (zca I.hok eb) dd λh' dd' hs=>h _ ?_
  obtain ⟨q,es,ep,hq,h2,h3,h4,_,h5⟩:=dd'
  refine zfe I (by rw [e];exact True.intro) hs ⟨q,hq⟩ ⟨hl,hd,_,(rel.put k eb rv).keeps λc ys ec=>?_,q,es,ep,hq,h2,h3,h4,h5⟩
  rw [ze (zt9 ec e (λz=>nomatch z))]
  exact ec
end
section
variable {X:Cx}{Ga:List (Addr×Obj)}{σ:St}{H:Hp}{s:Shared}{a:Addr}{kvs:List (Key×V)}{k:Key}{u:Value}{A:Around}{E:Value->Shared->Prop}
theorem zsY{Q:Unit->Shared->Prop}(I:Inv X Ga σ H s)(e:H a=some (.dK kvs))(ry:zm (kV k) u)(l:(zH kvs k).isSome=true)(h:∀s',Inv X Ga σ (upd H a (.dK (zaB kvs k))) s'->Q () s') :
  wpAny (model X.prog X.w) A (delItem (.ref a) u) Q E s:=by
 obtain ⟨z,hd,vs,rel,dd⟩:=zeW I.hok e
 refine wpAny_delItem_slot dd.typeIs (by decide) PySem.F.slot_dict_delitem
  (call_meetsIn PySem.F.slot_dict_delitem dd.typeIs PySem.F.entry_dict_delitem (PySem.F.args_dict_delitem_2 _ _) (meets_dict_delitem_pairs (zW X.prog X.w) a (zbl ry)) ⟨vs,dd,by rw [<- rel.length];exact z,by rw [<- (rel.val k).isSome_eq];exact l,λh' dd' hs=>h _ ?_⟩)
 have he:∃q,h'.get? a=some q:=let ⟨q,_,_,hq,_⟩:=dd';⟨q,hq⟩
 exact zfe I (by rw [e];exact True.intro) hs he (ze8 (le_trans (ziy kvs k) z) hd (rel.drop k) dd')
theorem zva{v:V}{more:List Value}{Q:Value->Shared->Prop}(I:Inv X Ga σ H s)(e:H a=some (.dK kvs))(ry:zm (kV k) u)(l:zH kvs k=some v)(hm:more=[]\/∃x,more=[x])
  (h:∀w' s',Inv X Ga σ (upd H a (.dK (zaB kvs k))) s'->zm v w'->Q w' s'):wpAny (model X.prog X.w) A (call (.builtin "dict.pop") (.ref a::u::more)) Q E s:=by
 obtain ⟨z,hd,vs,rel,dd⟩:=zeW I.hok e
 obtain ⟨w',hw,rw'⟩:=zat.some_of (v:=v) (o:=valueAt vs k) (by rw [<- l];exact rel.val k)
 have hp:(keyPart u).isSome=true:=by
  cases k with
  | inl i=>obtain ⟨t,q⟩:=(show ∃t,u=Value.int i t from ry);subst q;rfl
  | inr x=>obtain ⟨t,q⟩:=(show ∃t,u=Value.str x t from ry);subst q;rfl
 have ha:argsOk "dict.pop" ⟨.ref a::u::more,[]⟩:=by
  rcases hm with q|⟨x,q⟩
  ·subst q;exact PySem.F.args_dict_pop_2 _ _
  ·subst q;exact PySem.F.args_dict_pop_3 _ _ _
 refine call_meetsIn PySem.F.slot_dict_pop dd.typeIs PySem.F.entry_dict_pop ha (meets_dict_pop_there (zW X.prog X.w) a (zbl ry) more hm hp)
  ⟨vs,w',dd,by rw [<- rel.length];exact z,hw,λh' dd' hs=>h w' _ ?_ rw'⟩
 have he:∃q,h'.get? a=some q:=let ⟨q,_,_,hq,_⟩:=dd';⟨q,hq⟩
 exact zfe I (by rw [e];exact True.intro) hs he (ze8 (le_trans (ziy kvs k) z) hd (rel.drop k) dd')
theorem zpM{Q:Value->Shared->Prop}(I:Inv X Ga σ H s)(e:Rd H a (.dK kvs))(h:∀t s',Inv X Ga σ H s'->Q (.int kvs.length t) s'):wpAny (model X.prog X.w) A (call (.builtin "len") [.ref a]) Q E s:=by
 obtain ⟨z,hd,vs,rel,dd⟩:=zaE I.hok e
 refine call_len_dict hd dd (by rw [<- rel.length];rw [sizeLine_eq] at z;omega) ?_
 rw [<- rel.length]
 exact h _ _ (I.tok _)
end
theorem zjg{X:Cx}{Ga:List (Addr×Obj)}{σ:St}{H:Hp}{s:Shared}{a:Addr}{y:V}{o:Option V}(I:Inv X Ga σ H s)(g:zbg H a y o):s.TypeIs (.ref a) "dict":=by
 rcases g with ⟨kvs,k,e,_,_⟩|⟨kvs,k,b,e,_,_,_⟩
 ·obtain ⟨_,_,vs,_,dd⟩:=zaE I.hok e
  exact dd.typeIs
 ·obtain ⟨_,_,xs,_,dd⟩:=zbP I.hok e
  exact dd.typeIs
section
variable {X:Cx}{o i e value:Expr}{pos pos' tpos:Pos}{td ty tv:TE}
end
section
variable {X:Cx}{pos:Pos}
end
structure M1(X:Cx)(o:Expr)(m:Str)(apos:Pos)(e:Expr)(cpos:Pos):Prop where
 base:attributeBase o m X.env (eval o X.env)=eval o X.env
 few:((backTo cpos (starEach [e] X.env)).all (λx=>!x.1)&&(backToKw cpos (keywordEach [] X.env)).all (λx=>x.1.isSome)
  && decide (([e]:List Expr).length+([]:List Keyword).length+(if ([]:List Keyword).isEmpty then 0 else 1)<30))=true
 line:(apos.endLine==cpos.line)=true
 trees:backTo cpos (starEach [e] X.env)=[(false,eval e X.env)]
structure M2(X:Cx)(o:Expr)(m:Str)(apos:Pos)(e f:Expr)(cpos:Pos):Prop where
 base:attributeBase o m X.env (eval o X.env)=eval o X.env
 few:((backTo cpos (starEach [e,f] X.env)).all (λx=>!x.1)&&(backToKw cpos (keywordEach [] X.env)).all (λx=>x.1.isSome)
  && decide (([e,f]:List Expr).length+([]:List Keyword).length+(if ([]:List Keyword).isEmpty then 0 else 1)<30))=true
 line:(apos.endLine==cpos.line)=true
 trees:backTo cpos (starEach [e,f] X.env)=[(false,eval e X.env),(false,eval f X.env)]
def IsD(H:Hp)(a:Addr):Prop:=(∃kvs,Rd H a (.dK kvs))\/∃kvs,Rd H a (.dT kvs)
theorem zdS{X:Cx}{Ga:List (Addr×Obj)}{σ:St}{H:Hp}{s:Shared}{a:Addr}(I:Inv X Ga σ H s)(d:IsD H a) :
  s.TypeIs (.ref a) "dict"/\(∀b,Value.ref a = .ref b->∃ob,s.heap.get? b=some ob/\ob.dict=none)/\(a==sysModules)=false:=by
 rcases d with ⟨kvs,e⟩|⟨kvs,e⟩
 ·obtain ⟨_,hd,vs,_,dd⟩:=zaE I.hok e
  refine ⟨dd.typeIs,λb q=>?_,hd⟩
  cases q
  obtain ⟨ob,_,_,h1,h2,_⟩:=dd
  exact ⟨ob,h1,h2.2.1⟩
 ·obtain ⟨_,hd,xs,_,dd⟩:=zbP I.hok e
  refine ⟨dd.typeIs,λb q=>?_,hd⟩
  cases q
  obtain ⟨ob,_,_,h1,h2,_⟩:=dd
  exact ⟨ob,h1,h2.2.1⟩
section
variable {X:Cx}{Ga:List (Addr×Obj)}{σ:St}{H:Hp}{s:Shared}{a:Addr}{y d:V}{u r:Value}{o:Option V}{A:Around}{E:Value->Shared->Prop}
theorem zqB{Q:Value->Shared->Prop}(hu:A.units+1<cLine)(I:Inv X Ga σ H s)(g:zbg H a y o)(ry:zm y u)(h:∀w' s',Inv X Ga σ H s'->zm (o.getD .non) w'->Q w' s') :
  wpAny (model X.prog X.w) A (call (.builtin "dict.get") [.ref a,u]) Q E s:=by
 rcases g with ⟨kvs,k,e,ey,l⟩|⟨kvs,k,b,e,ey,eb,l⟩
 ·subst ey
  obtain ⟨z,hd,vs,rel,dd⟩:=zaE I.hok e
  refine call_meetsIn slot_dict_get dd.typeIs entry_dict_get (PySem.F.args_dict_get_2 _ _) (meets_dict_get (zW X.prog X.w) a (zbl ry) hd) ⟨_,dd.mapOf,h _ _ (I.tok _) ?_⟩
  rw [l]
  exact (rel.val k).getD rfl
 ·subst ey
  cases (show u=Value.ref b from ry)
  obtain ⟨z,hd,xs,rel,dd⟩:=zbP I.hok e
  refine call_meetsIn slot_dict_get dd.typeIs entry_dict_get (PySem.F.args_dict_get_2 _ _) (meetsH_dict_get (tupleKind (zW X.prog X.w)) a b hd) ⟨tupleKind_room_in1 hu,k,xs,zca I.hok eb,dd,h _ _ (I.tok _) ?_⟩
  rw [l]
  exact (rel.val k).getD rfl
theorem zqd{Q:Value->Shared->Prop}(hu:A.units+1<cLine)(I:Inv X Ga σ H s)(g:zbg H a y o)(ry:zm y u)(rd:zm d r)(h:∀w' s',Inv X Ga σ H s'->zm (o.getD d) w'->Q w' s') :
  wpAny (model X.prog X.w) A (call (.builtin "dict.get") [.ref a,u,r]) Q E s:=by
 rcases g with ⟨kvs,k,e,ey,l⟩|⟨kvs,k,b,e,ey,eb,l⟩
 ·subst ey
  obtain ⟨z,hd,vs,rel,dd⟩:=zaE I.hok e
  refine call_meetsIn slot_dict_get dd.typeIs entry_dict_get (PySem.F.args_dict_get_3 _ _ _) (meets_dict_get_default (zW X.prog X.w) a (zbl ry) hd r) ⟨_,dd.mapOf,h _ _ (I.tok _) ?_⟩
  rw [l]
  exact (rel.val k).getD rd
 ·subst ey
  cases (show u=Value.ref b from ry)
  obtain ⟨z,hd,xs,rel,dd⟩:=zbP I.hok e
  refine call_meetsIn slot_dict_get dd.typeIs entry_dict_get (PySem.F.args_dict_get_3 _ _ _) (meetsH_dict_get_default (tupleKind (zW X.prog X.w)) a b hd r) ⟨tupleKind_room_in1 hu,k,xs,zca I.hok eb,dd,h _ _ (I.tok _) ?_⟩
  rw [l]
  exact (rel.val k).getD rd
end
section
variable {X:Cx}{o e f:Expr}{apos cpos:Pos}{td ty tx:TE}
end
section
variable {X:Cx}{Ga:List (Addr×Obj)}{σ:St}{H:Hp}{s:Shared}{a:Addr}{kvs:List (Key×V)}{A:Around}{E:Value->Shared->Prop}
theorem zoh{Q:Value->Shared->Prop}(I:Inv X Ga σ H s)(e:Rd H a (.dK kvs))(h:∀p s',H p=none->Inv X Ga σ (upd H p (.dK kvs)) s'->Q (.ref p) s'):wpAny (model X.prog X.w) A (call (.type "dict") [.ref a]) Q E s:=by
 obtain ⟨z,hd,vs,rel,dd⟩:=zaE I.hok e
 refine kt_call_dict hd dd (by rw [<- rel.length];exact z) λh' dd' hs=>?_
 refine h _ _ (I.hok.fresh (le_refl _)) (I.laid (a:=s.heap.objs.size) (o:=.dK kvs) (t':=s.toks) (λb q hq=>?_) (le_refl _) (ze8 z (beq_eq_false_iff_ne.mpr (Ne.symm (ne_of_lt I.big))) rel dd'))
 exact (hs.2 b (ne_of_lt (lt_size hq))).trans (get?_push_of_some _ hq)
end
section
variable {X:Cx}{Ga:List (Addr×Obj)}{σ:St}{H:Hp}{s:Shared}{a:Addr}{y:V}{u:Value}{A:Around}{E:Value->Shared->Prop}
end
section
variable {X:Cx}
end
section
variable {κ:Type} [DecidableEq κ]
theorem ztv{p:κ×V}{r:List (κ×V)}{k:κ}(e:p.1=k):zaB (p::r) k=zaB r k:=by
 unfold zaB
 rw [filter_cons,if_neg (by simp [e])]
theorem zuh{p:κ×V}{r:List (κ×V)}{k:κ}(e : ¬ p.1=k):zaB (p::r) k=p::zaB r k:=by
 unfold zaB
 rw [filter_cons,if_pos (by simp [e])]
end
section
variable {X:Cx}{Ga:List (Addr×Obj)}{σ:St}{H:Hp}{s:Shared}{a:Addr}{o:Obj}{kvs:List (Key×V)}
theorem Inv.swap{o1 o2:HO}(I:Inv X Ga σ H s)(e:H a=some o1)(h1:∀x,o1≠.own x)(h2:∀xs,o1≠.tup xs)(h3:∀ob,o1≠.frz ob (.own 0))(h4:∀ps,o1≠.tbl ps)(h5:∀ob u,X.H₀ a≠some (.frz ob u))
  (new:∀H',zV X.prog X.w H' s.heap a o2):Inv X Ga σ (upd H a o2) s:=by
 have ne:∀b,H b=none->b≠a:=λb n z=>by subst z;rw [e] at n;cases n
 have kn:∀b,H b=none->upd H a o2 b=none:=λb n=>by rw [ze (ne b n)];exact n
 refine ⟨I.ok,I.os,I.bare,⟨I.base.keep,I.base.slot,λb ob q n hx=>kn b (I.base.free b ob q n hx),I.base.there,λb xs q=>?_,λb ob u q=>?_,λb ps q=>?_⟩,I.loc,I.cell,kn _ I.free,λx c q=>kn c (I.freeC x c q),λp hp=>?_,λb u q=>?_,I.len,?_⟩
 ·have z:=I.base.tups b xs q
  rw [ze (λy=>by subst y;rw [e] at z;cases z;exact h2 _ rfl)];exact z
 ·by_cases hb:b=a
  ·subst hb;exact absurd q (h5 ob u)
  ·rw [ze hb];exact I.base.frzs b ob u q
 ·obtain ⟨more,z⟩:=I.base.tbls b ps q
  exact ⟨more,by rw [ze (λy=>by subst y;rw [e] at z;cases z;exact h4 _ rfl)];exact z⟩
 ·obtain ⟨p1,p2,p3⟩:=I.pin p hp
  exact ⟨p1,kn _ p2,p3⟩
 ·by_cases hb:b=a
  ·subst hb;rw [zp] at q;cases q;exact new _
  ·rw [ze hb] at q
   exact (I.hok b u q).stay (λc z _ y=>y) (λc z=>by rw [ze (λy=>by subst y;rw [e] at z;cases z;exact h1 _ rfl)];exact z) (λc xs z=>by rw [ze (λy=>by subst y;rw [e] at z;cases z;exact h2 _ rfl)];exact z)
 ·rcases I.hdk with z|⟨b,ob,vs,q1,q2,q3⟩
  ·exact .inl z
  ·exact .inr ⟨b,ob,vs,q1,by rw [ze (λy=>by subst y;rw [e] at q2;cases q2;exact h3 _ rfl)];exact q2,q3⟩
theorem Inv.freeze(I:Inv X Ga σ H s)(e:H a=some (.dK kvs)):(∀ob u,X.H₀ a≠some (.frz ob u))/\∃o,Inv X Ga σ (upd H a (.frz o (.dK kvs))) s:=by
 have h5:∀ob u,X.H₀ a≠some (.frz ob u):=λob u q=>by
  have z:=I.base.frzs a ob u q
  rw [e] at z;cases z
 refine ⟨h5,?_⟩
 obtain ⟨z,hd,vs,rel,dd⟩:=zeW I.hok e
 obtain ⟨o,es,ep,ho,r⟩:=id dd
 exact ⟨o,I.swap e (λ_ q=>nomatch q) (λ_ q=>nomatch q) (λ_ q=>nomatch q) (λ_ q=>nomatch q) h5 λH'=>⟨ho,z,hd,vs,rel,dd⟩⟩
theorem Inv.thaw(I:Inv X Ga σ H s)(e:H a=some (.frz o (.dK kvs)))(h5:∀ob u,X.H₀ a≠some (.frz ob u)):Inv X Ga σ (upd H a (.dK kvs)) s:=by
 obtain ⟨ho,z⟩:=I.hok a _ e
 exact I.swap e (λ_ q=>nomatch q) (λ_ q=>nomatch q) (λ_ q=>by injection q with _ q;cases q) (λ_ q=>nomatch q) h5 λH'=>z
end
def zbS(a:Addr)(kvs:List (Key×V))(H:Hp)(R:Hp->Prop):Prop:=∃o,H a=some (.frz o (.dK kvs))/\R (upd H a (.dK kvs))
def zah.thaw(D:zah)(a:Addr)(kvs:List (Key×V)):zah:=⟨λσ H=>zbS a kvs H (D.nx σ),λv H=>zbS a kvs H (D.rt v),λσ H=>zbS a kvs H (D.bk σ),λσ H=>zbS a kvs H (D.ct σ)⟩
def tFz(t:TS):TS:=λD σ H=>∃a kvs,H a=some (.dK kvs)/\∀o,t (D.thaw a kvs) σ (upd H a (.frz o (.dK kvs)))
def zhs(t:TE):TE:=λσ H Q=>∃a kvs,H a=some (.dK kvs)/\∀o,t σ (upd H a (.frz o (.dK kvs))) λv H'=>zbS a kvs H' (Q v)
theorem zmH{X:Cx}{st:Stmt}{t:TS}(h:PS X st t):PS X st (tFz t):=by
 rintro Ga s σ H D I ⟨a,kvs,e,q⟩
 obtain ⟨h5,o,I1⟩:=I.freeze e
 refine thn (h Ga s σ _ _ I1 (q o)) λf s' z=>?_
 cases f with
 | next=>obtain ⟨σ',H',I',o',e',d⟩:=z;exact ⟨σ',_,I'.thaw e' h5,d⟩
 | brk=>obtain ⟨σ',H',I',o',e',d⟩:=z;exact ⟨σ',_,I'.thaw e' h5,d⟩
 | cont=>obtain ⟨σ',H',I',o',e',d⟩:=z;exact ⟨σ',_,I'.thaw e' h5,d⟩
 | ret u=>obtain ⟨v,σ',H',I',r,o',e',d⟩:=z;exact ⟨v,σ',_,I'.thaw e' h5,r,d⟩
theorem znd{X:Cx}{e:Expr}{t:TE}(h:PE X e t):PE X e (zhs t):=by
 rintro Ga s σ H Q I ⟨a,kvs,e,q⟩
 obtain ⟨h5,o,I1⟩:=I.freeze e
 refine thn (h Ga s σ _ _ I1 (q o)) λu s' z=>?_
 obtain ⟨v,H',I',r,o',e',d⟩:=z
 exact ⟨v,_,I'.thaw e' h5,r,d⟩
theorem KV.at{kvs:List (Key×V)}{vs:List (Key×Value)}(r:KV kvs vs):∀{i:Nat}{p:Key×V},kvs[i]?=some p->∃u,vs[i]?=some (p.1,u)/\zm p.2 u:=by
 induction r with
 | nil=>intro i p h;simp at h
 | @cons x y l m r t ih =>
  intro i p h
  cases i with
  | zero =>
   have e:x=p:=by simpa using h
   subst e
   exact ⟨y.2,by rw [r.1];rfl,r.2⟩
  | succ i=>exact ih (by simpa using h)
def Itd(a:Addr)(o:Obj)(kvs:List (Key×V)):It:=⟨λi H=>H a=some (.frz o (.dK kvs))/\i<kvs.length,λi H x H'=>H'=H/\∃p,kvs[i]?=some p/\x=kV p.1,λi H=>H a=some (.frz o (.dK kvs))/\kvs.length<=i⟩
def Itw(a:Addr)(o:Obj)(kvs:List (Key×V)):It:=⟨λi H=>H a=some (.frz o (.dK kvs))/\i<kvs.length,λi H x H'=>H'=H/\∃p,kvs[i]?=some p/\x=p.2,λi H=>H a=some (.frz o (.dK kvs))/\kvs.length<=i⟩
theorem zcZ{X:Cx}{Ga:List (Addr×Obj)}{σ:St}{H:Hp}{s:Shared}{a:Addr}{o:Obj}{kvs:List (Key×V)}{es:Array DictEntry}{ep:Nat}(I:Inv X Ga σ H s)(e:H a=some (.frz o (.dK kvs)))(hd:o.data = .dict es ep) :
  (a==sysModules)=false/\∃vs,KV kvs vs/\s.heap.DictAt (zW X.prog X.w) a vs ep/\vs.length=kvs.length:=by
 obtain ⟨ho,z,hm,vs,rel,o',es',ep',ho',hc,hd',r⟩:=I.hok a _ e
 rw [ho] at ho'
 cases ho'
 rw [hd] at hd'
 cases hd'
 exact ⟨hm,vs,rel,⟨o,es,ho,hc,hd,r⟩,rel.length.symm⟩
theorem zkk{X:Cx}{Ga:List (Addr×Obj)}{σ:St}{H:Hp}{s:Shared}{a:Addr}{o:Obj}{kvs:List (Key×V)}(I:Inv X Ga σ H s)(e:H a=some (.frz o (.dK kvs))):∃es ep,o.data = .dict es ep:=by
 obtain ⟨ho,z,hm,vs,rel,o',es',ep',ho',hc,hd',r⟩:=I.hok a _ e
 rw [ho] at ho'
 cases ho'
 exact ⟨_,_,hd'⟩
theorem zuU{P:Program}{w:World}{K:PySem.W.Frag}{tg:Expr}(a it:Addr){o:Obj}{kvs:List (Key×V)}{es:Array DictEntry}{ep:Nat}(hd:o.data = .dict es ep):zbY true P w K tg (Itd a o kvs) [it] it (λi h=>h.IsKeyIter it a i kvs.length ep) where
 mem:=by simp
 obj:=λi h st b hb=>by
  have e:b=it:=by simpa using hb
  subst e
  obtain ⟨o,e,c,d⟩:=st
  exact ⟨o,e,λv z=>by rw [d] at z;cases z⟩
 keep:=λi h h' st k=>st.at λo e=>k it (by simp) o e
 item:=by
  intro X hP hw hK hc i Ga s σ H E I hf st hg
  subst hP hw hK
  obtain ⟨hq,hi⟩:=hg
  obtain ⟨hm,vs,rel,dd,hl⟩:=zcZ I hq hd
  obtain ⟨p,hp⟩:∃p,kvs[i]?=some p:=⟨kvs[i],by simp [hi]⟩
  obtain ⟨u,hu,ru⟩:=rel.at hp
  obtain ⟨f0,f1,f2,f3,f4,f5⟩:=hf it (by simp)
  rw [<- hl] at st
  refine wpAny_pyNext_dict_item st dd hu λkey h' hk st' sb=>?_
  rw [hl] at st'
  have I1:Inv X Ga σ H { s with heap:=h' }:=I.turned (t':=s.toks) (λb o hb e=>(sb.2 b hb).trans e) f0 f1 f3 f4 f5
  have rk:zm (kV p.1) key:=by
   rcases zbb (show zbu p.1 key=true from hk) with ⟨j,t,e1,e2⟩|⟨x,t,e1,e2⟩
   ·rw [e1,e2];exact ⟨t,rfl⟩
   ·rw [e1,e2];exact ⟨t,rfl⟩
  obtain ⟨o,e,c,d⟩:=id st'
  exact ⟨key,rfl,zdY (s:={ s with heap:=h' }) e c d (by decide) ⟨kV p.1,H,I1,rk,⟨rfl,p,hp,rfl⟩,st',λb hb=>(hf b hb).1⟩⟩
 done:=by
  intro X hP hw hK hc i Ga s σ H E I hf st hg
  subst hP hw hK
  obtain ⟨hq,hi⟩:=hg
  obtain ⟨hm,vs,rel,dd,hl⟩:=zcZ I hq hd
  obtain ⟨f0,f1,f2,f3,f4,f5⟩:=hf it (by simp)
  rw [<- hl] at st
  exact wpAny_pyNext_dict_end (I.ok.hd (hc rfl)) st dd (List.getElem?_eq_none (by omega)) λh' eb=>⟨rfl,I.turned (t':=s.toks) (λb o hb e=>eb b o hb e) f0 f1 f3 f4 f5⟩
 self:=λ_ _ _ _ _ st h=>wpAny_pyIter_keyiter st h
theorem zs2{P:Program}{w:World}{K:PySem.W.Frag}{tg:Expr}(a it:Addr){o:Obj}{kvs:List (Key×V)}{es:Array DictEntry}{ep:Nat}(hd:o.data = .dict es ep):zbY true P w K tg (Itw a o kvs) [it] it (λi h=>h.IsValIter it a i kvs.length ep) where
 mem:=by simp
 obj:=λi h st b hb=>by
  have e:b=it:=by simpa using hb
  subst e
  obtain ⟨o,e,c,d⟩:=st
  exact ⟨o,e,λv z=>by rw [d] at z;cases z⟩
 keep:=λi h h' st k=>st.at λo e=>k it (by simp) o e
 item:=by
  intro X hP hw hK hc i Ga s σ H E I hf st hg
  subst hP hw hK
  obtain ⟨hq,hi⟩:=hg
  obtain ⟨hm,vs,rel,dd,hl⟩:=zcZ I hq hd
  obtain ⟨p,hp⟩:∃p,kvs[i]?=some p:=⟨kvs[i],by simp [hi]⟩
  obtain ⟨u,hu,ru⟩:=rel.at hp
  obtain ⟨f0,f1,f2,f3,f4,f5⟩:=hf it (by simp)
  rw [<- hl] at st
  refine wpAny_pyNext_values_item st dd hu λh' st' sb=>?_
  rw [hl] at st'
  have I1:Inv X Ga σ H { s with heap:=h' }:=I.turned (t':=s.toks) (λb o hb e=>(sb.2 b hb).trans e) f0 f1 f3 f4 f5
  obtain ⟨o,e,c,d⟩:=id st'
  exact ⟨u,rfl,zdY (s:={ s with heap:=h' }) e c d (by decide) ⟨p.2,H,I1,ru,⟨rfl,p,hp,rfl⟩,st',λb hb=>(hf b hb).1⟩⟩
 done:=by
  intro X hP hw hK hc i Ga s σ H E I hf st hg
  subst hP hw hK
  obtain ⟨hq,hi⟩:=hg
  obtain ⟨hm,vs,rel,dd,hl⟩:=zcZ I hq hd
  obtain ⟨f0,f1,f2,f3,f4,f5⟩:=hf it (by simp)
  rw [<- hl] at st
  exact wpAny_pyNext_values_end (I.ok.hd (hc rfl)) st dd (List.getElem?_eq_none (by omega)) λh' eb=>⟨rfl,I.turned (t':=s.toks) (λb o hb e=>eb b o hb e) f0 f1 f3 f4 f5⟩
 self:=λ_ _ _ _ _ st h=>wpAny_pyIter_valiter st h
section
variable {X:Cx}{tg:Expr}
def zfa(tl:TE):TI:=λσ H R=>tl σ H λx H1=>∃a o kvs,x = .ref a/\H1 a=some (.frz o (.dK kvs))/\R (Itd a o kvs) H1
def ze6(tl:TE):TI:=λσ H R=>tl σ H λx H1=>∃a o kvs,x = .ref a/\H1 a=some (.frz o (.dK kvs))/\R (Itw a o kvs) H1
theorem ztG{l:Expr}{tl:TE}(hl:PE X l tl):PI X tg l (zfa tl):=by
 intro Ga s σ H R I h
 refine thn (hl Ga s σ H _ I h) λv s1 ⟨x,H1,I1,r1,q1⟩=>?_
 obtain ⟨a,o,kvs,e,hq,q⟩:=q1
 subst e
 cases r1
 obtain ⟨es,ep,hd⟩:=zkk I1 hq
 obtain ⟨hm,vs,rel,dd,hl⟩:=zcZ I1 hq hd
 refine wpAny_pyIter_dict hm dd ?_
 rw [hl]
 refine ⟨s1.heap.objs.size,[s1.heap.objs.size],_,_,H1,rfl,I1.kept (t':=s1.toks) λb o e=>get?_push_of_some _ e,zuU a _ hd,⟨_,get?_push_size _ rfl,rfl,rfl⟩,λb hb=>?_,q⟩
 have e:b=s1.heap.objs.size:=by simpa using hb
 subst e
 exact I1.fpOk (le_refl _) (I1.hok.fresh (le_refl _))
theorem zpI{l:Expr}{tl:TE}{apos cpos:Pos}(ho:PE X l tl)(hbase:attributeBase l "values" X.env (eval l X.env)=eval l X.env:=by rfl)(hline:(apos.endLine==cpos.line)=true:=by rfl):PI X tg (.Call (.Attribute l "values" apos) [] [] cpos) (ze6 tl):=by
 intro Ga s σ H R I h
 refine wpAny_Call_method0_late hbase hline (thn (ho Ga s σ H _ I h) λv s1 ⟨x,H1,I1,r1,a,o,kvs,ex,hq,q⟩=>?_)
 subst ex
 cases r1
 obtain ⟨es,ep,hd⟩:=zkk I1 hq
 obtain ⟨hm,vs,rel,dd,hl⟩:=zcZ I1 hq hd
 obtain ⟨t1,t2,_⟩:=zdS I1 (.inl ⟨kvs,.inr ⟨o,hq⟩⟩)
 refine ⟨"dict","dict.values",plainAttrs_dict,slot_dict_values,PySem.F.type_dict_values,t1,t2,Calls.callWith_builtin rfl (PySem.evalArgs_none ?_)⟩
 refine call_meetsIn slot_dict_values dd.dictOf.typeIs PySem.F.entry_dict_values (PySem.F.args_dict_values_1 _) (meets_dict_values (zW X.prog X.w) a hm) ⟨⟨vs,dd.dictOf⟩,?_⟩
 have hv:(s1.heap.push { cls:=.type "dict_values",data:=.fields #[.ref a] }).IsValuesView s1.heap.objs.size a:=⟨_,get?_push_size _ rfl,rfl,rfl⟩
 refine wpAny_pyIter_values (s:={ s1 with heap:=s1.heap.push { cls:=.type "dict_values",data:=.fields #[.ref a] } }) hv (dd.push _) ?_
 rw [hl]
 have I2:Inv X Ga σ H1 { s1 with heap:=s1.heap.push { cls:=.type "dict_values",data:=.fields #[.ref a] } }:=I1.kept (t':=s1.toks) λb o e=>get?_push_of_some _ e
 refine ⟨_,[_],_,_,H1,rfl,I2.kept (t':=s1.toks) λb o e=>get?_push_of_some _ e,zs2 a _ hd,⟨_,get?_push_size _ rfl,rfl,rfl⟩,λb hb=>?_,q⟩
 have e:=mem_singleton.mp hb
 subst e
 exact I2.fpOk (le_refl _) (I2.hok.fresh (le_refl _))
end
def uK(y:V)(q:Key->Prop):Prop:=∃k,y=kV k/\q k
theorem zp2{z:Str}{q:Key->Prop}:uK (.str z) q=q (.inr z):=by
 apply propext;constructor
 ·rintro ⟨k,e,h⟩
  cases k with
  | inl i=>cases e
  | inr x=>cases e;exact h
 ·exact λh=>⟨.inr z,rfl,h⟩
theorem ztJ{i:Int}{q:Key->Prop}:uK (.int i) q=q (.inl i):=by
 apply propext;constructor
 ·rintro ⟨k,e,h⟩
  cases k with
  | inl i=>cases e;exact h
  | inr x=>cases e
 ·exact λh=>⟨.inl i,rfl,h⟩
section
variable {X:Cx}
def zeC:R2:=λx y H Q=>∃a k kvs v,x = .ref a/\y=kV k/\Rd H a (.dK kvs)/\zH kvs k=some v/\Q v H
theorem zb3(hu:X.A.units+1<cLine):IxR X zeC:=by
 intro value slice Ga s σ H x y v u Q I rx ry h hs
 obtain ⟨a,k,kvs,z,rfl,rfl,hq,he,q⟩:=h
 obtain rfl:v=Value.ref a:=rx
 have g:zbg H a (kV k) (some z):=.inl ⟨kvs,k,hq,rfl,he.symm⟩
 unfold subscriptTail
 refine wpAny_bind ?_
 rw [getitemInPython_of_ne (zjg I g).not_modules]
 refine wpAny_bind (wpAny_specialOf (zjg I g) PySem.F.slot_dict_getitem.lookup ?_)
 have fin:wpAny (model X.prog X.w) X.A (subscripted slice false (.ref a) u) (λr s₃=>wpAny (model X.prog X.w) X.A (letTemporaryGo value (.ref a) r>>=λ_=>pure r) (EP X Ga σ Q) X.xe s₃) X.xe s:=by
  rw [hs]
  exact wpAny_operating (zlv hu I g ry λw' s3 I3 rw'=>wpAny_bind (wpAny_letTemporaryGo (wpAny_pure ⟨z,H,I3,rw',q⟩)))
 first
  | exact wpAny_pure (wpAny_bind fin)
  | exact wpAny_bind (wpAny_pure (wpAny_bind fin))
  | exact wpAny_bind fin
def zeq:R2:=λx y H Q=>uIx x y H Q\/zeC x y H Q
theorem znt{a:Addr}{z:Str}{H:Hp}{Q:VK}:zeq (.ref a) (.str z) H Q = ∃kvs,Rd H a (.dK kvs)/\∃v,zH kvs (.inr z)=some v/\Q v H:=by
 apply propext;constructor
 ·rintro (h|⟨a',k,kvs,v,e1,e2,h1,h2,q⟩)
  ·rcases h with ⟨_,_,_,_,_,e,_⟩|⟨_,_,_,_,_,e,_⟩|⟨_,_,_,e,_⟩<;>cases e
  ·cases e1
   cases k with
   | inl i=>cases e2
   | inr x=>cases e2;exact ⟨kvs,h1,v,h2,q⟩
 ·rintro ⟨kvs,h1,v,h2,q⟩
  exact .inr ⟨a,.inr z,kvs,v,rfl,rfl,h1,h2,q⟩
theorem zpb{a:Addr}{i:Int}{H:Hp}{Q:VK}:zeq (.ref a) (.int i) H Q=((∃xs,(H a=some (.lst xs)\/H a=some (.tup xs))/\∃v,atI xs i=some v/\Q v H)\/∃kvs,Rd H a (.dK kvs)/\∃v,zH kvs (.inl i)=some v/\Q v H):=by
 apply propext
 unfold zeq
 rw [zfb]
 constructor
 ·rintro (h|⟨a',k,kvs,v,e1,e2,h1,h2,q⟩)
  ·exact .inl h
  ·cases e1
   cases k with
   | inl i=>cases e2;exact .inr ⟨kvs,h1,v,h2,q⟩
   | inr x=>cases e2
 ·rintro (h|⟨kvs,h1,v,h2,q⟩)
  ·exact .inl h
  ·exact .inr ⟨a,.inl i,kvs,v,rfl,rfl,h1,h2,q⟩
theorem zqH{x:Str}{i:Int}{H:Hp}{Q:VK}:zeq (.str x) (.int i) H Q=(x.length<=sizeLine/\∃c,atI x.cps.toList i=some c/\Q (.str ⟨#[c]⟩) H):=by
 rw [<- zhp]
 apply propext;constructor
 ·rintro (h|⟨a',k,kvs,v,e1,_⟩)
  ·exact h
  ·cases e1
 ·exact .inl
def zd0(c:Bool):R2:=λy x H Q=>∃a k kvs,x = .ref a/\y=kV k/\Rd H a (.dK kvs)/\Q (.bl (if c then !(zH kvs k).isSome else (zH kvs k).isSome)) H
theorem zo5(hu:X.A.units+1<cLine):OpR X (compareOp .In) (zd0 false):=by
 intro Ga s σ H x y v u Q I rx ry h
 obtain ⟨a,k,kvs,rfl,rfl,hq,q⟩:=h
 obtain rfl:u=Value.ref a:=ry
 exact znH hu I (.inl ⟨kvs,k,hq,rfl,rfl⟩) rx λs3 I3=>⟨.bl (zH kvs k).isSome,H,I3,rfl,q⟩
theorem zhq(hu:X.A.units+1<cLine):OpR X (compareOp .NotIn) (zd0 true):=by
 intro Ga s σ H x y v u Q I rx ry h
 obtain ⟨a,k,kvs,rfl,rfl,hq,q⟩:=h
 obtain rfl:u=Value.ref a:=ry
 exact zrT hu I (.inl ⟨kvs,k,hq,rfl,rfl⟩) rx λs3 I3=>⟨.bl (!(zH kvs k).isSome),H,I3,rfl,q⟩
def zgr:R2:=λx y H Q=>uIn x y H Q\/zd0 false x y H Q
theorem zqM{x y:Str}{H:Hp}{Q:VK}:zgr (.str x) (.str y) H Q=Q (.bl (!(Builtin.Str.occurrences y x 0 y.length 1).isEmpty)) H:=by
 rw [<- zit (x:=x) (y:=y) (H:=H) (Q:=Q)]
 apply propext;constructor
 ·rintro (h|⟨a,k,kvs,e,_⟩)
  ·exact h
  ·cases e
 ·exact .inl
theorem ztm{x:Str}{p:Addr}{H:Hp}{Q:VK}:zgr (.str x) (.ref p) H Q=((∃xs,(H p=some (.lst xs)\/H p=some (.tup xs))/\xs.all zF=true/\Q (.bl (inV (.str x) xs)) H)\/∃kvs,Rd H p (.dK kvs)/\Q (.bl (zH kvs (.inr x)).isSome) H):=by
 apply propext
 unfold zgr
 rw [zkx]
 constructor
 ·rintro (⟨xs,h,_,f,q⟩|⟨a,k,kvs,e1,e2,h,q⟩)
  ·exact .inl ⟨xs,h,f,q⟩
  ·cases e1
   cases k with
   | inl i=>cases e2
   | inr x=>cases e2;exact .inr ⟨kvs,h,q⟩
 ·rintro (⟨xs,h,f,q⟩|⟨kvs,h,q⟩)
  ·exact .inl ⟨xs,h,rfl,f,q⟩
  ·exact .inr ⟨p,.inr x,kvs,rfl,rfl,h,q⟩
theorem zsE{c:Bool}{x:Str}{p:Addr}{H:Hp}{Q:VK}:zd0 c (.str x) (.ref p) H Q = ∃kvs,Rd H p (.dK kvs)/\Q (.bl (if c then !(zH kvs (.inr x)).isSome else (zH kvs (.inr x)).isSome)) H:=by
 apply propext;constructor
 ·rintro ⟨a,k,kvs,e1,e2,h,q⟩
  cases e1
  cases k with
  | inl i=>cases e2
  | inr x=>cases e2;exact ⟨kvs,h,q⟩
 ·rintro ⟨kvs,h,q⟩;exact ⟨p,.inr x,kvs,rfl,rfl,h,q⟩
def zg5:List V->Hp->VK->Prop:=λxs H Q=>zdU xs H Q\/∃a kvs,xs=[V.ref a]/\Rd H a (.dK kvs)/\Q (.int kvs.length) H
theorem zsj{a:Addr}{H:Hp}{Q:VK}:zg5 [.ref a] H Q=((∃ys,(H a=some (.lst ys)\/H a=some (.tup ys))/\Q (.int ys.length) H)\/∃kvs,Rd H a (.dK kvs)/\Q (.int kvs.length) H):=by
 apply propext
 unfold zg5
 rw [zgD]
 constructor
 ·rintro (h|⟨a,kvs,e,h⟩)
  ·exact .inl h
  ·cases e;exact .inr ⟨kvs,h⟩
 ·rintro (h|⟨kvs,h⟩)
  ·exact .inl h
  ·exact .inr ⟨a,kvs,rfl,h⟩
theorem zth{x:Str}{H:Hp}{Q:VK}:zg5 [.str x] H Q=(x.length<=sizeLine/\Q (.int x.length) H):=by
 rw [<- zjt]
 apply propext;constructor
 ·rintro (h|⟨a,kvs,e,h⟩)
  ·exact h
  ·cases e
 ·exact .inl
def zep:V->V->V->Hp->(Hp->Prop)->Prop:=λo i v H Q=>zfQ o i v H Q\/∃a k kvs,o = .ref a/\i=kV k/\H a=some (.dK kvs)/\kvs.length<sizeLine/\Q (upd H a (.dK (zac kvs k v)))
theorem zbW(hu:X.A.units+1<cLine):zeD X zep:=by
 intro Ga s σ H o i v ov iv u Q I ro ri rv h
 rcases h with h|⟨a,k,kvs,rfl,rfl,e,l,q⟩
 ·exact zf0 Ga s σ H o i v ov iv u Q I ro ri rv h
 ·obtain rfl:ov=Value.ref a:=ro
  exact zln hu I (.inl ⟨kvs,k,e,rfl,l,rfl⟩) ri rv λs' I'=>⟨_,I',q⟩
theorem zrA{a:Addr}{z:Str}{v:V}{H:Hp}{Q:Hp->Prop}:zep (.ref a) (.str z) v H Q = ∃kvs,H a=some (.dK kvs)/\kvs.length<sizeLine/\Q (upd H a (.dK (zac kvs (.inr z) v))):=by
 apply propext;constructor
 ·rintro (⟨_,_,_,_,_,e,_⟩|⟨a',k,kvs,e1,e2,h,l,q⟩)
  ·cases e
  ·cases e1
   cases k with
   | inl i=>cases e2
   | inr x=>cases e2;exact ⟨kvs,h,l,q⟩
 ·rintro ⟨kvs,h,l,q⟩;exact .inr ⟨a,.inr z,kvs,rfl,rfl,h,l,q⟩
theorem zoM{a:Addr}{i:Int}{v:V}{H:Hp}{Q:Hp->Prop}:zep (.ref a) (.int i) v H Q=((∃xs j,H a=some (.lst xs)/\ixN xs.length i=some j/\Q (upd H a (.lst (xs.set j v))))\/∃kvs,H a=some (.dK kvs)/\kvs.length<sizeLine/\Q (upd H a (.dK (zac kvs (.inl i) v)))):=by
 apply propext
 unfold zep
 rw [zhF]
 constructor
 ·rintro (h|⟨a',k,kvs,e1,e2,h,l,q⟩)
  ·exact .inl h
  ·cases e1
   cases k with
   | inl i=>cases e2;exact .inr ⟨kvs,h,l,q⟩
   | inr x=>cases e2
 ·rintro (h|⟨kvs,h,l,q⟩)
  ·exact .inl h
  ·exact .inr ⟨a,.inl i,kvs,rfl,rfl,h,l,q⟩
def zgB(td ty:TE):TS:=λD σ H=>td σ H λx H1=>ty σ H1 λy H2=>uR x λa=>uK y λk=>∃kvs,H2 a=some (.dK kvs)/\(zH kvs k).isSome=true/\D.nx σ (upd H2 a (.dK (zaB kvs k)))
theorem zl7{o i:Expr}{td ty:TE}{tpos pos:Pos}(ho:PE X o td)(hi:PE X i ty):PS X (.Delete [.Subscript o i tpos] pos) (zgB td ty):=by
 intro Ga s σ H D I h
 refine wpAny_Delete (wpAny_deleteEach_cons (wpAny_delete_Subscript (thn (ho Ga s σ H _ I h) λu s1 ⟨x,H1,I1,rx,q1⟩=>thn (hi Ga s1 σ H1 _ I1 q1) λiv s2 ⟨y,H2,I2,ry,a,ex,k,ey,kvs,e,l,q2⟩=>?_)))
 subst ex ey
 obtain rfl:u=Value.ref a:=rx
 exact zsY I2 e ry l λs3 I3=>wpAny_deleteEach_nil ⟨σ,_,I3,q2⟩
theorem zrv{td ty:TE}{D:zah}{σ:St}{H:Hp}:zgB td ty D σ H=td σ H λx H1=>ty σ H1 λy H2=>uR x λa=>uK y λk=>∃kvs,H2 a=some (.dK kvs)/\(zH kvs k).isSome=true/\D.nx σ (upd H2 a (.dK (zaB kvs k))):=rfl
def zhC(td ty tx:TE):TE:=λσ H Q=>td σ H λx H1=>uR x λa=>(∃kvs,Rd H1 a (.dK kvs))/\ty σ H1 λy H2=>tx σ H2 λz H3=>uK y λk=>∃kvs,Rd H3 a (.dK kvs)/\Q ((zH kvs k).getD z) H3
theorem zlC{td ty tx:TE}{σ:St}{H:Hp}{Q:VK}:zhC td ty tx σ H Q=td σ H λx H1=>uR x λa=>(∃kvs,Rd H1 a (.dK kvs))/\ty σ H1 λy H2=>tx σ H2 λz H3=>uK y λk=>∃kvs,Rd H3 a (.dK kvs)/\Q ((zH kvs k).getD z) H3:=rfl
theorem zlM{o e f:Expr}{td ty tx:TE}{apos cpos:Pos}(hu:X.A.units+1<cLine)(ho:PE X o td)(he:PE X e ty)(hf:PE X f tx)(m:M2 X o "get" apos e f cpos:=by exact ⟨rfl,rfl,rfl,rfl⟩):PE X (.Call (.Attribute o "get" apos) [e,f] [] cpos) (zhC td ty tx):=by
 intro Ga s σ H Q I h
 refine wpAny_Call_method m.base m.few m.line plainAttrs_dict slot_dict_get PySem.F.type_dict_get (thn (ho Ga s σ H _ I h) λu s1 ⟨x,H1,I1,rx,a,ex,d,q1⟩=>?_)
 subst ex
 obtain rfl:u=Value.ref a:=rx
 obtain ⟨t1,t2,_⟩:=zdS I1 (.inl d)
 refine ⟨t1,t2,?_⟩
 rw [m.trees]
 refine Calls.callWith_builtin rfl (Calls.evalArgs_plain (Calls.spliced_cons (thn (he Ga s1 σ H1 _ I1 q1) λiv s2 ⟨y,H2,I2,ry,q2⟩ =>
  Calls.spliced_cons (thn (hf Ga s2 σ H2 _ I2 q2) λfv s3 ⟨z,H3,I3,rz,k,ey,kvs,g,q3⟩=>Calls.spliced_nil ?_))))
 subst ey
 exact zqd hu I3 (.inl ⟨kvs,k,g,rfl,rfl⟩) ry rz λw' s4 I4 rw'=>⟨_,H3,I4,rw',q3⟩
def zhz(td ty:TE):TE:=λσ H Q=>td σ H λx H1=>uR x λa=>(∃kvs,Rd H1 a (.dK kvs))/\ty σ H1 λy H2=>uK y λk=>∃kvs,H2 a=some (.dK kvs)/\∃v,zH kvs k=some v/\Q v (upd H2 a (.dK (zaB kvs k)))
theorem zsC{td ty:TE}{σ:St}{H:Hp}{Q:VK}:zhz td ty σ H Q=td σ H λx H1=>uR x λa=>(∃kvs,Rd H1 a (.dK kvs))/\ty σ H1 λy H2=>uK y λk=>∃kvs,H2 a=some (.dK kvs)/\∃v,zH kvs k=some v/\Q v (upd H2 a (.dK (zaB kvs k))):=rfl
theorem zmL{o e:Expr}{td ty:TE}{apos cpos:Pos}(ho:PE X o td)(he:PE X e ty)(m:M1 X o "pop" apos e cpos:=by exact ⟨rfl,rfl,rfl,rfl⟩):PE X (.Call (.Attribute o "pop" apos) [e] [] cpos) (zhz td ty):=by
 intro Ga s σ H Q I h
 refine wpAny_Call_method m.base m.few m.line plainAttrs_dict PySem.F.slot_dict_pop PySem.F.type_dict_pop (thn (ho Ga s σ H _ I h) λu s1 ⟨x,H1,I1,rx,a,ex,d,q1⟩=>?_)
 subst ex
 obtain rfl:u=Value.ref a:=rx
 obtain ⟨t1,t2,_⟩:=zdS I1 (.inl d)
 refine ⟨t1,t2,?_⟩
 rw [m.trees]
 refine Calls.callWith_builtin rfl (Calls.evalArgs_plain (Calls.spliced_cons (thn (he Ga s1 σ H1 _ I1 q1) λiv s2 ⟨y,H2,I2,ry,k,ey,kvs,ea,v,l,q2⟩=>Calls.spliced_nil ?_)))
 subst ey
 exact zva I2 ea ry l (.inl rfl) λw' s3 I3 rw'=>⟨v,_,I3,rw',q2⟩
end
end L2
namespace L2
open PySem PySem.Spec PyProof.Rows PySem.W PySem.Calls
def leS(a b:Str):Prop:=ltCps b.cps.toList a.cps.toList=false
theorem zlm{a b:Str}(h1:leS a b)(h2:leS b a):a=b:=by
 unfold leS at h1 h2
 rw [ltCps_eq] at h1 h2
 exact zsg (PyProof.Rows.strKind.total a.cps.toList b.cps.toList h2 h1)
theorem ziJ:∀{l:List Str},sortedS l=true->l.Pairwise leS:=by
 have key:∀(r:List Str)(x:Str),risingS x r=true->(x::r).Pairwise leS:=by
  intro r
  induction r with
  | nil=>intro x _;simp
  | cons y r ih =>
   intro x h
   have h':(!ltCps y.cps.toList x.cps.toList&&risingS y r)=true:=h
   rw [and_eq_true,not_eq_true'] at h'
   have ihy:=ih y h'.2
   refine pairwise_cons.mpr ⟨λz hz=>?_,ihy⟩
   rcases mem_cons.mp hz with rfl|hz
   ·exact h'.1
   ·have yz:=(pairwise_cons.mp ihy).1 z hz
    unfold leS at yz ⊢
    have xy:=h'.1
    rw [ltCps_eq] at yz xy ⊢
    exact KeyOrd.kle_trans (O:=PyProof.Rows.strKind.toKeyOrd) xy yz
 intro l h
 cases l with
 | nil=>exact .nil
 | cons x r=>exact key r x h
theorem zfw:∀{l m:List Str},l.Perm m->l.Pairwise leS->m.Pairwise leS->l=m
 | [],m,p,_,_=>(Perm.nil_eq p)
 | x::l,[],p,_,_=>absurd p.length_eq (by simp)
 | x::l,y::m,p,hl,hm=>by
  have e:x=y:=by
   have h1:x∈y::m:=p.mem_iff.mp (mem_cons_self ..)
   have h2:y∈x::l:=p.mem_iff.mpr (mem_cons_self ..)
   rcases mem_cons.mp h1 with e|h1
   ·exact e
   ·rcases mem_cons.mp h2 with e|h2
    ·exact e.symm
    ·exact zlm ((pairwise_cons.mp hl).1 y h2) ((pairwise_cons.mp hm).1 x h1)
  subst e
  rw [zfw ((List.perm_cons x).mp p) (pairwise_cons.mp hl).2 (pairwise_cons.mp hm).2]
open Classical in
noncomputable def zaH(ks:List Str):List Str:=if h:∃ss:List Str,ss.Perm ks/\sortedS ss=true then h.choose else ks
theorem zj6{ks ss:List Str}(p:ss.Perm ks)(h:sortedS ss=true):ss=zaH ks:=by
 have ex:∃ss:List Str,ss.Perm ks/\sortedS ss=true:=⟨ss,p,h⟩
 unfold zaH
 rw [dif_pos ex]
 exact zfw (p.trans ex.choose_spec.1.symm) (ziJ h) (ziJ ex.choose_spec.2)
section
variable {X:Cx}
def ziL:List V->Hp->VK->Prop:=λxs H Q=>uR1 xs λa=>∃kvs,Rd H a (.dK kvs)/\∀p H2,New H p (.dK kvs) H2->Q (.ref p) H2
theorem zn9{a:Addr}{H:Hp}{Q:VK}:ziL [.ref a] H Q = ∃kvs,Rd H a (.dK kvs)/\∀p H2,New H p (.dK kvs) H2->Q (.ref p) H2:=za8
theorem zfy:zL X (.type "dict") ziL:=by
 intro Ga s σ H xs us Q I r h
 obtain ⟨a,rfl,kvs,ha,q⟩:=h
 obtain ⟨u,rfl,ru⟩:=zaR r
 cases ru
 exact zoh I ha λp s' hn I'=>⟨.ref p,_,I',rfl,q _ _ (.mk' hn)⟩
def sk(kvs:List (Str×V)):List (Key×V):=kvs.map λp=>(.inr p.1,p.2)
def zja:List V->Hp->VK->Prop:=λxs H Q=>uR1 xs λa=>∃kvs:List (Str×V),Rd H a (.dK (sk kvs))/\kvs.length<64/\∀p H2,New H p (.lst ((zaH (kvs.map (·.1))).map V.str)) H2->Q (.ref p) H2
theorem zuc{a:Addr}{H:Hp}{Q:VK}:zja [.ref a] H Q = ∃kvs:List (Str×V),Rd H a (.dK (sk kvs))/\kvs.length<64/\∀p H2,New H p (.lst ((zaH (kvs.map (·.1))).map V.str)) H2->Q (.ref p) H2:=za8
theorem zjv:∀{vs:List Value}{ss:List Str},vs.length=ss.length->(∀(j:Nat)(v:Value),vs[j]?=some v->∃t,v=Value.str (ss.getD j "") t)->StrsAre vs ss
 | [],[],_,_=>.nil
 | [],_::_,h,_=>absurd h (by simp)
 | _::_,[],h,_=>absurd h (by simp)
 | v::vs,x::ss,h,f=>by
  obtain ⟨t,e⟩:=f 0 v rfl
  have e':v=Value.str x t:=e
  rw [e']
  exact .cons x t (zjv (by simpa using h) λj u hu=>f (j+1) u hu)
theorem zjZ:∀{vs:List Value}{ss:List Str},StrsAre vs ss->zi (ss.map V.str) vs
 | _,_,.nil=>.nil
 | _,_,.cons x t h=>.cons ⟨t,rfl⟩ (zjZ h)
theorem zcp(hc:X.calm=true):zL X (.builtin "sorted") zja:=by
 intro Ga s σ H xs us Q I r h
 obtain ⟨a,rfl,kvs,hq,h64,q⟩:=h
 obtain ⟨u,rfl,ru⟩:=zaR r
 cases ru
 obtain ⟨z,hd,vs,rel,dd⟩:=zaE I.hok hq
 obtain ⟨ep,hat⟩:=dd.dictAt
 have hlen:vs.length=kvs.length:=by rw [<- rel.length];simp [sk]
 refine call_function_entry kind_sorted plain_sorted entry_sorted (args_sorted1 _) ?_
 unfold Builtin.«sorted»
 refine wpAny_bind (m:=checkCount "sorted" 1 1 _) (wpAny_pure ?_)
 refine wpAny_bind (kdu_collect (A:=X.A.in1) (kdl_dict (knd:=zW X.prog X.w) (kvs:=vs) (ep:=ep) hd) (I.ok.hd hc) hat (by rw [hlen,sizeLine_eq];omega) λh' tk acc hk hacc=>?_)
 have hl:acc.toList.length=kvs.length:=by rw [length_toList,<- hlen];exact hacc.1
 have hS:StrsAre acc.toList (kvs.map (·.1)):=zjv (by rw [hl,length_map]) λj v hv=>by
  obtain ⟨k,x,hx,hk⟩:=hacc.2 j v (by rw [<- getElem?_toList];exact hv)
  have hj:j<vs.length:=(List.getElem?_eq_some_iff.mp hx).1
  have hj':j<kvs.length:=by omega
  have e2:(sk kvs)[j]?=some (.inr kvs[j].1,kvs[j].2):=by simp [sk,hj']
  obtain ⟨u',hu',_⟩:=rel.at e2
  rw [hx] at hu'
  cases hu'
  rcases zbb (show zbu (Sum.inr kvs[j].1) v=true from hk) with ⟨i,t,e1,e2⟩|⟨y,t,e1,e2⟩
  ·cases e1
  ·cases e1
   exact ⟨t,by rw [e2,getD_eq_getElem?_getD,getElem?_map,List.getElem?_eq_getElem hj'];rfl⟩
 have I1:Inv X Ga σ H { s with heap:=h',toks:=tk }:=I.kept hk
 refine wpAny_bind (wpAny_newList ?_ (by rw [hl,sizeLine_eq];omega))
 have hoL:(h'.push (seqObj "list" acc.toList.toArray 0)).get? h'.objs.size=some (seqObj "list" acc.toList.toArray 0):=get?_push_size _ rfl
 refine wpAny_bind (wpAny_holding (wpAny_call_entry slot_list_sort ⟨_,hoL,rfl⟩ entry_list_sort (list_sort_treeK strKind_oneLt hoL hS.keysOf (λv₁ v₂ z9 e=>keyKind_strs (by rw [<- e];exact hS)) (by rw [hl];exact h64) λst' a1 a2=>⟨_,rfl,?_⟩) (args_list_sort _)))
 obtain ⟨ss',b1,b2,b3⟩:=sorted_out_str hS a1 a2
 have e3:=zj6 b2 b3
 subst e3
 obtain ⟨c,hcz⟩:=sortedHeap_at (vs:=acc.toList) (out:=(arrOf st').map (·.2)) hoL
 refine wpAny_pure ⟨_,rfl,.ref h'.objs.size,upd H h'.objs.size (.lst ((zaH (kvs.map (·.1))).map V.str)),I1.laid (a:=h'.objs.size) (t':=tk) (λb o e=>?_) (le_refl _) ⟨?_,((arrOf st').map (·.2)).toList,c,zjZ b1,by rw [toArray_toList];exact hcz⟩,rfl,q _ _ (.mk' (I1.hok.fresh (le_refl _)))⟩
 ·have hb:b<h'.objs.size:=lt_size e
  rw [sortedHeap_old (ne_of_lt hb) (by rw [size_push'];exact lt_succ_of_lt hb)]
  exact get?_push_of_some _ e
 ·have:=b2.length_eq
  rw [length_map,this,length_map,sizeLine_eq]
  omega
def zha(to:TE):TE:=λσ H Q=>to σ H λx H1=>uR x λa=>∃kvs,Rd H1 a (.dK kvs)/\∀v H2,New H1 v (.ext λh=>h.IsValuesView v a) H2->Q (.ref v) H2
theorem znD{to:TE}{σ:St}{H:Hp}{Q:VK}:zha to σ H Q=to σ H λx H1=>uR x λa=>∃kvs,Rd H1 a (.dK kvs)/\∀v H2,New H1 v (.ext λh=>h.IsValuesView v a) H2->Q (.ref v) H2:=rfl
theorem zs0{l:Expr}{tl:TE}{apos cpos:Pos}(ho:PE X l tl)(hbase:attributeBase l "values" X.env (eval l X.env)=eval l X.env:=by rfl)(hline:(apos.endLine==cpos.line)=true:=by rfl):PE X (.Call (.Attribute l "values" apos) [] [] cpos) (zha tl):=by
 intro Ga s σ H Q I h
 refine wpAny_Call_method0_late hbase hline (thn (ho Ga s σ H _ I h) λv s1 ⟨x,H1,I1,r1,a,ex,kvs,hq,q⟩=>?_)
 subst ex
 cases r1
 obtain ⟨z,hm,vs,rel,dd⟩:=zaE I1.hok hq
 obtain ⟨t1,t2,_⟩:=zdS I1 (.inl ⟨kvs,hq⟩)
 refine ⟨"dict","dict.values",plainAttrs_dict,slot_dict_values,PySem.F.type_dict_values,t1,t2,Calls.callWith_builtin rfl (PySem.evalArgs_none ?_)⟩
 refine call_meetsIn slot_dict_values dd.typeIs PySem.F.entry_dict_values (PySem.F.args_dict_values_1 _) (meets_dict_values (zW X.prog X.w) a hm) ⟨⟨vs,dd⟩,?_⟩
 have hv:(s1.heap.push { cls:=.type "dict_values",data:=.fields #[.ref a] }).IsValuesView s1.heap.objs.size a:=⟨_,get?_push_size _ rfl,rfl,rfl⟩
 exact ⟨.ref s1.heap.objs.size,_,I1.laid (t':=s1.toks) (o:=.ext λh=>h.IsValuesView s1.heap.objs.size a) (λb o e=>get?_push_of_some _ e) (le_refl _) ⟨hv,⟨_,get?_push_size _ rfl⟩,λh1 h2 ⟨o,e,r⟩ k=>⟨o,k o e,r⟩⟩,rfl,q _ _ (.mk' (I1.hok.fresh (le_refl _)))⟩
def ziY:List V->Hp->VK->Prop:=λxs H Q=>uR1 xs λv=>∃a kvs,H v=some (.ext λh=>h.IsValuesView v a)/\Rd H a (.dK kvs)/\∀p H2,New H p (.lst (kvs.map (·.2))) H2->Q (.ref p) H2
theorem znp{v:Addr}{H:Hp}{Q:VK}:ziY [.ref v] H Q = ∃a kvs,H v=some (.ext λh=>h.IsValuesView v a)/\Rd H a (.dK kvs)/\∀p H2,New H p (.lst (kvs.map (·.2))) H2->Q (.ref p) H2:=za8
theorem zhb:∀{xs:List V}{us:List Value},xs.length=us.length->(∀(j:Nat)(u:Value),us[j]?=some u->∃x,xs[j]?=some x/\zm x u)->zi xs us
 | [],[],_,_=>.nil
 | [],_::_,h,_=>absurd h (by simp)
 | _::_,[],h,_=>absurd h (by simp)
 | x::xs,u::us,h,f=>by
  obtain ⟨y,e,r⟩:=f 0 u rfl
  cases e
  exact .cons r (zhb (by simpa using h) λj w hw=>f (j+1) w hw)
theorem zr0(hc:X.calm=true):zL X (.type "list") ziY:=by
 intro Ga s σ H xs us Q I r h
 obtain ⟨v,rfl,a,kvs,hv,hq,q⟩:=h
 obtain ⟨u,rfl,ru⟩:=zaR r
 cases ru
 obtain ⟨z,hd,vs,rel,dd⟩:=zaE I.hok hq
 obtain ⟨ep,hat⟩:=dd.dictAt
 obtain ⟨hvv,_,_⟩:=I.hok v _ hv
 have hlen:=rel.length
 refine kdl_call (kdl_values (knd:=zW X.prog X.w) (kvs:=vs) (ep:=ep)) (I.ok.hd hc) ⟨hvv,hat⟩ (by rw [<- hlen];exact z) λh' tk acc' c' hk hS' hacc=>?_
 have I1:Inv X Ga σ H { s with heap:=h',toks:=tk }:=I.kept hk
 refine ⟨.ref s.heap.objs.size,upd H s.heap.objs.size (.lst (kvs.map (·.2))),I.laid (a:=s.heap.objs.size) (t':=tk) hk (le_refl _) ⟨by rw [length_map];exact z,acc'.toList,c',zhb ?_ λj u hu=>?_,by rw [toArray_toList];exact hS'⟩,rfl,q _ _ (.mk' (I.hok.fresh (le_refl _)))⟩
 ·have h3:=hacc.1
  have h4:acc'.toList.length=acc'.size:=length_toList ..
  rw [length_map]
  omega
 ·obtain ⟨k,hx⟩:=hacc.2 j u (by rw [<- getElem?_toList];exact hu)
  have hj:j<vs.length:=(List.getElem?_eq_some_iff.mp hx).1
  have hj':j<kvs.length:=by omega
  obtain ⟨u',hu',r'⟩:=rel.at (List.getElem?_eq_getElem hj')
  rw [hx] at hu'
  cases hu'
  exact ⟨_,by rw [getElem?_map,List.getElem?_eq_getElem hj'];rfl,r'⟩
end
end L2
namespace HT
open PySem PySem.Spec PyProof.Rows PySem.Calls
section
variable {prog:Program}{w:World}{A:Around}{E:Value->Shared->Prop}{s:Shared}
theorem getItem_tuple_whole{t sl:Addr}{items:Array Value}{vl vu:Value}{lo hi:Option Int}{Q:Value->Shared->Prop}(ht:IsTup s.heap t items)(hs:s.heap.IsSliceOf sl vl vu .none)(pl:IsPart vl lo)(pu:IsPart vu hi)
  (h0:sIx items.size 0 lo=0) (h1:sIx items.size items.size hi=items.size)
  (h:Q (.ref t) s):wpAny (model prog w) A (getItem (.ref t) (.ref sl)) Q E s:=by
 obtain ⟨os,hos,hcs,hds⟩:=id hs
 have hTs:s.TypeIs (.ref sl) "slice":=⟨os,hos,hcs⟩
 unfold getItem
 try with_reducible refine wpAny_holding ?_
 first|refine wpAny_bind (wpAny_pure ?_)|skip
 refine wpAny_bind (wpAny_sequenceKey ht.typeIs (by decide) ?_)
 refine wpAny_bind (wpAny_callSpecial?_slot (name:=Str.ofString "__getitem__") ht.typeIs PyProof.Rows.slot_tuple_getitem
  (wpAny_call_entry PyProof.Rows.slot_tuple_getitem ht.typeIs entry_tuple_getitem ?_ (args_tuple_getitem _ _)))
 show wpAny _ _ (Builtin.Tuple.tupleItemsOf (.ref t)>>=_) _ _ s
 refine wpAny_bind (tupleItemsOf_ ht ?_)
 refine wpAny_bind (wpAny_typeOf hTs ?_)
 rw [if_pos (by decide)]
 refine wpAny_bind (ziK hs pl pu ?_)
 have hyes:(((sIx items.size 0 lo:Nat):Int)==0&&(1:Int)==1&&(sIx items.size items.size hi-sIx items.size 0 lo)==items.size)=true:=by
  rw [h0,h1];simp
 show wpAny _ _ (if (((sIx items.size 0 lo:Nat):Int)==0&&(1:Int)==1&&(sIx items.size items.size hi-sIx items.size 0 lo)==items.size)=true then _ else _) _ _ s
 rw [if_pos hyes]
 have hex:∀{R:Bool->Shared->Prop}{A':Around}{E':Value->Shared->Prop},R true s->wpAny (model prog w) A' (Builtin.Tuple.tupleIsExact (.ref t)) R E' s:=λ{R A' E'} hr=>by
  unfold Builtin.Tuple.tupleIsExact
  first
   | exact wpAny_bind (wpAny_typeOf ht.typeIs (wpAny_pure hr))
   | exact wpAny_map (wpAny_typeOf ht.typeIs hr)
 refine wpAny_bind (hex ?_)
 first
  | exact wpAny_bind (wpAny_rule (wpAny_bind (wpAny_pure (wpAny_pure ⟨_,rfl,wpAny_pure h⟩))))
  | exact wpAny_bind (wpAny_rule (wpAny_pure ⟨_,rfl,wpAny_pure h⟩))
  | exact wpAny_bind (wpAny_rule (wpAny_bind (wpAny_pure ⟨_,rfl,wpAny_pure h⟩)))
end
end HT
namespace L2
open PySem PySem.Spec PyProof.Rows PySem.W PySem.Calls
section
variable {X:Cx}
def zec:V->Option Int->Option Int->Hp->VK->Prop:=λx lo hi H Q=>uSl x lo hi H Q\/∃a xs,x = .ref a/\H a=some (.tup xs)/\∀p H2,zf H H2->H2 p=some (.tup (zaq xs lo hi))->Q (.ref p) H2
theorem zfF:SlR X zec:=by
 intro Ga s σ H x v vl vu lo hi sl Q I rx hs pl pu h
 rcases h with h|⟨a,xs,rfl,hx,q⟩
 ·exact zey Ga s σ H x v vl vu lo hi sl Q I rx hs pl pu h
 ·by_cases hw:HT.sIx xs.length 0 lo=0/\HT.sIx xs.length xs.length hi=xs.length
  ·cases rx
   obtain ⟨its,r,ht,hz⟩:=I.tuple (SqT.of hx)
   have hlen:its.toArray.size=xs.length:=by rw [size_toArray];exact r.length.symm
   refine ⟨"tuple",_,PyProof.Rows.slot_tuple_getitem.lookup,ht.typeIs,?_⟩
   refine HT.getItem_tuple_whole ht hs pl pu (by rw [hlen];exact hw.1) (by rw [hlen];exact hw.2) ⟨.ref a,H,I,rfl,q a H (zf.refl _) ?_⟩
   rw [hx]
   unfold zaq
   rw [hw.1,hw.2]
   simp
  ·exact zk9 Ga s σ H _ v vl vu lo hi sl Q I rx hs pl pu ⟨a,xs,rfl,SqT.of hx,hw,λp hp=>q p _ (New.mk' (o:=.tup (zaq xs lo hi)) hp).same zp⟩
theorem zrh{z:Str}{lo hi:Option Int}{H:Hp}{Q:VK}:zec (.str z) lo hi H Q=(z.length<=sizeLine/\Q (.str (Txt.slice z lo hi)) H):=by simp [zec,ziE]
theorem zpH{a:Addr}{lo hi:Option Int}{H:Hp}{Q:VK}:zec (.ref a) lo hi H Q=((∃xs,H a=some (.lst xs)/\∀p H2,New H p (.lst (zaq xs lo hi)) H2->Q (.ref p) H2)\/∃xs,H a=some (.tup xs)/\∀p H2,zf H H2->H2 p=some (.tup (zaq xs lo hi))->Q (.ref p) H2):=by
 unfold zec
 rw [zi6]
 apply propext;constructor
 ·rintro (h|⟨a',xs,e,h⟩)
  ·exact .inl h
  ·cases e;exact .inr ⟨xs,h⟩
 ·rintro (h|⟨xs,h⟩)
  ·exact .inl h
  ·exact .inr ⟨a,xs,rfl,h⟩
def zdF:R2:=λx y H Q=>∃a b xs ys,x = .ref a/\y = .ref b/\H a=some (.tup xs)/\H b=some (.tup ys)/\xs.length+ys.length<=sizeLine/\∀p H2,zf H H2->H2 p=some (.tup (xs++ys))->Q (.ref p) H2
theorem zoD:OpR X (binaryOp .Add) zdF:=by
 intro Ga s σ H x y v u Q I rx ry h
 obtain ⟨a,b,xs,ys,rfl,rfl,ha,hb,hz,q⟩:=h
 by_cases hx:xs=[]
 ·cases rx
  cases ry
  obtain ⟨its,r1,p1,_⟩:=I.tuple (SqT.of ha)
  obtain ⟨its2,r2,p2,_⟩:=I.tuple (SqT.of hb)
  obtain ⟨⟨cls,dd,data,sl⟩,ho,hc,n,hd⟩:=id p1
  obtain ⟨⟨cls2,dd2,data2,sl2⟩,ho2,hc2,n2,hd2⟩:=id p2
  simp only at hc hd hc2 hd2
  subst hc hd hc2 hd2
  have hi:its=[]:=r1.nil_iff.mpr hx
  exact concat_meets ⟨_,ho,rfl⟩ ⟨_,ho2,rfl⟩ noFill_tuple_add seq_tuple_add slot_tuple_add entry_tuple_add (args_tuple_add_2 _ _)
   (tuple_addW0 a b its.toArray its2.toArray n n2 dd dd2 sl sl2 (by simp [hi])) ⟨ho,ho2,⟨.ref b,H,I,rfl,q b H (zf.refl _) (by rw [hb,hx];rfl)⟩⟩
 ·exact zmx Ga s σ H _ _ v u Q I rx ry ⟨a,b,xs,ys,rfl,rfl,SqT.of ha,SqT.of hb,hx,hz,λe=>q a H (zf.refl _) (by rw [ha,e,append_nil]),λ_ p hp=>q p _ (New.mk' (o:=.tup (xs++ys)) hp).same zp⟩
def zce:R2:=λx y H Q=>zbd x y H Q\/zdF x y H Q
theorem zeN:OpR X (binaryOp .Add) zce:=zaA.or zoD
theorem zo6{i j:Int}{H:Hp}{Q:VK}:zce (.int i) (.int j) H Q=Q (.int (i+j)) H:=by simp [zce,zdF,zbd]
theorem zrd{i j:Str}{H:Hp}{Q:VK}:zce (.str i) (.str j) H Q=(i.length+j.length<=sizeLine/\Q (.str (i++j)) H):=by simp [zce,zdF,zbd]
theorem zqr{a b:Addr}{H:Hp}{Q:VK}:zce (.ref a) (.ref b) H Q=((∃xs zs,H a=some (.lst xs)/\H b=some (.lst zs)/\xs.length+zs.length<=sizeLine/\∀p H2,New H p (.lst (xs++zs)) H2->Q (.ref p) H2) \/
  ∃xs ys,H a=some (.tup xs)/\H b=some (.tup ys)/\xs.length+ys.length<=sizeLine/\∀p H2,zf H H2->H2 p=some (.tup (xs++ys))->Q (.ref p) H2):=by
 unfold zce
 rw [zho]
 apply propext;constructor
 ·rintro (h|⟨a',b',xs,ys,e1,e2,h⟩)
  ·exact .inl h
  ·cases e1;cases e2;exact .inr ⟨xs,ys,h⟩
 ·rintro (h|⟨xs,ys,h⟩)
  ·exact .inl h
  ·exact .inr ⟨a,b,xs,ys,rfl,rfl,h⟩
def zih:List V->Hp->VK->Prop:=λxs H Q=>∃i j,xs=[.int i,.int j]/\(0<j/\j<2 ^ 64)/\∀p H2,New H p (.tup [.int (i / j),.int (i % j)]) H2->Q (.ref p) H2
theorem ztk{i j:Int}{H:Hp}{Q:VK}:zih [.int i,.int j] H Q=((0<j/\j<2 ^ 64)/\∀p H2,New H p (.tup [.int (i / j),.int (i % j)]) H2->Q (.ref p) H2):=by
 apply propext;constructor
 ·rintro ⟨i',j',e,h⟩;cases e;exact h
 ·exact λh=>⟨i,j,rfl,h⟩
theorem ztT:zL X (.builtin "divmod") zih:=by
 intro Ga s σ H xs us Q I r h
 obtain ⟨i,j,rfl,⟨h1,h2⟩,q⟩:=h
 obtain ⟨u,w',rfl,⟨t,rfl⟩,⟨t',rfl⟩⟩:=zfu r
 have hlog:j.natAbs.log2<9000:=by
  have:j.natAbs.log2<64:=(Nat.log2_lt (by omega)).mpr (by omega)
  omega
 refine divmod_int (by omega) ?_ (.inl (PyProof.noPylong_of_log2 hlog))
 rw [Int.fdiv_eq_ediv_of_nonneg i (by omega),Int.fmod_eq_emod_of_nonneg i (by omega)]
 have hn:H s.heap.objs.size=none:=I.hok.fresh (le_refl _)
 refine ⟨.ref s.heap.objs.size,_,?_,rfl,q _ _ (.mk' hn)⟩
 refine I.laid (λb o e=>get?_push_of_some _ e) (le_refl _) ⟨by simp only [length_cons,length_nil];rw [sizeLine_eq];decide,[.int (i / j) s.toks,.int (i % j) (s.toks+1)],.cons ⟨_,rfl⟩ (.cons ⟨_,rfl⟩ .nil),?_⟩
 exact ⟨_,get?_push_size s.heap rfl,rfl,0,rfl⟩
def ze1:R2:=λx y H Q=>rI0 (λi j=>.bl (decide (i<=j))) x y H Q\/∃i j,x = .str i/\y = .str j/\Q (.bl (!decide (j.cps.toList<i.cps.toList))) H
theorem zrl{i j:Int}{H:Hp}{Q:VK}:ze1 (.int i) (.int j) H Q=Q (.bl (decide (i<=j))) H:=by simp [ze1,rI0]
theorem zsK{i j:Str}{H:Hp}{Q:VK}:ze1 (.str i) (.str j) H Q=Q (.bl (!decide (j.cps.toList<i.cps.toList))) H:=by simp [ze1,rI0]
def zhm:TS:=λ_ _ _=>False
theorem zmo{st:Stmt}:PS X st zhm:=λ_ _ _ _ _ _ h=>h.elim
def zuG(to te:TE):TE:=λσ H Q=>to σ H λx H1=>uR x λl=>(∃xs,H1 l=some (.lst xs))/\te σ H1 λy H2=>uR y λb=>∃xs zs,H2 l=some (.lst xs)/\H2 b=some (.lst zs)/\xs.length+zs.length<=sizeLine/\Q .non (upd H2 l (.lst (xs++zs)))
theorem zrV{to te:TE}{σ:St}{H:Hp}{Q:VK}:zuG to te σ H Q=to σ H λx H1=>uR x λl=>(∃xs,H1 l=some (.lst xs))/\te σ H1 λy H2=>uR y λb=>∃xs zs,H2 l=some (.lst xs)/\H2 b=some (.lst zs)/\xs.length+zs.length<=sizeLine/\Q .non (upd H2 l (.lst (xs++zs))):=rfl
end
section
variable {K:PySem.W.Frag}{g:TG}{tb:TS}{D:zah}{σ:St}{H:Hp}{tl:TE}{R:It->Hp->Prop}{tt:TT}{te:TE}{Q:VK}{a:Addr}{o:Obj}{kvs:List (Key×V)}
theorem zoA:zfa tl σ H R=tl σ H λx H1=>uR x λa=>∃o kvs,H1 a=some (.frz o (.dK kvs))/\R (Itd a o kvs) H1:=by
 unfold zfa uR
 congr;funext x H1
 apply propext;constructor
 ·rintro ⟨a,o,kvs,e,h⟩;exact ⟨a,e,o,kvs,h⟩
 ·rintro ⟨a,e,o,kvs,h⟩;exact ⟨a,o,kvs,e,h⟩
theorem zsa:ze6 tl σ H R=tl σ H λx H1=>uR x λa=>∃o kvs,H1 a=some (.frz o (.dK kvs))/\R (Itw a o kvs) H1:=by
 unfold ze6 uR
 congr;funext x H1
 apply propext;constructor
 ·rintro ⟨a,o,kvs,e,h⟩;exact ⟨a,e,o,kvs,h⟩
 ·rintro ⟨a,e,o,kvs,h⟩;exact ⟨a,o,kvs,e,h⟩
theorem zan.dct(Pv:Nat->St->Hp->Prop)(h0:Pv 0 σ H)(hl:∀i σ H,i<=kvs.length->Pv i σ H->H a=some (.frz o (.dK kvs)))
  (hs:∀i p σ H,kvs[i]?=some p->Pv i σ H->g (kV p.1) σ H λσ2 H2=>tb { D with nx:=Pv (i+1),ct:=Pv (i+1),bk:=D.nx } σ2 H2) (hd:∀σ H,Pv kvs.length σ H->D.nx σ H):zan (Itd a o kvs) g tb D σ H:=by
 refine ⟨λi m σ H=>m=kvs.length-i/\i<=kvs.length/\Pv i σ H,⟨kvs.length,by simp,zero_le _,h0⟩,?_⟩
 rintro i m σ H ⟨rfl,hi,p⟩
 have q:=hl i σ H hi p
 by_cases hlt:i<kvs.length
 ·refine .inr ⟨⟨q,hlt⟩,Pv (i+1),λσ' H' p'=>⟨kvs.length-(i+1),by omega,rfl,hlt,p'⟩,λx H' y=>?_⟩
  obtain ⟨e,z,hz,ex⟩:=y
  subst e ex
  exact hs i z σ _ hz p
 ·have e:i=kvs.length:=by omega
  subst e
  exact .inl ⟨⟨q,le_refl _⟩,hd σ H p⟩
theorem zan.vls(Pv:Nat->St->Hp->Prop)(h0:Pv 0 σ H)(hl:∀i σ H,i<=kvs.length->Pv i σ H->H a=some (.frz o (.dK kvs)))
  (hs:∀i p σ H,kvs[i]?=some p->Pv i σ H->g p.2 σ H λσ2 H2=>tb { D with nx:=Pv (i+1),ct:=Pv (i+1),bk:=D.nx } σ2 H2) (hd:∀σ H,Pv kvs.length σ H->D.nx σ H):zan (Itw a o kvs) g tb D σ H:=by
 refine ⟨λi m σ H=>m=kvs.length-i/\i<=kvs.length/\Pv i σ H,⟨kvs.length,by simp,zero_le _,h0⟩,?_⟩
 rintro i m σ H ⟨rfl,hi,p⟩
 have q:=hl i σ H hi p
 by_cases hlt:i<kvs.length
 ·refine .inr ⟨⟨q,hlt⟩,Pv (i+1),λσ' H' p'=>⟨kvs.length-(i+1),by omega,rfl,hlt,p'⟩,λx H' y=>?_⟩
  obtain ⟨e,z,hz,ex⟩:=y
  subst e ex
  exact hs i z σ _ hz p
 ·have e:i=kvs.length:=by omega
  subst e
  exact .inl ⟨⟨q,le_refl _⟩,hd σ H p⟩
theorem zls{t:TS}:tFz t D σ H = ∃a kvs,H a=some (.dK kvs)/\∀o,t (D.thaw a kvs) σ (upd H a (.frz o (.dK kvs))):=rfl
theorem zt3{t:TE}:zhs t σ H Q = ∃a kvs,H a=some (.dK kvs)/\∀o,t σ (upd H a (.frz o (.dK kvs))) λv H'=>zbS a kvs H' (Q v):=rfl
end
end L2
namespace L2
open PySem PySem.Spec PyProof.Rows
section
variable {X:Cx}
theorem zim{tg:Expr}{l:Expr}{tl:TE}(hl:W (PE X l tl)):W (PI X tg l (zfa tl)):=⟨ztG (hl:=hl.h)⟩
theorem zhg{tg:Expr}{l:Expr}{tl:TE}{apos cpos:Pos}(ho:W (PE X l tl))(hbase:attributeBase l "values" X.env (eval l X.env)=eval l X.env:=by rfl)(hline:(apos.endLine==cpos.line)=true:=by rfl):W (PI X tg (.Call (.Attribute l "values" apos) [] [] cpos) (ze6 tl)):=⟨zpI (ho:=ho.h) (hbase:=hbase) (hline:=hline)⟩
theorem zgw{X:Cx}{st:Stmt}{t:TS}(h:W (PS X st t)):W (PS X st (tFz t)):=⟨zmH (h:=h.h)⟩
theorem zoa{X:Cx}{e:Expr}{t:TE}(h:W (PE X e t)):W (PE X e (zhs t)):=⟨znd (h:=h.h)⟩
theorem zkg{o i:Expr}{td ty:TE}{tpos pos:Pos}(ho:W (PE X o td))(hi:W (PE X i ty)):W (PS X (.Delete [.Subscript o i tpos] pos) (zgB td ty)):=⟨zl7 (ho:=ho.h) (hi:=hi.h)⟩
theorem zf1{o e f:Expr}{td ty tx:TE}{apos cpos:Pos}(hu:X.A.units+1<cLine)(ho:W (PE X o td))(he:W (PE X e ty))(hf:W (PE X f tx))(m:M2 X o "get" apos e f cpos:=by exact ⟨rfl,rfl,rfl,rfl⟩):W (PE X (.Call (.Attribute o "get" apos) [e,f] [] cpos) (zhC td ty tx)):=⟨zlM (hu:=hu) (ho:=ho.h) (he:=he.h) (hf:=hf.h) (m:=m)⟩
theorem zhM{o e:Expr}{td ty:TE}{apos cpos:Pos}(ho:W (PE X o td))(he:W (PE X e ty))(m:M1 X o "pop" apos e cpos:=by exact ⟨rfl,rfl,rfl,rfl⟩):W (PE X (.Call (.Attribute o "pop" apos) [e] [] cpos) (zhz td ty)):=⟨zmL (ho:=ho.h) (he:=he.h) (m:=m)⟩
theorem zmT{l:Expr}{tl:TE}{apos cpos:Pos}(ho:W (PE X l tl))(hbase:attributeBase l "values" X.env (eval l X.env)=eval l X.env:=by rfl)(hline:(apos.endLine==cpos.line)=true:=by rfl):W (PE X (.Call (.Attribute l "values" apos) [] [] cpos) (zha tl)):=⟨zs0 (ho:=ho.h) (hbase:=hbase) (hline:=hline)⟩
theorem zdg{st:Stmt}:W (PS X st zhm):=⟨zmo ⟩
end
section
variable {α β:Type}
def look(t:List (Str×α))(n:Str):Option α:=(t.find? λp=>decide (p.1=n)).map (·.2)
def zQ(t:List (Str×α))(n:Str)(a:α):List (Str×α):=if (look t n).isSome then t.map λp=>if p.1=n then (p.1,a) else p else t++[(n,a)]
def zy(t:List (Str×α))(n:Str):List (Str×α):=t.filter λp=>!decide (p.1=n)
def names(t:List (Str×α)):List Str:=t.map (·.1)
theorem zjV{n:Str}:look ([]:List (Str×α)) n=none:=rfl
theorem zaK{p:Str×α}{t:List (Str×α)}{n:Str}:look (p::t) n=if p.1=n then some p.2 else look t n:=by
 unfold look
 by_cases h:p.1=n
 ·rw [List.find?_cons_of_pos (by simpa using h),if_pos h];rfl
 ·rw [List.find?_cons_of_neg (by simpa using h),if_neg h]
theorem zb2{t:List (Str×α)}{n:Str}{a:α}(h:look t n=some a):(n,a)∈t:=by
 induction t with
 | nil=>cases h
 | cons p t ih =>
  rw [zaK] at h
  by_cases e:p.1=n
  ·rw [if_pos e] at h
   cases h
   subst e
   exact mem_cons_self ..
  ·rw [if_neg e] at h
   exact mem_cons_of_mem _ (ih h)
theorem zaI{t:List (Str×α)}{n:Str}:look t n=none↔n∉names t:=by
 induction t with
 | nil=>simp [look,names]
 | cons p t ih =>
  rw [zaK]
  by_cases e:p.1=n
  ·rw [if_pos e];simp [names,e]
  ·rw [if_neg e,ih]
   simp [names]
   exact λ_=>λh=>e h.symm
theorem zcu{t:List (Str×α)}(nd:(names t).Nodup){n:Str}{a:α}(h:(n,a)∈t):look t n=some a:=by
 induction t with
 | nil=>cases h
 | cons p t ih =>
  rw [zaK]
  have nd':p.1∉names t/\(names t).Nodup:=nodup_cons.mp nd
  rcases mem_cons.mp h with e|h
  ·rw [<- e,if_pos rfl]
  ·have:p.1≠n:=λe=>nd'.1 (by rw [e];exact List.mem_map_of_mem (f:=(·.1)) h)
   rw [if_neg this]
   exact ih nd'.2 h
theorem zki{t:List (Str×α)}{n:Str}{a:α}:names (zQ t n a)=if (look t n).isSome then names t else names t++[n]:=by
 unfold zQ names
 by_cases h:(look t n).isSome
 ·rw [if_pos h,if_pos h,map_map]
  refine map_congr_left λp _=>?_
  show (if p.1=n then (p.1,a) else p).1=p.1
  split<;>rfl
 ·rw [if_neg h,if_neg h,map_append];rfl
theorem zc2{t:List (Str×α)}{n:Str}{a:α}(nd:(names t).Nodup):(names (zQ t n a)).Nodup:=by
 rw [zki]
 by_cases h:(look t n).isSome
 ·rw [if_pos h];exact nd
 ·rw [if_neg h]
  have:look t n=none:=by simpa using h
  rw [zaI] at this
  rw [List.nodup_append]
  refine ⟨nd,by simp,λx hx y hy e=>?_⟩
  have:y=n:=by simpa using hy
  subst this
  subst e
  contradiction
theorem zdP{t:List (Str×α)}{n:Str}(nd:(names t).Nodup):(names (zy t n)).Nodup:=by
 unfold names zy
 exact nd.sublist (List.Sublist.map _ List.filter_sublist)
theorem zuv{t:List (Str×α)}{n m:Str}{a:α}:look (t.map λp=>if p.1=n then (p.1,a) else p) m=if m=n then (if (look t n).isSome then some a else none) else look t m:=by
 induction t with
 | nil=>by_cases h:m=n<;>simp [look,h]
 | cons p t ih =>
  rw [map_cons,zaK,ih,zaK,zaK]
  by_cases e:p.1=n
  ·rw [if_pos e,if_pos e]
   show (if p.1=m then some a else _)=_
   by_cases h:m=n
   ·rw [if_pos (by rw [e,h]),if_pos h];rfl
   ·rw [if_neg (λz=>h (by rw [<- z,e])),if_neg h,if_neg h,if_neg (λz=>h (by rw [<- z,e]))]
  ·rw [if_neg e,if_neg e]
   by_cases h:m=n
   ·rw [if_pos h,if_pos h,if_neg (λz=>e (by rw [z,h]))]
   ·rw [if_neg h,if_neg h]
theorem zqe{t u:List (Str×α)}{m:Str}:look (t++u) m=(look t m).or (look u m):=by
 induction t with
 | nil=>simp [zjV]
 | cons p t ih =>
  rw [List.cons_append,zaK,zaK,ih]
  by_cases h:p.1=m
  ·rw [if_pos h,if_pos h];rfl
  ·rw [if_neg h,if_neg h]
theorem zbj{t:List (Str×α)}{n m:Str}{a:α}:look (zQ t n a) m=if m=n then some a else look t m:=by
 unfold zQ
 by_cases h:(look t n).isSome
 ·rw [if_pos h,zuv,if_pos h]
 ·rw [if_neg h,zqe,zaK]
  have hn:look t n=none:=by simpa using h
  by_cases e:m=n
  ·rw [if_pos e,e,hn,if_pos rfl];rfl
  ·rw [if_neg e,if_neg (λz=>e z.symm),zjV,Option.or_none]
theorem zbJ{t:List (Str×α)}{n m:Str}:look (zy t n) m=if m=n then none else look t m:=by
 induction t with
 | nil=>by_cases h:m=n<;>simp [look,zy,h]
 | cons p t ih =>
  by_cases e:p.1=n
  ·have:zy (p::t) n=zy t n:=by unfold zy;rw [List.filter_cons_of_neg (by simpa using e)]
   rw [this,ih,zaK]
   by_cases h:m=n
   ·rw [if_pos h,if_pos h]
   ·rw [if_neg h,if_neg h,if_neg (λz=>h (by rw [<- z,e]))]
  ·have:zy (p::t) n=p::zy t n:=by unfold zy;rw [List.filter_cons_of_pos (by simpa using e)]
   rw [this,zaK,zaK,ih]
   by_cases h:m=n
   ·rw [if_pos h,if_pos h,if_neg (λz=>e (by rw [z,h]))]
   ·rw [if_neg h,if_neg h]
def z5(t u:List (Str×α)):Prop:=∀n,look t n=look u n
theorem z5.put{t u:List (Str×α)}(h:z5 t u)(n:Str)(a:α):z5 (zQ t n a) (zQ u n a):=λm=>by rw [zbj,zbj,h m]
theorem z5.drop{t u:List (Str×α)}(h:z5 t u)(n:Str):z5 (zy t n) (zy u n):=λm=>by rw [zbJ,zbJ,h m]
theorem z5.names{t u:List (Str×α)}(h:z5 t u)(ht:(names t).Nodup)(hu:(L2.names u).Nodup):(L2.names t).Perm (L2.names u):=by
 refine (List.perm_ext_iff_of_nodup ht hu).mpr λn=>?_
 have h1:=h n
 constructor
 ·intro hn
  refine Classical.byContradiction λz=>?_
  rw [zaI.mpr z] at h1
  exact zaI.mp h1 hn
 ·intro hn
  refine Classical.byContradiction λz=>?_
  rw [zaI.mpr z] at h1
  exact zaI.mp h1.symm hn
def Dct(R:V->α->Prop):List (Str×V)->List (Str×α)->Prop:=Paired λp q=>p.1=q.1/\R p.2 q.2
theorem Dct.names{R:V->α->Prop}{kvs:List (Str×V)}{t:List (Str×α)}(h:Dct R kvs t):kvs.map (·.1)=L2.names t:=by
 induction h with
 | nil=>rfl
 | @cons p q l m r _ ih=>show p.1::l.map (·.1)=q.1::m.map (·.1);rw [r.1,ih];rfl
theorem Dct.length{R:V->α->Prop}{kvs:List (Str×V)}{t:List (Str×α)}(h:Dct R kvs t):kvs.length=t.length:=Paired.length h
theorem Dct.imp{R S:V->α->Prop}{kvs:List (Str×V)}{t:List (Str×α)}(h:Dct R kvs t)(f:∀v a,R v a->S v a):Dct S kvs t:=Paired.mapP h λp q z=>⟨z.1,f _ _ z.2⟩
theorem Dct.look{R:V->α->Prop}{kvs:List (Str×V)}{t:List (Str×α)}(h:Dct R kvs t)(n:Str):(∃v a,L2.look kvs n=some v/\L2.look t n=some a/\R v a)\/(L2.look kvs n=none/\L2.look t n=none):=by
 induction h with
 | nil=>exact .inr ⟨rfl,rfl⟩
 | cons r _ ih =>
  rw [zaK,zaK,<- r.1]
  split
  ·exact .inl ⟨_,_,rfl,rfl,r.2⟩
  ·exact ih
theorem Dct.put{R:V->α->Prop}{kvs:List (Str×V)}{t:List (Str×α)}(h:Dct R kvs t)(n:Str){v:V}{a:α}(r:R v a):Dct R (zQ kvs n v) (zQ t n a):=by
 have hs:(L2.look kvs n).isSome=(L2.look t n).isSome:=by
  rcases h.look n with ⟨v,a,e1,e2,_⟩|⟨e1,e2⟩<;>rw [e1,e2]<;>rfl
 have hm:Dct R (kvs.map λp=>if p.1=n then (p.1,v) else p) (t.map λp=>if p.1=n then (p.1,a) else p):=by
  clear hs
  induction h with
  | nil=>exact .nil
  | @cons p q _ _ r' _ ih =>
   refine .cons ?_ ih
   show (if p.1=n then (p.1,v) else p).1=(if q.1=n then (q.1,a) else q).1/\R (if p.1=n then (p.1,v) else p).2 (if q.1=n then (q.1,a) else q).2
   by_cases e:p.1=n
   ·rw [if_pos e,if_pos (by rw [<- r'.1];exact e)];exact ⟨r'.1,r⟩
   ·rw [if_neg e,if_neg (by rw [<- r'.1];exact e)];exact r'
 have ha:Dct R (kvs++[(n,v)]) (t++[(n,a)]):=by
  clear hs hm
  induction h with
  | nil=>exact .cons ⟨rfl,r⟩ .nil
  | cons r' _ ih=>exact .cons r' ih
 unfold zQ
 rw [hs]
 split
 ·exact hm
 ·exact ha
theorem Dct.drop{R:V->α->Prop}{kvs:List (Str×V)}{t:List (Str×α)}(h:Dct R kvs t)(n:Str):Dct R (zy kvs n) (zy t n):=by
 induction h with
 | nil=>exact .nil
 | @cons p q _ _ r _ ih =>
  unfold zy at ih ⊢
  by_cases e:p.1=n
  ·rw [List.filter_cons_of_neg (by simpa using e),List.filter_cons_of_neg (by rw [<- r.1];simpa using e)];exact ih
  ·rw [List.filter_cons_of_pos (by simpa using e),List.filter_cons_of_pos (by rw [<- r.1];simpa using e)];exact .cons r ih
theorem Dct.at{R:V->α->Prop}{kvs:List (Str×V)}{t:List (Str×α)}(h:Dct R kvs t):∀{i:Nat}{p:Str×V},kvs[i]?=some p->∃a,t[i]?=some (p.1,a)/\R p.2 a:=by
 induction h with
 | nil=>intro i p e;simp at e
 | @cons x y _ _ r _ ih =>
  intro i p e
  cases i with
  | zero =>
   have e':x=p:=by simpa using e
   subst e'
   exact ⟨y.2,by rw [r.1];rfl,r.2⟩
  | succ i=>exact ih (by simpa using e)
end
theorem zax{kvs:List (Str×V)}{n:Str}:zH (sk kvs) (.inr n)=look kvs n:=by
 induction kvs with
 | nil=>rfl
 | cons p t ih =>
  rw [zaK]
  by_cases e:p.1=n
  ·rw [if_pos e]
   exact zdL (show (Sum.inr p.1:Key)=Sum.inr n by rw [e])
  ·rw [if_neg e,<- ih]
   exact zds (λz=>e (by injection z))
theorem zch{kvs:List (Str×V)}{n:Str}{v:V}:zac (sk kvs) (.inr n) v=sk (zQ kvs n v):=by
 unfold zac zQ
 have hs:((sk kvs).any λkv=>decide (kv.1 = .inr n))=(look kvs n).isSome:=by rw [zht,zax]
 rw [hs]
 split
 ·unfold sk
  rw [map_map,map_map]
  refine map_congr_left λp _=>?_
  by_cases e:p.1=n
  ·simp [e]
  ·simp [e]
 ·simp [sk]
theorem zeL{kvs:List (Str×V)}{n:Str}:zaB (sk kvs) (.inr n)=sk (zy kvs n):=by
 induction kvs with
 | nil=>rfl
 | cons p t ih =>
  by_cases e:p.1=n
  ·have:zy (p::t) n=zy t n:=by unfold zy;rw [List.filter_cons_of_neg (by simpa using e)]
   rw [this,<- ih]
   exact ztv (show (Sum.inr p.1:Key)=Sum.inr n by rw [e])
  ·have:zy (p::t) n=p::zy t n:=by unfold zy;rw [List.filter_cons_of_pos (by simpa using e)]
   rw [this]
   show zaB ((Sum.inr p.1,p.2)::sk t) (Sum.inr n)=(Sum.inr p.1,p.2)::sk (zy t n)
   rw [<- ih]
   exact zuh (λz=>e (by injection z))
theorem zpU{a:Addr}{z:Str}{H:Hp}{Q:VK}:zeC (.ref a) (.str z) H Q = ∃kvs,Rd H a (.dK kvs)/\∃v,zH kvs (.inr z)=some v/\Q v H:=by
 apply propext;constructor
 ·rintro ⟨a',k,kvs,v,e1,e2,h1,h2,q⟩
  cases e1
  cases k with
  | inl i=>cases e2
  | inr x=>cases e2;exact ⟨kvs,h1,v,h2,q⟩
 ·rintro ⟨kvs,h1,v,h2,q⟩
  exact ⟨a,.inr z,kvs,v,rfl,rfl,h1,h2,q⟩
theorem zqC{a b:Addr}{H:Hp}{Q:VK}:zdF (.ref a) (.ref b) H Q = ∃xs ys,H a=some (.tup xs)/\H b=some (.tup ys)/\xs.length+ys.length<=sizeLine/\∀p H2,zf H H2->H2 p=some (.tup (xs++ys))->Q (.ref p) H2:=by
 apply propext;constructor
 ·rintro ⟨a',b',xs,ys,e1,e2,h⟩;cases e1;cases e2;exact ⟨xs,ys,h⟩
 ·rintro ⟨xs,ys,h⟩;exact ⟨a,b,xs,ys,rfl,rfl,h⟩
def zjd:List V->Hp->VK->Prop:=λxs H Q=>uR1 xs λa=>∃kvs,Rd H a (.dK kvs)/\Q (.int kvs.length) H
theorem zoU{a:Addr}{H:Hp}{Q:VK}:zjd [.ref a] H Q = ∃kvs,Rd H a (.dK kvs)/\Q (.int kvs.length) H:=za8
theorem zl3{X:Cx}:zL X (.builtin "len") zjd:=by
 intro Ga s σ H xs us Q I r h
 obtain ⟨a,rfl,kvs,ha,q⟩:=h
 obtain ⟨u,rfl,ru⟩:=zaR r
 cases ru
 exact zpM I ha λt s' I'=>⟨.int kvs.length,H,I',⟨t,rfl⟩,q⟩
theorem zm4{X:Cx}{cm:Bool}{k j:Nat}{x:Str}{C:Addr}{ps:List Str}{sp:Sp}{p pos:Pos}(G:GC X.prog X.w X.K X.mg X.base cm j x C ps sp)(hr:zJ cm k X.A)(hg:Gl X x)(hj:j+1<=k:=by decide)(hdb:(x==("__debug__":Str))=false:=by decide) :
  PE X (.Call (.Name x p) [] [] pos) (zdW C sp zaX):=by
 obtain ⟨f,fd,F,hm,M,hb⟩:=G.ex
 intro Ga s σ H Q I h
 exact zuA M F (hr.mono hj) hg hm hb .nil zcF hdb Ga s σ H Q I (λy dx hx hd ne=>h y dx _ (.mk' hx hd ne))
theorem zfW{X:Cx}{cm:Bool}{k j:Nat}{x:Str}{C:Addr}{ps:List Str}{sp:Sp}{p pos:Pos}(G:GC X.prog X.w X.K X.mg X.base cm j x C ps sp)(hr:zJ cm k X.A)(hg:Gl X x)(hj:j+1<=k:=by decide)(hdb:(x==("__debug__":Str))=false:=by decide) :
  W (PE X (.Call (.Name x p) [] [] pos) (zdW C sp zaX)):=⟨zm4 G hr hg hj hdb⟩
def zgY:R2:=λx y H Q=>∃p xs,y = .ref p/\(H p=some (.lst xs)\/H p=some (.tup xs))/\zF x=true/\xs.all zF=true/\Q (.bl (!inV x xs)) H
theorem znW{X:Cx}(hu:X.A.units<cLine):OpR X (compareOp .NotIn) zgY:=zph.weak λx y H Q h=>by
 obtain ⟨p,xs,e,h,f1,f2,q⟩:=h
 exact ⟨p,xs,e,h.elim (λh=>.inl (SqL.of h)) (λh=>.inr (SqT.of h)),f1,f2,by simpa using q⟩
theorem zoJ{x:V}{p:Addr}{H:Hp}{Q:VK}:zgY x (.ref p) H Q = ∃xs,(H p=some (.lst xs)\/H p=some (.tup xs))/\zF x=true/\xs.all zF=true/\Q (.bl (!inV x xs)) H:=by simp [zgY]
theorem za3{kvs:List (Str×V)}:(sk kvs).length=kvs.length:=by simp [sk]
theorem zjx{kvs:List (Str×V)}{i:Nat}{p:Key×V}(h:(sk kvs)[i]?=some p):∃q,kvs[i]?=some q/\p=(.inr q.1,q.2):=by
 unfold sk at h
 rw [getElem?_map] at h
 obtain ⟨q,h1,h2⟩:=map_eq_some_iff.mp h
 exact ⟨q,h1,h2.symm⟩
section
variable {M:Model}{A:Around}{E:Value->Shared->Prop}{s:Shared}
end
def zek(pos:Pos)(qual:Str)(H:Hp)(P:Addr):Prop :=
 H P=some (.tbl #[])\/∃c' oc vs t,H P=some (.tbl #[rawInt pos.line,rawInt pos.col,.ref c'])/\H c'=some (.frz oc (.own 0))/\oc.data = .fields vs/\vs[1]?=some (.str qual t)
def zjz(H H':Hp)(P:Addr):Prop:=∀a o,a≠P->H a=some o->H' a=some o
def zjS(H:Hp)(a:Addr)(k:Int):Prop:=∃r z9 y ys,H a=some (.tup (.ref r::z9))/\H r=some (.tup (y::.int k::ys))
def zfB(P:Addr)(pos:Pos)(qual:Str)(v:V)(H1:Hp)(Q:VK):Prop:=uR v λl=>∃(as:List Addr)(ks:List Int),H1 l=some (.lst (as.map V.ref))/\zek pos qual H1 P/\as.length<64/\Paired (zjS H1) as ks /\
 ∀(D:Addr)(zs:List (Int×Addr))(H2:Hp),zjz H1 H2 P->zek pos qual H2 P->H1 D=none->D≠P->D≠sysModules->H2 D=some (.lst (zs.map λz=>V.ref z.2))->zs.Perm (ks.zip as)->zs.Pairwise (λp q=>p.1<=q.1)->Q (.ref D) H2
def zt5(P:Addr)(pos:Pos)(qual:Str)(ta:TE):TE:=λσ H Q=>ta σ H λv H1=>zfB P pos qual v H1 Q
theorem zlD{P:Addr}{pos:Pos}{qual:Str}{ta:TE}{σ:St}{H:Hp}{Q:VK}:zt5 P pos qual ta σ H Q=ta σ H λv H1=>zfB P pos qual v H1 Q:=rfl
theorem zma{P:Addr}{pos:Pos}{qual:Str}{l:Addr}{H1:Hp}{Q:VK}:zfB P pos qual (.ref l) H1 Q = ∃(as:List Addr)(ks:List Int),H1 l=some (.lst (as.map V.ref))/\zek pos qual H1 P/\as.length<64/\Paired (zjS H1) as ks /\
 ∀(D:Addr)(zs:List (Int×Addr))(H2:Hp),zjz H1 H2 P->zek pos qual H2 P->H1 D=none->D≠P->D≠sysModules->H2 D=some (.lst (zs.map λz=>V.ref z.2))->zs.Perm (ks.zip as)->zs.Pairwise (λp q=>p.1<=q.1)->Q (.ref D) H2:=zjJ
theorem zaD{α β:Type}{R:α->β->Prop}:∀{l:List α}{m:List β},Paired R l m->∀{i:Nat}{a:α}{b:β},l[i]?=some a->m[i]?=some b->R a b
 | _,_,.nil,i,a,b,h,_=>by simp at h
 | _,_,.cons r t,0,a,b,h,h'=>by
  simp at h h'
  subst h h'
  exact r
 | _,_,.cons r t,i+1,a,b,h,h'=>zaD t (by simpa using h) (by simpa using h')
theorem zaL{α β:Type}{R:α->β->Prop}{l:List α}{m:List β}(h:Paired R l m):l.length=m.length:=Paired.length h
section
variable {X:Cx}
def zkQ(K:PySem.W.Frag)(D:Addr)(tb:(Addr->St->Hp->Prop)->TS)(ts:TS):TS:=λZ σ H =>
 tb (λC σ' H'=>zcT K C/\PySem.W.mroIn K C (.ref D)=some true/\∀ea oe,H' ea=none->zfL C oe->ts Z σ' (upd H' ea (.frz oe (.own 0)))) Z σ H
theorem zpm{K:PySem.W.Frag}{D:Addr}{tb:(Addr->St->Hp->Prop)->TS}{ts:TS}{Z:zah}{σ:St}{H:Hp}:zkQ K D tb ts Z σ H=tb (λC σ' H'=>zcT K C/\PySem.W.mroIn K C (.ref D)=some true/\∀ea oe,H' ea=none->zfL C oe->ts Z σ' (upd H' ea (.frz oe (.own 0)))) Z σ H:=rfl
def zf6(neg:Bool):R2:=λx y H Q=>∃a b xs ys,x = .ref a/\y = .ref b/\H a=some (.lst xs)/\H b=some (.lst ys)/\(xs.length=0\/ys.length=0)/\Q (.bl (if neg then !decide (xs.length=ys.length) else decide (xs.length=ys.length))) H
theorem zvj(hu:X.A.units<cLine):OpR X (compareOp .Eq) (zf6 false):=by
 intro Ga s σ H x y v u Q I rx ry h
 obtain ⟨a,b,xs,ys,rfl,rfl,ha,hb,h0,q⟩:=h
 cases rx
 cases ry
 by_cases hz:xs.length=ys.length
 ·have h1:xs=[]:=length_eq_zero_iff.mp (by omega)
  have h2:ys=[]:=length_eq_zero_iff.mp (by omega)
  subst h1 h2
  exact zjW hu Ga s σ H (.ref a) (.ref b) (.ref a) (.ref b) Q I rfl rfl ⟨a,b,[],[],rfl,rfl,SqL.of ha,SqL.of hb,rfl,rfl,q⟩
 ·obtain ⟨is,r1,p1,_⟩:=I.list (SqL.of (K:=X.K) ha)
  obtain ⟨js,r2,p2,_⟩:=I.list (SqL.of (K:=X.K) hb)
  have l1:=r1.length
  have l2:=r2.length
  refine SeqAt.eq_list_lengthsAt p1.isList p2.isList (by simp;omega) hu ⟨.bl false,H,I,rfl,?_⟩
  have q':Q (.bl (decide (xs.length=ys.length))) H:=q
  rw [decide_eq_false hz] at q'
  exact q'
theorem zjp(hu:X.A.units<cLine):OpR X (compareOp .NotEq) (zf6 true):=by
 intro Ga s σ H x y v u Q I rx ry h
 obtain ⟨a,b,xs,ys,rfl,rfl,ha,hb,h0,q⟩:=h
 cases rx
 cases ry
 by_cases hz:xs.length=ys.length
 ·have h1:xs=[]:=length_eq_zero_iff.mp (by omega)
  have h2:ys=[]:=length_eq_zero_iff.mp (by omega)
  subst h1 h2
  exact zjT hu Ga s σ H (.ref a) (.ref b) (.ref a) (.ref b) Q I rfl rfl ⟨a,b,[],[],rfl,rfl,SqL.of ha,SqL.of hb,rfl,rfl,q⟩
 ·obtain ⟨is,r1,p1,_⟩:=I.list (SqL.of (K:=X.K) ha)
  obtain ⟨js,r2,p2,_⟩:=I.list (SqL.of (K:=X.K) hb)
  have l1:=r1.length
  have l2:=r2.length
  refine SeqAt.RcNeAt.lists_lengths p1.isList p2.isList (by simp;omega) hu _ _ _ _ ⟨.bl true,H,I,rfl,?_⟩
  have q':Q (.bl (!decide (xs.length=ys.length))) H:=q
  rw [decide_eq_false hz] at q'
  exact q'
theorem zkW{neg:Bool}{a b:Addr}{H:Hp}{Q:VK}:zf6 neg (.ref a) (.ref b) H Q = ∃xs ys,H a=some (.lst xs)/\H b=some (.lst ys)/\(xs.length=0\/ys.length=0)/\Q (.bl (if neg then !decide (xs.length=ys.length) else decide (xs.length=ys.length))) H:=by
 apply propext;constructor
 ·rintro ⟨a',b',xs,ys,e1,e2,h⟩;cases e1;cases e2;exact ⟨xs,ys,h⟩
 ·rintro ⟨xs,ys,h⟩;exact ⟨a,b,xs,ys,rfl,rfl,h⟩
def zgy:List V->Hp->VK->Prop:=λxs H Q=>∃i,xs=[.int i]/\Q (.int (if i<0 then -i else i)) H
theorem zrq{i:Int}{H:Hp}{Q:VK}:zgy [.int i] H Q=Q (.int (if i<0 then -i else i)) H:=by simp [zgy]
theorem zlN:zL X (.builtin "abs") zgy:=by
 intro Ga s σ H xs us Q I r h
 obtain ⟨i,rfl,q⟩:=h
 obtain ⟨u,rfl,t,rfl⟩:=zaR r
 exact call_abs_int λu tk=>⟨.int _,H,I.tok tk,⟨_,rfl⟩,q⟩
end
section
variable {K:PySem.W.Frag}{g:TG}{tt:TT}{te:TE}{H:Hp}{Q:VK}
end
theorem zuM{c:Bool}{i:Int}{p:Addr}{H:Hp}{Q:VK}:zd0 c (.int i) (.ref p) H Q = ∃kvs,Rd H p (.dK kvs)/\Q (.bl (if c then !(zH kvs (.inl i)).isSome else (zH kvs (.inl i)).isSome)) H:=by
 apply propext;constructor
 ·rintro ⟨a,k,kvs,e1,e2,h,q⟩
  cases e1
  cases k with
  | inl i=>cases e2;exact ⟨kvs,h,q⟩
  | inr x=>cases e2
 ·rintro ⟨kvs,h,q⟩;exact ⟨p,.inl i,kvs,rfl,rfl,h,q⟩
def zaO(f:Nat->Int):Nat->Option Int
 | 0=>none
 | j+1=>some (match zaO f j with|none=>f j|some m=>if f j>m then f j else m)
def zev:Option Int->Array Value->Prop|none,its=>its = #[]|some m,its=>∃t,its = #[.int m t,.int m t]
def zgc(d:Value):Option Int->Value->Prop|none,v=>v=d|some m,v=>∃t,v = .int m t
section
variable {prog:Program}{w:World}{A:Around}{E:Value->Shared->Prop}{s:Shared}
theorem zu8{R:Result->Shared->Prop}{I:Addr}{fp wr:List Addr}{n:Nat}{P:Nat->Value->Prop}{St:Nat->Heap->Prop}{d:Value}{kw:List (Str×Value)}(W:Walks prog w A.in1 I fp wr n P St)(f:Nat->Int)(hv:∀i v,P i v->∃t,v = .int (f i) t)(S:Addr)(hSf:S∉fp)(hkw:0<n\/kw=[(Str.ofString "default",d)]) :
  ∀(k j:Nat)(s:Shared)(c:Nat)(its:Array Value),n-j=k->j<=n->St j s.heap->zev (zaO f j) its ->
  s.heap.get? S=some { cls:=.type "list",dict:=none,data:=.seq its c,slots:=#[] } ->
  (∀v h' tk,zgc d (zaO f n) v->(∀b o,b∉wr->b≠S->s.heap.get? b=some o->h'.get? b=some o)->R (.ok (.ret v)) { s with heap:=h',toks:=tk }) ->
  codeAny (model prog w) A (.builtin "max.loop" ⟨[.ref I,.none,.ref S],kw⟩) R s:=by
 have hSw:S∉wr:=λh=>hSf (W.sub _ h)
 have hname:(toString "max"++toString ".loop":String)="max.loop":=by decide
 intro k
 induction k with
 | zero =>
  intro j s c its hk hj hst hC hS hR
  have hin:j=n:=by omega
  refine codeAny_builtin F.entry_max_loop ?_
  rw [Around.under_plainId F.plain_max_loop _]
  show wpAny _ A.in1 (seqItems? (.ref S)>>=_) _ _ s
  refine wpAny_bind (wpAny_seqItems hS rfl ?_)
  show wpAny _ A.in1 (tryCatch (pyNext (.ref I)) _>>=_) _ _ s
  refine wpAny_bind (wpAny_tryCatch (W.done s _ _ (hin ▸ hst) λh' tk hk'=>?_))
  have hS':=hk' S _ hSw hS
  rw [hin] at hC
  cases hb:zaO f n with
  | none =>
   rw [hb] at hC hR
   cases (show its = #[] from hC)
   have h0 : ¬ 0<n:=λz=>by
    cases n with
    | zero=>omega
    | succ m=>cases hb
   rcases hkw with z|rfl
   ·exact absurd z h0
   show wpAny _ A.in1 (rule _>>=_) _ _ _
   exact wpAny_bind (wpAny_rule (wpAny_pure (hR d _ tk rfl λb o hbw _ e=>hk' b o hbw e)))
  | some m =>
   rw [hb] at hC hR
   obtain ⟨t,rfl⟩:=hC
   show wpAny _ A.in1 (updateSeq S (λ_=>#[])>>=_) _ _ _
   refine wpAny_bind (wpAny_updateSeq hS' rfl (wpAny_bind (wpAny_letGo (wpAny_pure ?_))))
   exact hR _ _ tk ⟨t,rfl⟩ λb o hbw hbS e=>(get?_update_other _ _ (Ne.symm hbS)).trans (hk' b o hbw e)
 | succ k ih =>
  intro j s c its hk hj hst hC hS hR
  have hlt:j<n:=by omega
  refine codeAny_builtin F.entry_max_loop ?_
  rw [Around.under_plainId F.plain_max_loop _]
  show wpAny _ A.in1 (seqItems? (.ref S)>>=_) _ _ s
  refine wpAny_bind (wpAny_seqItems hS rfl ?_)
  show wpAny _ A.in1 (tryCatch (pyNext (.ref I)) _>>=_) _ _ s
  refine wpAny_bind (wpAny_tryCatch (W.item j s _ _ hlt hst λv h' tk hP hst' hk'=>?_))
  have hS':=hk' S _ hSw hS
  obtain ⟨t,rfl⟩:=hv j v hP
  have upd':∀{b o}{g:Array Value->Array Value},b≠S->h'.get? b=some o->(h'.update S (mapSeq g)).get? b=some o:=λn e=>(get?_update_other _ _ (Ne.symm n)).trans e
  have frm:∀{g:Array Value->Array Value},St (j+1) (h'.update S (mapSeq g)):=λ{g}=>W.frame _ _ _ hst' λb hb o e=>upd' (λz=>hSf (z ▸ hb)) e
  cases hb:zaO f j with
  | none =>
   rw [hb] at hC
   cases (show its = #[] from hC)
   show wpAny _ A.in1 (updateSeq S (λ_=>#[.int (f j) t,.int (f j) t])>>=_) _ _ _
   refine wpAny_bind (wpAny_updateSeq hS' rfl ?_)
   rw [hname]
   refine wpAny_pure ⟨plainId_quiet F.plain_max_loop _,ih (j+1) _ _ _ (by omega) hlt frm ?_ (get?_update_self _ hS' rfl) λv' h2 tk2 hP' hk2=>?_⟩
   ·show zev (some _) _
    rw [hb];exact ⟨t,rfl⟩
   ·exact hR v' h2 tk2 hP' λb o hbw hbS e=>hk2 b o hbw hbS (upd' hbS (hk' b o hbw e))
  | some m =>
   rw [hb] at hC
   obtain ⟨u,rfl⟩:=hC
   show wpAny _ A.in1 (tryCatch (holding [.int (f j) t,.int (f j) t] (richCompare .Gt (.int (f j) t) (.int m u)>>=_)) _>>=_) _ _ _
   obtain ⟨bt,hbt,hcmp⟩:∃bt:Nat->Nat->Bool,bt 0 1=decide (f j>m)/\CmpOf prog w A.in1 .Gt (λi v=>(i=0/\v = .int (f j) t)\/(i=1/\v = .int m u)) bt:=⟨_,rfl,CmpOf.ints_gt (λi=>if i=0 then f j else m) λi v h=>by rcases h with ⟨rfl,rfl⟩|⟨rfl,rfl⟩<;>exact ⟨_,rfl⟩⟩
   refine wpAny_bind (wpAny_tryCatch (wpAny_holding (wpAny_bind (hcmp 0 1 _ _ _ _ _ (.inl ⟨rfl,rfl⟩) (.inr ⟨rfl,rfl⟩) ?_))))
   refine wpAny_bind (wpAny_holding (wpAny_truthy_bool ?_))
   refine wpAny_bind (wpAny_letGo (wpAny_pure ?_))
   by_cases hg:f j>m
   ·rw [hbt,decide_eq_true hg]
    simp only [if_true]
    refine wpAny_bind (wpAny_updateSeq hS' rfl (wpAny_bind (wpAny_letGo ?_)))
    rw [hname]
    refine wpAny_pure ⟨plainId_quiet F.plain_max_loop _,ih (j+1) _ _ _ (by omega) hlt frm ?_ (get?_update_self _ hS' rfl) λv' h2 tk2 hP' hk2=>?_⟩
    ·show zev (some _) _
     rw [hb];simp only [if_pos hg];exact ⟨t,rfl⟩
    ·exact hR v' h2 tk2 hP' λb o hbw hbS e=>hk2 b o hbw hbS (upd' hbS (hk' b o hbw e))
   ·rw [hbt,decide_eq_false hg]
    simp only [false_eq_true,if_false]
    refine wpAny_bind (wpAny_letGo ?_)
    rw [hname]
    refine wpAny_pure ⟨plainId_quiet F.plain_max_loop _,ih (j+1) _ _ _ (by omega) hlt hst' ?_ hS' λv' h2 tk2 hP' hk2=>?_⟩
    ·show zev (some _) _
     rw [hb];simp only [if_neg hg];exact ⟨u,rfl⟩
    ·exact hR v' h2 tk2 hP' λb o hbw hbS e=>hk2 b o hbw hbS (hk' b o hbw e)
theorem znX(a d:Value):argsOk "max" ⟨[a],[(Str.ofString "default",d)]⟩:=by unfold argsOk;kernel_rfl
theorem zuO{l:Addr}{its:Array Value}{f:Nat->Int}{kw:List (Str×Value)}{d:Value}{Q:Value->Shared->Prop}(hh:A.handled=none)(hl:s.heap.IsList l its)(hv:∀(i:Nat) v,its[i]?=some v->∃t,v = .int (f i) t)(hkw:(0<its.size/\kw=[])\/kw=[(Str.ofString "default",d)])
  (h:∀v h' tk,zgc d (zaO f its.size) v->(∀b o,s.heap.get? b=some o->h'.get? b=some o)->Q v { s with heap:=h',toks:=tk }) :
  wpAny (model prog w) A (call (.builtin "max") [.ref l] kw) Q E s:=by
 have hname:(toString "max"++toString ".loop":String)="max.loop":=by decide
 have hlt:l<s.heap.objs.size:=by obtain ⟨_,e,_⟩:=hl;exact lt_size e
 have hao:argsOk "max" ⟨[.ref l],kw⟩:=by
  rcases hkw with ⟨_,rfl⟩|rfl
  ·exact F.args_max1 _
  ·exact znX _ _
 refine PyProof.Rows.kmk_tree F.kind_max F.plain_max F.entry_max hao ?_
 obtain ⟨df,hdf,hdk⟩:∃df:Option Value,Builtin.Builtins.bindParams "max" ["key","default"] 0 ⟨[],kw⟩=pure [none,df]/\(df.toList.map λd=>((Str.ofString "default":Str),d))=kw:=by
  rcases hkw with ⟨_,rfl⟩|rfl
  ·exact ⟨none,rfl,rfl⟩
  ·exact ⟨some d,rfl,rfl⟩
 show wpAny _ A.in1 (Builtin.Builtins.bindParams "max" ["key","default"] 0 ⟨[],kw⟩>>=_) _ _ s
 refine wpAny_bind (wpAny_of_eq hdf ?_)
 refine wpAny_bind (wpAny_pure ?_)
 refine wpAny_bind (wpAny_pyIter_list hl ?_)
 refine wpAny_bind (wpAny_newObj_type ?_)
 rw [hname]
 have hS:(s.heap.push { cls:=.type "list_iterator",data:=.fields #[.ref l,.int 0 0] }).objs.size=s.heap.objs.size+1:=size_push' ..
 have hlI:l≠s.heap.objs.size:=ne_of_lt hlt
 refine wpAny_pure ⟨plainId_quiet F.plain_max_loop _,?_⟩
 show codeAny _ A (.builtin "max.loop" ⟨[_,.none,_],df.toList.map λd=>((Str.ofString "default":Str),d)⟩) _ _
 rw [hdk]
 refine zu8 (Walks.list (A:=A.in1) hh _ l hlI its) f hv _ (λhm=>?_) (hkw.imp (·.1) id) _ 0 _ _ #[] rfl (zero_le _) ⟨⟨_,get?_push_of_some _ (get?_push_size _ rfl),rfl,rfl⟩,(hl.push _).push _⟩ rfl (get?_push_size _ rfl) λv h' tk hr hk=>?_
 ·rcases mem_cons.mp hm with e|hm
  ·rw [hS] at e;exact absurd e (ne_of_gt (lt_succ_self _))
  ·rcases mem_cons.mp hm with e|hm
   ·rw [hS] at e;exact absurd (e ▸ lt_succ_of_lt hlt) (lt_irrefl _)
   ·cases hm
 ·refine h v h' tk hr λb o e=>hk b o (λhm=>?_) (λz=>?_) (get?_push_of_some _ (get?_push_of_some _ e))
  ·rcases mem_cons.mp hm with e1|hm
   ·exact absurd (e1 ▸ lt_size e) (lt_irrefl _)
   ·cases hm
  ·have:=lt_size e;rw [z,hS] at this;exact absurd this (Nat.not_lt.mpr (le_succ _))
end
section
variable {X:Cx}
def zvh:List Int->Option Int
 | []=>none
 | xs=>zaO (λi=>xs.getD i 0) xs.length
def oi:Option Int->V|none=>.non|some m=>.int m
def zfz:List V->Hp->VK->Prop:=λxs H Q=>zg8 xs H Q\/∃(l:Addr)(ks:List Int),xs=[.ref l]/\H l=some (.lst (ks.map V.int))/\0<ks.length/\Q (oi (zaO (λi=>ks.getD i 0) ks.length)) H
theorem zml{ks:List Int}{its:List Value}(r:zi (ks.map V.int) its):∀(i:Nat) v,its.toArray[i]?=some v->∃t,v = .int (ks.getD i 0) t:=by
 intro i v h
 rw [<- getElem?_toList] at h
 replace h:its[i]?=some v:=h
 induction ks generalizing its i with
 | nil=>cases r;simp at h
 | cons k ks ih =>
  cases r with
  | cons r rr =>
   cases i with
   | zero=>obtain ⟨t,rfl⟩:=r;simp at h;subst h;exact ⟨t,rfl⟩
   | succ i=>exact ih rr i (by simpa using h)
theorem ztS{o:Option Int}{v:Value}(h:zgc .none o v):zm (oi o) v:=by
 cases o with
 | none=>cases (show v = .none from h);rfl
 | some m=>obtain ⟨t,rfl⟩:=h;exact ⟨_,rfl⟩
theorem zg4(hc:X.calm=true):zL X (.builtin "max") zfz:=by
 intro Ga s σ H xs us Q I r h
 rcases h with h|⟨l,ks,rfl,hl,hn,q⟩
 ·exact zrG hc Ga s σ H xs us Q I r h
 ·obtain ⟨u,rfl,ru⟩:=zaR r
  cases ru
  obtain ⟨its,rv,p,hz⟩:=I.list (SqL.of (K:=X.K) hl)
  have hlen:=rv.length
  rw [length_map] at hlen
  refine zuO (d:=.none) (f:=λi=>ks.getD i 0) (I.ok.hd hc) p.isList (zml rv) (.inl ⟨by rw [size_toArray];omega,rfl⟩) λv h' tk hr hk=>⟨_,H,I.kept hk,ztS hr,?_⟩
  rw [size_toArray,<- hlen]
  exact q
def zmq(ta:TE):TE:=λσ H Q=>ta σ H λv H1=>uR v λl=>∃ks:List Int,H1 l=some (.lst (ks.map V.int))/\Q (oi (zaO (λi=>ks.getD i 0) ks.length)) H1
theorem zpY{ta:TE}{σ:St}{H:Hp}{Q:VK}:zmq ta σ H Q=ta σ H λv H1=>uR v λl=>∃ks:List Int,H1 l=some (.lst (ks.map V.int))/\Q (oi (zaO (λi=>ks.getD i 0) ks.length)) H1:=rfl
theorem znT{i j:Int}{H:Hp}{Q:VK}:zfz [.int i,.int j] H Q=Q (.int (if j>i then j else i)) H:=by
 apply propext;constructor
 ·rintro (h|⟨l,ks,e,_⟩)
  ·rw [zgd] at h;exact h
  ·cases e
 ·exact λq=>.inl (by rw [zgd];exact q)
theorem zhX{l:Addr}{H:Hp}{Q:VK}:zfz [.ref l] H Q = ∃ks:List Int,H l=some (.lst (ks.map V.int))/\0<ks.length/\Q (oi (zaO (λi=>ks.getD i 0) ks.length)) H:=by
 apply propext;constructor
 ·rintro (⟨i,j,e,_⟩|⟨l',ks,e,h⟩)
  ·cases e
  ·cases e;exact ⟨ks,h⟩
 ·rintro ⟨ks,h⟩;exact .inr ⟨l,ks,rfl,h⟩
def zgR(to te:TE):TE:=λσ H Q=>to σ H λx H1=>uR x λl=>(∃xs,H1 l=some (.lst xs))/\te σ H1 λy H2=>∃(xs:List V)(k:Nat)(v:V),y = .int k/\H2 l=some (.lst xs)/\xs[k]?=some v/\Q v (upd H2 l (.lst (xs.eraseIdx k)))
theorem zpe{to te:TE}{σ:St}{H:Hp}{Q:VK}:zgR to te σ H Q=to σ H λx H1=>uR x λl=>(∃xs,H1 l=some (.lst xs))/\te σ H1 λy H2=>∃(xs:List V)(k:Nat)(v:V),y = .int k/\H2 l=some (.lst xs)/\xs[k]?=some v/\Q v (upd H2 l (.lst (xs.eraseIdx k))):=rfl
theorem znu{o e:Expr}{to te:TE}{apos cpos:Pos}(ho:PE X o to)(he:PE X e te)
  (hbase:attributeBase o "pop" X.env (eval o X.env)=eval o X.env:=by rfl)
  (hline:(apos.endLine==cpos.line)=true:=by rfl) (hp:zap e=true:=by rfl):PE X (.Call (.Attribute o "pop" apos) [e] [] cpos) (zgR to te):=by
 intro Ga s σ H Q I h
 have hs:starEach [e] X.env=[(false,eval e X.env)]:=zhj hp
 refine wpAny_Call_method_late hbase (by rw [hs];rfl) hline rfl (thn (ho Ga s σ H _ I h) λv s1 ⟨x,H1,I1,r1,l,ex,⟨xs,hx⟩,q1⟩=>?_)
 subst ex
 obtain ⟨h1,h2⟩:=zgz (T:="list") I1 r1 (.inl ⟨rfl,xs,SqL.of hx⟩)
 refine ⟨"list","list.pop",plainAttrs_list,PySem.F.slot_list_pop,PySem.F.type_list_pop,h1,h2,?_⟩
 rw [hs]
 refine Calls.callWith_builtin rfl (Calls.evalArgs_plain ?_)
 have hA:=zeM he zfi (hs:=hs) cpos Ga s1 σ H1 (λys H2=>match ys with|[y]=>∃(xs:List V)(k:Nat)(v:V),y = .int k/\H2 l=some (.lst xs)/\xs[k]?=some v/\Q v (upd H2 l (.lst (xs.eraseIdx k)))|_=>False) I1 q1
 rw [hs] at hA
 refine thn hA λus s2 ⟨vs,H2,I2,r2,q2⟩=>?_
 match vs,q2,r2 with
 | [_],⟨xs2,k,y,rfl,hx2,hk,q2⟩,r2 =>
  obtain ⟨hz,_⟩:=I2.lstM hx2
  have hlt:k<xs2.length:=(List.getElem?_eq_some_iff.mp hk).1
  have hkz:k<sizeLine:=lt_of_lt_of_le hlt hz
  rw [sizeLine_eq] at hkz
  exact zlP Ga s2 σ H2 (.ref l) [.int k] v us Q I2 r1 r2 ⟨l,xs2,k,k,y,rfl,rfl,hx2,by omega,by omega,by simp [seqIndex?];omega,hk,q2⟩
theorem zkA{o e:Expr}{to te:TE}{apos cpos:Pos}(ho:W (PE X o to))(he:W (PE X e te))
  (hbase:attributeBase o "pop" X.env (eval o X.env)=eval o X.env:=by rfl)
  (hline:(apos.endLine==cpos.line)=true:=by rfl) (hp:zap e=true:=by rfl):W (PE X (.Call (.Attribute o "pop" apos) [e] [] cpos) (zgR to te)):=⟨znu ho.h he.h hbase hline hp⟩
end
end L2
namespace L2
open PySem PySem.Spec PyProof.Rows PySem.W
section
variable {α β:Type}{lt:Nat->Nat->Bool}{N:Nat}
structure PM(N:Nat)(p:Array Nat):Prop where
 perm:p.Perm (List.toArray (List.range N))
theorem PM.size{p:Array Nat}(h:PM N p):p.size=N:=by have:=h.perm.size_eq;simpa using this
end
end L2
namespace L2
open PySem PySem.Spec PyProof.Rows
theorem zqZ{prog:Program}{w:World}{A:Around}{R:Result->Shared->Prop}{s:Shared}{kx vx target iter:Expr}{ifs:List Expr}{scope:Scope}{pos:Pos}{it:Value}{D:Addr}{env:Env}(I:Nat->Shared->Prop)
  (turn:∀n s,I n s->wpAny (model prog w) A (pyNext it) (λr s₁=>match r with
   | none=>R (.ok .next) s₁
   | some v=>wpAny (model prog w) A (letOwnedTupleGo target it v) (λ_ s₁'=>wpAny (model prog w) A (assign target env v) (λ_ s₂ =>
     wpAny (model prog w) A (forIn ifs true λc r=>if r=true then do let ok<-isTrue c env (eval c env);pure (ForInStep.yield ok) else pure (ForInStep.yield r)) (λok s₃ =>
      if ok=true then wpAny (model prog w) A (eval kx env) (λx s₄=>wpAny (model prog w) A (eval vx env) (λy s₅ =>
       wpAny (model prog w) A (dictSet D x y) (λ_ s₆=>∃m,m<n/\I m s₆) (λ_ _=>False) s₅) (λ_ _=>False) s₄) (λ_ _=>False) s₃
      else ∃m,m<n/\I m s₃) (λ_ _=>False) s₂) (λ_ _=>False) s₁') (λ_ _=>False) s₁) (λ_ _=>False) s)
  (n:Nat) (h:I n s):codeAny (model prog w) A (.compLoop (.DictComp kx vx [⟨target,iter,ifs,0⟩] scope pos) 0 it (.ref D) env) R s:=by
 refine codeAny_loop rfl I (λn s hI=>?_) n h
 show wpAny _ A ((compTurn (.DictComp kx vx [⟨target,iter,ifs,0⟩] scope pos) 0 it (.ref D) env).onRaise (λx=>do noteFrame x env;theTreesLotGoes x)) _ _ s
 refine wpAny_noted (wpAny_mono (E:=λ_ _=>False) ?_ (λ_ _ q=>q) λ_ _ z=>z.elim)
 rw [compTurn_dict]
 refine wpAny_bind (wpAny_standAt (wpAny_bind (wpAny_mono (turn n s hI) (λr s₁ h₁=>?_) λ_ _ h'=>h')))
 cases r with
 | none=>exact wpAny_pure h₁
 | some v =>
  refine wpAny_bind (wpAny_mono h₁ (λ_ s₁' h₁'=>?_) λ_ _ h'=>h')
  refine wpAny_bind (wpAny_mono h₁' (λ_ s₂ h₂=>wpAny_bind (wpAny_mono h₂ (λok s₃ h₃=>?_) λ_ _ h'=>h')) λ_ _ h'=>h')
  cases ok with
  | false=>exact wpAny_pure ⟨rfl,h₃⟩
  | true=>exact wpAny_bind (wpAny_bind (wpAny_mono h₃ (λkv s₄ h₄=>wpAny_bind (wpAny_holding (wpAny_mono h₄ (λvv s₅ h₅=>wpAny_bind (wpAny_standAt (wpAny_holding (wpAny_mono h₅ (λ_ s₆ h₆=>wpAny_pure ⟨rfl,h₆⟩) λ_ _ z=>z)))) λ_ _ z=>z))) λ_ _ z=>z))
def tDC(ix:List (Option Nat))(wi:TI)(g:TG)(tt:TT)(tk tv:TE):TE:=λσ H Q=>wi σ H λJ H1=>∃W:Nat->Nat->St->List (Key×V)->Hp->Prop,(∃m,W 0 m (zaG ix σ) [] H1)/\∀i m τ ys H2,W i m τ ys H2->ys.length<sizeLine /\
 ((J.stop i H2 ∧ ∀ D, H2 D = none → D ≠ sysModules → Q (.ref D) (upd H2 D (.dK ys))) ∨
  (J.go i H2 ∧ ∀ x H3, J.yld i H2 x H3 → g x τ H3 fun τ1 H4 => tt τ1 H4 fun ok H5 => if ok = true then tk τ1 H5 fun y H6 => tv τ1 H6 fun z H7 => uK y fun k => ∃ m', m' < m ∧ W (i + 1) m' τ1 (zac ys k z) H7 else ∃ m', m' < m ∧ W (i + 1) m' τ1 ys H5))
theorem zr2{c:Bool}{X:Cx}{kx vx tg iter:Expr}{ifs:List Expr}{sc:Scope}{pos:Pos}{N':List Str}{ix:List (Option Nat)}{wi:TI}{g:TG}{tt:TT}{tk tv:TE}(hc:c=true->X.calm=true)(L:zaj X sc N' ix)(hi:PIc c X tg iter wi)
  (hg:∀Ga C fp s H,PG (zo X sc N' Ga C fp s H) tg g) (ht:∀Ga C fp s H,PTs (zo X sc N' Ga C fp s H) ifs tt) (hk:∀Ga C fp s H,PE (zo X sc N' Ga C fp s H) kx tk) (hv:∀Ga C fp s H,PE (zo X sc N' Ga C fp s H) vx tv)
  (hs:∀x,foldedSetIterable iter X.env x=pure x:=by intro _;rfl):PE X (.DictComp kx vx [⟨tg,iter,ifs,0⟩] sc pos) (tDC ix wi g tt tk tv):=by
 intro Ga s σ H Q I h
 rw [arm_eval_DictComp]
 have hclos:closureFor sc X.env=pure (zaa X.env.cells sc.names []):=zfd λy hy hk=>I.ok.has y.1 (.inl (L.free y hy hk).1)
 refine wpAny_comprehension_free (use:=none) rfl hs hclos L.kind L.names (thn (hi Ga s σ H _ I h) λv s1 h1=>thn h1 λitv s2 h2=>?_)
 obtain ⟨it,fp,tn,J,H2,e,I2,T,st2,f2,W,⟨m0,w0⟩,turn⟩:=h2
 subst e
 refine wpAny_newObj_type (wpAny_newFunctionEnv L.cell (by intro y hy;simp at hy) (λh₁ hns₁ hsb₁=>?_) L.kind)
 dsimp only at hns₁ hsb₁ ⊢
 have hnew:(s2.heap.push { cls:=.type "dict",dict:=none,data:=.dict #[] }).DictOf (zW X.prog X.w) s2.heap.objs.size []:=Heap.DictOf.new s2.heap
 generalize hH2:s2.heap.push { cls:=.type "dict",dict:=none,data:=.dict #[] }=G2 at hns₁ hsb₁ hnew ⊢
 have hC:G2.objs.size=s2.heap.objs.size+1:=by rw [<- hH2,size_push]
 have hDC:s2.heap.objs.size≠G2.objs.size:=by rw [hC];exact ne_of_lt (lt_succ_self _)
 have hCle:s2.heap.objs.size<=G2.objs.size:=by rw [hC];exact le_succ _
 have below:∀b,b<s2.heap.objs.size->b≠G2.objs.size/\b≠s2.heap.objs.size:=λb hb=>⟨by rw [hC];exact ne_of_lt (lt_succ_of_lt hb),ne_of_lt hb⟩
 have old:∀b o,s2.heap.get? b=some o->h₁.get? b=some o:=λb o e=>hsb₁.extBut b o (below b (lt_size e)).1 (get?_push_of_some _ (hH2 ▸ get?_push_of_some _ e))
 have hacc:h₁.DictOf (zW X.prog X.w) s2.heap.objs.size []:=hnew.at λo e=>hsb₁.extBut _ _ hDC (get?_push_of_some _ e)
 have fl:∀b∈fp,b<s2.heap.objs.size:=λb hb=>by
  obtain ⟨o,e,_⟩:=T.obj 0 _ st2 b hb
  exact lt_size e
 have hDfp:s2.heap.objs.size∉fp:=λz=>lt_irrefl _ (fl _ z)
 generalize hD:s2.heap.objs.size=D at *
 generalize hCe:G2.objs.size=C at *
 have cof:∀x c,(zaa X.env.cells sc.names []).lookup x=some c->X.env.cells.lookup x=some c:=λx c h=>by
  rcases zdv h with h|h
  ·cases h
  ·exact h.1
 have st1:tn 0 h₁:=T.keep _ _ _ st2 λb _ o e=>old b o e
 have I3:Inv (zo X sc N' Ga C fp s2 H2) [] (zaG ix σ) H2 { s2 with heap:=h₁,toks:=s2.toks+([]:List (Str×Value)).length }:=zff I2 L f2 (λb hb=>by rw [hD];exact fl b hb) (by rw [hD];exact hCle) hns₁ old
 have D0:H2 D=none:=I2.hok.fresh (le_of_eq hD)
 have fD:∀{H':Hp},H' D=none->zS (zo X sc N' Ga C fp s2 H2) [] H' D:=λ{H'} hn=>by
  refine ⟨hn,hDC,λz=>?_,.inr (le_of_eq hD),λx c hx z=>?_,λp hp z=>?_⟩
  ·obtain ⟨_,o,ho,_⟩:=I2.stack.mem (show D∈frs X.stack from z)
   exact absurd (lt_size ho) (by rw [hD];exact lt_irrefl _)
  ·obtain ⟨v,q⟩:=I2.cell x c (cof x c hx)
   have:=q.lt
   rw [z,hD] at this
   exact lt_irrefl _ this
  ·have hp':p∈X.pn++Ga:=by
    have:p∈(X.pn++Ga)++[]:=hp
    simpa using this
   have:=lt_size (I2.pin p hp').1
   rw [z,hD] at this
   exact lt_irrefl _ this
 have fF:∀{H':Hp},(∀b∈fp,H' b=none)->∀b∈fp,zS (zo X sc N' Ga C fp s2 H2) [] H' b:=λ{H'} hn b hb=>by
  obtain ⟨_,g1,g2,g3,g4,g5⟩:=f2 b hb
  refine ⟨hn b hb,(below b (fl b hb)).1,λz=>?_,.inl hb,λx c hx=>g4 x c (cof x c hx),λp hp=>g5 p ?_⟩
  ·rcases mem_cons.mp (I2.stkSub b z) with e|e
   ·exact g1 e
   ·exact g2 e
  ·have:p∈(X.pn++Ga)++[]:=hp
   simpa using this
 have loop:∀s₃:Shared,s₃={ s2 with heap:=h₁,toks:=s2.toks+([]:List (Str×Value)).length } ->
   codeAny (model X.prog X.w) X.A (.compLoop (.DictComp kx vx [⟨tg,iter,ifs,0⟩] sc pos) 0 (.ref it) (.ref D) (compEnvC sc (zaa X.env.cells sc.names []) C X.env))
    (compPost (model X.prog X.w) X.A X.xe none (EP X Ga σ Q) (.ref D) C) s₃:=by
  rintro s₃ rfl
  refine zqZ (λn s'=>∃i τ ys H',Inv (zo X sc N' Ga C fp s2 H2) [] τ H' s'/\tn i s'.heap/\(∀b∈fp,H' b=none)/\H' D=none/\(∃vs,KV ys vs/\s'.heap.DictOf (zW X.prog X.w) D vs)/\W i n τ ys H')
   ?_ m0 ⟨0,_,[],H2,I3,st1,λb hb=>(f2 b hb).1,D0,⟨[],.nil,hacc⟩,w0⟩
  rintro n s4 ⟨i,τ,ys,H4,I4,st4,fr4,dn4,⟨vs,rv,dd⟩,w4⟩
  obtain ⟨hlen,step⟩:=turn i n τ ys H4 w4
  obtain ⟨ob,es,ep,dg,dx,ddt,dr⟩:=id dd
  have dat:∀{h:Heap},h.get? D=some ob->h.DictOf (zW X.prog X.w) D vs:=λ{h} e=>⟨ob,es,ep,e,dx,ddt,dr⟩
  have noc:∀v,ob.data≠.cell v:=λv z=>by rw [ddt] at z;cases z
  rcases step with ⟨stop,fin⟩|⟨go,step⟩
  ·refine thn (T.done (zo X sc N' Ga C fp s2 H2) rfl rfl rfl hc i [(D,ob)] s4 τ H4 (λ_ _=>False) (I4.pins_of λp hp=>?_) (λb hb=>?_) st4 stop) λr s5 ⟨hr,I5⟩=>?_
   ·have e:p=(D,ob):=by simpa using hp
    subst e
    obtain ⟨g0,g1,g2,_⟩:=fD dn4
    exact ⟨dg,g0,g1,g2,noc⟩
   ·obtain ⟨g0,g1,g2,g3,g4,g5⟩:=fF fr4 b hb
    refine ⟨g0,g1,g2,g3,g4,λp hp=>?_⟩
    rcases mem_append.mp hp with z|z
    ·exact g5 p (mem_append_left _ z)
    ·have e:p=(D,ob):=by simpa using z
     subst e
     exact λq=>hDfp (by have q':D=b:=q;rw [q'];exact hb)
   ·subst hr
    have dg5:=(I5.pin (D,_) (mem_append_right _ (mem_singleton.mpr rfl))).1
    obtain ⟨m5,hn5,_⟩:=id I5.loc
    refine ⟨m5,hn5,λh' hsb=>?_⟩
    have kb:∀b u,b≠C->s5.heap.get? b=some u->h'.get? b=some u:=λb u hb e=>(hsb.2 b hb).trans e
    have hlt:∀b o,s2.heap.get? b=some o->b≠C/\b≠D:=λb o e=>by
     have:=lt_size e
     rw [hD] at this
     exact below b this
    have nsm:D≠sysModules:=by have h:mainGlobals<s2.heap.objs.size:=(I2.mod.glob.keeps I2.bk).lt;rw [hD] at h;exact ne_of_gt (lt_trans (by decide) h)
    have U:=I5.base
    refine ⟨.ref D,upd H4 D (.dK ys),I2.call' (s':={ s5 with heap:=h' }) (ch:=fp) I5.os ⟨λb o e n hb hx=>kb b o (hlt b o e).1 (U.keep b o e n hb hx),λb o e n hb hx=>?_,λb o e n hx=>?_,λb o e hx=>?_,λb xs e=>?_,λb o u e=>?_,λb ps e=>?_⟩ ?_ I5.bare (λb hb=>?_),rfl,fin D dn4 nsm⟩
    ·obtain ⟨sl,q⟩:=U.slot b o e n hb hx
     exact ⟨sl,kb b _ (hlt b o e).1 q⟩
    ·rw [ze (hlt b o e).2]
     exact U.free b o e n hx
    ·obtain ⟨o',q⟩:=U.there b o e hx
     exact ⟨o',kb b _ (hlt b o e).1 q⟩
    ·have q:=U.tups b xs e
     rw [ze (zD q dn4)]
     exact q
    ·have q:=U.frzs b o u e
     rw [ze (zD q dn4)]
     exact q
    ·obtain ⟨more,q⟩:=U.tbls b ps e
     exact ⟨more,by rw [ze (zD q dn4)];exact q⟩
    ·refine (I5.hok.but I5.free kb).add dn4 ?_
     exact ⟨le_of_lt hlen,by simpa using nsm,vs,rv,dat (kb _ _ hDC dg5)⟩
    ·obtain ⟨_,g1,g2,g3,g4,g5⟩:=f2 b hb
     exact ⟨g3,g1,g4,g5⟩
  ·refine thn (T.item (zo X sc N' Ga C fp s2 H2) rfl rfl rfl hc i [(D,ob)] s4 τ H4 (λ_ _=>False) (I4.pins_of λp hp=>?_) (λb hb=>?_) st4 go) λr s5 ⟨u,hr,h5⟩=>?_
   ·have e:p=(D,ob):=by simpa using hp
    subst e
    obtain ⟨g0,g1,g2,_⟩:=fD dn4
    exact ⟨dg,g0,g1,g2,noc⟩
   ·obtain ⟨g0,g1,g2,g3,g4,g5⟩:=fF fr4 b hb
    refine ⟨g0,g1,g2,g3,g4,λp hp=>?_⟩
    rcases mem_append.mp hp with z|z
    ·exact g5 p (mem_append_left _ z)
    ·have e:p=(D,ob):=by simpa using z
     subst e
     exact λq=>hDfp (by have q':D=b:=q;rw [q'];exact hb)
   ·subst hr
    refine thn h5 λ_ s6 ⟨x,H6,I6,r6,y6,st6,fr6⟩=>?_
    obtain ⟨dg6,dn6,_⟩:=I6.pin (D,_) (mem_append_right _ (mem_singleton.mpr rfl))
    have dn6':H6 D=none:=dn6
    have all6:∀b∈D::fp,zS (zo X sc N' Ga C fp s2 H2) [] H6 b:=λb hb=>by
     rcases mem_cons.mp hb with z|z
     ·subst z;exact fD dn6'
     ·exact fF fr6 b z
    have obj6:∀b∈D::fp,∃o,s6.heap.get? b=some o/\∀v,o.data≠.cell v:=λb hb=>by
     rcases mem_cons.mp hb with z|z
     ·subst z;exact ⟨_,dg6,noc⟩
     ·exact T.obj _ _ st6 b z
    have I6':=(I6.unpinned (Ga:=[])).pinned all6 obj6
    refine thn (hg Ga C fp s2 H2 _ s6 τ H6 x u _ I6' r6 (step x H6 y6)) λ_ s7 ⟨τ7,H7,I7,q7⟩=>?_
    refine thn (ht Ga C fp s2 H2 _ s7 τ7 H7 _ I7 q7) λok s8 ⟨H8,I8,q8⟩=>?_
    have back:∀{s9:Shared}{H9:Hp},Inv (zo X sc N' Ga C fp s2 H2) ([]++zby (D::fp) s6.heap) τ7 H9 s9->s9.heap.get? D=some ob/\H9 D=none/\tn (i+1) s9.heap/\∀b∈fp,H9 b=none:=λ{s9 H9} I9=>by
     have pin:∀b o,b∈D::fp->s6.heap.get? b=some o->s9.heap.get? b=some o/\H9 b=none:=λb o hb e=>by
      have q:=I9.pin (b,o) (mem_append_right _ (mem_append_right _ (zbG hb e)))
      exact ⟨q.1,q.2.1⟩
     refine ⟨(pin D _ mem_cons_self dg6).1,(pin D _ mem_cons_self dg6).2,T.keep _ _ _ st6 λb hb o e=>(pin b o (mem_cons_of_mem _ hb) e).1,λb hb=>?_⟩
     obtain ⟨o,e,_⟩:=T.obj _ _ st6 b hb
     exact (pin b o (mem_cons_of_mem _ hb) e).2
    cases ok with
    | false =>
     obtain ⟨b1,b2,b3,b4⟩:=back I8
     simp only [false_eq_true,if_false] at q8 ⊢
     obtain ⟨m',hm,w'⟩:=q8
     exact ⟨m',hm,i+1,τ7,ys,H8,I8.unpinned,b3,b4,b2,⟨vs,rv,dat b1⟩,w'⟩
    | true =>
     simp only [if_true] at q8 ⊢
     refine thn (hk Ga C fp s2 H2 _ s8 τ7 H8 _ I8 q8) λy s9 ⟨yv,H9,I9,r9,q9⟩=>?_
     refine thn (hv Ga C fp s2 H2 _ s9 τ7 H9 _ I9 q9) λz s10 ⟨zv,H10,I10,r10,kk,ek,m',hm,w'⟩=>?_
     subst ek
     obtain ⟨b1,b2,b3,b4⟩:=back I10
     have lv:vs.length<sizeLine:=by rw [<- rv.length];exact hlen
     refine wpAny_dictSet_pairs (hsz:=le_of_lt lv) (zbl r9) (dat b1) λh11 dd11 sb=>?_
     obtain ⟨_,g1,_,g3,g4,g5⟩:=fD b2
     exact ⟨m',hm,i+1,τ7,zac ys kk zv,H10,(I10.unpinned (Ga:=[])).turned (t':=s10.toks+1) (λb o hb e=>(sb.2 b hb).trans e) b2 g1 g3 g4 g5,T.keep _ _ _ b3 λb hb o e=>(sb.2 b λq=>hDfp (by rw [<- q];exact hb)).trans e,b4,b2,⟨_,rv.put kk r10,dd11⟩,w'⟩
 exact codeAny_compStart_dict (loop _ rfl) (T.self _ 0 _ _ _ st1 (loop _ rfl))
end L2
namespace L2
open PySem PySem.Spec PyProof.Rows PySem.W PySem.Calls
section
variable {prog:Program}{w:World}{A:Around}{E:Value->Shared->Prop}{s:Shared}
end
def ltP(p q:Int×Int):Bool:=decide (p.1<q.1)||(decide (p.1=q.1)&&decide (p.2<q.2))
def ze5(H:Hp)(a:Addr)(p:Int×Int):Prop:=H a=some (.tup [.int p.1,.int p.2])
def zkD:List V->Hp->VK->Prop:=λxs H Q=>uR1 xs λl=>∃(as:List Addr)(ps:List (Int×Int)),H l=some (.lst (as.map V.ref))/\Paired (ze5 H) as ps/\as.length<64 /\
 ∀D as' ps' H2,New H D (.lst (as'.map V.ref)) H2->D≠sysModules->Paired (ze5 H) as' ps'->ps'.Perm ps->ps'.Pairwise (λa b=>ltP b a=false)->Q (.ref D) H2
theorem ztD{l:Addr}{H:Hp}{Q:VK}:zkD [.ref l] H Q = ∃(as:List Addr)(ps:List (Int×Int)),H l=some (.lst (as.map V.ref))/\Paired (ze5 H) as ps/\as.length<64 /\
 ∀D as' ps' H2,New H D (.lst (as'.map V.ref)) H2->D≠sysModules->Paired (ze5 H) as' ps'->ps'.Perm ps->ps'.Pairwise (λa b=>ltP b a=false)->Q (.ref D) H2:=za8
section
variable {X:Cx}
def ik(kvs:List (Int×V)):List (Key×V):=kvs.map λp=>(.inl p.1,p.2)
def zjj:List V->Hp->VK->Prop:=λxs H Q=>uR1 xs λa=>∃kvs:List (Int×V),Rd H a (.dK (ik kvs))/\kvs.length<64/\∀p (ns:List Int) H2,New H p (.lst (ns.map V.int)) H2->ns.Perm (kvs.map (·.1))->ns.Pairwise (·<=·)->Q (.ref p) H2
theorem zqD{a:Addr}{H:Hp}{Q:VK}:zjj [.ref a] H Q = ∃kvs:List (Int×V),Rd H a (.dK (ik kvs))/\kvs.length<64/\∀p (ns:List Int) H2,New H p (.lst (ns.map V.int)) H2->ns.Perm (kvs.map (·.1))->ns.Pairwise (·<=·)->Q (.ref p) H2:=za8
theorem zjB:∀{vs:List Value}{ns:List Int},vs.length=ns.length->(∀(j:Nat)(v:Value),vs[j]?=some v->∃t,v=Value.int (ns.getD j 0) t)->IntsAre vs ns
 | [],[],_,_=>.nil
 | [],_::_,h,_=>absurd h (by simp)
 | _::_,[],h,_=>absurd h (by simp)
 | v::vs,x::ns,h,f=>by
  obtain ⟨t,e⟩:=f 0 v rfl
  have e':v=Value.int x t:=e
  rw [e']
  exact .cons x t (zjB (by simpa using h) λj u hu=>f (j+1) u hu)
theorem zjY(hc:X.calm=true):zL X (.builtin "sorted") zjj:=by
 intro Ga s σ H xs us Q I r h
 obtain ⟨a,rfl,kvs,hq,h64,q⟩:=h
 obtain ⟨u,rfl,ru⟩:=zaR r
 cases ru
 obtain ⟨z,hd,vs,rel,dd⟩:=zaE I.hok hq
 obtain ⟨ep,hat⟩:=dd.dictAt
 have hlen:vs.length=kvs.length:=by rw [<- rel.length];simp [ik]
 refine call_function_entry kind_sorted plain_sorted entry_sorted (args_sorted1 _) ?_
 unfold Builtin.«sorted»
 refine wpAny_bind (m:=checkCount "sorted" 1 1 _) (wpAny_pure (wpAny_bind (kdu_collect (A:=X.A.in1) (kdl_dict (knd:=zW X.prog X.w) (kvs:=vs) (ep:=ep) hd) (I.ok.hd hc) hat (by rw [hlen,sizeLine_eq];omega) λh' tk acc hk hacc=>?_)))
 have hl:acc.toList.length=kvs.length:=by rw [length_toList,<- hlen];exact hacc.1
 have hS:IntsAre acc.toList (kvs.map (·.1)):=zjB (by rw [hl,length_map]) λj v hv=>by
  obtain ⟨k,x,hx,hk⟩:=hacc.2 j v (by rw [<- getElem?_toList];exact hv)
  have hj:j<vs.length:=(List.getElem?_eq_some_iff.mp hx).1
  have hj':j<kvs.length:=by omega
  have e2:(ik kvs)[j]?=some (.inl kvs[j].1,kvs[j].2):=by simp [ik,hj']
  obtain ⟨u',hu',_⟩:=rel.at e2
  rw [hx] at hu'
  cases hu'
  rcases zbb (show zbu (Sum.inl kvs[j].1) v=true from hk) with ⟨i,t,e1,e2⟩|⟨y,t,e1,e2⟩
  ·cases e1
   exact ⟨t,by rw [e2,getD_eq_getElem?_getD,getElem?_map,List.getElem?_eq_getElem hj'];rfl⟩
  ·cases e1
 have I1:Inv X Ga σ H { s with heap:=h',toks:=tk }:=I.kept hk
 refine wpAny_bind (wpAny_newList ?_ (by rw [hl,sizeLine_eq];omega))
 have hoL:(h'.push (seqObj "list" acc.toList.toArray 0)).get? h'.objs.size=some (seqObj "list" acc.toList.toArray 0):=get?_push_size _ rfl
 refine wpAny_bind (wpAny_holding (wpAny_call_entry slot_list_sort ⟨_,hoL,rfl⟩ entry_list_sort (list_sort_tree hoL hS (by rw [hl];exact h64) λout ns' b1 b2 b3=>⟨_,rfl,?_⟩) (args_list_sort _)))
 obtain ⟨c,hcz⟩:=sortedHeap_at (vs:=acc.toList) (out:=out) hoL
 refine wpAny_pure ⟨_,rfl,.ref h'.objs.size,upd H h'.objs.size (.lst (ns'.map V.int)),I1.laid (a:=h'.objs.size) (t':=tk) (λb o e=>?_) (le_refl _) ⟨?_,out.toList,c,ze9 b1,by rw [toArray_toList];exact hcz⟩,rfl,q _ ns' _ (.mk' (I1.hok.fresh (le_refl _))) b2 b3⟩
 ·have hb:b<h'.objs.size:=lt_size e
  rw [sortedHeap_old (ne_of_lt hb) (by rw [size_push'];exact lt_succ_of_lt hb)]
  exact get?_push_of_some _ e
 ·have:=b2.length_eq
  rw [length_map,this,length_map,sizeLine_eq]
  omega
end
theorem znQ{c:Bool}{X:Cx}{kx vx tg iter:Expr}{ifs:List Expr}{sc:Scope}{pos:Pos}{N':List Str}{ix:List (Option Nat)}{wi:TI}{g:TG}{tt:TT}{tk tv:TE}(hc:c=true->X.calm=true)(L:zaj X sc N' ix)(hi:W (PIc c X tg iter wi))(hg:∀Ga C fp s H,W (PG (zo X sc N' Ga C fp s H) tg g))(ht:∀Ga C fp s H,W (PTs (zo X sc N' Ga C fp s H) ifs tt))(hk:∀Ga C fp s H,W (PE (zo X sc N' Ga C fp s H) kx tk))(hv:∀Ga C fp s H,W (PE (zo X sc N' Ga C fp s H) vx tv))(hs:∀x,foldedSetIterable iter X.env x=pure x:=by intro _;rfl):W (PE X (.DictComp kx vx [⟨tg,iter,ifs,0⟩] sc pos) (tDC ix wi g tt tk tv)):=⟨zr2 hc L hi.h (λa b c d e=>(hg a b c d e).h) (λa b c d e=>(ht a b c d e).h) (λa b c d e=>(hk a b c d e).h) (λa b c d e=>(hv a b c d e).h) hs⟩
theorem zok{a:Addr}{i:Int}{H:Hp}{Q:VK}:zeC (.ref a) (.int i) H Q = ∃kvs,Rd H a (.dK kvs)/\∃v,zH kvs (.inl i)=some v/\Q v H:=by
 apply propext;constructor
 ·rintro ⟨a',k,kvs,v,e1,e2,h1,h2,q⟩
  cases e1
  cases k with
  | inl j=>cases e2;exact ⟨kvs,h1,v,h2,q⟩
  | inr x=>cases e2
 ·rintro ⟨kvs,h1,v,h2,q⟩
  exact ⟨a,.inl i,kvs,v,rfl,rfl,h1,h2,q⟩
section
variable {K:PySem.W.Frag}{g:TG}{tt:TT}{te tk tv:TE}{σ:St}{H:Hp}{wi:TI}{ix:List (Option Nat)}{Q:VK}
def zci(J:It)(g:TG)(tt:TT)(tk tv:TE)(τ:St)(H:Hp)(Q:VK):Prop:=∃W:Nat->Nat->St->List (Key×V)->Hp->Prop,(∃m,W 0 m τ [] H)/\∀i m τ ys H2,W i m τ ys H2->ys.length<sizeLine /\
 ((J.stop i H2 ∧ ∀ D, H2 D = none → D ≠ sysModules → Q (.ref D) (upd H2 D (.dK ys))) ∨
  (J.go i H2 ∧ ∀ x H3, J.yld i H2 x H3 → g x τ H3 fun τ1 H4 => tt τ1 H4 fun ok H5 => if ok = true then tk τ1 H5 fun y H6 => tv τ1 H6 fun z H7 => uK y fun k => ∃ m', m' < m ∧ W (i + 1) m' τ1 (zac ys k z) H7 else ∃ m', m' < m ∧ W (i + 1) m' τ1 ys H5))
theorem zlE:tDC ix wi g tt tk tv σ H Q=wi σ H λJ H1=>zci J g tt tk tv (zaG ix σ) H1 Q:=rfl
def zd7(N:St->List (Key×V)->Hp->Prop)(ys:List (Key×V))(τ1:St)(tk tv:TE)(ok:Bool)(H5:Hp):Prop:=if ok=true then tk τ1 H5 λy H6=>tv τ1 H6 λz H7=>uK y λk=>N τ1 (zac ys k z) H7 else N τ1 ys H5
theorem zsc{N:St->List (Key×V)->Hp->Prop}{ys:List (Key×V)}{τ:St}:zd7 N ys τ tk tv true H=tk τ H λy H6=>tv τ H6 λz H7=>uK y λk=>N τ (zac ys k z) H7:=rfl
theorem zqb{N:St->List (Key×V)->Hp->Prop}{ys:List (Key×V)}{τ:St}:zd7 N ys τ tk tv false H=N τ ys H:=rfl
theorem zci.lst{a:Addr}{xs:List V}{τ:St}(Pv:Nat->St->List (Key×V)->Hp->Prop)(hz:∀i τ ys H,Pv i τ ys H->ys.length<sizeLine)(ha:∀i τ ys H,Pv i τ ys H->SqL K H a xs)(h0:Pv 0 τ [] H)
  (hs:∀(N:St->List (Key×V)->Hp->Prop) i x τ ys H,xs[i]?=some x->Pv i τ ys H->(∀τ ys H,Pv (i+1) τ ys H->N τ ys H)->g x τ H λτ1 H4=>tt τ1 H4 λok H5=>zd7 N ys τ1 tk tv ok H5) (hd:∀τ ys H,Pv xs.length τ ys H->∀D H',New H D (.dK ys) H'->Q (.ref D) H'):zci (Itl K a) g tt tk tv τ H Q:=by
 refine ⟨λi m τ ys H=>m=xs.length-i/\i<=xs.length/\Pv i τ ys H,⟨xs.length,by simp,zero_le _,h0⟩,?_⟩
 rintro i m τ ys H2 ⟨rfl,hi,p⟩
 refine ⟨hz i τ ys H2 p,?_⟩
 have q:=ha i τ ys H2 p
 by_cases hlt:i<xs.length
 ·refine .inr ⟨⟨xs,xs[i],q,by simp [hlt]⟩,λx H' y=>?_⟩
  obtain ⟨e,y⟩:=y
  subst e
  exact hs (λτ1 ys H=>∃m',m'<xs.length-i/\m'=xs.length-(i+1)/\i+1<=xs.length/\Pv (i+1) τ1 ys H) i x τ ys _ (y xs q) p λτ1 zs H q=>⟨xs.length-(i+1),by omega,rfl,hlt,q⟩
 ·have e:i=xs.length:=by omega
  subst e
  exact .inl ⟨⟨xs,q,le_refl _⟩,λD hD _=>hd τ ys H2 p D _ (.mk' hD)⟩
end
end L2
namespace L2
open PySem PySem.Spec PyProof.Rows
def Ris(xs:Array Nat):Prop:=∀i j,i<j->j<xs.size->xs.getD i 0<xs.getD j 0
theorem zn0{xs:Array Nat}{i a b:Nat}(h:i<xs.size):xs.getD i a=xs.getD i b:=by simp [getD,h]
structure ziQ(xs:Array Nat)(j b:Nat):Prop where
 le:b<=xs.size
 lo:∀i,i<b->xs.getD i 0<j
 hi:∀i,b<=i->i<xs.size->j<=xs.getD i 0
theorem zhf{xs:Array Nat}{j:Nat}(r:Ris xs):∀(f lo hi:Nat),lo<=hi->hi<=xs.size->hi<=lo+f->(∀i,i<lo->xs.getD i 0<j)->(∀i,hi<=i->i<xs.size->j<=xs.getD i 0)->ziQ xs j (SetTable.below.go xs j f lo hi)
 | 0,lo,hi,h1,h2,h3,a,b=>by
  have e:lo=hi:=by omega
  subst e
  exact ⟨h2,a,b⟩
 | f+1,lo,hi,h1,h2,h3,a,b=>by
  unfold SetTable.below.go
  split
  ·rename_i h
   have hm:(lo+hi) / 2<xs.size:=by omega
   dsimp only
   rw [zn0 (a:=j) (b:=0) hm]
   by_cases c:xs.getD ((lo+hi) / 2) 0<j
   ·rw [if_pos c]
    refine zhf r f ((lo+hi) / 2+1) hi (by omega) h2 (by omega) (λi hi'=>?_) b
    by_cases e:i=(lo+hi) / 2
    ·subst e;exact c
    ·have hlt:i<(lo+hi) / 2:=by omega
     exact lt_trans (r i ((lo+hi) / 2) hlt hm) c
   ·rw [if_neg c]
    refine zhf r f lo ((lo+hi) / 2) (by omega) (by omega) (by omega) a λi hi' hs=>?_
    by_cases e:i=(lo+hi) / 2
    ·subst e;omega
    ·have hlt:(lo+hi) / 2<i:=by omega
     have:=r ((lo+hi) / 2) i hlt hs
     omega
  ·have e:lo=hi:=by omega
   subst e
   exact ⟨h2,a,b⟩
theorem zf8{xs:Array Nat}(r:Ris xs)(j:Nat):ziQ xs j (SetTable.below xs j):=zhf r _ _ _ (zero_le _) (le_refl _) (by omega) (λi h=>by omega) λi h1 h2=>by omega
theorem zjn{xs:Array Nat}{p x i:Nat}(hp:p<=xs.size):(SetTable.insertAt xs p x).getD i 0=if i<p then xs.getD i 0 else if i=p then x else xs.getD (i-1) 0:=by
 have hl:(xs.toList.take p).length=p:=by rw [length_take,length_toList];omega
 rw [getD_eq_getD_getElem?,<- getElem?_toList,SetTable.toList_insertAt]
 by_cases h:i<p
 ·rw [if_pos h,List.getElem?_append_left (by omega),List.getElem?_take_of_lt h,getElem?_toList,getD_eq_getD_getElem?]
 ·rw [if_neg h,List.getElem?_append_right (by omega),hl]
  by_cases e:i=p
  ·rw [if_pos e,e,Nat.sub_self];rfl
  ·rw [if_neg e,show i-p=(i-1-p)+1 by omega,List.getElem?_cons_succ,List.getElem?_drop,getElem?_toList,getD_eq_getD_getElem?]
   congr 2;omega
theorem zs7{xs:Array Nat}{p x:Nat}:(SetTable.insertAt xs p x).size=xs.size+1:=by
 have:=(SetTable.insertAt_perm xs p x).length_eq
 simpa using this
theorem zr3{xs:Array Nat}{j:Nat}(r:Ris xs)(hn : ¬ xs[SetTable.below xs j]?=some j):Ris (SetTable.insertAt xs (SetTable.below xs j) j):=by
 have B:=zf8 r j
 generalize SetTable.below xs j=p at B hn
 have hle:=B.le
 intro a b hab hb
 rw [zs7] at hb
 rw [zjn hle,zjn hle]
 have hi':∀i,p<=i->i<xs.size->j<xs.getD i 0:=λi h1 h2=>by
  have h3:=B.hi i h1 h2
  by_cases e:i=p
  ·subst e
   rcases Nat.lt_or_eq_of_le h3 with z|z
   ·exact z
   ·exact absurd (by rw [Array.getElem?_eq_getElem h2]; have : xs.getD i 0 = xs[i] := by simp [getD, h2]
                     rw [z, this]) hn
  ·have:=r p i (by omega) h2
   have:=B.hi p (le_refl _) (by omega)
   omega
 by_cases h1:b<p
 ·rw [if_pos h1,if_pos (by omega)]
  exact r a b hab (by omega)
 ·rw [if_neg h1]
  by_cases h2:b=p
  ·rw [if_pos h2,if_pos (by omega)]
   exact B.lo a (by omega)
  ·rw [if_neg h2]
   by_cases h3:a<p
   ·rw [if_pos h3]
    exact lt_trans (B.lo a h3) (hi' (b-1) (by omega) (by omega))
   ·rw [if_neg h3]
    by_cases h4:a=p
    ·rw [if_pos h4];exact hi' (b-1) (by omega) (by omega)
    ·rw [if_neg h4];exact r (a-1) (b-1) (by omega) (by omega)
structure zaZ(bt:Bool)(t:SetTable):Prop where
 led:t.led = !bt
 dum:t.dummies = #[]
 ris:Ris t.place
theorem zjl{j:Nat}:SetTable.has #[] j=false:=by simp [SetTable.has]
theorem zpX(n:Nat):Ris (Array.range n):=λi j h hj=>by
 have hj':j<n:=by simpa using hj
 have hi':i<n:=by omega
 simp [getD,hi',hj',h]
theorem zeH{bt:Bool}{t:SetTable}(h:zaZ bt t)(n:Nat):zaZ bt (t.standIn n):=⟨h.led,rfl,zpX n⟩
theorem zuo{bt:Bool}{t:SetTable}(h:zaZ bt t)(n:Nat):zaZ bt (t.orStandIn n):=by
 unfold SetTable.orStandIn
 split
 ·exact h
 ·exact zeH h n
theorem znM{t:SetTable}(h:t.dummies = #[])(j:Nat):(t.slot j = .empty/\¬ t.place[SetTable.below t.place j]?=some j)\/∃i,t.slot j = .live i:=by
 unfold SetTable.slot
 dsimp only
 split
 ·exact .inr ⟨_,rfl⟩
 ·rename_i hc
  rw [h,zjl]
  exact .inl ⟨rfl,by simpa using hc⟩
theorem zh0{t:SetTable}{g:Nat->Int}{h:Int}(hd:t.dummies = #[]):∀(f:Nat)(p:SetTable.Probe)(j:Nat)(d:Option Nat),p.dummy=none->SetTable.probe.go t g h f p=some (.empty j d)->d=none/\¬ t.place[SetTable.below t.place j]?=some j
 | 0,p,j,d,_,e=>by cases e
 | f+1,p,j,d,hp,e=>by
  have adv:∀q:SetTable.Probe,(t.advance q).dummy=q.dummy:=λq=>by
   unfold SetTable.advance
   split
   ·rfl
   ·rfl
  unfold SetTable.probe.go at e
  rcases znM hd p.j with ⟨h1,h2⟩|⟨i,h1⟩
  ·rw [h1] at e
   cases e
   exact ⟨hp,h2⟩
  ·rw [h1] at e
   dsimp only at e
   split at e
   ·cases e
   ·exact zh0 hd f _ j d (by rw [adv];exact hp) e
theorem zr7{bt:Bool}{t:SetTable}(h:zaZ bt t)(es:Array (Int×Value))(hh:Int)(x:Value):zaZ bt (layNew t es hh x).2.1:=by
 unfold layNew
 split
 ·rename_i slot wd e
  refine zuo ?_ _
  unfold SetTable.freeSlot at e
  split at e
  ·rename_i j d e2
   obtain ⟨rfl,hn⟩:=zh0 h.dum _ _ _ _ rfl e2
   cases e
   refine ⟨h.led,?_,zr3 h.ris hn⟩
   show (if SetTable.has t.dummies j=true then _ else t.dummies) = #[]
   rw [h.dum,zjl]
   rfl
  ·cases e
 ·exact zeH h _
theorem zq3{bt:Bool}{t:SetTable}(h:zaZ bt t)(es:Array (Int×Value))(n:Nat):zaZ bt (relayAll t es n).2.1:=by
 unfold relayAll
 split
 ·rename_i t' order e
  dsimp only
  split
  ·unfold SetTable.relaid SetTable.laid at e
   obtain ⟨owner,_,e⟩:=Option.bind_eq_some_iff.mp e
   cases e
   refine ⟨h.led,rfl,λi j hij hj=>?_⟩
   have pw:(((List.range (SetTable.sizeAbove n-1+1)).filterMap λj=>(owner.getD j none).map (j,·)).map (·.1)).Pairwise (· < ·):=by
    rw [List.pairwise_map]
    refine List.Pairwise.filterMap _ (λa a' haa b hb b' hb'=>?_) List.pairwise_lt_range
    obtain ⟨_,_,rfl⟩:=map_eq_some_iff.mp hb
    obtain ⟨_,_,rfl⟩:=map_eq_some_iff.mp hb'
    exact haa
   rw [size_toArray] at hj
   have:=List.pairwise_iff_getElem.mp pw i j (by omega) hj hij
   rw [getD_eq_getD_getElem?,getD_eq_getD_getElem?,List.getElem?_toArray,List.getElem?_toArray,List.getElem?_eq_getElem hj,List.getElem?_eq_getElem (lt_trans hij hj)]
   exact this
  ·exact zeH h _
 ·exact zeH h _
def btW(w:World):Bool:=w.params.followText "set-order"
def zbo(e:Int×Value):Int:=numOf e.2
structure zO(prog:Program)(w:World)(h:Heap)(a:Addr)(ns:List Int):Prop where
 ex:∃o es ep t,h.get? a=some o/\o.ExactSet/\o.data = .set es ep t/\ElemsOf (PySem.intKind prog w) es.toList/\t.fits es.size=true/\zaZ (btW w) t/\(es.toList.map zbo).Perm ns
 few:ns.length<4000
section
variable {prog:Program}{w:World}{A:Around}{E:Value->Shared->Prop}{s:Shared}
theorem zO.size{h:Heap}{a:Addr}{ns:List Int}{es:Array (Int×Value)}(p:(es.toList.map zbo).Perm ns):es.size=ns.length:=by
 have:=p.length_eq
 rw [length_map,length_toList] at this
 exact this
theorem zO.at{h h':Heap}{a:Addr}{ns:List Int}(x:zO prog w h a ns)(k:∀o,h.get? a=some o->h'.get? a=some o):zO prog w h' a ns :=
 let ⟨o,es,ep,t,ho,r⟩:=x.ex;⟨⟨o,es,ep,t,k o ho,r⟩,x.few⟩
theorem zf7{n:Int}{v:Value}(h:(PySem.intKind prog w).is n v=true):∃t,v = .int n t:=by
 cases v with
 | int m t =>
  have e:(m==n)=true:=by simpa [PySem.intKind,Value.isInt] using h
  have e:m=n:=by simpa using e
  exact ⟨t,by rw [e]⟩
 | _=>exact absurd h (by simp [PySem.intKind,Value.isInt])
theorem zlz(n:Int)(t:Tok):(PySem.intKind prog w).is n (.int n t)=true:=by simp [PySem.intKind,Value.isInt]
theorem zlj{Q:Value->Shared->Prop}(h:∀o,zO prog w (s.heap.push o) s.heap.objs.size []->(∀v,o.data≠.cell v)->Q (.ref s.heap.objs.size) { s with heap:=s.heap.push o }) :
  wpAny (model prog w) A (newSet (.type "set")) Q E s:=by
 unfold newSet setsByText
 refine wpAny_bind (wpAny_bind (wpAny_askSetting (wpAny_pure ?_)))
 dsimp only
 simp only [newObj]
 refine wpAny_bind (wpAny_alloc (wpAny_pure (h _ ⟨⟨_,#[],0,_,get?_push_size _ rfl,⟨rfl,rfl,rfl⟩,rfl,λe he=>by simp at he,by rfl,⟨rfl,rfl,λi j _ hj=>by simp [SetTable.fresh] at hj⟩,Perm.refl _⟩,by decide⟩ λv z=>by cases z)))
theorem zh5{h:Heap}{a:Addr}{o:Obj}{es:Array (Int×Value)}{ep:Nat}{t:SetTable}(ho:h.get? a=some o)(hd:o.data = .set es ep t)(es':Array (Int×Value))(t':SetTable) :
  (h.update a (Obj.putSet es' t')).get? a=some { o with data:=.set es' (ep+1) t' }:=by
 have:=get?_update_self (Obj.putSet es' t') ho (by rw [putSet_of es' t' hd];rfl)
 rw [putSet_of es' t' hd] at this;exact this
theorem zrB{a:Addr}{ns:List Int}{n:Int}{tk:Tok}{Q:Bool->Shared->Prop}(hS:zO prog w s.heap a ns)(hr:ns.length<3000)
  (h:∀h' b,SameBut a s.heap h'->zO prog w h' a (if n∈ns then ns else ns++[n])->Q b { s with heap:=h',toks:=s.toks+1 }) :
  wpAny (model prog w) A (setAdd a (.int n tk)) Q E s:=by
 obtain ⟨o,es,ep,t,ho,hex,hd,hel,hf,gt,pm⟩:=hS.ex
 have hsz:=zO.size (h:=s.heap) (a:=a) pm
 have hb:es.size<scanBound:=by rw [hsz];exact lt_trans hr (by decide)
 have hkey:=zlz (prog:=prog) (w:=w) n tk
 unfold setAdd
 refine wpAny_holding (wpAny_bind ((PySem.intKind prog w).pyHash hkey ?_))
 have fin:∀h',SameBut a s.heap h'->zO prog w h' a (if n∈ns then ns else ns++[n])->∀b:Bool,Q b { s with heap:=h',toks:=s.toks+1 }:=λh' sb hS' b=>h h' b sb hS'
 unfold setAddHashed setAddHashedIn
 refine wpAny_holding (wpAny_bind (wpAny_setState_of (s:={ s with toks:=s.toks+1 }) ho hd hf ?_))
 dsimp only
 rw [byScan_of (x:=.int n tk) rfl hb hel]
 simp only [↓reduceIte]
 unfold setAddByScan
 refine wpAny_bind (wpAny_bind (wpAny_rule (wpAny_bind (wpAny_setScan_of (s:={ s with toks:=s.toks+1 }) hkey ho hd hf hel ?_))))
 cases hr0:List.findIdx? (λe=>(PySem.intKind prog w).is n e.2) es.toList with
 | some j =>
  dsimp only
  obtain ⟨hj,hpj,_⟩:=List.findIdx?_eq_some_iff_getElem.mp hr0
  have hin:n∈ns:=by
   refine pm.mem_iff.mp (mem_map.mpr ⟨_,getElem_mem hj,?_⟩)
   obtain ⟨t',e⟩:=zf7 hpj
   show numOf (es.toList[j]).2=n
   rw [e];rfl
  refine wpAny_pure (wpAny_pure ?_)
  have:=fin s.heap (SameBut.refl a s.heap) (by rw [if_pos hin];exact hS) false
  exact this
 | none =>
  dsimp only
  have hni:n∉ns:=λhin=>by
   obtain ⟨e,he,ev⟩:=mem_map.mp (pm.mem_iff.mpr hin)
   obtain ⟨⟨k,hk,_⟩,_⟩:=hel e he
   obtain ⟨t',e2⟩:=zf7 hk
   have:k=n:=by rw [<- ev];show k=numOf e.2;rw [e2];rfl
   subst this
   have:=List.findIdx?_eq_none_iff.mp hr0 e he
   rw [hk] at this;cases this
  rw [if_neg hni] at fin
  have hperm:=layNew_perm t es ((PySem.intKind prog w).hash n) (.int n tk)
  have hfits:=layNew_fits t es ((PySem.intKind prog w).hash n) (.int n tk)
  have hgood:=zr7 gt es ((PySem.intKind prog w).hash n) (.int n tk)
  generalize hL:layNew t es ((PySem.intKind prog w).hash n) (.int n tk)=L at hperm hfits hgood ⊢
  obtain ⟨es1,t1,wasDummy,gave⟩:=L
  dsimp only at hperm hfits hgood ⊢
  rw [Array.toList_push] at hperm
  have hel1:ElemsOf (PySem.intKind prog w) es1.toList:=(hel.push hkey rfl).perm hperm
  have pm1:(es1.toList.map zbo).Perm (ns++[n]):=by
   have:=hperm.map zbo
   rw [map_append] at this
   exact this.trans (pm.append (Perm.refl _))
  have hsz1:es1.size=ns.length+1:=by have:=zO.size (h:=s.heap) (a:=a) pm1;simpa using this
  have mk:∀{h':Heap}{es2:Array (Int×Value)}{t2:SetTable}{e:Nat},h'.get? a=some { o with data:=.set es2 e t2 }->es2.toList.Perm es1.toList->t2.fits es2.size=true->zaZ (btW w) t2->zO prog w h' a (ns++[n]):=λ{h' es2 t2 e} ho' p f g=>⟨⟨_,es2,e,t2,ho',hex,rfl,hel1.perm p,f,g,(p.map zbo).trans pm1⟩,by rw [length_append,length_singleton];omega⟩
  have big:es1.size<=sizeLine:=fits_of_scanBound (by rw [hsz1];exact Nat.lt_of_le_of_lt (Nat.succ_le_of_lt hr) (by decide))
  have hgw:∀(b:Bool){s₁:Shared}{Q':Unit->Shared->Prop},Q' () s₁->wpAny (model prog w) A (match b with|true=>rule "set.scan.the-table-gave-way" | false=>pure ()) Q' E s₁:=λb s₁ Q' hq=>by cases b<;>first|exact wpAny_pure hq|exact wpAny_rule hq
  refine wpAny_bind (hgw _ ?_)
  have tail:∀(t2:SetTable),t2.fits es1.size=true->zaZ (btW w) t2->wpAny (model prog w) A (do
    storeSet a es1 t2
    if (!wasDummy&&t2.tooFull)=true then do
      (match (relayAll t2 es1 (SetTable.grown es1.size)).2.2 with|true=>rule "set.scan.the-table-gave-way" | false=>pure ())
      storeSet a (relayAll t2 es1 (SetTable.grown es1.size)).1 (relayAll t2 es1 (SetTable.grown es1.size)).2.1
      pure (some true)
     else pure (some true)) (λr s'=>r=some true/\∃h',SameBut a s.heap h'/\zO prog w h' a (ns++[n])/\s'={ s with heap:=h',toks:=s.toks+1 }) E { s with toks:=s.toks+1 }:=λt2 f2 g2=>by
   refine wpAny_bind (wpAny_storeSet_of (s:={ s with toks:=s.toks+1 }) ho hd ?_ big)
   have ho1:=zh5 ho hd es1 t2
   have hsb1:=SameBut.update s.heap a (Obj.putSet es1 t2)
   split
   ·have hp:=relayAll_perm t2 es1 (SetTable.grown es1.size)
    have hfr:=relayAll_fits t2 es1 (SetTable.grown es1.size)
    have hgr:=zq3 g2 es1 (SetTable.grown es1.size)
    generalize hRl:relayAll t2 es1 (SetTable.grown es1.size)=Rl at hp hfr hgr ⊢
    obtain ⟨es2,t3,gave2⟩:=Rl
    dsimp only at hp hfr hgr ⊢
    have hsz:es2.size=es1.size:=by rw [<- length_toList,hp.length_eq,length_toList]
    refine wpAny_bind (hgw _ ?_)
    refine wpAny_bind (wpAny_storeSet_of ho1 rfl ?_ (by rw [hsz];exact big))
    exact wpAny_pure ⟨rfl,_,hsb1.trans (SameBut.update _ a _),mk (zh5 ho1 rfl es2 t3) hp hfr hgr,rfl⟩
   ·exact wpAny_pure ⟨rfl,_,hsb1,mk ho1 (Perm.refl _) f2 g2,rfl⟩
  split
  ·refine wpAny_bind ?_
   rw [hashByValue_scannable 8 rfl]
   refine wpAny_pure ?_
   try simp only [↓reduceIte]
   refine wpAny_mono (tail t1 hfits hgood) ?_ (λ_ _ q=>q)
   rintro r s' ⟨rfl,h',sb,hS',rfl⟩
   dsimp only
   exact wpAny_pure (fin h' sb hS' true)
  ·refine wpAny_bind (wpAny_pure ?_)
   try simp only [↓reduceIte]
   refine wpAny_mono (tail t1 hfits hgood) ?_ (λ_ _ q=>q)
   rintro r s' ⟨rfl,h',sb,hS',rfl⟩
   dsimp only
   exact wpAny_pure (fin h' sb hS' true)
theorem add_int{a:Addr}{ns:List Int}{n:Int}{tk:Tok}{Q:Value->Shared->Prop}(hS:zO prog w s.heap a ns)(hr:ns.length<3000)
  (h:∀h',SameBut a s.heap h'->zO prog w h' a (if n∈ns then ns else ns++[n])->Q .none { s with heap:=h',toks:=s.toks+1 }) :
  wpAny (model prog w) A (call (.builtin "set.add") [.ref a,.int n tk]) Q E s:=by
 obtain ⟨o,es,ep,t,ho,hex,hd,_⟩:=hS.ex
 have typ:s.TypeIs (.ref a) "set":=⟨o,ho,hex.1⟩
 refine wpAny_call_entry F.slot_set_add typ F.entry_set_add ?_ (F.args_set_add_2 _ _)
 unfold Builtin.«set.add» Builtin.Frozenset.oneOther
 simp only [List.isEmpty_nil,bind_assoc]
 unfold Builtin.Frozenset.addrOf
 refine wpAny_bind (wpAny_pure (wpAny_bind (wpAny_pure (wpAny_bind (zrB hS hr λh' b sb hS'=>wpAny_pure ⟨_,rfl,h h' sb hS'⟩)))))
end
def inB(e:Expr)(d:Nat)(iter:Expr)(acc:Value)(env:Env):Sem Unit:=do
 let x<-eval iter env
 standAt iter.pos
 let x<-foldedSetIterable iter env x
 let _<-runOwn (.compStart e d (<- holding [x] (pyIter x)) acc env) env
def emB(elt:Expr)(acc:Value)(env:Env):Sem Unit:=do
 let v<-eval elt env
 standAt elt.pos
 let _<-call (.builtin "set.add") [acc,v]
def zbn(e:Expr)(d:Nat)(tg iter:Expr)(body:Sem Unit)(it acc:Value)(env:Env):Sem Fin:=do
 standAt iter.pos
 match<-pyNext it with
 | none=>pure (.done .next)
 | some v =>
  letOwnedTupleGo tg it v
  assign tg env v
  body
  again (.compLoop e d it acc env)
section
variable {elt t0 i0 t1 i1 t2 i2:Expr}{sc:Scope}{pos:Pos}{it acc:Value}{env:Env}
theorem zsy{e:Expr}(he:e = .SetComp elt [⟨t0,i0,[],0⟩,⟨t1,i1,[],0⟩,⟨t2,i2,[],0⟩] sc pos):compTurn e 0 it acc env=zbn e 0 t0 i0 (inB e 1 i1 acc env) it acc env:=by
 subst he
 unfold zbn inB
 simp only [bind_assoc]
 rfl
theorem zuQ{e:Expr}(he:e = .SetComp elt [⟨t0,i0,[],0⟩,⟨t1,i1,[],0⟩,⟨t2,i2,[],0⟩] sc pos):compTurn e 1 it acc env=zbn e 1 t1 i1 (inB e 2 i2 acc env) it acc env:=by
 subst he
 unfold zbn inB
 simp only [bind_assoc]
 rfl
theorem znY{e:Expr}(he:e = .SetComp elt [⟨t0,i0,[],0⟩,⟨t1,i1,[],0⟩,⟨t2,i2,[],0⟩] sc pos):compTurn e 2 it acc env=zbn e 2 t2 i2 (emB elt acc env) it acc env:=by
 subst he
 unfold zbn emB
 rfl
theorem ziD{prog:Program}{w:World}{A:Around}{R:Result->Shared->Prop}{s:Shared}{e:Expr}{gs:List Comprehension}(he:e = .SetComp elt gs sc pos){d:Nat}{tg iter:Expr}(hd:(clausesOf e)[d]?=some ⟨tg,iter,[],0⟩)
  (h0:codeAny (model prog w) A (.compLoop e d it acc env) R s)
  (h:wpAny (model prog w) A (pyIter it) (λit' s'=>codeAny (model prog w) A (.compLoop e d it' acc env) R s') (notedBy (model prog w) A env λx s'=>R (.error x) s') s) :
  codeAny (model prog w) A (.compStart e d it acc env) R s:=by
 subst he
 refine codeAny_of_tree ?_
 show wpAny _ A ((compStart _ d it acc env).onRaise (λx=>do noteFrame x env;standAt theWindowsPlace)) _ _ s
 refine wpAny_notedAt ?_
 unfold compStart
 rw [hd]
 show wpAny _ A (ask>>=_) _ _ s
 refine wpAny_bind (wpAny_askSetting (wpAny_ite ?_))
 split
 ·first
   | exact wpAny_bind (wpAny_pure (wpAny_pure (And.intro rfl h0)))
   | exact wpAny_pure (And.intro rfl h0)
 ·first
   | exact wpAny_bind (wpAny_rule (wpAny_bind (wpAny_standAt (wpAny_bind (wpAny_mono h (λit' s' h'=>wpAny_pure (And.intro rfl h')) λ_ _ x=>x)))))
   | (refine wpAny_bind (wpAny_rule ?_);show wpAny _ _ (standAt iter.pos>>=_) _ _ s;exact wpAny_bind (wpAny_standAt (wpAny_bind (wpAny_mono h (λit' s' h'=>wpAny_pure (And.intro rfl h')) λ_ _ x=>x))))
theorem zqJ{prog:Program}{w:World}{A:Around}{R:Result->Shared->Prop}{s:Shared}{e:Expr}{gs:List Comprehension}(he:e = .SetComp elt gs sc pos){d:Nat}{tg iter:Expr}{body:Sem Unit}(ht:compTurn e d it acc env=zbn e d tg iter body it acc env)(I:Nat->Shared->Prop)
  (turn:∀n s,I n s->wpAny (model prog w) A (pyNext it) (λr s₁=>match r with
   | none=>R (.ok .next) s₁
   | some v=>wpAny (model prog w) A (letOwnedTupleGo tg it v) (λ_ s₁'=>wpAny (model prog w) A (assign tg env v) (λ_ s₂ =>
     wpAny (model prog w) A body (λ_ s₃=>∃m,m<n/\I m s₃) (λ_ _=>False) s₂) (λ_ _=>False) s₁') (λ_ _=>False) s₁) (λ_ _=>False) s)
  (n:Nat) (h:I n s):codeAny (model prog w) A (.compLoop e d it acc env) R s:=by
 subst he
 refine codeAny_loop rfl I (λn s hI=>?_) n h
 show wpAny _ A ((compTurn _ d it acc env).onRaise (λx=>do noteFrame x env;theTreesLotGoes x)) _ _ s
 refine wpAny_noted (wpAny_mono (E:=λ_ _=>False) ?_ (λ_ _ q=>q) λ_ _ z=>z.elim)
 rw [ht]
 unfold zbn
 refine wpAny_bind (wpAny_standAt (wpAny_bind (wpAny_mono (turn n s hI) (λr s₁ h₁=>?_) λ_ _ h'=>h')))
 cases r with
 | none=>exact wpAny_pure h₁
 | some v =>
  refine wpAny_bind (wpAny_mono h₁ (λ_ s₁' h₁'=>?_) λ_ _ h'=>h')
  exact wpAny_bind (wpAny_mono h₁' (λ_ s₂ h₂=>wpAny_bind (wpAny_mono h₂ (λok s₃ h₃=>wpAny_pure ⟨rfl,h₃⟩) λ_ _ h'=>h')) λ_ _ h'=>h')
end
abbrev TB:=St->List Int->Hp->(St->List Int->Hp->Prop)->Prop
def zx(ns:List Int)(n:Int):List Int:=if n∈ns then ns else ns++[n]
def BP(X:Cx)(D:Addr)(Ga:List (Addr×Obj))(Q:St->List Int->Hp->Prop)(s':Shared):Prop :=
 ∃σ ns H,Inv X Ga σ H s'/\H D=none/\zO X.prog X.w s'.heap D ns/\Q σ ns H
def PB(X:Cx)(D:Addr)(m:Sem Unit)(tb:TB):Prop :=
 ∀(Ga:List (Addr×Obj))(s:Shared)(σ:St)(H:Hp)(ns:List Int)(Q:St->List Int->Hp->Prop),Inv X Ga σ H s->zS X Ga H D->zO X.prog X.w s.heap D ns->tb σ ns H Q ->
  wpAny (model X.prog X.w) X.A m (λ_ s'=>BP X D Ga Q s') (λ_ _=>False) s
theorem zS.to{X:Cx}{Ga:List (Addr×Obj)}{H H':Hp}{b:Addr}(f:zS X Ga H b)(h:H' b=none):zS X Ga H' b:=⟨h,f.2⟩
theorem zS.more{X:Cx}{Ga pl:List (Addr×Obj)}{H:Hp}{b:Addr}(f:zS X Ga H b)(h:∀p∈pl,p.1≠b):zS X (Ga++pl) H b :=
 ⟨f.1,f.2.1,f.2.2.1,f.2.2.2.1,f.2.2.2.2.1,λp hp=>by
  rcases mem_append.mp hp with z|z
  ·exact f.2.2.2.2.2 p (mem_append_left _ z)
  ·rcases mem_append.mp z with z|z
   ·exact f.2.2.2.2.2 p (mem_append_right _ z)
   ·exact h p z⟩
theorem zO.obj{P:Program}{w:World}{h:Heap}{D:Addr}{ns:List Int}(x:zO P w h D ns):∃o,h.get? D=some o/\∀v,o.data≠.cell v:=by
 obtain ⟨o,es,ep,t,ho,_,hd,_⟩:=x.ex
 exact ⟨o,ho,λv z=>by rw [hd] at z;cases z⟩
section
variable {X:Cx}{D:Addr}
theorem Inv.holds{Ga:List (Addr×Obj)}{σ:St}{H:Hp}{s:Shared}{o:Obj}(I:Inv X Ga σ H s)(f:zS X Ga H D)(ho:s.heap.get? D=some o)(hn:∀v,o.data≠.cell v):Inv X (Ga++[(D,o)]) σ H s :=
 I.pins_of λp hp=>(mem_append.mp hp).elim (λz=>I.pin p (mem_append_right _ z)) λz=>by
  have e:p=(D,o):=by simpa using z
  subst e
  exact ⟨ho,f.1,f.2.1,f.2.2.1,hn⟩
theorem Inv.held{Ga:List (Addr×Obj)}{σ:St}{H:Hp}{s:Shared}{o:Obj}(I:Inv X (Ga++[(D,o)]) σ H s):s.heap.get? D=some o/\H D=none :=
 let q:=I.pin (D,o) (mem_append_right _ (mem_append_right _ (mem_singleton.mpr rfl)));⟨q.1,q.2.1⟩
def zcd(te:TE):TB:=λσ ns H Q=>te σ H λv H1=>∃n,v = .int n/\ns.length<3000/\Q σ (zx ns n) H1
theorem zug{elt:Expr}{te:TE}(hx:X.xe=λ_ _=>False)(he:PE X elt te):PB X D (emB elt (.ref D) X.env) (zcd te):=by
 intro Ga s σ H ns Q I f hS h
 obtain ⟨o,ho,hn⟩:=hS.obj
 unfold emB
 have:=he (Ga++[(D,o)]) s σ H _ (I.holds f ho hn) h
 rw [hx] at this
 refine wpAny_bind (thn this λv s1 ⟨x,H1,I1,r1,n,e,hl,q⟩=>?_)
 subst e
 obtain ⟨tk,rfl⟩:=r1
 obtain ⟨ho1,hn1⟩:=I1.held
 have hS1:zO X.prog X.w s1.heap D ns:=hS.at λo' e=>by rw [ho] at e;cases e;exact ho1
 refine wpAny_bind (wpAny_standAt (wpAny_bind (add_int hS1 hl λh' sb hS'=>wpAny_pure ?_)))
 obtain ⟨_,g1,_,g3,g4,g5⟩:=f.to hn1
 exact ⟨σ,_,H1,(I1.unpinned (Ga:=Ga)).turned (t':=s1.toks+1) (λb o hb e=>(sb.2 b hb).trans e) hn1 g1 g3 g4 g5,hn1,hS',q⟩
def zeh(W:Nat->Nat->St->List Int->Hp->Prop)(J:It)(g:TG)(tb:TB)(Fin:St->List Int->Hp->Prop):Prop :=
 ∀i m τ ns H2,W i m τ ns H2->(J.stop i H2/\Fin τ ns H2)\/(J.go i H2/\∀x H3,J.yld i H2 x H3->g x τ H3 λτ1 H4=>tb τ1 ns H4 λτ2 ns2 H5=>∃m',m'<m/\W (i+1) m' τ2 ns2 H5)
def zbX(wi:TI)(g:TG)(tb:TB):TB:=λσ ns H Q=>wi σ H λJ H1=>∃W:Nat->Nat->St->List Int->Hp->Prop,(∃m,W 0 m σ ns H1)/\zeh W J g tb Q
theorem zh9{c:Bool}{elt e tg iter:Expr}{gs:List Comprehension}{sc:Scope}{pos:Pos}{d:Nat}{body:Sem Unit}{g:TG}{tb:TB}{J:It}{fp:List Addr}{it:Addr}{tn:Nat->Heap->Prop}{W:Nat->Nat->St->List Int->Hp->Prop}{Fin:St->List Int->Hp->Prop}
  (he:e = .SetComp elt gs sc pos) (ht:compTurn e d (.ref it) (.ref D) X.env=zbn e d tg iter body (.ref it) (.ref D) X.env) (hx:X.xe=λ_ _=>False) (hc:c=true->X.calm=true) (hg:PG X tg g) (hb:PB X D body tb)
  (T:zbY c X.prog X.w X.K tg J fp it tn) (hDfp:D∉fp) (step:zeh W J g tb Fin) {Ga:List (Addr×Obj)}{s:Shared}{σ:St}{H:Hp}{ns:List Int}{m:Nat} (I:Inv X Ga σ H s) (st:tn 0 s.heap) (ff:∀b∈fp,zS X Ga H b) (fD:zS X Ga H D)
  (hS:zO X.prog X.w s.heap D ns) (w0:W 0 m σ ns H) :
  codeAny (model X.prog X.w) X.A (.compLoop e d (.ref it) (.ref D) X.env) (λr s'=>r = .ok .next/\∃σ' ns' H',Inv X Ga σ' H' s'/\(∀b∈fp,H' b=none)/\H' D=none/\zO X.prog X.w s'.heap D ns'/\Fin σ' ns' H') s:=by
 refine zqJ he ht (λn s'=>∃i τ ys H',Inv X Ga τ H' s'/\tn i s'.heap/\(∀b∈fp,H' b=none)/\H' D=none/\zO X.prog X.w s'.heap D ys/\W i n τ ys H') ?_ m ⟨0,σ,ns,H,I,st,λb hb=>(ff b hb).1,fD.1,hS,w0⟩
 rintro n s4 ⟨i,τ,ys,H4,I4,st4,fr4,dn4,hS4,w4⟩
 obtain ⟨ob,dg,noc⟩:=hS4.obj
 have I4':=I4.holds (fD.to dn4) dg noc
 have ff4:∀b∈fp,zS X (Ga++[(D,ob)]) H4 b:=λb hb=>((ff b hb).to (fr4 b hb)).more λp hp=>by
  have e:p=(D,ob):=by simpa using hp
  subst e
  exact λq=>hDfp (by have q':D=b:=q;rw [q'];exact hb)
 rcases step i n τ ys H4 w4 with ⟨stop,fin⟩|⟨go,step⟩
 ·refine thn (T.done X rfl rfl rfl hc i (Ga++[(D,ob)]) s4 τ H4 (λ_ _=>False) I4' ff4 st4 stop) λr s5 ⟨hr,I5⟩=>?_
  subst hr
  exact ⟨rfl,τ,ys,H4,I5.unpinned,fr4,dn4,hS4.at λo' e=>by rw [dg] at e;cases e;exact I5.held.1,fin⟩
 ·refine thn (T.item X rfl rfl rfl hc i (Ga++[(D,ob)]) s4 τ H4 (λ_ _=>False) I4' ff4 st4 go) λr s5 ⟨u,hr,h5⟩=>?_
  subst hr
  refine thn h5 λ_ s6 ⟨x,H6,I6,r6,y6,st6,fr6⟩=>?_
  obtain ⟨dg6,dn6⟩:=I6.held
  have all6:∀b∈D::fp,zS X Ga H6 b:=λb hb=>by
   rcases mem_cons.mp hb with z|z
   ·subst z;exact fD.to dn6
   ·exact (ff b z).to (fr6 b z)
  have obj6:∀b∈D::fp,∃o,s6.heap.get? b=some o/\∀v,o.data≠.cell v:=λb hb=>by
   rcases mem_cons.mp hb with z|z
   ·subst z;exact ⟨_,dg6,noc⟩
   ·exact T.obj _ _ st6 b z
  have I6':=(I6.unpinned (Ga:=Ga)).pinned all6 obj6
  have hg':=hg _ s6 τ H6 x u _ I6' r6 (step x H6 y6)
  rw [hx] at hg'
  refine thn hg' λ_ s7 ⟨τ7,H7,I7,q7⟩=>?_
  have pin7:∀b o,b∈D::fp->s6.heap.get? b=some o->s7.heap.get? b=some o/\H7 b=none:=λb o hb e=>by
   have q:=I7.pin (b,o) (mem_append_right _ (mem_append_right _ (zbG hb e)))
   exact ⟨q.1,q.2.1⟩
  have I7':Inv X (Ga++zby fp s6.heap) τ7 H7 s7:=I7.pins_of λp hp=>I7.pin p (mem_append_right _ ((mem_append.mp hp).elim (λz=>mem_append_left _ z) λz=>mem_append_right _ (by
   obtain ⟨z1,z2⟩:=zhi z
   exact zbG (mem_cons_of_mem _ z1) z2)))
  have fD7:zS X (Ga++zby fp s6.heap) H7 D:=(fD.to (pin7 D _ mem_cons_self dg6).2).more λp hp z=>hDfp (by rw [<- z];exact (zhi hp).1)
  have hS7:zO X.prog X.w s7.heap D ys:=hS4.at λo' e=>by rw [dg] at e;cases e;exact (pin7 D _ mem_cons_self dg6).1
  refine thn (hb _ s7 τ7 H7 ys _ I7' fD7 hS7 q7) λ_ s8 ⟨τ8,ns8,H8,I8,dn8,hS8,m',hm,w'⟩=>?_
  have pin8:∀b o,b∈fp->s6.heap.get? b=some o->s8.heap.get? b=some o/\H8 b=none:=λb o hb e=>by
   have q:=I8.pin (b,o) (mem_append_right _ (mem_append_right _ (zbG hb e)))
   exact ⟨q.1,q.2.1⟩
  refine ⟨m',hm,i+1,τ8,ns8,H8,I8.unpinned,T.keep _ _ _ st6 λb hb o e=>(pin8 b o hb e).1,λb hb=>?_,dn8,hS8,w'⟩
  obtain ⟨o,e,_⟩:=T.obj _ _ st6 b hb
  exact (pin8 b o hb e).2
theorem pb_loop{c:Bool}{elt e tg iter:Expr}{gs:List Comprehension}{sc:Scope}{pos:Pos}{d:Nat}{body:Sem Unit}{wi:TI}{g:TG}{tb:TB}
  (he:e = .SetComp elt gs sc pos) (hd:(clausesOf e)[d]?=some ⟨tg,iter,[],0⟩) (ht:∀it,compTurn e d (.ref it) (.ref D) X.env=zbn e d tg iter body (.ref it) (.ref D) X.env) (hx:X.xe=λ_ _=>False) (hm:X.A.mark none=X.A) (hc:c=true->X.calm=true) (hi:PIc c X tg iter wi) (hg:PG X tg g) (hb:PB X D body tb)
  (hs:∀x,foldedSetIterable iter X.env x=pure x):PB X D (inB e d iter (.ref D) X.env) (zbX wi g tb):=by
 intro Ga s σ H ns Q I f hS h
 obtain ⟨o,ho,hn⟩:=hS.obj
 unfold inB
 have hi':=hi (Ga++[(D,o)]) s σ H _ (I.holds f ho hn) h
 rw [hx] at hi'
 refine wpAny_bind (thn hi' λv s1 h1=>wpAny_bind (wpAny_standAt ?_))
 rw [hs]
 refine wpAny_bind (wpAny_pure (wpAny_bind (wpAny_holding (thn h1 λitv s2 h2=>?_))))
 obtain ⟨it,fp,tn,J,H2,e',I2,T,st2,f2,W,⟨m0,w0⟩,step⟩:=h2
 subst e'
 obtain ⟨ho2,hn2⟩:=I2.held
 have hDfp:D∉fp:=λz=>(f2 D z).2.2.2.2.2 (D,o) (mem_append_right _ (mem_append_right _ (mem_singleton.mpr rfl))) rfl
 have hS2:zO X.prog X.w s2.heap D ns:=hS.at λo' e=>by rw [ho] at e;cases e;exact ho2
 have ff:∀b∈fp,zS X Ga H2 b:=λb hb=>by
  obtain ⟨g0,g1,g2,g3,g4,g5⟩:=f2 b hb
  exact ⟨g0,g1,g2,g3,g4,λp hp=>g5 p ((mem_append.mp hp).elim (mem_append_left _) λz=>mem_append_right _ (mem_append_left _ z))⟩
 have L:=zh9 he (ht it) hx hc hg hb T hDfp step (I2.unpinned (Ga:=Ga)) st2 ff (f.to hn2) hS2 w0
 refine wpAny_bind (wpAny_runOwn ?_)
 rw [hm]
 have L':=codeAny_mono L (R':=λr s'=>match r with | .ok f=>wpAny (model X.prog X.w) X.A (pure ()) (λ_ s'=>BP X D Ga Q s') (λ_ _=>False) s' | .error e=>cameBackBy (model X.prog X.w) X.A X.env (λ_ _=>False) e s') λr s' ⟨hr,σ',ns',H',a,b,c,d,q⟩=>by
  subst hr
  exact wpAny_pure ⟨σ',ns',H',a,c,d,q⟩
 exact ziD he hd L' (T.self _ 0 _ _ _ st2 L')
def zel(tb:TB):TB:=λσ ns H Q=>tb σ ns H Q\/∃a kvs,H a=some (.dK kvs)/\∀o,tb σ ns (upd H a (.frz o (.dK kvs))) λσ' ns' H'=>zbS a kvs H' (Q σ' ns')
theorem ztn{m:Sem Unit}{tb:TB}(h:PB X D m tb):PB X D m (zel tb):=by
 intro Ga s σ H ns Q I f hS hq
 rcases hq with hq|⟨a,kvs,e,q⟩
 ·exact h Ga s σ H ns Q I f hS hq
 obtain ⟨h5,o,I'⟩:=I.freeze e
 have Da:D≠a:=λz=>by have:=f.1;rw [z,e] at this;cases this
 refine thn (h Ga s σ _ ns _ I' (f.to (by rw [ze Da];exact f.1)) hS (q o)) λ_ s1 ⟨σ1,ns1,H1,I1,d1,S1,o1,e1,q1⟩=>?_
 exact ⟨σ1,ns1,_,I1.thaw e1 h5,by rw [ze Da];exact d1,S1,q1⟩
end
def zbx(P:Program)(w:World)(D:Addr)(ns:List Int):HO:=.ext λh=>zO P w h D ns
theorem zpz{P:Program}{w:World}{H:Hp}{h:Heap}{D:Addr}{ns:List Int}(x:zO P w h D ns):zV P w H h D (zbx P w D ns) :=
 ⟨x,let ⟨o,e,_⟩:=x.obj;⟨o,e⟩,λh1 h2 x1 k=>x1.at k⟩
theorem zpj{P:Program}{w:World}{H:Hp}{h:Heap}{D:Addr}{ns:List Int}(x:HOk P w H h)(e:H D=some (zbx P w D ns)):zO P w h D ns:=(x D _ e).1
def tSC(P:Program)(w:World)(ix:List (Option Nat))(wi:TI)(g:TG)(tb:TB):TE:=λσ H Q=>wi σ H λJ H1=>∃W:Nat->Nat->St->List Int->Hp->Prop,(∃m,W 0 m (zaG ix σ) [] H1) /\
 zeh W J g tb λ_ ns H2=>∀D,H2 D=none->D≠sysModules->Q (.ref D) (upd H2 D (zbx P w D ns))
theorem zqa{c c1 c2:Bool}{X:Cx}{elt t0 i0 t1 i1 t2 i2:Expr}{sc:Scope}{pos:Pos}{N':List Str}{ix:List (Option Nat)}{wi w1 w2:TI}{g g1 g2:TG}{te:TE}(hc:c=true->X.calm=true)(hc1:c1=true->X.calm=true)(hc2:c2=true->X.calm=true)(L:zaj X sc N' ix)(hi:PIc c X t0 i0 wi)
  (hg:∀Ga C fp s H,PG (zo X sc N' Ga C fp s H) t0 g) (hi1:∀Ga C fp s H,PIc c1 (zo X sc N' Ga C fp s H) t1 i1 w1) (hg1:∀Ga C fp s H,PG (zo X sc N' Ga C fp s H) t1 g1)
  (hi2:∀Ga C fp s H,PIc c2 (zo X sc N' Ga C fp s H) t2 i2 w2) (hg2:∀Ga C fp s H,PG (zo X sc N' Ga C fp s H) t2 g2) (he:∀Ga C fp s H,PE (zo X sc N' Ga C fp s H) elt te)
  (hs:∀x,foldedSetIterable i0 X.env x=pure x:=by intro _;rfl) (hs1:∀env x,foldedSetIterable i1 env x=pure x:=by intro _ _;rfl) (hs2:∀env x,foldedSetIterable i2 env x=pure x:=by intro _ _;rfl) :
  PE X (.SetComp elt [⟨t0,i0,[],0⟩,⟨t1,i1,[],0⟩,⟨t2,i2,[],0⟩] sc pos) (tSC X.prog X.w ix wi g (zel (zbX w1 g1 (zbX w2 g2 (zcd te))))):=by
 intro Ga s σ H Q I h
 rw [arm_eval_SetComp]
 have hclos:closureFor sc X.env=pure (zaa X.env.cells sc.names []):=zfd λy hy hk=>I.ok.has y.1 (.inl (L.free y hy hk).1)
 refine wpAny_comprehension_free (use:=none) rfl hs hclos L.kind L.names (thn (hi Ga s σ H _ I h) λv s1 h1=>thn h1 λitv s2 h2=>?_)
 obtain ⟨it,fp,tn,J,H2,e,I2,T,st2,f2,W,⟨m0,w0⟩,turn⟩:=h2
 subst e
 refine zlj λon hnew nocn=>wpAny_newFunctionEnv L.cell (by intro y hy;simp at hy) (λh₁ hns₁ hsb₁=>?_) L.kind
 dsimp only at hns₁ hsb₁ ⊢
 generalize hH2:s2.heap.push on=G2 at hns₁ hsb₁ hnew ⊢
 have hC:G2.objs.size=s2.heap.objs.size+1:=by rw [<- hH2,size_push]
 have hDC:s2.heap.objs.size≠G2.objs.size:=by rw [hC];exact ne_of_lt (lt_succ_self _)
 have hCle:s2.heap.objs.size<=G2.objs.size:=by rw [hC];exact le_succ _
 have below:∀b,b<s2.heap.objs.size->b≠G2.objs.size/\b≠s2.heap.objs.size:=λb hb=>⟨by rw [hC];exact ne_of_lt (lt_succ_of_lt hb),ne_of_lt hb⟩
 have old:∀b o,s2.heap.get? b=some o->h₁.get? b=some o:=λb o e=>hsb₁.extBut b o (below b (lt_size e)).1 (get?_push_of_some _ (hH2 ▸ get?_push_of_some _ e))
 have hacc:zO X.prog X.w h₁ s2.heap.objs.size []:=hnew.at λo e=>hsb₁.extBut _ _ hDC (get?_push_of_some _ e)
 have fl:∀b∈fp,b<s2.heap.objs.size:=λb hb=>by
  obtain ⟨o,e,_⟩:=T.obj 0 _ st2 b hb
  exact lt_size e
 have hDfp:s2.heap.objs.size∉fp:=λz=>lt_irrefl _ (fl _ z)
 generalize hD:s2.heap.objs.size=D at *
 generalize hCe:G2.objs.size=C at *
 have cof:∀x c,(zaa X.env.cells sc.names []).lookup x=some c->X.env.cells.lookup x=some c:=λx c h=>by
  rcases zdv h with h|h
  ·cases h
  ·exact h.1
 have st1:tn 0 h₁:=T.keep _ _ _ st2 λb _ o e=>old b o e
 have I3:Inv (zo X sc N' Ga C fp s2 H2) [] (zaG ix σ) H2 { s2 with heap:=h₁,toks:=s2.toks+([]:List (Str×Value)).length }:=zff I2 L f2 (λb hb=>by rw [hD];exact fl b hb) (by rw [hD];exact hCle) hns₁ old
 have D0:H2 D=none:=I2.hok.fresh (le_of_eq hD)
 have fD:zS (zo X sc N' Ga C fp s2 H2) [] H2 D:=by
  refine ⟨D0,hDC,λz=>?_,.inr (le_of_eq hD),λx c hx z=>?_,λp hp z=>?_⟩
  ·obtain ⟨_,o,ho,_⟩:=I2.stack.mem (show D∈frs X.stack from z)
   exact absurd (lt_size ho) (by rw [hD];exact lt_irrefl _)
  ·obtain ⟨v,q⟩:=I2.cell x c (cof x c hx)
   have:=q.lt
   rw [z,hD] at this
   exact lt_irrefl _ this
  ·have hp':p∈X.pn++Ga:=by
    have:p∈(X.pn++Ga)++[]:=hp
    simpa using this
   have:=lt_size (I2.pin p hp').1
   rw [z,hD] at this
   exact lt_irrefl _ this
 have fF:∀b∈fp,zS (zo X sc N' Ga C fp s2 H2) [] H2 b:=λb hb=>by
  obtain ⟨g0,g1,g2,g3,g4,g5⟩:=f2 b hb
  refine ⟨g0,(below b (fl b hb)).1,λz=>?_,.inl hb,λx c hx=>g4 x c (cof x c hx),λp hp=>g5 p ?_⟩
  ·rcases mem_cons.mp (I2.stkSub b z) with e|e
   ·exact g1 e
   ·exact g2 e
  ·have:p∈(X.pn++Ga)++[]:=hp
   simpa using this
 generalize hE:Expr.SetComp elt [⟨t0,i0,[],0⟩,⟨t1,i1,[],0⟩,⟨t2,i2,[],0⟩] sc pos=E
 have hb:=ztn <| pb_loop (X:=zo X sc N' Ga C fp s2 H2) (D:=D) (c:=c1) hE.symm (d:=1) (by rw [<- hE];rfl) (λ_=>zuQ hE.symm) rfl rfl hc1 (hi1 Ga C fp s2 H2) (hg1 Ga C fp s2 H2) (pb_loop (c:=c2) hE.symm (d:=2) (by rw [<- hE];rfl) (λ_=>znY hE.symm) rfl rfl hc2 (hi2 Ga C fp s2 H2) (hg2 Ga C fp s2 H2) (zug rfl (he Ga C fp s2 H2)) (hs2 _)) (hs1 _)
 have loop:=zh9 (X:=zo X sc N' Ga C fp s2 H2) hE.symm (zsy hE.symm) rfl hc (hg Ga C fp s2 H2) hb T hDfp turn I3 st1 fF fD hacc w0
 have loop':=codeAny_mono loop (R':=compPost (model X.prog X.w) X.A X.xe none (EP X Ga σ Q) (.ref D) C) λr s5 ⟨hr,τ5,ns,H5,I5,fr5,dn5,hS5,fin⟩=>by
  subst hr
  obtain ⟨m5,hn5,_⟩:=id I5.loc
  refine ⟨m5,hn5,λh' hsb=>?_⟩
  have kb:∀b u,b≠C->s5.heap.get? b=some u->h'.get? b=some u:=λb u hb e=>(hsb.2 b hb).trans e
  have hlt:∀b o,s2.heap.get? b=some o->b≠C/\b≠D:=λb o e=>by
   have:=lt_size e
   rw [hD] at this
   exact below b this
  have nsm:D≠sysModules:=by have h:mainGlobals<s2.heap.objs.size:=(I2.mod.glob.keeps I2.bk).lt;rw [hD] at h;exact ne_of_gt (lt_trans (by decide) h)
  have U:=I5.base
  refine ⟨.ref D,upd H5 D (zbx X.prog X.w D ns),I2.call' (s':={ s5 with heap:=h' }) (ch:=fp) I5.os ⟨λb o e n hb hx=>kb b o (hlt b o e).1 (U.keep b o e n hb hx),λb o e n hb hx=>?_,λb o e n hx=>?_,λb o e hx=>?_,λb xs e=>?_,λb o u e=>?_,λb ps e=>?_⟩ ?_ I5.bare (λb hb=>?_),rfl,fin D dn5 nsm⟩
  ·obtain ⟨sl,q⟩:=U.slot b o e n hb hx
   exact ⟨sl,kb b _ (hlt b o e).1 q⟩
  ·rw [ze (hlt b o e).2]
   exact U.free b o e n hx
  ·obtain ⟨o',q⟩:=U.there b o e hx
   exact ⟨o',kb b _ (hlt b o e).1 q⟩
  ·have q:=U.tups b xs e
   rw [ze (zD q dn5)]
   exact q
  ·have q:=U.frzs b o u e
   rw [ze (zD q dn5)]
   exact q
  ·obtain ⟨more,q⟩:=U.tbls b ps e
   exact ⟨more,by rw [ze (zD q dn5)];exact q⟩
  ·exact (I5.hok.but I5.free kb).add dn5 (zpz (hS5.at λo e=>kb D o hDC e))
  ·obtain ⟨_,g1,g2,g3,g4,g5⟩:=f2 b hb
   exact ⟨g3,g1,g4,g5⟩
 exact ziD hE.symm (by rw [<- hE];rfl) loop' (T.self _ 0 _ _ _ st1 loop')
theorem zh8:Manifest.owners.lookup (String.ofList ['r','o','t','a','r','e','t','i','_','t','e','s'].reverse)=some Manifest.sig_set_iterator:=by kernel_rfl
theorem zdQ:Slot "set_iterator" "__next__" "set_iterator.__next__" :=
 .of (owner:="set_iterator") (n:="__next__") (by rw [typeLookup_type,builtinLookup_eq_fast];kernel_rfl) (f!"") (f!"") (f!"")
  (by first|exact .inl (f!"")|exact .inr (f!"")) (by rw [isSubtype_type];kernel_rfl)
theorem zn7:entryFor table "set_iterator.__next__"=some Builtin.«set_iterator.__next__»:=entryFor_of_tree (by kernel_rfl)
theorem zkM(a:Value):argsOk "set_iterator.__next__" ⟨[a],[]⟩:=by
 unfold argsOk;rw [signature?_of (id:="set_iterator.__next__") (n:=['_','_','t','x','e','n','_','_']) (o:=['r','o','t','a','r','e','t','i','_','t','e','s']) (by kernel_rfl) zh8];kernel_rfl
theorem zkv:Slot "set_iterator" "__iter__" "set_iterator.__iter__" :=
 .of (owner:="set_iterator") (n:="__iter__") (by rw [typeLookup_type,builtinLookup_eq_fast];kernel_rfl) (f!"") (f!"") (f!"")
  (by first|exact .inl (f!"")|exact .inr (f!"")) (by rw [isSubtype_type];kernel_rfl)
theorem zuj:entryFor table "set_iterator.__iter__"=some Builtin.«dict_keyiterator.__iter__»:=entryFor_alias (id':="dict_keyiterator.__iter__") (by kernel_rfl) rfl (f!"") (by kernel_rfl)
theorem zvd(a:Value):argsOk "set_iterator.__iter__" ⟨[a],[]⟩:=by
 unfold argsOk;rw [signature?_of (id:="set_iterator.__iter__") (n:=['_','_','r','e','t','i','_','_']) (o:=['r','o','t','a','r','e','t','i','_','t','e','s']) (by kernel_rfl) zh8];kernel_rfl
theorem zpT:entryFor table "set.__iter__"=some Builtin.«frozenset.__iter__»:=entryFor_alias (id':="frozenset.__iter__") (by kernel_rfl) rfl (f!"") (by kernel_rfl)
section
variable {prog:Program}{w:World}{A:Around}{E:Value->Shared->Prop}{s:Shared}
theorem zsD{src:Source}{n:Nat}{Q:Nat->Shared->Prop}(hn:n≠0)(h:∀i d,i<n->Q i { s with drawn:=d }):wpAny (model prog w) A (choose src n) Q E s:=by
 intro Γ p hΓ
 unfold choose
 rw [Sem.wp_choose]
 exact ⟨hn,h _ _ (Nat.mod_lt _ (Nat.pos_of_ne_zero hn))⟩
theorem zer{α:Type}:∀{xs:List α}{i:Nat}(h:i<xs.length),(xs[i]::xs.eraseIdx i).Perm xs
 | x::xs,0,h=>Perm.refl _
 | x::xs,i+1,h=>by
  have:=zer (xs:=xs) (i:=i) (by simpa using h)
  exact (Perm.swap _ _ _).trans (this.cons x)
theorem zj9{α:Type}:∀(n:Nat)(xs:List α)(s:Shared)(Q:List α->Shared->Prop),xs.length=n->(∀l d,l.Perm xs->Q l { s with drawn:=d })->wpAny (model prog w) A (drawOrder n xs) Q E s
 | 0,xs,s,Q,hl,h=>by
  have:xs=[]:=length_eq_zero_iff.mp hl
  subst this
  exact wpAny_pure (h [] s.drawn (Perm.refl _))
 | n+1,[],s,Q,hl,h=>by cases hl
 | n+1,x::xs,s,Q,hl,h=>by
  unfold drawOrder
  refine wpAny_bind (zsD (by simp) λi d hi=>?_)
  rw [List.getElem?_eq_getElem hi]
  dsimp only
  have le:((x::xs).eraseIdx i).length=n:=by rw [List.length_eraseIdx_of_lt hi];simpa using hl
  refine wpAny_bind (zj9 n _ _ _ le λl d' p=>wpAny_pure ?_)
  exact h _ _ ((p.cons _).trans (zer hi))
def itO(a:Addr)(n ep:Nat)(first:Value)(i:Nat):Obj:={ cls:=.type "set_iterator",data:=.fields #[first,.int i 0,.ref a,.int n 0,.int ep 0] }
structure SIt(h:Heap)(I a:Addr)(n ep:Nat)(first:Value)(i:Nat):Prop where
 ex:∃o,h.get? I=some o/\o.cls = .type "set_iterator"/\o.data = .fields #[first,.int i 0,.ref a,.int n 0,.int ep 0]
theorem SIt.at{h h':Heap}{I a:Addr}{n ep:Nat}{first:Value}{i:Nat}(x:SIt h I a n ep first i)(k:∀o,h.get? I=some o->h'.get? I=some o):SIt h' I a n ep first i:=let ⟨o,ho,r⟩:=x.ex;⟨⟨o,k o ho,r⟩⟩
theorem SIt.typ{I a:Addr}{n ep:Nat}{first:Value}{i:Nat}(x:SIt s.heap I a n ep first i):s.TypeIs (.ref I) "set_iterator":=let ⟨o,ho,hc,_⟩:=x.ex;⟨o,ho,hc⟩
section
variable {a:Addr}{o:Obj}{es:Array (Int×Value)}{ep:Nat}{t:SetTable}
theorem zsM{Q:Value->Shared->Prop}(ho:s.heap.get? a=some o)(hex:o.ExactSet)(hd:o.data = .set es ep t)(hf:t.fits es.size=true)(hz:es.size<=sizeLine)
  (h1:(btW w=true\/t.plain=true\/es.size<=1)->Q (.ref s.heap.objs.size) { s with heap:=s.heap.push (itO a es.size ep (.int 0 0) 0) })
  (h2:∀(ps:List Nat) d,btW w=false->ps.Perm (List.range es.size)->Q (.ref (s.heap.objs.size+1)) { s with heap:=(s.heap.push { cls:=.type "tuple",data:=.seq (ps.map λ(i:Nat)=>rawInt i).toArray }).push (itO a es.size ep (.ref s.heap.objs.size) 0),drawn:=d }) :
  wpAny (model prog w) A (pyIter (.ref a)) Q E s:=by
 have hT:s.TypeIs (.ref a) "set":=⟨o,ho,hex.1⟩
 refine wpAny_pyIter_slot hT F.slot_set_iter (wpAny_call_entry F.slot_set_iter hT zpT ?_ (F.args_set_iter_1 _))
 unfold Builtin.«frozenset.__iter__» Builtin.Frozenset.slot0 slotArgs
 simp only [List.isEmpty_nil,Bool.not_true,false_eq_true,↓reduceIte,bind_assoc,length_nil,bne_self_eq_false]
 unfold Builtin.Frozenset.addrOf Builtin.Frozenset.sizeOf
 refine wpAny_bind (wpAny_pure ?_)
 try dsimp only
 refine wpAny_bind (wpAny_pure ?_)
 refine wpAny_bind (wpAny_bind (wpAny_setEntries_of ho hd hf (wpAny_pure ?_)))
 unfold setDrawn
 refine wpAny_bind (wpAny_bind (wpAny_setState_of ho hd hf ?_))
 dsimp only
 unfold setsByText
 refine wpAny_bind (wpAny_bind (wpAny_askSetting (wpAny_pure (wpAny_pure ?_))))
 show wpAny _ _ (if (!btW w&&(!t.plain&&decide (es.size>1)))=true then _ else _) _ _ _
 by_cases c:(!btW w&&(!t.plain&&decide (es.size>1)))=true
 ·rw [if_pos c]
  simp only [and_eq_true,not_eq_true',decide_eq_true_eq] at c
  refine wpAny_bind (zj9 es.size _ s _ length_range λps d pm=>wpAny_bind (wpAny_newTuple ?_ (by rw [length_map,pm.length_eq,length_range];exact hz)))
  have hk:((s.heap.push { cls:=.type "tuple",data:=.seq (ps.map λ(i:Nat)=>rawInt i).toArray }).get? a)=some o:=get?_push_of_some _ ho
  unfold setEpoch
  refine wpAny_bind (wpAny_bind (wpAny_setState_of hk hd hf (wpAny_pure ?_)))
  refine wpAny_bind (wpAny_newObj_type (wpAny_pure ⟨_,rfl,"set_iterator",_,⟨_,get?_push_size _ rfl,rfl⟩,zdQ.lookup,?_⟩))
  have:=h2 ps d c.1 pm
  rw [<- size_push] at this
  exact this
 ·rw [if_neg c]
  have c':btW w=true\/t.plain=true\/es.size<=1:=by
   cases e1:btW w
   ·cases e2:t.plain
    ·rw [e1,e2] at c
     right;right
     simpa using c
    ·right;left;rfl
   ·left;rfl
  refine wpAny_bind (wpAny_pure ?_)
  unfold setEpoch
  refine wpAny_bind (wpAny_bind (wpAny_setState_of ho hd hf (wpAny_pure ?_)))
  exact wpAny_bind (wpAny_newObj_type (wpAny_pure ⟨_,rfl,"set_iterator",_,⟨_,get?_push_size _ rfl,rfl⟩,zdQ.lookup,h1 c'⟩))
def zaJ(w:World)(a:Addr)(es:Array (Int×Value))(ep:Nat):Array (Int×Value):=if btW w=true then pickOrder (w.params.setOrder a ep) es else es
theorem zmD{k i:Nat}{Q:Option (Value×Nat)->Shared->Prop}(ho:s.heap.get? a=some o)(hd:o.data = .set es ep t)(hf:t.fits es.size=true)(g:zaZ (btW w) t)(c:btW w=true\/t.plain=true\/es.size<=1)(hb:btW w=false->SetTable.below t.place k=i)
  (h1:∀e k',(zaJ w a es ep)[i]?=some e->(btW w=false->SetTable.below t.place k'=i+1)->Q (some (e.2,k')) s) (h2:(zaJ w a es ep)[i]?=none->Q none s) :
  wpAny (model prog w) A (setNext a k i ep) Q E s:=by
 unfold setNext
 refine wpAny_bind (wpAny_setState_of ho hd hf ?_)
 dsimp only
 unfold setsByText
 refine wpAny_bind (wpAny_bind (wpAny_askSetting (wpAny_pure ?_)))
 show wpAny _ _ (if btW w=true then _ else _) _ _ _
 have hpl:t.place.size=es.size:=by
  unfold SetTable.fits at hf
  simp only [and_eq_true,beq_iff_eq] at hf
  exact hf.1
 cases hbt:btW w
 ·rw [if_neg Bool.false_ne_true]
  have c2:t.plain=true\/es.size<=1:=c.resolve_left (by rw [hbt];exact Bool.false_ne_true)
  show wpAny _ _ (if (!t.plain&&decide (es.size>1))=true then _ else _) _ _ _
  rw [if_neg (show ¬ ((!t.plain&&decide (es.size>1))=true) from by
   simp only [and_eq_true,not_eq_true',decide_eq_true_eq,not_and]
   intro h3
   rcases c2 with h4|h4
   ·rw [h3] at h4;cases h4
   ·omega)]
  have hled:t.led=true:=by rw [g.led,hbt];rfl
  have eo:zaJ w a es ep=es:=by unfold zaJ;rw [if_neg (by rw [hbt];exact Bool.false_ne_true)]
  rw [eo] at h1 h2
  refine wpAny_bind ?_
  show wpAny _ _ (if (!t.led && !es.isEmpty)=true then _ else _) _ _ _
  rw [if_neg (show ¬ ((!t.led && !es.isEmpty)=true) from by rw [hled];simp)]
  refine wpAny_pure (wpAny_pure ?_)
  rw [hb hbt]
  cases e:es[i]? with
  | none=>exact h2 e
  | some x =>
   have hi:i<es.size:=(Array.getElem?_eq_some_iff.mp e).1
   have e2:t.place[i]?=some t.place[i]:=Array.getElem?_eq_getElem (by omega)
   rw [e2]
   refine h1 x _ e λ_=>?_
   have B:=zf8 g.ris (t.place[i]+1)
   have gi:t.place.getD i 0=t.place[i]:=by simp [getD,show i<t.place.size by omega]
   have lo:i<SetTable.below t.place (t.place[i]+1):=by
    rcases Nat.lt_or_ge i (SetTable.below t.place (t.place[i]+1)) with z|z
    ·exact z
    ·have:=B.hi i z (by omega)
     omega
   rcases Nat.lt_or_ge (i+1) (SetTable.below t.place (t.place[i]+1)) with z|z
   ·have l1:=B.lo (i+1) z
    have l2:=g.ris i (i+1) (by omega) (by have:=B.le;omega)
    omega
   ·omega
 ·rw [if_pos rfl]
  rw [if_neg (by simp)]
  unfold setWalk
  refine wpAny_bind (wpAny_bind (wpAny_setState_of ho hd hf ?_))
  dsimp only
  unfold setsByText
  refine wpAny_bind (wpAny_bind (wpAny_askSetting (wpAny_pure ?_)))
  show wpAny _ _ (if btW w=true then _ else _) _ _ _
  rw [if_pos hbt]
  refine wpAny_bind (wpAny_askSetting (wpAny_pure (wpAny_pure ?_)))
  have eo:zaJ w a es ep=pickOrder (w.params.setOrder a ep) es:=by unfold zaJ;rw [if_pos hbt]
  rw [eo] at h1 h2
  show Q (((pickOrder (w.params.setOrder a ep) es)[i]?).map λe=>(e.2,k)) s
  cases e:(pickOrder (w.params.setOrder a ep) es)[i]? with
  | none=>exact h2 e
  | some x=>exact h1 x k e λz=>by rw [hbt] at z;cases z
end
end
section
variable {prog:Program}{w:World}{A:Around}{E:Value->Shared->Prop}{s:Shared}
variable {a I:Addr}{o:Obj}{es:Array (Int×Value)}{ep:Nat}{t:SetTable}{i:Nat}
theorem SIt.set0{n k':Nat}{first:Value}(x:SIt s.heap I a n ep first i):∀h':Heap,h'=s.heap.update I (Obj.mapFields (·.setIfInBounds 0 (rawInt k')))->SIt h' I a n ep (.int k' 0) i/\SameBut I s.heap h':=λh' e=>by
 subst e
 obtain ⟨o,ho,hc,hd⟩:=x.ex
 exact ⟨⟨⟨_,get?_update_self _ ho (Obj.isFreed_of_fields (Obj.data_mapFields hd _)),(Obj.cls_mapFields ..).trans hc,by rw [Obj.data_mapFields hd];simp [rawInt]⟩⟩,SameBut.update ..⟩
theorem SIt.set1{n:Nat}{first:Value}(x:SIt s.heap I a n ep first i):∀h':Heap,h'=s.heap.update I (Obj.mapFields (·.setIfInBounds 1 (rawInt ((i:Int)+1))))->SIt h' I a n ep first (i+1)/\SameBut I s.heap h':=λh' e=>by
 subst e
 obtain ⟨o,ho,hc,hd⟩:=x.ex
 exact ⟨⟨⟨_,get?_update_self _ ho (Obj.isFreed_of_fields (Obj.data_mapFields hd _)),(Obj.cls_mapFields ..).trans hc,by rw [Obj.data_mapFields hd];simp [rawInt]⟩⟩,SameBut.update ..⟩
theorem zi2{first:Value}{Q:Option Value->Shared->Prop}(hit:SIt s.heap I a es.size ep first i)(ho:s.heap.get? a=some o)(hd:o.data = .set es ep t)(hf:t.fits es.size=true)
  (h:wpAny (model prog w) A.in1 (match first with
   | .int slot _=>do
    match<-setNext a slot.toNat i ep with
    | some (x,next) =>
     setField (.ref I) 0 (rawInt next)
     setField (.ref I) 1 (rawInt ((i:Int)+1))
     ret x
    | none=>setField (.ref I) 2 .none;raiseNew (<- newExc (.type "StopIteration") [])
   | _=>do
    let some places<-seqItems? first|unsupported "internal:set_iterator"
    match places[i]? with
    | some (.int place _) =>
     let x<-setNextDrawn a place.toNat ep
     setField (.ref I) 1 (rawInt ((i:Int)+1))
     ret x
    | some _=>unsupported "internal:set_iterator"
    | none=>setField (.ref I) 0 (rawInt 0);setField (.ref I) 2 .none;raiseNew (<- newExc (.type "StopIteration") []))
   (λfin s'=>∃v,fin = .done (.ret v)/\Q (some v) s') (λe s'=>wpAny (model prog w) A (do if<-isInstance e (.type "StopIteration") then pure none else throw e) Q E s') s) :
  wpAny (model prog w) A (pyNext (.ref I)) Q E s:=by
 obtain ⟨oi,hoi,hci,hdi⟩:=hit.ex
 unfold pyNext
 refine wpAny_bind (wpAny_attempt (wpAny_callSpecial?_slot (name:=Str.ofString "__next__") hit.typ zdQ (wpAny_call_entry zdQ hit.typ zn7 ?_ (zkM _))))
 unfold Builtin.«set_iterator.__next__»
 refine wpAny_bind (wpAny_pure ?_)
 refine wpAny_bind (wpAny_fieldsOf hoi hdi ?_)
 dsimp only
 refine wpAny_bind (wpAny_setEntries_of ho hd hf ?_)
 rw [if_neg (by simp)]
 simp only [toNat_natCast]
 refine wpAny_mono h ?_ ?_
 ·rintro fin s' ⟨v,rfl,q⟩
  exact ⟨_,rfl,wpAny_pure q⟩
 ·intro e s' q
  exact q
theorem zi7{Q:Option Value->Shared->Prop}(hh:A.handled=none){h1:Heap}(hk:ExtBut I s.heap h1)(hQ:∀h',ExtBut I s.heap h'->Q none { s with heap:=h' }) :
  wpAny (model prog w) A.in1 (do raiseNew (<- newExc (.type "StopIteration") []):Sem Fin) (λfin s'=>∃v,fin = .done (.ret v)/\Q (some v) s') (λe s'=>wpAny (model prog w) A (do if<-isInstance e (.type "StopIteration") then pure none else throw e) Q E s') { s with heap:=h1 }:=by
 refine wpAny_bind ?_
 simp only [newExc,newTuple]
 refine wpAny_bind (wpAny_newObj_type ?_ (by size_fits))
 refine wpAny_bind (m:=firstArgMember _ _) (wpAny_of_eq (a:=Value.none) (by first|rfl|(simp only [firstArgMember];rfl)) ?_)
 refine wpAny_newObj_type ?_ (by size_fits)
 simp only [raiseNew]
 refine wpAny_bind (wpAny_handled ?_)
 rw [show A.in1.handled=none from hh]
 refine wpAny_bind (wpAny_pure (wpAny_throw ?_))
 refine wpAny_bind (wpAny_isInstance (T:="StopIteration") (b:=true) ⟨_,get?_push_size _ rfl,rfl⟩ isSubtype_stop ?_)
 exact wpAny_pure (hQ _ ((hk.push _).push _))
theorem ziH{k:Nat}{Q:Option Value->Shared->Prop}(hh:A.handled=none)(hit:SIt s.heap I a es.size ep (.int k 0) i)(ho:s.heap.get? a=some o)(hd:o.data = .set es ep t)(hf:t.fits es.size=true)(g:zaZ (btW w) t)(c:btW w=true\/t.plain=true\/es.size<=1)(hb:btW w=false->SetTable.below t.place k=i)
  (h1:∀e k' h',(zaJ w a es ep)[i]?=some e->(btW w=false->SetTable.below t.place k'=i+1)->SIt h' I a es.size ep (.int k' 0) (i+1)->SameBut I s.heap h'->Q (some e.2) { s with heap:=h' })
  (h2:(zaJ w a es ep)[i]?=none->∀h',ExtBut I s.heap h'->Q none { s with heap:=h' }):wpAny (model prog w) A (pyNext (.ref I)) Q E s:=by
 refine zi2 hit ho hd hf ?_
 dsimp only
 refine wpAny_bind (zmD ho hd hf g c (by simpa using hb) (λe k' he hk'=>?_) λhe=>?_)
 ·dsimp only
  obtain ⟨oi,hoi,hci,hdi⟩:=hit.ex
  refine wpAny_bind (wpAny_setField hoi hdi (by simp) ?_)
  obtain ⟨x1,sb1⟩:=hit.set0 (k':=k') _ rfl
  obtain ⟨oj,hoj,hcj,hdj⟩:=x1.ex
  refine wpAny_bind (wpAny_setField hoj hdj (by simp) ?_)
  obtain ⟨x2,sb2⟩:=SIt.set1 (s:={ s with heap:=s.heap.update I (Obj.mapFields (·.setIfInBounds 0 (rawInt k'))) }) x1 _ rfl
  exact wpAny_pure ⟨_,rfl,h1 e k' _ he hk' x2 (sb1.trans sb2)⟩
 ·dsimp only
  obtain ⟨oi,hoi,hci,hdi⟩:=hit.ex
  refine wpAny_bind (wpAny_setField hoi hdi (by simp) ?_)
  exact zi7 hh (SameBut.update ..).extBut (h2 he)
theorem zhU{T:Addr}{ot:Obj}{c:Nat}{ps:List Nat}{Q:Option Value->Shared->Prop}(hh:A.handled=none)(hit:SIt s.heap I a es.size ep (.ref T) i)(ho:s.heap.get? a=some o)(hd:o.data = .set es ep t)(hf:t.fits es.size=true)(hT:s.heap.get? T=some ot)(htd:ot.data = .seq (ps.map λ(i:Nat)=>rawInt i).toArray c)(pm:ps.Perm (List.range es.size))
  (h1:∀p e h',ps[i]?=some p->es[p]?=some e->SIt h' I a es.size ep (.ref T) (i+1)->SameBut I s.heap h'->Q (some e.2) { s with heap:=h' })
  (h2:ps[i]?=none->∀h',ExtBut I s.heap h'->Q none { s with heap:=h' }):wpAny (model prog w) A (pyNext (.ref I)) Q E s:=by
 refine zi2 hit ho hd hf ?_
 dsimp only
 refine wpAny_bind (wpAny_seqItems hT htd ?_)
 dsimp only
 obtain ⟨oi,hoi,hci,hdi⟩:=hit.ex
 rw [List.getElem?_toArray,getElem?_map]
 cases e:ps[i]? with
 | none =>
  dsimp only [Option.map_none]
  refine wpAny_bind (wpAny_setField hoi hdi (by simp) ?_)
  obtain ⟨x1,sb1⟩:=hit.set0 (k':=0) _ rfl
  obtain ⟨oj,hoj,hcj,hdj⟩:=x1.ex
  refine wpAny_bind (wpAny_setField hoj hdj (by simp) ?_)
  exact zi7 (s:=s) (I:=I) hh (sb1.trans (SameBut.update ..)).extBut (h2 e)
 | some p =>
  have hp:p<es.size:=by
   have:=pm.mem_iff.mp (mem_of_getElem? e)
   simpa using this
  have he:es[p]?=some es[p]:=Array.getElem?_eq_getElem hp
  dsimp only [Option.map_some,rawInt]
  unfold setNextDrawn
  refine wpAny_bind (wpAny_bind (wpAny_setState_of ho hd hf ?_))
  dsimp only
  rw [if_neg (by simp),toNat_natCast,he]
  refine wpAny_pure ?_
  refine wpAny_bind (wpAny_setField hoi hdi (by simp) ?_)
  obtain ⟨x2,sb2⟩:=hit.set1 _ rfl
  exact wpAny_pure ⟨_,rfl,h1 p es[p] _ e he x2 sb2⟩
theorem zjc{n:Nat}{first:Value}{Q:Value->Shared->Prop}(hit:SIt s.heap I a n ep first i)(h:Q (.ref I) s):wpAny (model prog w) A (pyIter (.ref I)) Q E s:=by
 refine wpAny_pyIter_slot hit.typ zkv (wpAny_call_entry zkv hit.typ zuj ?_ (zvd _))
 show wpAny _ _ (ret (.ref I)) _ _ s
 exact wpAny_pure ⟨_,rfl,"set_iterator",_,hit.typ,zdQ.lookup,h⟩
end
theorem zhI{α:Type}(nx:Nat->Nat):∀(f k:Nat)(left:List α)(out:Array α),left.length=f->(pickOrder.go nx f k left out).toList.Perm (out.toList++left)
 | 0,k,left,out,h=>by
  have:left=[]:=length_eq_zero_iff.mp h
  subst this
  unfold pickOrder.go
  simp
 | f+1,k,left,out,h=>by
  have hp:0<left.length:=by omega
  have hi:nx k % left.length<left.length:=Nat.mod_lt _ hp
  unfold pickOrder.go
  rw [List.getElem?_eq_getElem hi]
  dsimp only
  refine (zhI nx f (k+1) _ _ (by rw [List.length_eraseIdx_of_lt hi,h];rfl)).trans ?_
  rw [Array.toList_push,List.append_assoc]
  exact Perm.append_left _ (zer hi)
theorem ztw{α:Type}(nx:Nat->Nat)(xs:Array α):(pickOrder nx xs).toList.Perm xs.toList:=by
 have:=zhI nx xs.size 0 xs.toList #[] (by simp)
 unfold pickOrder
 simpa using this
theorem zkF{w:World}{a:Addr}{es:Array (Int×Value)}{ep:Nat}:(zaJ w a es ep).toList.Perm es.toList:=by
 unfold zaJ
 split
 ·exact ztw _ _
 ·exact Perm.refl _
theorem zfY{prog:Program}{w:World}:∀{l:List (Int×Value)},ElemsOf (PySem.intKind prog w) l->IntsAre (l.map (·.2)) (l.map zbo)
 | [],_=>.nil
 | e::l,h=>by
  obtain ⟨⟨k,hk,_⟩,_⟩:=h e mem_cons_self
  obtain ⟨t,ev⟩:=zf7 hk
  have:=zfY (l:=l) λx hx=>h x (mem_cons_of_mem _ hx)
  show IntsAre (e.2::_) (numOf e.2::_)
  rw [ev]
  exact .cons _ _ this
structure zne(prog:Program)(w:World)(A:Around)(h0 h:Heap)(a I:Addr)(ns:List Int):Prop where
 new:h0.objs.size<=I
 old:∀b o,h0.get? b=some o->h.get? b=some o
 ex:∃(L:List Value)(ms:List Int)(fp:List Addr)(St:Nat->Heap->Prop),IntsAre L ms/\ms.Perm ns/\(∀b∈fp,b=a\/h0.objs.size<=b)/\Walks prog w A I fp [I] L.length (λi v=>L[i]?=some v) St/\St 0 h
section
variable {prog:Program}{w:World}{A:Around}{E:Value->Shared->Prop}{s:Shared}
theorem znj{a:Addr}{ns:List Int}{Q:Value->Shared->Prop}(hh:A.handled=none)(hS:zO prog w s.heap a ns)
  (h:∀I h' d,zne prog w A s.heap h' a I ns->Q (.ref I) { s with heap:=h',drawn:=d }):wpAny (model prog w) A (pyIter (.ref a)) Q E s:=by
 obtain ⟨o,es,ep,t,ho,hex,hd,hel,hf,gt,pm⟩:=hS.ex
 have hsz:=zO.size (h:=s.heap) (a:=a) pm
 have hz:es.size<=sizeLine:=by rw [hsz,sizeLine_eq];have:=hS.few;omega
 have halt:=lt_size ho
 refine zsM ho hex hd hf hz (λc=>?_) λps d hbt pp=>?_
 ·have op:=zkF (w:=w) (a:=a) (es:=es) (ep:=ep)
  have oel:=hel.perm op
  have olen:(zaJ w a es ep).toList.length=es.size:=by rw [op.length_eq,length_toList]
  have oget:∀i,(zaJ w a es ep)[i]?=(zaJ w a es ep).toList[i]?:=λi=>(getElem?_toList).symm
  have:=h s.heap.objs.size (s.heap.push (itO a es.size ep (.int 0 0) 0)) s.drawn ⟨le_refl _,λb o e=>get?_push_of_some _ e,(zaJ w a es ep).toList.map (·.2),(zaJ w a es ep).toList.map zbo,[s.heap.objs.size,a],λi h=>(∃k:Nat,SIt h s.heap.objs.size a es.size ep (.int k 0) i/\(btW w=false->SetTable.below t.place k=i))/\h.get? a=some o,zfY oel,(op.map zbo).trans pm,λb hb=>?_,?_,?_⟩
  ·exact this
  ·simp only [mem_cons,not_mem_nil,or_false] at hb
   rcases hb with rfl|rfl
   ·exact .inr (le_refl _)
   ·exact .inl rfl
  ·have aI:a≠s.heap.objs.size:=ne_of_lt halt
   refine ⟨λb hb=>?_,λi h h' st hk=>?_,λi s' Q E hi st hQ=>?_,λs' Q E st hQ=>?_,λi s' Q E st hQ=>?_⟩
   ·simp at hb;simp [hb]
   ·obtain ⟨⟨k,x,hb⟩,ha⟩:=st
    exact ⟨⟨k,x.at λo e=>hk _ (by simp) o e,hb⟩,hk a (by simp) o ha⟩
   ·obtain ⟨⟨k,x,hb⟩,ha⟩:=st
    rw [length_map,olen] at hi
    refine ziH hh x ha hd hf gt c hb (λe k' h' he hk' x' sb=>?_) λhe=>?_
    ·refine hQ _ h' s'.toks ?_ ⟨⟨k',x',hk'⟩,sb.extBut a _ aI ha⟩ λb o hb e=>sb.extBut b o (λz=>hb (by simp [z])) e
     rw [getElem?_map,<- oget,he]
     rfl
    ·rw [oget] at he
     exact absurd (List.getElem?_eq_none_iff.mp he) (by omega)
   ·obtain ⟨⟨k,x,hb⟩,ha⟩:=st
    rw [length_map,olen] at x hb
    refine ziH hh x ha hd hf gt c hb (λe k' h' he hk' x' sb=>?_) λhe h' eb=>?_
    ·rw [oget] at he
     exact absurd (List.getElem?_eq_some_iff.mp he).1 (by omega)
    ·exact hQ h' s'.toks λb o hb e=>eb b o (λz=>hb (by simp [z])) e
   ·obtain ⟨⟨k,x,hb⟩,ha⟩:=st
    exact zjc x hQ
  ·exact ⟨⟨0,⟨⟨_,get?_push_size _ rfl,rfl,rfl⟩⟩,λ_=>by
    have B:=zf8 gt.ris 0
    rcases Nat.eq_zero_or_pos (SetTable.below t.place 0) with z|z
    ·exact z
    ·exact absurd (B.lo 0 z) (Nat.not_lt_zero _)⟩,get?_push_of_some _ ho⟩
 ·have hT0:s.heap.objs.size=s.heap.objs.size:=rfl
  let f:Nat->Int×Value:=λp=>es.getD p (0,.none)
  have hfe:∀p,p<es.size->es[p]?=some (f p):=λp hp=>by rw [Array.getElem?_eq_getElem hp];simp [f,getD,hp]
  have op:(ps.map f).Perm es.toList:=by
   have e:(List.range es.size).map f=es.toList:=by
    apply List.ext_getElem?
    intro i
    rw [getElem?_map,show es.toList[i]?=es[i]? from getElem?_toList]
    by_cases hi:i<es.size
    ·rw [List.getElem?_range hi,hfe i hi];rfl
    ·rw [Array.getElem?_eq_none (by omega),List.getElem?_eq_none (by simpa using hi)];rfl
   rw [<- e]
   exact pp.map f
  have oel:=hel.perm op
  have olen:ps.length=es.size:=by rw [pp.length_eq,length_range]
  have:=h (s.heap.objs.size+1) ((s.heap.push { cls:=.type "tuple",data:=.seq (ps.map λ(i:Nat)=>rawInt i).toArray }).push (itO a es.size ep (.ref s.heap.objs.size) 0)) d ⟨le_succ _,λb o e=>get?_push_of_some _ (get?_push_of_some _ e),(ps.map f).map (·.2),(ps.map f).map zbo,[s.heap.objs.size+1,a,s.heap.objs.size],λi h=>SIt h (s.heap.objs.size+1) a es.size ep (.ref s.heap.objs.size) i/\h.get? a=some o/\h.get? s.heap.objs.size=some { cls:=.type "tuple",data:=.seq (ps.map λ(i:Nat)=>rawInt i).toArray },zfY oel,(op.map zbo).trans pm,λb hb=>?_,?_,?_⟩
  ·exact this
  ·simp only [mem_cons,not_mem_nil,or_false] at hb
   rcases hb with rfl|rfl|rfl
   ·exact .inr (le_succ _)
   ·exact .inl rfl
   ·exact .inr (le_refl _)
  ·have aI:a≠s.heap.objs.size+1:=ne_of_lt (lt_succ_of_lt halt)
   have tI:s.heap.objs.size≠s.heap.objs.size+1:=ne_of_lt (lt_succ_self _)
   refine ⟨λb hb=>?_,λi h h' st hk=>?_,λi s' Q E hi st hQ=>?_,λs' Q E st hQ=>?_,λi s' Q E st hQ=>?_⟩
   ·simp at hb;simp [hb]
   ·obtain ⟨x,ha,ht⟩:=st
    exact ⟨x.at λo e=>hk _ (by simp) o e,hk a (by simp) o ha,hk _ (by simp) _ ht⟩
   ·obtain ⟨x,ha,ht⟩:=st
    rw [length_map,length_map] at hi
    refine zhU hh x ha hd hf ht rfl pp (λp e h' hp he x' sb=>?_) λhe=>?_
    ·refine hQ _ h' s'.toks ?_ ⟨x',sb.extBut a _ aI ha,sb.extBut _ _ tI ht⟩ λb o hb e=>sb.extBut b o (λz=>hb (by simp [z])) e
     have hpl:p<es.size:=(Array.getElem?_eq_some_iff.mp he).1
     rw [hfe p hpl] at he
     cases he
     rw [getElem?_map,getElem?_map,hp]
     rfl
    ·exact absurd (List.getElem?_eq_none_iff.mp he) (by omega)
   ·obtain ⟨x,ha,ht⟩:=st
    rw [length_map,length_map] at x
    refine zhU hh x ha hd hf ht rfl pp (λp e h' hp he x' sb=>?_) λhe h' eb=>?_
    ·exact absurd (List.getElem?_eq_some_iff.mp hp).1 (by omega)
    ·exact hQ h' s'.toks λb o hb e=>eb b o (λz=>hb (by simp [z])) e
   ·exact zjc st.1 hQ
  ·refine ⟨⟨⟨itO a es.size ep (.ref s.heap.objs.size) 0,?_,rfl,rfl⟩⟩,get?_push_of_some _ (get?_push_of_some _ ho),get?_push_of_some _ (get?_push_size _ rfl)⟩
   have:=get?_push_size (s.heap.push { cls:=.type "tuple",data:=.seq (ps.map λ(i:Nat)=>rawInt i).toArray }) (o:=itO a es.size ep (.ref s.heap.objs.size) 0) rfl
   rw [size_push] at this
   exact this
theorem zns{a:Addr}{Q:Bool->Shared->Prop}(hT:s.TypeIs (.ref a) "set")(h:Q false s):wpAny (model prog w) A (Builtin.List.listLengthHint (.ref a)) Q E s:=by
 unfold Builtin.List.listLengthHint
 refine wpAny_bind (wpAny_specialOf hT PySem.F.slot_set_len.lookup ?_)
 generalize hid:("set.__len__":String)=id0
 wp_delta
 rw [show splitId id0=some ("set","__len__") from by subst hid;decide +kernel]
 subst hid
 refine wpAny_bind (wpAny_isInstance (T:="set") (b:=true) hT (by rw [isSubtype_type];kernel_rfl) ?_)
 refine wpAny_ite_split (λhab=>absurd hab (by decide)) (λ_=>?_)
 refine wpAny_ite_split (λ_=>?_) (λhab=>absurd (f!"") hab)
 refine wpAny_bind (wpAny_typeOf hT ?_)
 exact wpAny_pure h
theorem zO.typ{a:Addr}{ns:List Int}(x:zO prog w s.heap a ns):s.TypeIs (.ref a) "set":=let ⟨o,_,_,_,ho,hex,_⟩:=x.ex;⟨o,ho,hex.1⟩
theorem zlR{L:List Value}{acc:Array Value}(h:ItemsOf (λi v=>L[i]?=some v) acc L.length):acc.toList=L:=by
 apply List.ext_getElem?
 intro i
 by_cases hi:i<L.length
 ·have hs:i<acc.size:=by rw [h.1];exact hi
  have e:acc[i]?=some acc[i]:=Array.getElem?_eq_getElem hs
  rw [getElem?_toList,e,h.2 i _ e]
 ·rw [getElem?_toList,Array.getElem?_eq_none (by rw [h.1];omega),List.getElem?_eq_none (by omega)]
theorem zsw{R:Result->Shared->Prop}{a S:Addr}{ns:List Int}(hh:A.handled=none)(hS:zO prog w s.heap a ns)(hSa:S≠a)(res:Value)(c₀:Nat)(hl:s.heap.get? S=some { cls:=.type "list",data:=.seq #[] c₀ })
  (hR:∀h' tk d acc' c' ms,(∀b o,b≠S->s.heap.get? b=some o->h'.get? b=some o)->h'.get? S=some { cls:=.type "list",dict:=none,data:=.seq acc' c',slots:=#[] }->IntsAre acc'.toList ms->ms.Perm ns->R (.ok (.ret res)) { s with heap:=h',toks:=tk,drawn:=d }) :
  wpAny (model prog w) A.in1 (Builtin.List.listExtendWith (.ref S) (.ref a) res)
   (λfin s'=>match fin with | .done f=>R (.ok f) s' | .again c'=>c'.quiet=true/\codeAny (model prog w) A c' R s') (λe s'=>R (.error e) s') s:=by
 unfold Builtin.List.listExtendWith
 refine wpAny_bind (wpAny_typeOf (T:="set") hS.typ ?_)
 have h1:Builtin.List.listSameRef (.ref S) (.ref a)=false:=by simp [Builtin.List.listSameRef,hSa]
 have n1:(type "set" == type "list")=false:=by decide
 have n2:(type "set" == type "tuple")=false:=by decide
 simp only [h1,n1,n2,Bool.or_false,false_eq_true,if_false]
 refine wpAny_bind (znj hh hS λI h2 d sw=>?_)
 obtain ⟨L,ms,fp,St,hL,hp,hfp,W,st⟩:=sw.ex
 have hlen:L.length<=sizeLine:=by
  have e1:L.length=ms.length:=by
   clear W st hp
   induction hL with
   | nil=>rfl
   | cons _ _ _ ih=>simp [ih]
  rw [e1,hp.length_eq,sizeLine_eq]
  have:=hS.few
  omega
 have hSlt:=lt_size hl
 have hSf:S∉fp:=λz=>by
  rcases hfp S z with q|q
  ·exact hSa q
  ·exact lt_irrefl _ (lt_of_lt_of_le hSlt q)
 have hSI:S≠I:=ne_of_lt (lt_of_lt_of_le hSlt sw.new)
 have key:∀(h:Heap)(c₁ tk:Nat),St 0 h->(∀b o,b≠S->s.heap.get? b=some o->h.get? b=some o) ->
   h.get? S=some { cls:=.type "list",data:=.seq #[] c₁ }->codeAny (model prog w) A (.builtin "list.extend.loop" ⟨[.ref S,.ref I,res],[]⟩) R { s with heap:=h,toks:=tk,drawn:=d }:=by
  intro h c₁ tk hst hk hS₁
  refine codeAny_extend_loopS W.toS hlen S hSf res L.length 0 _ #[] c₁ rfl (zero_le _) hst hS₁ (ItemsOf.nil _) λs' acc' c' hm hS' hacc=>?_
  rw [Moved.eq_with hm]
  refine hR s'.heap s'.toks d acc' c' ms (λb o hb e=>hm.heap b o (λhmem=>?_) (hk b o hb e)) hS' (by rw [zlR hacc];exact hL) hp
  rcases mem_cons.mp hmem with e'|hmem
  ·exact hb e'
  ·have e3:=mem_singleton.mp hmem
   exact absurd (lt_size e) (by rw [e3];exact Nat.not_lt.mpr sw.new)
 have hS₁:=sw.old _ _ hl
 refine wpAny_bind (wpAny_holding (zns (zO.typ (s:={ s with heap:=h2,drawn:=d }) (hS.at λo e=>sw.old _ _ e)) ?_))
 refine wpAny_ite_split (λ_=>?_) (λ_=>wpAny_pure ⟨plainId_quiet PySem.F.plain_extend_loop _,key _ c₀ _ st (λb o _ e=>sw.old _ _ e) hS₁⟩)
 refine wpAny_bind (wpAny_rule ?_)
 refine wpAny_bind ?_
 show wpAny _ _ (updateSeq S (·.push .none)>>=λ_=>updateSeq S (·.pop)) _ _ _
 refine wpAny_bind (wpAny_updateSeq hS₁ rfl ?_)
 have hS₂:=get?_update_self (mapSeq (·.push Value.none)) hS₁ rfl
 refine wpAny_updateSeq (hz:=by seq_fits) hS₂ rfl ?_
 have hS₃:=get?_update_self (mapSeq (·.pop)) hS₂ rfl
 refine wpAny_pure ⟨plainId_quiet PySem.F.plain_extend_loop _,key _ _ _ ?_ (λb o hb e=>?_) hS₃⟩
 ·refine W.frame 0 _ _ st λb hb o e=>?_
  have hbS:b≠S:=λh=>hSf (h ▸ hb)
  exact (get?_update_other _ _ (Ne.symm hbS)).trans ((get?_update_other _ _ (Ne.symm hbS)).trans e)
 ·exact (get?_update_other _ _ (Ne.symm hb)).trans ((get?_update_other _ _ (Ne.symm hb)).trans (sw.old _ _ e))
theorem zlf{R:List Value->Shared->Prop}{a:Addr}{ns:List Int}(hh:A.handled=none)(hS:zO prog w s.heap a ns)
  (h:∀(h':Heap)(tk:Nat) d (acc:List Value) ms,(∀b o,s.heap.get? b=some o->h'.get? b=some o)->IntsAre acc ms->ms.Perm ns->R acc { s with heap:=h',toks:=tk,drawn:=d }) :
  wpAny (model prog w) A (collect (.ref a)) R E s:=by
 have hlt:a<s.heap.objs.size:=let ⟨o,e,_⟩:=hS.obj;lt_size e
 unfold collect
 refine wpAny_bind (wpAny_runValue (codeAny_builtin entry_proto_collect' ?_))
 rw [Around.under_plainId PySem.F.plain_proto_collect _]
 show wpAny _ A.in1 (newList []>>=λl=>again (.builtin "list.__iadd__" ⟨[l,.ref a],[]⟩)) _ _ s
 refine wpAny_bind (wpAny_newObj_type ?_)
 refine wpAny_pure ⟨plainId_quiet PySem.F.plain_list_iadd _,codeAny_builtin entry_list_iadd' ?_⟩
 rw [Around.under_plainId PySem.F.plain_list_iadd _]
 have hS₁:(s.heap.push { cls:=.type "list",data:=.seq ([]:List Value).toArray }).get? s.heap.objs.size=some { cls:=.type "list",data:=.seq #[] }:=get?_push_size _ rfl
 show wpAny _ A.in1 (Builtin.List.listExtendWith (.ref s.heap.objs.size) (.ref a) (.ref s.heap.objs.size)) _ _ _
 have key:=zsw (A:=A) (s:={ s with heap:=s.heap.push { cls:=.type "list",data:=.seq ([]:List Value).toArray } })
  (R:=λ(q:Result)(s':Shared)=>∃(h':Heap)(tk:Nat)(d:Drawn)(acc':Array Value)(c':Nat)(ms:List Int),q = .ok (.ret (.ref s.heap.objs.size))/\s'={ s with heap:=h',toks:=tk,drawn:=d } /\
   (∀b o,s.heap.get? b=some o->h'.get? b=some o)/\h'.get? s.heap.objs.size=some { cls:=.type "list",dict:=none,data:=.seq acc' c',slots:=#[] }/\IntsAre acc'.toList ms/\ms.Perm ns)
  hh (hS.at λo e=>get?_push_of_some _ e) (ne_of_gt hlt) (.ref s.heap.objs.size) 0 hS₁
  (λh' tk d acc' c' ms hk hS' hacc hp=>⟨h',tk,d,acc',c',ms,rfl,rfl,λb o e=>hk b o (ne_of_lt (lt_size e)) (get?_push_of_some _ e),hS',hacc,hp⟩)
 refine wpAny_mono key (λfin s' x=>?_) λe s' x=>?_
 ·cases fin with
  | done f =>
   obtain ⟨h',tk,d,acc',c',ms,e,rfl,hk,hS',hacc,hp⟩:=x
   cases e
   show wpAny _ A (load s.heap.objs.size>>=_) _ _ _
   refine wpAny_bind (wpAny_load hS' ?_)
   exact wpAny_pure (h h' tk d _ ms hk hacc hp)
  | again c₁ =>
   refine ⟨x.1,codeAny_mono x.2 λq s₂ y=>?_⟩
   obtain ⟨h',tk,d,acc',c',ms,rfl,rfl,hk,hS',hacc,hp⟩:=y
   show wpAny _ A (load s.heap.objs.size>>=_) _ _ _
   refine wpAny_bind (wpAny_load hS' ?_)
   exact wpAny_pure (h h' tk d _ ms hk hacc hp)
 ·obtain ⟨_,_,_,_,_,_,e',_⟩:=x
  cases e'
end
end L2
namespace L2
open PySem PySem.Spec PyProof.Rows PySem.W PySem.Calls
def zjM(P:Program)(w:World):List V->Hp->VK->Prop:=λxs H Q=>uR1 xs λa=>∃ms:List Int,H a=some (zbx P w a ms)/\ms.length<64/\∀p (ns:List Int) H2,New H p (.lst (ns.map V.int)) H2->ns.Perm ms->ns.Pairwise (·<=·)->Q (.ref p) H2
theorem zl4{P:Program}{w:World}{a:Addr}{H:Hp}{Q:VK}:zjM P w [.ref a] H Q = ∃ms:List Int,H a=some (zbx P w a ms)/\ms.length<64/\∀p (ns:List Int) H2,New H p (.lst (ns.map V.int)) H2->ns.Perm ms->ns.Pairwise (·<=·)->Q (.ref p) H2:=za8
theorem zqj{vs:List Value}{ns:List Int}(h:IntsAre vs ns):vs.length=ns.length:=by
 induction h with
 | nil=>rfl
 | cons _ _ _ ih=>simp [ih]
theorem Inv.drew{X:Cx}{Ga:List (Addr×Obj)}{σ:St}{H:Hp}{s:Shared}{d:Drawn}(I:Inv X Ga σ H s):Inv X Ga σ H { s with drawn:=d }:=⟨I.ok,I.os,I.bare,I.base,I.loc,I.cell,I.free,I.freeC,I.pin,I.hok,I.len,I.hdk⟩
section
variable {X:Cx}
theorem zqT(hc:X.calm=true):zL X (.builtin "sorted") (zjM X.prog X.w):=by
 intro Ga s σ H xs us Q I r h
 obtain ⟨a,rfl,ms,hq,h64,q⟩:=h
 obtain ⟨u,rfl,ru⟩:=zaR r
 cases ru
 have hS:=zpj I.hok hq
 refine call_function_entry kind_sorted plain_sorted entry_sorted (args_sorted1 _) ?_
 unfold Builtin.«sorted»
 refine wpAny_bind (m:=checkCount "sorted" 1 1 _) (wpAny_pure (wpAny_bind (zlf (A:=X.A.in1) (I.ok.hd hc) hS λh' tk d acc ns hk hacc pm=>?_)))
 have hl:acc.length=ms.length:=by rw [zqj hacc,pm.length_eq]
 have I1:Inv X Ga σ H { s with heap:=h',toks:=tk,drawn:=d }:=(I.kept (t':=tk) hk).drew
 refine wpAny_bind (wpAny_newList ?_ (by rw [hl,sizeLine_eq];omega))
 have hoL:(h'.push (seqObj "list" acc.toArray 0)).get? h'.objs.size=some (seqObj "list" acc.toArray 0):=get?_push_size _ rfl
 refine wpAny_bind (wpAny_holding (wpAny_call_entry slot_list_sort ⟨_,hoL,rfl⟩ entry_list_sort (list_sort_tree hoL hacc (by rw [hl];exact h64) λout ns' b1 b2 b3=>⟨_,rfl,?_⟩) (args_list_sort _)))
 obtain ⟨c,hcz⟩:=sortedHeap_at (vs:=acc) (out:=out) hoL
 refine wpAny_pure ⟨_,rfl,.ref h'.objs.size,upd H h'.objs.size (.lst (ns'.map V.int)),I1.laid (a:=h'.objs.size) (t':=tk) (λb o e=>?_) (le_refl _) ⟨?_,out.toList,c,ze9 b1,by rw [toArray_toList];exact hcz⟩,rfl,q _ ns' _ (.mk' (I1.hok.fresh (le_refl _))) (b2.trans pm) b3⟩
 ·have hb:b<h'.objs.size:=lt_size e
  rw [sortedHeap_old (ne_of_lt hb) (by rw [size_push'];exact lt_succ_of_lt hb)]
  exact get?_push_of_some _ e
 ·have:=b2.length_eq
  rw [length_map,this,pm.length_eq,sizeLine_eq]
  omega
end
theorem zp9{c c1 c2:Bool}{X:Cx}{elt t0 i0 t1 i1 t2 i2:Expr}{sc:Scope}{pos:Pos}{N':List Str}{ix:List (Option Nat)}{wi w1 w2:TI}{g g1 g2:TG}{te:TE}(hc:c=true->X.calm=true)(hc1:c1=true->X.calm=true)(hc2:c2=true->X.calm=true)(L:zaj X sc N' ix)(hi:W (PIc c X t0 i0 wi))
  (hg:∀Ga C fp s H,W (PG (zo X sc N' Ga C fp s H) t0 g)) (hi1:∀Ga C fp s H,W (PIc c1 (zo X sc N' Ga C fp s H) t1 i1 w1)) (hg1:∀Ga C fp s H,W (PG (zo X sc N' Ga C fp s H) t1 g1))
  (hi2:∀Ga C fp s H,W (PIc c2 (zo X sc N' Ga C fp s H) t2 i2 w2)) (hg2:∀Ga C fp s H,W (PG (zo X sc N' Ga C fp s H) t2 g2)) (he:∀Ga C fp s H,W (PE (zo X sc N' Ga C fp s H) elt te))
  (hs:∀x,foldedSetIterable i0 X.env x=pure x:=by intro _;rfl) (hs1:∀env x,foldedSetIterable i1 env x=pure x:=by intro _ _;rfl) (hs2:∀env x,foldedSetIterable i2 env x=pure x:=by intro _ _;rfl) :
  W (PE X (.SetComp elt [⟨t0,i0,[],0⟩,⟨t1,i1,[],0⟩,⟨t2,i2,[],0⟩] sc pos) (tSC X.prog X.w ix wi g (zel (zbX w1 g1 (zbX w2 g2 (zcd te)))))) :=
 ⟨zqa hc hc1 hc2 L hi.h (λa b c d e=>(hg a b c d e).h) (λa b c d e=>(hi1 a b c d e).h) (λa b c d e=>(hg1 a b c d e).h) (λa b c d e=>(hi2 a b c d e).h) (λa b c d e=>(hg2 a b c d e).h) (λa b c d e=>(he a b c d e).h) hs hs1 hs2⟩
section
variable {prog:Program}{w:World}{A:Around}{E:Value->Shared->Prop}{s:Shared}
def uniq(ns:List Int):List Int:=ns.foldl zx []
end
theorem zov{ms:List Int}{n k:Int}:k∈zx ms n↔k∈ms\/k=n:=by
 unfold zx
 split
 ·rename_i h
  constructor
  ·exact .inl
  ·rintro (h'|rfl)
   ·exact h'
   ·exact h
 ·simp
theorem zra{ms:List Int}{n:Int}(h:ms.Nodup):(zx ms n).Nodup:=by
 unfold zx
 split
 ·exact h
 ·rename_i hn
  rw [List.nodup_append]
  refine ⟨h,by simp,λa ha b hb=>?_⟩
  have e:b=n:=by simpa using hb
  subst e
  exact λz=>hn (z ▸ ha)
theorem zil{k:Int}:∀{ns ms:List Int},k∈ns.foldl zx ms↔k∈ms\/k∈ns
 | [],ms=>by simp
 | n::ns,ms=>by
  show k∈ns.foldl zx (zx ms n)↔_
  rw [zil,zov,mem_cons,or_assoc]
theorem zjH:∀{ns ms:List Int},ms.Nodup->(ns.foldl zx ms).Nodup
 | [],ms,h=>h
 | n::ns,ms,h=>zjH (ns:=ns) (zra h)
theorem zb4{k:Int}{ns:List Int}:k∈uniq ns↔k∈ns:=by
 unfold uniq
 rw [zil]
 simp
theorem zdm{ns:List Int}:(uniq ns).Nodup:=zjH List.nodup_nil
theorem zjA{xs ys:List Int}(hx:xs.Pairwise (·<=·))(hy:ys.Pairwise (·<=·))(nx:xs.Nodup)(ny:ys.Nodup)(h:∀k,k∈xs↔k∈ys):xs=ys:=by
 have p:xs.Perm ys:=(List.perm_ext_iff_of_nodup nx ny).mpr h
 exact p.eq_of_pairwise (λa b _ _ h1 h2=>Int.le_antisymm h1 h2) hx hy
def zlO(P:Program)(w:World):List V->Hp->VK->Prop:=λxs H Q=>uR1 xs λa=>∃ns:List Int,Rd H a (.lst (ns.map V.int))/\ns.length<3000/\∀p H2,New H p (zbx P w p (uniq ns)) H2->Q (.ref p) H2
theorem zsW{P:Program}{w:World}{a:Addr}{H:Hp}{Q:VK}:zlO P w [.ref a] H Q = ∃ns:List Int,Rd H a (.lst (ns.map V.int))/\ns.length<3000/\∀p H2,New H p (zbx P w p (uniq ns)) H2->Q (.ref p) H2:=za8
section
variable {X:Cx}
end
end L2
namespace L2
open PySem PySem.Spec PyProof.Rows
def uN(v:V)(k:Int->Prop):Prop:=match v with | .int n=>k n|_=>False
theorem ztd{n:Int}{k:Int->Prop}:uN (.int n) k=k n:=rfl
def za1(J:It)(g:TG)(tb:TB)(σ:St)(ns:List Int)(H:Hp)(Q:St->List Int->Hp->Prop):Prop:=∃W:Nat->Nat->St->List Int->Hp->Prop,(∃m,W 0 m σ ns H)/\zeh W J g tb Q
section
variable {P:Program}{w:World}{K:PySem.W.Frag}{ix:List (Option Nat)}{wi:TI}{g:TG}{tb:TB}{te:TE}{σ:St}{ns:List Int}{H:Hp}{Q:St->List Int->Hp->Prop}{R:VK}
theorem znb:tSC P w ix wi g tb σ H R=wi σ H λJ H1=>za1 J g tb (zaG ix σ) [] H1 λ_ ns H2=>∀D,H2 D=none->D≠sysModules->R (.ref D) (upd H2 D (zbx P w D ns)):=rfl
theorem zrz:zbX wi g tb σ ns H Q=wi σ H λJ H1=>za1 J g tb σ ns H1 Q:=rfl
theorem zpN:zel tb σ ns H Q=(tb σ ns H Q\/∃a kvs,H a=some (.dK kvs)/\∀o,tb σ ns (upd H a (.frz o (.dK kvs))) λσ' ns' H'=>zbS a kvs H' (Q σ' ns')):=rfl
theorem zk3:zcd te σ ns H Q=te σ H λv H1=>uN v λn=>ns.length<3000/\Q σ (zx ns n) H1:=by
 unfold zcd
 congr 1
 funext v H1
 apply propext;constructor
 ·rintro ⟨n,rfl,h⟩;exact h
 ·intro h
  cases v with
  | int n=>exact ⟨n,rfl,h⟩
  | _=>exact h.elim
theorem za1.lst{a:Addr}{xs:List V}(Pv:Nat->St->List Int->Hp->Prop)(ha:∀i τ ns H,Pv i τ ns H->SqL K H a xs)(h0:Pv 0 σ ns H)
  (hs:∀(N:St->List Int->Hp->Prop) i x τ ns H,xs[i]?=some x->Pv i τ ns H->(∀τ ns H,Pv (i+1) τ ns H->N τ ns H)->g x τ H λτ1 H4=>tb τ1 ns H4 N) (hd:∀τ ns H,Pv xs.length τ ns H->Q τ ns H):za1 (Itl K a) g tb σ ns H Q:=by
 refine ⟨λi m τ ns H=>m=xs.length-i/\i<=xs.length/\Pv i τ ns H,⟨xs.length,by simp,zero_le _,h0⟩,?_⟩
 rintro i m τ ys H2 ⟨rfl,hi,p⟩
 have q:=ha i τ ys H2 p
 by_cases hlt:i<xs.length
 ·refine .inr ⟨⟨xs,xs[i],q,by simp [hlt]⟩,λx H' y=>?_⟩
  obtain ⟨e,y⟩:=y
  subst e
  exact hs (λτ1 ys H=>∃m',m'<xs.length-i/\m'=xs.length-(i+1)/\i+1<=xs.length/\Pv (i+1) τ1 ys H) i x τ ys _ (y xs q) p λτ1 zs H q=>⟨xs.length-(i+1),by omega,rfl,hlt,q⟩
 ·have e:i=xs.length:=by omega
  subst e
  exact .inl ⟨⟨xs,q,le_refl _⟩,hd τ ys H2 p⟩
theorem za1.tup{a:Addr}{xs:List V}(Pv:Nat->St->List Int->Hp->Prop)(ha:∀i τ ns H,Pv i τ ns H->SqT K H a xs)(h0:Pv 0 σ ns H)
  (hs:∀(N:St->List Int->Hp->Prop) i x τ ns H,xs[i]?=some x->Pv i τ ns H->(∀τ ns H,Pv (i+1) τ ns H->N τ ns H)->g x τ H λτ1 H4=>tb τ1 ns H4 N) (hd:∀τ ns H,Pv xs.length τ ns H->Q τ ns H):za1 (Itt K a) g tb σ ns H Q:=by
 refine ⟨λi m τ ns H=>m=xs.length-i/\i<=xs.length/\Pv i τ ns H,⟨xs.length,by simp,zero_le _,h0⟩,?_⟩
 rintro i m τ ys H2 ⟨rfl,hi,p⟩
 have q:=ha i τ ys H2 p
 by_cases hlt:i<xs.length
 ·refine .inr ⟨⟨xs,xs[i],q,by simp [hlt]⟩,λx H' y=>?_⟩
  obtain ⟨e,y⟩:=y
  subst e
  exact hs (λτ1 ys H=>∃m',m'<xs.length-i/\m'=xs.length-(i+1)/\i+1<=xs.length/\Pv (i+1) τ1 ys H) i x τ ys _ (y xs q) p λτ1 zs H q=>⟨xs.length-(i+1),by omega,rfl,hlt,q⟩
 ·have e:i=xs.length:=by omega
  subst e
  exact .inl ⟨⟨xs,q,le_refl _⟩,hd τ ys H2 p⟩
theorem za1.vals{a:Addr}{o:Obj}{kvs:List (Key×V)}(Pv:Nat->St->List Int->Hp->Prop)(ha:∀i τ ns H,Pv i τ ns H->H a=some (.frz o (.dK kvs)))(h0:Pv 0 σ ns H)
  (hs:∀(N:St->List Int->Hp->Prop) i p τ ns H,kvs[i]?=some p->Pv i τ ns H->(∀τ ns H,Pv (i+1) τ ns H->N τ ns H)->g p.2 τ H λτ1 H4=>tb τ1 ns H4 N) (hd:∀τ ns H,Pv kvs.length τ ns H->Q τ ns H):za1 (Itw a o kvs) g tb σ ns H Q:=by
 refine ⟨λi m τ ns H=>m=kvs.length-i/\i<=kvs.length/\Pv i τ ns H,⟨kvs.length,by simp,zero_le _,h0⟩,?_⟩
 rintro i m τ ys H2 ⟨rfl,hi,p⟩
 have q:=ha i τ ys H2 p
 by_cases hlt:i<kvs.length
 ·refine .inr ⟨⟨q,hlt⟩,λx H' y=>?_⟩
  obtain ⟨e,z,hz,ex⟩:=y
  subst e ex
  exact hs (λτ1 ys H=>∃m',m'<kvs.length-i/\m'=kvs.length-(i+1)/\i+1<=kvs.length/\Pv (i+1) τ1 ys H) i z τ ys _ hz p λτ1 zs H q=>⟨kvs.length-(i+1),by omega,rfl,hlt,q⟩
 ·have e:i=kvs.length:=by omega
  subst e
  exact .inl ⟨⟨q,le_refl _⟩,hd τ ys H2 p⟩
theorem zak.vals{a:Addr}{o:Obj}{kvs:List (Key×V)}{τ:St}{tt:TT}(Pv:Nat->St->List V->Hp->Prop)(hz:∀i τ ys H,Pv i τ ys H->ys.length<sizeLine)(ha:∀i τ ys H,Pv i τ ys H->H a=some (.frz o (.dK kvs)))(h0:Pv 0 τ [] H)
  (hs:∀(N:St->List V->Hp->Prop) i p τ ys H,kvs[i]?=some p->Pv i τ ys H->(∀τ ys H,Pv (i+1) τ ys H->N τ ys H)->g p.2 τ H λτ1 H4=>tt τ1 H4 λok H5=>zbO N ys τ1 te ok H5) (hd:∀τ ys H,Pv kvs.length τ ys H->∀D H',New H D (.lst ys) H'->R (.ref D) H'):zak (Itw a o kvs) g tt te τ H R:=by
 refine ⟨λi m τ ys H=>m=kvs.length-i/\i<=kvs.length/\Pv i τ ys H,⟨kvs.length,by simp,zero_le _,h0⟩,?_⟩
 rintro i m τ ys H2 ⟨rfl,hi,p⟩
 refine ⟨hz i τ ys H2 p,?_⟩
 have q:=ha i τ ys H2 p
 by_cases hlt:i<kvs.length
 ·refine .inr ⟨⟨q,hlt⟩,λx H' y=>?_⟩
  obtain ⟨e,z,hz,ex⟩:=y
  subst e ex
  exact hs (λτ1 ys H=>∃m',m'<kvs.length-i/\m'=kvs.length-(i+1)/\i+1<=kvs.length/\Pv (i+1) τ1 ys H) i z τ ys _ hz p λτ1 zs H q=>⟨kvs.length-(i+1),by omega,rfl,hlt,q⟩
 ·have e:i=kvs.length:=by omega
  subst e
  exact .inl ⟨⟨q,le_refl _⟩,λD hD _=>hd τ ys H2 p D _ (.mk' hD)⟩
theorem ztH{X:Cx}{sc:Scope}{N':List Str}{Ga:List (Addr×Obj)}{C:Addr}{fp:List Addr}{s:Shared}{H:Hp}{tg l:Expr}{tl:TE}(hl:W (PE (zo X sc N' Ga C fp s H) l tl)):W (PIc true (zo X sc N' Ga C fp s H) tg l (zeg X.K tl)):=⟨zt0 (hl:=hl.h)⟩
end
section
variable {Y:Cx}{sc:Scope}{N':List Str}{Ga:List (Addr×Obj)}{D:Addr}{fp:List Addr}{s:Shared}{H:Hp}
def gSq(K:PySem.W.Frag)(n:Nat)(t:TGs):TG:=λv σ H Q=>∃a xs,v = .ref a/\(SqT K H a xs\/SqL K H a xs)/\xs.length=n/\t xs σ H Q
theorem znn{pos:Pos}{es:List Expr}{k:Nat}{t:TGs}{n:Nat}(hc:Y.calm=true)(h:W (PGs (zo Y sc N' Ga D fp s H) es t))(hl:(assignEach es (zo Y sc N' Ga D fp s H).env).length=n:=by rfl)(hst:(assignEach es (zo Y sc N' Ga D fp s H).env).findIdx? (·.1)=none:=by rfl):W (PG (zo Y sc N' Ga D fp s H) (.Tuple es k pos) (gSq Y.K n t)):=⟨λpins' s' σ H' v u Q I r q=>by
 obtain ⟨a,xs,rfl,h1|h1,hn,q⟩:=q
 ·exact zmM h.h hl hst pins' s' σ H' _ u Q I r ⟨a,xs,rfl,h1,hn,q⟩
 ·exact znG (X:=zo Y sc N' Ga D fp s H) hc h.h hl hst pins' s' σ H' _ u Q I r ⟨a,xs,rfl,h1,hn,q⟩⟩
end
section
variable {K:PySem.W.Frag}{g:TG}{tt:TT}{tk tv:TE}{H:Hp}{Q:VK}
theorem zci.tup{a:Addr}{xs:List V}{τ:St}(Pv:Nat->St->List (Key×V)->Hp->Prop)(hz:∀i τ ys H,Pv i τ ys H->ys.length<sizeLine)(ha:∀i τ ys H,Pv i τ ys H->SqT K H a xs)(h0:Pv 0 τ [] H)
  (hs:∀(N:St->List (Key×V)->Hp->Prop) i x τ ys H,xs[i]?=some x->Pv i τ ys H->(∀τ ys H,Pv (i+1) τ ys H->N τ ys H)->g x τ H λτ1 H4=>tt τ1 H4 λok H5=>zd7 N ys τ1 tk tv ok H5) (hd:∀τ ys H,Pv xs.length τ ys H->∀D H',New H D (.dK ys) H'->Q (.ref D) H'):zci (Itt K a) g tt tk tv τ H Q:=by
 refine ⟨λi m τ ys H=>m=xs.length-i/\i<=xs.length/\Pv i τ ys H,⟨xs.length,by simp,zero_le _,h0⟩,?_⟩
 rintro i m τ ys H2 ⟨rfl,hi,p⟩
 refine ⟨hz i τ ys H2 p,?_⟩
 have q:=ha i τ ys H2 p
 by_cases hlt:i<xs.length
 ·refine .inr ⟨⟨xs,xs[i],q,by simp [hlt]⟩,λx H' y=>?_⟩
  obtain ⟨e,y⟩:=y
  subst e
  exact hs (λτ1 ys H=>∃m',m'<xs.length-i/\m'=xs.length-(i+1)/\i+1<=xs.length/\Pv (i+1) τ1 ys H) i x τ ys _ (y xs q) p λτ1 zs H q=>⟨xs.length-(i+1),by omega,rfl,hlt,q⟩
 ·have e:i=xs.length:=by omega
  subst e
  exact .inl ⟨⟨xs,q,le_refl _⟩,λD hD _=>hd τ ys H2 p D _ (.mk' hD)⟩
end
section
variable {X:Cx}
def zgA(td ty:TE):TE:=λσ H Q=>td σ H λx H1=>uR x λa=>(∃kvs,Rd H1 a (.dK kvs))/\ty σ H1 λy H2=>uK y λk=>∃kvs,Rd H2 a (.dK kvs)/\Q ((zH kvs k).getD .non) H2
theorem zo9{td ty:TE}{σ:St}{H:Hp}{Q:VK}:zgA td ty σ H Q=td σ H λx H1=>uR x λa=>(∃kvs,Rd H1 a (.dK kvs))/\ty σ H1 λy H2=>uK y λk=>∃kvs,Rd H2 a (.dK kvs)/\Q ((zH kvs k).getD .non) H2:=rfl
theorem ztf{o e:Expr}{td ty:TE}{apos cpos:Pos}(hu:X.A.units+1<cLine)(ho:PE X o td)(he:PE X e ty)(m:M1 X o "get" apos e cpos:=by exact ⟨rfl,rfl,rfl,rfl⟩):PE X (.Call (.Attribute o "get" apos) [e] [] cpos) (zgA td ty):=by
 intro Ga s σ H Q I h
 refine wpAny_Call_method m.base m.few m.line plainAttrs_dict slot_dict_get PySem.F.type_dict_get (thn (ho Ga s σ H _ I h) λu s1 ⟨x,H1,I1,rx,a,ex,d,q1⟩=>?_)
 subst ex
 obtain rfl:u=Value.ref a:=rx
 obtain ⟨t1,t2,_⟩:=zdS I1 (.inl d)
 refine ⟨t1,t2,?_⟩
 rw [m.trees]
 refine Calls.callWith_builtin rfl (Calls.evalArgs_plain (Calls.spliced_cons (thn (he Ga s1 σ H1 _ I1 q1) λiv s2 ⟨y,H2,I2,ry,k,ey,kvs,g,q2⟩=>Calls.spliced_nil ?_)))
 subst ey
 exact zqB hu I2 (.inl ⟨kvs,k,g,rfl,rfl⟩) ry λw' s4 I4 rw'=>⟨_,H2,I4,rw',q2⟩
theorem zuD{o e:Expr}{td ty:TE}{apos cpos:Pos}(hu:X.A.units+1<cLine)(ho:W (PE X o td))(he:W (PE X e ty))(m:M1 X o "get" apos e cpos:=by exact ⟨rfl,rfl,rfl,rfl⟩):W (PE X (.Call (.Attribute o "get" apos) [e] [] cpos) (zgA td ty)):=⟨ztf (hu:=hu) (ho:=ho.h) (he:=he.h) (m:=m)⟩
def zko:R2:=λx y H Q=>∃a b kvs,x = .ref a/\y = .ref b/\Rd H a (.dK kvs)/\H b=some (.dK [])/\Q (.bl (!decide (kvs=[]))) H
theorem ztU{a b:Addr}{H:Hp}{Q:VK}:zko (.ref a) (.ref b) H Q = ∃kvs,Rd H a (.dK kvs)/\H b=some (.dK [])/\Q (.bl (!decide (kvs=[]))) H:=by
 apply propext;constructor
 ·rintro ⟨a',b',kvs,e1,e2,h⟩;cases e1;cases e2;exact ⟨kvs,h⟩
 ·rintro ⟨kvs,h⟩;exact ⟨a,b,kvs,rfl,rfl,h⟩
theorem zje(hu:X.A.units<cLine):OpR X (compareOp .NotEq) zko:=by
 intro Ga s σ H x y v u Q I rx ry h
 obtain ⟨a,b,kvs,rfl,rfl,ha,hb,q⟩:=h
 cases rx
 cases ry
 obtain ⟨z,hd,vs,rel,dd⟩:=zaE I.hok ha
 obtain ⟨z2,hd2,vs2,rel2,dd2⟩:=zaE I.hok (.inl hb)
 have l1:=rel.length
 have l2:=rel2.length
 have e2:vs2=[]:=length_eq_zero_iff.mp (by rw [<- l2];rfl)
 subst e2
 refine PySem.W.keq_ne (r:=true) hd hd2 dd dd2 hu (λhl=>?_) ⟨.bl (!decide (kvs=[])),H,I,?_,q⟩
 ·have e1:vs=[]:=length_eq_zero_iff.mp hl
  subst e1
  exact .nil
 ·show Value.bool _=Value.bool _
  congr 1
  rw [Bool.and_true]
  congr 1
  by_cases e:kvs=[]
  ·subst e
   rw [<- l1];rfl
  ·rw [decide_eq_false e]
   have : ¬ vs.length=0:=λh=>e (length_eq_zero_iff.mp (by rw [l1];exact h))
   simpa using this
def zhZ:List V->Hp->VK->Prop:=λxs H Q=>∃j:Int,xs=[.int j]/\∀p H2,New H p (.rng 0 j) H2->Q (.ref p) H2
theorem zn1{j:Int}{H:Hp}{Q:VK}:zhZ [.int j] H Q = ∀p H2,New H p (.rng 0 j) H2->Q (.ref p) H2:=by
 apply propext;constructor
 ·rintro ⟨j',e,h⟩;cases e;exact h
 ·exact λh=>⟨j,rfl,h⟩
theorem zqQ:zL X (.type "range") zhZ:=by
 intro Ga s σ H xs us Q I r h
 obtain ⟨j,rfl,q⟩:=h
 obtain ⟨u,rfl,ru⟩:=zaR r
 obtain ⟨t,rfl⟩:=ru
 refine call_range_1 ?_
 exact ⟨.ref s.heap.objs.size,upd H s.heap.objs.size (.rng 0 j),I.laid (a:=s.heap.objs.size) (t':=s.toks+1+1) (λb o e=>get?_push_of_some _ e) (le_refl _) ⟨_,_,_,get?_push_size _ rfl⟩,rfl,q _ _ (.mk' (I.hok.fresh (le_refl _)))⟩
def zio:List V->Hp->VK->Prop:=λxs H Q=>uR1 xs λr=>∃n:Nat,H r=some (.rng 0 n)/\n<=1000000/\∀p H2,New H p (.lst ((List.range n).map λ(i:Nat)=>V.int i)) H2->Q (.ref p) H2
theorem zo3{r:Addr}{H:Hp}{Q:VK}:zio [.ref r] H Q = ∃n:Nat,H r=some (.rng 0 n)/\n<=1000000/\∀p H2,New H p (.lst ((List.range n).map λ(i:Nat)=>V.int i)) H2->Q (.ref p) H2:=za8
theorem zqz(hc:X.calm=true):zL X (.type "list") zio:=by
 intro Ga s σ H xs us Q I r h
 obtain ⟨a,rfl,n,ha,hn,q⟩:=h
 obtain ⟨u,rfl,ru⟩:=zaR r
 cases ru
 obtain ⟨t,u,v,e⟩:=I.hok a _ ha
 refine call_list_range (n:=n) (I.ok.hd hc) e ?_ ?_ (le_trans hn (by decide)) λh' tk acc' c' hk hS' hacc=>?_
 ·exact small_one (by omega) (by omega) (by omega) (by omega)
 ·rw [rangeSize_one]
  split<;>omega
 have hl:acc'.toList.length=n:=by rw [length_toList];exact hacc.1
 refine ⟨.ref s.heap.objs.size,upd H s.heap.objs.size (.lst ((List.range n).map λ(i:Nat)=>V.int i)),I.laid (a:=s.heap.objs.size) (t':=tk) hk (le_refl _) ⟨by rw [length_map,length_range];exact le_trans hn (by decide),acc'.toList,c',zhb ?_ λj u hu=>?_,by rw [toArray_toList];exact hS'⟩,rfl,q _ _ (.mk' (I.hok.fresh (le_refl _)))⟩
 ·rw [length_map,length_range,hl]
 ·obtain ⟨t',rfl⟩:=hacc.2 j u (by rw [<- getElem?_toList];exact hu)
  have hj:j<n:=by rw [<- hl];exact (List.getElem?_eq_some_iff.mp hu).1
  refine ⟨V.int j,by rw [getElem?_map,List.getElem?_range hj];rfl,t',?_⟩
  congr 1
  omega
def EqR(H:Hp)(x y:V)(b:Bool):Prop:=∃p q zs ws,x = .ref p/\y = .ref q/\H p=some (.tup zs)/\H q=some (.tup ws)/\zs.all zF=true/\ws.all zF=true/\b=eqL zs ws
theorem EqR.at{Ga:List (Addr×Obj)}{σ:St}{H:Hp}{s:Shared}{x y:V}{u v:Value}{b:Bool}{A:Around}(I:Inv X Ga σ H s)(h:EqR H x y b)(rx:zm x u)(ry:zm y v)(hu:A.units<cLine):SeqAt.EqAt A s u v b:=by
 obtain ⟨p,q,xs,ys,rfl,rfl,ha,hb,fx,fy,rfl⟩:=h
 cases rx
 cases ry
 by_cases hpq:p=q
 ·subst hpq
  rw [ha] at hb
  cases hb
  rw [zeo fx λx hx b e=>by have:=all_eq_true.mp fx x hx;rw [e] at this;cases this]
  exact SeqAt.EqAt.same _
 obtain ⟨is,r1,p1,_⟩:=I.tuple (SqT.of (K:=X.K) ha)
 obtain ⟨js,r2,p2,_⟩:=I.tuple (SqT.of (K:=X.K) hb)
 have l1:=r1.length
 have l2:=r2.length
 have z:=SeqAt.RcAt.tuples (A:=A) (e:=λj=>eqV (xs.getD j .non) (ys.getD j .non)) p1 p2 hu λj h1 h2=>by
  simp only [size_toArray] at h1 h2
  have e1:xs[j]?=some (xs.getD j .non):=by rw [getD_eq_getElem?_getD,List.getElem?_eq_getElem (by omega)];rfl
  have e2:ys[j]?=some (ys.getD j .non):=by rw [getD_eq_getElem?_getD,List.getElem?_eq_getElem (by omega)];rfl
  obtain ⟨u,g1,q1⟩:=r1.get e1
  obtain ⟨v,g2,q2⟩:=r2.get e2
  rw [List.getElem?_eq_getElem h1] at g1
  rw [List.getElem?_eq_getElem h2] at g2
  have w1:is.toArray[j]=u:=by simpa using Option.some.inj g1
  have w2:js.toArray[j]=v:=by simpa using Option.some.inj g2
  rw [w1,w2]
  exact zeY q1 q2 (all_eq_true.mp fx _ (mem_of_getElem? e1)) (all_eq_true.mp fy _ (mem_of_getElem? e2))
 have e:eqL xs ys=((List.range (min is.toArray.size js.toArray.size)).all (λj=>eqV (xs.getD j .non) (ys.getD j .non))&&is.toArray.size==js.toArray.size):=by
  unfold eqL
  simp only [size_toArray]
  rw [l1,l2]
  by_cases hz:is.length=js.length
  ·rw [hz];simp
  ·have z:(is.length==js.length)=false:=by simpa using hz
   rw [z,Bool.false_and,Bool.and_false]
 rw [e]
 exact .of_refs hpq z
def zgo(neg:Bool):R2:=λx y H Q=>∃a b xs ys,x = .ref a/\y = .ref b/\H a=some (.lst xs)/\H b=some (.lst ys)/\((xs.length≠ys.length/\Q (.bl neg) H)\/(xs.length=ys.length/\∃e:Nat->Bool,(∀j p q,xs[j]?=some p->ys[j]?=some q->EqR H p q (e j))/\Q (.bl (if neg then !(List.range xs.length).all e else (List.range xs.length).all e)) H))
theorem zuw{neg:Bool}{a b:Addr}{H:Hp}{Q:VK}:zgo neg (.ref a) (.ref b) H Q = ∃xs ys,H a=some (.lst xs)/\H b=some (.lst ys)/\((xs.length≠ys.length/\Q (.bl neg) H)\/(xs.length=ys.length/\∃e:Nat->Bool,(∀j p q,xs[j]?=some p->ys[j]?=some q->EqR H p q (e j))/\Q (.bl (if neg then !(List.range xs.length).all e else (List.range xs.length).all e)) H)):=by
 apply propext;constructor
 ·rintro ⟨a',b',xs,ys,e1,e2,h⟩;cases e1;cases e2;exact ⟨xs,ys,h⟩
 ·rintro ⟨xs,ys,h⟩;exact ⟨a,b,xs,ys,rfl,rfl,h⟩
theorem zii{Ga:List (Addr×Obj)}{σ:St}{H:Hp}{s:Shared}{xs ys:List V}{is js:List Value}{e:Nat->Bool}{A:Around}(I:Inv X Ga σ H s)(r1:zi xs is)(r2:zi ys js)(hu:A.units<cLine)(h:∀j p q,xs[j]?=some p->ys[j]?=some q->EqR H p q (e j))(j:Nat)(h1:j<is.toArray.size)(h2:j<js.toArray.size):SeqAt.EqAt A s is.toArray[j] js.toArray[j] (e j):=by
 have l1:=r1.length
 have l2:=r2.length
 simp only [size_toArray] at h1 h2
 have e1:xs[j]?=some (xs[j]'(by omega)):=List.getElem?_eq_getElem _
 have e2:ys[j]?=some (ys[j]'(by omega)):=List.getElem?_eq_getElem _
 obtain ⟨u,g1,q1⟩:=r1.get e1
 obtain ⟨v,g2,q2⟩:=r2.get e2
 rw [List.getElem?_eq_getElem h1] at g1
 rw [List.getElem?_eq_getElem h2] at g2
 have w1:is.toArray[j]=u:=by simpa using Option.some.inj g1
 have w2:js.toArray[j]=v:=by simpa using Option.some.inj g2
 rw [w1,w2]
 exact (h j _ _ e1 e2).at I q1 q2 hu
theorem zpQ(hu:X.A.units+1<cLine):OpR X (compareOp .Eq) (zgo false):=by
 intro Ga s σ H x y v u Q I rx ry h
 obtain ⟨a,b,xs,ys,rfl,rfl,ha,hb,h⟩:=h
 cases rx
 cases ry
 obtain ⟨is,r1,p1,_⟩:=I.list (SqL.of (K:=X.K) ha)
 obtain ⟨js,r2,p2,_⟩:=I.list (SqL.of (K:=X.K) hb)
 have l1:=r1.length
 have l2:=r2.length
 rcases h with ⟨ne,q⟩|⟨hl,e,he,q⟩
 ·exact SeqAt.eq_list_lengthsAt p1.isList p2.isList (by simp;omega) (lt_of_succ_lt hu) ⟨.bl false,H,I,rfl,q⟩
 ·refine SeqAt.eq_listAt (e:=e) p1.isList p2.isList (by simp;omega) (lt_of_succ_lt hu) (λj h1 h2=>zii I r1 r2 (Nat.lt_of_le_of_lt (by first|exact le_refl _|exact le_succ _|simp [Around.in1]) hu) he j h1 h2) ⟨.bl _,H,I,rfl,?_⟩
  simp only [size_toArray]
  rw [<- l1]
  exact q
theorem zpD(hu:X.A.units+1<cLine):OpR X (compareOp .NotEq) (zgo true):=by
 intro Ga s σ H x y v u Q I rx ry h
 obtain ⟨a,b,xs,ys,rfl,rfl,ha,hb,h⟩:=h
 cases rx
 cases ry
 obtain ⟨is,r1,p1,_⟩:=I.list (SqL.of (K:=X.K) ha)
 obtain ⟨js,r2,p2,_⟩:=I.list (SqL.of (K:=X.K) hb)
 have l1:=r1.length
 have l2:=r2.length
 rcases h with ⟨ne,q⟩|⟨hl,e,he,q⟩
 ·exact SeqAt.RcNeAt.lists_lengths p1.isList p2.isList (by simp;omega) (lt_of_succ_lt hu) _ _ _ _ ⟨.bl true,H,I,rfl,q⟩
 ·refine SeqAt.RcNeAt.lists (e:=e) p1.isList p2.isList (by simp;omega) (lt_of_succ_lt hu) (λj h1 h2=>zii I r1 r2 (Nat.lt_of_le_of_lt (by first|exact le_refl _|exact le_succ _|simp [Around.in1]) hu) he j h1 h2) _ _ _ _ ⟨.bl _,H,I,rfl,?_⟩
  simp only [size_toArray]
  rw [<- l1]
  exact q
end
end L2
namespace K31
open PySem PySem.Spec PyProof.Rows L2
open PySem.W (Frag OpenLaw WalkO findIn)
local macro_rules | `(tactic| simp_all only [$ls,*])=>`(tactic| try simp only [zbp,tC,zfK,tOr,zhc,tIf,zfX,zfI,zps,zr8,zgk,zgp,zon,zgg,zaM,zpC,zmc,zcj,zoo,ipI,tOp,tUn,zaX,zcV,zeA,zg7,zgS,zb9,zdW,ztN,ztb,tCB,zqf,zqo,znv,zho,zi8,zoG,zfb,zhp,zgD,zjt,zoS,zow,zq7,zmf,zpW,zpc,zdN,zrJ,zp0,ztK,zgd,znw,zs8,zpo,zpV,zq2,zso,zu1,zlY,zlS,zpL,znz,zn5,zjJ,zsd,ztx,zto,zkK,zg9,zoY,zrQ,zlB,zkE,zmC,zpE,zpf,ztO,zlu,zt1,zaG,Option.bind_some,Option.bind_none,Option.join_some,ze0,and_assoc,exists_and_left,exists_and_right,exists_eq_left',exists_eq_left,exists_eq,exists_eq',exists_eq_right,exists_eq_right',and_true,true_and,and_false,false_and,or_false,false_or,exists_false,exists_const,Option.some.injEq,V.int.injEq,V.str.injEq,V.ref.injEq,V.bl.injEq,V.ty.injEq,HO.lst.injEq,HO.tup.injEq,HO.ins.injEq,List.cons.injEq,reduceCtorEq,reduceIte,false_eq_true,List.getElem?_cons_zero,List.getElem?_cons_succ,List.set_cons_zero,List.set_cons_succ,List.nil_append,List.cons_append,append_nil,length_cons,length_nil,L2.start,map_cons,map_nil,replicate,Nat.reduceSub,Nat.reduceAdd,Bool.not_true,Bool.not_false,zof,zli,zrW,zri,zo1,zt4,zs3,zpl,ziE,zi6,tSl,zhk,zud,zqu,zhF,zgV,zrK,zfE,zqE,zeP,zo4,zlx,zpu,za8,zqx,zuK,zui,ztl,zsx,zpA,zpv,zve,znk,zp5,zuB,znV,ztp,zit,zkx,zl6,zm9,ztX,zoR,zsG,zoH,zpZ,zsJ,zuY,zmP,zro,zkU,zjU,zh3,zqv,zq1,zfg,zna,zlh,zqR,zr4,zuJ,zqA,znZ,zlG,zt8,znt,zpb,zqH,zpU,zqM,ztm,zsE,zsj,zth,zoU,zrA,zoM,zrv,zp2,ztJ,zlC,zsC,zn9,zuc,znD,znp,zrh,zpH,zo6,zrd,zqr,zqC,ztk,zrl,zsK,zrV,zoA,zsa,zls,zt3,zhm,zoJ,zlD,zma,zpm,zkW,zrq,zuM,zpY,znT,zhX,zpe,ztD,zqD,zok,zlE,zsc,zqb,zl4,zsW,znb,zrz,zpN,zk3,ztd,zo9,ztU,zn1,zo3,zuw,$ls,*])
def top(i:Nat):Stmt:=PySem.Challenge.pw_cleanrows_k31_states_told.main.body.getD i (.Pass ⟨0,0,0,0⟩)
structure zh where
 CleanError:Addr
 NoFile:Addr
 NoPlace:Addr
 HeldAlready:Addr
 NotHeld:Addr
 Files:Addr
 State:Addr
structure Txt(K:Frag)(mg:Str->Option Value)(A:zh):Prop where
 n_abs:mg "abs"=none
 n_all:mg "all"=none
 n_bool:mg "bool"=none
 n_dict:mg "dict"=none
 n_divmod:mg "divmod"=none
 n_int:mg "int"=none
 n_isinstance:mg "isinstance"=none
 n_len:mg "len"=none
 n_list:mg "list"=none
 n_max:mg "max"=none
 n_min:mg "min"=none
 n_range:mg "range"=none
 n_sorted:mg "sorted"=none
 n_tuple:mg "tuple"=none
 mg_CleanError:mg "CleanError"=some (.ref A.CleanError)
 mg_NoFile:mg "NoFile"=some (.ref A.NoFile)
 mg_NoPlace:mg "NoPlace"=some (.ref A.NoPlace)
 mg_HeldAlready:mg "HeldAlready"=some (.ref A.HeldAlready)
 mg_NotHeld:mg "NotHeld"=some (.ref A.NotHeld)
 mg_Files:mg "Files"=some (.ref A.Files)
 mg_State:mg "State"=some (.ref A.State)
 cl_Files:Cls K A.Files
 na_Files_births:zaT K A.Files "births"
 na_Files_kept:zaT K A.Files "kept"
 cl_State:Cls K A.State
 na_State_next_mark:zaT K A.State "next_mark"
 na_State_next_row:zaT K A.State "next_row"
 na_State_own_files:zaT K A.State "own_files"
 na_State_spot_of:zaT K A.State "spot_of"
theorem ztZ:(("births":Str) == "kept")=false:=by decide +kernel
theorem zkY:(("kept":Str) == "births")=false:=by decide +kernel
theorem zoV:(("names":Str) == "births")=false:=by decide +kernel
theorem zmO:(("names":Str) == "kept")=false:=by decide +kernel
theorem zl0:(("many":Str) == "births")=false:=by decide +kernel
theorem zoy:(("many":Str) == "kept")=false:=by decide +kernel
theorem zt6:(("birth":Str) == "births")=false:=by decide +kernel
theorem zsN:(("birth":Str) == "kept")=false:=by decide +kernel
theorem zpx:(("put":Str) == "births")=false:=by decide +kernel
theorem zs5:(("put":Str) == "kept")=false:=by decide +kernel
theorem zub:(("cut":Str) == "births")=false:=by decide +kernel
theorem zsl:(("cut":Str) == "kept")=false:=by decide +kernel
theorem zuP:(("hold":Str) == "births")=false:=by decide +kernel
theorem zsQ:(("hold":Str) == "kept")=false:=by decide +kernel
theorem zsn:(("free":Str) == "births")=false:=by decide +kernel
theorem zqO:(("free":Str) == "kept")=false:=by decide +kernel
theorem zs6:(("held":Str) == "births")=false:=by decide +kernel
theorem zmS:(("held":Str) == "kept")=false:=by decide +kernel
theorem zoj:(("of_held":Str) == "births")=false:=by decide +kernel
theorem zou:(("of_held":Str) == "kept")=false:=by decide +kernel
theorem zua:(("living":Str) == "births")=false:=by decide +kernel
theorem zrC:(("living":Str) == "kept")=false:=by decide +kernel
theorem zp1:(("copied":Str) == "births")=false:=by decide +kernel
theorem zqS:(("copied":Str) == "kept")=false:=by decide +kernel
theorem zrR:(("bare":Str) == "births")=false:=by decide +kernel
theorem ztt:(("bare":Str) == "kept")=false:=by decide +kernel
theorem zqK:(("keep":Str) == "births")=false:=by decide +kernel
theorem zqn:(("keep":Str) == "kept")=false:=by decide +kernel
theorem zoz:(("refuse_if_none":Str) == "births")=false:=by decide +kernel
theorem zsz:(("refuse_if_none":Str) == "kept")=false:=by decide +kernel
theorem znm:(("refuse_if_not_held":Str) == "births")=false:=by decide +kernel
theorem zt2:(("refuse_if_not_held":Str) == "kept")=false:=by decide +kernel
theorem zjO:(("births":Str)="kept")=False:=by simpa using ztZ
theorem zo8:(("next_mark":Str) == "next_row")=false:=by decide +kernel
theorem zpP:(("next_mark":Str) == "own_files")=false:=by decide +kernel
theorem zta:(("next_mark":Str) == "spot_of")=false:=by decide +kernel
theorem zo0:(("next_row":Str) == "next_mark")=false:=by decide +kernel
theorem zur:(("next_row":Str) == "own_files")=false:=by decide +kernel
theorem zmk:(("next_row":Str) == "spot_of")=false:=by decide +kernel
theorem znc:(("own_files":Str) == "next_mark")=false:=by decide +kernel
theorem zmG:(("own_files":Str) == "next_row")=false:=by decide +kernel
theorem zol:(("own_files":Str) == "spot_of")=false:=by decide +kernel
theorem zq0:(("spot_of":Str) == "next_mark")=false:=by decide +kernel
theorem zqg:(("spot_of":Str) == "next_row")=false:=by decide +kernel
theorem zmd:(("spot_of":Str) == "own_files")=false:=by decide +kernel
theorem zor:(("files":Str) == "next_mark")=false:=by decide +kernel
theorem zsI:(("files":Str) == "next_row")=false:=by decide +kernel
theorem znf:(("files":Str) == "own_files")=false:=by decide +kernel
theorem zpG:(("files":Str) == "spot_of")=false:=by decide +kernel
theorem zlV:(("spots":Str) == "next_mark")=false:=by decide +kernel
theorem zsA:(("spots":Str) == "next_row")=false:=by decide +kernel
theorem zkG:(("spots":Str) == "own_files")=false:=by decide +kernel
theorem zts:(("spots":Str) == "spot_of")=false:=by decide +kernel
theorem zrD:(("spot":Str) == "next_mark")=false:=by decide +kernel
theorem zmE:(("spot":Str) == "next_row")=false:=by decide +kernel
theorem zo7:(("spot":Str) == "own_files")=false:=by decide +kernel
theorem zlk:(("spot":Str) == "spot_of")=false:=by decide +kernel
theorem zvf:(("next_number":Str) == "next_mark")=false:=by decide +kernel
theorem zqt:(("next_number":Str) == "next_row")=false:=by decide +kernel
theorem zmz:(("next_number":Str) == "own_files")=false:=by decide +kernel
theorem zrS:(("next_number":Str) == "spot_of")=false:=by decide +kernel
theorem zrH:(("mark_number":Str) == "next_mark")=false:=by decide +kernel
theorem zlT:(("mark_number":Str) == "next_row")=false:=by decide +kernel
theorem zsi:(("mark_number":Str) == "own_files")=false:=by decide +kernel
theorem zl2:(("mark_number":Str) == "spot_of")=false:=by decide +kernel
theorem zrn:(("next_row":Str)="next_mark")=False:=by simpa using zo0
theorem zu9:(("own_files":Str)="next_mark")=False:=by simpa using znc
theorem zix:(("own_files":Str)="next_row")=False:=by simpa using zmG
theorem zgb:(("own_files":Str)="spot_of")=False:=by simpa using zol
theorem zqp:(("spot_of":Str)="next_mark")=False:=by simpa using zq0
theorem zj0:(("spot_of":Str)="next_row")=False:=by simpa using zqg
theorem zex{n:Nat}(h:n<=1000000):n<=sizeLine:=le_trans h (by decide)
abbrev zdf:Stmt:=top 7
abbrev zcD:Stmt:=top 8
inductive Thg(H:Hp):V->Prop
 | non:Thg H .non
 | bl (b:Bool):Thg H (.bl b)
 | int (i:Int):Thg H (.int i)
 | str (x:Str):Thg H (.str x)
 | lst {a:Addr}{xs:List V}:H a=some (.lst xs)->Thg H (.ref a)
 | tup {a:Addr}{xs:List V}:H a=some (.tup xs)->Thg H (.ref a)
 | dic {a:Addr}{kvs:List (Key×V)}:H a=some (.dK kvs)->Thg H (.ref a)
def zjN:V->Bool | .int _=>true|_=>false
def zfc(v:V)(a b:Int):Bool:=match v with | .int i=>decide (a<=i)&&decide (i<=b)|_=>false
def zen:Sp:=λvs H Q _=>∃v,vs=[v]/\Thg H v/\Q (.bl (zjN v)) H
def zdK:Sp:=λvs H Q _=>∃v a b,vs=[v,.int a,.int b]/\Thg H v/\Q (.bl (zfc v a b)) H
section
variable {P:Program}{w:World}{K:Frag}{mg:Str->Option Value}{base:Heap}{A:zh}
theorem zj2{X:Cx}{H:Hp}{v:V}{Q:VK}(t:Thg H v)(q:Q (.bl (match v with | .int _=>true | .bl _=>true|_=>false)) H):zej X.K [v,.ty "int"] H Q:=by
 cases t with
 | non=>exact ⟨_,_,_,_,_,rfl,rfl,.of .non,rfl,q⟩
 | bl b=>exact ⟨_,_,_,_,_,rfl,rfl,.of (.bl b),rfl,q⟩
 | int i=>exact ⟨_,_,_,_,_,rfl,rfl,.of (.int i),rfl,q⟩
 | str x=>exact ⟨_,_,_,_,_,rfl,rfl,.of (.str x),rfl,q⟩
 | lst h=>exact ⟨_,_,_,_,_,rfl,rfl,.of (.lst h),rfl,q⟩
 | tup h=>exact ⟨_,_,_,_,_,rfl,rfl,.of (.tup h),rfl,q⟩
 | dic h=>exact ⟨_,_,_,_,_,rfl,rfl,.of (.dK h),rfl,q⟩
theorem zf4{X:Cx}{H:Hp}{v:V}{Q:VK}(t:Thg H v)(q:Q (.bl (match v with | .bl _=>true|_=>false)) H):zej X.K [v,.ty "bool"] H Q:=by
 cases t with
 | non=>exact ⟨_,_,_,_,_,rfl,rfl,.of .non,rfl,q⟩
 | bl b=>exact ⟨_,_,_,_,_,rfl,rfl,.of (.bl b),rfl,q⟩
 | int i=>exact ⟨_,_,_,_,_,rfl,rfl,.of (.int i),rfl,q⟩
 | str x=>exact ⟨_,_,_,_,_,rfl,rfl,.of (.str x),rfl,q⟩
 | lst h=>exact ⟨_,_,_,_,_,rfl,rfl,.of (.lst h),rfl,q⟩
 | tup h=>exact ⟨_,_,_,_,_,rfl,rfl,.of (.tup h),rfl,q⟩
 | dic h=>exact ⟨_,_,_,_,_,rfl,rfl,.of (.dK h),rfl,q⟩
theorem zlX:zB ["value"] ["value"] (zg zdf):=⟨rfl,rfl,rfl,f!"",rfl,f!"",f!""⟩
theorem zsV{f:Addr}{fd:FuncData}{cm:Bool}(F:Fun K "is_whole" "is_whole" zdf f fd)(T:Txt K mg A):zr P w K mg base CX0 cm 1 f fd ["value"] zen:=by
 refine F.ok zlX (λvs H Q E h=>?_) (λcdv Ar outer s H vs Q E hr h=>?_)
 ·obtain ⟨v,rfl,_⟩:=h;rfl
 ·obtain ⟨v,rfl,th,q⟩:=h
  refine ⟨_,(W.h (zl (zG (zdd (zP zcO rfl T.n_isinstance boot_isinstance (zb (za 0) (zb (zbH rfl T.n_int boot_int (v:=.ty "int") rfl) zd))) (zdn (ziO (zP zcO rfl T.n_isinstance boot_isinstance (zb (za 0) (zb (zbH rfl T.n_bool boot_bool (v:=.ty "bool") rfl) zd))))))))),?_⟩
  simp_all only []
  refine zj2 th ?_
  cases th with
  | int i=>exact ⟨true,rfl,ze2 (zf4 (.int i) ⟨false,rfl,q⟩)⟩
  | bl i=>exact ⟨true,rfl,ze2 (zf4 (.bl i) ⟨true,rfl,q⟩)⟩
  | _=>exact ⟨false,rfl,zdJ q⟩
theorem zse:zB ["value","least","most"] ["value","least","most"] (zg zcD):=⟨rfl,rfl,rfl,f!"",rfl,f!"",f!""⟩
theorem zqN{f:Addr}{fd:FuncData}{cm:Bool}(F:Fun K "is_within" "is_within" zcD f fd)(T:Txt K mg A)(Gh:GF P w K mg base cm 1 "is_whole" ["value"] zen):zr P w K mg base CX0 cm 2 f fd ["value","least","most"] zdK:=by
 refine F.ok zse (λvs H Q E h=>?_) (λcdv Ar outer s H vs Q E hr h=>?_)
 ·obtain ⟨v,a,b,rfl,_⟩:=h;rfl
 ·obtain ⟨v,a,b,rfl,th,q⟩:=h
  refine ⟨_,(W.h (zl (zG (zdd (zC Gh hr rfl (zb (za 0) zd)) (zdn (zrc ziT ziT (za 1) (za 0) (za 2))))))),?_⟩
  simp_all only []
  refine ⟨_,rfl,th,?_⟩
  cases th with
  | int i =>
   refine ⟨true,rfl,ze2 ?_⟩
   simp_all only []
   refine zdx (λh=>?_) (λh=>?_)
   ·have e:zfc (.int i) a b=decide (i<=b):=by show (decide (a<=i)&&_)=_;rw [h];rfl
    rw [<- e];exact q
   ·have e:zfc (.int i) a b=false:=by show (decide (a<=i)&&_)=_;rw [Bool.eq_false_iff.mpr h];rfl
    rw [<- e];exact q
  | _=>exact ⟨false,rfl,zdJ q⟩
end
abbrev zdq:Stmt:=top 15
abbrev zcq:Stmt:=top 16
abbrev zc7:Stmt:=top 17
abbrev zcQ:Stmt:=top 18
def But(b:Addr)(H H':Hp):Prop:=∀a o,a≠b->H a=some o->H' a=some o
theorem But.of{b:Addr}{H H':Hp}(s:zf H H'):But b H H':=λa o _ e=>s a o e
theorem But.trans{b:Addr}{H H1 H2:Hp}(x:But b H H1)(y:But b H1 H2):But b H H2:=λa o n e=>y a o n (x a o n e)
theorem zdz{α:Type}{xs:List α}{i:Int}(h0:0<=i)(h1:i<xs.length):∃v,atI xs i=some v/\v∈xs:=by
 have hn:i.toNat<xs.length:=by omega
 have z:atI xs ((i.toNat:Nat):Int)=some xs[i.toNat]:=zgu (List.getElem?_eq_getElem hn)
 rw [show ((i.toNat:Nat):Int)=i by omega] at z
 exact ⟨_,z,getElem_mem hn⟩
section
variable {P:Program}{w:World}{K:Frag}{mg:Str->Option Value}{base:Heap}{A:zh}
def atD(ns:List Int)(k:Int):Int:=if k<ns.length then ns.getD k.toNat 0 else 0
def zfA(K:Frag):Sp:=λvs H Q _=>∃(a:Addr)(ns:List Int)(k:Int),vs=[.ref a,.int k]/\SqL K H a (ns.map V.int)/\0<=k/\Q (.int (atD ns k)) H
theorem zuH:zB ["_law_script","_law_k"] ["_law_script","_law_k"] (zg zdq):=⟨rfl,rfl,rfl,f!"",rfl,f!"",f!""⟩
theorem zlH{f:Addr}{fd:FuncData}(F:Fun K "_law_cell" "_law_cell" zdq f fd)(T:Txt K mg A):zr P w K mg base CX0 true 1 f fd ["_law_script","_law_k"] (zfA K):=by
 refine F.ok zuH (λvs H Q E h=>?_) (λcdv Ar outer s H vs Q E hr h=>?_)
 ·obtain ⟨a,ns,k,rfl,_⟩:=h;rfl
 ·obtain ⟨a,ns,k,rfl,hS,hk,q⟩:=h
  refine ⟨_,zhO (zhP (zkt zjr (pv 1) (zjX zfx rfl T.n_len PySem.boot_len (zeM (pv 0) zfi)) (zal _))
   (zgL (zfV (zkq zjI (pv 0) (pv 1) (λ_ _=>rfl)))) zkf) (zgL (zfV zjR)),?_⟩
  simp_all only []
  refine ⟨_,.inl hS,?_⟩
  rw [length_map]
  refine zdx (λh=>?_) (λh=>?_)
  ·have h':k<(ns.length:Int):=of_decide_eq_true h
   have hn:k.toNat<ns.length:=by omega
   have e:atD ns k=ns[k.toNat]:=by unfold atD;rw [if_pos h',getD_eq_getElem?_getD,List.getElem?_eq_getElem hn];rfl
   refine ⟨a,ns.map V.int,k,.int (ns[k.toNat]),rfl,rfl,hS,?_,by rw [<- e];exact q⟩
   have z:atI (ns.map V.int) ((k.toNat:Nat):Int)=some (.int (ns[k.toNat])):=zgu (by rw [getElem?_map,List.getElem?_eq_getElem hn];rfl)
   have kz:((k.toNat:Nat):Int)=k:=by omega
   rw [kz] at z;exact z
  ·have h' : ¬ k<(ns.length:Int):=λz=>h (decide_eq_true z)
   have e:atD ns k=0:=by unfold atD;rw [if_neg h']
   rw [<- e];exact q
theorem zd5{a b:V}:atI [a,b] 0=some a:=rfl
theorem zdA{a b:V}:atI [a,b] 1=some b:=rfl
theorem zk2:ixN 2 0=some 0:=rfl
theorem zlb:ixN 2 1=some 1:=rfl
structure Pot(H:Hp)(a:Addr):Prop where
 ex:∃x y:Int,H a=some (.lst [.int x,.int y])/\0<=x/\0<=y/\y<2147483647
theorem Pot.same{H H':Hp}{a:Addr}(h:Pot H a)(s:zf H H'):Pot H' a:=let ⟨x,y,e,r⟩:=h.ex;⟨⟨x,y,s _ _ e,r⟩⟩
theorem Pot.ne{H:Hp}{a l:Addr}(h:Pot H a)(n:H l=none):l≠a:=λz=>by
 obtain ⟨x,y,e,_⟩:=h.ex
 rw [z,e] at n;cases n
def zgf(K:Frag):Sp:=λvs H Q _=>∃(a:Addr)(ns:List Int)(k:Int),vs=[.ref a,.int k]/\SqL K H a (ns.map V.int)/\0<=k/\∀l H',zf H H'->H l=none->Pot H' l->Q (.ref l) H'
theorem zkn:zB ["_law_script","_law_k","_law_cell_here"] ["_law_script","_law_k"] (zg zcq):=⟨rfl,rfl,rfl,f!"",rfl,f!"",f!""⟩
theorem znK{f:Addr}{fd:FuncData}(F:Fun K "_law_pot" "_law_pot" zcq f fd)(T:Txt K mg A)(Gm:GF P w K mg base true 1 "_law_cell" ["_law_script","_law_k"] (zfA K)):zr P w K mg base CX0 true 2 f fd ["_law_script","_law_k"] (zgf K):=by
 refine F.ok zkn (λvs H Q E h=>?_) (λcdv Ar outer s H vs Q E hr h=>?_)
 ·obtain ⟨a,ns,k,rfl,_⟩:=h;rfl
 ·obtain ⟨a,ns,k,rfl,hS,hk,q⟩:=h
  refine ⟨_,(W.h (zk (zI (i:=2) zkn.nd rfl (Or.inl rfl) (zC Gm hr rfl (zb (za 0) (zb (za 1) zd))))
   (zl (zG (zab (zb (zP (zg4 rfl) rfl T.n_max boot_max (zb zj (zb (zK ziv (za 2) (zK ze4 zj zj)) zd))) (zb (zK zcG (zK zaA (zK zcG (zP zlN rfl T.n_abs PyProof.Rows.boot_abs (zb (za 2) zd)) zj) (zK zgG zj (zK zaA (za 1) zj))) zj) zd))))))),?_⟩
  simp_all only []
  refine ⟨a,ns,k,rfl,hS,hk,?_⟩
  simp_all only []
  refine ⟨⟨by decide,by decide,by decide⟩,by decide,.inl ⟨by decide,by decide⟩,by decide,by decide,λl H1 n1 _=>q l H1 n1.same n1.no ⟨⟨_,_,n1.at_,?_,?_,?_⟩⟩⟩
  ·split<;>omega
  ·omega
  ·omega
def za6:Sp:=λvs H Q _=>∃(a:Addr)(m:Int),vs=[.ref a,.int m]/\Pot H a/\0<m/\m<2 ^ 64/\∀(r:Int) H',But a H H'->Pot H' a->0<=r->r<m->Q (.int r) H'
theorem zhJ:zB ["_law_pot_here","_law_many","_law_digit"] ["_law_pot_here","_law_many"] (zg zc7):=⟨rfl,rfl,rfl,f!"",rfl,f!"",f!""⟩
theorem zrO{f:Addr}{fd:FuncData}(F:Fun K "_law_draw" "_law_draw" zc7 f fd)(T:Txt K mg A):zr P w K mg base CX0 true 1 f fd ["_law_pot_here","_law_many"] za6:=by
 refine F.ok zhJ (λvs H Q E h=>?_) (λcdv Ar outer s H vs Q E hr h=>?_)
 ·obtain ⟨a,m,rfl,_⟩:=h;rfl
 ·obtain ⟨a,m,rfl,⟨x,y,e,x0,y0,y1⟩,m0,m1,q⟩:=h
  refine ⟨_,(W.h (zk (z7 (zad ziR (zY zai (za 0) zj (λ_ _=>rfl)) zj (zal _))
   (zk (zbs (zP ztT rfl T.n_divmod boot_divmod (zb (zY zai (za 0) zj (λ_ _=>rfl)) (zb (za 1) zd))) (zgH (n:=2) (zbh (zbA (za 0) zj zf0) (zbh (zU (i:=2) zhJ.nd rfl (Or.inl rfl)) zfk))))
   (zl (zG (za 2))))
   zas)
   (zk (zbs (zK zcG (zK zaA (zK zgG (zY zai (za 0) zj (λ_ _=>rfl)) zj) zj) zj) (zbA (za 0) zj zf0))
   (zl (zG (zK zcG (zK zhn (zK zcG (zK zgG (zY zai (za 0) zj (λ_ _=>rfl)) (zY zai (za 0) zj (λ_ _=>rfl))) zj) zj) (za 1))))))),?_⟩
  simp_all only [e,zd5,zdA]
  refine zdx (λh=>?_) (λh=>?_)
  ·refine ⟨m0,m1,λp H2 n2=>⟨p,_,rfl,SqT.of n2.at_,rfl,?_⟩⟩
   have e2:=n2.same _ _ e
   simp_all only [e2,zk2,zd5]
   refine q _ _ (λc o nc ec=>by rw [ze nc];exact n2.same _ _ ec) ⟨⟨_,_,zp,Int.ediv_nonneg x0 (by omega),y0,y1⟩⟩ (Int.emod_nonneg _ (by omega)) (Int.emod_lt_of_pos _ m0)
  ·simp_all only [zlb,zp,zdA]
   refine ⟨.inr ⟨by decide,by decide⟩,by decide,.inl ⟨by omega,by omega⟩,by decide,⟨by decide,by decide⟩,m0,q _ _ (λc o nc ec=>by rw [ze nc];exact ec) ⟨⟨_,_,zp,x0,by omega,by omega⟩⟩ (Int.emod_nonneg _ (by omega)) (Int.emod_lt_of_pos _ m0)⟩
def zdE:Sp:=λvs H Q _=>∃(a:Addr),Pot H a/\((∃(l:Addr)(xs:List V),vs=[.ref a,.ref l]/\l≠a/\(H l=some (.lst xs)\/H l=some (.tup xs))/\0<xs.length/\xs.length<=1000/\∀v H',v∈xs->But a H H'->Pot H' a->Q v H') \/
 ∃z:Str,vs=[.ref a,.str z]/\0<z.length/\z.length<=1000/\∀c H',c∈sg z->But a H H'->Pot H' a->Q (.str (c1 c)) H')
theorem zrp:zB ["_law_pot_here","_law_some"] ["_law_pot_here","_law_some"] (zg zcQ):=⟨rfl,rfl,rfl,f!"",rfl,f!"",f!""⟩
theorem zuC{f:Addr}{fd:FuncData}(F:Fun K "_law_drawn" "_law_drawn" zcQ f fd)(T:Txt K mg A)(Gb:GF P w K mg base true 1 "_law_draw" ["_law_pot_here","_law_many"] za6):zr P w K mg base CX0 true 2 f fd ["_law_pot_here","_law_some"] zdE:=by
 refine F.ok zrp (λvs H Q E h=>?_) (λcdv Ar outer s H vs Q E hr h=>?_)
 ·obtain ⟨a,_,⟨l,xs,rfl,_⟩|⟨z,rfl,_⟩⟩:=h<;>rfl
 ·refine ⟨_,(W.h (zl (zG (zY zai (za 1) (zC Gb hr rfl (zb (za 0) (zb (zP zbV rfl T.n_len PySem.boot_len (zb (za 1) zd)) zd))) (λ_ _=>rfl))))),?_⟩
  obtain ⟨a,hP,⟨l,xs,rfl,ne,hl,x0,x1,q⟩|⟨z,rfl,z0,z1,q⟩⟩:=h
  ·simp_all only []
   refine ⟨xs,hl,a,_,rfl,hP,by omega,Int.lt_of_le_of_lt (show (xs.length:Int)<=1000 by omega) (by decide),λr H' bt hP' r0 r1=>?_⟩
   obtain ⟨v,ev,hv⟩:=zdz (xs:=xs) r0 r1
   rw [zfb]
   exact ⟨xs,hl.imp (bt _ _ ne) (bt _ _ ne),v,ev,q v H' hv bt hP'⟩
  ·simp_all only []
   refine ⟨zex (by omega),a,_,rfl,hP,by omega,Int.lt_of_le_of_lt (show (z.length:Int)<=1000 by omega) (by decide),λr H' bt hP' r0 r1=>?_⟩
   obtain ⟨c,ec,hc⟩:=zdz (xs:=sg z) r0 (by rw [zrF];exact r1)
   rw [zhp]
   exact ⟨zex (by omega),c,ec,q c H' hc bt hP'⟩
end
abbrev zc1:Stmt:=zam (top 10) 0
abbrev zdc:Stmt:=zam (top 10) 1
abbrev zcP:Stmt:=zam (top 10) 2
abbrev zcm:Stmt:=zam (top 10) 14
abbrev zcn:Stmt:=zam (top 10) 15
abbrev Tab:=List (Str×List Int)
def zau(H:Hp)(v:V)(l:List Int):Prop:=∃p,v = .ref p/\H p=some (.tup (l.map V.int))
def zt(b k:Addr):List (Str×V):=[("births",.ref b),("kept",.ref k)]
structure zaQ(H:Hp)(b:Addr)(t:Tab):Prop where
 ex:∃kvs,H b=some (.dK (sk kvs))/\Dct (zau H) kvs t
 nd:(names t).Nodup
structure za9(H:Hp)(b:Addr)(t:Tab):Prop where
 ex:∃kvs,Rd H b (.dK (sk kvs))/\Dct (zau H) kvs t
 nd:(names t).Nodup
theorem zaQ.r{H:Hp}{b:Addr}{t:Tab}(h:zaQ H b t):za9 H b t:=let ⟨kvs,e,d⟩:=h.ex;⟨⟨kvs,.inl e,d⟩,h.nd⟩
structure zao(A:zh)(H:Hp)(q b k:Addr)(t:Tab):Prop where
 ob:∃dx,H q=some (.ins A.Files dx (zt b k))
 births:za9 H b t
 kept:Rd H k (.dK (sk []))
def za4(A:zh)(H:Hp)(b k:Addr)(v:V)(t:Tab):Prop:=∃q b' k',v = .ref q/\zao A H q b' k' t/\b'≠b/\b'≠k/\k'≠b/\k'≠k
structure zq(A:zh)(H:Hp)(p b k:Addr)(t:Tab)(ks:List (Str×Tab)):Prop where
 ob:∃dx,H p=some (.ins A.Files dx (zt b k))
 births:zaQ H b t
 kept:∃kk,H k=some (.dK (sk kk))/\Dct (za4 A H b k) kk ks
 ndk:(names ks).Nodup
 ne:b≠k
structure zaC(A:zh)(H:Hp)(p b k:Addr)(t:Tab)(ks:List (Str×Tab)):Prop where
 ob:∃dx,H p=some (.ins A.Files dx (zt b k))
 births:za9 H b t
 kept:∃kk,Rd H k (.dK (sk kk))/\Dct (za4 A H b k) kk ks
 ndk:(names ks).Nodup
theorem zq.r{A:zh}{H:Hp}{p b k:Addr}{t:Tab}{ks:List (Str×Tab)}(h:zq A H p b k t ks):zaC A H p b k t ks:=let ⟨kk,e,d⟩:=h.kept;⟨h.ob,h.births.r,⟨kk,.inl e,d⟩,h.ndk⟩
structure FS(H H':Hp):Prop where
 oth:∀a o,(∀kvs,o≠.dK kvs)->(∀ob kvs,o≠.frz ob (.dK kvs))->H a=some o->H' a=some o
 dic:∀a kvs,Rd H a (.dK kvs)->Rd H' a (.dK kvs)
theorem FS.of{H H':Hp}(s:zf H H'):FS H H':=⟨λa o _ _ e=>s a o e,λa kvs r=>r.elim (λe=>.inl (s _ _ e)) (λ⟨o,e⟩=>.inr ⟨o,s _ _ e⟩)⟩
theorem FS.trans{H H1 H2:Hp}(x:FS H H1)(y:FS H1 H2):FS H H2:=⟨λa o n m e=>y.oth a o n m (x.oth a o n m e),λa kvs r=>y.dic a kvs (x.dic a kvs r)⟩
theorem Rd.same{H H':Hp}{a:Addr}{u:HO}(h:Rd H a u)(s:zf H H'):Rd H' a u:=h.elim (λe=>.inl (s _ _ e)) (λ⟨o,e⟩=>.inr ⟨o,s _ _ e⟩)
theorem But.upd{b:Addr}{H:Hp}{o:HO}:But b H (upd H b o):=λa u n e=>by rw [ze n];exact e
theorem zau.but{b:Addr}{H H':Hp}{v:V}{l:List Int}(h:zau H v l)(s:But b H H')(hb:∀xs,H b≠some (.tup xs)):zau H' v l:=by
 obtain ⟨p,e,hp⟩:=h
 exact ⟨p,e,s p _ (λz=>by subst z;exact hb _ hp) hp⟩
theorem zau.same{H H':Hp}{v:V}{l:List Int}(h:zau H v l)(s:zf H H'):zau H' v l:=let ⟨p,e,hp⟩:=h;⟨p,e,s p _ hp⟩
theorem zaQ.but{x:Addr}{H H':Hp}{b:Addr}{t:Tab}(h:zaQ H b t)(s:But x H H')(hx:∀xs,H x≠some (.tup xs))(n:b≠x):zaQ H' b t:=by
 obtain ⟨kvs,e,d⟩:=h.ex
 exact ⟨⟨kvs,s _ _ n e,d.imp λv a r=>r.but s hx⟩,h.nd⟩
theorem zaQ.same{H H':Hp}{b:Addr}{t:Tab}(h:zaQ H b t)(s:zf H H'):zaQ H' b t:=by
 obtain ⟨kvs,e,d⟩:=h.ex
 exact ⟨⟨kvs,s _ _ e,d.imp λv a r=>r.same s⟩,h.nd⟩
theorem za9.but{x:Addr}{H H':Hp}{b:Addr}{t:Tab}(h:za9 H b t)(s:But x H H')(hx:∀xs,H x≠some (.tup xs))(n:b≠x):za9 H' b t:=by
 obtain ⟨kvs,e,d⟩:=h.ex
 exact ⟨⟨kvs,e.elim (λe=>.inl (s _ _ n e)) (λ⟨o,e⟩=>.inr ⟨o,s _ _ n e⟩),d.imp λv a r=>r.but s hx⟩,h.nd⟩
theorem zau.fs{H H':Hp}{v:V}{l:List Int}(h:zau H v l)(s:FS H H'):zau H' v l:=let ⟨p,e,hp⟩:=h;⟨p,e,s.oth p _ (λ_=>nofun) (λ_ _=>nofun) hp⟩
theorem za9.fs{H H':Hp}{b:Addr}{t:Tab}(h:za9 H b t)(s:FS H H'):za9 H' b t:=by
 obtain ⟨kvs,e,d⟩:=h.ex
 exact ⟨⟨kvs,s.dic _ _ e,d.imp λv a r=>r.fs s⟩,h.nd⟩
theorem zao.but{A:zh}{x:Addr}{H H':Hp}{q b k:Addr}{t:Tab}{kvs:List (Key×V)}(h:zao A H q b k t)(s:But x H H')(hx:H x=some (.dK kvs))(n1:b≠x)(n2:k≠x):zao A H' q b k t:=by
 obtain ⟨dx,e⟩:=h.ob
 exact ⟨⟨dx,s _ _ (λz=>by subst z;rw [e] at hx;cases hx) e⟩,h.births.but s (λxs z=>by rw [z] at hx;cases hx) n1,h.kept.elim (λe=>.inl (s _ _ n2 e)) (λ⟨o,e⟩=>.inr ⟨o,s _ _ n2 e⟩)⟩
theorem zao.fs{A:zh}{H H':Hp}{q b k:Addr}{t:Tab}(h:zao A H q b k t)(s:FS H H'):zao A H' q b k t:=let ⟨dx,e⟩:=h.ob;⟨⟨dx,s.oth _ _ (λ_=>nofun) (λ_ _=>nofun) e⟩,h.births.fs s,s.dic _ _ h.kept⟩
theorem zao.same{A:zh}{H H':Hp}{q b k:Addr}{t:Tab}(h:zao A H q b k t)(s:zf H H'):zao A H' q b k t:=h.fs (.of s)
theorem za4.fs{A:zh}{H H':Hp}{b k:Addr}{v:V}{t:Tab}(h:za4 A H b k v t)(s:FS H H'):za4 A H' b k v t:=let ⟨q,b',k',e,r,n⟩:=h;⟨q,b',k',e,r.fs s,n⟩
theorem zaC.fs{A:zh}{H H':Hp}{p b k:Addr}{t:Tab}{ks:List (Str×Tab)}(h:zaC A H p b k t ks)(s:FS H H'):zaC A H' p b k t ks:=by
 obtain ⟨dx,e⟩:=h.ob
 obtain ⟨kk,e2,d⟩:=h.kept
 exact ⟨⟨dx,s.oth _ _ (λ_=>nofun) (λ_ _=>nofun) e⟩,h.births.fs s,⟨kk,s.dic _ _ e2,d.imp λv a r=>r.fs s⟩,h.ndk⟩
theorem zaC.same{A:zh}{H H':Hp}{p b k:Addr}{t:Tab}{ks:List (Str×Tab)}(h:zaC A H p b k t ks)(s:zf H H'):zaC A H' p b k t ks:=h.fs (.of s)
theorem zq.fs{A:zh}{H H':Hp}{p b k d:Addr}{t:Tab}{ks:List (Str×Tab)}(h:zq A H p b k t ks)(s:FS H H')(bt:But d H H')(n1:b≠d)(n2:k≠d):zq A H' p b k t ks:=by
 obtain ⟨dx,e⟩:=h.ob
 obtain ⟨kk,e2,d⟩:=h.kept
 obtain ⟨kvs,e3,d3⟩:=h.births.ex
 exact ⟨⟨dx,s.oth _ _ (λ_=>nofun) (λ_ _=>nofun) e⟩,⟨⟨kvs,bt _ _ n1 e3,d3.imp λv a r=>r.fs s⟩,h.births.nd⟩,⟨kk,bt _ _ n2 e2,d.imp λv a r=>r.fs s⟩,h.ndk,h.ne⟩
theorem za4.same{A:zh}{H H':Hp}{b k:Addr}{v:V}{t:Tab}(h:za4 A H b k v t)(s:zf H H'):za4 A H' b k v t:=let ⟨q,b',k',e,r,n⟩:=h;⟨q,b',k',e,r.same s,n⟩
theorem zq.same{A:zh}{H H':Hp}{p b k:Addr}{t:Tab}{ks:List (Str×Tab)}(h:zq A H p b k t ks)(s:zf H H'):zq A H' p b k t ks:=by
 obtain ⟨dx,e⟩:=h.ob
 obtain ⟨kk,e2,d⟩:=h.kept
 exact ⟨⟨dx,s _ _ e⟩,h.births.same s,⟨kk,s _ _ e2,d.imp λv a r=>r.same s⟩,h.ndk,h.ne⟩
theorem zq.setB{A:zh}{H H':Hp}{p b k:Addr}{t t':Tab}{ks:List (Str×Tab)}{kvs':List (Str×V)}(h:zq A H p b k t ks)(s:But b H H')(e:H' b=some (.dK (sk kvs')))(d':Dct (zau H') kvs' t')(nd:(names t').Nodup):zq A H' p b k t' ks:=by
 obtain ⟨dx,e1⟩:=h.ob
 obtain ⟨kk,e2,d⟩:=h.kept
 obtain ⟨kvs,e3,_⟩:=h.births.ex
 exact ⟨⟨dx,s _ _ (λz=>by subst z;rw [e1] at e3;cases e3) e1⟩,⟨⟨kvs',e,d'⟩,nd⟩,⟨kk,s _ _ (Ne.symm h.ne) e2,d.imp λv a ⟨q,b',k',ev,r,n1,n2,n3,n4⟩=>⟨q,b',k',ev,r.but s e3 n1 n3,n1,n2,n3,n4⟩⟩,h.ndk,h.ne⟩
theorem zq.setK{A:zh}{H H':Hp}{p b k:Addr}{t:Tab}{ks ks':List (Str×Tab)}{kk':List (Str×V)}(h:zq A H p b k t ks)(s:But k H H')(e:H' k=some (.dK (sk kk')))(d':Dct (za4 A H' b k) kk' ks')(nd:(names ks').Nodup):zq A H' p b k t ks':=by
 obtain ⟨dx,e1⟩:=h.ob
 obtain ⟨kk,e2,d⟩:=h.kept
 exact ⟨⟨dx,s _ _ (λz=>by subst z;rw [e1] at e2;cases e2) e1⟩,h.births.but s (λxs z=>by rw [z] at e2;cases e2) h.ne,⟨kk',e,d'⟩,nd,h.ne⟩
theorem za4.but{A:zh}{H H':Hp}{b k:Addr}{v:V}{t:Tab}{kvs:List (Key×V)}(h:za4 A H b k v t)(s:But k H H')(hx:H k=some (.dK kvs)):za4 A H' b k v t:=let ⟨q,b',k',ev,r,n1,n2,n3,n4⟩:=h;⟨q,b',k',ev,r.but s hx n2 n4,n1,n2,n3,n4⟩
section
variable {P:Program}{w:World}{K:Frag}{mg:Str->Option Value}{base:Heap}{A:zh}{b k:Addr}
theorem zay:(zt b k).lookup ("births":Str)=some (.ref b):=by simp only [zt,List.lookup,beq_self_eq_true]
theorem zbc:(zt b k).lookup ("kept":Str)=some (.ref k):=by simp only [zt,List.lookup,beq_self_eq_true,zkY]
theorem ztW:(zt b k).lookup ("names":Str)=none:=by simp only [zt,List.lookup,zoV,zmO]
theorem zc3:(zt b k).lookup ("many":Str)=none:=by simp only [zt,List.lookup,zl0,zoy]
theorem zoi:(zt b k).lookup ("birth":Str)=none:=by simp only [zt,List.lookup,zt6,zsN]
theorem zee:(zt b k).lookup ("put":Str)=none:=by simp only [zt,List.lookup,zpx,zs5]
theorem zj7:(zt b k).lookup ("cut":Str)=none:=by simp only [zt,List.lookup,zub,zsl]
theorem zeX:(zt b k).lookup ("hold":Str)=none:=by simp only [zt,List.lookup,zuP,zsQ]
theorem zlt:(zt b k).lookup ("free":Str)=none:=by simp only [zt,List.lookup,zsn,zqO]
theorem zgn:(zt b k).lookup ("held":Str)=none:=by simp only [zt,List.lookup,zs6,zmS]
theorem zqY:(zt b k).lookup ("of_held":Str)=none:=by simp only [zt,List.lookup,zoj,zou]
theorem zqF:(zt b k).lookup ("living":Str)=none:=by simp only [zt,List.lookup,zua,zrC]
theorem ziM:(zt b k).lookup ("copied":Str)=none:=by simp only [zt,List.lookup,zp1,zqS]
theorem zgP:(zt b k).lookup ("bare":Str)=none:=by simp only [zt,List.lookup,zrR,ztt]
theorem zmb:(zt b k).lookup ("keep":Str)=none:=by simp only [zt,List.lookup,zqK,zqn]
theorem zeG:(zt b k).lookup ("refuse_if_none":Str)=none:=by simp only [zt,List.lookup,zoz,zsz]
theorem zeT:(zt b k).lookup ("refuse_if_not_held":Str)=none:=by simp only [zt,List.lookup,znm,zt2]
def zd2(A:zh):Sp:=λvs H Q _=>∃(p dx:Addr),vs=[.ref p]/\H p=some (.ins A.Files dx [])/\∀b k H',But p H H'->H b=none->H k=none->H' b=some (.dK (sk []))->H' k=some (.dK (sk []))->b≠k->H' p=some (.ins A.Files dx (zt b k))->Q .non H'
theorem zom:zB ["self"] ["self"] (zg zc1):=⟨rfl,rfl,rfl,f!"",rfl,f!"",f!""⟩
theorem zrb{f:Addr}{fd:FuncData}(F:Fun K "__init__" "Files.__init__" zc1 f fd)(T:Txt K mg A):zr P w K mg base CX0 true 1 f fd ["self"] (zd2 A):=by
 refine F.ok zom (λvs H Q E h=>?_) (λcdv Ar outer s H vs Q E hr h=>?_)
 ·obtain ⟨p,dx,rfl,_⟩:=h;rfl
 ·obtain ⟨p,dx,rfl,hp,q⟩:=h
  refine ⟨_,(W.h (zk (zbN T.cl_Files T.na_Files_births (za 0) zbe)
   (zl (zbN T.cl_Files T.na_Files_kept (za 0) zbe)))),?_⟩
  simp_all only []
  refine λb H1 n1=>⟨dx,[],n1.same _ _ hp,by decide,λk H2 n2=>⟨dx,_,n2.same _ _ zp,by show 1<1000;decide,?_⟩⟩
  have bp:b≠p:=λz=>by have:=n1.no;rw [z,hp] at this;cases this
  have kp:k≠p:=λz=>by have:=n2.no;rw [z,zp] at this;cases this
  have k1:H1 k=none:=by have:=n2.no;rw [ze kp] at this;exact this
  have eF:zN ("kept":Str) (V.ref k) (zN ("births":Str) (V.ref b) [])=zt b k:=by simp only [zN,zt,zjO,if_false]
  have e2:H2 b=some (.dK []):=n2.same _ _ (by rw [ze bp];exact n1.at_)
  rw [eF]
  refine q b k _ (λa o n e=>?_) n1.no (n1.same.free k1) (by rw [ze bp];exact e2) (by rw [ze kp];exact n2.at_) (λz=>?_) zp
  ·rw [ze n]
   exact n2.same _ _ (by rw [ze n];exact n1.same _ _ e)
  ·have:=n2.no
   rw [<- z,ze bp,n1.at_] at this
   cases this
def zhB(A:zh):Sp:=λvs H Q _=>∃(p b k:Addr)(t:Tab)(ks:List (Str×Tab)),vs=[.ref p]/\zaC A H p b k t ks/\t.length<64/\∀l H',New H l (.lst ((zaH (names t)).map V.str)) H'->Q (.ref l) H'
theorem zqI:zB ["self"] ["self"] (zg zdc):=⟨rfl,rfl,rfl,f!"",rfl,f!"",f!""⟩
theorem zl1{f:Addr}{fd:FuncData}(F:Fun K "names" "Files.names" zdc f fd)(T:Txt K mg A):zr P w K mg base CX0 true 1 f fd ["self"] (zhB A):=by
 refine F.ok zqI (λvs H Q E h=>?_) (λcdv Ar outer s H vs Q E hr h=>?_)
 ·obtain ⟨p,b,k,t,ks,rfl,_⟩:=h;rfl
 ·obtain ⟨p,b,k,t,ks,rfl,hF,hl,q⟩:=h
  refine ⟨_,(W.h (zl (zG (zP (zcp rfl) rfl T.n_sorted boot_sorted (zb (zZ T.cl_Files T.na_Files_births (za 0)) zd))))),?_⟩
  obtain ⟨dx,e1⟩:=hF.ob
  obtain ⟨kvs,e2,d⟩:=hF.births.ex
  simp_all only [e1,zay]
  refine ⟨kvs,e2,by rw [d.length];exact hl,?_⟩
  rw [d.names]
  exact q
def lk(t:Tab)(n:Str):List Int:=(look t n).getD []
def zcl(A:zh):Sp:=λvs H Q _=>∃(p b k:Addr)(t:Tab)(ks:List (Str×Tab))(n:Str),vs=[.ref p,.str n]/\zaC A H p b k t ks/\∀H',zf H H'->Q (.int (lk t n).length) H'
theorem zaQ.get{H:Hp}{t:Tab}{kvs:List (Str×V)}(d:Dct (zau H) kvs t)(n:Str){p:Addr}{H':Hp}(s:zf H H')(hp:H' p=some (.tup [])):∃a,(look kvs n).getD (.ref p) = .ref a/\H' a=some (.tup ((lk t n).map V.int)):=by
 rcases d.look n with ⟨v,l,e1,e2,a,ev,ha⟩|⟨e1,e2⟩
 ·exact ⟨a,by rw [e1,ev];rfl,by unfold lk;rw [e2];exact s _ _ ha⟩
 ·exact ⟨p,by rw [e1];rfl,by unfold lk;rw [e2];exact hp⟩
theorem ztR:zB ["self","file"] ["self","file"] (zg zcP):=⟨rfl,rfl,rfl,f!"",rfl,f!"",f!""⟩
theorem zs4{f:Addr}{fd:FuncData}(F:Fun K "many" "Files.many" zcP f fd)(T:Txt K mg A):zr P w K mg base CX0 true 1 f fd ["self","file"] (zcl A):=by
 refine F.ok ztR (λvs H Q E h=>?_) (λcdv Ar outer s H vs Q E hr h=>?_)
 ·obtain ⟨p,b,k,t,ks,n,rfl,_⟩:=h;rfl
 ·obtain ⟨p,b,k,t,ks,n,rfl,hF,q⟩:=h
  refine ⟨_,(W.h (zl (zG (zP zbV rfl T.n_len PySem.boot_len (zb (zf1 (zR hr) (zZ T.cl_Files T.na_Files_births (za 0)) (za 1) (zbq zd)) zd))))),?_⟩
  obtain ⟨dx,e1⟩:=hF.ob
  obtain ⟨kvs,e2,d⟩:=hF.births.ex
  simp_all only [e1,zay]
  refine ⟨⟨_,e2⟩,zero_le _,λp' H2 n2=>⟨_,Rd.same e2 n2.same,?_⟩⟩
  obtain ⟨a,ea,ha⟩:=zaQ.get d n n2.same n2.at_
  rw [zax,ea,zgD]
  exact ⟨_,.inr ha,by rw [length_map];exact q H2 n2.same⟩
theorem Dct.some_iff{α:Type}{R:V->α->Prop}{kvs:List (Str×V)}{t:List (Str×α)}(d:Dct R kvs t)(n:Str):(look kvs n).isSome=(look t n).isSome:=by
 rcases d.look n with ⟨v,l,e1,e2,_⟩|⟨e1,e2⟩<;>rw [e1,e2]<;>rfl
def zew(A:zh):Sp:=λvs H Q _=>∃(p b k:Addr)(t:Tab)(ks:List (Str×Tab))(n:Str),vs=[.ref p,.str n]/\zaC A H p b k t ks/\(look t n).isSome=true/\Q .non H
theorem zsu:zB ["self","file"] ["self","file"] (zg zcm):=⟨rfl,rfl,rfl,f!"",rfl,f!"",f!""⟩
theorem zq4{f:Addr}{fd:FuncData}(F:Fun K "refuse_if_none" "Files.refuse_if_none" zcm f fd)(T:Txt K mg A):zr P w K mg base CX0 true 1 f fd ["self","file"] (zew A):=by
 refine F.ok zsu (λvs H Q E h=>?_) (λcdv Ar outer s H vs Q E hr h=>?_)
 ·obtain ⟨p,b,k,t,ks,n,rfl,_⟩:=h;rfl
 ·obtain ⟨p,b,k,t,ks,n,rfl,hF,hn,q⟩:=h
  refine ⟨_,(W.h (zl (z7 (zad (zhq (zR hr)) (za 1) (zZ T.cl_Files T.na_Files_births (za 0)) rfl)
   (zl zdg)
   zas))),?_⟩
  obtain ⟨dx,e1⟩:=hF.ob
  obtain ⟨kvs,e2,d⟩:=hF.births.ex
  simp_all only [e1,zay]
  refine ⟨_,e2,?_⟩
  rw [zax,Dct.some_iff d n,hn]
  exact zdJ q
def zeE(A:zh):Sp:=λvs H Q _=>∃(p b k:Addr)(t:Tab)(ks:List (Str×Tab))(n:Str),vs=[.ref p,.str n]/\zaC A H p b k t ks/\(look ks n).isSome=true/\Q .non H
theorem zux:zB ["self","name"] ["self","name"] (zg zcn):=⟨rfl,rfl,rfl,f!"",rfl,f!"",f!""⟩
theorem zrY{f:Addr}{fd:FuncData}(F:Fun K "refuse_if_not_held" "Files.refuse_if_not_held" zcn f fd)(T:Txt K mg A):zr P w K mg base CX0 true 1 f fd ["self","name"] (zeE A):=by
 refine F.ok zux (λvs H Q E h=>?_) (λcdv Ar outer s H vs Q E hr h=>?_)
 ·obtain ⟨p,b,k,t,ks,n,rfl,_⟩:=h;rfl
 ·obtain ⟨p,b,k,t,ks,n,rfl,hF,hn,q⟩:=h
  refine ⟨_,(W.h (zl (z7 (zad (zhq (zR hr)) (za 1) (zZ T.cl_Files T.na_Files_kept (za 0)) rfl)
   (zl zdg)
   zas))),?_⟩
  obtain ⟨dx,e1⟩:=hF.ob
  obtain ⟨kk,e2,d⟩:=hF.kept
  simp_all only [e1,zbc]
  refine ⟨_,e2,?_⟩
  rw [zax,Dct.some_iff d n,hn]
  exact zdJ q
end
abbrev zcK:Stmt:=zam (top 10) 3
abbrev zck:Stmt:=zam (top 10) 4
abbrev zcB:Stmt:=zam (top 10) 5
section
variable {P:Program}{w:World}{K:Frag}{mg:Str->Option Value}{base:Heap}{A:zh}{b k:Addr}
theorem zfH{i a b:Int}(h1:a<=i)(h2:i<=b):zfc (.int i) a b=true:=by
 show (decide (a<=i)&&decide (i<=b))=true
 rw [decide_eq_true h1,decide_eq_true h2];rfl
theorem ze7{xs:List V}{i:Int}(h0:0<=i)(h1:i<=xs.length):zaq xs none (some i)=xs.take i.toNat:=by
 have e1:HT.sIx xs.length 0 none=0:=rfl
 have e2:HT.sIx xs.length xs.length (some i)=i.toNat:=by
  unfold HT.sIx
  simp only
  split<;>omega
 unfold zaq
 rw [e1,e2];simp
theorem zjP{xs:List V}{i:Int}(h0:0<=i)(h1:i<=xs.length+1):zaq xs (some i) none=xs.drop i.toNat:=by
 have e1:HT.sIx xs.length xs.length none=xs.length:=rfl
 have e2:HT.sIx xs.length 0 (some i)=min i.toNat xs.length:=by
  unfold HT.sIx
  simp only
  split<;>omega
 unfold zaq
 rw [e1,e2]
 by_cases h:i.toNat<=xs.length
 ·rw [Nat.min_eq_left h,take_of_length_le (by rw [length_drop];omega)]
 ·rw [Nat.min_eq_right (by omega),List.drop_eq_nil_of_le (le_refl _),List.drop_eq_nil_of_le (by omega)];simp
def zfs(A:zh):Sp:=λvs H Q _=>∃(p b k:Addr)(t:Tab)(ks:List (Str×Tab))(n:Str)(l:List Int)(i:Int),vs=[.ref p,.str n,.int i]/\zaC A H p b k t ks/\look t n=some l/\0<=i/\i<l.length/\∀H',zf H H'->Q (.int (l.getD i.toNat 0)) H'
theorem zox:zB ["self","file","place"] ["self","file","place"] (zg zcK):=⟨rfl,rfl,rfl,f!"",rfl,f!"",f!""⟩
theorem zk6{f:Addr}{fd:FuncData}(F:Fun K "birth" "Files.birth" zcK f fd)(T:Txt K mg A)(M_Files_refuse_if_none:GM P w K mg base true 1 A.Files "refuse_if_none" ["self","file"] (zew A))(M_Files_many:GM P w K mg base true 1 A.Files "many" ["self","file"] (zcl A))(Gd:GF P w K mg base true 2 "is_within" ["value","least","most"] zdK):zr P w K mg base CX0 true 4 f fd ["self","file","place"] (zfs A):=by
 refine F.ok zox (λvs H Q E h=>?_) (λcdv Ar outer s H vs Q E hr h=>?_)
 ·obtain ⟨p,b,k,t,ks,n,l,i,rfl,_⟩:=h;rfl
 ·obtain ⟨p,b,k,t,ks,n,l,i,rfl,hF,hn,i0,i1,q⟩:=h
  refine ⟨_,(W.h (zk (z6 (zae (za 0) T.cl_Files M_Files_refuse_if_none hr (zb (za 1) zd)))
   (zk (z7 (za7 (zaV (zC Gd hr rfl (zb (za 2) (zb zj (zb (zK ziv (zae (za 0) T.cl_Files M_Files_many hr (zb (za 1) zd)) zj) zd))))))
   (zl zdg)
   zas)
   (zl (zG (zY zai (zY (zb3 (zR hr)) (zZ T.cl_Files T.na_Files_births (za 0)) (za 1) (λ_ _=>rfl)) (za 2) (λ_ _=>rfl))))))),?_⟩
  obtain ⟨dx,e1⟩:=hF.ob
  simp_all only [e1,zay,zeG,zc3]
  refine ⟨p,b,k,t,ks,n,rfl,hF,by rw [hn];rfl,?_⟩
  simp_all only [e1,zay,zeG,zc3]
  refine ⟨p,b,k,t,ks,n,rfl,hF,λH1 s1=>?_⟩
  have F1:=hF.same s1
  obtain ⟨dx',e1'⟩:=F1.ob
  obtain ⟨kvs,e2,d⟩:=F1.births.ex
  have el:lk t n=l:=by unfold lk;rw [hn];rfl
  simp_all only []
  refine ⟨_,_,_,rfl,.int i,?_⟩
  rw [zfH i0 (by rw [el];omega)]
  simp_all only [e1',zay]
  refine ⟨_,e2,?_⟩
  rcases d.look n with ⟨v,l',d1,d2,a,ev,ha⟩|⟨_,d2⟩
  ·rw [hn] at d2
   cases d2
   subst ev
   refine ⟨.ref a,by rw [zax];exact d1,?_⟩
   rw [zfb]
   have hi:i.toNat<l.length:=by omega
   refine ⟨_,.inr ha,.int (l.getD i.toNat 0),?_,q H1 s1⟩
   have z:atI (l.map V.int) ((i.toNat:Nat):Int)=some (.int (l[i.toNat])):=zgu (by rw [getElem?_map,List.getElem?_eq_getElem hi];rfl)
   rw [show ((i.toNat:Nat):Int)=i by omega] at z
   rw [z,getD_eq_getElem?_getD,List.getElem?_eq_getElem hi];rfl
  ·rw [hn] at d2;cases d2
def zcr(A:zh):Sp:=λvs H Q _=>∃(p b k:Addr)(t:Tab)(ks:List (Str×Tab))(n:Str)(i x:Int),vs=[.ref p,.str n,.int i,.int x]/\zq A H p b k t ks/\0<=i/\i<=(lk t n).length/\(lk t n).length<=1000/\t.length<=1000 /\
 ∀H',But b H H'->zq A H' p b k (zQ t n ((lk t n).take i.toNat++[x]++(lk t n).drop (i.toNat+1))) ks->Q .non H'
theorem zi9:zB ["self","file","place","birth","births"] ["self","file","place","birth"] (zg zck):=⟨rfl,rfl,rfl,f!"",rfl,f!"",f!""⟩
theorem zm8{f:Addr}{fd:FuncData}(F:Fun K "put" "Files.put" zck f fd)(T:Txt K mg A)(M_Files_many:GM P w K mg base true 1 A.Files "many" ["self","file"] (zcl A))(Gd:GF P w K mg base true 2 "is_within" ["value","least","most"] zdK):zr P w K mg base CX0 true 4 f fd ["self","file","place","birth"] (zcr A):=by
 refine F.ok zi9 (λvs H Q E h=>?_) (λcdv Ar outer s H vs Q E hr h=>?_)
 ·obtain ⟨p,b,k,t,ks,n,i,x,rfl,_⟩:=h;rfl
 ·obtain ⟨p,b,k,t,ks,n,i,x,rfl,hF,i0,i1,l1,t1,q⟩:=h
  refine ⟨_,(W.h (zk (z7 (za7 (zaV (zC Gd hr rfl (zb (za 2) (zb zj (zb (zae (za 0) T.cl_Files M_Files_many hr (zb (za 1) zd)) zd))))))
   (zl zdg)
   zas)
   (zk (zI (i:=4) zi9.nd rfl (Or.inl rfl) (zf1 (zR hr) (zZ T.cl_Files T.na_Files_births (za 0)) (za 1) (zbq zd)))
   (zl (zbs (zK zeN (zK zeN (zdh zfF (za 4) zc9 (zcW (za 2))) (zbq (zb (za 3) zd))) (zdh zfF (za 4) (zcW (zK zeN (za 2) zj)) zc9)) (zbA (zZ T.cl_Files T.na_Files_births (za 0)) (za 1) (zbW (zR hr)))))))),?_⟩
  obtain ⟨dx,e1⟩:=hF.ob
  simp_all only [e1,zay,zc3]
  refine ⟨p,b,k,t,ks,n,rfl,hF.r,λH1 s1=>?_⟩
  have F1:=hF.same s1
  obtain ⟨dx',e1'⟩:=F1.ob
  obtain ⟨kvs,e2,d⟩:=F1.births.ex
  simp_all only []
  refine ⟨_,_,_,rfl,.int i,?_⟩
  rw [zfH i0 i1]
  simp_all only [e1',zay]
  refine ⟨⟨_,.inl e2⟩,zero_le _,λp1 H2 n2=>⟨_,.inl (n2.same _ _ e2),?_⟩⟩
  obtain ⟨a,ea,ha⟩:=zaQ.get d n n2.same n2.at_
  rw [zax,ea]
  simp_all only [ha]
  intro p2 H3 s3 e3
  refine ⟨by decide,λp3 H4 n4=>?_⟩
  rw [ze7 i0 (by rw [length_map];exact i1)] at e3
  have big:∀n:Nat,n<=100000->n<=sizeLine:=λn h=>le_trans h (by decide)
  refine .inr ⟨_,n4.same _ _ e3,_,n4.at_,big _ (by simp;omega),λp4 H5 s5 e5=>?_⟩
  have ha5:=s5 _ _ (n4.same _ _ (s3 _ _ ha))
  refine .inr ⟨_,ha5,λp6 H6 s6 e6=>?_⟩
  rw [zjP (by omega) (by rw [length_map];omega)] at e6
  refine .inr ⟨_,s6 _ _ e5,_,e6,big _ (by simp;omega),λp7 H7 s7 e7=>?_⟩
  have sB:zf H1 H7:=((((n2.same.trans s3).trans n4.same).trans s5).trans s6).trans s7
  have F7:=F1.same sB
  obtain ⟨dx7,e17⟩:=F7.ob
  simp_all only [e17,zay]
  refine ⟨_,sB _ _ e2,by rw [za3,d.length];exact Nat.lt_of_le_of_lt t1 (by decide),?_⟩
  rw [zch]
  have bt:∀xs,H7 b≠some (.tup xs):=λxs z=>by rw [sB _ _ e2] at z;cases z
  have et:(i+1).toNat=i.toNat+1:=by omega
  have d7:Dct (zau H7) kvs t:=d.imp λv a r=>r.same sB
  have r7:zau H7 (.ref p7) ((lk t n).take i.toNat++[x]++(lk t n).drop (i.toNat+1)):=⟨p7,rfl,by rw [e7,et];simp [map_take,List.map_drop]⟩
  refine q _ (λc o nc e=>by rw [ze nc];exact sB _ _ (s1 _ _ e)) (F7.setB But.upd zp ((d7.put n r7).imp λv a r=>r.but But.upd bt) (zc2 hF.births.nd))
def zbf(t:Tab)(n:Str)(m:Int):Tab:=if m=0 then zy t n else zQ t n ((lk t n).take m.toNat)
def zem(A:zh):Sp:=λvs H Q _=>∃(p b k:Addr)(t:Tab)(ks:List (Str×Tab))(n:Str)(l:List Int)(m:Int),vs=[.ref p,.str n,.int m]/\zq A H p b k t ks/\look t n=some l/\0<=m/\m<=l.length/\t.length<=1000/\∀H',But b H H'->zq A H' p b k (zbf t n m) ks->Q .non H'
theorem zoP:zB ["self","file","many"] ["self","file","many"] (zg zcB):=⟨rfl,rfl,rfl,f!"",rfl,f!"",f!""⟩
theorem ztV{f:Addr}{fd:FuncData}(F:Fun K "cut" "Files.cut" zcB f fd)(T:Txt K mg A)(M_Files_refuse_if_none:GM P w K mg base true 1 A.Files "refuse_if_none" ["self","file"] (zew A))(M_Files_many:GM P w K mg base true 1 A.Files "many" ["self","file"] (zcl A))(Gd:GF P w K mg base true 2 "is_within" ["value","least","most"] zdK):zr P w K mg base CX0 true 4 f fd ["self","file","many"] (zem A):=by
 refine F.ok zoP (λvs H Q E h=>?_) (λcdv Ar outer s H vs Q E hr h=>?_)
 ·obtain ⟨p,b,k,t,ks,n,l,m,rfl,_⟩:=h;rfl
 ·obtain ⟨p,b,k,t,ks,n,l,m,rfl,hF,hn,m0,m1,t1,q⟩:=h
  have hu:_<cLine:=lt_of_succ_lt (zR hr)
  refine ⟨_,(W.h (zk (z6 (zae (za 0) T.cl_Files M_Files_refuse_if_none hr (zb (za 1) zd)))
   (zk (z7 (za7 (zaV (zC Gd hr rfl (zb (za 2) (zb zj (zb (zae (za 0) T.cl_Files M_Files_many hr (zb (za 1) zd)) zd))))))
   (zl zdg)
   zas)
   (zl (z7 (zad (zd3 hu) (za 2) zj (zal _))
   (zl (zkg (zZ T.cl_Files T.na_Files_births (za 0)) (za 1)))
   (zl (zbs (zdh zfF (zY (zb3 (zR hr)) (zZ T.cl_Files T.na_Files_births (za 0)) (za 1) (λ_ _=>rfl)) zc9 (zcW (za 2))) (zbA (zZ T.cl_Files T.na_Files_births (za 0)) (za 1) (zbW (zR hr)))))))))),?_⟩
  obtain ⟨dx,e1⟩:=hF.ob
  simp_all only [e1,zay,zeG,zc3]
  refine ⟨p,b,k,t,ks,n,rfl,hF.r,by rw [hn];rfl,?_⟩
  simp_all only [e1,zay,zeG,zc3]
  refine ⟨p,b,k,t,ks,n,rfl,hF.r,λH1 s1=>?_⟩
  have F1:=hF.same s1
  obtain ⟨dx',e1'⟩:=F1.ob
  obtain ⟨kvs,e2,d⟩:=F1.births.ex
  have el:lk t n=l:=by unfold lk;rw [hn];rfl
  simp_all only []
  refine ⟨_,_,_,rfl,.int m,?_⟩
  rw [zfH m0 (by rw [el];omega)]
  simp_all only [e1',zay]
  have bt:∀xs,H1 b≠some (.tup xs):=λxs z=>by rw [e2] at z;cases z
  obtain ⟨v,l',d1,d2,a,ev,ha⟩:∃v l',look kvs n=some v/\look t n=some l'/\zau H1 v l':=by
   rcases d.look n with ⟨v,l',d1,d2,r⟩|⟨_,d2⟩
   ·exact ⟨v,l',d1,d2,r⟩
   ·rw [hn] at d2;cases d2
  rw [hn] at d2
  cases d2
  subst ev
  refine zdx (λh=>?_) (λh=>?_)
  ·have hm:m=0:=of_decide_eq_true h
   refine ⟨_,e2,by rw [zax,d1];rfl,?_⟩
   rw [zeL]
   have ec:zbf t n m=zy t n:=if_pos hm
   refine q _ (λc o nc e=>by rw [ze nc];exact s1 _ _ e) ?_
   rw [ec]
   exact F1.setB But.upd zp ((d.drop n).imp λv a r=>r.but But.upd bt) (zdP hF.births.nd)
  ·have hm : ¬ m=0:=λz=>h (decide_eq_true z)
   refine ⟨_,.inl e2,.ref a,by rw [zax];exact d1,?_⟩
   simp_all only [ha]
   intro p2 H2 s2 ep
   rw [ze7 m0 (by rw [length_map];exact m1)] at ep
   have F2:=F1.same s2
   obtain ⟨dx2,e12⟩:=F2.ob
   simp_all only [e12,zay]
   refine ⟨_,s2 _ _ e2,by rw [za3,d.length];exact Nat.lt_of_le_of_lt t1 (by decide),?_⟩
   rw [zch]
   have bt2:∀xs,H2 b≠some (.tup xs):=λxs z=>by rw [s2 _ _ e2] at z;cases z
   have d2:Dct (zau H2) kvs t:=d.imp λv a r=>r.same s2
   have r2:zau H2 (.ref p2) ((lk t n).take m.toNat):=⟨p2,rfl,by rw [ep,el,map_take]⟩
   have ec:zbf t n m=zQ t n ((lk t n).take m.toNat):=if_neg hm
   refine q _ (λc o nc e=>by rw [ze nc];exact s2 _ _ (s1 _ _ e)) ?_
   rw [ec]
   exact F2.setB But.upd zp ((d2.put n r2).imp λv a r=>r.but But.upd bt2) (zc2 hF.births.nd)
end
abbrev zcy:Stmt:=zam (top 10) 6
abbrev zco:Stmt:=zam (top 10) 7
abbrev zc5:Stmt:=zam (top 10) 8
abbrev zcx:Stmt:=zam (top 10) 9
abbrev zcR:Stmt:=zam (top 10) 12
abbrev zdl:Stmt:=zam (top 10) 13
section
variable {P:Program}{w:World}{K:Frag}{mg:Str->Option Value}{base:Heap}{A:zh}{b k:Addr}
def zgM(A:zh):Sp:=λvs H Q _=>∃(p b k:Addr)(t:Tab)(ks:List (Str×Tab)),vs=[.ref p]/\zaC A H p b k t ks/\ks.length<64/\∀l H',New H l (.lst ((zaH (names ks)).map V.str)) H'->Q (.ref l) H'
theorem znh:zB ["self"] ["self"] (zg zc5):=⟨rfl,rfl,rfl,f!"",rfl,f!"",f!""⟩
theorem zlo{f:Addr}{fd:FuncData}(F:Fun K "held" "Files.held" zc5 f fd)(T:Txt K mg A):zr P w K mg base CX0 true 1 f fd ["self"] (zgM A):=by
 refine F.ok znh (λvs H Q E h=>?_) (λcdv Ar outer s H vs Q E hr h=>?_)
 ·obtain ⟨p,b,k,t,ks,rfl,_⟩:=h;rfl
 ·obtain ⟨p,b,k,t,ks,rfl,hF,hl,q⟩:=h
  refine ⟨_,(W.h (zl (zG (zP (zcp rfl) rfl T.n_sorted boot_sorted (zb (zZ T.cl_Files T.na_Files_kept (za 0)) zd))))),?_⟩
  obtain ⟨dx,e1⟩:=hF.ob
  obtain ⟨kk,e2,d⟩:=hF.kept
  simp_all only [e1,zbc]
  refine ⟨kk,e2,by rw [d.length];exact hl,?_⟩
  rw [d.names]
  exact q
structure Has(A:zh)(H:Hp)(p:Addr)(t:Tab):Prop where
 ob:∃b k dx,H p=some (.ins A.Files dx (zt b k))/\za9 H b t
theorem zq.has{H:Hp}{p:Addr}{t:Tab}{ks:List (Str×Tab)}(h:zq A H p b k t ks):Has A H p t:=let ⟨dx,e⟩:=h.ob;⟨b,k,dx,e,h.births.r⟩
theorem zao.has{H:Hp}{p:Addr}{t:Tab}(h:zao A H p b k t):Has A H p t:=let ⟨dx,e⟩:=h.ob;⟨b,k,dx,e,h.births⟩
def zdV(A:zh):Sp:=λvs H Q _=>∃(p:Addr)(t:Tab),vs=[.ref p]/\Has A H p t/\∀q b' k' H',zf H H'->H b'=none->H k'=none->H q=none->zao A H' q b' k' t->zaQ H' b' t->Q (.ref q) H'
theorem zkp:zB ["self","other"] ["self"] (zg zcR):=⟨rfl,rfl,rfl,f!"",rfl,f!"",f!""⟩
theorem zpg{f:Addr}{fd:FuncData}(F:Fun K "bare" "Files.bare" zcR f fd)(T:Txt K mg A)(Ge:GC P w K mg base true 1 "Files" A.Files ["self"] (zd2 A)):zr P w K mg base CX0 true 3 f fd ["self"] (zdV A):=by
 refine F.ok zkp (λvs H Q E h=>?_) (λcdv Ar outer s H vs Q E hr h=>?_)
 ·obtain ⟨p,t,rfl,_⟩:=h;rfl
 ·obtain ⟨p,t,rfl,⟨b,k,dx,e1,hB⟩,q⟩:=h
  refine ⟨_,(W.h (zk (zI (i:=1) zkp.nd rfl (Or.inl rfl) (zfW Ge hr rfl))
   (zk (zbN T.cl_Files T.na_Files_births (za 1) (zbw zfy rfl T.n_dict boot_dict (zb (zZ T.cl_Files T.na_Files_births (za 0)) zd)))
   (zl (zG (za 1)))))),?_⟩
  obtain ⟨kvs,e2,d⟩:=hB.ex
  simp_all only [e1,zay]
  refine λx dx2 H2 nI=>⟨x,dx2,rfl,nI.at_,λb1 k1 H3 s3 nb nk eb ek nbk ex=>⟨rfl,?_⟩⟩
  have px:∀c o,H c=some o->c≠x:=λc o e z=>by have:=nI.no;rw [<- z,e] at this;cases this
  have s03:∀c o,H c=some o->H3 c=some o:=λc o e=>s3 c o (px c o e) (nI.same c o e)
  have e13:=s03 _ _ e1
  simp_all only [e13,zay]
  refine ⟨_,Rd.same e2 s03,λb2 H4 n4=>⟨dx2,_,n4.same _ _ ex,by show 2<1000;decide,?_⟩⟩
  have eF:zN ("births":Str) (V.ref b2) (zt b1 k1)=zt b2 k1:=by simp only [zN,zt,if_true]
  rw [eF]
  have b2x:b2≠x:=λz=>by have:=n4.no;rw [z,ex] at this;cases this
  have k1x:k1≠x:=λz=>by rw [z,ex] at ek;cases ek
  have sF:zf H (upd H4 x (.ins A.Files dx2 (zt b2 k1))):=λc o e=>by rw [ze (px c o e)];exact n4.same _ _ (s03 c o e)
  have fr:∀c,H3 c=none->H c=none:=λc e=>by
   cases h:H c with
   | none=>rfl
   | some o=>rw [s03 c o h] at e;cases e
  have k0:H k1=none:=nI.same.free nk
  refine q x b2 k1 _ sF (fr b2 n4.no) k0 nI.no ⟨⟨dx2,zp⟩,⟨⟨kvs,.inl (by rw [ze b2x];exact n4.at_),d.imp λv a r=>r.same sF⟩,hB.nd⟩,.inl (by rw [ze k1x];exact n4.same _ _ ek)⟩ ⟨⟨kvs,by rw [ze b2x];exact n4.at_,d.imp λv a r=>r.same sF⟩,hB.nd⟩
theorem zfq{α:Type}{t:List (Str×α)}{n:Str}{a:α}{p:Str×α}(h:p∈zQ t n a):p∈t\/p=(n,a):=by
 unfold zQ at h
 split at h
 ·obtain ⟨q,hq,e⟩:=mem_map.mp h
  by_cases c:q.1=n
  ·rw [if_pos c] at e;right;rw [<- e,c]
  ·rw [if_neg c] at e;left;rw [<- e];exact hq
 ·rcases mem_append.mp h with h|h
  ·exact .inl h
  ·exact .inr (by simpa using h)
def zM(A:zh)(H:Hp)(k c:Addr):Prop:=∀kvs,H k=some (.dK kvs)->∀pv∈kvs,∀q b' k' dx,pv.2 = .ref q->H q=some (.ins A.Files dx (zt b' k'))->b'≠c/\k'≠c
theorem zdB{b k b' k':Addr}(h:zt b k=zt b' k'):b=b'/\k=k':=by
 unfold zt at h
 injection h with h1 h2
 injection h1 with _ h1
 injection h2 with h2 _
 injection h2 with _ h2
 injection h1 with h1
 injection h2 with h2
 exact ⟨h1,h2⟩
def zgs(A:zh):Sp:=λvs H Q _=>∃(p b k:Addr)(t:Tab)(ks:List (Str×Tab))(n:Str)(q:Addr)(u:Tab),vs=[.ref p,.str n,.ref q]/\zq A H p b k t ks/\Has A H q u/\ks.length<=1000/\∀H',But k H H'->zq A H' p b k t (zQ ks n u)->(∀c,H c≠none->zM A H k c->zM A H' k c)->Q .non H'
theorem zoT:zB ["self","name","files"] ["self","name","files"] (zg zdl):=⟨rfl,rfl,rfl,f!"",rfl,f!"",f!""⟩
theorem zuk{f:Addr}{fd:FuncData}(F:Fun K "keep" "Files.keep" zdl f fd)(T:Txt K mg A)(M_Files_bare:GM P w K mg base true 3 A.Files "bare" ["self"] (zdV A)):zr P w K mg base CX0 true 4 f fd ["self","name","files"] (zgs A):=by
 refine F.ok zoT (λvs H Q E h=>?_) (λcdv Ar outer s H vs Q E hr h=>?_)
 ·obtain ⟨p,b,k,t,ks,n,q,u,rfl,_⟩:=h;rfl
 ·obtain ⟨p,b,k,t,ks,n,qa,u,rfl,hF,hQ,kl,q⟩:=h
  refine ⟨_,(W.h (zl (zbs (zaF (za 2) T.cl_Files M_Files_bare hr) (zbA (zZ T.cl_Files T.na_Files_kept (za 0)) (za 1) (zbW (zR hr)))))),?_⟩
  obtain ⟨dx,e1⟩:=hF.ob
  obtain ⟨bq,kq,dxq,eq1,_⟩:=hQ.ob
  simp_all only [eq1,zgP]
  refine ⟨qa,u,rfl,hQ,λx b' k' H1 s1 nb nk nx hB _=>?_⟩
  have F1:=hF.same s1
  obtain ⟨dx1,e11⟩:=F1.ob
  obtain ⟨kk,e2,d⟩:=F1.kept
  obtain ⟨kvb,eb,_⟩:=hF.births.ex
  obtain ⟨kk0,ek,_⟩:=hF.kept
  simp_all only [e11,zbc]
  refine ⟨_,e2,by rw [za3,d.length];exact Nat.lt_of_le_of_lt kl (by decide),?_⟩
  rw [zch]
  have ne:∀c o,H c=some o->∀e,H e=none->e≠c:=λc o h e he z=>by rw [z,h] at he;cases he
  have r:za4 A H1 b k (.ref x) u:=⟨x,b',k',rfl,hB,ne _ _ eb _ nb,ne _ _ ek _ nb,ne _ _ eb _ nk,ne _ _ ek _ nk⟩
  refine q _ (λc o nc e=>by rw [ze nc];exact s1 _ _ e) (F1.setK But.upd zp ((d.put n r).imp λv a r=>r.but But.upd e2) (zc2 hF.ndk)) λc hc av kvs hk pv hpv q1 b1 k1 dx1 ev eq2=>?_
  rw [zp] at hk
  cases hk
  have qk:q1≠k:=λz=>by rw [z,zp] at eq2;cases eq2
  rw [ze qk] at eq2
  unfold sk at hpv
  obtain ⟨pv',hpv',rfl⟩:=mem_map.mp hpv
  have ev:pv'.2 = .ref q1:=ev
  rcases zfq hpv' with h|rfl
  ·obtain ⟨kk1,ek1,dk1⟩:=hF.kept
   have:=s1 _ _ ek1
   rw [e2] at this
   have hkk:kk1.map (·.2)=kk.map (·.2):=by
    have h2:sk kk1=sk kk:=by injection this with this;injection this with this;exact this.symm
    have h3:=congrArg (List.map (·.2)) h2
    unfold sk at h3
    rw [map_map,map_map] at h3
    exact h3
   have hm:pv'.2∈kk1.map (·.2):=by rw [hkk];exact mem_map.mpr ⟨_,h,rfl⟩
   obtain ⟨pw,hpw,epw⟩:=mem_map.mp hm
   obtain ⟨j,hj,ej⟩:=getElem_of_mem hpw
   obtain ⟨a2,_,q2,b2,k2,ev2,hB2,_⟩:=Dct.at dk1 (List.getElem?_eq_getElem hj)
   rw [ej,epw,ev] at ev2
   cases ev2
   obtain ⟨dx2,e22⟩:=hB2.ob
   have e33:=s1 _ _ e22
   rw [eq2] at e33
   injection e33 with e33
   injection e33 with _ _ e33
   obtain ⟨r1,r2⟩:=zdB e33
   subst r1 r2
   exact av _ ek1 _ (by unfold sk;exact mem_map.mpr ⟨pw,hpw,rfl⟩) q1 b1 k1 dx2 (show pw.2=_ by rw [epw,ev]) e22
  ·have ev:V.ref x = .ref q1:=ev
   cases ev
   obtain ⟨dx2,e22⟩:=hB.ob
   rw [eq2] at e22
   injection e22 with e22
   injection e22 with _ _ e22
   obtain ⟨r1,r2⟩:=zdB e22
   subst r1 r2
   exact ⟨λz=>hc (by rw [<- z];exact nb),λz=>hc (by rw [<- z];exact nk)⟩
def zdG(A:zh):Sp:=λvs H Q _=>∃(p b k:Addr)(t:Tab)(ks:List (Str×Tab))(n:Str),vs=[.ref p,.str n]/\zq A H p b k t ks/\look ks n=none/\ks.length<=1000/\∀H',But k H H'->zq A H' p b k t (zQ ks n t)->(∀c,H c≠none->zM A H k c->zM A H' k c)->Q .non H'
theorem ztM:zB ["self","name"] ["self","name"] (zg zcy):=⟨rfl,rfl,rfl,f!"",rfl,f!"",f!""⟩
theorem zlI{f:Addr}{fd:FuncData}(F:Fun K "hold" "Files.hold" zcy f fd)(T:Txt K mg A)(M_Files_keep:GM P w K mg base true 4 A.Files "keep" ["self","name","files"] (zgs A)):zr P w K mg base CX0 true 5 f fd ["self","name"] (zdG A):=by
 refine F.ok ztM (λvs H Q E h=>?_) (λcdv Ar outer s H vs Q E hr h=>?_)
 ·obtain ⟨p,b,k,t,ks,n,rfl,_⟩:=h;rfl
 ·obtain ⟨p,b,k,t,ks,n,rfl,hF,hn,kl,q⟩:=h
  refine ⟨_,(W.h (zk (z7 (zad (zo5 (zR hr)) (za 1) (zZ T.cl_Files T.na_Files_kept (za 0)) rfl)
   (zl zdg)
   zas)
   (zl (z6 (zae (za 0) T.cl_Files M_Files_keep hr (zb (za 1) (zb (za 0) zd))))))),?_⟩
  obtain ⟨dx,e1⟩:=hF.ob
  obtain ⟨kk,e2,d⟩:=hF.kept
  simp_all only [e1,zbc,zmb]
  refine ⟨_,.inl e2,?_⟩
  rw [zax,Dct.some_iff d n,hn]
  exact zdJ ⟨p,b,k,t,ks,n,p,t,rfl,hF,hF.has,kl,q⟩
def zgv(A:zh):Sp:=λvs H Q _=>∃(p b k:Addr)(t:Tab)(ks:List (Str×Tab))(n:Str),vs=[.ref p,.str n]/\zq A H p b k t ks/\(look ks n).isSome=true/\∀H',But k H H'->zq A H' p b k t (zy ks n)->(∀c,zM A H k c->zM A H' k c)->Q .non H'
theorem zpd:zB ["self","name"] ["self","name"] (zg zco):=⟨rfl,rfl,rfl,f!"",rfl,f!"",f!""⟩
theorem znr{f:Addr}{fd:FuncData}(F:Fun K "free" "Files.free" zco f fd)(T:Txt K mg A)(M_Files_refuse_if_not_held:GM P w K mg base true 1 A.Files "refuse_if_not_held" ["self","name"] (zeE A)):zr P w K mg base CX0 true 3 f fd ["self","name"] (zgv A):=by
 refine F.ok zpd (λvs H Q E h=>?_) (λcdv Ar outer s H vs Q E hr h=>?_)
 ·obtain ⟨p,b,k,t,ks,n,rfl,_⟩:=h;rfl
 ·obtain ⟨p,b,k,t,ks,n,rfl,hF,hn,q⟩:=h
  refine ⟨_,(W.h (zk (z6 (zae (za 0) T.cl_Files M_Files_refuse_if_not_held hr (zb (za 1) zd)))
   (zl (zkg (zZ T.cl_Files T.na_Files_kept (za 0)) (za 1))))),?_⟩
  obtain ⟨dx,e1⟩:=hF.ob
  obtain ⟨kk,e2,d⟩:=hF.kept
  simp_all only [e1,zbc,zeT]
  refine ⟨p,b,k,t,ks,n,rfl,hF.r,hn,?_⟩
  simp_all only [e1,zbc,zeT]
  refine ⟨_,e2,by rw [zax,Dct.some_iff d n];exact hn,?_⟩
  rw [zeL]
  refine q _ But.upd (hF.setK But.upd zp ((d.drop n).imp λv a r=>r.but But.upd e2) (zdP hF.ndk)) λc av kvs hk pv hpv q1 b1 k1 dx1 ev eq2=>?_
  rw [zp] at hk
  cases hk
  have qk:q1≠k:=λz=>by rw [z,zp] at eq2;cases eq2
  rw [ze qk] at eq2
  refine av _ e2 pv ?_ q1 b1 k1 dx1 ev eq2
  unfold sk zy at hpv
  obtain ⟨pv',hpv',rfl⟩:=mem_map.mp hpv
  unfold sk
  exact mem_map.mpr ⟨pv',(mem_filter.mp hpv').1,rfl⟩
def zg3(A:zh):Sp:=λvs H Q _=>∃(p b k:Addr)(t:Tab)(ks:List (Str×Tab))(n:Str)(u:Tab),vs=[.ref p,.str n]/\zaC A H p b k t ks/\look ks n=some u/\∀q b' k' H',zf H H'->H b'=none->H k'=none->H q=none->zao A H' q b' k' u->zaQ H' b' u->Q (.ref q) H'
theorem zrj:zB ["self","name"] ["self","name"] (zg zcx):=⟨rfl,rfl,rfl,f!"",rfl,f!"",f!""⟩
theorem zpy{f:Addr}{fd:FuncData}(F:Fun K "of_held" "Files.of_held" zcx f fd)(T:Txt K mg A)(M_Files_refuse_if_not_held:GM P w K mg base true 1 A.Files "refuse_if_not_held" ["self","name"] (zeE A))(M_Files_bare:GM P w K mg base true 3 A.Files "bare" ["self"] (zdV A)):zr P w K mg base CX0 true 4 f fd ["self","name"] (zg3 A):=by
 refine F.ok zrj (λvs H Q E h=>?_) (λcdv Ar outer s H vs Q E hr h=>?_)
 ·obtain ⟨p,b,k,t,ks,n,u,rfl,_⟩:=h;rfl
 ·obtain ⟨p,b,k,t,ks,n,u,rfl,hF,hn,q⟩:=h
  refine ⟨_,(W.h (zk (z6 (zae (za 0) T.cl_Files M_Files_refuse_if_not_held hr (zb (za 1) zd)))
   (zl (zG (zaF (zY (zb3 (zR hr)) (zZ T.cl_Files T.na_Files_kept (za 0)) (za 1) (λ_ _=>rfl)) T.cl_Files M_Files_bare hr))))),?_⟩
  obtain ⟨dx,e1⟩:=hF.ob
  obtain ⟨kk,e2,d⟩:=hF.kept
  simp_all only [e1,zbc,zeT]
  refine ⟨p,b,k,t,ks,n,rfl,hF,by rw [hn];rfl,?_⟩
  simp_all only [e1,zbc,zeT]
  refine ⟨_,e2,?_⟩
  rcases d.look n with ⟨v,u',d1,d2,x,b',k',ev,hB,_⟩|⟨_,d2⟩
  ·rw [hn] at d2
   cases d2
   subst ev
   obtain ⟨dxx,exx⟩:=hB.ob
   refine ⟨.ref x,by rw [zax];exact d1,x,rfl,dxx,_,exx,zgP,x,u,rfl,hB.has,q⟩
  ·rw [hn] at d2;cases d2
end
theorem zqm(a b:Str):leS a b\/leS b a:=by
 unfold leS
 rw [ltCps_eq,ltCps_eq]
 by_cases h:PyProof.Rows.strKind.blt b.cps.toList a.cps.toList=true
 ·exact .inr (KeyOrd.klt_asymm (O:=PyProof.Rows.strKind.toKeyOrd) h)
 ·exact .inl (by simpa using h)
theorem zoZ{a b c:Str}(h1:leS a b)(h2:leS b c):leS a c:=by
 unfold leS at *
 rw [ltCps_eq] at *
 exact KeyOrd.kle_trans (O:=PyProof.Rows.strKind.toKeyOrd) h1 h2
theorem zh1(x:Str):∀l:List Str,l.Pairwise leS->∃m:List Str,m.Perm (x::l)/\m.Pairwise leS
 | [],_=>⟨[x],Perm.refl _,by simp⟩
 | y::l,h=>by
  rcases zqm x y with hx|hx
  ·refine ⟨x::y::l,Perm.refl _,pairwise_cons.mpr ⟨λz hz=>?_,h⟩⟩
   rcases mem_cons.mp hz with rfl|hz
   ·exact hx
   ·exact zoZ hx ((pairwise_cons.mp h).1 z hz)
  ·obtain ⟨m,p,hm⟩:=zh1 x l (pairwise_cons.mp h).2
   refine ⟨y::m,(Perm.cons y p).trans (Perm.swap x y l),pairwise_cons.mpr ⟨λz hz=>?_,hm⟩⟩
   rcases mem_cons.mp (p.mem_iff.mp hz) with rfl|hz
   ·exact hx
   ·exact (pairwise_cons.mp h).1 z hz
theorem zkd:∀ks:List Str,∃ss:List Str,ss.Perm ks/\ss.Pairwise leS
 | []=>⟨[],Perm.refl _,.nil⟩
 | x::ks=>by
  obtain ⟨ss,p,h⟩:=zkd ks
  obtain ⟨m,p2,h2⟩:=zh1 x ss h
  exact ⟨m,p2.trans (Perm.cons x p),h2⟩
theorem zbz(ks:List Str):(zaH ks).Perm ks/\(zaH ks).Pairwise leS:=by
 obtain ⟨ss,p,h⟩:=zkd ks
 have e:=zj6 p (sortedS_of_pairwise ss h)
 rw [<- e];exact ⟨p,h⟩
theorem zjf{ks ls:List Str}(p:ks.Perm ls):zaH ks=zaH ls:=zfw (((zbz ks).1.trans p).trans (zbz ls).1.symm) (zbz ks).2 (zbz ls).2
theorem zuz{α:Type}{t u:List (Str×α)}(h:z5 t u)(ht:(names t).Nodup)(hu:(names u).Nodup):zaH (names t)=zaH (names u):=zjf (h.names ht hu)
theorem zg6{α:Type}{t u:List (Str×α)}(h:z5 t u)(ht:(names t).Nodup)(hu:(names u).Nodup):t.length=u.length:=by
 have:=(h.names ht hu).length_eq
 simpa [names] using this
section
variable {P:Program}{w:World}{K:Frag}{mg:Str->Option Value}{base:Heap}{A:zh}{b k:Addr}
theorem zao.files{H:Hp}{q:Addr}{t:Tab}(h:zao A H q b k t):zaC A H q b k t []:=⟨h.ob,h.births,⟨[],h.kept,.nil⟩,by simp [names]⟩
end
abbrev zbI:Stmt:=zam (top 10) 10
theorem FS.freeze{H:Hp}{d:Addr}{o:Obj}{kvs:List (Key×V)}(e:H d=some (.dK kvs)):FS H (upd H d (.frz o (.dK kvs))):=by
 refine ⟨λa u n m h=>?_,λa xs r=>?_⟩
 ·rw [ze (λz=>by subst z;rw [e] at h;cases h;exact n _ rfl)];exact h
 ·by_cases z:a=d
  ·subst z
   rcases r with r|⟨o',r⟩
   ·rw [e] at r;cases r;exact .inr ⟨o,zp⟩
   ·rw [e] at r;cases r
  ·unfold Rd;rw [ze z];exact r
theorem FS.thaw{H:Hp}{d:Addr}{o:Obj}{kvs:List (Key×V)}(e:H d=some (.frz o (.dK kvs))):FS H (upd H d (.dK kvs)):=by
 refine ⟨λa u n m h=>?_,λa xs r=>?_⟩
 ·rw [ze (λz=>by subst z;rw [e] at h;cases h;exact m _ _ rfl)];exact h
 ·by_cases z:a=d
  ·subst z
   rcases r with r|⟨o',r⟩
   ·rw [e] at r;cases r
   ·rw [e] at r;cases r;exact .inl zp
  ·unfold Rd;rw [ze z];exact r
theorem zdO{α β:Type}{R:α->β->Prop}{l1 l2:List α}{m1 m2:List β}(h1:Paired R l1 m1)(h2:Paired R l2 m2):Paired R (l1++l2) (m1++m2):=by
 induction h1 with
 | nil=>exact h2
 | cons r _ ih=>exact .cons r ih
def zA(t:Tab):List Int:=t.flatMap (·.2)
def zag(t:Tab)(ks:List (Str×Tab)):List Int:=zA t++ks.flatMap λp=>zA p.2
section
variable {P:Program}{w:World}{K:Frag}{mg:Str->Option Value}{base:Heap}{A:zh}
def zgO(H:Hp)(v:V)(t:Tab):Prop:=∃b,v = .ref b/\za9 H b t
theorem zlg{ns:List Int}{n:Int}:ns.length<=(zx ns n).length:=by
 unfold zx
 split
 ·exact le_refl _
 ·simp
theorem zcI:∀{l ns:List Int},ns.length<=(l.foldl zx ns).length
 | [],ns=>le_refl _
 | n::l,ns=>le_trans (zlg (n:=n)) (zcI (l:=l) (ns:=zx ns n))
theorem zik{l ns:List Int}{i:Nat}:((l.take i).foldl zx ns).length<=(l.foldl zx ns).length:=by
 have h:=zcI (l:=l.drop i) (ns:=(l.take i).foldl zx ns)
 rw [<- foldl_append,List.take_append_drop] at h
 exact h
theorem zjh{l ns:List Int}{i:Nat}{n:Int}(h:l[i]?=some n):(l.take (i+1)).foldl zx ns=zx ((l.take i).foldl zx ns) n:=by
 rw [take_add_one,h,foldl_append]
 rfl
theorem zmI{Hx:Hp}{a:Addr}{l:List Int}(h:Hx a=some (.tup (l.map V.int))){x y z:Option V}{ns:List Int}(few:(l.foldl zx ns).length<3000){N:L2.St->List Int->Hp->Prop}(hN:∀z',N [x,y,z'] (l.foldl zx ns) Hx) :
  za1 (Itt K a) (zaM 2) (zcd (zbp 2)) [x,y,z] ns Hx N:=by
 refine za1.tup (xs:=l.map V.int) (λi τ ns' H'=>H'=Hx/\(∃z',τ=[x,y,z'])/\ns'=(l.take i).foldl zx ns) (λi τ ns H ⟨e,_⟩=>e ▸ .inl (.inl h)) ⟨rfl,⟨z,rfl⟩,rfl⟩ ?_ ?_
 ·rintro N' i v τ ns' H' hv ⟨rfl,⟨z',rfl⟩,rfl⟩ hN'
  rw [getElem?_map] at hv
  obtain ⟨n,hn,rfl⟩:=map_eq_some_iff.mp hv
  simp_all only []
  exact ⟨Nat.lt_of_le_of_lt zik few,hN' _ _ _ ⟨rfl,⟨_,rfl⟩,(zjh hn).symm⟩⟩
 ·rintro τ ns' H' ⟨rfl,⟨z',rfl⟩,rfl⟩
  rw [length_map,take_of_length_le (le_refl _)]
  exact hN z'
theorem zgx{u:Tab}{i:Nat}{p:Str×List Int}(h:u[i]?=some p):zA (u.take (i+1))=zA (u.take i)++p.2:=by
 unfold zA
 rw [take_add_one,h,flatMap_append]
 simp
theorem zi3{u:Tab}{i:Nat}:∃r,zA u=zA (u.take i)++r:=⟨zA (u.drop i),by unfold zA;rw [<- flatMap_append,List.take_append_drop]⟩
theorem ziC{Hx:Hp}{d:Addr}{o:Obj}{kvs:List (Str×V)}{u:Tab}(h:Hx d=some (.frz o (.dK (sk kvs))))(dc:Dct (zau Hx) kvs u){x y z:Option V}{ns:List Int}(few:((zA u).foldl zx ns).length<3000){N:L2.St->List Int->Hp->Prop}(hN:∀y' z',N [x,y',z'] ((zA u).foldl zx ns) Hx) :
  za1 (Itw d o (sk kvs)) (zaM 1) (zbX (zeg K (zbp 1)) (zaM 2) (zcd (zbp 2))) [x,y,z] ns Hx N:=by
 have hl:=dc.length
 refine za1.vals (λi τ ns' H'=>H'=Hx/\(∃y' z',τ=[x,y',z'])/\ns'=(zA (u.take i)).foldl zx ns) (λi τ ns H ⟨e,_⟩=>e ▸ h) ⟨rfl,⟨y,z,rfl⟩,rfl⟩ ?_ ?_
 ·rintro N' i p τ ns' H' hp ⟨rfl,⟨y',z',rfl⟩,rfl⟩ hN'
  obtain ⟨pv,hpv,rfl⟩:∃pv,kvs[i]?=some pv/\p=(.inr pv.1,pv.2):=by
   unfold sk at hp
   rw [getElem?_map] at hp
   obtain ⟨pv,e1,e2⟩:=map_eq_some_iff.mp hp
   exact ⟨pv,e1,e2.symm⟩
  obtain ⟨l,hu,a,ea,ha⟩:=Dct.at dc hpv
  simp_all only [ea]
  have fw:(l.foldl zx ((zA (u.take i)).foldl zx ns)).length<3000:=by
   have hs:=zgx hu
   rw [<- foldl_append,<- hs]
   obtain ⟨r,e⟩:=zi3 (u:=u) (i:=i+1)
   rw [e,foldl_append] at few
   exact Nat.lt_of_le_of_lt zcI few
  refine ⟨⟨_,.inl (.inl ha)⟩,zmI ha fw λz2=>hN' _ _ _ ⟨rfl,⟨_,_,rfl⟩,?_⟩⟩
  have hs:=zgx hu
  rw [<- foldl_append,<- hs]
 ·rintro τ ns' H' ⟨rfl,⟨y',z',rfl⟩,rfl⟩
  have e:(sk kvs).length=u.length:=by rw [<- hl];simp [sk]
  rw [e,take_of_length_le (le_refl _)]
  exact hN y' z'
structure LvI(Hf:Hp)(k:Addr)(o:Obj)(kk:List (Str×V))(ks:List (Str×Tab))(i:Nat)(τ:L2.St)(ys:List V)(H':Hp):Prop where
 ex:∃t1,τ=[t1]
 ys:Paired (zgO Hf) ys ((ks.take i).map (·.2))
 same:zf Hf H'
structure OuI(H4:Hp)(us:List Tab)(i:Nat)(τ:L2.St)(ns:List Int)(H':Hp):Prop where
 ex:∃x y z,τ=[x,y,z]
 ns:ns=((us.take i).flatMap zA).foldl zx []
 same:zf H4 H'
def zgi(A:zh):Sp:=λvs H Q _=>∃(p b k:Addr)(t:Tab)(ks:List (Str×Tab)),vs=[.ref p]/\zq A H p b k t ks/\(uniq (zag t ks)).length<64/\ks.length<=1000 /\
 ∀l (ns:List Int) H',zf H H'->H l=none->H' l=some (.lst (ns.map V.int))->ns.Perm (uniq (zag t ks))->ns.Pairwise (·<=·)->Q (.ref l) H'
theorem zku:zB ["self","tables"] ["self"] (zg zbI):=⟨rfl,rfl,rfl,f!"",rfl,f!"",f!""⟩
theorem zoq:zaW { kind:=.function,names:=[(Str.ofString ".0",.local),(Str.ofString "files",.local)],isGenerator:=false,isCoroutine:=false,more:=[] } (zg zbI).names ["self","tables"] ["files"] [none]=true:=by decide +kernel
theorem zuS:(["files"]:List Str).Nodup:=by decide +kernel
theorem zpO:zaW { kind:=.function,names:=[(Str.ofString ".0",.local),(Str.ofString "table",.local),(Str.ofString "births",.local),(Str.ofString "birth",.local)],isGenerator:=false,isCoroutine:=false,more:=[] } (zg zbI).names ["self","tables"] ["table","births","birth"] [none,none,none]=true:=by decide +kernel
theorem zf2:(["table","births","birth"]:List Str).Nodup:=by decide +kernel
theorem zqs{f:Addr}{fd:FuncData}(F:Fun K "living" "Files.living" zbI f fd)(T:Txt K mg A):zr P w K mg base CX0 true 1 f fd ["self"] (zgi A):=by
 refine F.ok zku (λvs H Q E h=>?_) (λcdv Ar outer s H vs Q E hr h=>?_)
 ·obtain ⟨p,b,k,t,ks,rfl,_⟩:=h;rfl
 ·obtain ⟨p,b,k,t,ks,rfl,hF,h64,hk,q⟩:=h
  refine ⟨_,(W.h (zk (zI (i:=1) zku.nd rfl (Or.inl rfl) (zK zaA (zab (zb (zZ T.cl_Files T.na_Files_births (za 0)) zd)) (zoa (zcc (λ_=>rfl) (zaj.of zoq) (zhg (zZ T.cl_Files T.na_Files_kept (za 0))) (λ_ _ _ _ _=>(zU (i:=0) zuS rfl (Or.inl rfl))) (λ_ _ _ _ _=>zbD) (λ_ _ _ _ _=>(zZ T.cl_Files T.na_Files_births (za 0)))))))
   (zl (zG (zP (zqT rfl) rfl T.n_sorted boot_sorted (zb (zp9 (λ_=>rfl) (λ_=>rfl) (λ_=>rfl) (zaj.of zpO) (za2 (za 1)) (λ_ _ _ _ _=>(zU (i:=0) zf2 rfl (Or.inl rfl))) (λ_ _ _ _ _=>(zhg (za 0))) (λ_ _ _ _ _=>(zU (i:=1) zf2 rfl (Or.inl rfl))) (λ_ _ _ _ _=>(ztH (za 1))) (λ_ _ _ _ _=>(zU (i:=2) zf2 rfl (Or.inl rfl))) (λ_ _ _ _ _=>(za 2))) zd)))))),?_⟩
  obtain ⟨dx,e1⟩:=hF.ob
  obtain ⟨kk,e2,d⟩:=hF.kept
  simp_all only [e1,zay,zbc]
  refine ⟨by decide,λlb H1 n1 nsm=>⟨k,sk kk,n1.same _ _ e2,λo=>?_⟩⟩
  have pk:p≠k:=λz=>by rw [z,e2] at e1;cases e1
  have hf:upd H1 k (.frz o (.dK (sk kk))) p=some (.ins A.Files dx (zt b k)):=by rw [ze pk];exact n1.same _ _ e1
  have fs:FS H (upd H1 k (.frz o (.dK (sk kk)))):=(FS.of n1.same).trans (.freeze (n1.same _ _ e2))
  simp_all only [hf,zbc]
  refine ⟨o,sk kk,zp,zak.vals (LvI (upd H1 k (.frz o (.dK (sk kk)))) k o kk ks) (λi τ ys H' I=>?_) (λi τ ys H' I=>I.same _ _ zp) ⟨⟨_,rfl⟩,by rw [List.take_zero];exact .nil,zf.refl _⟩ ?_ ?_⟩
  ·have:=I.ys.length
   have h2:=length_take_le' i ks
   rw [length_map] at this
   exact Nat.lt_of_le_of_lt (show ys.length<=1000 by omega) (by decide)
  ·intro N i pv τ ys H' hp I hN
   obtain ⟨t1,rfl⟩:=I.ex
   obtain ⟨qv,hqv,rfl⟩:∃qv,kk[i]?=some qv/\pv=(.inr qv.1,qv.2):=by
    unfold sk at hp
    rw [getElem?_map] at hp
    obtain ⟨pv,e1,e2⟩:=map_eq_some_iff.mp hp
    exact ⟨pv,e1,e2.symm⟩
   obtain ⟨u,hu,q1,b1,k1,eq1,hB,n1b,n1k,_⟩:=Dct.at d hqv
   have hB':=hB.fs fs
   obtain ⟨dx1,e11⟩:=hB'.ob
   have e12:=I.same _ _ e11
   simp_all only [eq1,e12,zay]
   refine hN _ _ _ ⟨⟨_,rfl⟩,?_,I.same⟩
   rw [take_add_one,hu,map_append]
   exact zdO I.ys (.cons ⟨b1,rfl,hB'.births⟩ .nil)
  ·intro τ ys H' I D H2 n2
   have hz:H2 k=some (.frz o (.dK (sk kk))):=n2.same _ _ (I.same _ _ zp)
   refine ⟨o,hz,?_⟩
   have e21:=n1.same _ _ e2
   have s3:zf H1 (upd H2 k (.dK (sk kk))):=λc u eu=>by
    by_cases z:c=k
    ·subst z;rw [e21] at eu;cases eu;exact zp
    ·rw [ze z];exact n2.same _ _ (I.same _ _ (by rw [ze z];exact eu))
   have Dk:D≠k:=λz=>by have:=n2.no;rw [z,I.same _ _ zp] at this;cases this
   have hD:upd H2 k (.dK (sk kk)) D=some (.lst ys):=by rw [ze Dk];exact n2.at_
   have hlb:=s3 _ _ n1.at_
   have fs3:FS (upd H1 k (.frz o (.dK (sk kk)))) (upd H2 k (.dK (sk kk))):=((FS.of I.same).trans (FS.of n2.same)).trans (.thaw hz)
   have py:Paired (zgO (upd H2 k (.dK (sk kk)))) ys (ks.map (·.2)):=by
    have:=I.ys
    rw [show (sk kk).length=ks.length by rw [<- d.length];simp [sk],take_of_length_le (le_refl _)] at this
    exact Paired.mapP this λv t ⟨b,e,hb⟩=>⟨b,e,hb.fs fs3⟩
   have hb3:za9 (upd H2 k (.dK (sk kk))) b t:=hF.births.r.fs ((FS.of n1.same).trans (.of s3))
   generalize upd H2 k (.dK (sk kk))=H3 at s3 hD hlb py hb3
   simp_all only []
   have ly:=py.length
   rw [length_map] at ly
   refine ⟨[.ref b],hlb,ys,hD,by rw [length_singleton];exact le_trans (show 1+ys.length<=1001 by omega) (by decide),λtl H4 n4=>⟨⟨_,.inl (.inl n4.at_)⟩,?_⟩⟩
   have pall:Paired (zgO H4) ([.ref b]++ys) (t::ks.map (·.2)):=.cons ⟨b,rfl,hb3.fs (.of n4.same)⟩ (Paired.mapP py λv t ⟨b,e,hb⟩=>⟨b,e,hb.fs (.of n4.same)⟩)
   have eU:(t::ks.map (·.2)).flatMap zA=zag t ks:=by
    unfold zag
    rw [List.flatMap_cons,List.flatMap_map]
   have hUl:=pall.length
   generalize hus:t::ks.map (·.2)=us at pall eU hUl
   refine za1.lst (xs:=[.ref b]++ys) (OuI H4 us) (λi τ ns H' I=>.inl (.inl (I.same _ _ n4.at_))) ⟨⟨_,_,_,rfl⟩,rfl,zf.refl _⟩ ?_ ?_
   ·intro N i v τ ns H' hv I hN
    obtain ⟨x,y,z,rfl⟩:=I.ex
    have hi:i<us.length:=by rw [<- hUl];exact (List.getElem?_eq_some_iff.mp hv).1
    have hu:us[i]?=some us[i]:=List.getElem?_eq_getElem hi
    obtain ⟨bi,rfl,hb⟩:=zaD pall hv hu
    have hb':=hb.fs (.of I.same)
    obtain ⟨kvs,hr',dc⟩:=hb'.ex
    have es:(zA us[i]).foldl zx ns=((us.take (i+1)).flatMap zA).foldl zx []:=by
     rw [I.ns,<- foldl_append,take_add_one,hu,flatMap_append]
     simp
    have few:((zA us[i]).foldl zx ns).length<3000:=by
     rw [es]
     have h1:=zcI (l:=(us.drop (i+1)).flatMap zA) (ns:=((us.take (i+1)).flatMap zA).foldl zx [])
     rw [<- foldl_append,<- flatMap_append,List.take_append_drop,eU] at h1
     exact Nat.lt_of_le_of_lt h1 (lt_trans h64 (by decide))
    simp_all only []
    rcases hr' with e|⟨o',e⟩
    ·refine .inr ⟨bi,sk kvs,e,λo'=>⟨o',sk kvs,zp,ziC zp (dc.imp λv l ⟨a,ea,ha⟩=>⟨a,ea,by rw [ze (λz=>by rw [z,e] at ha;cases ha)];exact ha⟩) few λy' z'=>⟨o',zp,hN _ _ _ ⟨⟨_,_,_,rfl⟩,es,λc u eu=>?_⟩⟩⟩⟩
     by_cases zc:c=bi
     ·subst zc
      have:=I.same _ _ eu
      rw [e] at this;cases this
      exact zp
     ·rw [ze zc,ze zc];exact I.same _ _ eu
    ·exact .inl ⟨o',sk kvs,e,ziC e dc few λy' z'=>hN _ _ _ ⟨⟨_,_,_,rfl⟩,es,I.same⟩⟩
   ·intro τ ns H' I D' hD' _
    have en:ns=uniq (zag t ks):=by
     rw [I.ns,hUl,take_of_length_le (le_refl _),eU]
     rfl
    subst en
    refine ⟨_,zp,h64,λl ns' H5 n5 pm so=>?_⟩
    have sA:∀{o:HO},zf H (upd H' D' o):=λ{o} c u eu=>by
     have h1:=I.same _ _ (n4.same _ _ (s3 _ _ (n1.same _ _ eu)))
     rw [ze (λz=>by rw [z,hD'] at h1;cases h1)]
     exact h1
    exact q l ns' H5 (sA.trans n5.same) (sA.free n5.no) n5.at_ pm so
end
abbrev zcs:Stmt:=zam (top 10) 11
abbrev zb5:Stmt:=zam (top 12) 0
abbrev zdo:Stmt:=zam (top 12) 1
abbrev zb6:Stmt:=zam (top 12) 2
abbrev zc4:Stmt:=zam (top 12) 3
abbrev zdp:Stmt:=zam (top 12) 4
abbrev zcS:Stmt:=zam (top 12) 5
theorem zba{n:Nat}(h:n<=1000000):n<sizeLine:=Nat.lt_of_le_of_lt h (by decide)
def zc6{α:Type}(l:List (Int×α))(n:Int)(a:α):List (Int×α):=if n∈l.map (·.1) then l.map (λp=>if p.1=n then (p.1,a) else p) else l++[(n,a)]
theorem ziq{kvs:List (Int×V)}{n:Int}:((ik kvs).any λkv=>decide (kv.1=(.inl n:Key)))=true↔n∈kvs.map (·.1):=by
 unfold ik
 rw [any_map,List.any_eq_true]
 constructor
 ·rintro ⟨p,hp,h⟩
  have h:(Sum.inl p.1:Key) = .inl n:=of_decide_eq_true h
  cases h
  exact mem_map.mpr ⟨p,hp,rfl⟩
 ·intro h
  obtain ⟨p,hp,rfl⟩:=mem_map.mp h
  exact ⟨p,hp,by simp⟩
theorem zh4{kvs:List (Int×V)}{n:Int}{v:V}:zac (ik kvs) (.inl n) v=ik (zc6 kvs n v):=by
 unfold zac zc6
 by_cases h:n∈kvs.map (·.1)
 ·rw [if_pos (ziq.mpr h),if_pos h]
  unfold ik
  rw [map_map,map_map]
  refine map_congr_left λp _=>?_
  show (if (Sum.inl p.1:Key) = .inl n then _ else _)=_
  by_cases e:p.1=n
  ·rw [if_pos (by rw [e])];show _=(Sum.inl (if p.1=n then (p.1,v) else p).1,(if p.1=n then (p.1,v) else p).2);rw [if_pos e]
  ·rw [if_neg (λz=>e (by cases z;rfl))];show _=(Sum.inl (if p.1=n then (p.1,v) else p).1,(if p.1=n then (p.1,v) else p).2);rw [if_neg e]
 ·rw [if_neg (λz=>h (ziq.mp z)),if_neg h]
  unfold ik
  rw [map_append];rfl
theorem zgX{n:Int}{v:V}:∀{kvs:List (Int×V)},(kvs.map (·.1)).Nodup->(n,v)∈kvs->zH (ik kvs) (.inl n)=some v
 | [],_,h=>by cases h
 | p::kvs,nd,h=>by
  have nd':=nodup_cons.mp nd
  show zH ((Sum.inl p.1,p.2)::ik kvs) (.inl n)=_
  rcases mem_cons.mp h with e|h
  ·rw [<- e];exact zdL rfl
  ·have ne : ¬ (Sum.inl p.1:Key) = .inl n:=λz=>by
    cases z
    exact nd'.1 (mem_map.mpr ⟨_,h,rfl⟩)
   rw [zds ne]
   exact zgX nd'.2 h
theorem zjy{kvs:List (Int×V)}:(ik kvs).length=kvs.length:=by simp [ik]
structure zc0(u:HO):Prop where
 d:∀kvs,u≠.dK kvs
 f:∀o kvs,u≠.frz o (.dK kvs)
 t:∀xs,u≠.tup xs
 i:∀C dx b k,u≠.ins C dx (zt b k)
theorem zc0.lst{xs:List V}:zc0 (.lst xs):=⟨λ_ z=>HO.noConfusion z,λ_ _ z=>HO.noConfusion z,λ_ z=>HO.noConfusion z,λ_ _ _ _ z=>HO.noConfusion z⟩
theorem zpa{b k:Addr}:([]:List (Str×V))≠zt b k:=λz=>by have:=congrArg length z;exact absurd this (by show ¬ 0=2;decide)
theorem zc0.ins0{C dx:Addr}:zc0 (.ins C dx []):=⟨λ_ z=>(HO.noConfusion z),λ_ _ z=>(HO.noConfusion z),λ_ z=>(HO.noConfusion z),λ_ _ _ _ z=>zpa (by injection z)⟩
theorem zao.putX{A:zh}{H H':Hp}{x q b k:Addr}{t:Tab}{u:HO}(h:zao A H q b k t)(s:But x H H')(hx:H x=some u)(np:zc0 u):zao A H' q b k t:=by
 have ne:∀{c:Addr}{o:HO},H c=some o->o≠u->H' c=some o:=λ{c o} e n=>s _ _ (λz=>n (by rw [z,hx] at e;exact (Option.some.inj e).symm)) e
 have rd:∀{c:Addr}{kvs:List (Key×V)},Rd H c (.dK kvs)->Rd H' c (.dK kvs):=λ{c kvs} r=>r.elim (λe=>.inl (ne e λz=>np.d _ z.symm)) λ⟨o,e⟩=>.inr ⟨o,ne e λz=>np.f _ _ z.symm⟩
 obtain ⟨dx,e⟩:=h.ob
 obtain ⟨kvs,e1,d⟩:=h.births.ex
 exact ⟨⟨dx,ne e λz=>np.i _ _ _ _ z.symm⟩,⟨⟨kvs,rd e1,d.imp λv l ⟨a,ea,ha⟩=>⟨a,ea,ne ha λz=>np.t _ z.symm⟩⟩,h.births.nd⟩,rd h.kept⟩
theorem zq.putX{A:zh}{H H':Hp}{x p b k:Addr}{t:Tab}{ks:List (Str×Tab)}{u:HO}(h:zq A H p b k t ks)(s:But x H H')(hx:H x=some u)(np:zc0 u):zq A H' p b k t ks:=by
 have ne:∀{c:Addr}{o:HO},H c=some o->o≠u->H' c=some o:=λ{c o} e n=>s _ _ (λz=>n (by rw [z,hx] at e;exact (Option.some.inj e).symm)) e
 obtain ⟨dx,e⟩:=h.ob
 obtain ⟨kvs,e1,d⟩:=h.births.ex
 obtain ⟨kk,e2,d2⟩:=h.kept
 exact ⟨⟨dx,ne e λz=>np.i _ _ _ _ z.symm⟩,⟨⟨kvs,ne e1 λz=>np.d _ z.symm,d.imp λv l ⟨a,ea,ha⟩=>⟨a,ea,ne ha λz=>np.t _ z.symm⟩⟩,h.births.nd⟩,⟨kk,ne e2 λz=>np.d _ z.symm,d2.imp λv u ⟨q,b',k',ev,r,n⟩=>⟨q,b',k',ev,r.putX s hx np,n⟩⟩,h.ndk,h.ne⟩
abbrev T3:=Int×Int×Int
def zcw(H:Hp)(p:Int×V)(t:T3):Prop:=p.1=t.1/\∃a,p.2 = .ref a/\H a=some (.tup [.int t.2.1,.int t.2.2])
def zaU(H:Hp)(a:Addr)(t:T3):Prop:=H a=some (.tup [.int t.1,.int t.2.1,.int t.2.2])
def T3S(H:Hp)(a:Addr)(t:T3):Prop:=H a=some (.tup [.int t.1,.int t.2.1,.int t.2.2])\/H a=some (.lst [.int t.1,.int t.2.1,.int t.2.2])
structure zgT(ts:List T3):Prop where
 nd:(ts.map (·.1)).Nodup
 few:ts.length<40
def zaf(f d:Addr)(n m:Int):List (Str×V):=[("own_files",.ref f),("spot_of",.ref d),("next_row",.int n),("next_mark",.int m)]
structure zav(A:zh)(H:Hp)(x fx b k d:Addr)(t:Tab)(ks:List (Str×Tab))(ts:List T3)(n m:Int):Prop where
 ob:∃dx,H x=some (.ins A.State dx (zaf fx d n m))
 files:zq A H fx b k t ks
 spots:∃kvs,H d=some (.dK (ik kvs))/\Paired (zcw H) kvs ts
 ok:zgT ts
theorem zcw.keep{H H':Hp}{p:Int×V}{t:T3}(h:zcw H p t)(k:∀r xs,H r=some (.tup xs)->H' r=some (.tup xs)):zcw H' p t:=let ⟨e,a,e2,e3⟩:=h;⟨e,a,e2,k _ _ e3⟩
theorem zav.same{A:zh}{H H':Hp}{x fx b k d:Addr}{t:Tab}{ks:List (Str×Tab)}{ts:List T3}{n m:Int}(h:zav A H x fx b k d t ks ts n m)(s:zf H H'):zav A H' x fx b k d t ks ts n m :=
 let ⟨dx,e⟩:=h.ob;let ⟨kvs,e2,p⟩:=h.spots;⟨⟨dx,s _ _ e⟩,h.files.same s,⟨kvs,s _ _ e2,Paired.mapP p λ_ _ r=>r.keep λ_ _ e=>s _ _ e⟩,h.ok⟩
theorem zei{H:Hp}{kvs:List (Int×V)}{ts:List T3}(h:Paired (zcw H) kvs ts):kvs.map (·.1)=ts.map (·.1):=by
 induction h with
 | nil=>rfl
 | cons r _ ih=>rw [map_cons,map_cons,ih,r.1]
section
variable {P:Program}{w:World}{K:Frag}{mg:Str->Option Value}{base:Heap}{A:zh}{b k f d:Addr}{n m:Int}
theorem znl:(zaf f d n m).lookup ("own_files":Str)=some (.ref f):=by simp only [zaf,List.lookup,beq_self_eq_true]
theorem zeF:(zaf f d n m).lookup ("spot_of":Str)=some (.ref d):=by simp only [zaf,List.lookup,beq_self_eq_true,zmd]
theorem zmW:(zaf f d n m).lookup ("next_row":Str)=some (.int n):=by simp only [zaf,List.lookup,beq_self_eq_true,zur,zmk]
theorem zuZ:(zaf f d n m).lookup ("next_mark":Str)=some (.int m):=by simp only [zaf,List.lookup,beq_self_eq_true,zpP,zta,zo8]
theorem zjD:(zaf f d n m).lookup ("spots":Str)=none:=by simp only [zaf,List.lookup,zkG,zts,zsA,zlV]
theorem zhE:(zaf f d n m).lookup ("files":Str)=none:=by simp only [zaf,List.lookup,znf,zpG,zsI,zor]
theorem zjK:(zaf f d n m).lookup ("spot":Str)=none:=by simp only [zaf,List.lookup,zo7,zlk,zmE,zrD]
theorem zkb:(zaf f d n m).lookup ("next_number":Str)=none:=by simp only [zaf,List.lookup,zmz,zrS,zqt,zvf]
theorem zke:(zaf f d n m).lookup ("mark_number":Str)=none:=by simp only [zaf,List.lookup,zsi,zl2,zlT,zrH]
def zfh(A:zh):Sp:=λvs H Q _=>∃(p b k:Addr)(t:Tab)(ks:List (Str×Tab)),vs=[.ref p]/\zq A H p b k t ks /\
 ∀q b' k' H',zf H H'->H q=none->H b'=none->H k'=none->zq A H' q b' k' t ks->H' k'=H k->Q (.ref q) H'
theorem zjQ:zB ["self","other"] ["self"] (zg zcs):=⟨rfl,rfl,rfl,f!"",rfl,f!"",f!""⟩
theorem zl5{f:Addr}{fd:FuncData}(F:Fun K "copied" "Files.copied" zcs f fd)(T:Txt K mg A)(M_Files_bare:GM P w K mg base true 3 A.Files "bare" ["self"] (zdV A)):zr P w K mg base CX0 true 4 f fd ["self"] (zfh A):=by
 refine F.ok zjQ (λvs H Q E h=>?_) (λcdv Ar outer s H vs Q E hr h=>?_)
 ·obtain ⟨p,b,k,t,ks,rfl,_⟩:=h;rfl
 ·obtain ⟨p,b,k,t,ks,rfl,hF,q⟩:=h
  refine ⟨_,(W.h (zk (zI (i:=1) zjQ.nd rfl (Or.inl rfl) (zaF (za 0) T.cl_Files M_Files_bare hr))
   (zk (zbN T.cl_Files T.na_Files_kept (za 1) (zbw zfy rfl T.n_dict boot_dict (zb (zZ T.cl_Files T.na_Files_kept (za 0)) zd)))
   (zl (zG (za 1)))))),?_⟩
  obtain ⟨dx,e1⟩:=hF.ob
  simp_all only [e1,zgP]
  refine ⟨p,t,rfl,hF.has,λx b' k' H1 s1 nb nk nx hB hBb=>?_⟩
  obtain ⟨dx1,ex1⟩:=hB.ob
  have F1:=hF.same s1
  obtain ⟨dx',e1'⟩:=F1.ob
  obtain ⟨kk0,e20,d0⟩:=hF.kept
  have e2:=s1 _ _ e20
  simp_all only [e1',zbc]
  refine ⟨_,.inl e2,λkd H2 n2=>⟨dx1,_,n2.same _ _ ex1,by show 2<1000;decide,?_⟩⟩
  have eF:zN ("kept":Str) (V.ref kd) (zt b' k')=zt b' kd:=by simp only [zN,zt,zjO,if_false,if_true]
  rw [eF]
  have px:∀c o,H c=some o->c≠x:=λc o e=>zD e nx
  have sA:zf H (upd H2 x (.ins A.Files dx1 (zt b' kd))):=λa o e=>by rw [ze (px a o e)];exact n2.same _ _ (s1 _ _ e)
  have kdx:kd≠x:=λz=>by have:=n2.no;rw [z,ex1] at this;cases this
  have bx:b'≠x:=λz=>by obtain ⟨kvs,er,_⟩:=hB.births.ex;rw [z] at er;rcases er with e|⟨o,e⟩ <;> · rw [ex1] at e;cases e
  have kd0:H kd=none:=s1.free n2.no
  obtain ⟨kvs,eb,dd⟩:=hBb.ex
  have bkd:b'≠kd:=λz=>by have:=n2.no;rw [<- z,eb] at this;cases this
  refine q x b' kd _ sA nx nb kd0 ⟨⟨dx1,zp⟩,⟨⟨kvs,by rw [ze bx];exact n2.same _ _ eb,dd.imp λv l ⟨a,ea,ha⟩=>⟨a,ea,by rw [ze (λz=>by rw [z,ex1] at ha;cases ha)];exact n2.same _ _ ha⟩⟩,hB.births.nd⟩,⟨kk0,by rw [ze kdx];exact n2.at_,d0.imp λv u r=>?_⟩,hF.ndk,bkd⟩ (by rw [ze kdx,n2.at_,e20])
  obtain ⟨q1,b1,k1,ev,hr1,_⟩:=r
  have hh:=hr1.same sA
  obtain ⟨kv1,er1,_⟩:=hr1.births.ex
  have live:∀{c:Addr}{u:HO},Rd H c u->∃o,H c=some o:=λh=>h.elim (λe=>⟨_,e⟩) λ⟨o,e⟩=>⟨_,e⟩
  obtain ⟨o1,l1⟩:=live er1
  obtain ⟨o2,l2⟩:=live hr1.kept
  exact ⟨q1,b1,k1,ev,hh,zD l1 nb,zD l1 kd0,zD l2 nb,zD l2 kd0⟩
structure DcI(H:Hp)(ts:List T3)(i:Nat)(τ:L2.St)(ys:List (Key×V))(H':Hp):Prop where
 ex:∃t1 t2 t3,τ=[t1,t2,t3]
 ys:∃kvs,ys=ik kvs/\Paired (zcw H') kvs (ts.take i)
 same:zf H H'
def zdX(A:zh):Sp:=λvs H Q _=>∃(x p b k sl dx:Addr)(n m:Int)(t:Tab)(ks:List (Str×Tab))(as:List Addr)(ts:List T3),vs=[.ref x,.ref p,.ref sl,.int n,.int m]/\H x=some (.ins A.State dx [])/\zq A H p b k t ks/\(H sl=some (.lst (as.map V.ref))\/H sl=some (.tup (as.map V.ref)))/\Paired (T3S H) as ts/\zgT ts /\
 ∀fx b' k' d H',But x H H'->H fx=none->H b'=none->H k'=none->H d=none->zav A H' x fx b' k' d t ks ts n m->H' k'=H k->Q .non H'
theorem zsP:zB ["self","files","spots","next_number","mark_number"] ["self","files","spots","next_number","mark_number"] (zg zb5):=⟨rfl,rfl,rfl,f!"",rfl,f!"",f!""⟩
theorem zsF:zaW { kind:=.function,names:=[(Str.ofString ".0",.local),(Str.ofString "birth",.local),(Str.ofString "stretch",.local),(Str.ofString "place",.local)],isGenerator:=false,isCoroutine:=false,more:=[] } (zg zb5).names ["self","files","spots","next_number","mark_number"] ["birth","stretch","place"] [none,none,none]=true:=by decide +kernel
theorem zhe:(["birth","stretch","place"]:List Str).Nodup:=by decide +kernel
theorem zq9{f:Addr}{fd:FuncData}(F:Fun K "__init__" "State.__init__" zb5 f fd)(T:Txt K mg A)(M_Files_copied:GM P w K mg base true 4 A.Files "copied" ["self"] (zfh A)):zr P w K mg base CX0 true 5 f fd ["self","files","spots","next_number","mark_number"] (zdX A):=by
 refine F.ok zsP (λvs H Q E h=>?_) (λcdv Ar outer s H vs Q E hr h=>?_)
 ·obtain ⟨x,p,b,k,sl,dx,n,m,t,ks,as,ts,rfl,_⟩:=h;rfl
 ·obtain ⟨x,p,b,k,sl,dx,n,m,t,ks,as,ts,rfl,hx,hF,hs,hp,ok,q⟩:=h
  refine ⟨_,(W.h (zk (zbN T.cl_State T.na_State_own_files (za 0) (zaF (za 1) T.cl_Files M_Files_copied hr))
   (zk (zbN T.cl_State T.na_State_spot_of (za 0) (znQ (λ_=>rfl) (zaj.of zsF) (zn8 (za 2)) (λ_ _ _ _ _=>(znn rfl (n:=3) (zbh (zU (i:=0) zhe rfl (Or.inl rfl)) (zbh (zU (i:=1) zhe rfl (Or.inl rfl)) (zbh (zU (i:=2) zhe rfl (Or.inl rfl)) zfk))))) (λ_ _ _ _ _=>zbD) (λ_ _ _ _ _=>(za 0)) (λ_ _ _ _ _=>(zbq (zb (za 1) (zb (za 2) zd))))))
   (zk (zbN T.cl_State T.na_State_next_row (za 0) (za 3))
   (zl (zbN T.cl_State T.na_State_next_mark (za 0) (za 4))))))),?_⟩
  obtain ⟨dxf,e1⟩:=hF.ob
  simp_all only [e1,ziM]
  refine ⟨p,b,k,t,ks,rfl,hF,λqf b1 k1 H1 s1 nq nb nk hF1 ek1=>⟨dx,[],s1 _ _ hx,by decide,?_⟩⟩
  have tne:∀{o:HO}{r:Addr}{u:HO},(∀C dx fs,u≠.ins C dx fs)->H1 r=some u->upd H1 x o r=some u:=λ{o r u} hu e=>by rw [ze (λz=>by rw [z,s1 _ _ hx] at e;exact hu _ _ _ (Option.some.inj e).symm)];exact e
  have hlen:=zaL hp
  have hz:∀i τ ys H',DcI (upd H1 x (.ins A.State dx (zN "own_files" (V.ref qf) []))) ts i τ ys H'->ys.length<sizeLine:=λi τ ys H' I=>by
   obtain ⟨kvs,e,pr⟩:=I.ys
   have:=zaL pr
   have h2:=length_take_le' i ts
   have:=ok.few
   rw [e,zjy]
   exact zba (by omega)
  have step:∀(N:L2.St->List (Key×V)->Hp->Prop) i v τ ys H',(as.map V.ref)[i]?=some v->DcI (upd H1 x (.ins A.State dx (zN "own_files" (V.ref qf) []))) ts i τ ys H'->(∀τ ys H,DcI (upd H1 x (.ins A.State dx (zN "own_files" (V.ref qf) []))) ts (i+1) τ ys H->N τ ys H) ->
    gSq K 3 (zcX (zaM 0) (zcX (zaM 1) (zcX (zaM 2) zeV))) v τ H' λτ1 H4=>ze0 τ1 H4 λok H5=>zd7 N ys τ1 (zbp 0) (zeA (zcV (zbp 1) (zcV (zbp 2) zaX))) ok H5:=by
   intro N i v τ ys H' hv I hN
   obtain ⟨t1,t2,t3,rfl⟩:=I.ex
   obtain ⟨kvs,e,pr⟩:=I.ys
   rw [getElem?_map] at hv
   obtain ⟨a,ha,rfl⟩:=map_eq_some_iff.mp hv
   have hi:i<ts.length:=by rw [<- hlen];exact (List.getElem?_eq_some_iff.mp ha).1
   have hti:ts[i]?=some ts[i]:=List.getElem?_eq_getElem hi
   have ht:SqT K H' a [.int ts[i].1,.int ts[i].2.1,.int ts[i].2.2]\/SqL K H' a [.int ts[i].1,.int ts[i].2.1,.int ts[i].2.2]:=by
    rcases zaD hp ha hti with h|h
    ·exact .inl (.inl (.inl (I.same _ _ (tne (λ_ _ _=>nofun) (s1 _ _ h)))))
    ·exact .inr (.inl (.inl (I.same _ _ (tne (λ_ _ _=>nofun) (s1 _ _ h)))))
   refine ⟨a,_,rfl,ht,rfl,?_⟩
   simp_all only []
   refine ⟨by decide,λa2 H2 n2=>hN _ _ _ ⟨⟨_,_,_,rfl⟩,⟨kvs++[(ts[i].1,.ref a2)],?_,?_⟩,I.same.trans n2.same⟩⟩
   ·have nin:ts[i].1∉kvs.map (·.1):=by
     rw [zei pr]
     intro z
     obtain ⟨u,hu,eu⟩:=mem_map.mp z
     obtain ⟨j,hj,ej⟩:=getElem_of_mem hu
     have hj':j<i:=by rw [length_take] at hj;omega
     rw [List.getElem_take] at ej
     have hj2:j<(ts.map (·.1)).length:=by rw [length_map];omega
     have:=(List.getElem?_inj hj2 ok.nd).mp (show (ts.map (·.1))[j]?=(ts.map (·.1))[i]? by rw [getElem?_map,getElem?_map,hti,List.getElem?_eq_getElem (show j<ts.length by omega),ej];show some u.1=some ts[i].1;rw [eu])
     omega
    rw [e,zh4]
    unfold zc6
    rw [if_neg nin]
   ·rw [take_add_one,hti]
    exact zdO (Paired.mapP pr λp t r=>r.keep λr xs e=>n2.same _ _ e) (.cons ⟨rfl,a2,rfl,n2.at_⟩ .nil)
  rcases hs with hs|hs
  all_goals first
   | refine .inl ⟨⟨_,.inl (.inl (tne (λ_ _ _=>nofun) (s1 _ _ hs)))⟩,zci.lst (xs:=as.map V.ref) (DcI _ ts) hz (λi τ ys H' I=>.inl (.inl (I.same _ _ (tne (λ_ _ _=>nofun) (s1 _ _ hs))))) ⟨⟨_,_,_,rfl⟩,⟨[],rfl,.nil⟩,zf.refl _⟩ step ?_⟩
   | refine .inr ⟨⟨_,.inl (.inl (tne (λ_ _ _=>nofun) (s1 _ _ hs)))⟩,zci.tup (xs:=as.map V.ref) (DcI _ ts) hz (λi τ ys H' I=>.inl (.inl (I.same _ _ (tne (λ_ _ _=>nofun) (s1 _ _ hs))))) ⟨⟨_,_,_,rfl⟩,⟨[],rfl,.nil⟩,zf.refl _⟩ step ?_⟩
  all_goals
   intro τ ys H3 I D H4 n4
   obtain ⟨kvs,e,pr⟩:=I.ys
   rw [length_map,hlen,take_of_length_le (le_refl _)] at pr
   rw [e] at n4
   have x4:=n4.same _ _ (I.same _ _ zp)
   refine ⟨dx,_,x4,by show 1<1000;decide,dx,_,zp,by simp only [zN,zgb,if_false];show 2<1000;decide,dx,_,zp,by simp only [zN,zgb,zix,zj0,if_false];show 3<1000;decide,?_⟩
   rw [zj8,zj8]
   have eF:zN ("next_mark":Str) (V.int m) (zN "next_row" (V.int n) (zN "spot_of" (V.ref D) (zN "own_files" (V.ref qf) [])))=zaf qf D n m:=by
    simp only [zN,zaf,zgb,zix,zj0,zu9,zqp,zrn,if_false]
   rw [eF]
   have Dx:D≠x:=λz=>by have:=n4.no;rw [z,I.same _ _ zp] at this;cases this
   have bt:But x H1 (upd H4 x (.ins A.State dx (zaf qf D n m))):=λc u nc e=>by
    rw [ze nc]
    exact n4.same _ _ (I.same _ _ (by rw [ze nc];exact e))
   have hF5:=hF1.putX bt (s1 _ _ hx) .ins0
   have sp5:∀{r:Addr}{xs:List V},H3 r=some (.tup xs)->upd H4 x (.ins A.State dx (zaf qf D n m)) r=some (.tup xs):=λ{r xs} e=>by
    rw [ze (λz=>by rw [z,I.same _ _ zp] at e;cases e)]
    exact n4.same _ _ e
   have k1x:k1≠x:=λz=>by rw [z,hx] at nk;cases nk
   have D0:H D=none:=by
    cases eD:H D with
    | none=>rfl
    | some u =>
     have:=I.same D u (by rw [ze Dx];exact s1 _ _ eD)
     rw [n4.no] at this;cases this
   refine q qf b1 k1 D _ (λa o na ea=>bt _ _ na (s1 _ _ ea)) nq nb nk D0 ⟨⟨dx,zp⟩,hF5,⟨kvs,by rw [ze Dx];exact n4.at_,Paired.mapP pr λp t r=>r.keep λr xs e=>sp5 e⟩,ok⟩ ?_
   obtain ⟨kk,ekk,_⟩:=hF1.kept
   have ekk5:=bt _ _ k1x ekk
   rw [ekk5,<- ekk,ek1]
end
def zbk(ts:List T3)(n:Int):T3:=(ts.find? λt=>decide (t.1=n)).getD (0,0,0)
theorem zcM{ts:List T3}(nd:(ts.map (·.1)).Nodup){t:T3}(h:t∈ts):zbk ts t.1=t:=by
 unfold zbk
 induction ts with
 | nil=>cases h
 | cons u ts ih =>
  obtain ⟨n1,n2⟩:=nodup_cons.mp nd
  rw [find?_cons]
  rcases mem_cons.mp h with rfl|h
  ·rw [decide_eq_true rfl];rfl
  ·have ne : ¬ u.1=t.1:=λz=>n1 (by show u.1∈_;rw [z];exact mem_map.mpr ⟨t,h,rfl⟩)
   rw [decide_eq_false ne]
   exact ih n2 h
theorem ztB{ts:List T3}(nd:(ts.map (·.1)).Nodup):(ts.map (·.1)).map (zbk ts)=ts:=by
 rw [map_map]
 have:∀us:List T3,(∀u∈us,u∈ts)->us.map (zbk ts∘(·.1))=us:=λus h=>by
  induction us with
  | nil=>rfl
  | cons u us ih=>rw [map_cons,ih λv hv=>h v (mem_cons_of_mem _ hv)];show zbk ts u.1::us=_;rw [zcM nd (h u (mem_cons_self ..))]
 exact this ts λ_ h=>h
theorem zir{n:Int}:∀{kvs:List (Int×V)},n∉kvs.map (·.1)->zH (ik kvs) (.inl n)=none
 | [],_=>rfl
 | p::kvs,h=>by
  have ne : ¬ (Sum.inl p.1:Key) = .inl n:=λz=>by
   cases z
   exact h (by simp)
  show zH ((Sum.inl p.1,p.2)::ik kvs) (.inl n)=_
  rw [zds ne]
  exact zir λz=>h (by rw [map_cons];exact mem_cons_of_mem _ z)
section
variable {P:Program}{w:World}{K:Frag}{mg:Str->Option Value}{base:Heap}{A:zh}
def zdT(A:zh):Sp:=λvs H Q _=>∃(x fx b k d:Addr)(t:Tab)(ks:List (Str×Tab))(ts:List T3)(n m:Int),vs=[.ref x]/\zav A H x fx b k d t ks ts n m /\
 ∀q b' k' H',zf H H'->H q=none->H b'=none->H k'=none->zq A H' q b' k' t ks->H' k'=H k->Q (.ref q) H'
theorem ztP:zB ["self"] ["self"] (zg zdo):=⟨rfl,rfl,rfl,f!"",rfl,f!"",f!""⟩
theorem zkO{f:Addr}{fd:FuncData}(F:Fun K "files" "State.files" zdo f fd)(T:Txt K mg A)(M_Files_copied:GM P w K mg base true 4 A.Files "copied" ["self"] (zfh A)):zr P w K mg base CX0 true 5 f fd ["self"] (zdT A):=by
 refine F.ok ztP (λvs H Q E h=>?_) (λcdv Ar outer s H vs Q E hr h=>?_)
 ·obtain ⟨x,fx,b,k,d,t,ks,ts,n,m,rfl,_⟩:=h;rfl
 ·obtain ⟨x,fx,b,k,d,t,ks,ts,n,m,rfl,hS,q⟩:=h
  refine ⟨_,(W.h (zl (zG (zaF (zZ T.cl_State T.na_State_own_files (za 0)) T.cl_Files M_Files_copied hr)))),?_⟩
  obtain ⟨dx,e1⟩:=hS.ob
  obtain ⟨dx2,e2⟩:=hS.files.ob
  simp_all only [e1,e2,znl,ziM]
  exact ⟨fx,b,k,t,ks,rfl,hS.files,q⟩
def zf9(A:zh):Sp:=λvs H Q _=>∃(x fx b k d:Addr)(t:Tab)(ks:List (Str×Tab))(ts:List T3)(n m:Int),vs=[.ref x]/\zav A H x fx b k d t ks ts n m/\Q (.int n) H
theorem zm7:zB ["self"] ["self"] (zg zdp):=⟨rfl,rfl,rfl,f!"",rfl,f!"",f!""⟩
theorem ztu{f:Addr}{fd:FuncData}(F:Fun K "next_number" "State.next_number" zdp f fd)(T:Txt K mg A):zr P w K mg base CX0 true 1 f fd ["self"] (zf9 A):=by
 refine F.ok zm7 (λvs H Q E h=>?_) (λcdv Ar outer s H vs Q E hr h=>?_)
 ·obtain ⟨x,fx,b,k,d,t,ks,ts,n,m,rfl,_⟩:=h;rfl
 ·obtain ⟨x,fx,b,k,d,t,ks,ts,n,m,rfl,hS,q⟩:=h
  refine ⟨_,(W.h (zl (zG (zZ T.cl_State T.na_State_next_row (za 0))))),?_⟩
  obtain ⟨dx,e1⟩:=hS.ob
  simp_all only [e1,zmW]
  exact q
def zfP(A:zh):Sp:=λvs H Q _=>∃(x fx b k d:Addr)(t:Tab)(ks:List (Str×Tab))(ts:List T3)(n m:Int),vs=[.ref x]/\zav A H x fx b k d t ks ts n m/\Q (.int m) H
theorem zsr:zB ["self"] ["self"] (zg zcS):=⟨rfl,rfl,rfl,f!"",rfl,f!"",f!""⟩
theorem ztQ{f:Addr}{fd:FuncData}(F:Fun K "mark_number" "State.mark_number" zcS f fd)(T:Txt K mg A):zr P w K mg base CX0 true 1 f fd ["self"] (zfP A):=by
 refine F.ok zsr (λvs H Q E h=>?_) (λcdv Ar outer s H vs Q E hr h=>?_)
 ·obtain ⟨x,fx,b,k,d,t,ks,ts,n,m,rfl,_⟩:=h;rfl
 ·obtain ⟨x,fx,b,k,d,t,ks,ts,n,m,rfl,hS,q⟩:=h
  refine ⟨_,(W.h (zl (zG (zZ T.cl_State T.na_State_next_mark (za 0))))),?_⟩
  obtain ⟨dx,e1⟩:=hS.ob
  simp_all only [e1,zuZ]
  exact q
def zfO(A:zh):Sp:=λvs H Q _=>∃(x fx b k d:Addr)(t:Tab)(ks:List (Str×Tab))(ts:List T3)(n m:Int),vs=[.ref x]/\zav A H x fx b k d t ks ts n m /\
 ∀l as ts' H',zf H H'->H l=none->H' l=some (.lst (as.map V.ref))->Paired (zaU H') as ts'->ts'.Perm ts->(ts'.map (·.1)).Pairwise (·<=·)->Q (.ref l) H'
structure SpI(H:Hp)(x:Addr)(ts:List T3)(ns:List Int)(i:Nat)(τ:L2.St)(ys:List V)(H':Hp):Prop where
 ex:∃t1,τ=[t1,some (.ref x)]
 ys:∃as:List Addr,ys=as.map V.ref/\Paired (zaU H') as ((ns.take i).map (zbk ts))
 same:zf H H'
theorem zrk:zB ["self"] ["self"] (zg zb6):=⟨rfl,rfl,rfl,f!"",rfl,f!"",f!""⟩
theorem zsv:zaW { kind:=.function,names:=[(Str.ofString ".0",.local),(Str.ofString "birth",.local),(Str.ofString "self",.free)],isGenerator:=false,isCoroutine:=false,more:=[] } (zg zb6).names ["self"] ["birth","self"] [none,some 0]=true:=by decide +kernel
theorem znN:(["birth","self"]:List Str).Nodup:=by decide +kernel
theorem zuX{f:Addr}{fd:FuncData}(F:Fun K "spots" "State.spots" zb6 f fd)(T:Txt K mg A):zr P w K mg base CX0 true 1 f fd ["self"] (zfO A):=by
 refine F.ok zrk (λvs H Q E h=>?_) (λcdv Ar outer s H vs Q E hr h=>?_)
 ·obtain ⟨x,fx,b,k,d,t,ks,ts,n,m,rfl,_⟩:=h;rfl
 ·obtain ⟨x,fx,b,k,d,t,ks,ts,n,m,rfl,hS,q⟩:=h
  refine ⟨_,(W.h (zl (zG (zcc (λ_=>rfl) (zaj.of zsv) (za2 (zP (zjY rfl) rfl T.n_sorted boot_sorted (zb (zZ T.cl_State T.na_State_spot_of (za 0)) zd))) (λ_ _ _ _ _=>(zU (i:=0) znN rfl (Or.inl rfl))) (λ_ _ _ _ _=>zbD) (λ_ _ _ _ _=>(zK zeN (zbq (zb (za 0) zd)) (zY (zb3 (zR hr)) (zZ T.cl_State T.na_State_spot_of (za 1)) (za 0) (λ_ _=>rfl)))))))),?_⟩
  obtain ⟨dx,e1⟩:=hS.ob
  obtain ⟨kvs,e2,e3⟩:=hS.spots
  have ok:=hS.ok
  have lk:=zaL e3
  have ky:=zei e3
  simp_all only [e1,zeF]
  refine ⟨kvs,.inl e2,by rw [lk];have:=ok.few;omega,λp ns H1 n1 pm so=>?_⟩
  rw [ky] at pm
  have hns:ns.length=ts.length:=by rw [pm.length_eq,length_map]
  refine ⟨⟨_,SqL.of n1.at_⟩,zak.lst (xs:=ns.map V.int) (SpI H1 x ts ns) (λi τ ys H' I=>?_) (λi τ ys H' I=>SqL.of (I.same _ _ n1.at_)) ⟨⟨_,rfl⟩,⟨[],rfl,.nil⟩,zf.refl _⟩ ?_ ?_⟩
  ·obtain ⟨as,e,pr⟩:=I.ys
   have:=zaL pr
   rw [length_map] at this
   have h2:=length_take_le' i ns
   have:=ok.few
   rw [e,length_map]
   exact zba (by omega)
  ·intro N i v τ ys H' hv I hN
   obtain ⟨t1,rfl⟩:=I.ex
   obtain ⟨as,e,pr⟩:=I.ys
   rw [getElem?_map] at hv
   obtain ⟨nb,hnb,rfl⟩:=map_eq_some_iff.mp hv
   have e1':=I.same _ _ (n1.same _ _ e1)
   have e2':=I.same _ _ (n1.same _ _ e2)
   obtain ⟨t,ht,et⟩:=mem_map.mp (pm.mem_iff.mp (mem_of_getElem? hnb))
   obtain ⟨j,hj,ej⟩:=getElem_of_mem ht
   have hjk:j<kvs.length:=by rw [lk];exact hj
   obtain ⟨s1,a,s2,s3⟩:=zaD e3 (List.getElem?_eq_getElem hjk) (List.getElem?_eq_getElem hj)
   rw [ej] at s1 s3
   have hv2:zH (ik kvs) (.inl nb)=some (.ref a):=by
    refine zgX (by rw [ky];exact ok.nd) ?_
    rw [<- et,<- s1,<- s2]
    exact getElem_mem hjk
   simp_all only []
   refine ⟨by decide,λp1 H2 n2=>?_⟩
   have e12:=n2.same _ _ e1'
   simp_all only [e12,zeF]
   refine ⟨_,.inl (n2.same _ _ e2'),_,hv2,?_⟩
   simp_all only []
   refine .inr ⟨_,n2.at_,_,n2.same _ _ (I.same _ _ (n1.same _ _ s3)),by show 3<=sizeLine;decide,λp2 H3 s3' e3'=>hN _ _ _ ⟨⟨_,rfl⟩,⟨as++[p2],by rw [e,map_append];rfl,?_⟩,I.same.trans (n2.same.trans s3')⟩⟩
   rw [take_add_one,hnb,map_append]
   refine zdO (Paired.mapP pr λa t r=>s3' _ _ (n2.same _ _ r)) (.cons ?_ .nil)
   show H3 p2=_
   rw [e3',<- et,zcM ok.nd ht];rfl
  ·intro τ ys H' I D H2 n2
   obtain ⟨as,e,pr⟩:=I.ys
   rw [length_map,take_of_length_le (le_refl _)] at pr
   rw [e] at n2
   have hpm:=pm.map (zbk ts)
   rw [ztB ok.nd] at hpm
   refine q D as _ H2 ((n1.same.trans I.same).trans n2.same) ((n1.same.trans I.same).free n2.no) n2.at_ (Paired.mapP pr λa t r=>n2.same _ _ r) hpm ?_
   rw [map_map,show ns.map ((λx=>x.1)∘zbk ts)=ns from ?_]
   ·exact so
   ·refine (map_congr_left λn hn=>?_).trans (List.map_id ns)
    obtain ⟨t,ht,rfl⟩:=mem_map.mp (pm.mem_iff.mp hn)
    show (zbk ts t.1).1=t.1
    rw [zcM ok.nd ht]
def zgN(A:zh):Sp:=λvs H Q _=>∃(x fx b k d:Addr)(t:Tab)(ks:List (Str×Tab))(ts:List T3)(n m i:Int),vs=[.ref x,.int i]/\zav A H x fx b k d t ks ts n m /\
 (∀u∈ts,u.1=i->∀a,H a=some (.tup [.int u.2.1,.int u.2.2])->Q (.ref a) H)/\((∀u∈ts,u.1≠i)->Q .non H)
theorem zpF:zB ["self","birth"] ["self","birth"] (zg zc4):=⟨rfl,rfl,rfl,f!"",rfl,f!"",f!""⟩
theorem zmn{f:Addr}{fd:FuncData}(F:Fun K "spot" "State.spot" zc4 f fd)(T:Txt K mg A)(Gh:GF P w K mg base true 1 "is_whole" ["value"] zen):zr P w K mg base CX0 true 2 f fd ["self","birth"] (zgN A):=by
 refine F.ok zpF (λvs H Q E h=>?_) (λcdv Ar outer s H vs Q E hr h=>?_)
 ·obtain ⟨x,fx,b,k,d,t,ks,ts,n,m,i,rfl,_⟩:=h;rfl
 ·obtain ⟨x,fx,b,k,d,t,ks,ts,n,m,i,rfl,hS,q1,q2⟩:=h
  refine ⟨_,(W.h (zl (zG (zu0 (zaV (zC Gh hr rfl (zb (za 1) zd))) (zuD (zR hr) (zZ T.cl_State T.na_State_spot_of (za 0)) (za 1)) zeu)))),?_⟩
  obtain ⟨dx,e1⟩:=hS.ob
  obtain ⟨kvs,e2,e3⟩:=hS.spots
  simp_all only [e1,zeF]
  refine ⟨.int i,rfl,.int i,?_⟩
  simp_all only [e1,zeF]
  rw [if_pos (show zjN (V.int i)=true from rfl)]
  refine ⟨⟨_,.inl e2⟩,_,.inl e2,?_⟩
  by_cases hu:∃u∈ts,u.1=i
  ·obtain ⟨u,hu,rfl⟩:=hu
   obtain ⟨j,hj,ej⟩:=getElem_of_mem hu
   have hjk:j<kvs.length:=by rw [zaL e3];exact hj
   obtain ⟨s1,a,s2,s3⟩:=zaD e3 (List.getElem?_eq_getElem hjk) (List.getElem?_eq_getElem hj)
   rw [ej] at s1 s3
   have hv:zH (ik kvs) (.inl u.1)=some (.ref a):=by
    refine zgX (by rw [zei e3];exact hS.ok.nd) ?_
    rw [<- s1,<- s2]
    exact getElem_mem hjk
   rw [hv]
   exact q1 u hu rfl a s3
  ·have hn:∀u∈ts,u.1≠i:=λu hu' e=>hu ⟨u,hu',e⟩
   rw [zir (by rw [zei e3];exact λz=>let ⟨u,hu',e⟩:=mem_map.mp z;hn u hu' e)]
   exact q2 hn
abbrev zcE:Stmt:=top 13
theorem zrm:zB [] [] (zg zcE):=⟨rfl,rfl,rfl,f!"",rfl,f!"",f!""⟩
def zfU(A:zh):Sp:=λvs H Q _=>vs=[]/\∀x fx b k d H',zf H H'->H x=none->H fx=none->H b=none->H k=none->H d=none->zav A H' x fx b k d [] [] [] 0 0->Q (.ref x) H'
theorem zsb{f:Addr}{fd:FuncData}(F:Fun K "first_state" "first_state" zcE f fd)(T:Txt K mg A)(Ge:GC P w K mg base true 1 "Files" A.Files ["self"] (zd2 A))(Gg:GC P w K mg base true 5 "State" A.State ["self","files","spots","next_number","mark_number"] (zdX A)):zr P w K mg base CX0 true 7 f fd [] (zfU A):=by
 refine F.ok zrm (λvs H Q E h=>?_) (λcdv Ar outer s H vs Q E hr h=>?_)
 ·obtain ⟨rfl,_⟩:=h;rfl
 ·obtain ⟨rfl,q⟩:=h
  refine ⟨_,(W.h (zl (zG (zhA Gg hr rfl (zb (zfW Ge hr rfl) (zb (zab zd) (zb zj (zb zj zd)))))))),?_⟩
  simp_all only []
  refine λx dx H1 nI=>⟨x,dx,rfl,nI.at_,λb k H2 bt nb nk eb ek nbk ex=>⟨rfl,by decide,λl H3 n3 _ y dy H4 nY=>?_⟩⟩
  have s13:∀c o,H1 c=some o->c≠x->H3 c=some o:=λc o e n=>n3.same _ _ (bt _ _ n e)
  have s3:zf H H3:=λc o e=>s13 c o (nI.same _ _ e) (zD e nI.no)
  have hF:zq A H4 x b k [] []:=⟨⟨dx,nY.same _ _ (n3.same _ _ ex)⟩,⟨⟨[],nY.same _ _ (n3.same _ _ eb),.nil⟩,by simp [names]⟩,⟨[],nY.same _ _ (n3.same _ _ ek),.nil⟩,by simp [names],nbk⟩
  have s4:zf H H4:=s3.trans nY.same
  refine ⟨y,x,b,k,l,dy,0,0,[],[],[],[],rfl,nY.at_,hF,.inl (nY.same _ _ n3.at_),.nil,⟨by simp,by decide⟩,λfx b' k' d H5 bt5 n1 n2 n4 n5 st ek5=>⟨rfl,?_⟩⟩
  exact q y fx b' k' d H5 (λc o e=>bt5 _ _ (zD (s3 _ _ e) nY.no) (s4 _ _ e)) (s3.free nY.no) (s4.free n1) (s4.free n2) (s4.free n4) (s4.free n5) st
end
abbrev zcY:Stmt:=top 19
abbrev zcz:Stmt:=top 20
def MdP(H:Hp)(a:Addr)(v:V)(l:List Int):Prop:=∃p,v = .ref p/\H p=some (.lst (l.map V.int))/\p≠a
structure zX(H:Hp)(a d:Addr)(u:Tab):Prop where
 ex:∃kvs,H d=some (.dK (sk kvs))/\Dct (MdP H a) kvs u
 nd:(names u).Nodup
def zaw(a b d:Addr)(H H':Hp):Prop:=∀c o,c≠a->c≠b->c≠d->H c=some o->H' c=some o
theorem zaw.of{a b d:Addr}{H H':Hp}(s:zf H H'):zaw a b d H H':=λc o _ _ _ e=>s c o e
theorem zaw.trans{a b d:Addr}{H H1 H2:Hp}(x:zaw a b d H H1)(y:zaw a b d H1 H2):zaw a b d H H2:=λc o n1 n2 n3 e=>y c o n1 n2 n3 (x c o n1 n2 n3 e)
theorem zaw.a{a b d:Addr}{H H':Hp}(s:But a H H'):zaw a b d H H':=λc o n _ _ e=>s c o n e
theorem zaw.b{a b d:Addr}{H H':Hp}(s:But b H H'):zaw a b d H H':=λc o _ n _ e=>s c o n e
theorem zaw.d{a b d:Addr}{H H':Hp}(s:But d H H'):zaw a b d H H':=λc o _ _ n e=>s c o n e
section
variable {P:Program}{w:World}{K:Frag}{mg:Str->Option Value}{base:Heap}{A:zh}
theorem zX.same{H H':Hp}{a d:Addr}{u:Tab}(h:zX H a d u)(s:zf H H'):zX H' a d u:=let ⟨kvs,e,r⟩:=h.ex;⟨⟨kvs,s _ _ e,r.imp λv l ⟨p,e,hp,n⟩=>⟨p,e,s _ _ hp,n⟩⟩,h.nd⟩
theorem zX.dic{H H':Hp}{a d c:Addr}{u:Tab}{kv:List (Key×V)}(h:zX H a d u)(s:But c H H')(hc:H c=some (.dK kv))(n:d≠c):zX H' a d u :=
 let ⟨kvs,e,r⟩:=h.ex;⟨⟨kvs,s _ _ n e,r.imp λv l ⟨p,ev,hp,n⟩=>⟨p,ev,s _ _ (λz=>by rw [z,hc] at hp;cases hp) hp,n⟩⟩,h.nd⟩
theorem zX.pot{H H':Hp}{a d:Addr}{u:Tab}(h:zX H a d u)(s:But a H H')(hP:Pot H a):zX H' a d u :=
 let ⟨kvs,e,r⟩:=h.ex;let ⟨_,_,ea,_⟩:=hP.ex;⟨⟨kvs,s _ _ (λz=>by rw [z,ea] at e;cases e) e,r.imp λv l ⟨p,ev,hp,n⟩=>⟨p,ev,s _ _ n hp,n⟩⟩,h.nd⟩
theorem zq.pot{H H':Hp}{p b k a:Addr}{t:Tab}{ks:List (Str×Tab)}(h:zq A H p b k t ks)(s:But a H H')(hP:Pot H a):zq A H' p b k t ks:=let ⟨_,_,e,_⟩:=hP.ex;h.putX s e .lst
theorem Pot.dic{H H':Hp}{a c:Addr}{kvs:List (Key×V)}(hP:Pot H a)(s:But c H H')(e:H c=some (.dK kvs)):Pot H' a:=let ⟨x,y,ea,r⟩:=hP.ex;⟨⟨x,y,s _ _ (λz=>by rw [z,e] at ea;cases ea) ea,r⟩⟩
theorem zM.keep{H H':Hp}{p b k c:Addr}{t:Tab}{ks:List (Str×Tab)}(h:zq A H p b k t ks)(av:zM A H k c)(s1:∀kv,H k=some (.dK kv)->H' k=some (.dK kv))(s2:∀{q C dx:Addr}{fs:List (Str×V)},H q=some (.ins C dx fs)->H' q=some (.ins C dx fs)):zM A H' k c:=by
 obtain ⟨kk,e2,d2⟩:=h.kept
 intro kvs' hk pv hpv q b' k' dx' ev eq
 have h2:=s1 _ e2
 rw [h2] at hk
 cases hk
 unfold sk at hpv
 obtain ⟨p',hp',rfl⟩:=mem_map.mp hpv
 have hq:∃dx0 b0 k0,H q=some (.ins A.Files dx0 (zt b0 k0)):=by
  obtain ⟨j,hj,ej⟩:=getElem_of_mem hp'
  obtain ⟨a2,_,q2,b2,k2,ev2,hB2,_⟩:=Dct.at d2 (List.getElem?_eq_getElem hj)
  have ev:p'.2 = .ref q:=ev
  rw [ej,ev] at ev2
  cases ev2
  obtain ⟨dx2,e22⟩:=hB2.ob
  exact ⟨_,_,_,e22⟩
 obtain ⟨dx0,b0,k0,e0⟩:=hq
 have e3:=s2 e0
 rw [e3] at eq
 injection eq with eq
 injection eq with _ _ eq
 obtain ⟨r1,r2⟩:=zdB eq
 subst r1 r2
 exact av _ e2 _ (by unfold sk;exact mem_map.mpr ⟨p',hp',rfl⟩) q b0 k0 dx0 ev e0
theorem zM.same{H H':Hp}{p b k c:Addr}{t:Tab}{ks:List (Str×Tab)}(h:zq A H p b k t ks)(av:zM A H k c)(s:zf H H'):zM A H' k c:=av.keep h (λ_ e=>s _ _ e) λe=>s _ _ e
theorem zM.pot{H H':Hp}{p b k c a:Addr}{t:Tab}{ks:List (Str×Tab)}(h:zq A H p b k t ks)(av:zM A H k c)(s:But a H H')(hP:Pot H a):zM A H' k c :=
 let ⟨_,_,ea,_⟩:=hP.ex;av.keep h (λ_ e=>s _ _ (λz=>by rw [z,ea] at e;cases e) e) λe=>s _ _ (λz=>by rw [z,ea] at e;cases e) e
theorem zM.dic{H H':Hp}{p b k c x:Addr}{t:Tab}{ks:List (Str×Tab)}{kv:List (Key×V)}(h:zq A H p b k t ks)(av:zM A H k c)(s:But x H H')(hx:H x=some (.dK kv))(n:k≠x):zM A H' k c :=
 av.keep h (λ_ e=>s _ _ n e) λe=>s _ _ (λz=>by rw [z,hx] at e;cases e) e
theorem zX.get{H H':Hp}{a:Addr}{u:Tab}{kvs:List (Str×V)}(d:Dct (MdP H a) kvs u)(n:Str){p:Addr}(s:zf H H')(hp:H' p=some (.lst []))(pa:p≠a):∃r,(look kvs n).getD (.ref p) = .ref r/\H' r=some (.lst ((lk u n).map V.int))/\r≠a:=by
 unfold lk
 rcases d.look n with ⟨v,l,e1,e2,r,ev,hr,ra⟩|⟨e1,e2⟩
 ·rw [e1,e2];exact ⟨r,ev,s _ _ hr,ra⟩
 ·rw [e1,e2];exact ⟨p,rfl,hp,pa⟩
theorem zq.dic{H H':Hp}{p b k c:Addr}{t:Tab}{ks:List (Str×Tab)}{kv:List (Key×V)}(h:zq A H p b k t ks)(av:zM A H k c)(s:But c H H')(hc:H c=some (.dK kv))(n1:b≠c)(n2:k≠c):zq A H' p b k t ks/\zM A H' k c:=by
 obtain ⟨dx,e⟩:=h.ob
 obtain ⟨kvs,e1,d⟩:=h.births.ex
 obtain ⟨kk,e2,d2⟩:=h.kept
 have ni:∀{q C dx:Addr}{fs:List (Str×V)},H q=some (.ins C dx fs)->H' q=some (.ins C dx fs):=λ{q C dx fs} e=>s _ _ (λz=>by rw [z,hc] at e;cases e) e
 refine ⟨⟨⟨dx,ni e⟩,h.births.but s (λxs z=>by rw [hc] at z;cases z) n1,⟨kk,s _ _ n2 e2,?_⟩,h.ndk,h.ne⟩,?_⟩
 ·have mem:∀p∈kk,∀q b' k' dx,p.2 = .ref q->H q=some (.ins A.Files dx (zt b' k'))->b'≠c/\k'≠c:=λp hp q b' k' dx ev eq=>av _ e2 (.inr p.1,p.2) (by unfold sk;exact mem_map.mpr ⟨p,hp,rfl⟩) q b' k' dx ev eq
  clear e2 av h
  induction d2 with
  | nil=>exact .nil
  | cons z _ ih =>
   refine .cons ⟨z.1,?_⟩ (ih λp hp=>mem p (mem_cons_of_mem _ hp))
   obtain ⟨q,b',k',ev,hB,nn⟩:=z.2
   obtain ⟨dxq,eq⟩:=hB.ob
   obtain ⟨m1,m2⟩:=mem _ mem_cons_self q b' k' dxq ev eq
   exact ⟨q,b',k',ev,hB.but s hc m1 m2,nn⟩
 ·intro kvs' hk pv hpv q b' k' dx' ev eq
  have h2:=s _ _ n2 e2
  rw [h2] at hk
  cases hk
  unfold sk at hpv
  obtain ⟨p',hp',rfl⟩:=mem_map.mp hpv
  have hq:∃dx0 b0 k0,H q=some (.ins A.Files dx0 (zt b0 k0)):=by
   obtain ⟨j,hj,ej⟩:=getElem_of_mem hp'
   obtain ⟨a2,_,q2,b2,k2,ev2,hB2,_⟩:=Dct.at d2 (List.getElem?_eq_getElem hj)
   have ev:p'.2 = .ref q:=ev
   rw [ej,ev] at ev2
   cases ev2
   obtain ⟨dx2,e22⟩:=hB2.ob
   exact ⟨_,_,_,e22⟩
  obtain ⟨dx0,b0,k0,e0⟩:=hq
  have e3:=ni e0
  rw [e3] at eq
  injection eq with eq
  injection eq with _ _ eq
  obtain ⟨r1,r2⟩:=zdB eq
  subst r1 r2
  exact av _ e2 _ (by unfold sk;exact mem_map.mpr ⟨p',hp',rfl⟩) q b0 k0 dx0 ev e0
def zf3:Sp:=λvs H Q _=>∃(a:Addr),vs=[.ref a]/\Pot H a/\∀(r:Int) H',But a H H'->Pot H' a->0<=r->r<10 ^ 17->Q (.int r) H'
theorem zkT:zB ["_law_pot_here"] ["_law_pot_here"] (zg zcY):=⟨rfl,rfl,rfl,f!"",rfl,f!"",f!""⟩
theorem zrX{f:Addr}{fd:FuncData}(F:Fun K "_law_birth" "_law_birth" zcY f fd)(T:Txt K mg A)(Gb:GF P w K mg base true 1 "_law_draw" ["_law_pot_here","_law_many"] za6):zr P w K mg base CX0 true 2 f fd ["_law_pot_here"] zf3:=by
 refine F.ok zkT (λvs H Q E h=>?_) (λcdv Ar outer s H vs Q E hr h=>?_)
 ·obtain ⟨a,rfl,_⟩:=h;rfl
 ·obtain ⟨a,rfl,hP,q⟩:=h
  refine ⟨_,(W.h (zl (zG (zY zai (zab (zb (zC Gb hr rfl (zb (za 0) (zb zj zd))) (zb (zC Gb hr rfl (zb (za 0) (zb (zK ze4 zj zj) zd))) zd))) (zK zhn (zC Gb hr rfl (zb (za 0) (zb zj zd))) zj) (λ_ _=>rfl))))),?_⟩
  simp_all only []
  refine ⟨a,12,rfl,hP,by decide,by decide,λr1 H1 b1 P1 r10 r11=>⟨⟨by decide,by decide,by decide⟩,a,_,rfl,P1,by decide,by decide,λr2 H2 b2 P2 r20 r21=>⟨by decide,λp H3 n3 _=>⟨a,4,rfl,P2.same n3.same,by decide,by decide,λr3 H4 b4 P4 r30 r31=>?_⟩⟩⟩⟩
  have pa:p≠a:=P2.ne n3.no
  have hp:=b4 _ _ pa n3.at_
  have bb:But a H H4:=((b1.trans b2).trans (.of n3.same)).trans b4
  simp_all only []
  refine ⟨⟨by decide,by decide⟩,_,.inl hp,?_⟩
  have r21':r2<10 ^ 17:=r21
  by_cases h3:r3<3
  ·have e:r3 / 3=0:=by omega
   rw [e]
   exact ⟨_,zd5,q r1 H4 bb P4 r10 (by omega)⟩
  ·have e:r3 / 3=1:=by omega
   rw [e]
   exact ⟨_,zdA,q r2 H4 bb P4 r20 r21'⟩
structure Bud(t:Tab)(ks:List (Str×Tab))(B:Nat):Prop where
 few:t.length<=B
 row:∀n,(lk t n).length<=B
 live:∃L:List Int,L.length<=B/\∀y∈zag t ks,y∈L
 ne:∀n l,look t n=some l->l≠[]
 old:∀p∈ks,p.2.length<=B/\∀m,(lk p.2 m).length<=B
theorem zsf{v:V}(h:v∈[V.str "a",.str "b",.str "ab",.str "mark",.str "zzzzzz",.str "put"]):∃z:Str,v = .str z:=by
 simp only [mem_cons,not_mem_nil,or_false] at h
 rcases h with rfl|rfl|rfl|rfl|rfl|rfl<;>exact ⟨_,rfl⟩
theorem zgW{α:Type}{t:List (Str×α)}{n:Str}{a:α}:(zQ t n a).length<=t.length+1:=by
 unfold zQ
 split<;>simp
theorem ziG{t:Tab}{n m:Str}{l:List Int}:lk (zQ t n l) m=if m=n then l else lk t m:=by
 unfold lk
 rw [zbj]
 split<;>rfl
theorem zbE{t:Tab}{y:Int}:y∈zA t↔∃p∈t,y∈p.2:=by unfold zA;exact List.mem_flatMap
theorem ztI{t:Tab}{z:Str}{i:Nat}{x y:Int}(h:y∈zA (zQ t z ((lk t z).take i++[x]++(lk t z).drop (i+1)))):y∈zA t\/y=x:=by
 obtain ⟨p,hp,hy⟩:=zbE.mp h
 have inl:y∈lk t z->y∈zA t:=λhl=>by
  unfold lk at hl
  cases e:look t z with
  | none=>rw [e] at hl;cases hl
  | some l=>rw [e] at hl;exact zbE.mpr ⟨_,zb2 e,hl⟩
 rcases zfq hp with hp|rfl
 ·exact .inl (zbE.mpr ⟨p,hp,hy⟩)
 ·rcases mem_append.mp hy with hy|hy
  ·rcases mem_append.mp hy with hy|hy
   ·exact .inl (inl (List.mem_of_mem_take hy))
   ·exact .inr (by simpa using hy)
  ·exact .inl (inl (List.mem_of_mem_drop hy))
theorem Bud.put{t:Tab}{ks:List (Str×Tab)}{B:Nat}{z:Str}{i:Nat}{x:Int}(h:Bud t ks B)(hi:i<=(lk t z).length):Bud (zQ t z ((lk t z).take i++[x]++(lk t z).drop (i+1))) ks (B+1):=by
 refine ⟨le_trans zgW (Nat.succ_le_succ h.few),λn=>?_,?_,λn l e=>?_,λp hp=>⟨le_succ_of_le (h.old p hp).1,λm=>le_succ_of_le ((h.old p hp).2 m)⟩⟩
 ·rw [ziG]
  split
  ·have:=h.row z
   simp only [length_append,length_take,length_drop,length_singleton]
   omega
  ·exact le_succ_of_le (h.row n)
 ·obtain ⟨L,hL,hm⟩:=h.live
  refine ⟨L++[x],by rw [length_append,length_singleton];omega,λy hy=>?_⟩
  unfold zag at hy hm
  rcases mem_append.mp hy with hy|hy
  ·rcases ztI hy with hy|rfl
   ·exact mem_append_left _ (hm y (mem_append_left _ hy))
   ·exact mem_append_right _ (by simp)
  ·exact mem_append_left _ (hm y (mem_append_right _ hy))
 ·rw [zbj] at e
  split at e
  ·cases e
   simp
  ·exact h.ne n l e
def zef(A:zh):Sp:=λvs H Q _=>∃(a p d b k:Addr)(t u:Tab)(ks:List (Str×Tab))(B:Nat),vs=[.ref a,.ref p,.ref d]/\Pot H a/\zq A H p b k t ks/\zX H a d u/\z5 t u/\d≠b/\d≠k/\zM A H k d/\Bud t ks B/\B<=100 /\
 ∀(t' u':Tab) H',zaw a b d H H'->Pot H' a->zq A H' p b k t' ks->zX H' a d u'->z5 t' u'->zM A H' k d->Bud t' ks (B+1)->Q .non H'
theorem zdy:zB ["_law_pot_here","_law_files_here","_law_plain","_law_name","_law_births","_law_place","_law_birth_here"] ["_law_pot_here","_law_files_here","_law_plain"] (zg zcz):=⟨rfl,rfl,rfl,f!"",rfl,f!"",f!""⟩
theorem zs9{f:Addr}{fd:FuncData}(F:Fun K "_law_put" "_law_put" zcz f fd)(T:Txt K mg A)(Gc:GF P w K mg base true 2 "_law_drawn" ["_law_pot_here","_law_some"] zdE)(Gb:GF P w K mg base true 1 "_law_draw" ["_law_pot_here","_law_many"] za6)(Gn:GF P w K mg base true 2 "_law_birth" ["_law_pot_here"] zf3)(M_Files_put:GM P w K mg base true 4 A.Files "put" ["self","file","place","birth"] (zcr A)):zr P w K mg base CX0 true 5 f fd ["_law_pot_here","_law_files_here","_law_plain"] (zef A):=by
 refine F.ok zdy (λvs H Q E h=>?_) (λcdv Ar outer s H vs Q E hr h=>?_)
 ·obtain ⟨a,p,d,b,k,t,u,ks,B,rfl,_⟩:=h;rfl
 ·obtain ⟨a,p,d,b,k,t,u,ks,B,rfl,hP,hF,hD,al,db,dk,av,bud,hB,q⟩:=h
  refine ⟨_,(W.h (zk (zI (i:=3) zdy.nd rfl (Or.inl rfl) (zC Gc hr rfl (zb (za 0) (zb (zab (zb zaz (zb zaz (zb zaz (zb zaz (zb zaz (zb zaz zd))))))) zd))))
   (zk (zI (i:=4) zdy.nd rfl (Or.inl rfl) (zf1 (zR hr) (za 2) (za 3) (zab zd)))
   (zk (zI (i:=5) zdy.nd rfl (Or.inl rfl) (zC Gb hr rfl (zb (za 0) (zb (zK zaA (zP zbV rfl T.n_len PySem.boot_len (zb (za 4) zd)) zj) zd))))
   (zk (zI (i:=6) zdy.nd rfl (Or.inl rfl) (zC Gn hr rfl (zb (za 0) zd)))
   (zk (z6 (zae (za 1) T.cl_Files M_Files_put hr (zb (za 3) (zb (za 5) (zb (za 6) zd)))))
   (zl (zbs (zK zaA (zK zaA (zdh zey (za 4) zc9 (zcW (za 5))) (zab (zb (za 6) zd))) (zdh zey (za 4) (zcW (zK zaA (za 5) zj)) zc9)) (zbA (za 2) (za 3) (zbW (zR hr))))))))))),?_⟩
  simp_all only []
  refine ⟨by decide,λln H1 n1 _=>⟨a,hP.same n1.same,.inl ⟨ln,_,rfl,hP.ne n1.no,.inl n1.at_,by simp,by simp,λv H2 hv b2 P2=>?_⟩⟩⟩
  obtain ⟨z,rfl⟩:=zsf hv
  have P1:=hP.same n1.same
  have F1:=hF.same n1.same
  have F2:=F1.pot b2 P1
  have D2:=(hD.same n1.same).pot b2 P1
  have A2:=(av.same hF n1.same).pot F1 b2 P1
  obtain ⟨kvs,eD2,dd⟩:=D2.ex
  simp_all only []
  refine ⟨⟨_,.inl eD2⟩,zero_le _,λl3 H3 n3 _=>⟨_,.inl (n3.same _ _ eD2),?_⟩⟩
  obtain ⟨r,er,hr3,ra⟩:=zX.get dd z n3.same n3.at_ (P2.ne n3.no)
  rw [zax,er]
  have lz:(lk u z).length=(lk t z).length:=by unfold lk;rw [al z]
  have lB:=bud.row z
  simp_all only []
  refine ⟨_,.inl hr3,?_⟩
  rw [length_map]
  have P3:=P2.same n3.same
  refine ⟨a,_,rfl,P3,by omega,by omega,λi H4 b4 P4 i0 i1=>⟨a,rfl,P4,λx H5 b5 P5 x0 x1=>?_⟩⟩
  have F5:=((F2.same n3.same).pot b4 P3).pot b5 P4
  have D5:=((D2.same n3.same).pot b4 P3).pot b5 P4
  have A5:=((A2.same F2 n3.same).pot (F2.same n3.same) b4 P3).pot ((F2.same n3.same).pot b4 P3) b5 P4
  have hr5:=b5 _ _ ra (b4 _ _ ra hr3)
  obtain ⟨dx5,e5⟩:=F5.ob
  simp_all only [e5,zee]
  refine ⟨p,b,k,t,ks,z,i,x,rfl,F5,i0,by omega,by omega,by have:=bud.few;omega,λH6 b6 F6=>?_⟩
  simp_all only []
  obtain ⟨kvb,eb5,_⟩:=F5.births.ex
  have rb:r≠b:=λz=>by rw [z,eb5] at hr5;cases hr5
  have hr6:=b6 _ _ rb hr5
  have D6:=D5.dic b6 eb5 db
  have A6:=A5.dic F5 b6 eb5 hF.ne.symm
  have P6:=P5.dic b6 eb5
  have hlu:=zg6 al hF.births.nd hD.nd
  have tB:=bud.few
  have c1:zaq ((lk u z).map V.int) none (some i)=((lk u z).take i.toNat).map V.int:=by rw [ze7 i0 (by rw [length_map];omega),map_take]
  have c2:zaq ((lk u z).map V.int) (some (i+1)) none=((lk u z).drop (i.toNat+1)).map V.int:=by rw [zjP (by omega) (by rw [length_map];omega),show (i+1).toNat=i.toNat+1 by omega,List.map_drop]
  refine ⟨_,hr6,λl7 H7 n7=>⟨by decide,λl8 H8 n8 _=>⟨_,n8.same _ _ n7.at_,_,n8.at_,?_,λl9 H9 n9=>⟨_,n9.same _ _ (n8.same _ _ (n7.same _ _ hr6)),λl10 H10 n10=>⟨_,n10.same _ _ n9.at_,_,n10.at_,?_,λl11 H11 n11=>?_⟩⟩⟩⟩⟩
  ·rw [c1,length_map,length_take];exact le_trans (show _<=1000 by simp only [length_singleton];omega) (by decide)
  ·rw [c1,c2,length_append,length_map,length_map,length_take,length_drop];exact le_trans (show _<=1000 by simp only [length_singleton];omega) (by decide)
  have s11:zf H6 H11:=(((n7.same.trans n8.same).trans n9.same).trans n10.same).trans n11.same
  have D11:=D6.same s11
  obtain ⟨kv,eD,dd'⟩:=D11.ex
  refine ⟨_,eD,by rw [za3,dd'.length,<- hlu];exact Nat.lt_of_le_of_lt (show t.length<=1000 by omega) (by decide),?_⟩
  rw [zch]
  have P10:Pot H10 a:=P6.same (((n7.same.trans n8.same).trans n9.same).trans n10.same)
  have la:l11≠a:=P10.ne n11.no
  have e11:H11 l11=some (.lst (((lk u z).take i.toNat++[x]++(lk u z).drop (i.toNat+1)).map V.int)):=by
   rw [n11.at_,c1,c2,map_append,map_append];rfl
  obtain ⟨F',A'⟩:=(F6.same s11).dic (A6.same F6 s11) But.upd eD db.symm dk.symm
  have lu:lk u z=lk t z:=by unfold lk;rw [al z]
  rw [lu] at e11
  refine q _ _ _ (λc o m1 m2 m3 e=>?_) ((P6.same s11).dic But.upd eD) F' ⟨⟨_,zp,(dd'.put z ⟨l11,rfl,e11,la⟩).imp λv l ⟨p,ev,hp,n⟩=>⟨p,ev,by rw [ze (λzz=>by rw [zz,eD] at hp;cases hp)];exact hp,n⟩⟩,zc2 hD.nd⟩ (al.put z _) A' (bud.put (by omega))
  rw [ze m3]
  exact s11 _ _ (b6 _ _ m2 (b5 _ _ m1 (b4 _ _ m1 (n3.same _ _ (b2 _ _ m1 (n1.same _ _ e))))))
end
abbrev zdi:Stmt:=top 21
section
variable {P:Program}{w:World}{K:Frag}{mg:Str->Option Value}{base:Heap}{A:zh}
theorem zni{t:Tab}{n:Str}{p:Str×List Int}(h:p∈zy t n):p∈t:=by unfold zy at h;exact (mem_filter.mp h).1
theorem zrx{t:Tab}{n:Str}{l a:List Int}(h:look t n=some l):(zQ t n a).length=t.length:=by
 have e:names (zQ t n a)=names t:=by rw [zki,h];rfl
 have:=congrArg length e
 unfold names at this
 rw [length_map,length_map] at this
 exact this
theorem Bud.cut{t:Tab}{ks:List (Str×Tab)}{B:Nat}{z:Str}{l:List Int}{m:Int}(h:Bud t ks B)(hl:look t z=some l)(m0:0<=m)(m1:m<=l.length):Bud (zbf t z m) ks B:=by
 have lkz:lk t z=l:=by unfold lk;rw [hl];rfl
 have sub:∀y∈zA (zbf t z m),y∈zA t:=λy hy=>by
  obtain ⟨p,hp,hyp⟩:=zbE.mp hy
  unfold zbf at hp
  split at hp
  ·exact zbE.mpr ⟨p,zni hp,hyp⟩
  ·rcases zfq hp with hp|rfl
   ·exact zbE.mpr ⟨p,hp,hyp⟩
   ·rw [lkz] at hyp
    exact zbE.mpr ⟨_,zb2 hl,List.mem_of_mem_take hyp⟩
 obtain ⟨L,hL,hm⟩:=h.live
 refine ⟨?_,λn=>?_,⟨L,hL,λy hy=>?_⟩,λn l' e=>?_,h.old⟩
 ·unfold zbf
  split
  ·unfold zy
   exact le_trans (List.length_filter_le ..) h.few
  ·rw [zrx hl];exact h.few
 ·unfold zbf
  split
  ·unfold lk
   rw [zbJ]
   split
   ·exact zero_le _
   ·exact h.row n
  ·rw [ziG]
   split
   ·rw [length_take]
    exact le_trans (Nat.min_le_right _ _) (h.row z)
   ·exact h.row n
 ·unfold zag at hy hm
  rcases mem_append.mp hy with hy|hy
  ·exact hm y (mem_append_left _ (sub y hy))
  ·exact hm y (mem_append_right _ hy)
 ·unfold zbf at e
  split at e
  ·rw [zbJ] at e
   split at e
   ·cases e
   ·exact h.ne n l' e
  ·rename_i hm0
   rw [zbj] at e
   split at e
   ·cases e
    rw [lkz]
    intro e0
    have:=congrArg length e0
    rw [length_take,length_nil] at this
    have hne:=List.length_pos_iff.mpr (h.ne z l hl)
    omega
   ·exact h.ne n l' e
def zfj(A:zh):Sp:=λvs H Q _=>∃(a p d b k:Addr)(t u:Tab)(ks:List (Str×Tab))(B:Nat),vs=[.ref a,.ref p,.ref d]/\Pot H a/\zq A H p b k t ks/\zX H a d u/\z5 t u/\d≠b/\d≠k/\zM A H k d/\Bud t ks B/\B<=40/\u≠[] /\
 ∀(t' u':Tab) H',zaw a b d H H'->Pot H' a->zq A H' p b k t' ks->zX H' a d u'->z5 t' u'->zM A H' k d->Bud t' ks B->Q .non H'
theorem zeU:zB ["_law_pot_here","_law_files_here","_law_plain","_law_name","_law_many","_law_births"] ["_law_pot_here","_law_files_here","_law_plain"] (zg zdi):=⟨rfl,rfl,rfl,f!"",rfl,f!"",f!""⟩
theorem zlJ{f:Addr}{fd:FuncData}(F:Fun K "_law_cut" "_law_cut" zdi f fd)(T:Txt K mg A)(Gc:GF P w K mg base true 2 "_law_drawn" ["_law_pot_here","_law_some"] zdE)(Gb:GF P w K mg base true 1 "_law_draw" ["_law_pot_here","_law_many"] za6)(M_Files_cut:GM P w K mg base true 4 A.Files "cut" ["self","file","many"] (zem A)):zr P w K mg base CX0 true 5 f fd ["_law_pot_here","_law_files_here","_law_plain"] (zfj A):=by
 refine F.ok zeU (λvs H Q E h=>?_) (λcdv Ar outer s H vs Q E hr h=>?_)
 ·obtain ⟨a,p,d,b,k,t,u,ks,B,rfl,_⟩:=h;rfl
 ·obtain ⟨a,p,d,b,k,t,u,ks,B,rfl,hP,hF,hD,al,db,dk,av,bud,hB,une,q⟩:=h
  have hu:_<cLine:=lt_of_succ_lt (zR hr)
  refine ⟨_,(W.h (zk (zI (i:=3) zeU.nd rfl (Or.inl rfl) (zC Gc hr rfl (zb (za 0) (zb (zP (zcp rfl) rfl T.n_sorted boot_sorted (zb (za 2) zd)) zd))))
   (zk (zI (i:=4) zeU.nd rfl (Or.inl rfl) (zC Gb hr rfl (zb (za 0) (zb (zK zaA (zP zbV rfl T.n_len PySem.boot_len (zb (zY (zb3 (zR hr)) (za 2) (za 3) (λ_ _=>rfl)) zd)) zj) zd))))
   (zk (z6 (zae (za 1) T.cl_Files M_Files_cut hr (zb (za 3) (zb (za 4) zd))))
   (zk (zI (i:=5) zeU.nd rfl (Or.inl rfl) (zdh zey (zhM (za 2) (za 3)) zc9 (zcW (za 4))))
   (zl (z7 (zad (zjp hu) (za 5) (zab zd) (zal _))
   (zl (zbs (za 5) (zbA (za 2) (za 3) (zbW (zR hr)))))
   zas))))))),?_⟩
  simp_all only []
  obtain ⟨kvs,eD,dd⟩:=hD.ex
  have hlu:=zg6 al hF.births.nd hD.nd
  have tB:=bud.few
  have lk0:=dd.length
  have ulen:0<u.length:=List.length_pos_iff.mpr une
  have sl:(zaH (kvs.map (·.1))).length=kvs.length:=by rw [(zbz _).1.length_eq,length_map]
  refine ⟨kvs,.inl eD,by omega,λln H1 n1=>⟨a,hP.same n1.same,.inl ⟨ln,_,rfl,hP.ne n1.no,.inl n1.at_,by rw [length_map,sl];omega,by rw [length_map,sl];omega,λv H2 hv b2 P2=>?_⟩⟩⟩
  obtain ⟨z,hz,rfl⟩:=mem_map.mp hv
  have hz2:z∈names u:=by rw [<- dd.names];exact (zbz _).1.mem_iff.mp hz
  have P1:=hP.same n1.same
  have F1:=hF.same n1.same
  have F2:=F1.pot b2 P1
  have D2:=(hD.same n1.same).pot b2 P1
  have A2:=(av.same hF n1.same).pot F1 b2 P1
  obtain ⟨kv2,eD2,dd2⟩:=D2.ex
  rcases dd2.look z with ⟨v,l,e1,e2,r,rfl,hr2,ra⟩|⟨_,e2⟩
  case inr=>exact absurd hz2 (zaI.mp e2)
  have lB:l.length<=B:=by have:=bud.row z;unfold lk at this;rw [al z,e2] at this;exact this
  simp_all only []
  refine ⟨_,.inl eD2,_,by rw [zax];exact e1,?_⟩
  simp_all only []
  refine ⟨_,.inl hr2,?_⟩
  rw [length_map]
  refine ⟨a,_,rfl,P2,by omega,by omega,λm H3 b3 P3 m0 m1=>?_⟩
  have F3:=F2.pot b3 P2
  have D3:=D2.pot b3 P2
  have A3:=A2.pot F2 b3 P2
  obtain ⟨dx3,e3⟩:=F3.ob
  simp_all only [e3,zj7]
  refine ⟨p,b,k,t,ks,z,l,m,rfl,F3,by rw [al z];exact e2,m0,by omega,by omega,λH4 b4 F4=>?_⟩
  obtain ⟨kvb,eb3,_⟩:=F3.births.ex
  have D4:=D3.dic b4 eb3 db
  have A4:=A3.dic F3 b4 eb3 hF.ne.symm
  have P4:=P3.dic b4 eb3
  obtain ⟨kv4,eD4,dd4⟩:=D4.ex
  rcases dd4.look z with ⟨v4,l4,e41,e42,r4,rfl,hr4,ra4⟩|⟨_,e42⟩
  case inr=>rw [e2] at e42;cases e42
  rw [e2] at e42
  cases e42
  have r4d:r4≠d:=λzz=>by rw [zz,eD4] at hr4;cases hr4
  try simp_all only []
  refine ⟨⟨_,.inl eD4⟩,_,eD4,_,by rw [zax];exact e41,?_⟩
  rw [zeL]
  have hr4':upd H4 d (.dK (sk (zy kv4 z))) r4=some (.lst (l.map V.int)):=by rw [ze r4d];exact hr4
  simp_all only []
  refine ⟨_,hr4',λl5 H5 n5=>⟨by decide,λl6 H6 n6 _=>?_⟩⟩
  have c1:zaq (l.map V.int) none (some m)=(l.take m.toNat).map V.int:=by rw [ze7 m0 (by rw [length_map];omega),map_take]
  rw [c1] at n5
  have h5:=n6.same _ _ n5.at_
  try simp_all only []
  have s6:zf (upd H4 d (.dK (sk (zy kv4 z)))) H6:=n5.same.trans n6.same
  have eD6:=s6 _ _ zp
  obtain ⟨F0,A0⟩:=F4.dic (A3.dic F3 b4 eb3 hF.ne.symm) But.upd eD4 db.symm dk.symm (H':=upd H4 d (.dK (sk (zy kv4 z))))
  have F6:=F0.same s6
  have A6:=A0.same F0 s6
  have P6:=(P4.dic (But.upd (o:=.dK (sk (zy kv4 z)))) eD4).same s6
  have dd6:Dct (MdP H6 a) (zy kv4 z) (zy u z):=(dd4.drop z).imp λv l ⟨p,ev,hp,n⟩=>⟨p,ev,s6 _ _ (by rw [ze (λzz=>by rw [zz,eD4] at hp;cases hp)];exact hp),n⟩
  have l5a:l5≠a:=(P4.dic (But.upd (o:=.dK (sk (zy kv4 z)))) eD4).ne n5.no
  have bt:zaw a b d H H6:=λc o m1 m2 m3 e=>s6 _ _ (by rw [ze m3];exact b4 _ _ m2 (b3 _ _ m1 (b2 _ _ m1 (n1.same _ _ e))))
  have hlt:look t z=some l:=by rw [al z];exact e2
  have hb:=bud.cut hlt m0 (show m<=l.length by omega)
  have lne:=List.length_pos_iff.mpr (bud.ne z l hlt)
  refine ⟨_,h5,_,n6.at_,.inr rfl,?_⟩
  by_cases hm:m=0
  ·subst hm
   rw [if_neg (by simp)]
   exact q _ (zy u z) H6 bt P6 F6 ⟨⟨_,eD6,dd6⟩,zdP hD.nd⟩ (by unfold zbf;rw [if_pos rfl];exact al.drop z) A6 hb
  ·rw [if_pos (by simp only [length_map,length_take,length_nil,not_eq_true',decide_eq_false_iff_not];omega)]
   refine ⟨_,eD6,by rw [za3,dd6.length];unfold zy;exact Nat.lt_of_le_of_lt (le_trans (List.length_filter_le ..) (show u.length<=1000 by omega)) (by decide),?_⟩
   rw [zch]
   obtain ⟨F',A'⟩:=F6.dic A6 But.upd eD6 db.symm dk.symm (H':=upd H6 d (.dK (sk (zQ (zy kv4 z) z (.ref l5)))))
   refine q _ (zQ (zy u z) z (l.take m.toNat)) _ (λc o m1 m2 m3 e=>by rw [ze m3];exact bt _ _ m1 m2 m3 e) (P6.dic But.upd eD6) F' ⟨⟨_,zp,(dd6.put z ⟨l5,rfl,h5,l5a⟩).imp λv l ⟨p,ev,hp,n⟩=>⟨p,ev,by rw [ze (λzz=>by rw [zz,eD6] at hp;cases hp)];exact hp,n⟩⟩,zc2 (zdP hD.nd)⟩ (λn=>?_) A' hb
   unfold zbf
   rw [if_neg hm,zbj,zbj,zbJ]
   have lkz:lk t z=l:=by unfold lk;rw [hlt];rfl
   rw [lkz]
   by_cases hn:n=z
   ·rw [if_pos hn,if_pos hn]
   ·rw [if_neg hn,if_neg hn,if_neg hn,al n]
end
abbrev zdk:Stmt:=top 22
def KvR(H:Hp)(a:Addr)(X:List Addr)(v:V)(u:Tab):Prop:=∃e,v = .ref e/\e∉X/\zX H a e u
structure zaP(H:Hp)(a:Addr)(X:List Addr)(kd:Addr)(ku:List (Str×Tab)):Prop where
 ex:∃kvs,H kd=some (.dK (sk kvs))/\Dct (KvR H a X) kvs ku
 nd:(names ku).Nodup
def KAl(ks ku:List (Str×Tab)):Prop:=∀n,(∃v w,look ks n=some v/\look ku n=some w/\z5 v w/\(names v).Nodup)\/(look ks n=none/\look ku n=none)
def zar(X:List Addr)(H H':Hp):Prop:=∀c o,c∉X->H c=some o->H' c=some o
theorem zar.of{X:List Addr}{H H':Hp}(s:zf H H'):zar X H H':=λc o _ e=>s c o e
theorem zar.trans{X:List Addr}{H H1 H2:Hp}(x:zar X H H1)(y:zar X H1 H2):zar X H H2:=λc o n e=>y c o n (x c o n e)
structure Rnd(A:zh)(H:Hp)(a p d kd b k:Addr)(t u:Tab)(ks ku:List (Str×Tab))(B:Nat):Prop where
 pot:Pot H a
 files:zq A H p b k t ks
 plain:zX H a d u
 kept:zaP H a [b,k,d,kd] kd ku
 al:z5 t u
 kal:KAl ks ku
 av:zM A H k d
 avk:zM A H k kd
 bud:Bud t ks B
 few:ks.length<=3
 ap:d≠b/\d≠k/\kd≠b/\kd≠k/\d≠kd
 nh:look ks "here"=none
section
variable {P:Program}{w:World}{K:Frag}{mg:Str->Option Value}{base:Heap}{A:zh}
theorem Pot.ned{H:Hp}{a c:Addr}{kvs:List (Key×V)}(hP:Pot H a)(e:H c=some (.dK kvs)):c≠a:=λz=>by obtain ⟨x,y,ea,_⟩:=hP.ex;rw [z,ea] at e;cases e
theorem zX.butL{H H':Hp}{a e:Addr}{X:List Addr}{u:Tab}(h:zX H a e u)(s:zar (a::X) H H')(hX:∀x∈X,∃kvs,H x=some (.dK kvs))(ne:e∉X)(ea:e≠a):zX H' a e u:=by
 obtain ⟨kvs,e1,d⟩:=h.ex
 refine ⟨⟨kvs,s _ _ (by simp only [mem_cons,not_or];exact ⟨ea,ne⟩) e1,d.imp λv l ⟨p,ev,hp,n⟩=>⟨p,ev,s _ _ ?_ hp,n⟩⟩,h.nd⟩
 simp only [mem_cons,not_or]
 refine ⟨n,λz=>?_⟩
 obtain ⟨kv,ex⟩:=hX p z
 rw [hp] at ex
 cases ex
theorem KvR.butL{H H':Hp}{a:Addr}{X Y:List Addr}{v:V}{u:Tab}(h:KvR H a Y v u)(s:zar (a::X) H H')(hP:Pot H a)(hX:∀x∈X,∃kvs,H x=some (.dK kvs))(sub:∀x∈X,x∈Y):KvR H' a Y v u:=by
 obtain ⟨e,ev,ne,pl⟩:=h
 obtain ⟨kvs,e1,_⟩:=pl.ex
 exact ⟨e,ev,ne,pl.butL s hX (λz=>ne (sub e z)) (hP.ned e1)⟩
theorem zq.dicts{H:Hp}{p b k:Addr}{t:Tab}{ks:List (Str×Tab)}(h:zq A H p b k t ks):(∃kvs,H b=some (.dK kvs))/\∃kvs,H k=some (.dK kvs):=⟨let ⟨_,e,_⟩:=h.births.ex;⟨_,e⟩,let ⟨_,e,_⟩:=h.kept;⟨_,e⟩⟩
theorem zaP.butL{H H':Hp}{a kd:Addr}{X Y:List Addr}{ku:List (Str×Tab)}(h:zaP H a Y kd ku)(s:zar (a::X) H H')(hP:Pot H a)(hX:∀x∈X,∃kvs,H x=some (.dK kvs))(sub:∀x∈X,x∈Y)(nk:kd∉X):zaP H' a Y kd ku :=
 let ⟨kvs,e,d⟩:=h.ex;⟨⟨kvs,s _ _ (by simp only [mem_cons,not_or];exact ⟨hP.ned e,nk⟩) e,d.imp λv u r=>r.butL s hP hX sub⟩,h.nd⟩
theorem Rnd.same{H H':Hp}{a p d kd b k:Addr}{t u:Tab}{ks ku:List (Str×Tab)}{B:Nat}(R:Rnd A H a p d kd b k t u ks ku B)(s:zf H H'):Rnd A H' a p d kd b k t u ks ku B :=
 ⟨R.pot.same s,R.files.same s,R.plain.same s,R.kept.butL (X:=[]) (.of s) R.pot (λ_ h=>by cases h) (λ_ h=>by cases h) (λh=>by cases h),R.al,R.kal,R.av.same R.files s,R.avk.same R.files s,R.bud,R.few,R.ap,R.nh⟩
theorem Rnd.potB{H H':Hp}{a p d kd b k:Addr}{t u:Tab}{ks ku:List (Str×Tab)}{B:Nat}(R:Rnd A H a p d kd b k t u ks ku B)(s:But a H H')(P':Pot H' a):Rnd A H' a p d kd b k t u ks ku B :=
 ⟨P',R.files.pot s R.pot,R.plain.pot s R.pot,R.kept.butL (X:=[]) (λc o n e=>s c o (λz=>n (by simp [z])) e) R.pot (λ_ h=>by cases h) (λ_ h=>by cases h) (λh=>by cases h),R.al,R.kal,R.av.pot R.files s R.pot,R.avk.pot R.files s R.pot,R.bud,R.few,R.ap,R.nh⟩
theorem Bud.up{t:Tab}{ks:List (Str×Tab)}{B:Nat}(h:Bud t ks B):Bud t ks (B+1) :=
 let ⟨L,hL,hm⟩:=h.live;⟨le_succ_of_le h.few,λn=>le_succ_of_le (h.row n),⟨L,le_succ_of_le hL,hm⟩,h.ne,λp hp=>⟨le_succ_of_le (h.old p hp).1,λm=>le_succ_of_le ((h.old p hp).2 m)⟩⟩
theorem Rnd.done{H H':Hp}{a p d kd b k:Addr}{t u t' u':Tab}{ks ku:List (Str×Tab)}{B B':Nat}(R:Rnd A H a p d kd b k t u ks ku B)(s:zaw a b d H H')(P':Pot H' a)(F':zq A H' p b k t' ks)(D':zX H' a d u')(al:z5 t' u')(av:zM A H' k d)(bud:Bud t' ks B'):Rnd A H' a p d kd b k t' u' ks ku B':=by
 obtain ⟨⟨kb,eb⟩,kk,ek⟩:=R.files.dicts
 obtain ⟨kv,ed,_⟩:=R.plain.ex
 obtain ⟨a1,a2,a3,a4,a5⟩:=R.ap
 have sL:zar (a::[b,d]) H H':=λc o n e=>by
  simp only [mem_cons,not_mem_nil,or_false,not_or] at n
  exact s c o n.1 n.2.1 n.2.2 e
 have hX:∀x∈[b,d],∃kvs,H x=some (.dK kvs):=λx hx=>by
  simp only [mem_cons,not_mem_nil,or_false] at hx
  rcases hx with rfl|rfl
  ·exact ⟨_,eb⟩
  ·exact ⟨_,ed⟩
 refine ⟨P',F',D',R.kept.butL sL R.pot hX (λx hx=>?_) ?_,al,R.kal,av,R.avk.keep R.files (λkv e=>s _ _ (R.pot.ned e) R.files.ne.symm a2.symm e) (λ{q C dx fs} e=>s _ _ (λz=>?_) (λz=>?_) (λz=>?_) e),bud,R.few,R.ap,R.nh⟩
 ·simp only [mem_cons,not_mem_nil,or_false] at hx
  rcases hx with rfl|rfl<;>simp
 ·simp only [mem_cons,not_mem_nil,or_false,not_or]
  exact ⟨a3,a5.symm⟩
 ·obtain ⟨x,y,ea,_⟩:=R.pot.ex
  rw [z,ea] at e;cases e
 ·rw [z,eb] at e;cases e
 ·rw [z,ed] at e;cases e
theorem KAl.drop{ks ku:List (Str×Tab)}(h:KAl ks ku)(z:Str):KAl (zy ks z) (zy ku z):=λn=>by
 rw [zbJ,zbJ]
 by_cases e:n=z
 ·rw [if_pos e,if_pos e];exact .inr ⟨rfl,rfl⟩
 ·rw [if_neg e,if_neg e];exact h n
theorem KAl.put{ks ku:List (Str×Tab)}{t u:Tab}(h:KAl ks ku)(z:Str)(al:z5 t u)(nd:(names t).Nodup):KAl (zQ ks z t) (zQ ku z u):=λn=>by
 rw [zbj,zbj]
 by_cases e:n=z
 ·rw [if_pos e,if_pos e];exact .inl ⟨t,u,rfl,rfl,al,nd⟩
 ·rw [if_neg e,if_neg e];exact h n
theorem KAl.len{ks ku:List (Str×Tab)}(h:KAl ks ku)(n1:(names ks).Nodup)(n2:(names ku).Nodup):ks.length=ku.length:=by
 have p:(names ks).Perm (names ku):=(List.perm_ext_iff_of_nodup n1 n2).mpr λn=>by
  rcases h n with ⟨v,w,e1,e2,_⟩|⟨e1,e2⟩
  ·exact ⟨λ_=>Classical.byContradiction λz=>(by rw [zaI.mpr z] at e2;cases e2),λ_=>Classical.byContradiction λz=>(by rw [zaI.mpr z] at e1;cases e1)⟩
  ·exact ⟨λz=>absurd z (zaI.mp e1),λz=>absurd z (zaI.mp e2)⟩
 have:=p.length_eq
 unfold names at this
 rw [length_map,length_map] at this
 exact this
theorem zcJ{t:Tab}{ks:List (Str×Tab)}{y:Int}:y∈zag t ks↔y∈zA t\/∃p∈ks,y∈zA p.2:=by
 unfold zag
 rw [mem_append,List.mem_flatMap]
theorem Bud.sub{t:Tab}{ks ks':List (Str×Tab)}{B:Nat}(h:Bud t ks B)(s:∀p∈ks',p∈ks\/p.2=t):Bud t ks' B:=by
 obtain ⟨L,hL,hm⟩:=h.live
 refine ⟨h.few,h.row,⟨L,hL,λy hy=>?_⟩,h.ne,λp hp=>(s p hp).elim (h.old p) λe=>by rw [e];exact ⟨h.few,h.row⟩⟩
 rcases zcJ.mp hy with hy|⟨p,hp,hy⟩
 ·exact hm y (zcJ.mpr (.inl hy))
 ·rcases s p hp with hp|e
  ·exact hm y (zcJ.mpr (.inr ⟨p,hp,hy⟩))
  ·rw [e] at hy;exact hm y (zcJ.mpr (.inl hy))
theorem Rnd.free{H H5:Hp}{a p d kd b k:Addr}{t u:Tab}{ks ku:List (Str×Tab)}{B:Nat}{z:Str}{kv:List (Str×V)}(R:Rnd A H a p d kd b k t u ks ku B)(b5:But k H H5)(F5:zq A H5 p b k t (zy ks z))(av5:∀c,zM A H k c->zM A H5 k c)(ekd:H kd=some (.dK (sk kv)))(dd:Dct (KvR H a [b,k,d,kd]) kv ku) :
  H5 kd=some (.dK (sk kv))/\Rnd A (upd H5 kd (.dK (sk (zy kv z)))) a p d kd b k t u (zy ks z) (zy ku z) (B+1):=by
 obtain ⟨_,kk,ek⟩:=R.files.dicts
 obtain ⟨a1,a2,a3,a4,a5⟩:=R.ap
 have e5:=b5 _ _ a4 ekd
 have P5:=R.pot.dic b5 ek
 obtain ⟨F6,K6⟩:=F5.dic (av5 kd R.avk) But.upd e5 a3.symm a4.symm (H':=upd H5 kd (.dK (sk (zy kv z))))
 have D5:=R.plain.dic b5 ek a2
 refine ⟨e5,P5.dic But.upd e5,F6,D5.dic But.upd e5 a5,⟨⟨_,zp,(dd.drop z).imp λv w r=>?_⟩,zdP R.kept.nd⟩,R.al,R.kal.drop z,(av5 d R.av).dic F5 But.upd e5 a4.symm,K6,(R.bud.sub λp hp=>.inl ?_).up,?_,R.ap,by rw [zbJ,R.nh];split<;>rfl⟩
 ·have r5:KvR H5 a [b,k,d,kd] v w:=r.butL (X:=[k]) (λc o n e=>b5 c o (λz=>n (by simp [z])) e) R.pot (λx hx=>by simp only [mem_cons,not_mem_nil,or_false] at hx;subst hx;exact ⟨_,ek⟩) (λx hx=>by simp only [mem_cons,not_mem_nil,or_false] at hx;subst hx;simp)
  exact r5.butL (X:=[kd]) (λc o n e=>by rw [ze (λz=>n (by simp [z]))];exact e) P5 (λx hx=>by simp only [mem_cons,not_mem_nil,or_false] at hx;subst hx;exact ⟨_,e5⟩) (λx hx=>by simp only [mem_cons,not_mem_nil,or_false] at hx;subst hx;simp)
 ·unfold zy at hp;exact (mem_filter.mp hp).1
 ·unfold zy;exact le_trans (List.length_filter_le ..) R.few
theorem Rnd.hold{H H5 H6:Hp}{a p d kd b k pn:Addr}{t u:Tab}{ks ku:List (Str×Tab)}{B:Nat}{z:Str}{kv kvd:List (Str×V)}(R:Rnd A H a p d kd b k t u ks ku B)(b5:But k H H5)(F5:zq A H5 p b k t (zQ ks z t))(av5:∀c,H c≠none->zM A H k c->zM A H5 k c)(ekd:H kd=some (.dK (sk kv)))(dd:Dct (KvR H a [b,k,d,kd]) kv ku)
  (ed:H d=some (.dK (sk kvd))) (du:Dct (MdP H a) kvd u) (n6:New H5 pn (.dK (sk kvd)) H6) (few:ku.length<3) (zn:z≠"here") :
  H6 kd=some (.dK (sk kv))/\Rnd A (upd H6 kd (.dK (sk (zQ kv z (.ref pn))))) a p d kd b k t u (zQ ks z t) (zQ ku z u) (B+1):=by
 obtain ⟨_,kk,ek⟩:=R.files.dicts
 obtain ⟨a1,a2,a3,a4,a5⟩:=R.ap
 have e5:=b5 _ _ a4 ekd
 have e6:=n6.same _ _ e5
 have P5:=R.pot.dic b5 ek
 have P6:=P5.same n6.same
 have F6:=F5.same n6.same
 have k5:=(av5 kd (by rw [ekd];exact nofun) R.avk).same F5 n6.same
 have d5:=(av5 d (by rw [ed];exact nofun) R.av).same F5 n6.same
 obtain ⟨F7,K7⟩:=F6.dic k5 But.upd e6 a3.symm a4.symm (H':=upd H6 kd (.dK (sk (zQ kv z (.ref pn)))))
 have D6:=(R.plain.dic b5 ek a2).same n6.same
 have fr:∀{c:Addr}{o:HO},H5 c=some o->pn≠c:=λ{c o} e z=>by have:=n6.no;rw [z,e] at this;cases this
 obtain ⟨⟨kb5,eb5⟩,kk5,ek5⟩:=F5.dicts
 have ed5:=b5 _ _ a2 ed
 have pl6:zX H6 a pn u:=⟨⟨kvd,n6.at_,du.imp λv l ⟨q,ev,hq,n⟩=>⟨q,ev,n6.same _ _ (b5 _ _ (λz=>by rw [z,ek] at hq;cases hq) hq),n⟩⟩,R.plain.nd⟩
 have rn:KvR H6 a [b,k,d,kd] (.ref pn) u:=⟨pn,rfl,by simp only [mem_cons,not_mem_nil,or_false,not_or];exact ⟨fr eb5,fr ek5,fr ed5,fr e5⟩,pl6⟩
 have old:∀v w,KvR H a [b,k,d,kd] v w->KvR H6 a [b,k,d,kd] v w:=λv w r=>by
  have r5:KvR H5 a [b,k,d,kd] v w:=r.butL (X:=[k]) (λc o n e=>b5 c o (λz=>n (by simp [z])) e) R.pot (λx hx=>by simp only [mem_cons,not_mem_nil,or_false] at hx;subst hx;exact ⟨_,ek⟩) (λx hx=>by simp only [mem_cons,not_mem_nil,or_false] at hx;subst hx;simp)
  exact r5.butL (X:=[]) (.of n6.same) P5 (λ_ h=>by cases h) (λ_ h=>by cases h)
 have hl:=R.kal.len R.files.ndk R.kept.nd
 refine ⟨e6,P6.dic But.upd e6,F7,D6.dic But.upd e6 a5,⟨⟨_,zp,((dd.imp old).put z rn).imp λv w r=>?_⟩,zc2 R.kept.nd⟩,R.al,R.kal.put z R.al R.files.births.nd,d5.dic F6 But.upd e6 a4.symm,K7,(R.bud.sub λp hp=>?_).up,?_,R.ap,by rw [zbj,if_neg (λe=>zn e.symm),R.nh]⟩
 ·exact r.butL (X:=[kd]) (λc o n e=>by rw [ze (λz=>n (by simp [z]))];exact e) P6 (λx hx=>by simp only [mem_cons,not_mem_nil,or_false] at hx;subst hx;exact ⟨_,e6⟩) (λx hx=>by simp only [mem_cons,not_mem_nil,or_false] at hx;subst hx;simp)
 ·rcases zfq hp with hp|rfl
  ·exact .inl hp
  ·exact .inr rfl
 ·exact le_trans zgW (by omega)
theorem zka{v:V}(h:v∈[V.str "a",.str "held",.str "b",.str "zzzzzz",.str "ba"]):∃z:Str,v = .str z/\z≠"here":=by
 simp only [mem_cons,not_mem_nil,or_false] at h
 rcases h with rfl|rfl|rfl|rfl|rfl<;>exact ⟨_,rfl,f!""⟩
def zf5(A:zh):Sp:=λvs H Q _=>∃(a p d kd b k:Addr)(t u:Tab)(ks ku:List (Str×Tab))(B:Nat),vs=[.ref a,.ref p,.ref d,.ref kd]/\Rnd A H a p d kd b k t u ks ku B/\B<=30 /\
 ∀t' u' ks' ku' H',zar [a,b,k,d,kd] H H'->Rnd A H' a p d kd b k t' u' ks' ku' (B+1)->Q .non H'
theorem zeS:zB ["_law_pot_here","_law_files_here","_law_plain","_law_kept","_law_way","_law_name"] ["_law_pot_here","_law_files_here","_law_plain","_law_kept"] (zg zdk):=⟨rfl,rfl,rfl,f!"",rfl,f!"",f!""⟩
theorem zsU{f:Addr}{fd:FuncData}(F:Fun K "_law_deed" "_law_deed" zdk f fd)(T:Txt K mg A)(Gb:GF P w K mg base true 1 "_law_draw" ["_law_pot_here","_law_many"] za6)(Gc:GF P w K mg base true 2 "_law_drawn" ["_law_pot_here","_law_some"] zdE)(M_Files_free:GM P w K mg base true 3 A.Files "free" ["self","name"] (zgv A))(M_Files_hold:GM P w K mg base true 5 A.Files "hold" ["self","name"] (zdG A))(Go:GF P w K mg base true 5 "_law_cut" ["_law_pot_here","_law_files_here","_law_plain"] (zfj A))(Gp:GF P w K mg base true 5 "_law_put" ["_law_pot_here","_law_files_here","_law_plain"] (zef A)):zr P w K mg base CX0 true 7 f fd ["_law_pot_here","_law_files_here","_law_plain","_law_kept"] (zf5 A):=by
 refine F.ok zeS (λvs H Q E h=>?_) (λcdv Ar outer s H vs Q E hr h=>?_)
 ·obtain ⟨a,p,d,kd,b,k,t,u,ks,ku,B,rfl,_⟩:=h;rfl
 ·obtain ⟨a,p,d,kd,b,k,t,u,ks,ku,B,rfl,R,hB,q⟩:=h
  have hu:_<cLine:=lt_of_succ_lt (zR hr)
  refine ⟨_,(W.h (zk (zI (i:=4) zeS.nd rfl (Or.inl rfl) (zC Gb hr rfl (zb (za 0) (zb zj zd))))
   (zl (z7 (zbF (zet (zad (zd3 hu) (za 4) zj (zal _)) (zfr (zad (zje hu) (za 3) zbe (zal _)))))
   (zk (zI (i:=5) zeS.nd rfl (Or.inl rfl) (zC Gc hr rfl (zb (za 0) (zb (zP (zcp rfl) rfl T.n_sorted boot_sorted (zb (za 3) zd)) zd))))
   (zk (z6 (zae (za 1) T.cl_Files M_Files_free hr (zb (za 5) zd)))
   (zl (z6 (zhM (za 3) (za 5))))))
   (zl (z7 (zbF (zet (zad ziR (za 4) zj (zal _)) (zfr (zad zjr (zP zl3 rfl T.n_len PySem.boot_len (zb (za 3) zd)) zj (zal _)))))
   (zk (zI (i:=5) zeS.nd rfl (Or.inl rfl) (zC Gc hr rfl (zb (za 0) (zb (zab (zb zaz (zb zaz (zb zaz (zb zaz (zb zaz zd)))))) zd))))
   (zl (z7 (zad (zhq (zR hr)) (za 5) (za 3) rfl)
   (zk (z6 (zae (za 1) T.cl_Files M_Files_hold hr (zb (za 5) zd)))
   (zl (zbs (zbw zfy rfl T.n_dict boot_dict (zb (za 2) zd)) (zbA (za 3) (za 5) (zbW (zR hr))))))
   zas)))
   (zl (z7 (zbF (zet (zad (zd3 hu) (za 4) zj (zal _)) (zfr (zad (zje hu) (za 2) zbe (zal _)))))
   (zl (z6 (zC Go hr rfl (zb (za 0) (zb (za 1) (zb (za 2) zd))))))
   (zl (z6 (zC Gp hr rfl (zb (za 0) (zb (za 1) (zb (za 2) zd)))))))))))))),?_⟩
  simp_all only []
  refine ⟨a,10,rfl,R.pot,by decide,by decide,λway H1 b1 P1 w0 w1=>?_⟩
  have R1:=R.potB b1 P1
  have M1:zar [a,b,k,d,kd] H H1:=λc o n e=>b1 c o (λz=>n (by simp [z])) e
  have but3:∀{H2 H3:Hp},zaw a b d H2 H3->zar [a,b,k,d,kd] H2 H3:=λ{H2 H3} s c o n e=>by
   simp only [mem_cons,not_mem_nil,or_false,not_or] at n
   exact s c o n.1 n.2.1 n.2.2.2.1 e
  have doPut:∀(H2:Hp)(E':XK),Rnd A H2 a p d kd b k t u ks ku B->zar [a,b,k,d,kd] H H2->zef A [V.ref a,V.ref p,V.ref d] H2 (λ_ H3=>Q V.non H3) E':=λH2 E' R2 M2 =>
   ⟨a,p,d,b,k,t,u,ks,B,rfl,R2.pot,R2.files,R2.plain,R2.al,R2.ap.1,R2.ap.2.1,R2.av,R2.bud,by omega,λt' u' H3 s3 P3 F3 D3 al3 A3 bud3=>q t' u' ks ku H3 (M2.trans (but3 s3)) (R2.done s3 P3 F3 D3 al3 A3 bud3)⟩
  have doCut:∀(H2:Hp)(E':XK),u≠[]->Rnd A H2 a p d kd b k t u ks ku B->zar [a,b,k,d,kd] H H2->zfj A [V.ref a,V.ref p,V.ref d] H2 (λ_ H3=>Q V.non H3) E':=λH2 E' une R2 M2 =>
   ⟨a,p,d,b,k,t,u,ks,B,rfl,R2.pot,R2.files,R2.plain,R2.al,R2.ap.1,R2.ap.2.1,R2.av,R2.bud,by omega,une,λt' u' H3 s3 P3 F3 D3 al3 A3 bud3=>q t' u' ks ku H3 (M2.trans (but3 s3)) (R2.done s3 P3 F3 D3 al3 A3 bud3.up)⟩
  simp_all only []
  obtain ⟨kv,ekd,dd⟩:=R1.kept.ex
  by_cases h9:way=9
  ·rw [if_pos (by simp [h9])]
   refine λe0 H2 n2=>⟨_,.inl (n2.same _ _ ekd),n2.at_,?_⟩
   have R2:=R1.same n2.same
   have M2:=M1.trans (.of n2.same)
   by_cases hk:kv=[]
   ·rw [if_neg (by simp [hk,sk]),if_pos (by simp;omega)]
    obtain ⟨kv2,ekd2,dd2⟩:=R2.kept.ex
    refine ⟨_,.inl ekd2,?_⟩
    by_cases hl3:kv2.length<3
    ·rw [if_pos (by rw [za3];simp;omega)]
     refine ⟨by decide,λln H3 n3 _=>⟨a,R2.pot.same n3.same,.inl ⟨ln,_,rfl,R2.pot.ne n3.no,.inl n3.at_,by simp,by simp,λv H4 hv b4 P4=>?_⟩⟩⟩
     obtain ⟨z,rfl,zn⟩:=zka hv
     have R4:=(R2.same n3.same).potB b4 P4
     have M4:zar [a,b,k,d,kd] H H4:=(M2.trans (.of n3.same)).trans λc o n e=>b4 c o (λz=>n (by simp [z])) e
     obtain ⟨kv4,ekd4,dd4⟩:=R4.kept.ex
     obtain ⟨kvd4,ed4,du4⟩:=R4.plain.ex
     have l4:ku.length<3:=by rw [<- dd2.length];exact hl3
     simp_all only []
     refine ⟨_,.inl ekd4,?_⟩
     rw [zax]
     rcases R4.kal z with ⟨v1,w1,e1,e2,_⟩|⟨e1,e2⟩
     ·rw [show (look kv4 z).isSome=true by rw [Dct.some_iff dd4 z,e2];rfl]
      exact q t u ks ku H4 M4 { R4 with bud:=R4.bud.up }
     ·rw [show (look kv4 z).isSome=false by rw [Dct.some_iff dd4 z,e2];rfl]
      obtain ⟨dx4,ex4⟩:=R4.files.ob
      simp_all only [ex4,zeX]
      refine ⟨p,b,k,t,ks,z,rfl,R4.files,e1,by have:=R4.few;omega,λH5 b5 F5 av5=>?_⟩
      obtain ⟨_,kk4,ek4⟩:=R4.files.dicts
      refine ⟨_,.inl (b5 _ _ R4.ap.2.1 ed4),λpn H6 n6=>?_⟩
      obtain ⟨e6,R7⟩:=R4.hold b5 F5 av5 ekd4 dd4 ed4 du4 n6 l4 zn
      try simp_all only []
      refine ⟨_,e6,by rw [za3,dd4.length];exact lt_of_lt_of_le l4 (by decide),?_⟩
      rw [zch]
      refine q _ _ _ _ _ (λc o n e=>?_) R7
      have n':=n
      simp only [mem_cons,not_mem_nil,or_false,not_or] at n'
      rw [ze n'.2.2.2.2]
      exact n6.same _ _ (b5 _ _ n'.2.2.1 (M4 _ _ n e))
    ·rw [if_neg (by rw [za3];simp;omega),if_neg (by simp;omega)]
     exact doPut _ _ R2 M2
   ·rw [if_pos (by simp [hk,sk])]
    obtain ⟨kv2,ekd2,dd2⟩:=R2.kept.ex
    have hl:=R2.kal.len R2.files.ndk R2.kept.nd
    have hf:=R2.few
    have hl2:=dd2.length
    have sl:(zaH (kv2.map (·.1))).length=kv2.length:=by rw [(zbz _).1.length_eq,length_map]
    have kpos:0<kv2.length:=by rw [hl2,<- dd.length];exact List.length_pos_iff.mpr hk
    refine ⟨kv2,.inl ekd2,by omega,λln H3 n3=>⟨a,R2.pot.same n3.same,.inl ⟨ln,_,rfl,R2.pot.ne n3.no,.inl n3.at_,by rw [length_map,sl];exact kpos,by rw [length_map,sl];omega,λv H4 hv b4 P4=>?_⟩⟩⟩
    obtain ⟨z,hz,rfl⟩:=mem_map.mp hv
    have hz2:z∈names ku:=by rw [<- dd2.names];exact (zbz _).1.mem_iff.mp hz
    have R4:=(R2.same n3.same).potB b4 P4
    have M4:zar [a,b,k,d,kd] H H4:=(M2.trans (.of n3.same)).trans λc o n e=>b4 c o (λz=>n (by simp [z])) e
    obtain ⟨kv4,ekd4,dd4⟩:=R4.kept.ex
    rcases R4.kal z with ⟨v1,w1,e1,e2,_⟩|⟨_,e2⟩
    case inr=>exact absurd hz2 (zaI.mp e2)
    obtain ⟨dx4,ex4⟩:=R4.files.ob
    simp_all only [ex4,zlt]
    refine ⟨p,b,k,t,ks,z,rfl,R4.files,by rw [e1];rfl,λH5 b5 F5 av5=>?_⟩
    obtain ⟨e5,R7⟩:=R4.free b5 F5 av5 ekd4 dd4
    try simp_all only []
    refine ⟨⟨_,.inl e5⟩,_,e5,?_,?_⟩
    ·rw [zax]
     exact isSome_iff_exists.mp (by rw [Dct.some_iff dd4 z,e2];rfl)
    ·rw [zeL]
     refine q _ _ _ _ _ (λc o n e=>?_) R7
     have n':=n
     simp only [mem_cons,not_mem_nil,or_false,not_or] at n'
     rw [ze n'.2.2.2.2]
     exact b5 _ _ n'.2.2.1 (M4 _ _ n e)
  ·rw [if_neg (by simp [h9])]
   by_cases h6:6<way
   ·rw [if_pos (by simpa using h6)]
    obtain ⟨kv2,ekd2,dd2⟩:=R1.kept.ex
    refine ⟨_,.inl ekd2,?_⟩
    by_cases hl3:kv2.length<3
    ·rw [if_pos (by rw [za3];simp;omega)]
     refine ⟨by decide,λln H3 n3 _=>⟨a,R1.pot.same n3.same,.inl ⟨ln,_,rfl,R1.pot.ne n3.no,.inl n3.at_,by simp,by simp,λv H4 hv b4 P4=>?_⟩⟩⟩
     obtain ⟨z,rfl,zn⟩:=zka hv
     have R4:=(R1.same n3.same).potB b4 P4
     have M4:zar [a,b,k,d,kd] H H4:=(M1.trans (.of n3.same)).trans λc o n e=>b4 c o (λz=>n (by simp [z])) e
     obtain ⟨kv4,ekd4,dd4⟩:=R4.kept.ex
     obtain ⟨kvd4,ed4,du4⟩:=R4.plain.ex
     have l4:ku.length<3:=by rw [<- dd2.length];exact hl3
     simp_all only []
     refine ⟨_,.inl ekd4,?_⟩
     rw [zax]
     rcases R4.kal z with ⟨v1,w1,e1,e2,_⟩|⟨e1,e2⟩
     ·rw [show (look kv4 z).isSome=true by rw [Dct.some_iff dd4 z,e2];rfl]
      exact q t u ks ku H4 M4 { R4 with bud:=R4.bud.up }
     ·rw [show (look kv4 z).isSome=false by rw [Dct.some_iff dd4 z,e2];rfl]
      obtain ⟨dx4,ex4⟩:=R4.files.ob
      simp_all only [ex4,zeX]
      refine ⟨p,b,k,t,ks,z,rfl,R4.files,e1,by have:=R4.few;omega,λH5 b5 F5 av5=>?_⟩
      obtain ⟨_,kk4,ek4⟩:=R4.files.dicts
      refine ⟨_,.inl (b5 _ _ R4.ap.2.1 ed4),λpn H6 n6=>?_⟩
      obtain ⟨e6,R7⟩:=R4.hold b5 F5 av5 ekd4 dd4 ed4 du4 n6 l4 zn
      try simp_all only []
      refine ⟨_,e6,by rw [za3,dd4.length];exact lt_of_lt_of_le l4 (by decide),?_⟩
      rw [zch]
      refine q _ _ _ _ _ (λc o n e=>?_) R7
      have n':=n
      simp only [mem_cons,not_mem_nil,or_false,not_or] at n'
      rw [ze n'.2.2.2.2]
      exact n6.same _ _ (b5 _ _ n'.2.2.1 (M4 _ _ n e))
    ·rw [if_neg (by rw [za3];simp;omega),if_neg (by simp;omega)]
     exact doPut _ _ R1 M1
   ·rw [if_neg (by simpa using h6)]
    by_cases w6:way=6
    ·rw [if_pos (by simp [w6])]
     obtain ⟨kvd2,ed2,du2⟩:=R1.plain.ex
     refine λe0 H3 n3=>⟨_,.inl (n3.same _ _ ed2),n3.at_,?_⟩
     have R3:=R1.same n3.same
     have M3:=M1.trans (.of n3.same)
     by_cases hk3:kvd2=[]
     ·rw [if_neg (by simp [hk3,sk])]
      exact doPut _ _ R3 M3
     ·rw [if_pos (by simp [hk3,sk])]
      refine doCut _ _ (λz=>hk3 (length_eq_zero_iff.mp ?_)) R3 M3
      rw [du2.length,z];rfl
    ·rw [if_neg (by simp [w6])]
     exact doPut _ _ R1 M1
end
abbrev zc8:Stmt:=top 23
section
variable {P:Program}{w:World}{K:Frag}{mg:Str->Option Value}{base:Heap}{A:zh}
structure FdI(A:zh)(H2:Hp)(a p d kd b k:Addr)(i:Nat)(σ:L2.St)(H':Hp):Prop where
 ex:∃t1,σ=[some (.ref a),some (.ref p),some (.ref d),some (.ref kd),t1]
 rnd:∃t u ks ku,Rnd A H' a p d kd b k t u ks ku i
 but:zar [a,b,k,d,kd] H2 H'
def zhw(A:zh):Sp:=λvs H Q _=>∃(a:Addr),vs=[.ref a]/\Pot H a /\
 ∀tp p d kd b k t u ks ku (B:Nat) H',But a H H'->H' tp=some (.tup [.ref p,.ref d,.ref kd])->Rnd A H' a p d kd b k t u ks ku B->B<=16->H p=none->H b=none->H k=none->H d=none->H kd=none->Q (.ref tp) H'
theorem zea:zB ["_law_pot_here","_law_files_here","_law_plain","_law_kept","_law_turn"] ["_law_pot_here"] (zg zc8):=⟨rfl,rfl,rfl,f!"",rfl,f!"",f!""⟩
theorem zqw{f:Addr}{fd:FuncData}(F:Fun K "_law_files" "_law_files" zc8 f fd)(T:Txt K mg A)(Ge:GC P w K mg base true 1 "Files" A.Files ["self"] (zd2 A))(Gb:GF P w K mg base true 1 "_law_draw" ["_law_pot_here","_law_many"] za6)(Gq:GF P w K mg base true 7 "_law_deed" ["_law_pot_here","_law_files_here","_law_plain","_law_kept"] (zf5 A)):zr P w K mg base CX0 true 9 f fd ["_law_pot_here"] (zhw A):=by
 refine F.ok zea (λvs H Q E h=>?_) (λcdv Ar outer s H vs Q E hr h=>?_)
 ·obtain ⟨a,rfl,_⟩:=h;rfl
 ·obtain ⟨a,rfl,hP,q⟩:=h
  refine ⟨_,(W.h (zk (zI (i:=1) zea.nd rfl (Or.inl rfl) (zfW Ge hr rfl))
   (zk (zI (i:=2) zea.nd rfl (Or.inl rfl) zbe)
   (zk (zI (i:=3) zea.nd rfl (Or.inl rfl) zbe)
   (zk (zbi PassesOwn.never (λ_=>rfl) (zfl rfl T.n_range (zb (zC Gb hr rfl (zb (za 0) (zb zj zd))) zd)) (zU (i:=4) zea.nd rfl (Or.inl rfl))
   (zl (z6 (zC Gq hr rfl (zb (za 0) (zb (za 1) (zb (za 2) (zb (za 3) zd))))))))
   (zl (zG (zbq (zb (za 1) (zb (za 2) (zb (za 3) zd))))))))))),?_⟩
  simp_all only []
  refine λp dxp H1 nI=>⟨p,dxp,rfl,nI.at_,λb k H2 s2 nb nk eb ek nbk ex=>⟨rfl,λd H3 n3 kd H4 n4=>?_⟩⟩
  have k02:zf H H2:=λc o e=>s2 _ _ (zD e nI.no) (nI.same _ _ e)
  have s4:zf H2 H4:=n3.same.trans n4.same
  have P4:Pot H4 a:=(hP.same k02).same s4
  have ne3:∀{c:Addr}{o:HO},H2 c=some o->d≠c:=λ{c o} e z=>by have:=n3.no;rw [z,e] at this;cases this
  have ne4:∀{c:Addr}{o:HO},H3 c=some o->kd≠c:=λ{c o} e z=>by have:=n4.no;rw [z,e] at this;cases this
  have F4:zq A H4 p b k [] []:=zq.same ⟨⟨dxp,ex⟩,⟨⟨[],eb,.nil⟩,by simp [names]⟩,⟨[],ek,.nil⟩,by simp [names],nbk⟩ s4
  have noav:∀c,zM A H4 k c:=λc kvs hk pv hpv=>by
   rw [s4 _ _ ek] at hk
   cases hk
   cases hpv
  have R4:Rnd A H4 a p d kd b k [] [] [] [] 0:=⟨P4,F4,⟨⟨[],n4.same _ _ n3.at_,.nil⟩,by simp [names]⟩,⟨⟨[],n4.at_,.nil⟩,by simp [names]⟩,λ_=>rfl,λ_=>.inr ⟨rfl,rfl⟩,noav d,noav kd,⟨le_refl _,λn=>by simp [lk,look],⟨[],le_refl _,λy hy=>by simp [zag,zA] at hy⟩,λn l e=>by simp [look] at e,λp hp=>by cases hp⟩,by simp,⟨ne3 eb,ne3 ek,ne4 (n3.same _ _ eb),ne4 (n3.same _ _ ek),(ne4 n3.at_).symm⟩,rfl⟩
  refine ⟨a,16,rfl,P4,by decide,by decide,λj H5 b5 P5 j0 j1=>?_⟩
  have R5:=R4.potB b5 P5
  simp_all only []
  refine ⟨by omega,by omega,zan.rng (FdI A H4 a p d kd b k) ⟨⟨_,rfl⟩,⟨_,_,_,_,R5⟩,λc o n e=>b5 c o (λz=>n (by simp [z])) e⟩ ?_ ?_⟩
  ·rintro i σ H6 hi ⟨⟨t1,rfl⟩,⟨t,u,ks,ku,R6⟩,bt⟩
   simp_all only []
   exact ⟨a,p,d,kd,b,k,t,u,ks,ku,i,rfl,R6,by omega,λt' u' ks' ku' H7 b7 R7=>⟨⟨_,rfl⟩,⟨_,_,_,_,R7⟩,bt.trans b7⟩⟩
  ·rintro σ H6 ⟨⟨t1,rfl⟩,⟨t,u,ks,ku,R6⟩,bt⟩
   simp_all only []
   refine ⟨by decide,λtp H7 n7=>?_⟩
   have fr2:∀c,H2 c=none->H c=none:=λc h=>k02.free h
   refine q tp p d kd b k t u ks ku _ H7 (λc o nc e=>n7.same _ _ (bt _ _ ?_ (s4 _ _ (k02 _ _ e)))) n7.at_ (R6.same n7.same) (by omega) nI.no (nI.same.free nb) (nI.same.free nk) (k02.free n3.no) (k02.free (n3.same.free n4.no))
   simp only [mem_cons,not_mem_nil,or_false,not_or]
   have h2:=k02 _ _ e
   exact ⟨nc,λz=>(by rw [z,nI.same.free nb] at e;cases e),λz=>(by rw [z,nI.same.free nk] at e;cases e),(ne3 h2).symm,(ne4 (n3.same _ _ h2)).symm⟩
end
abbrev zcH:Stmt:=top 24
theorem zqV{α:Type}{l:List (Int×α)}{n:Int}{a:α}:(zc6 l n a).map (·.1)=if n∈l.map (·.1) then l.map (·.1) else l.map (·.1)++[n]:=by
 unfold zc6
 split
 ·rw [map_map]
  refine map_congr_left λp _=>?_
  show (if p.1=n then (p.1,a) else p).1=p.1
  split<;>rfl
 ·rw [map_append];rfl
theorem zp8{kvs:List (Int×V)}{n:Int}{v:V}:(zc6 kvs n v).map (·.1)=zx (kvs.map (·.1)) n:=by rw [zqV];rfl
def PlR(H:Hp)(a fo:Addr)(v:V)(u:Tab):Prop:=∃e,v = .ref e/\zX H a e u/\e≠fo
structure Fnd(H':Hp)(fo:Addr)(ks:List Int):Prop where
 ex:∃kvs,H' fo=some (.dK (ik kvs))/\kvs.map (·.1)=ks
structure LoI(d kd fo:Addr)(H5:Hp)(us:List Tab)(i:Nat)(σ:L2.St)(H':Hp):Prop where
 ex:∃t3 t4 t5,σ=[some (.ref d),some (.ref kd),some (.ref fo),t3,t4,t5]
 fnd:Fnd H' fo (((us.take i).flatMap zA).foldl zx [])
 but:But fo H5 H'
structure MiI(d kd fo e:Addr)(Hf:Hp)(ns:List Int)(u:Tab)(i:Nat)(σ:L2.St)(H':Hp):Prop where
 ex:∃t4 t5,σ=[some (.ref d),some (.ref kd),some (.ref fo),some (.ref e),t4,t5]
 fnd:Fnd H' fo ((zA (u.take i)).foldl zx ns)
 but:But fo Hf H'
structure InI(d kd fo e r:Addr)(Hf:Hp)(ns l:List Int)(i:Nat)(σ:L2.St)(H':Hp):Prop where
 ex:∃t5,σ=[some (.ref d),some (.ref kd),some (.ref fo),some (.ref e),some (.ref r),t5]
 fnd:Fnd H' fo ((l.take i).foldl zx ns)
 but:But fo Hf H'
section
variable {P:Program}{w:World}{K:Frag}{mg:Str->Option Value}{base:Heap}{A:zh}
def zfn:Sp:=λvs H Q _=>∃(a d kd:Addr)(X:List Addr)(u:Tab)(ku:List (Str×Tab)),vs=[.ref d,.ref kd]/\zX H a d u/\zaP H a X kd ku/\(uniq (zag u ku)).length<64/\ku.length<=1000 /\
 ∀l (ns:List Int) H',zf H H'->H l=none->H' l=some (.lst (ns.map V.int))->ns.Perm (uniq (zag u ku))->ns.Pairwise (·<=·)->Q (.ref l) H'
theorem zd9:zB ["_law_plain","_law_kept","_law_found","_law_files_here","_law_births","_law_birth_here"] ["_law_plain","_law_kept"] (zg zcH):=⟨rfl,rfl,rfl,f!"",rfl,f!"",f!""⟩
theorem zvb{f:Addr}{fd:FuncData}(F:Fun K "_law_living" "_law_living" zcH f fd)(T:Txt K mg A):zr P w K mg base CX0 true 1 f fd ["_law_plain","_law_kept"] zfn:=by
 refine F.ok zd9 (λvs H Q E h=>?_) (λcdv Ar outer s H vs Q E hr h=>?_)
 ·obtain ⟨a,d,kd,X,u,ku,rfl,_⟩:=h;rfl
 ·obtain ⟨a,d,kd,X,u,ku,rfl,hD,hK,h64,hk,q⟩:=h
  have hu:_<cLine:=lt_of_succ_lt (zR hr)
  refine ⟨_,(W.h (zk (zI (i:=2) zd9.nd rfl (Or.inl rfl) zbe)
   (zk (zbi PassesOwn.never (λ_=>rfl) (za2 (zK zaA (zab (zb (za 0) zd)) (zbw (zr0 rfl) rfl T.n_list boot_list (zb (zmT (za 1)) zd)))) (zU (i:=3) zd9.nd rfl (Or.inl rfl))
   (zl (zgw (zbi PassesOwn.never (λ_=>rfl) (zhg (za 3)) (zU (i:=4) zd9.nd rfl (Or.inl rfl))
   (zl (zbi PassesOwn.never (λ_=>rfl) (za2 (za 4)) (zU (i:=5) zd9.nd rfl (Or.inl rfl))
   (zl (zbs za5 (zbA (za 2) (za 5) (zbW (zR hr)))))))))))
   (zl (zG (zP (zjY rfl) rfl T.n_sorted boot_sorted (zb (za 2) zd))))))),?_⟩
  simp_all only []
  obtain ⟨kv,ekd,dk⟩:=hK.ex
  obtain ⟨kvd,ed,_⟩:=hD.ex
  refine λfo H1 n1=>⟨by decide,λl2 H2 n2 _=>⟨⟨_,.inl (n2.same _ _ (n1.same _ _ ekd))⟩,λv H3 n3=>⟨_,n3.at_,_,.inl (n3.same _ _ (n2.same _ _ (n1.same _ _ ekd))),λl4 H4 n4=>⟨_,n4.same _ _ (n3.same _ _ n2.at_),_,n4.at_,?_,λl5 H5 n5=>⟨⟨_,SqL.of n5.at_⟩,?_⟩⟩⟩⟩⟩
  ·rw [length_map,za3,dk.length,length_singleton];exact le_trans (show 1+ku.length<=1001 by omega) (by decide)
  have s15:zf H1 H5:=((n2.same.trans n3.same).trans n4.same).trans n5.same
  have s05:zf H H5:=n1.same.trans s15
  have efo:=s15 _ _ n1.at_
  have nfo:∀{c:Addr}{o:HO},H c=some o->c≠fo:=λ{c o} e=>zD e n1.no
  have l5fo:l5≠fo:=λz=>by have:=n5.no;rw [z,n4.same _ _ (n3.same _ _ (n2.same _ _ n1.at_))] at this;cases this
  have exs:[V.ref d]++(sk kv).map (·.2)=V.ref d::kv.map (·.2):=by unfold sk;rw [map_map];rfl
  have pall:Paired (PlR H5 a fo) ([V.ref d]++(sk kv).map (·.2)) (u::ku.map (·.2)):=by
   rw [exs]
   refine .cons ⟨d,rfl,hD.same s05,nfo ed⟩ ?_
   clear n4 n5 exs
   have hh:=dk
   clear hK ekd dk h64 hk q
   induction hh with
   | nil=>exact .nil
   | cons z _ ih =>
    refine .cons ?_ ih
    obtain ⟨e,ev,_,pl⟩:=z.2
    obtain ⟨kve,ee,_⟩:=pl.ex
    exact ⟨e,ev,pl.same s05,nfo ee⟩
  have eU:(u::ku.map (·.2)).flatMap zA=zag u ku:=by
   unfold zag
   rw [List.flatMap_cons,List.flatMap_map]
  have hUl:=pall.length
  generalize u::ku.map (·.2)=us at pall eU hUl
  have small:∀i,(((us.take i).flatMap zA).foldl zx []).length<64:=λi=>by
   have h1:=zcI (l:=(us.drop i).flatMap zA) (ns:=((us.take i).flatMap zA).foldl zx [])
   rw [<- foldl_append,<- flatMap_append,List.take_append_drop,eU] at h1
   exact Nat.lt_of_le_of_lt h1 h64
  refine zan.lst (xs:=[V.ref d]++(sk kv).map (·.2)) (LoI d kd fo H5 us) ⟨⟨_,_,_,rfl⟩,⟨⟨[],efo,rfl⟩⟩,λ_ _ _ e=>e⟩ (λi σ H' _ I=>SqL.of (I.but _ _ l5fo n5.at_)) ?_ ?_
  ·rintro i x σ H6 hx ⟨⟨t3,t4,t5,rfl⟩,fnd,bt⟩
   have hi:i<us.length:=by rw [<- hUl];exact (List.getElem?_eq_some_iff.mp hx).1
   have hus:us[i]?=some us[i]:=List.getElem?_eq_getElem hi
   obtain ⟨e,rfl,pl,efn⟩:=zaD pall hx hus
   have pl6:=pl.dic bt efo efn
   obtain ⟨kve,ee,de⟩:=pl6.ex
   have es:(zA us[i]).foldl zx (((us.take i).flatMap zA).foldl zx [])=((us.take (i+1)).flatMap zA).foldl zx []:=by
    rw [<- foldl_append,take_add_one,hus,flatMap_append]
    simp
   simp_all only []
   refine ⟨e,_,ee,λo=>?_⟩
   try simp_all only []
   have foe:fo≠e:=efn.symm
   have hf6:Fnd (upd H6 e (.frz o (.dK (sk kve)))) fo (((us.take i).flatMap zA).foldl zx []):=let ⟨kvs,ek,eks⟩:=fnd.ex;⟨⟨kvs,by rw [ze foe];exact ek,eks⟩⟩
   have efo6:∃kvs,H6 fo=some (.dK kvs):=let ⟨kvs,ek,_⟩:=fnd.ex;⟨_,ek⟩
   obtain ⟨kfo,efo6⟩:=efo6
   refine ⟨o,sk kve,zp,zan.vls (MiI d kd fo e (upd H6 e (.frz o (.dK (sk kve)))) (((us.take i).flatMap zA).foldl zx []) us[i]) ⟨⟨_,_,rfl⟩,hf6,λ_ _ _ e=>e⟩ (λj σ H' _ I=>I.but _ _ efn zp) ?_ ?_⟩
   ·rintro j pv σ H7 hp ⟨⟨t4',t5',rfl⟩,fnd7,bt7⟩
    obtain ⟨qv,hqv,rfl⟩:∃qv,kve[j]?=some qv/\pv=(.inr qv.1,qv.2):=by
     unfold sk at hp
     rw [getElem?_map] at hp
     obtain ⟨pv,e1,e2⟩:=map_eq_some_iff.mp hp
     exact ⟨pv,e1,e2.symm⟩
    obtain ⟨l,hul,r,ev,hr,ra⟩:=Dct.at de hqv
    have re:r≠e:=λz=>by rw [z,ee] at hr;cases hr
    have rfo:r≠fo:=λz=>by rw [z,efo6] at hr;cases hr
    have hrf:upd H6 e (.frz o (.dK (sk kve))) r=some (.lst (l.map V.int)):=by rw [ze re];exact hr
    have hr7:=bt7 _ _ rfo hrf
    have hsn:=zgx hul
    simp_all only [ev]
    refine ⟨⟨_,SqL.of hr7⟩,zan.lst (xs:=l.map V.int) (InI d kd fo e r (upd H6 e (.frz o (.dK (sk kve)))) ((zA (us[i].take j)).foldl zx (((us.take i).flatMap zA).foldl zx [])) l) ⟨⟨_,rfl⟩,fnd7,bt7⟩ (λm σ H' _ I=>SqL.of (I.but _ _ rfo hrf)) ?_ ?_⟩
    ·rintro m x σ H8 hx ⟨⟨t5'',rfl⟩,⟨kvs8,ek8,eks8⟩,bt8⟩
     rw [getElem?_map] at hx
     obtain ⟨n,hn,rfl⟩:=map_eq_some_iff.mp hx
     have bnd:kvs8.length<64:=by
      rw [<- length_map (f:=(·.1)),eks8]
      refine Nat.lt_of_le_of_lt zik ?_
      rw [<- foldl_append,<- hsn]
      obtain ⟨rr,er⟩:=zi3 (u:=us[i]) (i:=j+1)
      have h1:∀bs:List Int,((zA (us[i].take (j+1))).foldl zx bs).length<=((zA us[i]).foldl zx bs).length:=λbs=>by
       rw [er,foldl_append];exact zcI
      have h2:=h1 (((us.take i).flatMap zA).foldl zx [])
      rw [es] at h2
      exact Nat.lt_of_le_of_lt h2 (small (i+1))
     simp_all only []
     refine .inr ⟨_,ek8,by rw [zjy];exact lt_of_lt_of_le bnd (by decide),?_⟩
     rw [zh4]
     exact ⟨⟨_,rfl⟩,⟨⟨_,zp,by rw [zp8,eks8,zjh hn]⟩⟩,bt8.trans But.upd⟩
    ·rintro σ H8 ⟨⟨t5'',rfl⟩,fnd8,bt8⟩
     rw [length_map,take_of_length_le (le_refl _),<- foldl_append,<- hsn] at fnd8
     exact ⟨⟨_,_,rfl⟩,fnd8,bt8⟩
   ·rintro σ H7 ⟨⟨t4',t5',rfl⟩,fnd7,bt7⟩
    rw [show (sk kve).length=us[i].length by rw [za3,de.length],take_of_length_le (le_refl _),es] at fnd7
    refine ⟨o,bt7 _ _ efn zp,⟨⟨_,_,_,rfl⟩,let ⟨kvs,ek,eks⟩:=fnd7.ex;⟨⟨kvs,by rw [ze foe];exact ek,eks⟩⟩,λc u' nc ec=>?_⟩⟩
    by_cases z:c=e
    ·subst z
     have h6:=bt _ _ nc ec
     rw [ee] at h6
     cases h6
     exact zp
    ·rw [ze z]
     exact bt7 _ _ nc (by rw [ze z];exact bt _ _ nc ec)
  ·rintro σ H6 ⟨⟨t3,t4,t5,rfl⟩,⟨kvs,ek,eks⟩,bt⟩
   rw [hUl,take_of_length_le (le_refl _),eU] at eks
   simp_all only []
   refine ⟨kvs,.inl ek,by rw [<- length_map (f:=(·.1)),eks];exact h64,λl ns H7 n7 pm so=>?_⟩
   have s6:zf H H6:=λc o e=>bt _ _ (nfo e) (s05 _ _ e)
   rw [eks] at pm
   exact q l ns H7 (s6.trans n7.same) (s6.free n7.no) n7.at_ pm so
end
abbrev zde:Stmt:=top 25
abbrev zcU:Stmt:=top 29
theorem zfG{α β:Type}{f:α->β}:∀{l:List α}{k:Nat},(l.map f).eraseIdx k=(l.eraseIdx k).map f
 | [],_=>rfl
 | _::_,0=>rfl
 | x::l,k+1=>by
  show f x::(l.map f).eraseIdx k=f x::(l.eraseIdx k).map f
  rw [zfG]
section
variable {P:Program}{w:World}{K:Frag}{mg:Str->Option Value}{base:Heap}{A:zh}
def zhl:Sp:=λvs H Q _=>∃i:Int,vs=[.int i]/\Q (.bl true) H
theorem zmt:zB ["_law_thing"] ["_law_thing"] (zg zcU):=⟨rfl,rfl,rfl,f!"",rfl,f!"",f!""⟩
theorem zuF{f:Addr}{fd:FuncData}(F:Fun K "_law_is_whole" "_law_is_whole" zcU f fd)(T:Txt K mg A):zr P w K mg base CX0 true 1 f fd ["_law_thing"] zhl:=by
 refine F.ok zmt (λvs H Q E h=>?_) (λcdv Ar outer s H vs Q E hr h=>?_)
 ·obtain ⟨i,rfl,_⟩:=h;rfl
 ·obtain ⟨i,rfl,q⟩:=h
  refine ⟨_,(W.h (zl (zG (zdd (zP zcO rfl T.n_isinstance boot_isinstance (zb (za 0) (zb (zbH rfl T.n_int boot_int (v:=.ty "int") rfl) zd))) (zdn (ziO (zP zcO rfl T.n_isinstance boot_isinstance (zb (za 0) (zb (zbH rfl T.n_bool boot_bool (v:=.ty "bool") rfl) zd))))))))),?_⟩
  simp_all only []
  exact zj2 (.int i) ⟨true,rfl,ze2 (zf4 (.int i) ⟨false,rfl,q⟩)⟩
structure SpL(H5:Hp)(a d kd lf fo:Addr)(ns:List Int)(i:Nat)(σ:L2.St)(H':Hp):Prop where
 ex:∃t5 t6,σ=[some (.ref a),some (.ref d),some (.ref kd),some (.ref lf),some (.ref fo),t5,t6]
 left:∃ls:List Int,H' lf=some (.lst (ls.map V.int))/\ls.length=512-i
 found:∃as ts,H' fo=some (.lst (as.map V.ref))/\Paired (zaU H') as ts/\ts.map (·.1)=ns.take i
 but:zaw a lf fo H5 H'
 pot:Pot H' a
def zhx:Sp:=λvs H Q _=>∃(a d kd:Addr)(X:List Addr)(u:Tab)(ku:List (Str×Tab)),vs=[.ref a,.ref d,.ref kd]/\Pot H a/\zX H a d u/\zaP H a X kd ku/\(uniq (zag u ku)).length<40/\ku.length<=1000 /\
 ∀l as (ts:List T3) H',But a H H'->Pot H' a->H l=none->H' l=some (.lst (as.map V.ref))->Paired (zaU H') as ts->(ts.map (·.1)).Perm (uniq (zag u ku))->(ts.map (·.1)).Pairwise (·<=·)->Q (.ref l) H'
theorem zdZ:zB ["_law_pot_here","_law_plain","_law_kept","_law_left","_law_found","_law_birth_here","_law_code"] ["_law_pot_here","_law_plain","_law_kept"] (zg zde):=⟨rfl,rfl,rfl,f!"",rfl,f!"",f!""⟩
theorem zoe{f:Addr}{fd:FuncData}(F:Fun K "_law_spots" "_law_spots" zde f fd)(T:Txt K mg A)(Gi:GF P w K mg base true 1 "_law_living" ["_law_plain","_law_kept"] zfn)(Gb:GF P w K mg base true 1 "_law_draw" ["_law_pot_here","_law_many"] za6):zr P w K mg base CX0 true 2 f fd ["_law_pot_here","_law_plain","_law_kept"] zhx:=by
 refine F.ok zdZ (λvs H Q E h=>?_) (λcdv Ar outer s H vs Q E hr h=>?_)
 ·obtain ⟨a,d,kd,X,u,ku,rfl,_⟩:=h;rfl
 ·obtain ⟨a,d,kd,X,u,ku,rfl,hP,hD,hK,h40,hk,q⟩:=h
  refine ⟨_,(W.h (zk (zI (i:=3) zdZ.nd rfl (Or.inl rfl) (zbw (zqz rfl) rfl T.n_list boot_list (zb (zbw zqQ rfl T.n_range boot_range (zb zj zd)) zd)))
   (zk (zI (i:=4) zdZ.nd rfl (Or.inl rfl) (zab zd))
   (zk (zbi PassesOwn.never (λ_=>rfl) (za2 (zC Gi hr rfl (zb (za 1) (zb (za 2) zd)))) (zU (i:=5) zdZ.nd rfl (Or.inl rfl))
   (zk (zI (i:=6) zdZ.nd rfl (Or.inl rfl) (zkA (za 3) (zC Gb hr rfl (zb (za 0) (zb (zP zbV rfl T.n_len PySem.boot_len (zb (za 3) zd)) zd)))))
   (zl (z6 (zgt (za 4) (zbq (zb (za 5) (zb (zK zcG (za 6) zj) (zb (zK zhn (za 6) zj) zd)))))))))
   (zl (zG (za 4))))))),?_⟩
  simp_all only []
  refine λpr H1 n1=>⟨512,n1.at_,by decide,λlf H2 n2=>⟨by decide,λfo H3 n3 _=>?_⟩⟩
  have s3:zf H H3:=(n1.same.trans n2.same).trans n3.same
  have P3:=hP.same s3
  have K3:zaP H3 a X kd ku:=hK.butL (X:=[]) (.of s3) hP (λ_ h=>by cases h) (λ_ h=>by cases h) (λh=>by cases h)
  refine ⟨a,d,kd,X,u,ku,rfl,hD.same s3,K3,by omega,hk,λl ns H4 s4 nl el pm so=>?_⟩
  have P4:=P3.same s4
  have lfa:lf≠a:=(hP.same n1.same).ne n2.no
  have foa:fo≠a:=(hP.same (n1.same.trans n2.same)).ne n3.no
  have lffo:lf≠fo:=λz=>by have:=n3.no;rw [<- z,n2.at_] at this;cases this
  have la:l≠a:=P3.ne nl
  have llf:l≠lf:=λz=>by rw [z,n3.same _ _ n2.at_] at nl;cases nl
  have lfo:l≠fo:=λz=>by rw [z,n3.at_] at nl;cases nl
  have hlf:=s4 _ _ (n3.same _ _ n2.at_)
  have hfo:=s4 _ _ n3.at_
  have hns:ns.length<40:=by rw [pm.length_eq];exact h40
  simp_all only []
  refine ⟨⟨_,SqL.of el⟩,zan.lst (xs:=ns.map V.int) (SpL H4 a d kd lf fo ns) ⟨⟨_,_,rfl⟩,⟨(List.range 512).map λ(i:Nat)=>(i:Int),by rw [hlf,map_map];rfl,by rw [length_map,length_range]⟩,⟨[],[],hfo,.nil,rfl⟩,λ_ _ _ _ _ e=>e,P4⟩ (λi σ H' _ I=>SqL.of (I.but _ _ la llf lfo el)) ?_ ?_⟩
  ·rintro i x σ H5 hx ⟨⟨t5,t6,rfl⟩,⟨ls,e1,e2⟩,⟨as,ts,e3,e4,e5⟩,bt,P5⟩
   rw [getElem?_map] at hx
   obtain ⟨bi,hbi,rfl⟩:=map_eq_some_iff.mp hx
   have hi:i<ns.length:=(List.getElem?_eq_some_iff.mp hbi).1
   simp_all only []
   refine ⟨⟨_,e1⟩,_,.inl e1,a,_,rfl,P5,by rw [length_map];omega,by rw [length_map];omega,λy H6 b6 P6 y0 y1=>?_⟩
   rw [length_map] at y1
   have hk6:y.toNat<ls.length:=by omega
   have e16:=b6 _ _ lfa e1
   have e36:=b6 _ _ foa e3
   refine ⟨ls.map V.int,y.toNat,by rw [Int.toNat_of_nonneg y0],e16,.int ls[y.toNat],by rw [getElem?_map,List.getElem?_eq_getElem hk6];rfl,⟨_,by rw [ze lffo.symm];exact e36⟩,?_⟩
   simp_all only []
   refine ⟨by decide,⟨by decide,by decide⟩,by decide,λtp H7 n7=>?_⟩
   have f7:H7 fo=some (.lst (as.map V.ref)):=n7.same _ _ (by rw [ze lffo.symm];exact e36)
   have la2:=zaL e4
   have lts:ts.length=i:=by have:=congrArg length e5;rw [length_map,length_take] at this;omega
   refine ⟨_,f7,by rw [length_map];exact zba (by omega),⟨_,_,rfl⟩,⟨ls.eraseIdx y.toNat,?_,?_⟩,⟨as++[tp],ts++[(bi,ls[y.toNat] % 16,ls[y.toNat] / 16)],?_,?_,?_⟩,λc o m1 m2 m3 e=>?_,?_⟩
   ·rw [ze lffo,<- zfG]
    exact n7.same _ _ zp
   ·rw [List.length_eraseIdx_of_lt hk6];omega
   ·rw [zp,map_append];rfl
   ·have tup8:∀{r:Addr}{xs:List V},H7 r=some (.tup xs)->upd H7 fo (.lst (as.map V.ref++[V.ref tp])) r=some (.tup xs):=λ{r xs} e=>by
     rw [ze (λz=>by rw [z,f7] at e;cases e)];exact e
    refine zdO (Paired.mapP e4 λr tt e=>tup8 (n7.same _ _ ?_)) (.cons (tup8 n7.at_) .nil)
    have e:H5 r=_:=e
    have hra:r≠a:=λz=>by obtain ⟨x,y,ea,_⟩:=P5.ex;rw [z,ea] at e;cases e
    rw [ze (λz=>by rw [z,e1] at e;cases e)]
    exact b6 _ _ hra e
   ·rw [map_append,e5,take_add_one,hbi];rfl
   ·rw [ze m3]
    exact n7.same _ _ (by rw [ze m2];exact b6 _ _ m1 (bt _ _ m1 m2 m3 e))
   ·obtain ⟨x,y',ea,r⟩:=P6.ex
    exact ⟨⟨x,y',by rw [ze foa.symm];exact n7.same _ _ (by rw [ze lfa.symm];exact ea),r⟩⟩
  ·rintro σ H5 ⟨⟨t5,t6,rfl⟩,_,⟨as,ts,e3,e4,e5⟩,bt,P5⟩
   rw [length_map,take_of_length_le (le_refl _)] at e5
   simp_all only []
   refine q fo as ts H5 (λc o nc e=>?_) P5 ((n1.same.trans n2.same).free n3.no) e3 e4 (by rw [e5];exact pm) (by rw [e5];exact so)
   have h3:=(n1.same.trans n2.same) _ _ e
   exact bt _ _ nc (λz=>by have h1:=n1.same _ _ e;rw [z,n2.no] at h1;cases h1) (λz=>by rw [z,n3.no] at h3;cases h3) (s4 _ _ (n3.same _ _ h3))
end
abbrev zbT:Stmt:=top 26
theorem zh6(f:Nat->Int):∀n,0<n->∃i,i<n/\zaO f n=some (f i)
 | 1,_=>⟨0,by decide,rfl⟩
 | n+2,_=>by
  obtain ⟨i,hi,e⟩:=zh6 f (n+1) (by omega)
  have e2:zaO f (n+2)=some (match zaO f (n+1) with|none=>f (n+1)|some m=>if f (n+1)>m then f (n+1) else m):=rfl
  rw [e2,e]
  show ∃j,j<n+2/\some (if f (n+1)>f i then f (n+1) else f i)=some (f j)
  split
  ·exact ⟨n+1,by omega,rfl⟩
  ·exact ⟨i,by omega,rfl⟩
section
variable {P:Program}{w:World}{K:Frag}{mg:Str->Option Value}{base:Heap}{A:zh}
structure AbI(H:Hp)(ts:List T3)(i:Nat)(τ:L2.St)(ys:List V)(H':Hp):Prop where
 ex:∃t1,τ=[t1]
 ys:ys=(ts.take i).map λt=>V.int (t.1+1)
 same:zf H H'
def zhh:Sp:=λvs H Q _=>∃(a sl:Addr)(as:List Addr)(ts:List T3),vs=[.ref a,.ref sl]/\Pot H a/\H sl=some (.lst (as.map V.ref))/\Paired (zaU H) as ts/\ts.length<40 /\
 ∀(z:Int) H',But a H H'->Pot H' a->Q (.int z) H'
theorem zun:zB ["_law_pot_here","_law_spots_here"] ["_law_pot_here","_law_spots_here"] (zg zbT):=⟨rfl,rfl,rfl,f!"",rfl,f!"",f!""⟩
theorem zsm:zaW { kind:=.function,names:=[(Str.ofString ".0",.local),(Str.ofString "_law_spot",.local)],isGenerator:=false,isCoroutine:=false,more:=[] } (zg zbT).names ["_law_pot_here","_law_spots_here"] ["_law_spot"] [none]=true:=by decide +kernel
theorem zmj:(["_law_spot"]:List Str).Nodup:=by decide +kernel
theorem znP{f:Addr}{fd:FuncData}(F:Fun K "_law_above" "_law_above" zbT f fd)(T:Txt K mg A)(Gb:GF P w K mg base true 1 "_law_draw" ["_law_pot_here","_law_many"] za6):zr P w K mg base CX0 true 2 f fd ["_law_pot_here","_law_spots_here"] zhh:=by
 refine F.ok zun (λvs H Q E h=>?_) (λcdv Ar outer s H vs Q E hr h=>?_)
 ·obtain ⟨a,sl,as,ts,rfl,_⟩:=h;rfl
 ·obtain ⟨a,sl,as,ts,rfl,hP,hs,hp,h40,q⟩:=h
  refine ⟨_,(W.h (zl (zG (zK zaA (zP (zg4 rfl) rfl T.n_max boot_max (zb (zK zaA (zab (zb zj zd)) (zcc (λ_=>rfl) (zaj.of zsm) (za2 (za 1)) (λ_ _ _ _ _=>(zU (i:=0) zmj rfl (Or.inl rfl))) (λ_ _ _ _ _=>zbD) (λ_ _ _ _ _=>(zK zaA (zY zai (za 0) zj (λ_ _=>rfl)) zj)))) zd)) (zY zai (zab (zb zj (zb (zC Gb hr rfl (zb (za 0) (zb (zK ze4 zj zj) zd))) zd))) (zC Gb hr rfl (zb (za 0) (zb zj zd))) (λ_ _=>rfl)))))),?_⟩
  simp_all only []
  have hlen:=zaL hp
  refine ⟨by decide,λlz H1 n1 _=>⟨⟨_,SqL.of (n1.same _ _ hs)⟩,zak.lst (xs:=as.map V.ref) (AbI H1 ts) (λi τ ys H' I=>?_) (λi τ ys H' I=>SqL.of (I.same _ _ (n1.same _ _ hs))) ⟨⟨_,rfl⟩,rfl,zf.refl _⟩ ?_ ?_⟩⟩
  ·rw [I.ys,length_map]
   exact zba (by have:=length_take_le' i ts;omega)
  ·intro N i x τ ys H' hx I hN
   obtain ⟨t1,rfl⟩:=I.ex
   rw [getElem?_map] at hx
   obtain ⟨b,hb,rfl⟩:=map_eq_some_iff.mp hx
   have hi:i<ts.length:=by rw [<- hlen];exact (List.getElem?_eq_some_iff.mp hb).1
   have hti:ts[i]?=some ts[i]:=List.getElem?_eq_getElem hi
   have g1:=I.same _ _ (n1.same _ _ (zaD hp hb hti))
   have i0:atI [V.int ts[i].1,V.int ts[i].2.1,V.int ts[i].2.2] 0=some (V.int ts[i].1):=rfl
   simp_all only [g1,i0]
   refine hN _ _ _ ⟨⟨_,rfl⟩,?_,I.same⟩
   rw [take_add_one,hti,I.ys,map_append]
   rfl
  ·intro τ ys H' I D3 H3 n3
   have hys:=I.ys
   rw [length_map,hlen,take_of_length_le (le_refl _)] at hys
   rw [hys] at n3
   rw [zho]
   refine ⟨_,_,n3.same _ _ (I.same _ _ n1.at_),n3.at_,zex (by simp;omega),λp4 H4 n4=>?_⟩
   rw [zhX]
   refine ⟨0::ts.map λt=>t.1+1,by rw [n4.at_,map_cons,map_map];rfl,by simp,?_⟩
   obtain ⟨i,hi,eb⟩:=zh6 (λi=>(0::ts.map λt=>t.1+1).getD i 0) (0::ts.map λt=>t.1+1).length (by simp)
   rw [eb]
   have s04:zf H H4:=n1.same.trans (I.same.trans (n3.same.trans n4.same))
   have P4:=hP.same s04
   refine ⟨⟨by decide,by decide,by decide⟩,a,_,rfl,P4,by decide,by decide,λr1 H5 b5 P5 r10 r11=>⟨by decide,λp6 H6 n6 _=>⟨a,2,rfl,P5.same n6.same,by decide,by decide,λr2 H7 b7 P7 r20 r21=>?_⟩⟩⟩
   have p6a:p6≠a:=P5.ne n6.no
   have e7:=b7 _ _ p6a n6.at_
   have bb:But a H H7:=(((But.of s04).trans b5).trans (.of n6.same)).trans b7
   obtain ⟨v,ev,hv⟩:=zdz (xs:=[V.int 0,.int r1]) r20 (by simpa using r21)
   obtain ⟨mm,rfl⟩:∃mm:Int,v = .int mm:=by
    simp only [mem_cons,not_mem_nil,or_false] at hv
    rcases hv with rfl|rfl<;>exact ⟨_,rfl⟩
   simp_all only [e7]
   refine ⟨_,ev,?_⟩
   show zbd (V.int ((0::ts.map λt=>t.1+1).getD i 0)) (V.int mm) H7 Q
   simp_all only []
   exact q _ H7 bb P7
end
abbrev zdt:Stmt:=top 30
theorem ztr{α β:Type}{R:α->β->Prop}{l:List α}{m:List β}(h:Paired R l m):∀k,Paired R (l.eraseIdx k) (m.eraseIdx k):=by
 induction h with
 | nil=>exact λ_=>.nil
 | cons z r ih =>
  intro k
  cases k with
  | zero=>exact r
  | succ k=>exact .cons z (ih k)
theorem zhy{α β:Type}{R S:α->β->Prop}{l:List α}{m:List β}(h:Paired R l m)(k:∀a∈l,∀b,R a b->S a b):Paired S l m:=by
 induction h with
 | nil=>exact .nil
 | cons z r ih=>exact .cons (k _ mem_cons_self _ z) (ih λa ha=>k a (mem_cons_of_mem _ ha))
section
variable {P:Program}{w:World}{K:Frag}{mg:Str->Option Value}{base:Heap}{A:zh}
structure HaI(H5:Hp)(a sl lf fo:Addr)(ts:List T3)(i:Nat)(σ:L2.St)(H':Hp):Prop where
 ex:∃t4 t5,σ=[some (.ref a),some (.ref sl),some (.ref lf),some (.ref fo),t4,t5]
 st:∃bs us fs ws,H' lf=some (.lst (bs.map V.ref))/\Paired (zaU H') bs us/\H' fo=some (.lst (fs.map V.ref))/\Paired (T3S H') fs ws/\(us++ws).Perm ts/\us.length=ts.length-i/\(∀x∈fs,x≠lf/\x≠fo/\x≠a)/\∀x∈fs,(∃xs,H' x=some (.tup xs))\/H5 x=none
 but:zaw a lf fo H5 H'
 pot:Pot H' a
def zgI:Sp:=λvs H Q _=>∃(a sl:Addr)(as:List Addr)(ts:List T3),vs=[.ref a,.ref sl]/\Pot H a/\H sl=some (.lst (as.map V.ref))/\Paired (zaU H) as ts/\ts.length<40 /\
 ∀l fs ws H',But a H H'->Pot H' a->H l=none->H' l=some (.lst (fs.map V.ref))->Paired (T3S H') fs ws->ws.Perm ts->(∀x∈fs,(∃xs,H' x=some (.tup xs))\/H x=none)->l∉fs->Q (.ref l) H'
theorem zd1:zB ["_law_pot_here","_law_spots_here","_law_left","_law_found","_law_k","_law_one"] ["_law_pot_here","_law_spots_here"] (zg zdt):=⟨rfl,rfl,rfl,f!"",rfl,f!"",f!""⟩
theorem zk8{f:Addr}{fd:FuncData}(F:Fun K "_law_handed" "_law_handed" zdt f fd)(T:Txt K mg A)(Gb:GF P w K mg base true 1 "_law_draw" ["_law_pot_here","_law_many"] za6):zr P w K mg base CX0 true 2 f fd ["_law_pot_here","_law_spots_here"] zgI:=by
 refine F.ok zd1 (λvs H Q E h=>?_) (λcdv Ar outer s H vs Q E hr h=>?_)
 ·obtain ⟨a,sl,as,ts,rfl,_⟩:=h;rfl
 ·obtain ⟨a,sl,as,ts,rfl,hP,hs,hp,h40,q⟩:=h
  refine ⟨_,(W.h (zk (zI (i:=2) zd1.nd rfl (Or.inl rfl) (zbw zhV rfl T.n_list boot_list (zb (za 1) zd)))
   (zk (zI (i:=3) zd1.nd rfl (Or.inl rfl) (zab zd))
   (zk (zbi PassesOwn.never (λ_=>rfl) (zfl rfl T.n_range (zb (zP zbV rfl T.n_len PySem.boot_len (zb (za 1) zd)) zd)) (zU (i:=4) zd1.nd rfl (Or.inl rfl))
   (zk (zI (i:=5) zd1.nd rfl (Or.inl rfl) (zkA (za 2) (zC Gb hr rfl (zb (za 0) (zb (zP zbV rfl T.n_len PySem.boot_len (zb (za 2) zd)) zd)))))
   (zl (z6 (zgt (za 3) (zY zai (zab (zb (za 5) (zb (zbw zhV rfl T.n_list boot_list (zb (za 5) zd)) zd))) (zC Gb hr rfl (zb (za 0) (zb zj zd))) (λ_ _=>rfl)))))))
   (zl (zG (za 3))))))),?_⟩
  simp_all only []
  have hlen:=zaL hp
  refine ⟨_,.inl hs,λlf H1 n1=>⟨by decide,λfo H2 n2 _=>⟨_,.inl (n2.same _ _ (n1.same _ _ hs)),by omega,by rw [length_map];omega,?_⟩⟩⟩
  have s2:zf H H2:=n1.same.trans n2.same
  have P2:=hP.same s2
  have lfa:lf≠a:=hP.ne n1.no
  have foa:fo≠a:=(hP.same n1.same).ne n2.no
  have lffo:lf≠fo:=λz=>by have:=n2.no;rw [<- z,n1.at_] at this;cases this
  refine zan.rng (HaI H2 a sl lf fo ts) ⟨⟨_,_,rfl⟩,⟨as,ts,[],[],n2.same _ _ n1.at_,Paired.mapP hp λr tt e=>s2 _ _ e,n2.at_,.nil,by simp,by omega,(λx hx=>by cases hx),(λx hx=>by cases hx)⟩,λ_ _ _ _ _ e=>e,P2⟩ ?_ ?_
  ·rintro i σ H5 hi ⟨⟨t4,t5,rfl⟩,⟨bs,us,fs,ws,e1,p1,e2,p2,pm,lu,av,nw⟩,bt,P5⟩
   rw [length_map,toNat_natCast] at hi
   have lb:=zaL p1
   simp_all only []
   refine ⟨⟨_,e1⟩,_,.inl e1,a,_,rfl,P5,by rw [length_map];omega,by rw [length_map];omega,λy H6 b6 P6 y0 y1=>?_⟩
   rw [length_map] at y1
   have hk6:y.toNat<bs.length:=by omega
   have hku:y.toNat<us.length:=by omega
   have e16:=b6 _ _ lfa e1
   have e26:=b6 _ _ foa e2
   have t1:zaU H5 bs[y.toNat] us[y.toNat]:=zaD p1 (List.getElem?_eq_getElem hk6) (List.getElem?_eq_getElem hku)
   have tl:∀{r:Addr}{xs:List V},H5 r=some (.tup xs)->upd H6 lf (.lst ((bs.map V.ref).eraseIdx y.toNat)) r=some (.tup xs):=λ{r xs} e=>by
    rw [ze (λz=>by rw [z,e1] at e;cases e)]
    exact b6 _ _ (λz=>by obtain ⟨x,y,ea,_⟩:=P5.ex;rw [z,ea] at e;cases e) e
   refine ⟨bs.map V.ref,y.toNat,by rw [Int.toNat_of_nonneg y0],e16,.ref bs[y.toNat],by rw [getElem?_map,List.getElem?_eq_getElem hk6];rfl,⟨_,by rw [ze lffo.symm];exact e26⟩,?_⟩
   simp_all only []
   refine ⟨_,.inr (tl t1),λl7 H7 n7=>⟨by decide,λl8 H8 n8 _=>?_⟩⟩
   have P6':Pot (upd H6 lf (.lst ((bs.map V.ref).eraseIdx y.toNat))) a:=by
    obtain ⟨x,y',ea,r⟩:=P6.ex
    exact ⟨⟨x,y',by rw [ze lfa.symm];exact ea,r⟩⟩
   have P7:=P6'.same n7.same
   have P8:=P7.same n8.same
   refine ⟨a,2,rfl,P8,by decide,by decide,λy2 H9 b9 P9 y20 y21=>?_⟩
   have l8a:l8≠a:=P7.ne n8.no
   have e9:=b9 _ _ l8a n8.at_
   have l7a:l7≠a:=P6'.ne n7.no
   have l7lf:l7≠lf:=λz=>by have:=n7.no;rw [z,zp] at this;cases this
   have f6:upd H6 lf (.lst ((bs.map V.ref).eraseIdx y.toNat)) fo=some (.lst (fs.map V.ref)):=by rw [ze lffo.symm];exact e26
   have l7fo:l7≠fo:=λz=>by have:=n7.no;rw [z,f6] at this;cases this
   have up:∀{c:Addr}{o:HO},c≠a->upd H6 lf (.lst ((bs.map V.ref).eraseIdx y.toNat)) c=some o->H9 c=some o:=λ{c o} nc e=>b9 _ _ nc (n8.same _ _ (n7.same _ _ e))
   have f9:=up foa f6
   obtain ⟨v,ev,hv⟩:=zdz (xs:=[V.ref bs[y.toNat],.ref l7]) y20 (by simpa using y21)
   have oa:bs[y.toNat]≠a:=λz=>by have t1:H5 bs[y.toNat]=_:=t1;obtain ⟨x,y',ea,_⟩:=P5.ex;rw [z,ea] at t1;cases t1
   obtain ⟨g,rfl,g1,g2,g3,g4,g5⟩:∃g,v = .ref g/\g≠lf/\g≠fo/\g≠a/\T3S H9 g us[y.toNat]/\((∃xs,H9 g=some (.tup xs))\/H2 g=none):=by
    simp only [mem_cons,not_mem_nil,or_false] at hv
    rcases hv with rfl|rfl
    ·have t1:H5 bs[y.toNat]=_:=t1
     exact ⟨_,rfl,λz=>(by rw [z,e1] at t1;cases t1),λz=>(by rw [z,e2] at t1;cases t1),oa,.inl (up oa (tl t1)),.inl ⟨_,up oa (tl t1)⟩⟩
    ·exact ⟨_,rfl,l7lf,l7fo,l7a,.inr (b9 _ _ l7a (n8.same _ _ n7.at_)),.inr (by
      cases e0:H2 l7 with
      | none=>rfl
      | some o0 =>
       have z:=n7.no
       rw [ze l7lf,b6 _ _ l7a (bt _ _ l7a l7lf l7fo e0)] at z
       cases z)⟩
   have lfs:=zaL p2
   have lpm:=pm.length_eq
   rw [length_append] at lpm
   simp_all only []
   refine ⟨_,.inl e9,_,ev,_,f9,by rw [length_map];exact zba (by omega),⟨_,_,rfl⟩,⟨bs.eraseIdx y.toNat,us.eraseIdx y.toNat,fs++[g],ws++[us[y.toNat]],?_,?_,?_,?_,?_,?_,?_,?_⟩,λc o m1 m2 m3 e=>?_,?_⟩
   ·rw [ze lffo,<- zfG]
    exact up lfa zp
   ·refine Paired.mapP (ztr p1 _) λr tt e=>?_
    have e:H5 r=_:=e
    show upd H9 fo _ r=_
    rw [ze (λz=>by rw [z,e2] at e;cases e)]
    exact up (λz=>by obtain ⟨x,y,ea,_⟩:=P5.ex;rw [z,ea] at e;cases e) (tl e)
   ·rw [zp,map_append];rfl
   ·have keep:∀{x:Addr}{w:T3},x≠fo->T3S H9 x w->T3S (upd H9 fo (.lst (fs.map V.ref++[V.ref g]))) x w:=λ{x w} n h=>by
     unfold T3S
     rw [ze n]
     exact h
    refine zdO ?_ (.cons (keep g2 g4) .nil)
    refine zhy p2 λx hx ww z=>?_
    obtain ⟨m1,m2,m3⟩:=av x hx
    refine keep m2 ?_
    rcases z with z|z
    ·exact .inl (up m3 (by rw [ze m1];exact b6 _ _ m3 z))
    ·exact .inr (up m3 (by rw [ze m1];exact b6 _ _ m3 z))
   ·have h1:(us.eraseIdx y.toNat++(ws++[us[y.toNat]])).Perm (us[y.toNat]::(us.eraseIdx y.toNat++ws)):=by rw [<- List.append_assoc];exact List.perm_append_singleton _ _
    exact (h1.trans ((zer hku).append_right ws)).trans pm
   ·rw [List.length_eraseIdx_of_lt hku];omega
   ·intro x hx
    rcases mem_append.mp hx with hx|hx
    ·exact av x hx
    ·have:x=g:=by simpa using hx
     subst this
     exact ⟨g1,g2,g3⟩
   ·intro x hx
    rcases mem_append.mp hx with hx|hx
    ·obtain ⟨m1,m2,m3⟩:=av x hx
     rcases nw x hx with ⟨xs,z⟩|z
     ·exact .inl ⟨xs,by rw [ze m2];exact up m3 (by rw [ze m1];exact b6 _ _ m3 z)⟩
     ·exact .inr z
    ·have:x=g:=by simpa using hx
     subst this
     rw [ze g2]
     exact g5
   ·rw [ze m3]
    exact up m1 (by rw [ze m2];exact b6 _ _ m1 (bt _ _ m1 m2 m3 e))
   ·obtain ⟨x,y',ea,r⟩:=P9.ex
    exact ⟨⟨x,y',by rw [ze foa.symm];exact ea,r⟩⟩
  ·rintro σ H5 ⟨⟨t4,t5,rfl⟩,⟨bs,us,fs,ws,e1,p1,e2,p2,pm,lu,av,nw⟩,bt,P5⟩
   rw [length_map,toNat_natCast,hlen,Nat.sub_self] at lu
   have:us=[]:=length_eq_zero_iff.mp lu
   subst this
   simp_all only []
   refine q fo fs ws H5 (λc o nc e=>?_) P5 (n1.same.free n2.no) e2 p2 (by simpa using pm) (λx hx=>(nw x hx).imp_right λz=>s2.free z) (λz=>(av _ z).2.1 rfl)
   have h1:=n1.same _ _ e
   exact bt _ _ nc (λz=>by rw [z,n1.no] at e;cases e) (λz=>by rw [z,n2.no] at h1;cases h1) (n2.same _ _ h1)
end
abbrev zbU:Stmt:=top 27
theorem zeb{zs:List Str}:(zs.map V.str).all zF=true:=by simp [zF]
theorem ziw(zs:List Str):eqL (zs.map V.str) (zs.map V.str)=true:=zeo zeb λx hx b e=>by
 obtain ⟨y,_,rfl⟩:=mem_map.mp hx
 cases e
theorem zdb{zs:List Int}:(zs.map V.int).all zF=true:=by simp [zF]
theorem zeZ(zs:List Int):eqL (zs.map V.int) (zs.map V.int)=true:=zeo zdb λx hx b e=>by
 obtain ⟨y,_,rfl⟩:=mem_map.mp hx
 cases e
section
variable {P:Program}{w:World}{K:Frag}{mg:Str->Option Value}{base:Heap}{A:zh}
structure znq(H:Hp)(p d:Addr)(i:Nat)(σ:L2.St)(H':Hp):Prop where
 ex:∃t1 t2,σ=[some (V.ref p),some (.ref d),t1,t2]
 same:zf H H'
structure IMc(H:Hp)(p:Addr)(n:Str)(l:List Int)(i:Nat)(τ:L2.St)(ys:List V)(H':Hp):Prop where
 ex:∃t,τ=[t,some (V.ref p),some (.str n)]
 ys:ys=(l.take i).map V.int
 same:zf H H'
 le:i<=60
def zgC(A:zh):Sp:=λvs H Q _=>∃(p b k d a:Addr)(t u:Tab)(ks:List (Str×Tab)),vs=[.ref p,.ref d]/\zaC A H p b k t ks/\zX H a d u/\t.length<60/\(∀n,(lk t n).length<=60)/\z5 t u/\∀H',zf H H'->Q (.bl true) H'
theorem zhr:zB ["_law_files_here","_law_plain","_law_name","_law_births"] ["_law_files_here","_law_plain"] (zg zbU):=⟨rfl,rfl,rfl,f!"",rfl,f!"",f!""⟩
theorem zuT:zaW { kind:=.function,names:=[(Str.ofString ".0",.local),(Str.ofString "_law_place",.local),(Str.ofString "_law_files_here",.free),(Str.ofString "_law_name",.free)],isGenerator:=false,isCoroutine:=false,more:=[] } (zg zbU).names ["_law_files_here","_law_plain","_law_name","_law_births"] ["_law_place","_law_files_here","_law_name"] [none,some 0,some 2]=true:=by decide +kernel
theorem ztA:(["_law_place","_law_files_here","_law_name"]:List Str).Nodup:=by decide +kernel
theorem zm3{f:Addr}{fd:FuncData}(F:Fun K "_law_same_files" "_law_same_files" zbU f fd)(T:Txt K mg A)(M_Files_names:GM P w K mg base true 1 A.Files "names" ["self"] (zhB A))(M_Files_many:GM P w K mg base true 1 A.Files "many" ["self","file"] (zcl A))(M_Files_birth:GM P w K mg base true 4 A.Files "birth" ["self","file","place"] (zfs A)):zr P w K mg base CX0 true 5 f fd ["_law_files_here","_law_plain"] (zgC A):=by
 refine F.ok zhr (λvs H Q E h=>?_) (λcdv Ar outer s H vs Q E hr h=>?_)
 ·obtain ⟨p,b,k,d,a,t,u,ks,rfl,_⟩:=h;rfl
 ·obtain ⟨p,b,k,d,a,t,u,ks,rfl,hF,hM,tl,rows,al,q⟩:=h
  have hu:_<cLine:=lt_of_succ_lt (zR hr)
  refine ⟨_,(W.h (zk (z7 (zad (zdI hu) (zaF (za 0) T.cl_Files M_Files_names hr) (zP (zcp rfl) rfl T.n_sorted boot_sorted (zb (za 1) zd)) (zal _))
   (zl (zG za5))
   zas)
   (zk (zgw (zbi PassesOwn.never (λ_=>rfl) (zim (za 1)) (zU (i:=2) zhr.nd rfl (Or.inr rfl))
   (zk (zjs (i0:=3) zhr.nd rfl (Or.inl rfl) (λ_=>rfl) (zaj.of zuT) (zfl rfl T.n_range (zb (zae (za 0) T.cl_Files M_Files_many hr (zb (za 2) zd)) zd)) (λ_ _ _ _ _=>(zU (i:=0) ztA rfl (Or.inl rfl))) (λ_ _ _ _ _=>zbD) (λ_ _ _ _ _=>(zae (za 1) T.cl_Files M_Files_birth hr (zb (za 2) (zb (za 0) zd)))))
   (zl (z7 (zad (zdI hu) (za 3) (zY (zb3 (zR hr)) (za 1) (za 2) (λ_ _=>rfl)) (zal _))
   (zl (zG za5))
   zas)))))
   (zl (zG za5))))),?_⟩
  obtain ⟨dx,e1⟩:=hF.ob
  obtain ⟨kvs,ed,dc⟩:=hM.ex
  have hlu:=zg6 al hF.births.nd hM.nd
  simp_all only [e1,ztW]
  refine ⟨p,b,k,t,ks,rfl,hF,by omega,λnl H1 n1=>⟨kvs,.inl (n1.same _ _ ed),by rw [dc.length];omega,λml H2 n2=>?_⟩⟩
  rw [dc.names,<- zuz al hF.births.nd hM.nd] at n2
  have nl2:=n2.same _ _ n1.at_
  simp_all only [nl2,n2.at_]
  refine ⟨zeb,zeb,?_⟩
  rw [ziw]
  simp_all only []
  have s2:zf H H2:=n1.same.trans n2.same
  have ed2:=s2 _ _ ed
  refine ⟨d,sk kvs,ed2,λo=>⟨o,sk kvs,zp,zan.dct (znq (upd H2 d (.frz o (.dK (sk kvs)))) p d) ⟨⟨_,_,rfl⟩,zf.refl _⟩ (λi σ H _ I=>I.same _ _ zp) ?_ ?_⟩⟩
  ·rintro i pr σ H3 hpr ⟨⟨t1,t2,rfl⟩,sm⟩
   have F3:=(hF.same s2).fs ((FS.freeze ed2).trans (FS.of sm))
   have hd3:=sm _ _ (zp (H:=H2) (a:=d))
   obtain ⟨q0,hq0,rfl⟩:=zjx hpr
   obtain ⟨l,hul,_⟩:=dc.at hq0
   generalize q0.1=n at hul
   have hlu:look u n=some l:=zcu hM.nd (mem_of_getElem? hul)
   have hnn:(names u)[i]?=some n:=by unfold names;rw [getElem?_map,hul];rfl
   have hlt:look t n=some l:=by rw [al n];exact hlu
   have l2:l.length<=60:=by have:=rows n;unfold lk at this;rw [hlt] at this;exact this
   obtain ⟨v,l',d1,d2,pl,ev,hpl,_⟩:∃v l',look kvs n=some v/\look u n=some l'/\MdP H a v l':=by
    rcases dc.look n with z|⟨_,d2⟩
    ·exact z
    ·rw [hlu] at d2;cases d2
   rw [hlu] at d2
   cases d2
   subst ev
   have hpl3:H3 pl=some (.lst (l.map V.int)):=((FS.freeze ed2).trans (FS.of sm)).oth _ _ (λ_=>nofun) (λ_ _=>nofun) (s2 _ _ hpl)
   obtain ⟨dx3,e3⟩:=F3.ob
   show zaM 2 (V.str n) _ H3 _
   simp_all only [e3,zc3]
   refine ⟨p,b,k,t,ks,n,rfl,F3,λH4 s4=>?_⟩
   have ell:lk t n=l:=by unfold lk;rw [hlt];rfl
   rw [ell]
   try simp_all only []
   refine ⟨by omega,by omega,zak.rng (IMc H4 p n l) (λj τ ys H6 I=>?_) ⟨⟨_,rfl⟩,by simp,zf.refl _,by omega⟩ ?_ ?_⟩
   ·rw [I.ys,length_map,length_take]
    exact zba (by have:=I.le;omega)
   ·intro N j τ ys H6 hj I hN
    obtain ⟨tt,rfl⟩:=I.ex
    have F6:=(F3.same s4).same I.same
    obtain ⟨dx6,e6⟩:=F6.ob
    have hj':j<l.length:=by omega
    simp_all only [e6,zoi]
    refine ⟨p,b,k,t,ks,n,l,_,rfl,F6,hlt,by omega,by omega,λH7 s7=>?_⟩
    have ej:(0+(j:Int)).toNat=j:=by omega
    have eg:l.getD j 0=l[j]:=by rw [getD_eq_getElem?_getD,List.getElem?_eq_getElem hj'];rfl
    rw [ej,eg]
    refine hN _ _ _ ⟨⟨_,rfl⟩,?_,I.same.trans s7,by omega⟩
    rw [I.ys,take_add_one,List.getElem?_eq_getElem hj',map_append]
    rfl
   ·intro τ ys H6 I D H7 n7
    have s37:zf H3 H7:=(s4.trans I.same).trans n7.same
    have e7:=s37 _ _ hpl3
    have ey:ys=l.map V.int:=by rw [I.ys,take_of_length_le (by omega)]
    rw [ey] at n7
    try simp_all only []
    refine ⟨_,.inr ⟨o,s37 _ _ hd3⟩,.ref pl,by rw [zax];exact d1,?_⟩
    simp_all only [n7.at_,e7]
    refine ⟨zdb,zdb,?_⟩
    rw [zeZ]
    simp_all only []
    exact ⟨⟨_,_,rfl⟩,sm.trans s37⟩
  ·rintro σ H3 ⟨⟨t1,t2,rfl⟩,sm⟩
   have hd3:=sm _ _ (zp (H:=H2) (a:=d))
   refine ⟨o,hd3,?_⟩
   simp_all only []
   refine q _ λa oo e=>?_
   by_cases z:a=d
   ·subst z;rw [zp,<- e,ed]
   ·rw [ze z];exact sm _ _ (by rw [ze z];exact s2 _ _ e)
end
abbrev zdu:Stmt:=top 28
theorem zeB:∀{xs L:List Int},xs.Nodup->(∀y∈xs,y∈L)->xs.length<=L.length
 | [],_,_,_=>zero_le _
 | x::xs,L,nd,s=>by
  have nd':=nodup_cons.mp nd
  have hx:x∈L:=s x mem_cons_self
  have h1:=zeB (xs:=xs) (L:=L.erase x) nd'.2 λy hy=>(List.mem_erase_of_ne (λz:y=x=>nd'.1 (by rw [<- z];exact hy))).mpr (s y (mem_cons_of_mem _ hy))
  rw [List.length_erase_of_mem hx] at h1
  have:=List.length_pos_of_mem hx
  rw [length_cons]
  omega
theorem Bud.uniq{t:Tab}{ks:List (Str×Tab)}{B:Nat}(h:Bud t ks B):(L2.uniq (zag t ks)).length<=B:=let ⟨L,hL,hm⟩:=h.live;le_trans (zeB zdm λy hy=>hm y (zb4.mp hy)) hL
theorem zeQ{t u:Tab}(al:z5 t u)(nt:(names t).Nodup){y:Int}(h:y∈zA t):y∈zA u:=by
 obtain ⟨p,hp,hy⟩:=zbE.mp h
 have e:=zcu nt (show (p.1,p.2)∈t from hp)
 rw [al] at e
 exact zbE.mpr ⟨_,zb2 e,hy⟩
theorem zj5{t u:Tab}(h:z5 t u):z5 u t:=λn=>(h n).symm
theorem zh2{t u:Tab}{ks ku:List (Str×Tab)}(al:z5 t u)(nt:(names t).Nodup)(nu:(names u).Nodup)(kal:KAl ks ku)(nks:(names ks).Nodup)(nku:(names ku).Nodup)(nw:∀p∈ku,(names p.2).Nodup)(y:Int):y∈zag t ks↔y∈zag u ku:=by
 rw [zcJ,zcJ]
 constructor
 ·rintro (h|⟨p,hp,h⟩)
  ·exact .inl (zeQ al nt h)
  ·have e:=zcu nks (show (p.1,p.2)∈ks from hp)
   rcases kal p.1 with ⟨v,w,e1,e2,a1,nv⟩|⟨e1,_⟩
   ·rw [e] at e1
    cases e1
    exact .inr ⟨_,zb2 e2,zeQ a1 nv h⟩
   ·rw [e] at e1;cases e1
 ·rintro (h|⟨p,hp,h⟩)
  ·exact .inl (zeQ (zj5 al) nu h)
  ·have e:=zcu nku (show (p.1,p.2)∈ku from hp)
   rcases kal p.1 with ⟨v,w,e1,e2,a1,nv⟩|⟨_,e2⟩
   ·rw [e] at e2
    cases e2
    exact .inr ⟨_,zb2 e1,zeQ (zj5 a1) (nw p hp) h⟩
   ·rw [e] at e2;cases e2
theorem KAl.names{ks ku:List (Str×Tab)}(h:KAl ks ku)(n1:(L2.names ks).Nodup)(n2:(L2.names ku).Nodup):(L2.names ks).Perm (L2.names ku):=(List.perm_ext_iff_of_nodup n1 n2).mpr λn=>by
 rcases h n with ⟨v,w,e1,e2,_⟩|⟨e1,e2⟩
 ·exact ⟨λ_=>Classical.byContradiction λz=>(by rw [zaI.mpr z] at e2;cases e2),λ_=>Classical.byContradiction λz=>(by rw [zaI.mpr z] at e1;cases e1)⟩
 ·exact ⟨λz=>absurd z (zaI.mp e1),λz=>absurd z (zaI.mp e2)⟩
theorem zaP.nds{H:Hp}{a kd:Addr}{X:List Addr}{ku:List (Str×Tab)}(h:zaP H a X kd ku):∀p∈ku,(names p.2).Nodup:=λp hp=>by
 obtain ⟨kvs,_,d⟩:=h.ex
 obtain ⟨j,hj,ej⟩:=getElem_of_mem hp
 have hk:j<kvs.length:=by rw [d.length];exact hj
 obtain ⟨a',e,q,_,_,pl⟩:=Dct.at d (List.getElem?_eq_getElem hk)
 rw [List.getElem?_eq_getElem hj,ej] at e
 cases e
 exact pl.nd
theorem zaP.same{H H':Hp}{a kd:Addr}{X:List Addr}{ku:List (Str×Tab)}(h:zaP H a X kd ku)(s:zf H H'):zaP H' a X kd ku :=
 let ⟨kvs,e,d⟩:=h.ex;⟨⟨kvs,s _ _ e,d.imp λv u ⟨q,ev,nX,pl⟩=>⟨q,ev,nX,pl.same s⟩⟩,h.nd⟩
section
variable {P:Program}{w:World}{K:Frag}{mg:Str->Option Value}{base:Heap}{A:zh}
structure SmI(H:Hp)(p d kd:Addr)(i:Nat)(σ:L2.St)(H':Hp):Prop where
 ex:∃t1 t2,σ=[some (V.ref p),some (.ref d),some (.ref kd),t1,t2]
 same:zf H H'
def zge(A:zh):Sp:=λvs H Q _=>∃(p b k d kd a:Addr)(X:List Addr)(t u:Tab)(ks ku:List (Str×Tab)),vs=[.ref p,.ref d,.ref kd]/\zq A H p b k t ks/\zX H a d u/\zaP H a X kd ku/\kd∈X/\d≠kd/\z5 t u/\KAl ks ku/\Bud t ks 50/\ks.length<=3 /\
 ∀H',zf H H'->Q (.bl true) H'
theorem zgh:zB ["_law_files_here","_law_plain","_law_kept","_law_name","_law_own"] ["_law_files_here","_law_plain","_law_kept"] (zg zdu):=⟨rfl,rfl,rfl,f!"",rfl,f!"",f!""⟩
theorem zkH{f:Addr}{fd:FuncData}(F:Fun K "_law_same" "_law_same" zdu f fd)(T:Txt K mg A)(Gj:GF P w K mg base true 5 "_law_same_files" ["_law_files_here","_law_plain"] (zgC A))(M_Files_held:GM P w K mg base true 1 A.Files "held" ["self"] (zgM A))(M_Files_of_held:GM P w K mg base true 4 A.Files "of_held" ["self","name"] (zg3 A))(M_Files_living:GM P w K mg base true 1 A.Files "living" ["self"] (zgi A))(Gi:GF P w K mg base true 1 "_law_living" ["_law_plain","_law_kept"] zfn):zr P w K mg base CX0 true 6 f fd ["_law_files_here","_law_plain","_law_kept"] (zge A):=by
 refine F.ok zgh (λvs H Q E h=>?_) (λcdv Ar outer s H vs Q E hr h=>?_)
 ·obtain ⟨p,b,k,d,kd,a,X,t,u,ks,ku,rfl,_⟩:=h;rfl
 ·obtain ⟨p,b,k,d,kd,a,X,t,u,ks,ku,rfl,hF,hD,hK,kX,dkd,al,kal,bud,few,q⟩:=h
  have hu:_<cLine:=lt_of_succ_lt (zR hr)
  refine ⟨_,(W.h (zk (z7 (zbF (zcv (za7 (zaV (zC Gj hr rfl (zb (za 0) (zb (za 1) zd))))) (zd4 (zad (zdI hu) (zaF (za 0) T.cl_Files M_Files_held hr) (zP (zcp rfl) rfl T.n_sorted boot_sorted (zb (za 2) zd)) (zal _)))))
   (zl (zG za5))
   zas)
   (zk (zgw (zbi PassesOwn.never (λ_=>rfl) (zim (za 2)) (zU (i:=3) zgh.nd rfl (Or.inl rfl))
   (zk (zI (i:=4) zgh.nd rfl (Or.inl rfl) (zae (za 0) T.cl_Files M_Files_of_held hr (zb (za 3) zd)))
   (zl (z7 (zbF (zcv (za7 (zaV (zC Gj hr rfl (zb (za 4) (zb (zY (zb3 (zR hr)) (za 2) (za 3) (λ_ _=>rfl)) zd))))) (zd4 (zad (zjp hu) (zaF (za 4) T.cl_Files M_Files_held hr) (zab zd) (zal _)))))
   (zl (zG za5))
   zas)))))
   (zl (zG (zg0 (zd3 hu) (zaF (za 0) T.cl_Files M_Files_living hr) (zC Gi hr rfl (zb (za 1) (zb (za 2) zd))) (zal _))))))),?_⟩
  obtain ⟨dx,e1⟩:=hF.ob
  have bf:=bud.few
  have klen:=kal.len hF.ndk hK.nd
  simp_all only [e1,zgn]
  refine ⟨p,b,k,d,a,t,u,ks,rfl,hF.r,hD,by omega,λn=>by have:=bud.row n;omega,al,λH1 s1=>?_⟩
  have F1:=hF.same s1
  obtain ⟨dx1,e11⟩:=F1.ob
  have K1:=hK.same s1
  obtain ⟨kv,ekd,dk⟩:=K1.ex
  simp_all only [e11,zgn]
  refine ⟨p,b,k,t,ks,rfl,F1.r,by omega,λhl H2 n2=>⟨kv,.inl (n2.same _ _ ekd),by rw [dk.length];omega,λsl H3 n3=>?_⟩⟩
  rw [dk.names,<- zjf (kal.names hF.ndk hK.nd)] at n3
  have hl3:=n3.same _ _ n2.at_
  simp_all only [hl3,n3.at_]
  refine ⟨zeb,zeb,?_⟩
  rw [ziw]
  simp_all only []
  have s23:zf H1 H3:=n2.same.trans n3.same
  have ekd3:=s23 _ _ ekd
  have F3:=F1.same s23
  have kvnd:(names kv).Nodup:=by show (kv.map (·.1)).Nodup;rw [dk.names];exact hK.nd
  refine ⟨kd,sk kv,ekd3,λo=>⟨o,sk kv,zp,zan.dct (SmI (upd H3 kd (.frz o (.dK (sk kv)))) p d kd) ⟨⟨_,_,rfl⟩,zf.refl _⟩ (λi σ H _ I=>I.same _ _ zp) ?_ ?_⟩⟩
  ·rintro i pr σ H4 hpr ⟨⟨t1,t2,rfl⟩,sm⟩
   have F4:=F3.r.fs ((FS.freeze ekd3).trans (FS.of sm))
   obtain ⟨q0,hq0,rfl⟩:=zjx hpr
   obtain ⟨w',hul,e',ev',nX,pl⟩:=Dct.at dk hq0
   have hlk:look kv q0.1=some (.ref e'):=by rw [<- ev'];exact zcu kvnd (mem_of_getElem? hq0)
   generalize q0.1=n at hul hlk
   have hlu:look ku n=some w':=zcu hK.nd (mem_of_getElem? hul)
   obtain ⟨v1,hv1,al1,_⟩:∃v1,look ks n=some v1/\z5 v1 w'/\(names v1).Nodup:=by
    rcases kal n with ⟨v,w,e1,e2,a1,nv⟩|⟨_,e2⟩
    ·rw [hlu] at e2;cases e2;exact ⟨v,e1,a1,nv⟩
    ·rw [hlu] at e2;cases e2
   have o1:v1.length<=50:=(bud.old _ (zb2 hv1)).1
   have o2:∀m,(lk v1 m).length<=50:=(bud.old _ (zb2 hv1)).2
   obtain ⟨dx4,e4⟩:=F4.ob
   show zaM 3 (V.str n) _ H4 _
   simp_all only [e4,zqY]
   refine ⟨p,b,k,t,ks,n,v1,rfl,F4,hv1,λq' b' k' H5 s5 nb nk nq hB hBb=>?_⟩
   have nek:e'≠kd:=λz=>nX (z ▸ kX)
   have pl5:zX H5 a e' w':=(((pl.same s23).dic (But.upd (o:=.frz o (.dK (sk kv)))) ekd3 nek).same sm).same s5
   simp_all only []
   refine ⟨_,.inr ⟨o,s5 _ _ (sm _ _ zp)⟩,.ref e',by rw [zax];exact hlk,?_⟩
   refine ⟨q',b',k',e',a,v1,w',[],rfl,hB.files,pl5,by omega,λm=>by have:=o2 m;omega,al1,λH6 s6=>?_⟩
   have B6:=hB.same s6
   obtain ⟨dx6,e6⟩:=B6.ob
   simp_all only [e6,zgn]
   refine ⟨q',b',k',v1,[],rfl,B6.files,by decide,λl7 H7 n7=>⟨by decide,λl8 H8 n8 _=>?_⟩⟩
   have h78:=n8.same _ _ n7.at_
   try simp_all only []
   refine ⟨_,h78,_,n8.at_,.inr rfl,?_⟩
   have z0:((zaH (names ([]:List (Str×Tab)))).map V.str).length=0:=by rw [length_map,(zbz _).1.length_eq];rfl
   rw [if_neg (by rw [z0];simp)]
   exact ⟨⟨_,_,rfl⟩,sm.trans (((s5.trans s6).trans n7.same).trans n8.same)⟩
  ·rintro σ H4 ⟨⟨t1,t2,rfl⟩,sm⟩
   have ek4:=sm _ _ (zp (H:=H3) (a:=kd))
   refine ⟨o,ek4,?_⟩
   have s35:zf H3 (upd H4 kd (.dK (sk kv))):=λc oo e=>by
    by_cases z:c=kd
    ·subst z;rw [ekd3] at e;cases e;exact zp
    ·rw [ze z];exact sm _ _ (by rw [ze z];exact e)
   generalize upd H4 kd (.dK (sk kv))=H5 at s35
   have s05:zf H H5:=(s1.trans s23).trans s35
   have F5:=hF.same s05
   obtain ⟨dx5,e5⟩:=F5.ob
   have hq:=bud.uniq
   have mem:=zh2 al hF.births.nd hD.nd kal hF.ndk hK.nd hK.nds
   have hq2:(uniq (zag u ku)).length<=50:=le_trans (zeB zdm λy hy=>zb4.mpr ((mem y).mpr (zb4.mp hy))) hq
   simp_all only [e5,zqF]
   refine ⟨p,b,k,t,ks,rfl,F5,by omega,by omega,λl ns H6 s6 nl el pm so=>?_⟩
   refine ⟨a,d,kd,X,u,ku,rfl,(hD.same s05).same s6,(hK.same s05).same s6,by omega,by omega,λl2 ns2 H7 s7 nl2 el2 pm2 so2=>?_⟩
   have e27:=s7 _ _ el
   have hns:ns=ns2:=zjA so so2 (pm.nodup_iff.mpr zdm) (pm2.nodup_iff.mpr zdm) λy=>by
    rw [pm.mem_iff,pm2.mem_iff,zb4,zb4];exact mem y
   subst hns
   simp_all only [e27,el2]
   refine ⟨zdb,zdb,?_⟩
   rw [zeZ]
   try simp_all only []
   exact q H7 ((s05.trans s6).trans s7)
end
abbrev zcN:Stmt:=top 34
section
variable {P:Program}{w:World}{K:Frag}{mg:Str->Option Value}{base:Heap}{A:zh}
theorem zao.nl{H H':Hp}{q b k:Addr}{t:Tab}(h:zao A H q b k t)(s:∀c o,(∀xs,o≠.lst xs)->H c=some o->H' c=some o):zao A H' q b k t:=by
 have rd:∀{c:Addr}{kvs:List (Key×V)},Rd H c (.dK kvs)->Rd H' c (.dK kvs):=λ{c kvs} r=>r.elim (λe=>.inl (s _ _ (λ_ z=>HO.noConfusion z) e)) λ⟨o,e⟩=>.inr ⟨o,s _ _ (λ_ z=>HO.noConfusion z) e⟩
 obtain ⟨dx,e⟩:=h.ob
 obtain ⟨kvs,e1,d⟩:=h.births.ex
 exact ⟨⟨dx,s _ _ (λ_ z=>HO.noConfusion z) e⟩,⟨⟨kvs,rd e1,d.imp λv l ⟨a,ea,ha⟩=>⟨a,ea,s _ _ (λ_ z=>HO.noConfusion z) ha⟩⟩,h.births.nd⟩,rd h.kept⟩
theorem zq.nl{H H':Hp}{p b k:Addr}{t:Tab}{ks:List (Str×Tab)}(h:zq A H p b k t ks)(s:∀c o,(∀xs,o≠.lst xs)->H c=some o->H' c=some o):zq A H' p b k t ks:=by
 obtain ⟨dx,e⟩:=h.ob
 obtain ⟨kvs,e1,d⟩:=h.births.ex
 obtain ⟨kk,e2,d2⟩:=h.kept
 exact ⟨⟨dx,s _ _ (λ_ z=>HO.noConfusion z) e⟩,⟨⟨kvs,s _ _ (λ_ z=>HO.noConfusion z) e1,d.imp λv l ⟨a,ea,ha⟩=>⟨a,ea,s _ _ (λ_ z=>HO.noConfusion z) ha⟩⟩,h.births.nd⟩,⟨kk,s _ _ (λ_ z=>HO.noConfusion z) e2,d2.imp λv u ⟨q,b',k',ev,r,n⟩=>⟨q,b',k',ev,r.nl s,n⟩⟩,h.ndk,h.ne⟩
structure zrN(H:Hp)(l p:Addr)(fs:List Addr)(i:Nat)(σ:L2.St)(H':Hp):Prop where
 ex:∃t1,σ=[some (.ref l),some (.ref p),t1]
 st:∀x∈fs,(∃xs,H' x=some (.lst xs))\/∃xs,H' x=some (.tup xs)
 but:∀c o,(c∉fs\/∀xs,o≠.lst xs)->H c=some o->H' c=some o
def zfS(A:zh):Sp:=λvs H Q _=>∃(l p b k:Addr)(fs:List Addr)(t:Tab)(ks:List (Str×Tab)),vs=[.ref l,.ref p]/\H l=some (.lst (fs.map V.ref))/\l∉fs/\(∀x∈fs,(∃xs,H x=some (.lst xs))\/∃xs,H x=some (.tup xs))/\fs.length<=1000/\zq A H p b k t ks/\(lk t "b").length<=900/\t.length<=900 /\
 ∀t' H',(∀c o,c≠l->c≠b->(c∉fs\/∀xs,o≠.lst xs)->H c=some o->H' c=some o)->zq A H' p b k t' ks->Q .non H'
theorem zj1:zB ["_law_handed_here","_law_files_here","_law_one"] ["_law_handed_here","_law_files_here"] (zg zcN):=⟨rfl,rfl,rfl,f!"",rfl,f!"",f!""⟩
theorem zsB{f:Addr}{fd:FuncData}(F:Fun K "_law_spoil_handed" "_law_spoil_handed" zcN f fd)(T:Txt K mg A)(M_Files_put:GM P w K mg base true 4 A.Files "put" ["self","file","place","birth"] (zcr A))(M_Files_cut:GM P w K mg base true 4 A.Files "cut" ["self","file","many"] (zem A)):zr P w K mg base CX0 true 5 f fd ["_law_handed_here","_law_files_here"] (zfS A):=by
 refine F.ok zj1 (λvs H Q E h=>?_) (λcdv Ar outer s H vs Q E hr h=>?_)
 ·obtain ⟨l,p,b,k,fs,t,ks,rfl,_⟩:=h;rfl
 ·obtain ⟨l,p,b,k,fs,t,ks,rfl,hl,lfs,hfs,flen,hF,hb1,hb2,q⟩:=h
  refine ⟨_,(W.h (zk (zbi PassesOwn.never (λ_=>rfl) (za2 (za 0)) (zU (i:=2) zj1.nd rfl (Or.inl rfl))
   (zl (z7 (zaV (zP zcO rfl T.n_isinstance boot_isinstance (zb (za 2) (zb (zbH rfl T.n_list boot_list (v:=.ty "list") rfl) zd))))
   (zl (z6 (zhQ (za 2))))
   zas)))
   (zk (z6 (zhQ (za 0)))
   (zk (z6 (zae (za 1) T.cl_Files M_Files_put hr (zb zaz (zb zj (zb zj zd)))))
   (zl (z6 (zae (za 1) T.cl_Files M_Files_cut hr (zb zaz (zb zj zd))))))))),?_⟩
  simp_all only []
  refine ⟨⟨_,SqL.of hl⟩,zan.lst (xs:=fs.map V.ref) (zrN H l p fs) ⟨⟨_,rfl⟩,hfs,λ_ _ _ e=>e⟩ (λi σ H' _ I=>SqL.of (I.but _ _ (.inl lfs) hl)) ?_ ?_⟩
  ·rintro i x σ H4 hx ⟨⟨t1,rfl⟩,st,bt⟩
   rw [getElem?_map] at hx
   obtain ⟨r,hr',rfl⟩:=map_eq_some_iff.mp hx
   have rm:=mem_of_getElem? hr'
   simp_all only []
   rcases st r rm with ⟨xs,e⟩|⟨xs,e⟩
   ·refine ⟨_,_,_,_,_,rfl,rfl,.of (.lst e),rfl,?_⟩
    simp_all only []
    refine ⟨⟨_,e⟩,⟨_,rfl⟩,λx hx=>?_,λc o hc e0=>?_⟩
    ·by_cases z:x=r
     ·exact .inl ⟨[],by rw [z,zp]⟩
     ·rw [ze z];exact st x hx
    ·have e4:=bt _ _ hc e0
     by_cases z:c=r
     ·subst z
      rcases hc with hc|hc
      ·exact absurd rm hc
      ·rw [e] at e4
       exact absurd (Option.some.inj e4).symm (hc xs)
     ·rw [ze z];exact e4
   ·refine ⟨_,_,_,_,_,rfl,rfl,.of (.tup e),rfl,?_⟩
    simp_all only []
    exact ⟨⟨_,rfl⟩,st,bt⟩
  ·rintro σ H4 ⟨⟨t1,rfl⟩,st,bt⟩
   have hl4:=bt _ _ (.inl lfs) hl
   have s5:∀c o,c≠l->(c∉fs\/∀xs,o≠.lst xs)->H c=some o->upd H4 l (.lst []) c=some o:=λc o nc hc e=>by rw [ze nc];exact bt _ _ hc e
   have F5:zq A (upd H4 l (.lst [])) p b k t ks:=hF.nl λc o ho e=>s5 c o (λz=>ho _ (by rw [z,hl] at e;exact (Option.some.inj e).symm)) (.inr ho) e
   obtain ⟨dx5,e5⟩:=F5.ob
   simp_all only []
   refine ⟨⟨_,hl4⟩,?_⟩
   try simp_all only [e5,zee]
   refine ⟨p,b,k,t,ks,"b",0,3,rfl,F5,by decide,by omega,by omega,by omega,λH6 b6 F6=>?_⟩
   obtain ⟨dx6,e6⟩:=F6.ob
   simp_all only [e6,zj7]
   refine ⟨p,b,k,_,ks,"b",_,0,rfl,F6,by rw [zbj,if_pos rfl],by decide,by omega,le_trans zgW (by omega),λH7 b7 F7=>?_⟩
   try simp_all only []
   exact q _ H7 (λc o n1 n2 hc e=>b7 _ _ n2 (b6 _ _ n2 (s5 c o n1 hc e))) F7
end
abbrev zbm:Stmt:=top 31
theorem zhW{ts us ws:List T3}(nd:(ts.map (·.1)).Nodup)(p1:us.Perm ts)(s1:(us.map (·.1)).Pairwise (·<=·))(p2:ws.Perm ts)(s2:(ws.map (·.1)).Pairwise (·<=·)):us=ws:=by
 have e:us.map (·.1)=ws.map (·.1):=zjA s1 s2 ((p1.map _).nodup_iff.mpr nd) ((p2.map _).nodup_iff.mpr nd) λy=>by rw [(p1.map _).mem_iff,(p2.map _).mem_iff]
 have f:∀vs:List T3,vs.Perm ts->(vs.map (·.1)).map (zbk ts)=vs:=λvs p=>by
  rw [map_map];exact (map_congr_left λt ht=>zcM nd (p.mem_iff.mp ht)).trans (List.map_id _)
 rw [<- f us p1,e,f ws p2]
section
variable {P:Program}{w:World}{K:Frag}{mg:Str->Option Value}{base:Heap}{A:zh}
theorem zhG{H:Hp}{as bs:List Addr}{us:List T3}(h1:Paired (zaU H) as us)(h2:Paired (zaU H) bs us)(j:Nat)(p q:V)(e1:(as.map V.ref)[j]?=some p)(e2:(bs.map V.ref)[j]?=some q):EqR H p q true:=by
 rw [getElem?_map] at e1 e2
 obtain ⟨x,hx,rfl⟩:=map_eq_some_iff.mp e1
 obtain ⟨y,hy,rfl⟩:=map_eq_some_iff.mp e2
 have hj:j<us.length:=by rw [<- zaL h1];exact (List.getElem?_eq_some_iff.mp hx).1
 have eu:us[j]?=some us[j]:=List.getElem?_eq_getElem hj
 have f:[V.int us[j].1,.int us[j].2.1,.int us[j].2.2].all zF=true:=rfl
 exact ⟨x,y,_,_,rfl,rfl,zaD h1 hx eu,zaD h2 hy eu,f,f,(zeo f λx hx b e=>by subst e;simp at hx).symm⟩
structure SrA(H:Hp)(n:Nat)(i:Nat)(τ:L2.St)(ys:List V)(H':Hp):Prop where
 ex:∃t1,τ=[t1]
 ys:ys=replicate i (V.bl true)
 same:zf H H'
 le:i<=n
structure SrI(H:Hp)(x sl l:Addr)(i:Nat)(σ:L2.St)(H':Hp):Prop where
 ex:∃t3 t4 t5 t6 t7 t8,σ=[some (.ref x),some (.ref sl),some (.ref l),t3,t4,t5,t6,t7,t8]
 same:zf H H'
structure SrB(H:Hp)(us:List T3)(i:Nat)(τ:L2.St)(ys:List V)(H':Hp):Prop where
 ex:∃t1,τ=[t1]
 ys:ys=((us.map (·.1)).take i).map V.int
 same:zf H H'
structure SrC(H:Hp)(D:Addr)(ns:List Int)(n:Nat)(i:Nat)(τ:L2.St)(ys:List V)(H':Hp):Prop where
 ex:∃t1,τ=[t1,some (.ref D)]
 ys:∃ms:List Int,ys=ms.map V.int/\ms.length<=i/\∀y∈ms,y∉ns
 same:zf H H'
 le:i<=n
structure SrD(H:Hp)(x:Addr)(n:Nat)(i:Nat)(τ:L2.St)(ys:List V)(H':Hp):Prop where
 ex:∃t1,τ=[t1,some (.ref x)]
 ys:ys=replicate i (V.bl true)
 same:zf H H'
 le:i<=n
theorem zqP{z:Int}{zs:List Int}:inV (.int z) (zs.map V.int)=decide (z∈zs):=by
 unfold inV
 rw [any_map,Bool.eq_iff_iff]
 simp only [List.any_eq_true,decide_eq_true_eq,Function.comp]
 constructor
 ·rintro ⟨y,hy,h⟩
  have:y=z:=by simpa [eqV] using h
  rw [<- this];exact hy
 ·intro h
  exact ⟨z,h,by simp [eqV]⟩
def zfZ(A:zh):Sp:=λvs H Q _=>∃(x sl fx b k d:Addr)(as:List Addr)(t:Tab)(ks:List (Str×Tab))(ts us:List T3)(n m:Int),vs=[.ref x,.ref sl]/\zav A H x fx b k d t ks ts n m/\H sl=some (.lst (as.map V.ref))/\Paired (zaU H) as us/\us.Perm ts/\(us.map (·.1)).Pairwise (·<=·) /\
 ∀H',zf H H'->Q (.bl true) H'
theorem zbM:zB ["_law_state","_law_spots_here","_law_told","_law_birth_here","_law_stretch","_law_place","_law_own","_law_births","_law_others"] ["_law_state","_law_spots_here"] (zg zbm):=⟨rfl,rfl,rfl,f!"",rfl,f!"",f!""⟩
theorem znO:zaW { kind:=.function,names:=[(Str.ofString ".0",.local),(Str.ofString "_law_one",.local),(Str.ofString "isinstance",.globalImplicit),(Str.ofString "tuple",.globalImplicit)],isGenerator:=false,isCoroutine:=false,more:=[] } (zg zbm).names ["_law_state","_law_spots_here","_law_told","_law_birth_here","_law_stretch","_law_place","_law_own","_law_births","_law_others"] ["_law_one"] [none]=true:=by decide +kernel
theorem zrP:(["_law_one"]:List Str).Nodup:=by decide +kernel
theorem zm1:zaW { kind:=.function,names:=[(Str.ofString ".0",.local),(Str.ofString "_law_one",.local)],isGenerator:=false,isCoroutine:=false,more:=[] } (zg zbm).names ["_law_state","_law_spots_here","_law_told","_law_birth_here","_law_stretch","_law_place","_law_own","_law_births","_law_others"] ["_law_one"] [none]=true:=by decide +kernel
theorem zme:(["_law_one"]:List Str).Nodup:=by decide +kernel
theorem zoF:zaW { kind:=.function,names:=[(Str.ofString ".0",.local),(Str.ofString "_law_birth_here",.local),(Str.ofString "_law_births",.free)],isGenerator:=false,isCoroutine:=false,more:=[] } (zg zbm).names ["_law_state","_law_spots_here","_law_told","_law_birth_here","_law_stretch","_law_place","_law_own","_law_births","_law_others"] ["_law_birth_here","_law_births"] [none,some 7]=true:=by decide +kernel
theorem zno:(["_law_birth_here","_law_births"]:List Str).Nodup:=by decide +kernel
theorem zrM:zaW { kind:=.function,names:=[(Str.ofString ".0",.local),(Str.ofString "_law_birth_here",.local),(Str.ofString "_law_state",.free)],isGenerator:=false,isCoroutine:=false,more:=[] } (zg zbm).names ["_law_state","_law_spots_here","_law_told","_law_birth_here","_law_stretch","_law_place","_law_own","_law_births","_law_others"] ["_law_birth_here","_law_state"] [none,some 0]=true:=by decide +kernel
theorem zti:(["_law_birth_here","_law_state"]:List Str).Nodup:=by decide +kernel
theorem zum{f:Addr}{fd:FuncData}(F:Fun K "_law_spots_right" "_law_spots_right" zbm f fd)(T:Txt K mg A)(M_State_spots:GM P w K mg base true 1 A.State "spots" ["self"] (zfO A))(M_State_spot:GM P w K mg base true 2 A.State "spot" ["self","birth"] (zgN A)):zr P w K mg base CX0 true 4 f fd ["_law_state","_law_spots_here"] (zfZ A):=by
 refine F.ok zbM (λvs H Q E h=>?_) (λcdv Ar outer s H vs Q E hr h=>?_)
 ·obtain ⟨x,sl,fx,b,k,d,as,t,ks,ts,us,n,m,rfl,_⟩:=h;rfl
 ·obtain ⟨x,sl,fx,b,k,d,as,t,ks,ts,us,n,m,rfl,hS,hs,hp,pm,so,q⟩:=h
  have hu:_<cLine:=lt_of_succ_lt (zR hr)
  obtain ⟨dx,e1⟩:=hS.ob
  refine ⟨_,(W.h (zk (zI (i:=2) zbM.nd rfl (Or.inl rfl) (zaF (za 0) T.cl_State M_State_spots hr))
   (zk (z7 (zbF (zcv (za7 (zaV (zP (zhu (K:=K) rfl) rfl T.n_isinstance boot_isinstance (zb (za 2) (zb (zbH rfl T.n_list boot_list (v:=.ty "list") rfl) zd))))) (zcv (zad (zpD (zR hr)) (za 2) (za 1) (zal _)) (zd4 (za7 (zaV (zP (zgZ rfl) rfl T.n_all boot_all (zb (zcc (λ_=>rfl) (zaj.of znO) (za2 (za 2)) (λ_ _ _ _ _=>(zU (i:=0) zrP rfl (Or.inl rfl))) (λ_ _ _ _ _=>zbD) (λ_ _ _ _ _=>(zP (zhu (K:=K) rfl) rfl T.n_isinstance boot_isinstance (zb (za 0) (zb (zbH rfl T.n_tuple boot_tuple (v:=.ty "tuple") rfl) zd))))) zd))))))))
   (zl (zG za5))
   zas)
   (zk (z6 (zgt (za 2) (zbq (zb zj (zb zj (zb zj zd))))))
   (zk (zbi PassesOwn.never (λ_=>rfl) (za2 (za 1)) (zgH (n:=3) (zbh (zU (i:=3) zbM.nd rfl (Or.inl rfl)) (zbh (zU (i:=4) zbM.nd rfl (Or.inl rfl)) (zbh (zU (i:=5) zbM.nd rfl (Or.inl rfl)) zfk))))
   (zk (zI (i:=6) zbM.nd rfl (Or.inl rfl) (zae (za 0) T.cl_State M_State_spot hr (zb (za 3) zd)))
   (zl (z7 (zbF (zcv (za7 (zaV (zP (zhu (K:=K) rfl) rfl T.n_isinstance boot_isinstance (zb (za 6) (zb (zbH rfl T.n_tuple boot_tuple (v:=.ty "tuple") rfl) zd))))) (zd4 (zad (zpq hu) (za 6) (zbq (zb (za 4) (zb (za 5) zd))) (zal _)))))
   (zl (zG za5))
   zas))))
   (zk (zI (i:=7) zbM.nd rfl (Or.inr rfl) (zcc (λ_=>rfl) (zaj.of zm1) (za2 (za 1)) (λ_ _ _ _ _=>(zU (i:=0) zme rfl (Or.inl rfl))) (λ_ _ _ _ _=>zbD) (λ_ _ _ _ _=>(zY zai (za 0) zj (λ_ _=>rfl)))))
   (zk (zjs (i0:=8) zbM.nd rfl (Or.inl rfl) (λ_=>rfl) (zaj.of zoF) (za2 (zK zaA (zab (zb zj zd)) (za 7))) (λ_ _ _ _ _=>(zU (i:=0) zno rfl (Or.inl rfl))) (λ_ _ _ _ _=>(zu7 (zad (znW hu) (zK zaA (za 0) zj) (za 1) rfl))) (λ_ _ _ _ _=>(zK zaA (za 0) zj)))
   (zl (zG (zdd (zP (zgZ rfl) rfl T.n_all boot_all (zb (zcc (λ_=>rfl) (zaj.of zrM) (za2 (za 8)) (λ_ _ _ _ _=>(zU (i:=0) zti rfl (Or.inl rfl))) (λ_ _ _ _ _=>zbD) (λ_ _ _ _ _=>(zg0 zo2 (zae (za 1) T.cl_State M_State_spot hr (zb (za 0) zd)) zeu (zal _)))) zd)) (zdn (zg0 (zpQ (zR hr)) (zaF (za 0) T.cl_State M_State_spots hr) (za 1) (zal _))))))))))))),?_⟩
  simp_all only [e1,zjD]
  refine ⟨x,fx,b,k,d,t,ks,ts,n,m,rfl,hS,λl bs vs H1 s1 nl hl pb pv sv=>?_⟩
  have ev:vs=us:=zhW hS.ok.nd pv sv pm so
  subst ev
  have hp1:Paired (zaU H1) as vs:=Paired.mapP hp λ_ _ e=>s1 _ _ e
  have la:=zaL hp
  have lb:=zaL pb
  have few:vs.length<40:=by rw [pm.length_eq];exact hS.ok.few
  have hs1:=s1 _ _ hs
  try simp_all only []
  refine ⟨_,_,_,_,_,rfl,rfl,.of (.lst hl),rfl,?_⟩
  simp_all only [hl,hs1]
  refine .inr ⟨by rw [length_map,length_map];omega,λ_=>true,λj p q e1 e2=>zhG pb hp1 j p q e1 e2,?_⟩
  rw [if_neg (by simp)]
  refine ⟨⟨_,SqL.of hl⟩,zak.lst (xs:=bs.map V.ref) (SrA H1 vs.length) (λi τ ys H' I=>by rw [I.ys,List.length_replicate];exact zba (by have:=I.le;omega)) (λi τ ys H' I=>SqL.of (I.same _ _ hl)) ⟨⟨_,rfl⟩,rfl,zf.refl _,zero_le _⟩ ?_ ?_⟩
  ·intro N i v τ ys H' hv I hN
   obtain ⟨t1,rfl⟩:=I.ex
   rw [getElem?_map] at hv
   obtain ⟨r,hr',rfl⟩:=map_eq_some_iff.mp hv
   have hi:i<vs.length:=by rw [<- lb];exact (List.getElem?_eq_some_iff.mp hr').1
   have g1:=I.same _ _ (zaD pb hr' (List.getElem?_eq_getElem hi))
   simp_all only []
   exact ⟨_,_,_,_,_,rfl,rfl,.of (.tup g1),rfl,hN _ _ _ ⟨⟨_,rfl⟩,by rw [I.ys,<- List.replicate_succ'],I.same,by omega⟩⟩
  ·intro τ ys H2 I D H3 n3
   rw [zfg]
   refine ⟨replicate _ true,by rw [n3.at_,I.ys,List.map_replicate],?_⟩
   rw [show (replicate (bs.map V.ref).length true).all id=true by simp]
   have s13:zf H1 H3:=I.same.trans n3.same
   have hl3:=s13 _ _ hl
   simp_all only [hl3]
   refine ⟨by decide,λp5 H4 n4=>?_⟩
   have hl4:=n4.same _ _ hl3
   have lsl:sl≠l:=zD hs nl
   have s04:∀o,zf H (upd H4 l o):=λo c u e=>by rw [ze (zD e nl)];exact n4.same _ _ (s13 _ _ (s1 _ _ e))
   simp_all only [hl4]
   generalize HO.lst (bs.map V.ref++[V.ref p5])=o5
   refine ⟨by rw [length_map];exact zba (by omega),⟨_,SqL.of (s04 _ _ _ hs)⟩,zan.lst (xs:=as.map V.ref) (SrI (upd H4 l o5) x sl l) ⟨⟨_,_,_,_,_,_,rfl⟩,zf.refl _⟩ (λi σ H' _ I=>SqL.of (I.same _ _ (s04 _ _ _ hs))) ?_ ?_⟩
   ·rintro i v σ H5 hv ⟨⟨t3,t4,t5,t6,t7,t8,rfl⟩,sm⟩
    rw [getElem?_map] at hv
    obtain ⟨r,hr',rfl⟩:=map_eq_some_iff.mp hv
    have hi:i<vs.length:=by rw [<- la];exact (List.getElem?_eq_some_iff.mp hr').1
    have s05:zf H H5:=(s04 _).trans sm
    have g1:=s05 _ _ (zaD hp hr' (List.getElem?_eq_getElem hi))
    refine ⟨r,_,rfl,SqT.of g1,rfl,?_⟩
    have S5:=hS.same s05
    obtain ⟨dx5,e5⟩:=S5.ob
    simp_all only [e5,zjK]
    have mi:=pm.mem_iff.mp (getElem_mem hi)
    refine ⟨x,fx,b,k,d,t,ks,ts,n,m,_,rfl,S5,λu hu eu a' ha'=>?_,λhn=>absurd rfl (hn vs[i] mi)⟩
    have eu':u=vs[i]:=by rw [<- zcM hS.ok.nd hu,eu,zcM hS.ok.nd mi]
    rw [eu'] at ha'
    refine ⟨_,_,_,_,_,rfl,rfl,.of (.tup ha'),rfl,?_⟩
    simp_all only []
    refine ⟨by decide,λp H6 n6=>?_⟩
    have h6:=n6.same _ _ ha'
    try simp_all only []
    refine ⟨_,_,.inr ⟨h6,n6.at_⟩,rfl,rfl,?_⟩
    rw [show eqL [V.int vs[i].2.1,V.int vs[i].2.2] [V.int vs[i].2.1,V.int vs[i].2.2]=true from zeZ [vs[i].2.1,vs[i].2.2]]
    simp_all only []
    exact ⟨⟨_,_,_,_,_,_,rfl⟩,sm.trans n6.same⟩
   ·rintro σ H5 ⟨⟨t3,t4,t5,t6,t7,t8,rfl⟩,sm⟩
    simp_all only []
    have s05:zf H H5:=(s04 _).trans sm
    have hs5:=s05 _ _ hs
    have lns:(vs.map (·.1)).length=vs.length:=length_map _
    refine ⟨⟨_,SqL.of hs5⟩,zak.lst (xs:=as.map V.ref) (SrB H5 vs) (λi τ ys H' I=>by rw [I.ys,length_map];exact zba (by have:=length_take_le' i (vs.map (·.1));omega)) (λi τ ys H' I=>SqL.of (I.same _ _ hs5)) ⟨⟨_,rfl⟩,rfl,zf.refl _⟩ ?_ ?_⟩
    ·intro N i v τ ys H' hv I hN
     obtain ⟨t1,rfl⟩:=I.ex
     rw [getElem?_map] at hv
     obtain ⟨r,hr',rfl⟩:=map_eq_some_iff.mp hv
     have hi:i<vs.length:=by rw [<- la];exact (List.getElem?_eq_some_iff.mp hr').1
     have g1:=I.same _ _ (s05 _ _ (zaD hp hr' (List.getElem?_eq_getElem hi)))
     have i0:atI [V.int vs[i].1,V.int vs[i].2.1,V.int vs[i].2.2] 0=some (V.int vs[i].1):=rfl
     simp_all only [g1,i0]
     refine hN _ _ _ ⟨⟨_,rfl⟩,?_,I.same⟩
     rw [I.ys,take_add_one,getElem?_map,List.getElem?_eq_getElem hi,map_append];rfl
    ·intro τ ys H6 I D H7 n7
     have ey:ys=(vs.map (·.1)).map V.int:=by rw [I.ys,take_of_length_le (by rw [length_map,length_map];omega)]
     rw [ey] at n7
     have s07:zf H H7:=(s05.trans I.same).trans n7.same
     try simp_all only []
     refine ⟨by decide,λp H8 n8 _=>⟨_,n8.at_,_,n8.same _ _ n7.at_,zex (by simp;omega),λp9 H9 n9=>?_⟩⟩
     have D9:=n9.same _ _ (n8.same _ _ n7.at_)
     have s09:zf H H9:=(s07.trans n8.same).trans n9.same
     try simp_all only []
     have n9a:H9 p9=some (.lst ((0::vs.map λv:T3=>v.1).map V.int)):=n9.at_
     refine ⟨⟨_,SqL.of n9a⟩,zak.lst (xs:=(0::vs.map λv:T3=>v.1).map V.int) (SrC H9 D (vs.map (·.1)) 50) (λi τ ys H' I=>?_) (λi τ ys H' I=>SqL.of (I.same _ _ n9a)) ⟨⟨_,rfl⟩,⟨[],rfl,le_refl _,λy hy=>by cases hy⟩,zf.refl _,zero_le _⟩ ?_ ?_⟩
     ·obtain ⟨ms,e,l1,_⟩:=I.ys
      rw [e,length_map]
      exact zba (by have:=I.le;omega)
     ·intro N i v τ ys H' hv I hN
      obtain ⟨t1,rfl⟩:=I.ex
      obtain ⟨ms,e,l1,hm⟩:=I.ys
      have hi:=(List.getElem?_eq_some_iff.mp hv).1
      rw [length_map,length_cons,lns] at hi
      rw [getElem?_map] at hv
      obtain ⟨z,hz,rfl⟩:=map_eq_some_iff.mp hv
      simp_all only []
      refine ⟨_,.inl (I.same _ _ D9),rfl,zdb,?_⟩
      rw [zqP]
      by_cases hin:z+1∈vs.map (·.1)
      ·rw [decide_eq_true hin]
       simp_all only []
       exact hN _ _ _ ⟨⟨_,rfl⟩,⟨ms,e,by omega,hm⟩,I.same,by omega⟩
      ·rw [decide_eq_false hin]
       simp_all only []
       refine hN _ _ _ ⟨⟨_,rfl⟩,⟨ms++[z+1],by rw [e,map_append];rfl,by rw [length_append];show _+1<=_;omega,λy hy=>?_⟩,I.same,by omega⟩
       rcases mem_append.mp hy with hy|hy
       ·exact hm y hy
       ·have:y=z+1:=by simpa using hy
        rw [this];exact hin
     ·intro τ ys H10 I10 D2 H11 n11
      obtain ⟨ms,e,l1,hm⟩:=I10.ys
      rw [length_map,length_cons,lns] at l1
      rw [e] at n11
      have s011:zf H H11:=(s09.trans I10.same).trans n11.same
      try simp_all only []
      refine ⟨⟨_,SqL.of n11.at_⟩,zak.lst (xs:=ms.map V.int) (SrD H11 x 60) (λi τ ys H' I=>by rw [I.ys,List.length_replicate];exact zba (by have:=I.le;omega)) (λi τ ys H' I=>SqL.of (I.same _ _ n11.at_)) ⟨⟨_,rfl⟩,rfl,zf.refl _,zero_le _⟩ ?_ ?_⟩
      ·intro N i v τ ys H' hv I hN
       obtain ⟨t1,rfl⟩:=I.ex
       have hi:=(List.getElem?_eq_some_iff.mp hv).1
       rw [length_map] at hi
       rw [getElem?_map] at hv
       obtain ⟨z,hz,rfl⟩:=map_eq_some_iff.mp hv
       have S':=hS.same (s011.trans I.same)
       obtain ⟨dx',e'⟩:=S'.ob
       simp_all only [e',zjK]
       refine ⟨x,fx,b,k,d,t,ks,ts,n,m,_,rfl,S',λu hu eu=>absurd (mem_map.mpr ⟨u,pm.mem_iff.mpr hu,eu⟩) (hm z (mem_of_getElem? hz)),λ_=>?_⟩
       simp_all only []
       exact hN _ _ _ ⟨⟨_,rfl⟩,by rw [I.ys,<- List.replicate_succ'],I.same,by omega⟩
      ·intro τ ys H12 I12 D3 H13 n13
       rw [zfg]
       refine ⟨replicate _ true,by rw [n13.at_,I12.ys,List.map_replicate],?_⟩
       rw [show (replicate (ms.map V.int).length true).all id=true by simp]
       have s013:zf H H13:=(s011.trans I12.same).trans n13.same
       have S13:=hS.same s013
       obtain ⟨dx13,e13⟩:=S13.ob
       simp_all only [e13,zjD]
       refine ⟨x,fx,b,k,d,t,ks,ts,n,m,rfl,S13,λl2 cs ws H14 s14 nl2 hl2 pc pw sw=>?_⟩
       have ew:ws=vs:=zhW hS.ok.nd pw sw pm so
       subst ew
       have hs14:=s14 _ _ (s013 _ _ hs)
       have lc:=zaL pc
       simp_all only [hl2,hs14]
       refine .inr ⟨by rw [length_map,length_map];omega,λ_=>true,λj p q e1 e2=>zhG pc (Paired.mapP hp λ_ _ e=>s14 _ _ (s013 _ _ e)) j p q e1 e2,?_⟩
       rw [show (List.range (cs.map V.ref).length).all (λ_=>true)=true by simp]
       exact q _ (s013.trans s14)
end
abbrev zb1:Stmt:=top 32
abbrev zcC:Stmt:=top 33
structure zoK(A:zh)(H:Hp)(x d kd sl nl fx b k sd a:Addr)(X as:List Addr)(t u:Tab)(ks ku:List (Str×Tab))(ts us:List T3)(n m:Int):Prop where
 st:zav A H x fx b k sd t ks ts n m
 pl:zX H a d u
 kp:zaP H a X kd ku
 kx:kd∈X
 dk:d≠kd
 al:z5 t u
 kal:KAl ks ku
 bud:Bud t ks 50
 few:ks.length<=3
 sl:H sl=some (.lst (as.map V.ref))
 pr:Paired (zaU H) as us
 pm:us.Perm ts
 so:(us.map (·.1)).Pairwise (·<=·)
 nl:H nl=some (.lst [.int n,.int m])
def Rt(A:zh)(H:Hp)(x d kd sl nl:Addr):Prop:=∃fx b k sd a X as t u ks ku ts us n m,zoK A H x d kd sl nl fx b k sd a X as t u ks ku ts us n m
theorem Rt.same{A:zh}{H H':Hp}{x d kd sl nl:Addr}(h:Rt A H x d kd sl nl)(s:zf H H'):Rt A H' x d kd sl nl:=by
 obtain ⟨fx,b,k,sd,a,X,as,t,u,ks,ku,ts,us,n,m,R⟩:=h
 exact ⟨fx,b,k,sd,a,X,as,t,u,ks,ku,ts,us,n,m,R.st.same s,R.pl.same s,R.kp.same s,R.kx,R.dk,R.al,R.kal,R.bud,R.few,s _ _ R.sl,Paired.mapP R.pr λ_ _ e=>s _ _ e,R.pm,R.so,s _ _ R.nl⟩
section
variable {P:Program}{w:World}{K:Frag}{mg:Str->Option Value}{base:Heap}{A:zh}
structure RiA(H:Hp)(xs:List Int)(i:Nat)(τ:L2.St)(ys:List V)(H':Hp):Prop where
 ex:∃t1,τ=[t1]
 ys:ys=replicate i (V.bl true)
 same:zf H H'
 le:i<=2
def zfp(A:zh):Sp:=λvs H Q _=>∃(x d kd sl nl:Addr),vs=[.ref x,.ref d,.ref kd,.ref sl,.ref nl]/\Rt A H x d kd sl nl/\∀H',zf H H'->Q (.bl true) H'
theorem ziB:zB ["_law_state","_law_plain","_law_kept","_law_spots_here","_law_numbers","_law_told"] ["_law_state","_law_plain","_law_kept","_law_spots_here","_law_numbers"] (zg zb1):=⟨rfl,rfl,rfl,f!"",rfl,f!"",f!""⟩
theorem znS:zaW { kind:=.function,names:=[(Str.ofString ".0",.local),(Str.ofString "_law_number",.local),(Str.ofString "_law_is_whole",.globalImplicit)],isGenerator:=false,isCoroutine:=false,more:=[] } (zg zb1).names ["_law_state","_law_plain","_law_kept","_law_spots_here","_law_numbers","_law_told"] ["_law_number"] [none]=true:=by decide +kernel
theorem zmp:(["_law_number"]:List Str).Nodup:=by decide +kernel
theorem zu6{f:Addr}{fd:FuncData}(F:Fun K "_law_right" "_law_right" zb1 f fd)(T:Txt K mg A)(M_State_next_number:GM P w K mg base true 1 A.State "next_number" ["self"] (zf9 A))(M_State_mark_number:GM P w K mg base true 1 A.State "mark_number" ["self"] (zfP A))(Gr:GF P w K mg base true 1 "_law_is_whole" ["_law_thing"] zhl)(M_State_files:GM P w K mg base true 5 A.State "files" ["self"] (zdT A))(Gs:GF P w K mg base true 6 "_law_same" ["_law_files_here","_law_plain","_law_kept"] (zge A))(Gu:GF P w K mg base true 4 "_law_spots_right" ["_law_state","_law_spots_here"] (zfZ A)):zr P w K mg base CX0 true 7 f fd ["_law_state","_law_plain","_law_kept","_law_spots_here","_law_numbers"] (zfp A):=by
 refine F.ok ziB (λvs H Q E h=>?_) (λcdv Ar outer s H vs Q E hr h=>?_)
 ·obtain ⟨x,d,kd,sl,nl,rfl,_⟩:=h;rfl
 ·obtain ⟨x,d,kd,sl,nl,rfl,⟨fx,b,k,sd,a,X,as,t,u,ks,ku,ts,us,n,m,R⟩,q⟩:=h
  have hu:_<cLine:=lt_of_succ_lt (zR hr)
  obtain ⟨dx,e1⟩:=R.st.ob
  refine ⟨_,(W.h (zk (zI (i:=5) ziB.nd rfl (Or.inl rfl) (zab (zb (zaF (za 0) T.cl_State M_State_next_number hr) (zb (zaF (za 0) T.cl_State M_State_mark_number hr) zd))))
   (zk (z7 (zbF (zcv (zad (zdI hu) (za 5) (za 4) (zal _)) (zd4 (za7 (zaV (zP (zgZ rfl) rfl T.n_all boot_all (zb (zcc (λ_=>rfl) (zaj.of znS) (za2 (za 5)) (λ_ _ _ _ _=>(zU (i:=0) zmp rfl (Or.inl rfl))) (λ_ _ _ _ _=>zbD) (λ_ _ _ _ _=>(zC Gr hr rfl (zb (za 0) zd)))) zd)))))))
   (zl (zG za5))
   zas)
   (zl (zG (zdd (zC Gs hr rfl (zb (zaF (za 0) T.cl_State M_State_files hr) (zb (za 1) (zb (za 2) zd)))) (zdn (zC Gu hr rfl (zb (za 0) (zb (za 3) zd)))))))))),?_⟩
  simp_all only [e1,zkb,zke]
  refine ⟨x,fx,b,k,sd,t,ks,ts,n,m,rfl,R.st,?_⟩
  try simp_all only [e1,zkb,zke]
  refine ⟨x,fx,b,k,sd,t,ks,ts,n,m,rfl,R.st,?_⟩
  try simp_all only []
  refine ⟨by decide,λp H1 n1 _=>⟨_,n1.at_,_,n1.same _ _ R.nl,rfl,rfl,?_⟩⟩
  rw [show eqL [V.int n,V.int m] [V.int n,V.int m]=true from zeZ [n,m]]
  try simp_all only []
  refine ⟨⟨_,SqL.of n1.at_⟩,zak.lst (xs:=[n,m].map V.int) (RiA H1 [n,m]) (λi τ ys H' I=>by rw [I.ys,List.length_replicate];exact zba (by have:=I.le;omega)) (λi τ ys H' I=>SqL.of (I.same _ _ n1.at_)) ⟨⟨_,rfl⟩,rfl,zf.refl _,zero_le _⟩ ?_ ?_⟩
  ·intro N i v τ ys H' hv I hN
   obtain ⟨t1,rfl⟩:=I.ex
   have hi:=(List.getElem?_eq_some_iff.mp hv).1
   rw [length_map] at hi
   rw [getElem?_map] at hv
   obtain ⟨z,hz,rfl⟩:=map_eq_some_iff.mp hv
   simp_all only []
   exact ⟨z,rfl,hN _ _ _ ⟨⟨_,rfl⟩,by rw [I.ys,<- List.replicate_succ'],I.same,hi⟩⟩
  ·intro τ ys H2 I D H3 n3
   rw [zfg]
   refine ⟨replicate _ true,by rw [n3.at_,I.ys,List.map_replicate],?_⟩
   rw [show (replicate ([n,m].map V.int).length true).all id=true by simp]
   have s3:zf H H3:=(n1.same.trans I.same).trans n3.same
   have S3:=R.st.same s3
   obtain ⟨dx3,e3⟩:=S3.ob
   simp_all only [e3,zhE]
   refine ⟨x,fx,b,k,sd,t,ks,ts,n,m,rfl,S3,λq' b' k' H4 s4 nq nb nk F4 _=>?_⟩
   have s04:=s3.trans s4
   try simp_all only []
   refine ⟨q',b',k',d,kd,a,X,t,u,ks,ku,rfl,F4,R.pl.same s04,R.kp.same s04,R.kx,R.dk,R.al,R.kal,R.bud,R.few,λH5 s5=>?_⟩
   have s05:=s04.trans s5
   try simp_all only []
   exact ⟨x,sl,fx,b,k,sd,as,t,ks,ts,us,n,m,rfl,R.st.same s05,s05 _ _ R.sl,Paired.mapP R.pr λ_ _ e=>s05 _ _ e,R.pm,R.so,λH6 s6=>q _ (s05.trans s6)⟩
def zfJ:Sp:=λvs H Q _=>vs=[]/\∀H',Q (.bl true) H'
theorem rt0{H:Hp}{x d kd sl nl fx b k sd:Addr}(hS:zav A H x fx b k sd [] [] [] 0 0)(hd:H d=some (.dK []))(hk:H kd=some (.dK []))(n:d≠kd)(hs:H sl=some (.lst []))(hn:H nl=some (.lst [.int 0,.int 0])):Rt A H x d kd sl nl :=
 ⟨fx,b,k,sd,d,[kd],[],[],[],[],[],[],[],0,0,hS,⟨⟨[],hd,.nil⟩,by simp [names]⟩,⟨⟨[],hk,.nil⟩,by simp [names]⟩,by simp,n,λ_=>rfl,λ_=>.inr ⟨rfl,rfl⟩,⟨zero_le _,λn=>by simp [lk,look],⟨[],zero_le _,λy hy=>by simp [zag,zA] at hy⟩,λn l e=>by simp [look] at e,λp hp=>by cases hp⟩,zero_le _,hs,.nil,.nil,.nil,hn⟩
theorem rtN{H5 H6 H7 H8 H9:Hp}{x fx b k sd p p1 p2 p3:Addr}(S5:zav A H5 x fx b k sd [] [] [] 0 0)(n6:New H5 p (.dK []) H6)(n7:New H6 p1 (.dK []) H7)(n8:New H7 p2 (.lst []) H8)(n9:New H8 p3 (.lst [.int 0,.int 0]) H9):Rt A H9 x p p1 p2 p3 :=
 rt0 (S5.same (((n6.same.trans n7.same).trans n8.same).trans n9.same)) (n9.same _ _ (n8.same _ _ (n7.same _ _ n6.at_))) (n9.same _ _ (n8.same _ _ n7.at_)) (λz=>by have:=n7.no;rw [<- z,n6.at_] at this;cases this) (n9.same _ _ n8.at_) n9.at_
theorem zgj:zB ["_law_state","_law_files_here"] [] (zg zcC):=⟨rfl,rfl,rfl,f!"",rfl,f!"",f!""⟩
theorem zm2{f:Addr}{fd:FuncData}(F:Fun K "_law_first_right" "_law_first_right" zcC f fd)(T:Txt K mg A)(Gk:GF P w K mg base true 7 "first_state" [] (zfU A))(M_State_files:GM P w K mg base true 5 A.State "files" ["self"] (zdT A))(M_Files_put:GM P w K mg base true 4 A.Files "put" ["self","file","place","birth"] (zcr A))(M_Files_hold:GM P w K mg base true 5 A.Files "hold" ["self","name"] (zdG A))(Gf:GF P w K mg base true 7 "_law_right" ["_law_state","_law_plain","_law_kept","_law_spots_here","_law_numbers"] (zfp A)):zr P w K mg base CX0 true 8 f fd [] zfJ:=by
 refine F.ok zgj (λvs H Q E h=>?_) (λcdv Ar outer s H vs Q E hr h=>?_)
 ·obtain ⟨rfl,_⟩:=h;rfl
 ·obtain ⟨rfl,q⟩:=h
  refine ⟨_,(W.h (zk (zI (i:=0) zgj.nd rfl (Or.inl rfl) (zgm Gk hr rfl))
   (zk (zI (i:=1) zgj.nd rfl (Or.inl rfl) (zaF (za 0) T.cl_State M_State_files hr))
   (zk (z6 (zae (za 1) T.cl_Files M_Files_put hr (zb zaz (zb zj (zb zj zd)))))
   (zk (z6 (zae (za 1) T.cl_Files M_Files_hold hr (zb zaz zd)))
   (zl (zG (zdd (zC Gf hr rfl (zb (za 0) (zb zbe (zb zbe (zb (zab zd) (zb (zab (zb zj (zb zj zd))) zd)))))) (zdn (zC Gf hr rfl (zb (zgm Gk hr rfl) (zb zbe (zb zbe (zb (zab zd) (zb (zab (zb zj (zb zj zd))) zd))))))))))))))),?_⟩
  simp_all only []
  refine ⟨rfl,λx fx b k d H1 s1 nx nfx nb nk nd S1=>?_⟩
  obtain ⟨dx1,e1⟩:=S1.ob
  simp_all only [e1,zhE]
  refine ⟨x,fx,b,k,d,[],[],[],0,0,rfl,S1,λp b' k' H2 s2 np nb' nk' F2 _=>?_⟩
  obtain ⟨dx2,e2⟩:=F2.ob
  simp_all only [e2,zee]
  refine ⟨p,b',k',[],[],"a",0,7,rfl,F2,by decide,by decide,by decide,by decide,λH3 b3 F3=>?_⟩
  obtain ⟨dx3,e3⟩:=F3.ob
  simp_all only [e3,zeX]
  refine ⟨p,b',k',_,[],"b",rfl,F3,rfl,by decide,λH4 b4 F4 _=>?_⟩
  have s14:zf H1 H4:=λc o e=>b4 _ _ (zD e nk') (b3 _ _ (zD e nb') (s2 _ _ e))
  have S4:=S1.same s14
  refine λp1 H5 n5 p2 H6 n6=>⟨by decide,λp3 H7 n7 _=>⟨by decide,λp4 H8 n8 _=>⟨x,p1,p2,p3,p4,rfl,rtN S4 n5 n6 n7 n8,λH9 s9=>?_⟩⟩⟩
  try simp_all only []
  refine ⟨rfl,λx2 fx2 b2 k2 d2 H10 s10 _ _ _ _ _ S10=>?_⟩
  try simp_all only []
  exact λp5 H11 n11 p6 H12 n12=>⟨by decide,λp7 H13 n13 _=>⟨by decide,λp8 H14 n14 _=>⟨x2,p5,p6,p7,p8,rfl,rtN S10 n11 n12 n13 n14,λH15 _=>q H15⟩⟩⟩
end
abbrev zbv:Stmt:=top 35
theorem zq.avb{A:zh}{H H':Hp}{p b k k1:Addr}{t:Tab}{ks:List (Str×Tab)}(h:zq A H p b k t ks)(e:H' k1=H k)(s:zf H H'):zM A H' k1 b:=by
 obtain ⟨kk,e2,d2⟩:=h.kept
 intro kvs hk pv hpv q b' k' dx ev eq
 rw [e,e2] at hk
 cases hk
 unfold sk at hpv
 obtain ⟨p',hp',rfl⟩:=mem_map.mp hpv
 obtain ⟨j,hj,ej⟩:=getElem_of_mem hp'
 obtain ⟨a2,_,q2,b2,k2,ev2,hB2,n1,n2,n3,n4⟩:=Dct.at d2 (List.getElem?_eq_getElem hj)
 have ev:p'.2 = .ref q:=ev
 rw [ej,ev] at ev2
 cases ev2
 obtain ⟨dx2,e22⟩:=hB2.ob
 rw [s _ _ e22] at eq
 injection eq with eq
 injection eq with _ _ eq
 obtain ⟨r1,r2⟩:=zdB eq
 subst r1 r2
 exact ⟨n1,n3⟩
theorem zav.spoil{A:zh}{H H':Hp}{x fx b k d c:Addr}{t:Tab}{ks:List (Str×Tab)}{ts:List T3}{n m:Int}{kv:List (Key×V)}(h:zav A H x fx b k d t ks ts n m)(s:∀y o,y≠c->(∀xs,o≠.lst xs)->H y=some o->H' y=some o)(hc:H c=some (.dK kv))(n1:b≠c)(n2:k≠c)(n3:d≠c)(av:zM A H k c):zav A H' x fx b k d t ks ts n m:=by
 have sG:∀y o,(∀xs,o≠.lst xs)->H y=some o->(λy=>if y=c then H c else H' y) y=some o:=λy o ho e=>by
  show (if y=c then H c else H' y)=_
  by_cases z:y=c
  ·rw [if_pos z,<- z];exact e
  ·rw [if_neg z];exact s y o z ho e
 have bG:But c (λy=>if y=c then H c else H' y) H':=λy o z e=>by
  have e:(if y=c then H c else H' y)=_:=e
  rw [if_neg z] at e
  exact e
 have FG:=h.files.nl sG
 have aG:zM A (λy=>if y=c then H c else H' y) k c:=av.keep h.files (λ_ e=>sG _ _ (λ_ z=>HO.noConfusion z) e) λe=>sG _ _ (λ_ z=>HO.noConfusion z) e
 have cG:(λy=>if y=c then H c else H' y) c=some (.dK kv):=sG _ _ (λ_ z=>HO.noConfusion z) hc
 obtain ⟨dx,e⟩:=h.ob
 obtain ⟨kvs,e2,p⟩:=h.spots
 exact ⟨⟨dx,s _ _ (λz=>by rw [z,hc] at e;cases e) (λ_ z=>HO.noConfusion z) e⟩,(FG.dic aG bG cG n1 n2).1,⟨kvs,s _ _ n3 (λ_ z=>HO.noConfusion z) e2,Paired.mapP p λ_ _ r=>r.keep λ_ _ e=>s _ _ (λz=>by rw [z,hc] at e;cases e) (λ_ z=>HO.noConfusion z) e⟩,h.ok⟩
theorem SqL.sm{K:Frag}{H H':Hp}{a:Addr}{xs:List V}(h:SqL K H a xs)(s:zf H H'):SqL K H' a xs:=by
 rcases h with (h|⟨o,h⟩)|h
 ·exact .inl (.inl (s _ _ h))
 ·exact .inl (.inr ⟨o,s _ _ h⟩)
 ·exact .inr h
theorem Bud.mono{t:Tab}{ks:List (Str×Tab)}{B C:Nat}(h:Bud t ks B)(l:B<=C):Bud t ks C :=
 let ⟨L,hL,hm⟩:=h.live;⟨le_trans h.few l,λn=>le_trans (h.row n) l,⟨L,le_trans hL l,hm⟩,h.ne,λp hp=>⟨le_trans (h.old p hp).1 l,λm=>le_trans ((h.old p hp).2 m) l⟩⟩
def Eld(A:zh)(H:Hp)(v:V):Prop:=v = .non\/∃e x d kd sl nl,v = .ref e/\H e=some (.tup [.ref x,.ref d,.ref kd,.ref sl,.ref nl])/\Rt A H x d kd sl nl
theorem Eld.same{A:zh}{H H':Hp}{v:V}(h:Eld A H v)(s:zf H H'):Eld A H' v:=by
 rcases h with h|⟨e,x,d,kd,sl,nl,ev,he,r⟩
 ·exact .inl h
 ·exact .inr ⟨e,x,d,kd,sl,nl,ev,s _ _ he,r.same s⟩
theorem zmN{a b c d e:V}:atI [a,b,c,d,e] 0=some a:=rfl
theorem zpr{a b c d e:V}:atI [a,b,c,d,e] 1=some b:=rfl
theorem zvc{a b c d e:V}:atI [a,b,c,d,e] 2=some c:=rfl
theorem zup{a b c d e:V}:atI [a,b,c,d,e] 3=some d:=rfl
theorem zuE{a b c d e:V}:atI [a,b,c,d,e] 4=some e:=rfl
section
variable {P:Program}{w:World}{K:Frag}{mg:Str->Option Value}{base:Heap}{A:zh}
structure LwI(A:zh)(H0:Hp)(sc:Addr)(i:Nat)(σ:L2.St)(H':Hp):Prop where
 ex:∃v t2 t3 t4 t5 t6 t7 t8 t9 t10 t11,σ=[some (.ref sc),some v,t2,t3,t4,t5,t6,t7,t8,t9,t10,t11]/\Eld A H' v
 same:zf H0 H'
def ze3(K:Frag):Sp:=λvs H Q _=>∃(a:Addr)(ns:List Int),vs=[.ref a]/\SqL K H a (ns.map V.int)/\ns.length<=63/\∀H',Q (.bl true) H'
structure Mk(A:zh)(H0 H':Hp)(a x fx b1 k1 sd k:Addr)(t:Tab)(ks:List (Str×Tab))(ws:List T3)(n m:Int):Prop where
 but:But a H0 H'
 st:zav A H' x fx b1 k1 sd t ks ws n m
 f1:H0 b1=none
 f2:H0 k1=none
 f3:H0 sd=none
 av:∀b p,zq A H0 p b k t ks->zM A H' k1 b
theorem zaN:zB ["_law_script","_law_elder","_law_k","_law_pot_here","_law_files_here","_law_plain","_law_kept","_law_spots_here","_law_handed_here","_law_numbers","_law_state","_law_told"] ["_law_script"] (zg zbv):=⟨rfl,rfl,rfl,f!"",rfl,f!"",f!""⟩
theorem zmU{f:Addr}{fd:FuncData}(F:Fun K "law" "law" zbv f fd)(T:Txt K mg A)(Gv:GF P w K mg base true 2 "_law_pot" ["_law_script","_law_k"] (zgf K))(Gw:GF P w K mg base true 9 "_law_files" ["_law_pot_here"] (zhw A))(Gx:GF P w K mg base true 2 "_law_spots" ["_law_pot_here","_law_plain","_law_kept"] zhx)(Gy:GF P w K mg base true 2 "_law_handed" ["_law_pot_here","_law_spots_here"] zgI)(Gz:GF P w K mg base true 2 "_law_above" ["_law_pot_here","_law_spots_here"] zhh)(Gb:GF P w K mg base true 1 "_law_draw" ["_law_pot_here","_law_many"] za6)(Gg:GC P w K mg base true 5 "State" A.State ["self","files","spots","next_number","mark_number"] (zdX A))(Gf:GF P w K mg base true 7 "_law_right" ["_law_state","_law_plain","_law_kept","_law_spots_here","_law_numbers"] (zfp A))(GA:GF P w K mg base true 5 "_law_spoil_handed" ["_law_handed_here","_law_files_here"] (zfS A))(M_State_files:GM P w K mg base true 5 A.State "files" ["self"] (zdT A))(M_Files_put:GM P w K mg base true 4 A.Files "put" ["self","file","place","birth"] (zcr A))(M_Files_hold:GM P w K mg base true 5 A.Files "hold" ["self","name"] (zdG A))(GB:GF P w K mg base true 8 "_law_first_right" [] zfJ):zr P w K mg base CX0 true 11 f fd ["_law_script"] (ze3 K):=by
 refine F.ok zaN (λvs H Q E h=>?_) (λcdv Ar outer s H vs Q E hr h=>?_)
 ·obtain ⟨a,ns,rfl,_⟩:=h;rfl
 ·obtain ⟨sc,ns,rfl,hS,hl,q⟩:=h
  have hu:_<cLine:=lt_of_succ_lt (zR hr)
  refine ⟨_,(W.h (zk (zI (i:=1) zaN.nd rfl (Or.inl rfl) zeu)
   (zk (zbi PassesOwn.never (λ_=>rfl) (zfl rfl T.n_range (zb (zP (zg4 rfl) rfl T.n_max boot_max (zb zj (zb (zP (zk7 rfl) rfl T.n_min boot_min (zb (zP zfx rfl T.n_len PySem.boot_len (zb (za 0) zd)) (zb zj zd))) zd))) zd)) (zU (i:=2) zaN.nd rfl (Or.inl rfl))
   (zk (zI (i:=3) zaN.nd rfl (Or.inl rfl) (zC Gv hr rfl (zb (za 0) (zb (za 2) zd))))
   (zk (zbs (zC Gw hr rfl (zb (za 3) zd)) (zgH (n:=3) (zbh (zU (i:=4) zaN.nd rfl (Or.inl rfl)) (zbh (zU (i:=5) zaN.nd rfl (Or.inl rfl)) (zbh (zU (i:=6) zaN.nd rfl (Or.inl rfl)) zfk)))))
   (zk (zI (i:=7) zaN.nd rfl (Or.inl rfl) (zC Gx hr rfl (zb (za 3) (zb (za 5) (zb (za 6) zd)))))
   (zk (zI (i:=8) zaN.nd rfl (Or.inl rfl) (zC Gy hr rfl (zb (za 3) (zb (za 7) zd))))
   (zk (zI (i:=9) zaN.nd rfl (Or.inl rfl) (zab (zb (zC Gz hr rfl (zb (za 3) (zb (za 7) zd))) (zb (zC Gb hr rfl (zb (za 3) (zb (zY zai (zab (zb zj (zb (zK ze4 zj zj) zd))) (zC Gb hr rfl (zb (za 3) (zb zj zd))) (λ_ _=>rfl)) zd))) zd))))
   (zk (zod (z7 (zad (zd3 hu) (zC Gb hr rfl (zb (za 3) (zb zj zd))) zj (zal _))
   (zl (zI (i:=10) zaN.nd rfl (Or.inl rfl) (zhA Gg hr rfl (zb (za 4) (zb (zbw zos rfl T.n_tuple boot_tuple (zb (za 8) zd)) (zb (zY zai (za 9) zj (λ_ _=>rfl)) (zb (zY zai (za 9) zj (λ_ _=>rfl)) zd)))))))
   (zl (zI (i:=10) zaN.nd rfl (Or.inl rfl) (zhA Gg hr rfl (zb (za 4) (zb (za 8) (zb (zY zai (za 9) zj (λ_ _=>rfl)) (zb (zY zai (za 9) zj (λ_ _=>rfl)) zd)))))))))
   (zk (z7 (za7 (zaV (zC Gf hr rfl (zb (za 10) (zb (za 5) (zb (za 6) (zb (za 7) (zb (za 9) zd))))))))
   (zl (zG za5))
   zas)
   (zk (z6 (zC GA hr rfl (zb (za 8) (zb (za 4) zd))))
   (zk (zI (i:=11) zaN.nd rfl (Or.inl rfl) (zaF (za 10) T.cl_State M_State_files hr))
   (zk (z6 (zae (za 11) T.cl_Files M_Files_put hr (zb zaz (zb zj (zb zj zd)))))
   (zk (z6 (zae (za 11) T.cl_Files M_Files_hold hr (zb zaz zd)))
   (zk (z7 (za7 (zaV (zC Gf hr rfl (zb (za 10) (zb (za 5) (zb (za 6) (zb (za 7) (zb (za 9) zd))))))))
   (zl (zG za5))
   zas)
   (zk (z7 (zbF (zet (zad zpt (za 1) zeu (zal _)) (zfr (za7 (zaV (zC Gf hr rfl (zb (zY zai (za 1) zj (λ_ _=>rfl)) (zb (zY zai (za 1) zj (λ_ _=>rfl)) (zb (zY zai (za 1) zj (λ_ _=>rfl)) (zb (zY zai (za 1) zj (λ_ _=>rfl)) (zb (zY zai (za 1) zj (λ_ _=>rfl)) zd)))))))))))
   (zl (zG za5))
   zas)
   (zl (zI (i:=1) zaN.nd rfl (Or.inl rfl) (zbq (zb (za 10) (zb (za 5) (zb (za 6) (zb (za 7) (zb (za 9) zd))))))))))))))))))))))
   (zl (zG (zgm GB hr rfl)))))),?_⟩
  simp_all only []
  refine ⟨_,.inl hS,?_⟩
  rw [length_map]
  have hN:∃N:Nat,(if (if 3<(ns.length:Int) then 3 else (ns.length:Int))>1 then if 3<(ns.length:Int) then 3 else (ns.length:Int) else 1)=(N:Int)/\N<=3:=by
   by_cases h1:3<(ns.length:Int)
   ·rw [if_pos h1];exact ⟨3,rfl,by decide⟩
   ·rw [if_neg h1]
    split
    ·exact ⟨ns.length,rfl,by omega⟩
    ·exact ⟨1,rfl,by decide⟩
  obtain ⟨N,eN,hN3⟩:=hN
  rw [eN,toNat_natCast]
  refine ⟨by omega,by omega,zan.rng (LwI A H sc) ⟨⟨_,_,_,_,_,_,_,_,_,_,_,rfl,.inl rfl⟩,zf.refl _⟩ ?_ ?_⟩
  ·rintro i σ H0 hi ⟨⟨v,t2,t3,t4,t5,t6,t7,t8,t9,t10,t11,rfl,El⟩,s0⟩
   have ej:(0+(i:Int))=((i:Nat):Int):=by omega
   simp_all only [ej]
   refine ⟨sc,ns,i,rfl,(SqL.sm hS s0),by omega,λa H1 s1 a0 hP1=>?_⟩
   try simp_all only []
   refine ⟨a,rfl,hP1,λtp p d kd b k t u ks ku B H2 b2 htp R2 hB np nb nk nd nkd=>?_⟩
   refine ⟨tp,_,rfl,SqT.of htp,rfl,?_⟩
   have mem:=zh2 R2.al R2.files.births.nd R2.plain.nd R2.kal R2.files.ndk R2.kept.nd R2.kept.nds
   have hq1:=R2.bud.uniq
   have hq2:(uniq (zag u ku)).length<=B:=le_trans (zeB zdm λy hy=>zb4.mpr ((mem y).mpr (zb4.mp hy))) hq1
   have klen:=R2.kal.len R2.files.ndk R2.kept.nd
   have few2:=R2.few
   simp_all only []
   refine ⟨a,d,kd,_,u,ku,rfl,R2.pot,R2.plain,R2.kept,by omega,by omega,λsl as ts H3 b3 P3 nsl hsl pts pm so=>?_⟩
   have lts:ts.length<=B:=by have:=pm.length_eq;rw [length_map] at this;omega
   try simp_all only []
   refine ⟨a,sl,as,ts,rfl,P3,hsl,pts,by omega,λl fs ws H4 b4 P4 nl hl pws pmw nw lfs=>?_⟩
   have sla:sl≠a:=R2.pot.ne nsl
   have hsl4:=b4 _ _ sla hsl
   have tupa:∀{H':Hp}{r:Addr}{xs:List V},Pot H' a->H' r=some (.tup xs)->r≠a:=λ{H' r xs} P e z=>by obtain ⟨_,_,ea,_⟩:=P.ex;rw [z,ea] at e;cases e
   have pts4:Paired (zaU H4) as ts:=Paired.mapP pts λr tt e=>b4 _ _ (tupa P3 e) e
   try simp_all only []
   refine ⟨a,sl,as,ts,rfl,P4,hsl4,pts4,by omega,λz H5 b5 P5=>?_⟩
   refine ⟨⟨by decide,by decide,by decide⟩,by decide,λp6 H6 n6 _=>?_⟩
   have P6:=P5.same n6.same
   refine ⟨a,2,rfl,P6,by decide,by decide,λr7 H7 b7 P7 r70 r71=>?_⟩
   have h7:=b7 _ _ (P5.ne n6.no) n6.at_
   obtain ⟨v7,ev7,hv7⟩:=zdz (xs:=[V.int 4,.int (10 ^ 17)]) r70 (by simpa using r71)
   obtain ⟨m7,rfl,m70,m71⟩:∃m7:Int,v7 = .int m7/\0<m7/\m7<2 ^ 64:=by
    simp only [mem_cons,not_mem_nil,or_false] at hv7
    rcases hv7 with rfl|rfl
    ·exact ⟨_,rfl,by decide,by decide⟩
    ·exact ⟨_,rfl,by decide,by decide⟩
   try simp_all only []
   refine ⟨_,.inl h7,_,ev7,a,m7,rfl,P7,m70,m71,λz8 H8 b8 P8 _ _=>⟨by decide,λnl9 H9 n9 _=>?_⟩⟩
   have P9:=P8.same n9.same
   have b49:But a H4 H9:=(((b5.trans (.of n6.same)).trans b7).trans b8).trans (.of n9.same)
   have b29:But a H2 H9:=(b3.trans b4).trans b49
   have F9:=R2.files.pot b29 R2.pot
   have la:l≠a:=P3.ne nl
   have hl9:=b49 _ _ la hl
   have na9:nl9≠a:=P8.ne n9.no
   have lws:=zaL pws
   have lwt:=pmw.length_eq
   have okw:zgT ws:=⟨((pmw.map (·.1)).trans pm).nodup_iff.mpr zdm,by omega⟩
   have fsa:∀x∈fs,x≠a:=λx hx z=>by
    obtain ⟨j,hj,ej⟩:=getElem_of_mem hx
    have hj':j<ws.length:=by omega
    obtain ⟨_,_,ea,_⟩:=P4.ex
    rcases zaD pws (List.getElem?_eq_getElem hj) (List.getElem?_eq_getElem hj') with h|h
    ·rw [ej,z,ea] at h;cases h
    ·rw [ej,z,ea] at h;cases h
   have pws9:Paired (T3S H9) fs ws:=zhy pws λx hx ww h=>h.imp (b49 _ _ (fsa x hx)) (b49 _ _ (fsa x hx))
   simp_all only [zt7]
   refine ⟨λσ' H'=>∃x fx b1 k1 sd,σ'=[some (.ref sc),some v,some (.int i),some (.ref a),some (.ref p),some (.ref d),some (.ref kd),some (.ref sl),some (.ref l),some (.ref nl9),some (.ref x),t11]/\Mk A H9 H' a x fx b1 k1 sd k t ks ws z z8,?_,?_⟩
   ·try simp_all only []
    refine ⟨a,2,rfl,P9,by decide,by decide,λr H10 b10 P10 r0 r1=>?_⟩
    have F10:=F9.pot b10 P9
    have hl10:=b10 _ _ la hl9
    have nl10:=b10 _ _ na9 n9.at_
    have pws10:Paired (T3S H10) fs ws:=zhy pws9 λx hx ww h=>h.imp (b10 _ _ (fsa x hx)) (b10 _ _ (fsa x hx))
    simp_all only [nl10,zd5,zdA]
    have mkS:∀(H11:Hp)(sl':Addr),zf H10 H11->(H11 sl'=some (.lst (fs.map V.ref))\/H11 sl'=some (.tup (fs.map V.ref)))->∀(x dx:Addr)(H12:Hp),zd8 H11 A.State x dx H12->zdX A [.ref x,.ref p,.ref sl',.int z,.int z8] H12 (λv H3=>v=V.non/\∃x_1 x_2 x_3 x_4,Mk A H9 H3 a x x_1 x_2 x_3 x_4 k t ks ws z z8) E0:=by
     intro H11 sl' s11 hsl' x dx H12 nI
     refine ⟨x,p,b,k,sl',dx,z,z8,t,ks,fs,ws,rfl,nI.at_,F10.same (s11.trans nI.same),hsl'.imp (nI.same _ _) (nI.same _ _),Paired.mapP pws10 λr tt e=>e.imp (λe=>nI.same _ _ (s11 _ _ e)) (λe=>nI.same _ _ (s11 _ _ e)),okw,λfx b1 k1 sd H13 b13 f0 f1 f2 f3 st ek=>⟨rfl,fx,b1,k1,sd,?_⟩⟩
     have s13:zf H10 H13:=λc o e=>b13 _ _ (zD (s11 _ _ e) nI.no) (nI.same _ _ (s11 _ _ e))
     have fr:∀c,H12 c=none->H9 c=none:=λc h=>by
      cases e:H9 c with
      | none=>rfl
      | some o =>
       by_cases ca:c=a
       ·obtain ⟨_,_,ea,_⟩:=P10.ex
        rw [ca,nI.same _ _ (s11 _ _ ea)] at h;cases h
       ·rw [nI.same _ _ (s11 _ _ (b10 _ _ ca e))] at h;cases h
     refine ⟨b10.trans (.of s13),st,fr _ f1,fr _ f2,fr _ f3,λb' p' F'=>?_⟩
     have F'10:=F'.pot b10 P9
     obtain ⟨_,kv,ekv⟩:=F'10.dicts
     exact F'10.avb (by rw [ek,nI.same _ _ (s11 _ _ ekv),ekv]) s13
    refine zdx (λ_=>⟨_,hl10,λl2 H11 n11=>?_⟩) (λ_=>?_)
    ·have nl11:=n11.same _ _ nl10
     exact ⟨_,.inl nl11,_,zd5,_,.inl nl11,_,zdA,mkS H11 l2 n11.same (.inr n11.at_)⟩
    ·exact mkS H10 l (zf.refl _) (.inl hl10)
   ·rintro σ' H11 ⟨x,fx,b1,k1,sd,rfl,M⟩
    simp_all only []
    have R3:=R2.potB b3 P3
    obtain ⟨⟨kvb,eb3⟩,_⟩:=R3.files.dicts
    obtain ⟨⟨kvb9,eb9⟩,kvk9,ek9⟩:=F9.dicts
    have Rt_of:∀H',zav A H' x fx b1 k1 sd t ks ws z z8->(∀c o,H3 c=some o->c≠a->c≠b->H' c=some o)->H' nl9=some (.lst [.int z,.int z8])->Rt A H' x d kd sl nl9:=λH' S' k' n'=>by
     have sL:zar (a::[b]) H3 H':=λc o n e=>by
      simp only [mem_cons,not_mem_nil,or_false,not_or] at n
      exact k' c o e n.1 n.2
     have hX:∀x∈[b],∃kvs,H3 x=some (.dK kvs):=λx hx=>by
      simp only [mem_cons,not_mem_nil,or_false] at hx
      subst hx;exact ⟨_,eb3⟩
     obtain ⟨kvp,ep,_⟩:=R3.plain.ex
     exact ⟨fx,b1,k1,sd,a,[b,k,d,kd],as,t,u,ks,ku,ws,ts,z,z8,S',R3.plain.butL sL hX (by simp only [mem_cons,not_mem_nil,or_false];exact R3.ap.1) (R3.pot.ned ep),R3.kept.butL sL R3.pot hX (λx hx=>by simp only [mem_cons,not_mem_nil,or_false] at hx;subst hx;simp) (by simp only [mem_cons,not_mem_nil,or_false];exact R3.ap.2.2.1),by simp,R3.ap.2.2.2.2,R3.al,R3.kal,R3.bud.mono (by omega),R3.few,k' _ _ hsl sla (λz=>by rw [z,eb3] at hsl;cases hsl),Paired.mapP pts λr tt e=>k' _ _ e (tupa P3 e) (λz=>by have e:H3 r=_:=e;rw [z,eb3] at e;cases e),pmw.symm,so,n'⟩
    have nl11:=M.but _ _ na9 n9.at_
    have k11:∀c o,H3 c=some o->c≠a->H11 c=some o:=λc o e ca=>M.but _ _ ca (b49 _ _ ca (b4 _ _ ca e))
    refine ⟨x,d,kd,sl,nl9,rfl,Rt_of H11 M.st (λc o e ca _=>k11 c o e ca) nl11,λH12 s12=>?_⟩
    have hl12:=s12 _ _ (M.but _ _ la hl9)
    have F12:=(F9.pot M.but P9).same s12
    have bud:=R2.bud.mono (C:=16) hB
    have eb12:=s12 _ _ (M.but _ _ (P9.ned eb9) eb9)
    have hfs:∀x∈fs,(∃xs,H9 x=some (.lst xs))\/∃xs,H9 x=some (.tup xs):=λx hx=>by
     obtain ⟨j,hj,ej⟩:=getElem_of_mem hx
     have hj':j<ws.length:=by omega
     rcases zaD pws9 (List.getElem?_eq_getElem hj) (List.getElem?_eq_getElem hj') with h|h
     ·rw [ej] at h;exact .inr ⟨_,h⟩
     ·rw [ej] at h;exact .inl ⟨_,h⟩
    try simp_all only []
    refine ⟨l,p,b,k,fs,t,ks,rfl,hl12,lfs,λx hx=>(hfs x hx).imp (λ⟨xs,e⟩=>⟨xs,s12 _ _ (M.but _ _ (fsa x hx) e)⟩) (λ⟨xs,e⟩=>⟨xs,s12 _ _ (M.but _ _ (fsa x hx) e)⟩),by omega,F12,le_trans (bud.row _) (by decide),le_trans bud.few (by decide),λt' H13 s13 F13=>?_⟩
    have S13:=(M.st.same s12).spoil (c:=b) (λy o ny ho e=>s13 y o (λz=>ho _ (by rw [z,hl12] at e;exact (Option.some.inj e).symm)) ny (.inr ho) e) eb12 (zD eb9 M.f1).symm (zD eb9 M.f2).symm (zD eb9 M.f3).symm ((M.av b p F9).same M.st.files s12)
    have k13:∀c o,H3 c=some o->c≠a->c≠b->H13 c=some o:=λc o e ca cb=>by
     refine s13 c o (zD e nl) cb ?_ (s12 _ _ (k11 c o e ca))
     by_cases hc:c∈fs
     ·rcases nw c hc with ⟨xs,ex⟩|ex
      ·rw [b4 _ _ ca e] at ex
       cases ex
       exact .inr λ_ z=>HO.noConfusion z
      ·rw [e] at ex;cases ex
     ·exact .inl hc
    have b48:But a H4 H8:=((b5.trans (.of n6.same)).trans b7).trans b8
    have n9c:∀c o,H4 c=some o->c≠a->nl9≠c:=λc o e ca z=>by
     have:=n9.no
     rw [z,b48 _ _ ca e] at this;cases this
    have nl13:H13 nl9=some (.lst [.int z,.int z8]):=s13 _ _ (n9c l _ hl la) (λz=>by have:=n9.at_;rw [z,eb9] at this;cases this) (.inl λhx=>by
     obtain ⟨j,hj,ej⟩:=getElem_of_mem hx
     have hj':j<ws.length:=by omega
     rcases zaD pws (List.getElem?_eq_getElem hj) (List.getElem?_eq_getElem hj') with h|h
     ·rw [ej] at h;exact n9c _ _ h na9 rfl
     ·rw [ej] at h;exact n9c _ _ h na9 rfl) (s12 _ _ nl11)
    obtain ⟨dx13,e13⟩:=S13.ob
    simp_all only [e13,zhE]
    refine ⟨x,fx,b1,k1,sd,t,ks,ws,z,z8,rfl,S13,λq' b' k' H14 s14 nq nb' nk' F14 _=>?_⟩
    obtain ⟨dx14,e14⟩:=F14.ob
    simp_all only [e14,zee]
    refine ⟨q',b',k',t,ks,"mark",0,4,rfl,F14,by decide,by omega,le_trans (bud.row _) (by decide),le_trans bud.few (by decide),λH15 b15 F15=>?_⟩
    obtain ⟨dx15,e15⟩:=F15.ob
    simp_all only [e15,zeX]
    refine ⟨q',b',k',_,ks,"here",rfl,F15,R2.nh,by omega,λH16 b16 F16 _=>?_⟩
    have s1316:zf H13 H16:=λc o e=>b16 _ _ (zD e nk') (b15 _ _ (zD e nb') (s14 _ _ e))
    try simp_all only []
    have rt16:=(Rt_of H13 S13 k13 nl13).same s1316
    refine ⟨x,d,kd,sl,nl9,rfl,rt16,λH17 s17=>?_⟩
    have s017:zf H0 H17:=λc o e=>by
     have ca:=zD e a0
     have e1:=s1 _ _ e
     exact s17 _ _ (s1316 _ _ (k13 c o (b3 _ _ ca (b2 _ _ ca e1)) ca (zD e1 nb)))
    have fin:∀H18,zf H17 H18->∀e H19,New H18 e (.tup [.ref x,.ref d,.ref kd,.ref sl,.ref nl9]) H19->Eld A H19 (.ref e)/\zf H H19:=λH18 s18 e H19 n19=>⟨.inr ⟨e,x,d,kd,sl,nl9,rfl,n19.at_,rt16.same ((s17.trans s18).trans n19.same)⟩,s0.trans (s017.trans (s18.trans n19.same))⟩
    rcases El.same s017 with rfl|⟨e,x',d',kd',sl',nl',rfl,he,r'⟩
    ·try simp_all only []
     refine ⟨by decide,λe H8 n8=>?_⟩
     obtain ⟨f1,f2⟩:=fin H17 (zf.refl _) e H8 n8
     exact ⟨⟨_,_,_,_,_,_,_,_,_,_,_,rfl,f1⟩,f2⟩
    ·simp_all only [he,zmN,zpr,zvc,zup,zuE]
     refine ⟨x',d',kd',sl',nl',rfl,r',λH18 s18=>?_⟩
     try simp_all only []
     refine ⟨by decide,λe H8 n8=>?_⟩
     obtain ⟨f1,f2⟩:=fin H18 s18 e H8 n8
     exact ⟨⟨_,_,_,_,_,_,_,_,_,_,_,rfl,f1⟩,f2⟩
  ·rintro σ H1 ⟨⟨v,t2,t3,t4,t5,t6,t7,t8,t9,t10,t11,rfl,El⟩,s1⟩
   simp_all only []
   exact ⟨rfl,λH'=>q H'⟩
end
theorem all_mk{l:OpenLaw}{w:World}{K:Frag}{h:Heap}{mg:Str->Option Value}{fa:Addr}{x8 xi xa x6 xb x3 x5 f_0 f_1 f_2 f_3 f_4 f_5 f_6 f_7 f_8 f_9 xI xJ xK xL xM xN xO xP xQ xR xS xT xU xV yL yM yN yO yP yQ yR yS yT yU yV yW yX yY yZ u0 u1 u2 u3 u4 u5 u6:Addr}{x35 x36 x37 x38 x39 x3a x3b x3c x3d x3e x3f x3g x3h x3i x3j x3k x3l x3m x3n x3o ua ub uc ud ue uf ug uh ui uj uk ul um uo uq ur ut uu uv uw ux uy uz uA uC uD uE uF uG uH uI uJ uL uM uO uP uQ uT uU uV uW uX uY uZ v0 v3 v5 v6 v8 v9 va vb vc vd ve vf vg vh vi vj vk vm vn vo vp vq vt vw vy vz vA xZ:Option Addr}{x3p x3q x3r x3s x3t x3u x3v x3w x3x x3y vB vC vD vE vF vG vH vI vJ vK vL vM vN vO vP vQ vR vS vT vU vV vW vX vY vZ q5 qc qd qe qg qh qi qj ql qm qo:Array (Option Value)}{x3z x3A x3B x3C qp x3D x3E x3F x3G x3H qq x3I x3J x3K x3L x3M qr x3N x3O x3P x3Q x3R qt x3S x3T x3U x3V x3W qu x3X x3Y x3Z x40 x41 qw x42 x43 x44 x45 x46 qx x47 x48 x49 x4a x4b qy x4c x4d x4e x4f x4g qz x4h x4i x4j x4k x4l qA x4m qB qC qD qE y3 qF qG qH qI qJ y4 qK qL qM qN qO y7 qP qQ qR qS qT y8 qU qV qW qX qY y9 qZ x00 x01 x02 x03 ya x04 x05 x06 x07 x08 yb x09 x0a x0b x0c x0d yc x0e x0f x0g x0h x0i yd x0j x0k x0l x0m x0n ye x0o x0p x0q x0r x0s yf x0t x0u x0v x0w x0x yg x0y x0z x0A x0B x0C yh x0D x0E x0F x0G x0H yi x0I x0J x0K x0L x0M yj x0N x0O x0P x0Q x0R yk x0S x0T x0U x0V x0W yl x0X x0Y x0Z x10 x11 ym x12 x13 x14 x15 x16 yn x17 x18 x19 x1a x1b yo x1c x1d x1e x1f x1g yp x1h x1i x1j x1k x1l yq x1m x1n x1o x1p x1q yr x1r x1s x1t x1u x1v yt x1w x1x x1y x1z x1A yu x1B x1C x1D x1E x1F yw x1G x1H x1I x1J x1K yx x1L x1M x1N x1O x1P yy x1Q x1R x1S x1T x1U yA x1V x1W x1X x1Y x1Z yB x20 x21 x22 x23 x24 yC x25 x26 x27 x28 x29 yD x2a x2b x2c x2d x2e yE x2f x2g x2h x2i x2j yF x2k x2l x2m x2n x2o yG x2p x2q yH yI yJ xt yK:Value}(X:K.In h)(G:h.Ns mainGlobals mg)(hfa:mg "law"=some (.ref fa))
  (xc:nsIn K mainGlobals "CleanError"=some (some (.ref x8)))
  (xu:nsIn K mainGlobals "NoFile"=some (some (.ref xi)))
  (xn:nsIn K mainGlobals "NoPlace"=some (some (.ref xa)))
  (x9:nsIn K mainGlobals "HeldAlready"=some (some (.ref x6)))
  (xo:nsIn K mainGlobals "NotHeld"=some (some (.ref xb)))
  (xl:nsIn K mainGlobals "Files"=some (some (.ref x3)))
  (xm:nsIn K mainGlobals "State"=some (some (.ref x5)))
  (a_0:nsIn K mainGlobals "is_whole"=some (some (.ref f_0)))
  (l_0:K.lookup f_0=some ⟨x3z,x35,.func (fnOf "is_whole" "is_whole" (zw zdf) (zu zdf) (zg zdf) .none x3A x3B x3C x36 qp x3D),x3p⟩)
  (d_0:codeIn K qp "is_whole"=true)
  (k_0:keepIn K (.ref f_0)=true)
  (a_1:nsIn K mainGlobals "is_within"=some (some (.ref f_1)))
  (l_1:K.lookup f_1=some ⟨x3E,x37,.func (fnOf "is_within" "is_within" (zw zcD) (zu zcD) (zg zcD) .none x3F x3G x3H x38 qq x3I),x3q⟩)
  (d_1:codeIn K qq "is_within"=true)
  (k_1:keepIn K (.ref f_1)=true)
  (a_2:findIn K (.ref x3) "__init__"=some (some (.ref f_2)))
  (i_2:isFn K (.ref f_2)=true)
  (l_2:K.lookup f_2=some ⟨x3J,x39,.func (fnOf "__init__" "Files.__init__" (zw zc1) (zu zc1) (zg zc1) .none x3K x3L x3M x3a qr x3N),x3r⟩)
  (d_2:codeIn K qr "Files.__init__"=true)
  (k_2:keepIn K (.ref f_2)=true)
  (a_3:findIn K (.ref x3) "names"=some (some (.ref f_3)))
  (i_3:isFn K (.ref f_3)=true)
  (l_3:K.lookup f_3=some ⟨x3O,x3b,.func (fnOf "names" "Files.names" (zw zdc) (zu zdc) (zg zdc) .none x3P x3Q x3R x3c qt x3S),x3s⟩)
  (d_3:codeIn K qt "Files.names"=true)
  (k_3:keepIn K (.ref f_3)=true)
  (a_4:findIn K (.ref x3) "many"=some (some (.ref f_4)))
  (i_4:isFn K (.ref f_4)=true)
  (l_4:K.lookup f_4=some ⟨x3T,x3d,.func (fnOf "many" "Files.many" (zw zcP) (zu zcP) (zg zcP) .none x3U x3V x3W x3e qu x3X),x3t⟩)
  (d_4:codeIn K qu "Files.many"=true)
  (k_4:keepIn K (.ref f_4)=true)
  (a_5:findIn K (.ref x3) "birth"=some (some (.ref f_5)))
  (i_5:isFn K (.ref f_5)=true)
  (l_5:K.lookup f_5=some ⟨x3Y,x3f,.func (fnOf "birth" "Files.birth" (zw zcK) (zu zcK) (zg zcK) .none x3Z x40 x41 x3g qw x42),x3u⟩)
  (d_5:codeIn K qw "Files.birth"=true)
  (k_5:keepIn K (.ref f_5)=true)
  (a_6:findIn K (.ref x3) "put"=some (some (.ref f_6)))
  (i_6:isFn K (.ref f_6)=true)
  (l_6:K.lookup f_6=some ⟨x43,x3h,.func (fnOf "put" "Files.put" (zw zck) (zu zck) (zg zck) .none x44 x45 x46 x3i qx x47),x3v⟩)
  (d_6:codeIn K qx "Files.put"=true)
  (k_6:keepIn K (.ref f_6)=true)
  (a_7:findIn K (.ref x3) "cut"=some (some (.ref f_7)))
  (i_7:isFn K (.ref f_7)=true)
  (l_7:K.lookup f_7=some ⟨x48,x3j,.func (fnOf "cut" "Files.cut" (zw zcB) (zu zcB) (zg zcB) .none x49 x4a x4b x3k qy x4c),x3w⟩)
  (d_7:codeIn K qy "Files.cut"=true)
  (k_7:keepIn K (.ref f_7)=true)
  (a_8:findIn K (.ref x3) "hold"=some (some (.ref f_8)))
  (i_8:isFn K (.ref f_8)=true)
  (l_8:K.lookup f_8=some ⟨x4d,x3l,.func (fnOf "hold" "Files.hold" (zw zcy) (zu zcy) (zg zcy) .none x4e x4f x4g x3m qz x4h),x3x⟩)
  (d_8:codeIn K qz "Files.hold"=true)
  (k_8:keepIn K (.ref f_8)=true)
  (a_9:findIn K (.ref x3) "free"=some (some (.ref f_9)))
  (i_9:isFn K (.ref f_9)=true)
  (l_9:K.lookup f_9=some ⟨x4i,x3n,.func (fnOf "free" "Files.free" (zw zco) (zu zco) (zg zco) .none x4j x4k x4l x3o qA x4m),x3y⟩)
  (d_9:codeIn K qA "Files.free"=true)
  (k_9:keepIn K (.ref f_9)=true)
  (x4n:findIn K (.ref x3) "held"=some (some (.ref xI)))
  (x4o:isFn K (.ref xI)=true)
  (x4p:K.lookup xI=some ⟨qB,ua,.func (fnOf "held" "Files.held" (zw zc5) (zu zc5) (zg zc5) .none qC qD qE ub y3 qF),vB⟩)
  (x4q:codeIn K y3 "Files.held"=true)
  (x2r:keepIn K (.ref xI)=true)
  (x4r:findIn K (.ref x3) "of_held"=some (some (.ref xJ)))
  (x4s:isFn K (.ref xJ)=true)
  (x4t:K.lookup xJ=some ⟨qG,uc,.func (fnOf "of_held" "Files.of_held" (zw zcx) (zu zcx) (zg zcx) .none qH qI qJ ud y4 qK),vC⟩)
  (x4u:codeIn K y4 "Files.of_held"=true)
  (x2s:keepIn K (.ref xJ)=true)
  (x4v:findIn K (.ref x3) "living"=some (some (.ref xK)))
  (x4w:isFn K (.ref xK)=true)
  (x4x:K.lookup xK=some ⟨qL,ue,.func (fnOf "living" "Files.living" (zw zbI) (zu zbI) (zg zbI) .none qM qN qO uf y7 qP),vD⟩)
  (x4y:codeIn K y7 "Files.living"=true)
  (x2t:keepIn K (.ref xK)=true)
  (x4z:findIn K (.ref x3) "copied"=some (some (.ref xL)))
  (x4A:isFn K (.ref xL)=true)
  (x4B:K.lookup xL=some ⟨qQ,ug,.func (fnOf "copied" "Files.copied" (zw zcs) (zu zcs) (zg zcs) .none qR qS qT uh y8 qU),vE⟩)
  (x4C:codeIn K y8 "Files.copied"=true)
  (x2u:keepIn K (.ref xL)=true)
  (x4D:findIn K (.ref x3) "bare"=some (some (.ref xM)))
  (x4E:isFn K (.ref xM)=true)
  (x4F:K.lookup xM=some ⟨qV,ui,.func (fnOf "bare" "Files.bare" (zw zcR) (zu zcR) (zg zcR) .none qW qX qY uj y9 qZ),vF⟩)
  (x4G:codeIn K y9 "Files.bare"=true)
  (x2v:keepIn K (.ref xM)=true)
  (x4H:findIn K (.ref x3) "keep"=some (some (.ref xN)))
  (x4I:isFn K (.ref xN)=true)
  (x4J:K.lookup xN=some ⟨x00,uk,.func (fnOf "keep" "Files.keep" (zw zdl) (zu zdl) (zg zdl) .none x01 x02 x03 ul ya x04),vG⟩)
  (x4K:codeIn K ya "Files.keep"=true)
  (x2w:keepIn K (.ref xN)=true)
  (x4L:findIn K (.ref x3) "refuse_if_none"=some (some (.ref xO)))
  (x4M:isFn K (.ref xO)=true)
  (x4N:K.lookup xO=some ⟨x05,um,.func (fnOf "refuse_if_none" "Files.refuse_if_none" (zw zcm) (zu zcm) (zg zcm) .none x06 x07 x08 uo yb x09),vH⟩)
  (x4O:codeIn K yb "Files.refuse_if_none"=true)
  (x2x:keepIn K (.ref xO)=true)
  (x4P:findIn K (.ref x3) "refuse_if_not_held"=some (some (.ref xP)))
  (x4Q:isFn K (.ref xP)=true)
  (x4R:K.lookup xP=some ⟨x0a,uq,.func (fnOf "refuse_if_not_held" "Files.refuse_if_not_held" (zw zcn) (zu zcn) (zg zcn) .none x0b x0c x0d ur yc x0e),vI⟩)
  (x4S:codeIn K yc "Files.refuse_if_not_held"=true)
  (x2y:keepIn K (.ref xP)=true)
  (x4T:findIn K (.ref x5) "__init__"=some (some (.ref xQ)))
  (x4U:isFn K (.ref xQ)=true)
  (x4V:K.lookup xQ=some ⟨x0f,ut,.func (fnOf "__init__" "State.__init__" (zw zb5) (zu zb5) (zg zb5) .none x0g x0h x0i uu yd x0j),vJ⟩)
  (x4W:codeIn K yd "State.__init__"=true)
  (x4X:keepIn K (.ref xQ)=true)
  (x4Y:findIn K (.ref x5) "files"=some (some (.ref xR)))
  (x4Z:isFn K (.ref xR)=true)
  (x50:K.lookup xR=some ⟨x0k,uv,.func (fnOf "files" "State.files" (zw zdo) (zu zdo) (zg zdo) .none x0l x0m x0n uw ye x0o),vK⟩)
  (x51:codeIn K ye "State.files"=true)
  (x2z:keepIn K (.ref xR)=true)
  (x52:findIn K (.ref x5) "spots"=some (some (.ref xS)))
  (x53:isFn K (.ref xS)=true)
  (x54:K.lookup xS=some ⟨x0p,ux,.func (fnOf "spots" "State.spots" (zw zb6) (zu zb6) (zg zb6) .none x0q x0r x0s uy yf x0t),vL⟩)
  (x55:codeIn K yf "State.spots"=true)
  (x2A:keepIn K (.ref xS)=true)
  (x56:findIn K (.ref x5) "spot"=some (some (.ref xT)))
  (x57:isFn K (.ref xT)=true)
  (x58:K.lookup xT=some ⟨x0u,uz,.func (fnOf "spot" "State.spot" (zw zc4) (zu zc4) (zg zc4) .none x0v x0w x0x uA yg x0y),vM⟩)
  (x59:codeIn K yg "State.spot"=true)
  (x2B:keepIn K (.ref xT)=true)
  (x5a:findIn K (.ref x5) "next_number"=some (some (.ref xU)))
  (x5b:isFn K (.ref xU)=true)
  (x5c:K.lookup xU=some ⟨x0z,uC,.func (fnOf "next_number" "State.next_number" (zw zdp) (zu zdp) (zg zdp) .none x0A x0B x0C uD yh x0D),vN⟩)
  (x5d:codeIn K yh "State.next_number"=true)
  (x2C:keepIn K (.ref xU)=true)
  (x5e:findIn K (.ref x5) "mark_number"=some (some (.ref xV)))
  (x5f:isFn K (.ref xV)=true)
  (x5g:K.lookup xV=some ⟨x0E,uE,.func (fnOf "mark_number" "State.mark_number" (zw zcS) (zu zcS) (zg zcS) .none x0F x0G x0H uF yi x0I),vO⟩)
  (x5h:codeIn K yi "State.mark_number"=true)
  (x2D:keepIn K (.ref xV)=true)
  (x5i:nsIn K mainGlobals "first_state"=some (some (.ref yL)))
  (x5j:K.lookup yL=some ⟨x0J,uG,.func (fnOf "first_state" "first_state" (zw zcE) (zu zcE) (zg zcE) .none x0K x0L x0M uH yj x0N),vP⟩)
  (x5k:codeIn K yj "first_state"=true)
  (x2E:keepIn K (.ref yL)=true)
  (x5l:nsIn K mainGlobals "_law_cell"=some (some (.ref yM)))
  (x5m:K.lookup yM=some ⟨x0O,uI,.func (fnOf "_law_cell" "_law_cell" (zw zdq) (zu zdq) (zg zdq) .none x0P x0Q x0R uJ yk x0S),vQ⟩)
  (x5n:codeIn K yk "_law_cell"=true)
  (x2F:keepIn K (.ref yM)=true)
  (x5o:nsIn K mainGlobals "_law_pot"=some (some (.ref yN)))
  (x5p:K.lookup yN=some ⟨x0T,uL,.func (fnOf "_law_pot" "_law_pot" (zw zcq) (zu zcq) (zg zcq) .none x0U x0V x0W uM yl x0X),vR⟩)
  (x5q:codeIn K yl "_law_pot"=true)
  (x2G:keepIn K (.ref yN)=true)
  (x5r:nsIn K mainGlobals "_law_draw"=some (some (.ref yO)))
  (x5s:K.lookup yO=some ⟨x0Y,uO,.func (fnOf "_law_draw" "_law_draw" (zw zc7) (zu zc7) (zg zc7) .none x0Z x10 x11 uP ym x12),vS⟩)
  (x5t:codeIn K ym "_law_draw"=true)
  (x2H:keepIn K (.ref yO)=true)
  (x5u:nsIn K mainGlobals "_law_drawn"=some (some (.ref yP)))
  (x5v:K.lookup yP=some ⟨x13,uQ,.func (fnOf "_law_drawn" "_law_drawn" (zw zcQ) (zu zcQ) (zg zcQ) .none x14 x15 x16 uT yn x17),vT⟩)
  (x5w:codeIn K yn "_law_drawn"=true)
  (x2I:keepIn K (.ref yP)=true)
  (x5x:nsIn K mainGlobals "_law_birth"=some (some (.ref yQ)))
  (x5y:K.lookup yQ=some ⟨x18,uU,.func (fnOf "_law_birth" "_law_birth" (zw zcY) (zu zcY) (zg zcY) .none x19 x1a x1b uV yo x1c),vU⟩)
  (x5z:codeIn K yo "_law_birth"=true)
  (x2J:keepIn K (.ref yQ)=true)
  (x5A:nsIn K mainGlobals "_law_put"=some (some (.ref yR)))
  (x5B:K.lookup yR=some ⟨x1d,uW,.func (fnOf "_law_put" "_law_put" (zw zcz) (zu zcz) (zg zcz) .none x1e x1f x1g uX yp x1h),vV⟩)
  (x5C:codeIn K yp "_law_put"=true)
  (x2K:keepIn K (.ref yR)=true)
  (x5D:nsIn K mainGlobals "_law_cut"=some (some (.ref yS)))
  (x5E:K.lookup yS=some ⟨x1i,uY,.func (fnOf "_law_cut" "_law_cut" (zw zdi) (zu zdi) (zg zdi) .none x1j x1k x1l uZ yq x1m),vW⟩)
  (x5F:codeIn K yq "_law_cut"=true)
  (x2L:keepIn K (.ref yS)=true)
  (x5G:nsIn K mainGlobals "_law_deed"=some (some (.ref yT)))
  (x5H:K.lookup yT=some ⟨x1n,v0,.func (fnOf "_law_deed" "_law_deed" (zw zdk) (zu zdk) (zg zdk) .none x1o x1p x1q v3 yr x1r),vX⟩)
  (x5I:codeIn K yr "_law_deed"=true)
  (x2M:keepIn K (.ref yT)=true)
  (x5J:nsIn K mainGlobals "_law_files"=some (some (.ref yU)))
  (x5K:K.lookup yU=some ⟨x1s,v5,.func (fnOf "_law_files" "_law_files" (zw zc8) (zu zc8) (zg zc8) .none x1t x1u x1v v6 yt x1w),vY⟩)
  (x5L:codeIn K yt "_law_files"=true)
  (x2N:keepIn K (.ref yU)=true)
  (x5M:nsIn K mainGlobals "_law_living"=some (some (.ref yV)))
  (x5N:K.lookup yV=some ⟨x1x,v8,.func (fnOf "_law_living" "_law_living" (zw zcH) (zu zcH) (zg zcH) .none x1y x1z x1A v9 yu x1B),vZ⟩)
  (x5O:codeIn K yu "_law_living"=true)
  (x2O:keepIn K (.ref yV)=true)
  (x5P:nsIn K mainGlobals "_law_spots"=some (some (.ref yW)))
  (x5Q:K.lookup yW=some ⟨x1C,va,.func (fnOf "_law_spots" "_law_spots" (zw zde) (zu zde) (zg zde) .none x1D x1E x1F vb yw x1G),q5⟩)
  (x5R:codeIn K yw "_law_spots"=true)
  (x2P:keepIn K (.ref yW)=true)
  (x5S:nsIn K mainGlobals "_law_above"=some (some (.ref yX)))
  (x5T:K.lookup yX=some ⟨x1H,vc,.func (fnOf "_law_above" "_law_above" (zw zbT) (zu zbT) (zg zbT) .none x1I x1J x1K vd yx x1L),qc⟩)
  (x5U:codeIn K yx "_law_above"=true)
  (x2Q:keepIn K (.ref yX)=true)
  (x5V:nsIn K mainGlobals "_law_same_files"=some (some (.ref yY)))
  (x5W:K.lookup yY=some ⟨x1M,ve,.func (fnOf "_law_same_files" "_law_same_files" (zw zbU) (zu zbU) (zg zbU) .none x1N x1O x1P vf yy x1Q),qd⟩)
  (x5X:codeIn K yy "_law_same_files"=true)
  (x2R:keepIn K (.ref yY)=true)
  (x5Y:nsIn K mainGlobals "_law_same"=some (some (.ref yZ)))
  (x5Z:K.lookup yZ=some ⟨x1R,vg,.func (fnOf "_law_same" "_law_same" (zw zdu) (zu zdu) (zg zdu) .none x1S x1T x1U vh yA x1V),qe⟩)
  (x60:codeIn K yA "_law_same"=true)
  (x2S:keepIn K (.ref yZ)=true)
  (x61:nsIn K mainGlobals "_law_is_whole"=some (some (.ref u0)))
  (x62:K.lookup u0=some ⟨x1W,vi,.func (fnOf "_law_is_whole" "_law_is_whole" (zw zcU) (zu zcU) (zg zcU) .none x1X x1Y x1Z vj yB x20),qg⟩)
  (x63:codeIn K yB "_law_is_whole"=true)
  (x2T:keepIn K (.ref u0)=true)
  (x64:nsIn K mainGlobals "_law_handed"=some (some (.ref u1)))
  (x65:K.lookup u1=some ⟨x21,vk,.func (fnOf "_law_handed" "_law_handed" (zw zdt) (zu zdt) (zg zdt) .none x22 x23 x24 vm yC x25),qh⟩)
  (x66:codeIn K yC "_law_handed"=true)
  (x2U:keepIn K (.ref u1)=true)
  (x67:nsIn K mainGlobals "_law_spots_right"=some (some (.ref u2)))
  (x68:K.lookup u2=some ⟨x26,vn,.func (fnOf "_law_spots_right" "_law_spots_right" (zw zbm) (zu zbm) (zg zbm) .none x27 x28 x29 vo yD x2a),qi⟩)
  (x69:codeIn K yD "_law_spots_right"=true)
  (x2V:keepIn K (.ref u2)=true)
  (x6a:nsIn K mainGlobals "_law_right"=some (some (.ref u3)))
  (x6b:K.lookup u3=some ⟨x2b,vp,.func (fnOf "_law_right" "_law_right" (zw zb1) (zu zb1) (zg zb1) .none x2c x2d x2e vq yE x2f),qj⟩)
  (x6c:codeIn K yE "_law_right"=true)
  (x2W:keepIn K (.ref u3)=true)
  (x6d:nsIn K mainGlobals "_law_first_right"=some (some (.ref u4)))
  (x6e:K.lookup u4=some ⟨x2g,vt,.func (fnOf "_law_first_right" "_law_first_right" (zw zcC) (zu zcC) (zg zcC) .none x2h x2i x2j vw yF x2k),ql⟩)
  (x6f:codeIn K yF "_law_first_right"=true)
  (x2X:keepIn K (.ref u4)=true)
  (x6g:nsIn K mainGlobals "_law_spoil_handed"=some (some (.ref u5)))
  (x6h:K.lookup u5=some ⟨x2l,vy,.func (fnOf "_law_spoil_handed" "_law_spoil_handed" (zw zcN) (zu zcN) (zg zcN) .none x2m x2n x2o vz yG x2p),qm⟩)
  (x6i:codeIn K yG "_law_spoil_handed"=true)
  (x2Y:keepIn K (.ref u5)=true)
  (x6j:nsIn K mainGlobals "law"=some (some (.ref u6)))
  (x6k:K.lookup u6=some ⟨x2q,vA,.func (fnOf "law" "law" (zw zbv) (zu zbv) (zg zbv) .none yH yI yJ xZ xt yK),qo⟩)
  (x6l:codeIn K xt "law"=true)
  (x6m:keepIn K (.ref u6)=true)
  (x2Z:nsIn K mainGlobals "abs"=some none)
  (x30:nsIn K mainGlobals "all"=some none)
  (u7:nsIn K mainGlobals "bool"=some none)
  (u8:nsIn K mainGlobals "dict"=some none)
  (xv:nsIn K mainGlobals "divmod"=some none)
  (x31:nsIn K mainGlobals "int"=some none)
  (xf:nsIn K mainGlobals "isinstance"=some none)
  (x32:nsIn K mainGlobals "len"=some none)
  (u9:nsIn K mainGlobals "list"=some none)
  (x33:nsIn K mainGlobals "max"=some none)
  (x34:nsIn K mainGlobals "min"=some none)
  (xW:nsIn K mainGlobals "range"=some none)
  (xw:nsIn K mainGlobals "sorted"=some none)
  (xX:nsIn K mainGlobals "tuple"=some none)
  (xx:plainGet K x3 Str.empty=true)
  (xp:hasDictIn K x3=true)
  (xz:plainOver K x3=true)
  (xA:findIn K (.ref x3) "__setattr__"=some (some (.builtin "object.__setattr__")))
  (xB:makesIn K x3=true)
  (xC:keepIn K (.ref x3)=true)
  (xq:findIn K (.ref x3) "births"=some none)
  (xY:findIn K (.ref x3) "kept"=some none)
  (xD:plainGet K x5 Str.empty=true)
  (xr:hasDictIn K x5=true)
  (xE:plainOver K x5=true)
  (xF:findIn K (.ref x5) "__setattr__"=some (some (.builtin "object.__setattr__")))
  (xG:makesIn K x5=true)
  (xH:keepIn K (.ref x5)=true)
  (xg:findIn K (.ref x5) "next_mark"=some none)
  (xj:findIn K (.ref x5) "next_row"=some none)
  (xh:findIn K (.ref x5) "own_files"=some none)
  (xk:findIn K (.ref x5) "spot_of"=some none) :
  ∃fd:FuncData,(∀(s:Shared)(v:Value),BindsTo s fd ⟨[v],[]⟩ [("_law_script",v)])/\∀base:Heap,K.In base->base.Ns mainGlobals mg->zr l.prog w K mg base CX0 true 11 fa fd ["_law_script"] (ze3 K):=by
 have e:=hfa.symm.trans (mg_of X G x6j)
 cases e
 have T:Txt K mg ⟨x8,xi,xa,x6,xb,x3,x5⟩:=⟨mg_none_of X G x2Z,mg_none_of X G x30,mg_none_of X G u7,mg_none_of X G u8,mg_none_of X G xv,mg_none_of X G x31,mg_none_of X G xf,mg_none_of X G x32,mg_none_of X G u9,mg_none_of X G x33,mg_none_of X G x34,mg_none_of X G xW,mg_none_of X G xw,mg_none_of X G xX,mg_of X G xc,mg_of X G xu,mg_of X G xn,mg_of X G x9,mg_of X G xo,mg_of X G xl,mg_of X G xm,⟨xx,xp,xz,xA⟩,xq,xY,⟨xD,xr,xE,xF⟩,xg,xj,xh,xk⟩
 have Fis_whole:=zE (st:=zdf) l_0 d_0 k_0
 have bis_whole:=Fis_whole.binds (ps:=["value"]) fun|_,_,_,_,_,_,[_],_=>rfl
 have Fis_within:=zE (st:=zcD) l_1 d_1 k_1
 have bis_within:=Fis_within.binds (ps:=["value","least","most"]) fun|_,_,_,_,_,_,[_,_,_],_=>rfl
 have FFiles___init__:=zE (st:=zc1) l_2 d_2 k_2
 have bFiles___init__:=FFiles___init__.binds (ps:=["self"]) fun|_,_,_,_,_,_,[_],_=>rfl
 have FFiles_names:=zE (st:=zdc) l_3 d_3 k_3
 have bFiles_names:=FFiles_names.binds (ps:=["self"]) fun|_,_,_,_,_,_,[_],_=>rfl
 have FFiles_many:=zE (st:=zcP) l_4 d_4 k_4
 have bFiles_many:=FFiles_many.binds (ps:=["self","file"]) fun|_,_,_,_,_,_,[_,_],_=>rfl
 have FFiles_birth:=zE (st:=zcK) l_5 d_5 k_5
 have bFiles_birth:=FFiles_birth.binds (ps:=["self","file","place"]) fun|_,_,_,_,_,_,[_,_,_],_=>rfl
 have FFiles_put:=zE (st:=zck) l_6 d_6 k_6
 have bFiles_put:=FFiles_put.binds (ps:=["self","file","place","birth"]) fun|_,_,_,_,_,_,[_,_,_,_],_=>rfl
 have FFiles_cut:=zE (st:=zcB) l_7 d_7 k_7
 have bFiles_cut:=FFiles_cut.binds (ps:=["self","file","many"]) fun|_,_,_,_,_,_,[_,_,_],_=>rfl
 have FFiles_hold:=zE (st:=zcy) l_8 d_8 k_8
 have bFiles_hold:=FFiles_hold.binds (ps:=["self","name"]) fun|_,_,_,_,_,_,[_,_],_=>rfl
 have FFiles_free:=zE (st:=zco) l_9 d_9 k_9
 have bFiles_free:=FFiles_free.binds (ps:=["self","name"]) fun|_,_,_,_,_,_,[_,_],_=>rfl
 have FFiles_held:=zE (st:=zc5) x4p x4q x2r
 have bFiles_held:=FFiles_held.binds (ps:=["self"]) fun|_,_,_,_,_,_,[_],_=>rfl
 have FFiles_of_held:=zE (st:=zcx) x4t x4u x2s
 have bFiles_of_held:=FFiles_of_held.binds (ps:=["self","name"]) fun|_,_,_,_,_,_,[_,_],_=>rfl
 have FFiles_living:=zE (st:=zbI) x4x x4y x2t
 have bFiles_living:=FFiles_living.binds (ps:=["self"]) fun|_,_,_,_,_,_,[_],_=>rfl
 have FFiles_copied:=zE (st:=zcs) x4B x4C x2u
 have bFiles_copied:=FFiles_copied.binds (ps:=["self"]) fun|_,_,_,_,_,_,[_],_=>rfl
 have FFiles_bare:=zE (st:=zcR) x4F x4G x2v
 have bFiles_bare:=FFiles_bare.binds (ps:=["self"]) fun|_,_,_,_,_,_,[_],_=>rfl
 have FFiles_keep:=zE (st:=zdl) x4J x4K x2w
 have bFiles_keep:=FFiles_keep.binds (ps:=["self","name","files"]) fun|_,_,_,_,_,_,[_,_,_],_=>rfl
 have FFiles_refuse_if_none:=zE (st:=zcm) x4N x4O x2x
 have bFiles_refuse_if_none:=FFiles_refuse_if_none.binds (ps:=["self","file"]) fun|_,_,_,_,_,_,[_,_],_=>rfl
 have FFiles_refuse_if_not_held:=zE (st:=zcn) x4R x4S x2y
 have bFiles_refuse_if_not_held:=FFiles_refuse_if_not_held.binds (ps:=["self","name"]) fun|_,_,_,_,_,_,[_,_],_=>rfl
 have FState___init__:=zE (st:=zb5) x4V x4W x4X
 have bState___init__:=FState___init__.binds (ps:=["self","files","spots","next_number","mark_number"]) fun|_,_,_,_,_,_,[_,_,_,_,_],_=>rfl
 have FState_files:=zE (st:=zdo) x50 x51 x2z
 have bState_files:=FState_files.binds (ps:=["self"]) fun|_,_,_,_,_,_,[_],_=>rfl
 have FState_spots:=zE (st:=zb6) x54 x55 x2A
 have bState_spots:=FState_spots.binds (ps:=["self"]) fun|_,_,_,_,_,_,[_],_=>rfl
 have FState_spot:=zE (st:=zc4) x58 x59 x2B
 have bState_spot:=FState_spot.binds (ps:=["self","birth"]) fun|_,_,_,_,_,_,[_,_],_=>rfl
 have FState_next_number:=zE (st:=zdp) x5c x5d x2C
 have bState_next_number:=FState_next_number.binds (ps:=["self"]) fun|_,_,_,_,_,_,[_],_=>rfl
 have FState_mark_number:=zE (st:=zcS) x5g x5h x2D
 have bState_mark_number:=FState_mark_number.binds (ps:=["self"]) fun|_,_,_,_,_,_,[_],_=>rfl
 have Ffirst_state:=zE (st:=zcE) x5j x5k x2E
 have bfirst_state:=Ffirst_state.binds (ps:=[]) fun|_,_,_,_,_,_,[],_=>rfl
 have F_law_cell:=zE (st:=zdq) x5m x5n x2F
 have b_law_cell:=F_law_cell.binds (ps:=["_law_script","_law_k"]) fun|_,_,_,_,_,_,[_,_],_=>rfl
 have F_law_pot:=zE (st:=zcq) x5p x5q x2G
 have b_law_pot:=F_law_pot.binds (ps:=["_law_script","_law_k"]) fun|_,_,_,_,_,_,[_,_],_=>rfl
 have F_law_draw:=zE (st:=zc7) x5s x5t x2H
 have b_law_draw:=F_law_draw.binds (ps:=["_law_pot_here","_law_many"]) fun|_,_,_,_,_,_,[_,_],_=>rfl
 have F_law_drawn:=zE (st:=zcQ) x5v x5w x2I
 have b_law_drawn:=F_law_drawn.binds (ps:=["_law_pot_here","_law_some"]) fun|_,_,_,_,_,_,[_,_],_=>rfl
 have F_law_birth:=zE (st:=zcY) x5y x5z x2J
 have b_law_birth:=F_law_birth.binds (ps:=["_law_pot_here"]) fun|_,_,_,_,_,_,[_],_=>rfl
 have F_law_put:=zE (st:=zcz) x5B x5C x2K
 have b_law_put:=F_law_put.binds (ps:=["_law_pot_here","_law_files_here","_law_plain"]) fun|_,_,_,_,_,_,[_,_,_],_=>rfl
 have F_law_cut:=zE (st:=zdi) x5E x5F x2L
 have b_law_cut:=F_law_cut.binds (ps:=["_law_pot_here","_law_files_here","_law_plain"]) fun|_,_,_,_,_,_,[_,_,_],_=>rfl
 have F_law_deed:=zE (st:=zdk) x5H x5I x2M
 have b_law_deed:=F_law_deed.binds (ps:=["_law_pot_here","_law_files_here","_law_plain","_law_kept"]) fun|_,_,_,_,_,_,[_,_,_,_],_=>rfl
 have F_law_files:=zE (st:=zc8) x5K x5L x2N
 have b_law_files:=F_law_files.binds (ps:=["_law_pot_here"]) fun|_,_,_,_,_,_,[_],_=>rfl
 have F_law_living:=zE (st:=zcH) x5N x5O x2O
 have b_law_living:=F_law_living.binds (ps:=["_law_plain","_law_kept"]) fun|_,_,_,_,_,_,[_,_],_=>rfl
 have F_law_spots:=zE (st:=zde) x5Q x5R x2P
 have b_law_spots:=F_law_spots.binds (ps:=["_law_pot_here","_law_plain","_law_kept"]) fun|_,_,_,_,_,_,[_,_,_],_=>rfl
 have F_law_above:=zE (st:=zbT) x5T x5U x2Q
 have b_law_above:=F_law_above.binds (ps:=["_law_pot_here","_law_spots_here"]) fun|_,_,_,_,_,_,[_,_],_=>rfl
 have F_law_same_files:=zE (st:=zbU) x5W x5X x2R
 have b_law_same_files:=F_law_same_files.binds (ps:=["_law_files_here","_law_plain"]) fun|_,_,_,_,_,_,[_,_],_=>rfl
 have F_law_same:=zE (st:=zdu) x5Z x60 x2S
 have b_law_same:=F_law_same.binds (ps:=["_law_files_here","_law_plain","_law_kept"]) fun|_,_,_,_,_,_,[_,_,_],_=>rfl
 have F_law_is_whole:=zE (st:=zcU) x62 x63 x2T
 have b_law_is_whole:=F_law_is_whole.binds (ps:=["_law_thing"]) fun|_,_,_,_,_,_,[_],_=>rfl
 have F_law_handed:=zE (st:=zdt) x65 x66 x2U
 have b_law_handed:=F_law_handed.binds (ps:=["_law_pot_here","_law_spots_here"]) fun|_,_,_,_,_,_,[_,_],_=>rfl
 have F_law_spots_right:=zE (st:=zbm) x68 x69 x2V
 have b_law_spots_right:=F_law_spots_right.binds (ps:=["_law_state","_law_spots_here"]) fun|_,_,_,_,_,_,[_,_],_=>rfl
 have F_law_right:=zE (st:=zb1) x6b x6c x2W
 have b_law_right:=F_law_right.binds (ps:=["_law_state","_law_plain","_law_kept","_law_spots_here","_law_numbers"]) fun|_,_,_,_,_,_,[_,_,_,_,_],_=>rfl
 have F_law_first_right:=zE (st:=zcC) x6e x6f x2X
 have b_law_first_right:=F_law_first_right.binds (ps:=[]) fun|_,_,_,_,_,_,[],_=>rfl
 have F_law_spoil_handed:=zE (st:=zcN) x6h x6i x2Y
 have b_law_spoil_handed:=F_law_spoil_handed.binds (ps:=["_law_handed_here","_law_files_here"]) fun|_,_,_,_,_,_,[_,_],_=>rfl
 have Flaw:=zE (st:=zbv) x6k x6l x6m
 have blaw:=Flaw.binds (ps:=["_law_script"]) fun|_,_,_,_,_,_,[_],_=>rfl
 refine ⟨fnOf "law" "law" (zw zbv) (zu zbv) (zg zbv) .none yH yI yJ xZ xt yK,λs v=>.of_eq rfl,λbase _ _=>?_⟩
 have Gh:GF l.prog w K mg base true 1 "is_whole" ["value"] (zen):=⟨_,_,zsV Fis_whole T,mg_of X G a_0,k_0,bis_whole⟩
 have Gd:GF l.prog w K mg base true 2 "is_within" ["value","least","most"] (zdK):=⟨_,_,zqN Fis_within T Gh,mg_of X G a_1,k_1,bis_within⟩
 have Gm:GF l.prog w K mg base true 1 "_law_cell" ["_law_script","_law_k"] (zfA K):=⟨_,_,zlH F_law_cell T,mg_of X G x5l,x2F,b_law_cell⟩
 have Gv:GF l.prog w K mg base true 2 "_law_pot" ["_law_script","_law_k"] (zgf K):=⟨_,_,znK F_law_pot T Gm,mg_of X G x5o,x2G,b_law_pot⟩
 have Gb:GF l.prog w K mg base true 1 "_law_draw" ["_law_pot_here","_law_many"] (za6):=⟨_,_,zrO F_law_draw T,mg_of X G x5r,x2H,b_law_draw⟩
 have Gc:GF l.prog w K mg base true 2 "_law_drawn" ["_law_pot_here","_law_some"] (zdE):=⟨_,_,zuC F_law_drawn T Gb,mg_of X G x5u,x2I,b_law_drawn⟩
 have Ge:GC l.prog w K mg base true 1 "Files" x3 ["self"] (zd2 _):=⟨_,_,zrb FFiles___init__ T,mg_of X G xl,⟨xB,a_2,i_2,xC⟩,bFiles___init__⟩
 have M_Files_names:GM l.prog w K mg base true 1 x3 "names" ["self"] (zhB _):=⟨_,_,zl1 FFiles_names T,⟨a_3,i_3,k_3⟩,bFiles_names⟩
 have M_Files_many:GM l.prog w K mg base true 1 x3 "many" ["self","file"] (zcl _):=⟨_,_,zs4 FFiles_many T,⟨a_4,i_4,k_4⟩,bFiles_many⟩
 have M_Files_refuse_if_none:GM l.prog w K mg base true 1 x3 "refuse_if_none" ["self","file"] (zew _):=⟨_,_,zq4 FFiles_refuse_if_none T,⟨x4L,x4M,x2x⟩,bFiles_refuse_if_none⟩
 have M_Files_refuse_if_not_held:GM l.prog w K mg base true 1 x3 "refuse_if_not_held" ["self","name"] (zeE _):=⟨_,_,zrY FFiles_refuse_if_not_held T,⟨x4P,x4Q,x2y⟩,bFiles_refuse_if_not_held⟩
 have M_Files_birth:GM l.prog w K mg base true 4 x3 "birth" ["self","file","place"] (zfs _):=⟨_,_,zk6 FFiles_birth T M_Files_refuse_if_none M_Files_many Gd,⟨a_5,i_5,k_5⟩,bFiles_birth⟩
 have M_Files_put:GM l.prog w K mg base true 4 x3 "put" ["self","file","place","birth"] (zcr _):=⟨_,_,zm8 FFiles_put T M_Files_many Gd,⟨a_6,i_6,k_6⟩,bFiles_put⟩
 have M_Files_cut:GM l.prog w K mg base true 4 x3 "cut" ["self","file","many"] (zem _):=⟨_,_,ztV FFiles_cut T M_Files_refuse_if_none M_Files_many Gd,⟨a_7,i_7,k_7⟩,bFiles_cut⟩
 have M_Files_held:GM l.prog w K mg base true 1 x3 "held" ["self"] (zgM _):=⟨_,_,zlo FFiles_held T,⟨x4n,x4o,x2r⟩,bFiles_held⟩
 have M_Files_bare:GM l.prog w K mg base true 3 x3 "bare" ["self"] (zdV _):=⟨_,_,zpg FFiles_bare T Ge,⟨x4D,x4E,x2v⟩,bFiles_bare⟩
 have M_Files_keep:GM l.prog w K mg base true 4 x3 "keep" ["self","name","files"] (zgs _):=⟨_,_,zuk FFiles_keep T M_Files_bare,⟨x4H,x4I,x2w⟩,bFiles_keep⟩
 have M_Files_hold:GM l.prog w K mg base true 5 x3 "hold" ["self","name"] (zdG _):=⟨_,_,zlI FFiles_hold T M_Files_keep,⟨a_8,i_8,k_8⟩,bFiles_hold⟩
 have M_Files_free:GM l.prog w K mg base true 3 x3 "free" ["self","name"] (zgv _):=⟨_,_,znr FFiles_free T M_Files_refuse_if_not_held,⟨a_9,i_9,k_9⟩,bFiles_free⟩
 have M_Files_of_held:GM l.prog w K mg base true 4 x3 "of_held" ["self","name"] (zg3 _):=⟨_,_,zpy FFiles_of_held T M_Files_refuse_if_not_held M_Files_bare,⟨x4r,x4s,x2s⟩,bFiles_of_held⟩
 have M_Files_living:GM l.prog w K mg base true 1 x3 "living" ["self"] (zgi _):=⟨_,_,zqs FFiles_living T,⟨x4v,x4w,x2t⟩,bFiles_living⟩
 have M_Files_copied:GM l.prog w K mg base true 4 x3 "copied" ["self"] (zfh _):=⟨_,_,zl5 FFiles_copied T M_Files_bare,⟨x4z,x4A,x2u⟩,bFiles_copied⟩
 have Gg:GC l.prog w K mg base true 5 "State" x5 ["self","files","spots","next_number","mark_number"] (zdX _):=⟨_,_,zq9 FState___init__ T M_Files_copied,mg_of X G xm,⟨xG,x4T,x4U,xH⟩,bState___init__⟩
 have M_State_files:GM l.prog w K mg base true 5 x5 "files" ["self"] (zdT _):=⟨_,_,zkO FState_files T M_Files_copied,⟨x4Y,x4Z,x2z⟩,bState_files⟩
 have M_State_next_number:GM l.prog w K mg base true 1 x5 "next_number" ["self"] (zf9 _):=⟨_,_,ztu FState_next_number T,⟨x5a,x5b,x2C⟩,bState_next_number⟩
 have M_State_mark_number:GM l.prog w K mg base true 1 x5 "mark_number" ["self"] (zfP _):=⟨_,_,ztQ FState_mark_number T,⟨x5e,x5f,x2D⟩,bState_mark_number⟩
 have M_State_spots:GM l.prog w K mg base true 1 x5 "spots" ["self"] (zfO _):=⟨_,_,zuX FState_spots T,⟨x52,x53,x2A⟩,bState_spots⟩
 have M_State_spot:GM l.prog w K mg base true 2 x5 "spot" ["self","birth"] (zgN _):=⟨_,_,zmn FState_spot T Gh,⟨x56,x57,x2B⟩,bState_spot⟩
 have Gk:GF l.prog w K mg base true 7 "first_state" [] (zfU _):=⟨_,_,zsb Ffirst_state T Ge Gg,mg_of X G x5i,x2E,bfirst_state⟩
 have Gn:GF l.prog w K mg base true 2 "_law_birth" ["_law_pot_here"] (zf3):=⟨_,_,zrX F_law_birth T Gb,mg_of X G x5x,x2J,b_law_birth⟩
 have Gp:GF l.prog w K mg base true 5 "_law_put" ["_law_pot_here","_law_files_here","_law_plain"] (zef _):=⟨_,_,zs9 F_law_put T Gc Gb Gn M_Files_put,mg_of X G x5A,x2K,b_law_put⟩
 have Go:GF l.prog w K mg base true 5 "_law_cut" ["_law_pot_here","_law_files_here","_law_plain"] (zfj _):=⟨_,_,zlJ F_law_cut T Gc Gb M_Files_cut,mg_of X G x5D,x2L,b_law_cut⟩
 have Gq:GF l.prog w K mg base true 7 "_law_deed" ["_law_pot_here","_law_files_here","_law_plain","_law_kept"] (zf5 _):=⟨_,_,zsU F_law_deed T Gb Gc M_Files_free M_Files_hold Go Gp,mg_of X G x5G,x2M,b_law_deed⟩
 have Gw:GF l.prog w K mg base true 9 "_law_files" ["_law_pot_here"] (zhw _):=⟨_,_,zqw F_law_files T Ge Gb Gq,mg_of X G x5J,x2N,b_law_files⟩
 have Gi:GF l.prog w K mg base true 1 "_law_living" ["_law_plain","_law_kept"] (zfn):=⟨_,_,zvb F_law_living T,mg_of X G x5M,x2O,b_law_living⟩
 have Gr:GF l.prog w K mg base true 1 "_law_is_whole" ["_law_thing"] (zhl):=⟨_,_,zuF F_law_is_whole T,mg_of X G x61,x2T,b_law_is_whole⟩
 have Gx:GF l.prog w K mg base true 2 "_law_spots" ["_law_pot_here","_law_plain","_law_kept"] (zhx):=⟨_,_,zoe F_law_spots T Gi Gb,mg_of X G x5P,x2P,b_law_spots⟩
 have Gz:GF l.prog w K mg base true 2 "_law_above" ["_law_pot_here","_law_spots_here"] (zhh):=⟨_,_,znP F_law_above T Gb,mg_of X G x5S,x2Q,b_law_above⟩
 have Gy:GF l.prog w K mg base true 2 "_law_handed" ["_law_pot_here","_law_spots_here"] (zgI):=⟨_,_,zk8 F_law_handed T Gb,mg_of X G x64,x2U,b_law_handed⟩
 have Gj:GF l.prog w K mg base true 5 "_law_same_files" ["_law_files_here","_law_plain"] (zgC _):=⟨_,_,zm3 F_law_same_files T M_Files_names M_Files_many M_Files_birth,mg_of X G x5V,x2R,b_law_same_files⟩
 have Gs:GF l.prog w K mg base true 6 "_law_same" ["_law_files_here","_law_plain","_law_kept"] (zge _):=⟨_,_,zkH F_law_same T Gj M_Files_held M_Files_of_held M_Files_living Gi,mg_of X G x5Y,x2S,b_law_same⟩
 have GA:GF l.prog w K mg base true 5 "_law_spoil_handed" ["_law_handed_here","_law_files_here"] (zfS _):=⟨_,_,zsB F_law_spoil_handed T M_Files_put M_Files_cut,mg_of X G x6g,x2Y,b_law_spoil_handed⟩
 have Gu:GF l.prog w K mg base true 4 "_law_spots_right" ["_law_state","_law_spots_here"] (zfZ _):=⟨_,_,zum F_law_spots_right T M_State_spots M_State_spot,mg_of X G x67,x2V,b_law_spots_right⟩
 have Gf:GF l.prog w K mg base true 7 "_law_right" ["_law_state","_law_plain","_law_kept","_law_spots_here","_law_numbers"] (zfp _):=⟨_,_,zu6 F_law_right T M_State_next_number M_State_mark_number Gr M_State_files Gs Gu,mg_of X G x6a,x2W,b_law_right⟩
 have GB:GF l.prog w K mg base true 8 "_law_first_right" [] (zfJ):=⟨_,_,zm2 F_law_first_right T Gk M_State_files M_Files_put M_Files_hold Gf,mg_of X G x6d,x2X,b_law_first_right⟩
 exact zmU Flaw T Gv Gw Gx Gy Gz Gb Gg Gf GA M_State_files M_Files_put M_Files_hold GB
theorem walk{l:OpenLaw}{q:Program}{loose:List Str}{XP:(Str->Option Value)->Heap->Prop}{YP:World->Heap->Prop}{d:DefRec}{K:Params->Frag}(hn:l.most=some 63)(hdf:d.params.defaults=[])
  (hY:∀(w:World)(h:Heap),YP w h->(K w.params).In h)
  (F:∀(w:World)(mg:Str->Option Value)(fa:Addr)(h:Heap),(K w.params).In h->h.Ns mainGlobals mg->mg d.name=some (.ref fa) ->
   ∃fd:FuncData,(∀(s:Shared)(u:Value),BindsTo s fd ⟨[u],[]⟩ [("_law_script",u)])/\∀base:Heap,(K w.params).In base->base.Ns mainGlobals mg->zr l.prog w (K w.params) mg base CX0 true 11 fa fd ["_law_script"] (ze3 (K w.params))) :
  WalkO q loose XP YP l.row.toRowW d [] (λf vs=>PySem.call f vs) :=
 L2.walk_of (n:=63) (k:=11) (x:="_law_script") (CX:=λ_=>CX0) (sp:=λw=>ze3 (K w.params)) hn (by decide) hdf ⟨λ_=>rfl,by decide,by decide,rfl⟩ hY F (λ_ _ a ns hl _ hS=>⟨a,ns,rfl,hS,hl,λ_=>rfl⟩) λ_ _ _ _ _ z=>z
end K31
namespace PySem.W.Fast
def tw7725867912935515297:=0
def tw2341570451709271584:=0
def tw11971068779121565516:=0
def tw6757445395004382613:=0
def tw7134469660795162469:=0
def tw15010730609199823128:=0
def tw11441033748059000110:=0
def tw4698131900371364330:=0
def tw7207981136904751373:=0
def tw6906111100858246378:=0
def tw10103145503592779593:=0
def tw9333302677929359435:=0
def tw18419493440698886550:=0
def tw9479007688439008084:=0
def tw17275754093901800960:=0
def tw8768433741740045575:=0
def tw10765412949396436641:=0
def tw5967473877164710020:=0
def tw1385169538685150278:=0
def tw15727239923060836255:=0
def tw820448192359742118:=0
def tw6612932122425029421:=0
def tw9776091812222423960:=0
def tw9300351946703399870:=0
def tw15114961996121959587:=0
def tw5974457331475952142:=0
def tw13032378782600435123:=0
def tw16744972797406376413:=0
def tw14418934034613606292:=0
def tw2361771061526116452:=0
def tw3974895006993334627:=0
def tw507110530826368046:=0
def tw11183346281140278976:=0
def tw6334464392220040746:=0
def tw4745498449958575851:=0
def tw10233174959183302873:=0
def tw11093424276762151349:=0
def tw9294067697538957344:=0
def tw6089491257872879280:=0
def tw16278164455029681693:=0
def tw11179706873372130438:=0
def tw5399130222824212888:=0
def tw2571262115523581820:=0
def tw8133239607928520648:=0
def tw1767282829655189252:=0
def tw6627672874595798650:=0
def tw16427000010306997030:=0
def tw3909199184163863145:=0
def tw2111418401087437124:=0
def tw4642700893263535491:=0
def tw2645050415126053811:=0
def tw5377010105662139516:=0
def tw10471186062768045739:=0
def tw9919672217519658786:=0
def tw7186974350002925772:=0
def tw13689741986014979226:=0
def tw8240162979212683940:=0
def tw4308975479520263663:=0
def tw9153900127781413335:=0
def tw14732398847273085677:=0
def tw16731093625999565423:=0
def tw12260951799453914890:=0
def tw17378276312347923283:=0
def tw10684715788482753350:=0
def tw626367038628995426:=0
def tw17893706964997679287:=0
def tw819164840229549496:=0
def tw9044066139185008593:=0
def tw484316821190259958:=0
def tw10347377260307362121:=0
def tw17831261492098005213:=0
def tw7062579359798421911:=0
def tw1886021678111185366:=0
def tw1987607448624539574:=0
def tw12195087569665315703:=0
def tw4269530475370621490:=0
def tw4211327607038792688:=0
def tw15903427128467046851:=0
def tw10455012806458959939:=0
def tw15442062964160806554:=0
def tw1331384773882918853:=0
def tw11709190431890180824:=0
def tw556087450579370511:=0
def tw8435679707871815764:=0
def tw14807622314832508849:=0
def tw13869678965357091396:=0
def tw13190053504208074375:=0
def tw17155590242252125693:=0
def tw14308031182505848995:=0
def tw10020297414899267788:=0
def tw17542682115478714890:=0
def tw7978367962845391131:=0
def tw926966540645059070:=0
def tw14017115023722739819:=0
def tw12283221012816782010:=0
def tw3092897462095383831:=0
def tw12648949530542508059:=0
def tw5807787533755903147:=0
def tw7481842643716034895:=0
def tw5886382973243921981:=0
def tw7070546844530554775:=0
def tw9637440941037960475:=0
def tw5424630979828137553:=0
def tw459962157019697374:=0
def tw2968234123226087842:=0
def tw12353927184734010409:=0
def tw12240826880530306005:=0
def tw14751315806457295400:=0
def tw1584979220661680595:=0
def tw6651630698463018912:=0
def tw15383887198337843681:=0
def tw12141600811827683268:=0
def tw15536514478669154146:=0
def tw4191338448282038524:=0
def tw10070903247532510281:=0
def tw10690080029477416142:=0
def tw7796882722661496314:=0
def tw11383103944694885871:=0
def tw14023559757378197410:=0
def tw9507092511599995177:=0
def tw13829810569998702271:=0
def tw8869938259997409232:=0
def tw9956481222525564319:=0
def tw4972132156526386080:=0
def tw15743959722088916882:=0
def tw4538776340836906225:=0
def tw11296805025395648291:=0
def tw17185072068512494504:=0
def tw16236421149295701316:=0
def tw1178631059402163102:=0
def tw15037902839288985629:=0
def tw3581636321179113599:=0
def tw10217812191461250571:=0
end PySem.W.Fast
open PySem PySem.W PyProof.Rows
set_option maxRecDepth 100000 in
set_option maxHeartbeats 0 in
theorem PySem.Challenge.cw_cleanrows_k31_states_told_holds : PySem.Challenge.rw_cleanrows_k31_states_told.Holds := by
 w_on;o_law;k_head;(case hw=>w_witness2)
 k_fill
 refine K31.walk (l:=PySem.Challenge.rw_cleanrows_k31_states_told) rfl rfl (λw h Y=>PySem.W.kIn_of Y) ?F
 case F =>
  intro w mg fa h KX G hmg
  refine' K31.all_mk KX G hmg ..
  all_goals first|k_is|kit_is|k_exc|rfl|decide +kernel|skip
